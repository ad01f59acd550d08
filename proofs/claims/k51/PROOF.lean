import PyProof.Rows.All
import Wide.All
import OpenK.AllK
import Wide.FinOn
import Lean
import PyProof.EqAt
import PyProof.EqKinds
import PyProof.TupleCall
import KE.KNest
import KE.KNestM
import KE.KIntText
import KE.KDictOf
import KE.KPairComp
import KE.KLam
import KE.KSortTup
import PySem.Challenge.RW_backline_k51_the_base_only_rises
set_option Elab.async false
set_option linter.all false
set_option maxRecDepth 100000
section
open PySem PySem.W PySem.Spec PyProof.Rows PySem.Calls
noncomputable abbrev Cq:=@wpAny_bind
noncomputable abbrev Cr:=@List.getElem?_eq_some_iff
noncomputable abbrev Cs:=@List.getElem?_eq_getElem
noncomputable abbrev Cu:=@wpAny_pure
noncomputable abbrev Cv:=@List.mem_singleton
noncomputable abbrev Cw:=@List.getElem?_map
noncomputable abbrev Cy:=@List.length_map
noncomputable abbrev Cz:=@List.mem_cons
noncomputable abbrev CA:=@List.length_append
noncomputable abbrev CB:=@List.mem_of_getElem?
noncomputable abbrev CC:=@List.not_mem_nil
noncomputable abbrev CD:=@if_neg
noncomputable abbrev CF:=@List.mem_append
noncomputable abbrev CG:=@if_pos
noncomputable abbrev CH:=@List.mem_cons_of_mem
noncomputable abbrev CI:=@Nat.ne_of_lt
noncomputable abbrev CJ:=@List.mem_cons_self
noncomputable abbrev CK:=@Array.length_toList
noncomputable abbrev CL:=@List.mem_map
noncomputable abbrev CM:=@Nat.lt_of_lt_of_le
noncomputable abbrev CN:=@List.mem_map_of_mem
noncomputable abbrev CP:=@List.map_append
noncomputable abbrev CQ:=@Bool.false_ne_true
noncomputable abbrev CS:=@Bool.false_eq_true
noncomputable abbrev CU:=@List.getElem?_set_self
noncomputable abbrev CV:=@Nat.le_trans
noncomputable abbrev CW:=@List.mem_append_right
noncomputable abbrev CY:=@List.length_singleton
noncomputable abbrev CZ:=@decide_eq_true
noncomputable abbrev C0:=@List.size_toArray
noncomputable abbrev C1:=@List.getElem_of_mem
noncomputable abbrev C2:=@or_false
noncomputable abbrev C3:=@List.getElem?_append_right
noncomputable abbrev C4:=@Array.getElem?_eq_getElem
noncomputable abbrev C5:=@Int.eq_ofNat_of_zero_le
noncomputable abbrev C6:=@List.getElem?_set_ne
noncomputable abbrev C7:=@Array.getElem?_toList
noncomputable abbrev C8:=@wpAny_holding
noncomputable abbrev C9:=@decide_eq_true_iff
noncomputable abbrev Dc:=@List.map_cons
noncomputable abbrev Dd:=@List.mem_append_left
noncomputable abbrev Df:=@Option.map_eq_some_iff
noncomputable abbrev Dg:=@List.length_take
noncomputable abbrev Dh:=@List.length_cons
noncomputable abbrev Dj:=@List.mem_filter
noncomputable abbrev Dk:=@Int.le_refl
noncomputable abbrev Dl:=@PySem.F.plainAttrs_list
noncomputable abbrev Dm:=@Int.toNat_natCast
noncomputable abbrev Dn:=@List.map_congr_left
noncomputable abbrev Dp:=@wpAny_mono
noncomputable abbrev Dq:=@Nat.zero_le
noncomputable abbrev Dr:=@of_decide_eq_true
noncomputable abbrev Ds:=@List.map_map
noncomputable abbrev Dt:=@Bool.and_eq_true
noncomputable abbrev Du:=@codeAny_builtin
noncomputable abbrev Dv:=@List.getElem?_append_left
noncomputable abbrev Dw:=@PySem.mem_of_lookup
noncomputable abbrev Dx:=@PySem.F.type_list_append
noncomputable abbrev Dy:=@PySem.F.slot_list_append
noncomputable abbrev Dz:=@wpS_bind
noncomputable abbrev DA:=@Nat.ne_of_gt
noncomputable abbrev DB:=@decide_eq_false
noncomputable abbrev DC:=@Nat.lt_succ_of_lt
noncomputable abbrev DD:=@List.nodup_append
noncomputable abbrev DE:=@Int.emod_lt_of_pos
noncomputable abbrev DF:=@Array.getElem?_eq_none
noncomputable abbrev DG:=@plainId_quiet
noncomputable abbrev DH:=@wpAny_of_eq
noncomputable abbrev DI:=@List.length_filter_le
noncomputable abbrev DJ:=@if_false
noncomputable abbrev DK:=@Nat.lt_of_le_of_lt
noncomputable abbrev DL:=@List.pairwise_append
noncomputable abbrev DM:=@List.nodup_cons
noncomputable abbrev DN:=@wpAny_call_entry
noncomputable abbrev DP:=@wpAny_truthy_bool
noncomputable abbrev DQ:=@wpAny_dictEntries
noncomputable abbrev DR:=@List.pairwise_map
noncomputable abbrev DS:=@Nat.lt_irrefl
noncomputable abbrev DT:=@PySem.W.kia_one
noncomputable abbrev DU:=@Int.emod_nonneg
noncomputable abbrev DV:=@Bool.eq_iff_iff
noncomputable abbrev DW:=@wpS_pure
noncomputable abbrev DX:=@wpAny_newObj_type
noncomputable abbrev DY:=@beq_iff_eq
noncomputable abbrev DZ:=@List.getElem?_inj
noncomputable abbrev D0:=@Array.getElem?_eq_some_iff
noncomputable abbrev D1:=@wpAny_updateSeq
noncomputable abbrev D2:=@List.append_nil
noncomputable abbrev D3:=@List.getElem?_eq_none
noncomputable abbrev D4:=@Nat.lt_succ_self
noncomputable abbrev D5:=@List.lookup_cons
noncomputable abbrev D6:=@List.all_eq_true
noncomputable abbrev D7:=@List.take_add_one
noncomputable abbrev D8:=@List.filter_cons_of_pos
noncomputable abbrev D9:=@List.filter_cons_of_neg
noncomputable abbrev Ea:=@beq_eq_false_iff_ne
noncomputable abbrev Eb:=@Nat.sub_self
noncomputable abbrev Ec:=@wpAny_isInstance
noncomputable abbrev Ed:=@wpAny_askSetting
noncomputable abbrev Ee:=@wpAny_tryCatch
noncomputable abbrev Ef:=@wpAny_Call_Name_kw
noncomputable abbrev Eg:=@List.mem_range
noncomputable abbrev Eh:=@List.getD_eq_getElem?_getD
noncomputable abbrev Ei:=@List.filter_append
noncomputable abbrev Ej:=@List.length_replicate
noncomputable abbrev Ek:=@size_of_entries
noncomputable abbrev El:=@sizeLine_eq
noncomputable abbrev Em:=@decide_eq_true_eq
noncomputable abbrev En:=@codeAny_call_builtin
noncomputable abbrev Eo:=@List.getElem?_of_mem
noncomputable abbrev Ep:=@List.ext_getElem?
noncomputable abbrev Er:=@wpAny_eqBool_int
noncomputable abbrev Et:=@decide_eq_decide
noncomputable abbrev Eu:=@wpAny_typeNameOfWhole_keyiter
noncomputable abbrev Ex:=@Nat.le_succ
noncomputable abbrev Ey:=@List.eq_nil_of_length_eq_zero
noncomputable abbrev Ez:=@wpAny_rule
noncomputable abbrev EA:=@tupleKind_room_in1
noncomputable abbrev EB:=@Nat.le_of_lt
noncomputable abbrev EC:=@List.ne_nil_of_mem
noncomputable abbrev ED:=@List.map_singleton
noncomputable abbrev EF:=@wpAny_passesOwn
noncomputable abbrev EG:=@List.length_set
noncomputable abbrev EH:=@Bool.not_true
noncomputable abbrev EI:=@wpAny_pyIter_list
noncomputable abbrev EJ:=@PyProof.Rows.callWith_type1
noncomputable abbrev EK:=@List.length_range
noncomputable abbrev EL:=@List.append_assoc
noncomputable abbrev EM:=@Array.getD_eq_getD_getElem?
noncomputable abbrev EN:=@wpAny_letGo
noncomputable abbrev EO:=@codeAny_mono
noncomputable abbrev ER:=@Nat.zero_add
noncomputable abbrev ES:=@List.take_length
noncomputable abbrev ET:=@List.pairwise_iff_getElem
noncomputable abbrev EU:=@not_or
noncomputable abbrev EV:=@PySem.W.plainGet_of
noncomputable abbrev EW:=@PyProof.Rows.F.plain_set_update_loop
noncomputable abbrev EX:=@wpAny_typeNameOf_keyiter
noncomputable abbrev EY:=@wpAny_attempt
noncomputable abbrev EZ:=@if_true
noncomputable abbrev E2:=@List.forIn_cons
noncomputable abbrev E3:=@List.find?_cons
noncomputable abbrev E4:=@wpAny_call
noncomputable abbrev E5:=@wpAny_callSpecial?_slot
noncomputable abbrev E6:=@List.getElem?_replicate
noncomputable abbrev E7:=@wpS_forRange
noncomputable abbrev E8:=@wpAny_seqItems
noncomputable abbrev E9:=@Array.size_map
noncomputable abbrev Fb:=@wpAny_notOrdered_dict
noncomputable abbrev Fc:=@List.mem_iff_getElem?
noncomputable abbrev Fd:=@wpAny_execs_cons
noncomputable abbrev Fe:=@List.filter_cons
noncomputable abbrev Ff:=@List.Nodup.length_le_of_subset
noncomputable abbrev Fg:=@wpAny_standAt
noncomputable abbrev Fh:=@List.any_cons
noncomputable abbrev Fi:=@wpAny_specialOf
noncomputable abbrev Fj:=@Option.map_some
noncomputable abbrev Fl:=@List.of_mem_zip
noncomputable abbrev Fm:=@List.filterMap_cons
noncomputable abbrev Fn:=@List.all_map
noncomputable abbrev Fo:=@Int.le_trans
noncomputable abbrev Fp:=@wpAny_setField
noncomputable abbrev Fq:=@PySem.W.callWith_K
noncomputable abbrev Fs:=@List.pairwise_cons
noncomputable abbrev Ft:=@List.length_mapIdx
noncomputable abbrev Fu:=@Bool.not_false
noncomputable abbrev Fv:=@Array.perm_iff_toList_perm
noncomputable abbrev Fw:=@wpAny_pyIter_enum
noncomputable abbrev Fx:=@decide_true
noncomputable abbrev Fy:=@Nat.lt_trichotomy
noncomputable abbrev Fz:=@wpAny_newList
noncomputable abbrev FA:=@List.getElem?_take_of_lt
noncomputable abbrev FC:=@List.all_cons
noncomputable abbrev FD:=@decide_eq_false_iff_not
noncomputable abbrev FE:=@beq_self_eq_true
noncomputable abbrev FF:=@PySem.F.plainAttrs_dict
noncomputable abbrev FG:=@Nat.succ_le_succ
noncomputable abbrev FH:=@Nat.le_add_right
noncomputable abbrev FI:=@List.pairwise_singleton
noncomputable abbrev FJ:=@List.mem_flatMap
noncomputable abbrev FK:=@wpAny_typeOf
noncomputable abbrev FL:=@PySem.W.cellsFrom_some
noncomputable abbrev FN:=@List.take_of_length_le
noncomputable abbrev FO:=@List.filter_eq_nil_iff
noncomputable abbrev FP:=@wpAny_execs_nil
noncomputable abbrev FQ:=@wpAny_dictEpoch
noncomputable abbrev FR:=@List.filter_nil
noncomputable abbrev FT:=@Bool.or_eq_true
noncomputable abbrev FU:=@codeAny_call_function
noncomputable abbrev FV:=@PySem.W.methodCall_KW
noncomputable abbrev FW:=@PySem.F.slot_dict_get
noncomputable abbrev FX:=@wpS_mono
noncomputable abbrev FY:=@wpAny_pyIter_keyiter
noncomputable abbrev FZ:=@wpAny_fieldsOf
noncomputable abbrev F0:=@List.replicate_succ'
noncomputable abbrev F1:=@List.nodup_nil
noncomputable abbrev F2:=@List.getElem?_range
noncomputable abbrev F3:=@Nat.mod_lt
noncomputable abbrev F4:=@List.zip_cons_cons
noncomputable abbrev F5:=@List.mem_filterMap
noncomputable abbrev F6:=@List.lookup_append
noncomputable abbrev F7:=@wpAny_storeSet_of
noncomputable abbrev F8:=@wpAny_pyIter_slot
noncomputable abbrev F9:=@sub_set_self
noncomputable abbrev Ga:=@pairsOf_size
noncomputable abbrev Gb:=@decide_false
noncomputable abbrev Gd:=@call_meetsIn
noncomputable abbrev Ge:=@bne_self_eq_false
noncomputable abbrev Gf:=@Nat.lt_trans
noncomputable abbrev Gg:=@List.take_sublist
noncomputable abbrev Gh:=@List.map_nil
noncomputable abbrev Gi:=@Int.lt_trans
noncomputable abbrev Gj:=@Array.toList_push
noncomputable abbrev Gk:=@PySem.W.makes_of
noncomputable abbrev Gm:=@List.getElem_mem
noncomputable abbrev Gn:=@List.append_inj'
noncomputable abbrev Gp:=@Array.toList_map
noncomputable abbrev Gq:=@codeAny_of_tree
noncomputable abbrev Gr:=@List.sum_append
noncomputable abbrev Gs:=@List.range_succ
noncomputable abbrev Gu:=@wpS_get
noncomputable abbrev Gv:=@wpS_modify
noncomputable abbrev Gw:=@wpAny_runValue
noncomputable abbrev Gx:=@isSubtype_type
noncomputable abbrev Gy:=@entryFor_alias
noncomputable abbrev Gz:=@listUpdate_at
end
namespace L2
open PySem PySem.Spec PyProof.Rows
noncomputable abbrev Key:=Sum Int Str
noncomputable def jY:Key->Value->Bool
 | .inl k,v=>Value.isInt k v
 | .inr x,v=>Value.isStrOf x v
noncomputable def BL (w:World):Key->Int
 | .inl k=>hashInt k
 | .inr x=>hashStr w x
theorem bQ:∀ {k:Key}{v:Value},jY k v=true->(∃ i t,k=Sum.inl i/\v=Value.int i t)\/(∃ x t,k=Sum.inr x/\v=Value.str x t)
 | .inl i,v,h=>by
  obtain⟨t,e⟩:=Value.isInt_shape (k:=i) (v:=v) h
  exact .inl ⟨i,t,rfl,e⟩
 | .inr x,v,h=>by
  obtain⟨t,e⟩:=Value.isStrOf_shape (x:=x) (v:=v) h
  exact .inr ⟨x,t,rfl,e⟩
theorem qa (i) (t):jY (.inl i) (.int i t)=true:=by simp[jY,Value.isInt]
theorem qc (x) (t):jY (.inr x) (.str x t)=true:=by simp[jY,Value.isStrOf]
theorem wG (a b):decide ((Sum.inl a:Key)=Sum.inl b)=(a == b):=by
 by_cases e:a=b
 ·subst e;simp
 ·have h:¬ (Sum.inl a:Key)=Sum.inl b:=λ q=>e (Sum.inl.inj q)
  rw[DB h]
  exact(Ea.mpr e).symm
theorem wO (a b):decide ((Sum.inr a:Key)=Sum.inr b)=decide (a=b):=by
 by_cases e:a=b
 ·subst e;simp
 ·have h:¬ (Sum.inr a:Key)=Sum.inr b:=λ q=>e (Sum.inr.inj q)
  rw[DB h,DB e]
theorem w6 (a) (b):decide ((Sum.inl a:Key)=Sum.inr b)=false:=DB (λ q=>nomatch q)
theorem wq (a) (b):decide ((Sum.inr a:Key)=Sum.inl b)=false:=DB (λ q=>nomatch q)
noncomputable def bL (prog:Program) (w:World):PySem.KeyKind prog w Key where
 is:=jY
 hash:=BL w
 inj:=λ v a b ha hb=>by
  rcases bQ ha with ⟨i,t,rfl,rfl⟩|⟨x,t,rfl,rfl⟩
  ·rcases bQ hb with ⟨j,u,rfl,e⟩|⟨y,u,rfl,e⟩
   ·injection e with e1 _;rw[e1]
   ·exact nomatch e
  ·rcases bQ hb with ⟨j,u,rfl,e⟩|⟨y,u,rfl,e⟩
   ·exact nomatch e
   ·injection e with e1 _;rw[e1]
 byValue:=λ k v h=>by
  rcases bQ h with ⟨i,t,rfl,rfl⟩|⟨x,t,rfl,rfl⟩<;>rfl
 pyHash:=λ hv h=>by
  rcases bQ hv with ⟨i,t,rfl,rfl⟩|⟨x,t,rfl,rfl⟩
  ·exact wpAny_pyHash_int h
  ·exact wpAny_pyHash_str h
 eqBool:=λ hu hv h=>by
  rcases bQ hu with ⟨i,t,rfl,rfl⟩|⟨x,t,rfl,rfl⟩
  ·rcases bQ hv with ⟨j,u,rfl,rfl⟩|⟨y,u,rfl,rfl⟩
   ·rw[wG] at h;exact Er h
   ·rw[w6] at h;exact SeqAt.EqAt.int_str i t y u _ _ _ _ h
  ·rcases bQ hv with ⟨j,u,rfl,rfl⟩|⟨y,u,rfl,rfl⟩
   ·rw[wq] at h;exact SeqAt.EqAt.str_int x t j u _ _ _ _ h
   ·rw[wO] at h;exact wpAny_eqBool_str h
 «strs»:=λ k x t v h=>by
  rcases bQ h with ⟨i,u,rfl,e⟩|⟨y,u,rfl,e⟩
  ·exact nomatch e
  ·injection e with e1 _
   subst e1
   cases v<;>rfl
theorem lF (prog) (w) (i) (t):(bL prog w).is (.inl i) (.int i t)=true:=qa i t
theorem ml (prog) (w) (x) (t):(bL prog w).is (.inr x) (.str x t)=true:=qc x t
inductive V where
 | non|bl (b:Bool)|int (i:Int)|str (x:Str)|byt (b:Array UInt8)|flt (b:UInt64)|ref (a:Addr)|ty (n:String)
 deriving DecidableEq
noncomputable def RelV:V->Value->Prop
 | .non,u=>u=Value.none
 | .bl b,u=>u=Value.bool b
 | .int i,u=>∃ t,u=Value.int i t
 | .str x,u=>∃ t,u=Value.str x t
 | .byt b,u=>∃ t,u=Value.bytes b t
 | .flt b,u=>∃ t,u=Value.float b t
 | .ref a,u=>u=Value.ref a
 | .ty n,u=>u=Value.type n
noncomputable abbrev Vals:List V->List Value->Prop:=Paired RelV
theorem Vals.length (r:Vals xs us):xs.length=us.length:=Paired.length r
theorem Vals.get:∀ {xs:List V}{us:List Value}{i:Nat}{x:V},Vals xs us->xs[i]? = some x->∃ u,us[i]? = some u/\RelV x u
 | _,_,_,_,.nil,e=>by simp at e
 | _,_,0,_,.cons r _,e=>by simp at e;subst e;exact⟨_,rfl,r⟩
 | _,_,i+1,x,.cons _ t,e=>by
  obtain⟨u,a,b⟩:=Vals.get (i:=i) (x:=x) t (by simpa using e)
  exact⟨u,by simpa using a,b⟩
theorem Vals.append:∀ {xs ys:List V}{us a:List Value},Vals xs us->Vals ys a->Vals (xs++ys) (us++a)
 | _,_,_,_,.nil,s=>s
 | _,_,_,_,.cons r t,s=>.cons r (Vals.append t s)
theorem Vals.take:∀ {xs:List V}{us:List Value}(n:Nat),Vals xs us->Vals (xs.take n) (us.take n)
 | _,_,0,_=>.nil
 | _,_,_+1,.nil=>.nil
 | _,_,n+1,.cons r t=>.cons r (Vals.take n t)
theorem Vals.drop:∀ {xs:List V}{us:List Value}(n:Nat),Vals xs us->Vals (xs.drop n) (us.drop n)
 | _,_,0,r=>r
 | _,_,_+1,.nil=>.nil
 | _,_,n+1,.cons _ t=>Vals.drop n t
noncomputable def eu:Option V->Option Value->Prop
 | some v,some u=>RelV v u
 | none,none=>True
 | _,_=>False
noncomputable def KV {κ:Type}:List (κ×V)->List (κ×Value)->Prop:=Paired λ(p:κ×V) (q:κ×Value)=>p.1=q.1/\RelV p.2 q.2
noncomputable def kV:Key->V
 | .inl i=>.int i
 | .inr x=>.str x
inductive HO where
 | lst (xs:List V)
 | tup (xs:List V)
 | dK (kvs:List (Key×V))|dT (kvs:List (List Key×V))
 | set (S:Int->Bool) (n:Nat)
 | ins (C dx:Addr) (fs:List (Str×V))
 | own (x:Addr)
 | xd (fs:List (Str×V))
 | met (f x:Addr)
 | rng (lo hi:Int)
 | frz (o:Obj) (u:HO)
 | tbl (ps:Array Value)
 | ext (φ:Heap->Prop)
noncomputable abbrev Hp:=Addr->Option HO
noncomputable def upd (H:Hp) (a:Addr) (o:HO):Hp:=λ b=>if b=a then some o else H b
theorem aD:upd H a o a=some o:=by unfold upd;rw[CG rfl]
theorem aE (h:b≠a):upd H a o b=H b:=by unfold upd;rw[CD h]
theorem dH:upd (upd H a o) a u=upd H a u:=by
 funext b;unfold upd;split<;>rfl
theorem cU {H:Hp}{a b:Addr}{o u:HO}(h:H a=some o) (h':H b=some u) (d:o≠u):a≠b:=by
 intro e;subst e;rw[h] at h';exact d (Option.some.inj h')
theorem aF {H:Hp}{a b:Addr}{o:HO}(h:H a=some o) (h':H b=none):a≠b:=by
 intro e;subst e;rw[h] at h';cases h'
section
variable (P:Program) (w:World)
noncomputable def bu (H:Hp) (h:Heap) (a:Addr):HO->Prop
 | .lst xs=>xs.length<=sizeLine/\∃ (its:List Value) (n:Nat),Vals xs its/\h.get? a=some { cls:=.type "list",data:=.seq its.toArray n }
 | .tup xs=>xs.length<=sizeLine/\∃ its:List Value,Vals xs its/\IsTup h a its.toArray
 | .dK kvs=>kvs.length<=sizeLine/\(a == sysModules)=false/\∃ vs,KV kvs vs/\h.DictOf (bL P w) a vs
 | .dT kvs=>kvs.length<=sizeLine/\(a == sysModules)=false/\∃ xs:List (List Key×Addr×Value),
   Paired (λ(p:List Key×V) (q:List Key×Addr×Value)=>p.1=q.1/\H q.2.1=some (.tup (p.1.map kV))/\RelV p.2 q.2.2) kvs xs /\
   ∃ o es ep,h.get? a=some o/\o.ExactDict/\o.data=.dict es ep/\es.toList=xs.map (entryOfKey (tupleKind (bL P w)))/\(xs.map (·.1)).Nodup
 | .set S n=>h.SetOf (intKind P w) a S n
 | .ins C dx fs=>H dx=some (.own a)/\fs.length<=1000/\dx≠a/\h.get? a=some (PySem.W.instObj C dx) /\
   ∃ mA,h.Ns1 dx mA/\(∀ f,eu (fs.lookup f) (mA f))/\PySem.Within mA (fs.map (·.1))
 | .own _=>∃ o,h.get? a=some o
 | .xd fs=>∃ mA,h.Ns1 a mA/\∀ f,eu (fs.lookup f) (mA f)
 | .rng lo hi=>∃ t u v,h.get? a=some { cls:=.type "range",data:=.fields #[.int lo t,.int hi u,.int 1 v] }
 | .frz o u=>h.get? a=some o/\bu H h a u
 | .tbl ps=>h.get? a=some { cls:=.none,data:=.fields ps }
 | .met f x=>h.get? a=some (PySem.W.methodObj (.ref f) (.ref x))
 | .ext φ=>φ h/\(∃ o,h.get? a=some o)/\∀ h1 h2:Heap,φ h1->(∀ o,h1.get? a=some o->h2.get? a=some o)->φ h2
noncomputable def HOk (H:Hp) (h:Heap):Prop:=∀ a o,H a=some o->bu P w H h a o
end
section
variable {P:Program}{w:World}{H H':Hp}{h h':Heap}{a:Addr}{o:HO}
theorem bu.lt (x:bu P w H h a o):a<h.objs.size:=by
 cases o with
 | lst xs=>obtain⟨_,_,_,_,e⟩:=x;exact Heap.lt_size e
 | tup xs=>obtain⟨_,_,_,p⟩:=x;exact p.lt
 | dK kvs=>obtain⟨_,_,_,_,o,_,_,e,_⟩:=x;exact Heap.lt_size e
 | dT kvs=>obtain⟨_,_,_,_,o,_,_,e,_⟩:=x;exact Heap.lt_size e
 | set S n=>obtain⟨o,_,_,_,e,_⟩:=x;exact Heap.lt_size e
 | ins C dx fs=>obtain⟨_,_,_,e,_⟩:=x;exact Heap.lt_size e
 | own y=>obtain⟨_,e⟩:=x;exact Heap.lt_size e
 | xd fs=>obtain⟨_,⟨_,_,_,e,_⟩,_⟩:=x;exact Heap.lt_size e
 | rng lo hi=>obtain⟨_,_,_,e⟩:=x;exact Heap.lt_size e
 | frz ob u=>obtain⟨e,_⟩:=x;exact Heap.lt_size e
 | tbl ps=>exact Heap.lt_size (show h.get? a=some _ from x)
 | met f y=>exact Heap.lt_size (show h.get? a=some _ from x)
 | ext φ=>obtain⟨_,⟨_,e⟩,_⟩:=x;exact Heap.lt_size e
theorem Paired.xc:∀ {c:List α}{d:List β},Paired F c d->(∀ a b,F a b->G a b)->Paired G c d
 | _,_,.nil,_=>.nil
 | _,_,.cons r t,f=>.cons (f _ _ r) (Paired.xc t f)
theorem bu.iH (x:bu P w H h a o) (k:∀ b u,(b=a\/H b=some (.own a))->h.get? b=some u->h'.get? b=some u)
  (ho:∀ b,H b=some (.own a)->H' b=some (.own a)) (ht:∀ b xs,H b=some (.tup xs)->H' b=some (.tup xs)):bu P w H' h' a o:=by
 induction o with
 | lst xs=>obtain⟨z,its,n,r,e⟩:=x;exact⟨z,its,n,r,k _ _ (.inl rfl) e⟩
 | tup xs=>obtain⟨z,its,r,ob,e,c⟩:=x;exact⟨z,its,r,ob,k _ _ (.inl rfl) e,c⟩
 | dK kvs=>obtain⟨z,y,vs,r,ob,es,ep,e,c⟩:=x;exact⟨z,y,vs,r,ob,es,ep,k _ _ (.inl rfl) e,c⟩
 | dT kvs=>
  obtain⟨z,y,xs,r,ob,es,ep,e,c⟩:=x
  exact⟨z,y,xs,Paired.xc r λ p q z=>⟨z.1,ht _ _ z.2.1,z.2.2⟩,ob,es,ep,k _ _ (.inl rfl) e,c⟩
 | set S n=>obtain⟨ob,es,ep,t,e,c⟩:=x;exact⟨ob,es,ep,t,k _ _ (.inl rfl) e,c⟩
 | ins C dx fs=>
  obtain⟨d,z,ne,e,mA,⟨od,es,ep,e2,c⟩,r⟩:=x
  exact⟨ho _ d,z,ne,k _ _ (.inl rfl) e,mA,⟨od,es,ep,k _ _ (.inr d) e2,c⟩,r⟩
 | own y=>obtain⟨ob,e⟩:=x;exact⟨ob,k _ _ (.inl rfl) e⟩
 | xd fs=>obtain⟨mA,⟨od,es,ep,e,c⟩,r⟩:=x;exact⟨mA,⟨od,es,ep,k _ _ (.inl rfl) e,c⟩,r⟩
 | rng lo hi=>obtain⟨t,u,v,e⟩:=x;exact⟨t,u,v,k _ _ (.inl rfl) e⟩
 | frz ob u ih=>obtain⟨e,q⟩:=x;exact⟨k _ _ (.inl rfl) e,ih q⟩
 | tbl ps=>
  have e:h.get? a=some { cls:=.none,data:=.fields ps }:=x
  show h'.get? a=some { cls:=.none,data:=.fields ps }
  exact k a _ (.inl rfl) e
 | met f y=>
  have e:h.get? a=some (PySem.W.methodObj (.ref f) (.ref y)):=x
  show h'.get? a=some (PySem.W.methodObj (.ref f) (.ref y))
  exact k a _ (.inl rfl) e
 | ext φ=>obtain⟨p,⟨o,e⟩,st⟩:=x;exact⟨st _ _ p λ o q=>k _ _ (.inl rfl) q,⟨o,k _ _ (.inl rfl) e⟩,st⟩
theorem HOk.lt (x:HOk P w H h) (e:H a=some o):a<h.objs.size:=(x a o e).lt
theorem HOk.fresh (x:HOk P w H h) (e:h.objs.size<=a):H a=none:=by
 cases q:H a with
 | none=>rfl
 | some u=>exact absurd (CM (x.lt q) e) (DS _)
theorem HOk.kept (x:HOk P w H h) (k:∀ b u,h.get? b=some u->h'.get? b=some u):HOk P w H h':=λ a o e=>
 (x a o e).iH (λ b u _ q=>k b u q) (λ _ q=>q) λ _ _ q=>q
theorem HOk.laid (x:HOk P w H h) (k:∀ b u,h.get? b=some u->h'.get? b=some u) (i:h.objs.size<=a) (d:bu P w (upd H a o) h' a o):HOk P w (upd H a o) h':=λ b u e=>by
 have g:=x.fresh i
 by_cases f:b=a
 ·subst f;rw[aD] at e;cases e;exact d
 ·rw[aE f] at e
  exact(x b u e).iH (λ c v _ q=>k c v q) (λ c q=>by rw[aE (aF q g)];exact q) λ c j q=>by rw[aE (aF q g)];exact q
end
noncomputable def Rd (H:Hp) (a:Addr) (u:HO):Prop:=H a=some u\/∃ o,H a=some (.frz o u)
theorem Rd.ok (r:Rd H a u) (x:HOk P w H h):bu P w H h a u:=by
 rcases r with r|⟨o,r⟩
 ·exact x a u r
 ·obtain⟨_,q⟩:=x a _ r
  exact q
noncomputable def Mut:Option HO->Prop
 | some (.lst _)=>True
 | some (.dK _)=>True
 | some (.dT _)=>True
 | some (.set _ _)=>True
 | some (.ins _ _ _)=>True
 | some (.ext _)=>True
 | _=>False
section
variable {P:Program}{w:World}{H:Hp}{h h':Heap}{x e:Addr}{o':HO}
theorem HOk.write (B:HOk P w H h) (l:Mut (H x)) (s:e=x\/H e=some (.own x)) (k:∀ b u,b≠e->h.get? b=some u->h'.get? b=some u) (n:∃ u,h'.get? e=some u)
  (p:bu P w (upd H x o') h' x o'):HOk P w (upd H x o') h':=λ b u q=>by
 have f:∀ c y,H c=some (.own y)->c≠x:=λ c y r z=>by subst z;rw[r] at l;exact l
 have g:∀ c m,H c=some (.tup m)->c≠x:=λ c m r z=>by subst z;rw[r] at l;exact l
 by_cases i:b=x
 ·subst i;rw[aD] at q;cases q;exact p
 ·rw[aE i] at q
  by_cases d:b=e
  ·have t:H b=some (.own x):=by
    rcases s with z|z
    ·exact absurd (d.trans z) i
    ·rw[d];exact z
   rw[q] at t;cases t
   obtain⟨v,A⟩:=n
   exact⟨v,by rw[d];exact A⟩
  ·refine(B b u q).iH (λ c v j r=>k c v ?_ r) (λ c r=>by rw[aE (f c b r)];exact r) λ c m r=>by rw[aE (g c m r)];exact r
   rcases j with rfl|j
   ·exact d
   ·rintro rfl
    rcases s with z|z
    ·exact f c b j z
    ·rw[j] at z;cases z;exact i rfl
end
structure Un (fs ex:List Addr) (H H':Hp) (h h':Heap):Prop where
 keep:∀ b o,h.get? b=some o->H b=none->b∉fs->b∉ex->h'.get? b=some o
 slot:∀ b o,h.get? b=some o->H b=none->b∈fs->b∉ex->∃ sl,h'.get? b=some { o with slots:=sl }
 free:∀ b o,h.get? b=some o->H b=none->b∉ex->H' b=none
 there:∀ b o,h.get? b=some o->b∉ex->∃ o',h'.get? b=some o'
 tups:∀ b xs,H b=some (.tup xs)->H' b=some (.tup xs)
 frzs:∀ b o u,H b=some (.frz o u)->H' b=some (.frz o u)
 tbls:∀ b ps,H b=some (.tbl ps)->∃ more,H' b=some (.tbl (ps++more))
section
variable {fs fs' ex ex':List Addr}{H H1 H2:Hp}{h h1 h2 h':Heap}{a x e:Addr}{o:HO}
theorem Un.any (u:Un fs ex H H1 h h1) (q:h.get? b=some ob) (n:H b=none) (d:b∉ex):∃ f,h1.get? b=some { ob with slots:=f }:=by
 by_cases c:b∈fs
 ·exact u.slot b ob q n c d
 ·exact⟨ob.slots,u.keep b ob q n c d⟩
theorem Un.kept (k:∀ b u,h.get? b=some u->h'.get? b=some u):Un fs ex H H h h':=
 ⟨λ b c q _ _ _=>k b c q,λ b c q _ _ _=>⟨c.slots,k b c q⟩,λ _ _ _ n _=>n,λ b c q _=>⟨c,k b c q⟩,λ _ _ q=>q,λ _ _ _ q=>q,λ _ d q=>⟨#[],by rw[q];simp⟩⟩
theorem Un.refl:Un fs ex H H h h:=Un.kept λ _ _ q=>q
theorem Un.laid (k:∀ b u,h.get? b=some u->h'.get? b=some u) (d:h.objs.size<=a) (c:H a=none):Un fs ex H (upd H a o) h h' where
 keep:=λ b u q _ _ _=>k b u q
 slot:=λ b u q _ _ _=>⟨u.slots,k b u q⟩
 free:=λ b u q n _=>by rw[aE (CI (CM (Heap.lt_size q) d))];exact n
 there:=λ b u q _=>⟨u,k b u q⟩
 tups:=λ b f q=>by rw[aE (aF q c)];exact q
 frzs:=λ b u f q=>by rw[aE (aF q c)];exact q
 tbls:=λ b g q=>⟨#[],by rw[aE (aF q c),q];simp⟩
theorem Un.write (d:Mut (H x)) (l:e=x\/H e=some (.own x)) (k:∀ b u,b≠e->h.get? b=some u->h'.get? b=some u) (f:∃ u,h'.get? e=some u):Un fs ex H (upd H x o) h h':=by
 have j:∀ b,H b=none->b≠x:=λ b n z=>by subst z;rw[n] at d;exact d
 have i:∀ b,H b=none->b≠e:=λ b n z=>by
  subst z
  rcases l with r|r
  ·exact j b n r
  ·rw[n] at r;cases r
 have g:∀ b u,H b=some u->¬ Mut (some u)->b≠x:=λ b u q m z=>by subst z;rw[q] at d;exact m d
 refine⟨λ b u q n _ _=>k b u (i b n) q,λ b u q n _ _=>⟨u.slots,k b u (i b n) q⟩,λ b u q n _=>by rw[aE (j b n)];exact n,λ b u q _=>?_,
  λ b p q=>by rw[aE (g b _ q λ z=>z)];exact q,λ b u p q=>by rw[aE (g b _ q λ z=>z)];exact q,λ b s q=>⟨#[],by rw[aE (g b _ q λ z=>z),q];simp⟩⟩
 by_cases c:b=e
 ·subst c;exact f
 ·exact⟨u,k b u c q⟩
theorem Un.mono (u:Un fs ex H H1 h h1) (hs:∀ b∈fs,b∈fs') (f:∀ b∈ex,b∈ex'):Un fs' ex' H H1 h h1:=
 ⟨λ b d q n g c=>u.keep b d q n (λ z=>g (hs b z)) λ z=>c (f b z),λ _ _ q n _ c=>u.any q n λ z=>c (f _ z),λ b d q n c=>u.free b d q n λ z=>c (f b z),λ b d q c=>u.there b d q λ z=>c (f b z),u.tups,u.frzs,u.tbls⟩
end
noncomputable def trk (h:Heap) (H:Hp):List Addr:=(List.range h.objs.size).filter λ a=>(H a).isSome
noncomputable def jr (h:Heap) (H:Hp):Heap:=PySem.W.hideAll h (trk h H)
theorem pB (h) (H:Hp):(jr h H).objs.size=h.objs.size:=PySem.W.hideAll_size _ _
theorem qj (e:h.get? b=some o) (n:H b=none):(jr h H).get? b=some o:=
 PySem.W.hideAll_get _ e λ c=>by
  have q:(H b).isSome=true:=(Dj.mp c).2
  rw[n] at q;simp at q
theorem sW (e:(jr h H).get? b=some o):h.get? b=some o/\H b=none:=by
 have c:h.get? b=some o:=PySem.W.of_hideAll (trk h H) e
 refine⟨c,?_⟩
 cases q:H b with
 | none=>rfl
 | some x=>
  have d:b∈trk h H:=Dj.mpr ⟨Eg.mpr (Heap.lt_size c),by simp[q]⟩
  have z:(jr h H).get? b=none:=PySem.W.hideAll_none (trk h H) d
  rw[z] at e;cases e
noncomputable def uw (g h:Heap) (L:Addr):List (Addr×Obj):=(List.range h.objs.size).filterMap λ a=>if a=L\/(g.get? a).isSome=true then none else (h.get? a).map λ o=>(a,o)
noncomputable def rest (g h:Heap) (L d:Addr):List (Addr×Obj):=(uw g h L).filter λ p=>decide (p.1≠d)
structure Mod (K:PySem.W.Frag) (mg:Str->Option Value) (base:Heap):Prop where
 kin:K.In base
 glob:base.Ns mainGlobals mg
 blt:∃ mb,base.Ns builtinsNs mb/\∀ x:Str,x ≠ "__name__" -> mb x=bootBuiltins x
 nolimit:base.NoLimit
structure Cx where
 prog:Program
 w:World
 K:PySem.W.Frag
 mg:Str->Option Value
 base:Heap
 A:Around
 N:List Str
 s₀:Shared
 H₀:Hp
 env:Env
 outer:List Env
 stack:List Env
 ex:List Addr
 fn:Str->Bool
 calm:Bool
 pn:List (Addr×Obj)
 xe:Value->Shared->Prop
noncomputable def frs (l:List Env):List Addr:=l.filterMap (·.frame)
noncomputable abbrev Cx.fs (X:Cx):List Addr:=frs X.outer
noncomputable def Vis (sc:Scope) (x:Str):Prop:=sc.names.lookup x=some .local\/sc.names.lookup x=some .cell\/sc.names.lookup x=some .free
noncomputable def Loc (sc:Scope) (x:Str):Prop:=sc.names.lookup x=some .local\/sc.names.lookup x=some .cell
noncomputable def Look (env:Env) (h:Heap) (m:Str->Option Value) (x:Str) (u:Value):Prop:=
 (env.kindOf x=some .local/\m x=some u)\/((env.kindOf x=some .cell\/env.kindOf x=some .free)/\∃ c,env.cells.lookup x=some c/\h.IsCell c (some u))
structure Cx.Ok (X:Cx):Prop where
 mod:Mod X.K X.mg X.base
 kind:X.env.scope.kind=.function
 glob:X.env.globals=mainGlobals
 blt:X.env.builtins=builtinsNs
 above:X.s₀.heap.objs.size<=X.env.locals
 inj:∀ x y c,X.env.cells.lookup x=some c->X.env.cells.lookup y=some c->x=y
 has:∀ x,(X.env.kindOf x=some .cell\/X.env.kindOf x=some .free)->∃ c,X.env.cells.lookup x=some c
 cab:∀ x c,X.fn x=true->X.env.cells.lookup x=some c->X.s₀.heap.objs.size<=c
 hd:X.calm=true->X.A.handled=none
 frames:X.A.frames=some X.stack
 stk:X.stack=X.outer\/(X.stack=X.env::X.outer/\X.env.frame=some X.env.locals)
 exf:∀ b∈X.ex,b≠X.env.locals/\∀ x c,X.env.cells.lookup x=some c->c≠b
 bs:∀ b o,X.base.get? b=some o->X.s₀.heap.get? b=some o/\X.H₀ b=none
 bsz:X.base.objs.size<=X.s₀.heap.objs.size
 noex:∀ b o,X.base.get? b=some o->b∉X.ex
 exfs:∀ b∈X.ex,b∉X.fs
 gS:X.s₀.heap.FunFrames X.base X.outer
 frf:∀ b∈X.fs,X.H₀ b=none
structure Inv (X:Cx) (pins:List (Addr×Obj)) (σ:List (Option V)) (H:Hp) (s:Shared):Prop where
 ok:X.Ok
 os:s.os=X.s₀.os
 bare:AllBare s.gens
 base:Un X.fs X.ex X.H₀ H X.s₀.heap s.heap
 loc:∃ m,s.heap.Ns X.env.locals m/\∀ (i:Nat) (x:Str) (v:V),X.N[i]? = some x->σ[i]? = some (some v)->Vis X.env.scope x->∃ u,RelV v u/\Look X.env s.heap m x u
 cell:∀ x c,X.env.cells.lookup x=some c->∃ v,s.heap.IsCell c v
 free:H X.env.locals=none
 freeC:∀ x c,X.env.cells.lookup x=some c->H c=none\/(X.fn x=false/\∃ o u,H c=some (.frz o u))
 pin:∀ p∈X.pn++pins,s.heap.get? p.1=some p.2/\H p.1=none/\p.1≠X.env.locals/\p.1∉X.fs/\∀ v,p.2.data≠.cell v
 hok:HOk X.prog X.w H s.heap
 len:σ.length=X.N.length
section
variable {X:Cx}{pins:List (Addr×Obj)}{σ:List (Option V)}{H H':Hp}{s:Shared}{h':Heap}
theorem Cx.Ok.B6 (d:X.Ok) (e:X.base.get? b=some o):b∉X.fs:=λ c=>by
 have:=(d.gS.mem c).1
 rw[e] at this;cases this
theorem Inv.bs (I:Inv X pins σ H s):∀ b o,X.base.get? b=some o->s.heap.get? b=some o/\H b=none:=λ b o e=>
 ⟨I.base.keep b o (I.ok.bs b o e).1 (I.ok.bs b o e).2 (I.ok.B6 e) (I.ok.noex b o e),I.base.free b o (I.ok.bs b o e).1 (I.ok.bs b o e).2 (I.ok.noex b o e)⟩
theorem Inv.bk (I:Inv X pins σ H s):∀ b o,X.base.get? b=some o->s.heap.get? b=some o:=λ b o e=>(I.bs b o e).1
theorem Inv.mod (I:Inv X pins σ H s):Mod X.K X.mg X.base:=I.ok.mod
theorem Inv.kIn (I:Inv X pins σ H s):X.K.In s.heap:=I.ok.mod.kin.keeps I.bk
theorem Inv.lt (I:Inv X pins σ H s):X.env.locals<s.heap.objs.size:=let ⟨_,b,_⟩:=I.loc;b.lt
theorem Inv.sz (I:Inv X pins σ H s):X.s₀.heap.objs.size<=s.heap.objs.size:=CV I.ok.above (EB I.lt)
theorem Inv.Ck (I:Inv X pins σ H s) (h:s.heap.objs.size<=a):a∉X.fs:=λ b=>by
 obtain⟨_,o,c,_⟩:=I.ok.gS.mem b
 exact absurd (CM (Heap.lt_size c) (CV I.sz h)) (DS _)
theorem Inv.cne (I:Inv X pins σ H s):∀ x c,X.env.cells.lookup x=some c->c≠X.env.locals:=λ x c e z=>by
 obtain⟨v,o,g,f⟩:=I.cell x c e
 obtain⟨m,⟨o',j,i,d,b,_⟩,_⟩:=I.loc
 rw[z,d] at g;cases g;rw[b] at f;cases f
theorem Inv.gS (I:Inv X pins σ H s):s.heap.FunFrames X.base X.outer:=by
 have all:∀ (l:List Env),(∀ b∈frs l,b∈X.fs)->X.s₀.heap.FunFrames X.base l->s.heap.FunFrames X.base l:=by
  intro l
  induction l with
  | nil=>intro _ _;trivial
  | cons env r ih=>
   intro hs hl
   obtain⟨hk,⟨L,o,hf,hn,ho,hd⟩,hr⟩:=hl
   have hL:L∈X.fs:=hs L (by unfold frs;rw[Fm,hf];exact CJ)
   obtain⟨sl,e⟩:=I.base.slot L o ho (I.ok.frf L hL) hL λ z=>I.ok.exfs L z hL
   exact⟨hk,⟨L,_,hf,hn,e,hd⟩,ih (λ b hb=>hs b (by unfold frs;rw[Fm,hf];exact CH _ hb)) hr⟩
 exact all X.outer (λ _ hb=>hb) I.ok.gS
theorem Inv.stack (I:Inv X pins σ H s):s.heap.FunFrames X.base X.stack:=by
 rcases I.ok.stk with e|⟨e,b⟩
 ·rw[e];exact I.gS
 ·rw[e]
  obtain⟨m,c,_⟩:=I.loc
  refine .cons (by rw[I.ok.kind];decide) b c ?_ I.gS
  exact Heap.get?_none_of_le (CV I.ok.bsz I.ok.above)
theorem Inv.jb (I:Inv X pins σ H s):∀ b∈frs X.stack,b∈X.env.locals::X.fs:=λ b hb=>by
 rcases I.ok.stk with e|⟨e,hf⟩
 ·rw[e] at hb;exact CH _ hb
 ·rw[e] at hb
  unfold frs at hb
  rw[Fm,hf] at hb
  exact hb
theorem Inv.gH (I:Inv X pins σ H s):∀ b∈frs X.stack,H b=none:=λ b hb=>by
 rcases Cz.mp (I.jb b hb) with e|hb
 ·rw[e];exact I.free
 ·obtain⟨_,o,ho,_⟩:=I.ok.gS.mem hb
  exact I.base.free b o ho (I.ok.frf b hb) λ z=>I.ok.exfs b z hb
theorem Inv.step {g':Array GenState}{t':Nat}{d':Drawn}{ch:List Addr}(I:Inv X pins σ H s)
  (A:∀ b∈ch,(b∈X.ex\/X.s₀.heap.objs.size<=b)/\b≠X.env.locals/\(∀ x c,X.env.cells.lookup x=some c->c≠b)/\∀ p∈X.pn++pins,p.1≠b)
  (B:∀ b o,b≠X.env.locals->b∉X.fs->b∉ch->s.heap.get? b=some o->H b=none->h'.get? b=some o)
  (F:∀ b o,b≠X.env.locals->b∈X.fs->b∉ch->s.heap.get? b=some o->H b=none->∃ U,h'.get? b=some { o with slots:=U }) (g:∀ b o,b∉ch->s.heap.get? b=some o->H b=none->H' b=none)
  (L:∀ b o,b∉ch->s.heap.get? b=some o->∃ o',h'.get? b=some o')
  (R:∀ b xs,H b=some (.tup xs)->H' b=some (.tup xs)) (y:∀ b o u,H b=some (.frz o u)->H' b=some (.frz o u)) (Q:∀ b T,H b=some (.tbl T)->∃ N,H' b=some (.tbl (T++N)))
  (ns:∀ m,s.heap.Ns X.env.locals m->h'.Ns X.env.locals m) (M:HOk X.prog X.w H' h') (hg:AllBare g') :
  Inv X pins σ H' { s with heap:=h',gens:=g',drawn:=d',toks:=t' }:=by
 have O:∀ b o,X.s₀.heap.get? b=some o->b≠X.env.locals:=λ b o e=>CI (CM (Heap.lt_size e) I.ok.above)
 have E:∀ b o,X.s₀.heap.get? b=some o->b∉X.ex->b∉ch:=λ b o e f J=>by
  rcases (A b J).1 with z|z
  ·exact f z
  ·exact absurd (CM (Heap.lt_size e) z) (DS _)
 have t:∀ x c,X.env.cells.lookup x=some c->∀ v,s.heap.IsCell c v->h'.IsCell c v:=λ x c e v ⟨o,K,S⟩=>by
  have C:c∉ch:=λ z=>(A c z).2.2.1 x c e rfl
  rcases I.freeC x c e with D|⟨_,of,uf,D⟩
  ·by_cases W:c∈X.fs
   ·obtain⟨U,q⟩:=F c o (I.cne x c e) W C K D
    exact⟨_,q,S⟩
   ·exact⟨o,B c o (I.cne x c e) W C K D,S⟩
  ·obtain⟨j,_⟩:=I.hok c _ D
   obtain⟨G,_⟩:=M c _ (y c _ _ D)
   rw[K] at j;cases j
   exact⟨o,G,S⟩
 refine⟨I.ok,I.os,hg,⟨λ b o e n J f=>?_,λ b o e n J f=>?_,λ b o e n f=>?_,λ b o e f=>?_,λ b xs e=>R b xs (I.base.tups b xs e),λ b o xs e=>y b o xs (I.base.frzs b o xs e),λ b T e=>?_⟩,?_,λ x c e=>?_,?_,λ x c e=>?_,λ p Y=>?_,M,I.len⟩
 ·exact B b o (O b o e) J (E b o e f) (I.base.keep b o e n J f) (I.base.free b o e n f)
 ·obtain⟨U,j⟩:=I.base.slot b o e n J f
  obtain⟨V,G⟩:=F b _ (O b o e) J (E b o e f) j (I.base.free b o e n f)
  exact⟨V,G⟩
 ·obtain⟨o',j⟩:=I.base.there b o e f
  exact g b o' (E b o e f) j (I.base.free b o e n f)
 ·obtain⟨o',j⟩:=I.base.there b o e f
  exact L b o' (E b o e f) j
 ·obtain⟨m1,j⟩:=I.base.tbls b T e
  obtain⟨m2,G⟩:=Q b _ j
  exact⟨m1++m2,by rw[G,Array.append_assoc]⟩
 ·obtain⟨m,hn,hl⟩:=I.loc
  refine⟨m,ns m hn,λ i x v j G e3=>?_⟩
  obtain⟨u,r,l⟩:=hl i x v j G e3
  refine⟨u,r,?_⟩
  rcases l with l|⟨k,c,e,z⟩
  ·exact .inl l
  ·exact .inr ⟨k,c,e,t x c e _ z⟩
 ·obtain⟨v,z⟩:=I.cell x c e
  exact⟨v,t x c e v z⟩
 ·obtain⟨m,⟨o,_,_,K,_⟩,_⟩:=I.loc
  exact g _ o (λ z=>(A _ z).2.1 rfl) K I.free
 ·obtain⟨v,o,K,S⟩:=I.cell x c e
  rcases I.freeC x c e with D|⟨hf,of,uf,D⟩
  ·exact .inl (g c o (λ z=>(A c z).2.2.1 x c e rfl) K D)
  ·exact .inr ⟨hf,of,uf,y c _ _ D⟩
 ·obtain⟨e,n,Z,nf,d⟩:=I.pin p Y
  have C:p.1∉ch:=λ z=>(A p.1 z).2.2.2 p Y rfl
  exact⟨B p.1 p.2 Z nf C e n,g p.1 p.2 C e n,Z,nf,d⟩
theorem Inv.un {t':Nat}(I:Inv X pins σ H s) (u:Un X.fs [] H H' s.heap h') (i:HOk X.prog X.w H' h'):Inv X pins σ H' { s with heap:=h',toks:=t' }:=by
 obtain⟨m,⟨o,t,q,j,r⟩,_⟩:=id I.loc
 obtain⟨y,k⟩:=u.any j I.free (by simp)
 exact I.step (g':=s.gens) (d':=s.drawn) (ch:=[]) (λ _ z=>nomatch z) (λ b o _ g _ e n=>u.keep b o e n g (by simp)) (λ b o _ g _ e n=>u.slot b o e n g (by simp)) (λ b o _ e n=>u.free b o e n (by simp)) (λ b o _ e=>u.there b o e (by simp)) u.tups u.frzs u.tbls (λ v l=>by
  obtain⟨o',f,d,c,p⟩:=l
  rw[j] at c;cases c
  exact⟨_,f,d,k,p⟩) i I.bare
theorem Inv.call {g':Array GenState}{t':Nat}{d':Drawn}{ch:List Addr}(I:Inv X pins σ H s) (u:Un (frs X.stack) ch H H' s.heap h') (hok:HOk X.prog X.w H' h') (hg:AllBare g')
  (hch:∀ b∈ch,(b∈X.ex\/X.s₀.heap.objs.size<=b)/\b≠X.env.locals/\(∀ x c,X.env.cells.lookup x=some c->c≠b)/\∀ p∈X.pn++pins,p.1≠b) :
  Inv X pins σ H' { s with heap:=h',gens:=g',drawn:=d',toks:=t' }:=by
 obtain⟨m,⟨o,es,ep,ho,r⟩,_⟩:=id I.loc
 obtain⟨sl,hL⟩:=u.any ho I.free λ z=>(hch _ z).2.1 rfl
 exact I.step (ch:=ch) hch (λ b o hL hb hc e n=>u.keep b o e n (λ z=>(Cz.mp (I.jb b z)).elim hL hb) hc) (λ b o _ _ hc e n=>u.any e n hc) (λ b o hc e n=>u.free b o e n hc) (λ b o hc e=>u.there b o e hc) u.tups u.frzs u.tbls (λ m' hm=>by
  obtain⟨o',es',ep',ho',r'⟩:=hm
  rw[ho] at ho';cases ho'
  exact⟨_,es',ep',hL,r'⟩) hok hg
theorem Inv.turned {t':Nat}{d:Addr}(I:Inv X pins σ H s) (k:∀ b o,b≠d->s.heap.get? b=some o->h'.get? b=some o) (B:H d=none) (i:d≠X.env.locals)
  (h1:d∈X.ex\/X.s₀.heap.objs.size<=d) (h2:∀ x c,X.env.cells.lookup x=some c->c≠d) (t:∀ p∈X.pn++pins,p.1≠d):Inv X pins σ H { s with heap:=h',toks:=t' }:=by
 have g:∀ b u,H b=some u->b≠d:=λ b u e z=>by rw[z,B] at e;cases e
 refine I.step (g':=s.gens) (d':=s.drawn) (ch:=[d]) (λ b y=>?_) (λ b o _ _ f e _=>k b o (λ z=>f (by simp[z])) e) (λ b o _ _ f e _=>⟨o.slots,k b o (λ z=>f (by simp[z])) e⟩) (λ _ _ _ _ n=>n)
  (λ b o f e=>⟨o,k b o (λ z=>f (by simp[z])) e⟩) (λ _ _ e=>e) (λ _ _ _ e=>e) (λ b D e=>⟨#[],by rw[e];simp⟩) (λ m A=>?_) (λ b u e=>?_) I.bare
 ·have e:b=d:=by simpa using y
  subst e
  exact⟨h1,i,h2,t⟩
 ·obtain⟨o,l,j,C,r⟩:=A
  exact⟨o,l,j,k _ o (Ne.symm i) C,r⟩
 ·refine(I.hok b u e).iH (λ c v f q=>k c v ?_ q) (λ _ q=>q) λ _ _ q=>q
  rcases f with z|z
  ·rw[z];exact g b u e
  ·exact g c _ z
theorem Inv.tok (I:Inv X pins σ H s) (t):Inv X pins σ H { s with toks:=t }:=I.un (h':=s.heap) (t':=t) Un.refl I.hok
theorem Inv.kept (I:Inv X pins σ H s) (k:∀ b u,s.heap.get? b=some u->h'.get? b=some u):Inv X pins σ H { s with heap:=h',toks:=t' }:=I.un (Un.kept k) (I.hok.kept k)
theorem Inv.laid (I:Inv X pins σ H s) (k:∀ b u,s.heap.get? b=some u->h'.get? b=some u) (c:s.heap.objs.size<=a) (d:bu X.prog X.w (upd H a o) h' a o) :
  Inv X pins σ (upd H a o) { s with heap:=h',toks:=t' }:=I.un (Un.laid k c (I.hok.fresh c)) (I.hok.laid k c d)
theorem Inv.write (I:Inv X pins σ H s) (g:Mut (H x)) (f:e=x\/H e=some (.own x)) (k:∀ b u,b≠e->s.heap.get? b=some u->h'.get? b=some u) (c:∃ u,h'.get? e=some u)
  (d:bu X.prog X.w (upd H x o) h' x o):Inv X pins σ (upd H x o) { s with heap:=h',toks:=t' }:=I.un (Un.write g f k c) (I.hok.write g f k c d)
theorem Inv.oI (I:Inv X pins σ H s) (h:∀ p∈b,s.heap.get? p.1=some p.2/\H p.1=none/\p.1≠X.env.locals/\p.1∉X.fs/\∀ v,p.2.data≠.cell v):Inv X b σ H s:=
 ⟨I.ok,I.os,I.bare,I.base,I.loc,I.cell,I.free,I.freeC,λ p c=>(CF.mp c).elim (λ z=>I.pin p (Dd _ z)) (h p),I.hok,I.len⟩
theorem l9 {N:List Str}(f:N.Nodup) {i j:Nat}{x:Str}(a:N[i]? = some x) (b:N[j]? = some x):i=j:=by
 obtain⟨h1,c⟩:=Cr.mp a
 obtain⟨h2,d⟩:=Cr.mp b
 exact(List.getElem_inj f).mp (c.trans d.symm)
theorem jW {M:Model}{A:Around}{E:Value->Shared->Prop}{i:Nat}{x:Str}{v:V}{u:Value}{Q:Unit->Shared->Prop}(I:Inv X pins σ H s) (hN:X.N.Nodup) (hi:X.N[i]? = some x) (hx:Loc X.env.scope x) (r:RelV v u)
  (h:∀ s',Inv X pins (σ.set i (some v)) H s'->(∃ a,Heap.SameBut a s.heap s'.heap/\(a=X.env.locals\/X.env.cells.lookup x=some a))->Q () s') (hf:X.fn x=true\/X.env.scope.names.lookup x=some .local:=by first|exact .inl rfl|exact .inr rfl|assumption):wpAny M A (storeName X.env x u) Q E s:=by
 obtain⟨m,hn,hl⟩:=id I.loc
 have hcls:(X.env.scope.kind == .class || (X.env.scope.kind == .module && X.env.locals != X.env.globals))=false:=by rw[I.ok.kind];rfl
 have hiσ:i<σ.length:=by rw[I.len];exact(Cr.mp hi).1
 have cne:=I.cne
 have tracked:∀ {a:Addr} {h':Heap},(∃ o,s.heap.get? a=some o/\H a=none)->Heap.SameBut a s.heap h'->HOk X.prog X.w H h':=λ{a h'} ha hs b ob e=>by
  obtain⟨_,_,hfree⟩:=ha
  refine(I.hok b ob e).iH (λ c w' hc q=>(hs.2 c ?_).trans q) (λ _ q=>q) λ _ _ q=>q
  rintro rfl
  rcases hc with rfl|hc
  ·rw[hfree] at e;cases e
  ·rw[hfree] at hc;cases hc
 rcases hx with hk|hk
 ·refine wpAny_storeName_local hk hn (λ h' hn' hs=>?_) hcls
  obtain⟨oL,_,_,hoL,_⟩:=id hn
  refine h _ ⟨I.ok,I.os,I.bare,⟨λ b o e n hb hx=>?_,λ b o e n hb hx=>?_,I.base.free,λ b o e hx=>?_,I.base.tups,I.base.frzs,I.base.tbls⟩,⟨_,hn',λ j y v' e1 e2 e3=>?_⟩,λ y c e=>?_,I.free,I.freeC,λ p hp=>?_,tracked ⟨oL,hoL,I.free⟩ hs,by simpa using I.len⟩ ⟨_,hs,.inl rfl⟩
  ·exact(hs.2 b (CI (CM (Heap.lt_size e) I.ok.above))).trans (I.base.keep b o e n hb hx)
  ·obtain⟨sl,e1⟩:=I.base.slot b o e n hb hx
   exact⟨sl,(hs.2 b (CI (CM (Heap.lt_size e) I.ok.above))).trans e1⟩
  ·obtain⟨o',e1⟩:=I.base.there b o e hx
   exact⟨o',(hs.2 b (CI (CM (Heap.lt_size e) I.ok.above))).trans e1⟩
  ·by_cases hj:j=i
   ·subst hj
    rw[hi] at e1;cases e1
    rw[CU hiσ] at e2
    cases e2
    exact⟨u,r,.inl ⟨hk,by simp⟩⟩
   ·rw[C6 (Ne.symm hj)] at e2
    obtain⟨u',r',q⟩:=hl j y v' e1 e2 e3
    refine⟨u',r',?_⟩
    rcases q with ⟨k,e⟩|⟨k,c,e,z⟩
    ·refine .inl ⟨k,?_⟩
     have:y≠x:=λ e=>hj (l9 hN e1 (e ▸ hi))
     simp[this,e]
    ·exact .inr ⟨k,c,e,z.sameBut hs (cne y c e)⟩
  ·obtain⟨w',z⟩:=I.cell y c e
   exact⟨w',z.sameBut hs (cne y c e)⟩
  ·obtain⟨e,n,ne,nf,d⟩:=I.pin p hp
   exact⟨(hs.2 p.1 ne).trans e,n,ne,nf,d⟩
 ·have hfn:X.fn x=true:=by
   rcases hf with z|z
   ·exact z
   ·rw[z] at hk;cases hk
  obtain⟨c,hc⟩:=I.ok.has x (.inl hk)
  obtain⟨w',z⟩:=I.cell x c hc
  refine wpAny_storeName_cell I.ok.kind hk hc z (λ h' hc' hs=>?_)
  obtain⟨oc,hoc,hocd⟩:=id z
  refine h { s with heap:=h' } ⟨I.ok,I.os,I.bare,⟨λ b o e n hb hx=>?_,λ b o e n hb hx=>?_,I.base.free,λ b o e hx=>?_,I.base.tups,I.base.frzs,I.base.tbls⟩,⟨m,hn.sameBut hs (Ne.symm (cne x c hc)),λ j y v' e1 e2 e3=>?_⟩,λ y c' e=>?_,I.free,I.freeC,λ p hp=>?_,tracked ⟨oc,hoc,(I.freeC x c hc).elim id λ z=>absurd (hfn.symm.trans z.1) (by decide)⟩ hs,by simpa using I.len⟩ ⟨c,hs,.inr hc⟩
  ·exact(hs.2 b (CI (CM (Heap.lt_size e) (I.ok.cab x c hfn hc)))).trans (I.base.keep b o e n hb hx)
  ·obtain⟨sl,e1⟩:=I.base.slot b o e n hb hx
   exact⟨sl,(hs.2 b (CI (CM (Heap.lt_size e) (I.ok.cab x c hfn hc)))).trans e1⟩
  ·obtain⟨o',e1⟩:=I.base.there b o e hx
   exact⟨o',(hs.2 b (CI (CM (Heap.lt_size e) (I.ok.cab x c hfn hc)))).trans e1⟩
  ·by_cases hj:j=i
   ·subst hj
    rw[hi] at e1;cases e1
    rw[CU hiσ] at e2
    cases e2
    exact⟨u,r,.inr ⟨.inl hk,c,hc,hc'⟩⟩
   ·rw[C6 (Ne.symm hj)] at e2
    obtain⟨u',r',q⟩:=hl j y v' e1 e2 e3
    refine⟨u',r',?_⟩
    rcases q with q|⟨k,c',e,z'⟩
    ·exact .inl q
    ·refine .inr ⟨k,c',e,z'.sameBut hs ?_⟩
     rintro rfl
     exact hj (l9 hN e1 (I.ok.inj _ _ _ e hc ▸ hi))
  ·by_cases hcc:c'=c
   ·subst hcc;exact⟨_,hc'⟩
   ·obtain⟨w2,z2⟩:=I.cell y c' e
    exact⟨w2,z2.sameBut hs hcc⟩
  ·obtain⟨e,n,ne,nf,d⟩:=I.pin p hp
   refine⟨(hs.2 p.1 ?_).trans e,n,ne,nf,d⟩
   intro q
   rw[q,hoc] at e
   have q':oc=p.2:=Option.some.inj e
   exact d w' (by rw[<- q'];exact hocd)
theorem iO (I:Inv X pins σ H s) (d:X.N.Nodup) (hi:X.N[i]? = some x) (g:Loc X.env.scope x) (r:RelV v u)
  (h:∀ b,Inv X pins (σ.set i (some v)) H b->Q () b) (f:X.fn x=true\/X.env.scope.names.lookup x=some .local:=by first|exact .inl rfl|exact .inr rfl|assumption):wpAny M A (storeName X.env x u) Q E s:=
 jW I d hi g r (λ b c _=>h b c) f
theorem Inv.Bm (I:Inv X pins σ H s) (i:s'.os=s.os) (u:Un (frs X.stack) ch H H' s.heap s'.heap) (f:HOk X.prog X.w H' s'.heap) (g:AllBare s'.gens)
  (d:∀ b∈ch,(b∈X.ex\/X.s₀.heap.objs.size<=b)/\b≠X.env.locals/\(∀ x c,X.env.cells.lookup x=some c->c≠b)/\∀ p∈X.pn++pins,p.1≠b):Inv X pins σ H' s':=by
 obtain⟨h',g',d',t',o'⟩:=s'
 have e:o'=s.os:=i
 subst e
 exact I.call (g':=g') (t':=t') (d':=d') u f g d
end
noncomputable abbrev XK:=Value->Option Addr->Hp->Prop
noncomputable abbrev St:=List (Option V)
noncomputable abbrev VK:=V->Hp->Prop
noncomputable abbrev TE:=St->Hp->VK->Prop
noncomputable abbrev TT:=St->Hp->(Bool->Hp->Prop)->Prop
noncomputable abbrev TA:=St->Hp->(List V->Hp->Prop)->Prop
structure Ends where
 nx:St->Hp->Prop
 rt:VK
 bk:St->Hp->Prop:=λ _ _=>False
 ct:St->Hp->Prop:=λ _ _=>False
noncomputable abbrev TS:=Ends->St->Hp->Prop
noncomputable def EP (X:Cx) (pins:List (Addr×Obj)) (σ:St) (Q:VK) (u:Value) (s':Shared):Prop:=∃ v H',Inv X pins σ H' s'/\RelV v u/\Q v H'
noncomputable def TP (X:Cx) (pins:List (Addr×Obj)) (σ:St) (Q:Bool->Hp->Prop) (b:Bool) (s':Shared):Prop:=∃ H',Inv X pins σ H' s'/\Q b H'
noncomputable def AP (X:Cx) (pins:List (Addr×Obj)) (σ:St) (Q:List V->Hp->Prop) (us:List Value) (s':Shared):Prop:=∃ vs H',Inv X pins σ H' s'/\Vals vs us/\Q vs H'
noncomputable def SP (X:Cx) (pins:List (Addr×Obj)) (D:Ends) (f:Flow) (s':Shared):Prop:=
 match f with
 | .next=>∃ σ' H',Inv X pins σ' H' s'/\D.nx σ' H'
 | .brk=>∃ σ' H',Inv X pins σ' H' s'/\D.bk σ' H'
 | .cont=>∃ σ' H',Inv X pins σ' H' s'/\D.ct σ' H'
 | .ret u=>∃ v σ' H',Inv X pins σ' H' s'/\RelV v u/\D.rt v H'
noncomputable def PE (X:Cx) (e:Expr) (t:TE):Prop:=
 ∀ (pins:List (Addr×Obj)) (s:Shared) (σ:St) (H:Hp) (Q:VK),Inv X pins σ H s->t σ H Q->wpAny (model X.prog X.w) X.A (eval e X.env) (EP X pins σ Q) X.xe s
noncomputable def PT (X:Cx) (e:Expr) (t:TT):Prop:=
 ∀ (pins:List (Addr×Obj)) (s:Shared) (σ:St) (H:Hp) (Q:Bool->Hp->Prop),Inv X pins σ H s->t σ H Q->wpAny (model X.prog X.w) X.A (isTrue e X.env (eval e X.env)) (TP X pins σ Q) X.xe s
noncomputable def PW (X:Cx) (e:Expr) (t:TT):Prop:=
 ∀ (whole:Sem Value) (pins:List (Addr×Obj)) (s:Shared) (σ:St) (H:Hp) (Q:Bool->Hp->Prop),Inv X pins σ H s->t σ H Q->wpAny (model X.prog X.w) X.A (isTrue e X.env whole) (TP X pins σ Q) X.xe s
theorem PW.pt (h:PW X e t):PT X e t:=h _
noncomputable def PA (X:Cx) (es:List Expr) (t:TA):Prop:=
 ∀ (pos:Pos) (pins:List (Addr×Obj)) (s:Shared) (σ:St) (H:Hp) (Q:List V->Hp->Prop),Inv X pins σ H s->t σ H Q->wpAny (model X.prog X.w) X.A (spliced (backTo pos (starEach es X.env))) (AP X pins σ Q) X.xe s
noncomputable def PS (X:Cx) (st:Stmt) (t:TS):Prop:=
 ∀ (pins:List (Addr×Obj)) (s:Shared) (σ:St) (H:Hp) (D:Ends),Inv X pins σ H s->t D σ H->wpAny (model X.prog X.w) X.A (exec st X.env) (SP X pins D) X.xe s
noncomputable def PSs (X:Cx) (st:List Stmt) (t:TS):Prop:=
 ∀ (pins:List (Addr×Obj)) (s:Shared) (σ:St) (H:Hp) (D:Ends),Inv X pins σ H s->t D σ H->wpAny (model X.prog X.w) X.A (execs st X.env) (SP X pins D) X.xe s
theorem thn (h:wpAny M A t Q E s) (b:∀ a s,Q a s->Q' a s):wpAny M A t Q' E s:=Dp h b λ _ _ x=>x
section
variable {X:Cx}
noncomputable def cM (i:Nat):TE:=λ σ H Q=>∃ v,σ[i]? = some (some v)/\Q v H
noncomputable def tC (v:V):TE:=λ _ H Q=>Q v H
theorem qY (n:X.N[i]? = some x) (y:Vis X.env.scope x) (j:(x == ("__debug__" : Str))=false:=by decide) (g:(x == ("__classdict__" : Str))=false:=by decide):PE X (.Name x pos) (cM i):=by
 intro pins s σ H Q I h
 obtain⟨v,e,h⟩:=h
 obtain⟨m,t,p⟩:=I.loc
 obtain⟨u,r,l⟩:=p i x v n e y
 have d:EP X pins σ Q u s:=⟨v,H,I,r,h⟩
 rcases l with ⟨f,q⟩|⟨f,c,k,b⟩
 ·exact wpAny_Name (wpAny_loadName_local I.ok.kind f t q d) j
 ·rcases f with f|f
  ·exact wpAny_Name (wpAny_loadName_cell I.ok.kind f k b d) j
  ·exact wpAny_Name (wpAny_loadName_free I.ok.kind f k b d g) j
theorem aN {i j pos}:PE X (.Constant (.int i) j pos) (tC (.int i)):=λ _ _ _ H _ I h=>wpAny_Constant_int ⟨.int i,H,I.tok _,⟨_,rfl⟩,h⟩
theorem eI {b j pos}:PE X (.Constant (.bool b) j pos) (tC (.bl b)):=λ _ _ _ H _ I h=>Constant_bool ⟨.bl b,H,I,rfl,h⟩
theorem fV {j pos}:PE X (.Constant .none j pos) (tC .non):=λ _ _ _ H _ I h=>Constant_none ⟨.non,H,I,rfl,h⟩
theorem dk {x j pos}:PE X (.Constant (.str x) j pos) (tC (.str x)):=λ _ _ _ H _ I h=>Calls.Constant_str ⟨.str x,H,I.tok _,⟨_,rfl⟩,h⟩
noncomputable def Gl (X:Cx) (x:Str):Prop:=X.env.kindOf x=some .globalImplicit
theorem gC (I:Inv X pins σ H s) (c:Gl X x) (d:X.mg x=some u) (h:Q u s)
  (b:(x == ("__debug__" : Str))=false:=by decide):wpAny (model X.prog X.w) X.A (eval (.Name x pos) X.env) Q E s:=
 Calls.Name_function_global I.ok.kind c (Calls.loadGlobal_global (by rw[I.ok.glob];exact I.mod.glob.keeps I.bk) d h) b
theorem eJ (I:Inv X pins σ H s) (c:Gl X x) (d:X.mg x=none) (g:bootBuiltins x=some u) (h:Q u s)
  (f:x ≠ "__name__":=by decide) (b:(x == ("__debug__" : Str))=false:=by decide):wpAny (model X.prog X.w) X.A (eval (.Name x pos) X.env) Q E s:=by
 obtain⟨i,h1,h2⟩:=I.mod.blt
 exact Calls.Name_function_global I.ok.kind c (Calls.loadGlobal_builtin (by rw[I.ok.glob];exact I.mod.glob.keeps I.bk) d (by rw[I.ok.blt];exact h1.keeps I.bk) ((h2 x f).trans g) h) b
theorem uz (c:Gl X x) (d:X.mg x=some u) (r:RelV v u) (b:(x == ("__debug__" : Str))=false:=by decide):PE X (.Name x pos) (tC v):=
 λ _ _ _ H _ I h=>gC I c d ⟨v,H,I,r,h⟩ b
theorem iz (c:Gl X x) (d:X.mg x=none) (g:bootBuiltins x=some u) (r:RelV v u) (f:x ≠ "__name__":=by decide) (b:(x == ("__debug__" : Str))=false:=by decide):PE X (.Name x pos) (tC v):=
 λ _ _ _ H _ I h=>eJ I c d g ⟨v,H,I,r,h⟩ f b
variable {a b:Expr}{ta tb:TE}{pos:Pos}
noncomputable def PC (X:Cx) (op:CmpOp) (a b:Expr) (t:TE):Prop:=
 ∀ (pins:List (Addr×Obj)) (s:Shared) (σ:St) (H:Hp) (Q:VK),Inv X pins σ H s->t σ H Q ->
  wpAny (model X.prog X.w) X.A (eval a X.env) (λ v s₁=>wpAny (model X.prog X.w) X.A (eval b X.env) (λ u s₂=>wpAny (model X.prog X.w) X.A (compareOp op v u) (EP X pins σ Q) X.xe s₂) X.xe s₁) X.xe s
theorem xX (b:Expr) (h:op≠.In) (h2:op≠.NotIn):behindInMarks op b=false:=by
 have c:(op == CmpOp.In)=false:=by cases op<;>first|rfl|exact absurd rfl h
 have d:(op == CmpOp.NotIn)=false:=by cases op<;>first|rfl|exact absurd rfl h2
 cases b<;>simp[behindInMarks,c,d]
noncomputable def tB (t:TE):TT:=λ σ H Q=>t σ H λ x H1=>∃ c,x=.bl c/\Q c H1
theorem j7 (h:PC X op a b t) (h1:behindInMarks op b=false:=by first|exact f _ (by decide) (by decide)|rfl):PT X (.Compare a [op] [b] pos) (tB t):=by
 intro pins s σ H Q I i
 refine wpAny_isTrue_Compare1 (thn (h pins s σ H _ I i) λ v l h1=>thn h1 λ u m h2=>thn h2 λ c n ⟨x,H1,g,k,j⟩=>?_) h1
 obtain⟨d,rfl,q⟩:=j
 cases k
 exact DP ⟨H1,g,q⟩
theorem bO {e:Expr}{t:TE}(h:PE X e t) (he:∀ whole,isTrue e X.env whole=(do let v <- whole;standAt e.pos;holding [v] (truthy v)):=by intro _;rfl):PT X e (tB t):=by
 intro pins s σ H Q I hw
 refine isTrue_plain (thn (h pins s σ H _ I hw) λ v s1 ⟨x,H1,I1,r1,q1⟩=>?_) (he _)
 obtain⟨d,rfl,q⟩:=q1
 cases r1
 exact DP ⟨H1,I1,q⟩
variable {tA tB':TT}{rest:List Expr}
noncomputable def yR (t u:TT):TT:=λ σ H Q=>t σ H λ c H1=>if c=true then u σ H1 Q else Q false H1
noncomputable def tOr (t u:TT):TT:=λ σ H Q=>t σ H λ c H1=>if c=true then Q true H1 else u σ H1 Q
noncomputable def Cj (t:TT):TT:=λ σ H Q=>t σ H λ c H1=>Q (!c) H1
theorem gK (d:PT X a tA):PW X (.BoolOp .And [a] pos) tA:=by
 intro g pins s σ H Q I h
 refine isTrue_and (thn (d pins s σ H Q I h) λ c f e=>?_)
 cases c with
 | true=>exact isTrue_and_nil e
 | false=>exact e
theorem fD (d:PT X a tA):PW X (.BoolOp .Or [a] pos) tA:=by
 intro g pins s σ H Q I h
 refine isTrue_or (thn (d pins s σ H Q I h) λ c f e=>?_)
 cases c with
 | false=>exact isTrue_or_nil e
 | true=>exact e
theorem iL (g:PT X a tA) (i:PW X (.BoolOp .And (b::rest) pos) tB'):PW X (.BoolOp .And (a::b::rest) pos) (yR tA tB'):=by
 intro k pins s σ H Q I h
 refine isTrue_and (thn (g pins s σ H _ I h) λ c j ⟨H1,d,f⟩=>?_)
 cases c with
 | true=>exact i k pins j σ H1 Q d f
 | false=>exact⟨H1,d,f⟩
theorem eX (g:PT X a tA) (i:PW X (.BoolOp .Or (b::rest) pos) tB'):PW X (.BoolOp .Or (a::b::rest) pos) (tOr tA tB'):=by
 intro k pins s σ H Q I h
 refine isTrue_or (thn (g pins s σ H _ I h) λ c j ⟨H1,d,f⟩=>?_)
 cases c with
 | true=>exact⟨H1,d,f⟩
 | false=>exact i k pins j σ H1 Q d f
theorem b9 (d:PT X a tA):PT X (.UnaryOp .Not a pos) (Cj tA):=by
 intro pins s σ H Q I h
 exact isTrue_not (d pins s σ H (λ c H1=>Q (!c) H1) I h)
noncomputable def xy (ta tb:TE):TE:=λ σ H Q=>ta σ H λ x H1=>∃ c,x=.bl c/\if c=true then tb σ H1 Q else Q (.bl false) H1
noncomputable def B4 (ta tb:TE):TE:=λ σ H Q=>ta σ H λ x H1=>∃ c,x=.bl c/\if c=true then Q (.bl true) H1 else tb σ H1 Q
noncomputable def yX (ta:TE):TE:=λ σ H Q=>ta σ H λ x H1=>∃ c,x=.bl c/\Q (.bl (!c)) H1
theorem jc {op}(h:PE X a t):PE X (.BoolOp op [a] pos) t:=λ pins s σ H Q I c=>BoolOp_one (h pins s σ H Q I c)
theorem ko (g:PE X a ta) (i:PE X (.BoolOp .And (b::rest) pos) tb):PE X (.BoolOp .And (a::b::rest) pos) (xy ta tb):=by
 intro pins s σ H Q I h
 refine BoolOp_and (thn (g pins s σ H _ I h) λ v k ⟨x,H1,f,j,d⟩=>?_)
 obtain⟨c,rfl,d⟩:=d
 cases j
 refine DP ?_
 cases c with
 | true=>exact i pins k σ H1 Q f d
 | false=>exact⟨.bl false,H1,f,rfl,d⟩
theorem zy (g:PE X a ta) (i:PE X (.BoolOp .Or (b::rest) pos) tb):PE X (.BoolOp .Or (a::b::rest) pos) (B4 ta tb):=by
 intro pins s σ H Q I h
 refine BoolOp_or (thn (g pins s σ H _ I h) λ v k ⟨x,H1,f,j,d⟩=>?_)
 obtain⟨c,rfl,d⟩:=d
 cases j
 refine DP ?_
 cases c with
 | false=>exact i pins k σ H1 Q f d
 | true=>exact⟨.bl true,H1,f,rfl,d⟩
theorem mQ (g:PE X a ta):PE X (.UnaryOp .Not a pos) (yX ta):=by
 intro pins s σ H Q I h
 refine UnaryOp_ (thn (g pins s σ H _ I h) λ v j ⟨x,H1,f,i,d⟩=>?_)
 obtain⟨c,rfl,d⟩:=d
 cases i
 exact not_of (DP ⟨.bl (!c),H1,f,rfl,d⟩)
end
noncomputable def SqL (K:PySem.W.Frag) (H:Hp) (a:Addr) (xs:List V):Prop:=
 Rd H a (.lst xs) \/
  ∃ (o:Obj) (its:Array Value) (n:Nat),K.lookup a=some o/\o.cls=.type "list" /\ o.dict=none/\o.data=.seq its n/\its.size<=sizeLine/\Vals xs its.toList
noncomputable def SqT (K:PySem.W.Frag) (H:Hp) (a:Addr) (xs:List V):Prop:=
 Rd H a (.tup xs) \/
  ∃ (o:Obj) (its:Array Value) (n:Nat),K.lookup a=some o/\o.cls=.type "tuple" /\ o.data=.seq its n/\its.size<=sizeLine/\Vals xs its.toList
noncomputable def Cg:Value->Option V
 | .none=>some .non
 | .bool b=>some (.bl b)
 | .int i _=>some (.int i)
 | .str x _=>some (.str x)
 | .bytes b _=>some (.byt b)
 | .float b _=>some (.flt b)
 | .ref a=>some (.ref a)
 | .type n=>some (.ty n)
 | _=>none
theorem RelV.abs {x:V}{u:Value}(r:RelV x u):Cg u=some x:=by
 cases x with
 | non=>cases r;rfl
 | bl _=>cases r;rfl
 | int _=>obtain⟨t,rfl⟩:=r;rfl
 | str _=>obtain⟨t,rfl⟩:=r;rfl
 | byt _=>obtain⟨t,rfl⟩:=r;rfl
 | flt _=>obtain⟨t,rfl⟩:=r;rfl
 | ref _=>cases r;rfl
 | ty _=>cases r;rfl
theorem RelV.inj (r:RelV x u) (q:RelV y u):x=y:=Option.some.inj (r.abs.symm.trans q.abs)
theorem Vals.inj:∀ {xs ys:List V}{us:List Value},Vals xs us->Vals ys us->xs=ys
 | _,_,_,.nil,.nil=>rfl
 | _,_,_,.cons r t,.cons c d=>by rw[r.inj c,Vals.inj t d]
section
variable {X:Cx}{pins:List (Addr×Obj)}{σ:St}{H:Hp}{s:Shared}{a:Addr}{xs ys:List V}
theorem SqL.of {K:PySem.W.Frag}(h:H a=some (.lst xs)):SqL K H a xs:=.inl (.inl h)
theorem SqT.of {K:PySem.W.Frag}(h:H a=some (.tup xs)):SqT K H a xs:=.inl (.inl h)
theorem Inv.list (I:Inv X pins σ H s) (h:SqL X.K H a xs):∃ its:List Value,Vals xs its/\PlainL s.heap a its.toArray/\xs.length<=sizeLine:=by
 rcases h with h|⟨o,its,n,f,c,d,g,i,r⟩
 ·obtain⟨z,its,n,r,e⟩:=h.ok I.hok
  exact⟨its,r,⟨_,n,e,rfl,rfl,rfl⟩,z⟩
 ·refine⟨its.toList,r,⟨o,n,I.kIn a o f,c,d,by simpa using g⟩,?_⟩
  have e:=r.length
  simp only[CK] at e
  lia
theorem Inv.tuple (I:Inv X pins σ H s) (h:SqT X.K H a xs):∃ its:List Value,Vals xs its/\IsTup s.heap a its.toArray/\xs.length<=sizeLine:=by
 rcases h with h|⟨o,its,n,d,c,f,g,r⟩
 ·obtain⟨z,its,r,p⟩:=h.ok I.hok
  exact⟨its,r,p,z⟩
 ·refine⟨its.toList,r,⟨o,I.kIn a o d,c,n,by simpa using f⟩,?_⟩
  have e:=r.length
  simp only[CK] at e
  lia
theorem Inv.eM (I:Inv X pins σ H s) (h:SqL X.K H a xs) (h':SqL X.K H a ys):xs=ys:=by
 obtain⟨f,r,⟨o,n,e,_,_,d⟩,_⟩:=I.list h
 obtain⟨c,k,⟨o',l,i,_,_,g⟩,_⟩:=I.list h'
 rw[e] at i;cases i
 rw[d] at g
 injection g with j _
 have:f=c:=by simpa using congrArg Array.toList j
 subst this
 exact r.inj k
theorem Inv.o9 (I:Inv X pins σ H s) (h:SqT X.K H a xs) (h':SqT X.K H a ys):xs=ys:=by
 obtain⟨f,r,⟨o,e,_,n,d⟩,_⟩:=I.tuple h
 obtain⟨c,k,⟨o',i,_,l,g⟩,_⟩:=I.tuple h'
 rw[e] at i;cases i
 rw[d] at g
 injection g with j _
 have:f=c:=by simpa using congrArg Array.toList j
 subst this
 exact r.inj k
end
noncomputable abbrev Cx.iJ (X:Cx) (E:Value->Shared->Prop):Cx:={ X with xe:=E }
noncomputable abbrev Cx.nox (X:Cx):Cx:=X.iJ λ _ _=>False
theorem Cx.Ok.iJ {X:Cx}(c:X.Ok) (E:Value->Shared->Prop):(X.iJ E).Ok:=
 ⟨c.mod,c.kind,c.glob,c.blt,c.above,c.inj,c.has,c.cab,c.hd,c.frames,c.stk,c.exf,c.bs,c.bsz,c.noex,c.exfs,c.gS,c.frf⟩
theorem Cx.Ok.eK {X:Cx}{E:Value->Shared->Prop}(c:(X.iJ E).Ok):X.Ok:=
 ⟨c.mod,c.kind,c.glob,c.blt,c.above,c.inj,c.has,c.cab,c.hd,c.frames,c.stk,c.exf,c.bs,c.bsz,c.noex,c.exfs,c.gS,c.frf⟩
section
variable {X:Cx}{pins:List (Addr×Obj)}{σ:St}{H:Hp}{s:Shared}{E:Value->Shared->Prop}
theorem Inv.iJ (I:Inv X pins σ H s) (E:Value->Shared->Prop):Inv (X.iJ E) pins σ H s:=⟨I.ok.iJ E,I.os,I.bare,I.base,I.loc,I.cell,I.free,I.freeC,I.pin,I.hok,I.len⟩
theorem Inv.eK (I:Inv (X.iJ E) pins σ H s):Inv X pins σ H s:=⟨I.ok.eK,I.os,I.bare,I.base,I.loc,I.cell,I.free,I.freeC,I.pin,I.hok,I.len⟩
theorem SP.eK (h:SP (X.iJ E) pins D f s'):SP X pins D f s':=by
 cases f with
 | next=>obtain⟨c,H',I,q⟩:=h;exact⟨c,H',I.eK,q⟩
 | brk=>obtain⟨c,H',I,q⟩:=h;exact⟨c,H',I.eK,q⟩
 | cont=>obtain⟨c,H',I,q⟩:=h;exact⟨c,H',I.eK,q⟩
 | ret u=>obtain⟨v,c,H',I,r,q⟩:=h;exact⟨v,c,H',I.eK,r,q⟩
theorem PSs.nox {st:List Stmt}{t:TS}(h:PSs X.nox st t):PSs X st t:=λ pins s σ H D I c=>
 Dp (h pins s σ H D (I.iJ _) c) (λ _ _ q=>q.eK) λ _ _ z=>False.elim z
end
section
variable {X:Cx}{st:Stmt}{rest:List Stmt}{t u:TS}{e:Expr}{te:TE}{pos:Pos}
noncomputable def rO:TS:=λ D σ H=>D.nx σ H
noncomputable def qg (t u:TS):TS:=λ D σ H=>t { D with nx:=u D } σ H
theorem bp:PSs X [] rO:=λ _ _ σ H _ I h=>FP ⟨σ,H,I,h⟩
theorem aH (h1:PS X st t) (h2:PSs X rest u):PSs X (st::rest) (qg t u):=by
 intro pins s σ H D I h
 refine Fd (thn (h1 pins s σ H { D with nx:=u D } I h) λ f s1 q=>?_)
 cases f with
 | next=>
  obtain⟨σ',H',I',q⟩:=q
  exact h2 pins s1 σ' H' D I' q
 | ret v=>exact q
 | brk=>exact q
 | cont=>exact q
theorem aI (h1:PS X st t):PSs X [st] t:=by
 intro pins s σ H D I h
 refine Fd (thn (h1 pins s σ H D I h) λ f c q=>?_)
 cases f with
 | next=>exact FP q
 | ret v=>exact q
 | brk=>exact q
 | cont=>exact q
theorem Inv.quiet (I:Inv X pins σ H s):interactive X.env=false:=by simp[interactive,I.ok.kind]
noncomputable def yp (te:TE):TS:=λ D σ H=>te σ H λ _ H1=>D.nx σ H1
theorem aZ (d:PE X e te) (hs:swapsWith e none pos.line X.env=pure false:=by rfl):PS X (.Expr e pos) (yp te):=by
 intro pins s σ H D I h
 exact wpAny_Expr_any (thn (d pins s σ H _ I h) λ v i ⟨x,H1,c,g,f⟩=>⟨σ,H1,c,f⟩) I.quiet hs
noncomputable def sD (te:TE):TS:=λ D σ H=>te σ H D.rt
theorem aW (d:PE X e te):PS X (.Return (some e) pos) (sD te):=by
 intro pins s σ H D I h
 exact wpAny_Return_some (thn (d pins s σ H _ I h) λ v i ⟨x,H1,c,g,f⟩=>⟨x,σ,H1,c,g,f⟩)
noncomputable def vA:TS:=λ D _ H=>D.rt .non H
theorem oG:PS X (.Return none pos) vA:=λ _ _ σ H _ I h=>wpAny_Return_none ⟨.non,σ,H,I,rfl,h⟩
noncomputable def sC (c:TT) (t u:TS):TS:=λ D σ H=>c σ H λ b H1=>if b=true then t D σ H1 else u D σ H1
theorem bH (l:PT X c tc) (j:PSs X a t) (k:PSs X b u):PS X (.If c a b pos) (sC tc t u):=by
 intro pins s σ H D I h
 refine wpAny_If (thn (l pins s σ H _ I h) λ d i ⟨H1,f,g⟩=>?_)
 cases d with
 | true=>exact j pins i σ H1 D f g
 | false=>exact k pins i σ H1 D f g
noncomputable def vW:TS:=λ _ _ _=>False
theorem gG:PS X st vW:=λ _ _ _ _ _ _ h=>h.elim
end
noncomputable abbrev TG:=V->St->Hp->(St->Hp->Prop)->Prop
noncomputable abbrev TGs:=List V->St->Hp->(St->Hp->Prop)->Prop
noncomputable def PG (X:Cx) (target:Expr) (t:TG):Prop:=
 ∀ (pins:List (Addr×Obj)) (s:Shared) (σ:St) (H:Hp) (v:V) (u:Value) (Q:St->Hp->Prop),Inv X pins σ H s->RelV v u->t v σ H Q ->
  wpAny (model X.prog X.w) X.A (assign target X.env u) (λ _ s'=>∃ σ' H',Inv X pins σ' H' s'/\Q σ' H') X.xe s
noncomputable def PGs (X:Cx) (ts:List Expr) (t:TGs):Prop:=
 ∀ (pins:List (Addr×Obj)) (s:Shared) (σ:St) (H:Hp) (vs:List V) (us:List Value) (Q:St->Hp->Prop),Inv X pins σ H s->Vals vs us->t vs σ H Q ->
  wpAny (model X.prog X.w) X.A (assignInOrder ((assignEach ts X.env).map (·.2)) us) (λ _ s'=>∃ σ' H',Inv X pins σ' H' s'/\Q σ' H') X.xe s
section
variable {X:Cx}{pos:Pos}
noncomputable def ck (i:Nat):TG:=λ v σ H Q=>Q (σ.set i (some v)) H
theorem aR (d:X.N.Nodup) (hi:X.N[i]? = some x) (g:Loc X.env.scope x) (f:X.fn x=true\/X.env.scope.names.lookup x=some .local:=by first|exact .inl rfl|exact .inr rfl|assumption):PG X (.Name x pos) (ck i):=by
 intro pins s σ H v u Q I r h
 exact wpAny_assign_Name (iO I d hi g r (λ j c=>⟨_,H,c,h⟩) f)
noncomputable def B5:TGs:=λ vs σ H Q=>vs=[]/\Q σ H
noncomputable def BA (t:TG) (u:TGs):TGs:=λ vs σ H Q=>∃ v r,vs=v::r/\t v σ H λ σ' H'=>u r σ' H' Q
theorem cJ:PGs X [] B5:=by
 intro pins s σ H d c Q I r h
 obtain⟨e,h⟩:=h
 subst e
 cases r
 exact assignInOrder_nil ⟨σ,H,I,h⟩
theorem bB (h1:PG X e t) (h2:PGs X es u)
  (hs:(assignEach (e::es) X.env).map (·.2)=assign e X.env::(assignEach es X.env).map (·.2):=by rfl):PGs X (e::es) (BA t u):=by
 intro pins s σ H m k Q I r h
 obtain⟨v,l,f,h⟩:=h
 subst f
 cases r with
 | cons r i=>
  rw[hs]
  refine assignInOrder_cons (thn (h1 pins s σ H _ _ _ I r h) λ _ j ⟨c,H1,d,g⟩=>?_)
  exact h2 pins j c H1 _ _ Q d i g
noncomputable def zP (K:PySem.W.Frag) (n:Nat) (t:TGs):TG:=λ v σ H Q=>∃ a xs,v=.ref a/\SqT K H a xs/\xs.length=n/\t xs σ H Q
theorem vI (j:X.calm=true) (h:PGs X es t)
  (m:(assignEach es X.env).length=n:=by rfl) (c:(assignEach es X.env).findIdx? (·.1)=none:=by rfl):PG X (.Tuple es k pos) (zP X.K n t):=by
 intro pins s σ H v u Q I r d
 obtain⟨a,xs,i,p,l,d⟩:=d
 subst i
 cases r
 obtain⟨z,f,q,A⟩:=I.tuple p
 refine assign_Tuple_tuple (I.ok.hd j) q (by simp[m,<- l,f.length]) c λ h' y=>?_
 have g:Inv X pins σ H { s with heap:=h' }:=I.kept (t':=s.toks) λ b o e=>y b o (CI (Heap.lt_size e)) e
 exact h pins _ σ H xs _ Q g (by simpa using f) d
noncomputable def zu (te:TE) (g:TG):TS:=λ D σ H=>te σ H λ x H1=>g x σ H1 D.nx
theorem aY (f:X.N.Nodup) (hi:X.N[i]? = some x) (k:Loc X.env.scope x) (g:PE X e te) (hs:swapsWith e (some (.Name x pos')) pos.line X.env=pure false:=by rfl) (j:X.fn x=true\/X.env.scope.names.lookup x=some .local:=by first|exact .inl rfl|exact .inr rfl|assumption) :
  PS X (.Assign [.Name x pos'] e pos) (zu te (ck i)):=by
 intro pins s σ H D I h
 refine wpAny_Assign_Name (thn (g pins s σ H _ I h) λ v n ⟨y,H1,c,m,l⟩=>?_) hs
 exact iO c f hi k m (λ p d=>⟨_,H1,d,l⟩) j
end
section
variable {X:Cx}{pos:Pos}
noncomputable def vZ (c:TT) (tb:TS):TS:=λ D σ H=>∃ W:Nat->St->Hp->Prop,(∃ m,W m σ H)/\∀ m σ H,W m σ H ->
 c σ H λ b H1=>if b=true then ∃ N:St->Hp->Prop,(∀ σ' H',N σ' H'->∃ m',m'<m/\W m' σ' H')/\tb { D with nx:=N,ct:=N,bk:=D.nx } σ H1 else D.nx σ H1
theorem lM (C:PassesOwn (model X.prog X.w) X.A X.env X.xe) (J:PT X c tc) (G:PSs X body tb):PS X (.While c body [] pos) (vZ tc tb):=by
 intro pins s σ H D I h
 obtain⟨W,⟨K,Q⟩,j⟩:=h
 refine wpAny_While (codeAny_whileLoop (λ n L=>∃ k H',Inv X pins k H' L/\W n k H') ?_ K ⟨σ,H,I,Q⟩)
 rintro n M ⟨g,H1,F,R⟩
 refine EF C (thn (J pins M g H1 _ F (j n g H1 R)) λ b O ⟨H2,A,l⟩=>?_)
 cases b with
 | true=>
  obtain⟨N,B,l⟩:=l
  rw[CG rfl]
  refine EF C (thn (G pins O g H2 _ A l) λ f S m=>?_)
  cases f with
  | next=>
   obtain⟨d,i,p,y⟩:=m
   obtain⟨r,q,z⟩:=B d i y
   exact⟨r,q,d,i,p,z⟩
  | cont=>
   obtain⟨d,i,p,y⟩:=m
   obtain⟨r,q,z⟩:=B d i y
   exact⟨r,q,d,i,p,z⟩
  | brk=>exact m
  | ret v=>exact m
 | false=>
  rw[CD CQ]
  exact FP ⟨g,H2,A,l⟩
end
structure It where
 go:Nat->Hp->Prop
 yld:Nat->Hp->V->Hp->Prop
 stop:Nat->Hp->Prop
noncomputable def iG (X:Cx) (pins:List (Addr×Obj)) (H:Hp) (b:Addr):Prop:=
 H b=none/\b≠X.env.locals/\b∉X.fs/\(b∈X.ex\/X.s₀.heap.objs.size<=b)/\(∀ x c,X.env.cells.lookup x=some c->c≠b)/\∀ p∈X.pn++pins,p.1≠b
theorem Inv.kD (I:Inv X pins σ H s) (d:s.heap.objs.size<=b) (f:H' b=none):iG X pins H' b:=by
 refine⟨f,DA (CM I.lt d),I.Ck d,.inr (CV I.sz d),λ x c e z=>?_,λ p g z=>?_⟩
 ·obtain⟨v,q⟩:=I.cell x c e
  exact absurd (CM q.lt (by rw[z];exact d)) (DS _)
 ·exact absurd (CM (Heap.lt_size (I.pin p g).1) (by rw[z];exact d)) (DS _)
structure Turn (P:Program) (w:World) (K:PySem.W.Frag) (tg:Expr) (J:It) (fp:List Addr) (it:Addr) (tn:Nat->Heap->Prop):Prop where
 mem:it∈fp
 obj:∀ i h,tn i h->∀ b∈fp,∃ o,h.get? b=some o/\∀ v,o.data≠.cell v
 keep:∀ i h h',tn i h->(∀ b∈fp,∀ o,h.get? b=some o->h'.get? b=some o)->tn i h'
 item:∀ (X:Cx),X.prog=P->X.w=w->X.K=K->X.calm=true->∀ (i:Nat) (pins:List (Addr×Obj)) (s:Shared) (σ:St) (H:Hp) (E:Value->Shared->Prop),Inv X pins σ H s->(∀ b∈fp,iG X pins H b)->tn i s.heap->J.go i H ->
  wpAny (model P w) X.A (pyNext (.ref it)) (λ r s1=>∃ u,r=some u /\
   wpAny (model P w) X.A (letOwnedTupleGo tg (.ref it) u) (λ _ s2=>∃ x H',Inv X pins σ H' s2/\RelV x u/\J.yld i H x H'/\tn (i+1) s2.heap/\∀ b∈fp,H' b=none) E s1) E s
 done:∀ (X:Cx),X.prog=P->X.w=w->X.K=K->X.calm=true->∀ (i:Nat) (pins:List (Addr×Obj)) (s:Shared) (σ:St) (H:Hp) (E:Value->Shared->Prop),Inv X pins σ H s->(∀ b∈fp,iG X pins H b)->tn i s.heap->J.stop i H ->
  wpAny (model P w) X.A (pyNext (.ref it)) (λ r s1=>r=none/\Inv X pins σ H s1) E s
 self:∀ (A:Around) (i:Nat) (s:Shared) (Q:Value->Shared->Prop) (E:Value->Shared->Prop),tn i s.heap->Q (.ref it) s->wpAny (model P w) A (pyIter (.ref it)) Q E s
noncomputable abbrev TI:=St->Hp->(It->Hp->Prop)->Prop
noncomputable def PIE (X:Cx) (pins:List (Addr×Obj)) (σ:St) (tg:Expr) (R:It->Hp->Prop) (itv:Value) (s2:Shared):Prop:=
 ∃ (it:Addr) (fp:List Addr) (tn:Nat->Heap->Prop) (J:It) (H':Hp),itv=.ref it/\Inv X pins σ H' s2/\Turn X.prog X.w X.K tg J fp it tn/\tn 0 s2.heap/\(∀ b∈fp,iG X pins H' b)/\R J H'
noncomputable def PI (X:Cx) (tg iter:Expr) (wi:TI):Prop:=
 ∀ (pins:List (Addr×Obj)) (s:Shared) (σ:St) (H:Hp) (R:It->Hp->Prop),Inv X pins σ H s->wi σ H R ->
  wpAny (model X.prog X.w) X.A (eval iter X.env) (λ v s1=>wpAny (model X.prog X.w) X.A (pyIter v) (PIE X pins σ tg R) X.xe s1) X.xe s
theorem oa (i:s.heap.get? it=some o) (d:o.cls=.type n) (f:o.data=.fields vs)
    (g:["enumerate","zip","dict_itemiterator","dict_reverseitemiterator","odict_iterator","itertools.zip_longest","itertools.pairwise"].contains n=false) (c:Q () s):wpAny M A (letOwnedTupleGo tg (.ref it) u) Q E s:=by
  unfold letOwnedTupleGo
  cases tg<;>first
    | exact Cu c
    | (cases u<;>first
        | exact Cu c
        | (refine Cq (wpAny_load i ?_)
           rw[d,f]
           show wpAny M A (if (["enumerate","zip","dict_itemiterator","dict_reverseitemiterator","odict_iterator","itertools.zip_longest","itertools.pairwise"].contains n && vs[0]? == some (rawInt _))=true then _ else _) Q E s
           rw[CD (by intro h;rw[g,Bool.false_and] at h;cases h)]
           exact Cu c))
noncomputable def Itl (K:PySem.W.Frag) (a:Addr):It:=
 ⟨λ i H=>∃ xs x,SqL K H a xs/\xs[i]? = some x,λ i H x H'=>H'=H/\∀ xs,SqL K H a xs->xs[i]? = some x,λ i H=>∃ xs,SqL K H a xs/\xs.length<=i⟩
noncomputable def Itt (K:PySem.W.Frag) (a:Addr):It:=
 ⟨λ i H=>∃ xs x,SqT K H a xs/\xs[i]? = some x,λ i H x H'=>H'=H/\∀ xs,SqT K H a xs->xs[i]? = some x,λ i H=>∃ xs,SqT K H a xs/\xs.length<=i⟩
noncomputable def Itr (lo:Int) (n:Nat):It:=⟨λ i _=>i<n,λ i H x H'=>H'=H/\x=.int (lo+i),λ i _=>n<=i⟩
theorem pZ {P:Program}{w:World}{K:PySem.W.Frag}{W:Expr}(a g:Addr):Turn P w K W (Itl K a) [g] g (λ i h=>h.IsListIter g a i) where
 mem:=by simp
 obj:=λ i h st b f=>by
  have e:b=g:=by simpa using f
  subst e
  obtain⟨o,e,c,d⟩:=st
  exact⟨o,e,λ v z=>by rw[d] at z;cases z⟩
 keep:=λ i h h' st k=>st.at λ o e=>k g (by simp) o e
 item:=by
  intro X C F B M i pins s σ H E I l st D
  subst C F B
  obtain⟨xs,x,m,G⟩:=D
  obtain⟨J,L,p,T⟩:=I.list m
  obtain⟨u,R,U⟩:=L.get G
  obtain⟨n,q,Q,r,y,A⟩:=l g (by simp)
  refine wpAny_pyNext_list_item st p.isList (x:=u) (by simpa using R) λ h' j V=>?_
  have N:Inv X pins σ H { s with heap:=h' }:=I.turned (t':=s.toks) (λ b o f e=>(V.2 b f).trans e) n q r y A
  obtain⟨o,e,c,d⟩:=id j
  exact⟨u,rfl,oa (s:={ s with heap:=h' }) e c d (by decide) ⟨x,H,N,U,⟨rfl,λ ys S=>by rw[I.eM S m];exact G⟩,j,λ b f=>(l b f).1⟩⟩
 done:=by
  intro X C F B M i pins s σ H E I l st D
  subst C F B
  obtain⟨xs,m,G⟩:=D
  obtain⟨J,L,p,T⟩:=I.list m
  obtain⟨n,q,Q,r,y,A⟩:=l g (by simp)
  have Y:=L.length
  exact wpAny_pyNext_list_end (I.ok.hd M) st p.isList (by simp;lia) λ h' O=>⟨rfl,I.turned (t':=s.toks) (λ b o f e=>O b o f e) n q r y A⟩
 self:=λ _ _ _ _ _ st h=>wpAny_pyIter_listiter st h
theorem nL {P:Program}{w:World}{K:PySem.W.Frag}{W:Expr}(a g:Addr):Turn P w K W (Itt K a) [g] g (λ i h=>h.IsTupleIter g a i) where
 mem:=by simp
 obj:=λ i h st b f=>by
  have e:b=g:=by simpa using f
  subst e
  obtain⟨o,e,c,d⟩:=st
  exact⟨o,e,λ v z=>by rw[d] at z;cases z⟩
 keep:=λ i h h' st k=>st.at λ o e=>k g (by simp) o e
 item:=by
  intro X D G C M i pins s σ H E I m st F
  subst D G C
  obtain⟨xs,x,n,J⟩:=F
  obtain⟨j,L,p,T⟩:=I.tuple n
  obtain⟨u,R,U⟩:=L.get J
  obtain⟨q,r,Q,y,A,B⟩:=m g (by simp)
  refine wpAny_pyNext_tuple_item st (show s.heap.IsTuple a j.toArray from p) (x:=u) (by simpa using R) λ h' l V=>?_
  have N:Inv X pins σ H { s with heap:=h' }:=I.turned (t':=s.toks) (λ b o f e=>(V.2 b f).trans e) q r y A B
  obtain⟨o,e,c,d⟩:=id l
  exact⟨u,rfl,oa (s:={ s with heap:=h' }) e c d (by decide) ⟨x,H,N,U,⟨rfl,λ ys S=>by rw[I.o9 S n];exact J⟩,l,λ b f=>(m b f).1⟩⟩
 done:=by
  intro X D G C M i pins s σ H E I m st F
  subst D G C
  obtain⟨xs,n,J⟩:=F
  obtain⟨j,L,p,T⟩:=I.tuple n
  obtain⟨q,r,Q,y,A,B⟩:=m g (by simp)
  have Y:=L.length
  exact wpAny_pyNext_tuple_end (I.ok.hd M) st (show s.heap.IsTuple a j.toArray from p) (by simp;lia) λ h' O=>⟨rfl,I.turned (t':=s.toks) (λ b o f e=>O b o f e) q r y A B⟩
 self:=λ _ _ _ _ _ st h=>wpAny_pyIter_tupleiter st h
theorem mO {P:Program}{w:World}{K:PySem.W.Frag}{N:Expr}(c:Addr) (lo:Int) (n:Nat):Turn P w K N (Itr lo n) [c] c (λ i h=>IsRangeIter h c (lo+(i:Nat)*1) ((n:Int)-(i:Nat)) 1) where
 mem:=by simp
 obj:=λ i h st b d=>by
  have e:b=c:=by simpa using d
  subst e
  exact⟨_,st,λ v z=>by
   have O:Data.fields _=Data.cell v:=z
   cases O⟩
 keep:=λ i h h' st k=>k c (by simp) _ st
 item:=by
  intro X y C r A i pins s σ H E I g st B
  subst y C r
  obtain⟨j,l,J,m,p,q⟩:=g c (by simp)
  have W:=Walks.range (prog:=X.prog) (w:=X.w) (I.ok.hd A) c lo 1 n
  refine W.item i s _ _ B st λ v h' D L f M=>?_
  obtain⟨t,rfl⟩:=L
  have F:Inv X pins σ H { s with heap:=h',toks:=D }:=I.turned (λ b o d e=>M b o (by simpa using d) e) j l m p q
  refine⟨_,rfl,oa (s:={ s with heap:=h',toks:=D }) (n:="range_iterator") f rfl rfl (by decide) ⟨.int (lo+i),H,F,⟨t,?_⟩,⟨rfl,rfl⟩,f,λ b d=>(g b d).1⟩⟩
  rw[Int.mul_one]
 done:=by
  intro X y C r A i pins s σ H E I g st B
  subst y C r
  obtain⟨j,l,J,m,p,q⟩:=g c (by simp)
  exact wpAny_pyNext_range_end (I.ok.hd A) st (by have:n<=i:=B;lia) λ h' G=>⟨rfl,I.turned (t':=s.toks) (λ b o d e=>G b o d e) j l m p q⟩
 self:=λ _ _ _ _ _ st h=>wpAny_pyIter_rangeiter st h
section
variable {X:Cx}{tg:Expr}
noncomputable def oH (K:PySem.W.Frag) (tl:TE):TI:=λ σ H R=>tl σ H λ x H1=>∃ a,x=.ref a/\(∃ xs,SqL K H1 a xs)/\R (Itl K a) H1
noncomputable def BX (K:PySem.W.Frag) (tl:TE):TI:=λ σ H R=>tl σ H λ x H1=>∃ a,x=.ref a/\(∃ xs,SqT K H1 a xs)/\R (Itt K a) H1
theorem tP {l:Expr}{f:TE}(i:PE X l f):PI X tg l (oH X.K f):=by
 intro pins s σ H R I h
 refine thn (i pins s σ H _ I h) λ v d ⟨x,H1,c,n,m⟩=>?_
 obtain⟨a,e,⟨xs,j⟩,q⟩:=m
 subst e
 cases n
 obtain⟨k,y,p,r⟩:=c.list j
 refine EI p.isList ?_
 refine⟨d.heap.objs.size,[d.heap.objs.size],_,_,H1,rfl,c.kept (t':=d.toks) λ b o e=>Heap.get?_push_of_some _ e,pZ a _,⟨_,Heap.get?_push_size _ rfl,rfl,rfl⟩,λ b g=>?_,q⟩
 have e:b=d.heap.objs.size:=by simpa using g
 subst e
 exact c.kD (Nat.le_refl _) (c.hok.fresh (Nat.le_refl _))
theorem wY {l:Expr}{g:TE}(j:PE X l g):PI X tg l (BX X.K g):=by
 intro pins s σ H R I h
 refine thn (j pins s σ H _ I h) λ v c ⟨x,H1,d,n,m⟩=>?_
 obtain⟨a,e,⟨xs,k⟩,q⟩:=m
 subst e
 cases n
 obtain⟨f,y,p,r⟩:=d.tuple k
 refine wpAny_pyIter_tuple (show c.heap.IsTuple a f.toArray from p) ?_
 refine⟨c.heap.objs.size,[c.heap.objs.size],_,_,H1,rfl,d.kept (t':=c.toks) λ b o e=>Heap.get?_push_of_some _ e,nL a _,⟨_,Heap.get?_push_size _ rfl,rfl,rfl⟩,λ b i=>?_,q⟩
 have e:b=c.heap.objs.size:=by simpa using i
 subst e
 exact d.kD (Nat.le_refl _) (d.hok.fresh (Nat.le_refl _))
theorem rE {pins:List (Addr×Obj)}{σ:St}{H:Hp}{s:Shared}{R:It->Hp->Prop}{E:Value->Shared->Prop}{lo hi:Int}{t u v:Tok}{d:Nat}(I:Inv X pins σ H s) (h1 : -(2 ^ 62)<=lo) (h2:lo<2 ^ 62) (i : -(2 ^ 62)<=hi) (j:hi<2 ^ 62)
  (q:R (Itr lo (hi-lo).toNat) H):wpAny (model X.prog X.w) X.A (pyIter (.ref s.heap.objs.size)) (PIE X pins σ tg R) E { s with heap:=s.heap.push { cls:=.type "range",data:=.fields #[.int lo t,.int hi u,.int 1 v] },toks:=d }:=by
 refine wpAny_pyIter_range (IsRange.new ..) (small_one h1 h2 i j) ?_
 have c:Inv X pins σ H { s with heap:=s.heap.push { cls:=.type "range",data:=.fields #[.int lo t,.int hi u,.int 1 v] },toks:=d }:=I.kept λ b o e=>Heap.get?_push_of_some _ e
 refine⟨(s.heap.push { cls:=.type "range",data:=.fields #[.int lo t,.int hi u,.int 1 v] }).objs.size,[(s.heap.push { cls:=.type "range",data:=.fields #[.int lo t,.int hi u,.int 1 v] }).objs.size],_,_,H,rfl,
  c.kept (t':=d) λ b o e=>Heap.get?_push_of_some _ e,mO _ lo (hi-lo).toNat,?_,λ b k=>?_,q⟩
 ·have f:lo+((0:Nat):Int)*1=lo:=by simp
  have g:(((hi-lo).toNat:Nat):Int)-((0:Nat):Int)=Builtin.Range.rangeSize lo hi 1:=by rw[rangeSize_one];split<;>lia
  show IsRangeIter _ _ (lo+((0:Nat):Int)*1) ((((hi-lo).toNat:Nat):Int)-((0:Nat):Int)) 1
  rw[f,g]
  exact Heap.get?_push_size _ rfl
 ·have e:b=(s.heap.push { cls:=.type "range",data:=.fields #[.int lo t,.int hi u,.int 1 v] }).objs.size:=by simpa using k
  subst e
  exact c.kD (Nat.le_refl _) (c.hok.fresh (Nat.le_refl _))
noncomputable def Al (ta:TA):TI:=λ σ H R=>ta σ H λ vs H1=>∃ j:Int,vs=[.int j] /\ -(2 ^ 62)<=j/\j<2 ^ 62/\R (Itr 0 j.toNat) H1
theorem cf {a:Expr}{ta:TA}{p pos:Pos}(g:Gl X "range") (i:X.mg "range" = none) (f:PA X [a] ta) (hs:starEach [a] X.env=[(false,eval a X.env)]:=by rfl):PI X tg (.Call (.Name "range" p) [a] [] pos) (Al ta):=by
 intro pins s σ H R I h
 refine Call_ (eJ I g i boot_range (EJ (thn (f pos pins s σ H _ I h) λ v n ⟨y,H1,d,l,c⟩=>?_) hs rfl))
 obtain⟨j,e,c,k,q⟩:=c
 subst e
 cases l with
 | cons r m=>
  cases m
  obtain⟨t,rfl⟩:=r
  exact call_range_1 (rE d (by lia) (by lia) c k (by simpa using q))
noncomputable def Cm (wi:TI) (g:TG) (tb:TS):TS:=λ D σ H=>wi σ H λ J H1=>∃ W:Nat->Nat->St->Hp->Prop,(∃ m,W 0 m σ H1)/\∀ i m σ H,W i m σ H ->
 (J.stop i H/\D.nx σ H)\/(J.go i H/\∃ N:St->Hp->Prop,(∀ σ' H',N σ' H'->∃ m',m'<m/\W (i+1) m' σ' H')/\∀ x H',J.yld i H x H'->g x σ H' λ σ2 H2=>tb { D with nx:=N,ct:=N,bk:=D.nx } σ2 H2)
noncomputable def kB (fp:List Addr) (h:Heap):List (Addr×Obj):=fp.filterMap λ b=>(h.get? b).map λ o=>(b,o)
theorem dX (c:b∈fp) (e:h.get? b=some o):(b,o)∈kB fp h:=F5.mpr ⟨b,c,by rw[e];rfl⟩
theorem pS (f:p∈kB fp h):p.1∈fp/\h.get? p.1=some p.2:=by
 obtain⟨b,d,e⟩:=F5.mp f
 cases q:h.get? b with
 | none=>rw[q] at e;cases e
 | some o=>
  rw[q] at e
  have c:(b,o)=p:=Option.some.inj e
  subst c
  exact⟨d,q⟩
theorem Inv.pinned (I:Inv X pins σ H s) (l:∀ b∈f,iG X pins H b) (m:∀ b∈f,∃ o,s.heap.get? b=some o/\∀ v,o.data≠.cell v):Inv X (pins++kB f s.heap) σ H s:=
 I.oI λ p n=>(CF.mp n).elim (λ z=>I.pin p (CW _ z)) λ z=>by
  obtain⟨g,e⟩:=pS z
  obtain⟨i,j,k,_⟩:=l p.1 g
  obtain⟨o,c,d⟩:=m p.1 g
  rw[e] at c;cases c
  exact⟨e,i,j,k,d⟩
theorem Inv.gD (I:Inv X (pins++pl) σ H s):Inv X pins σ H s:=I.oI λ p c=>I.pin p (CW _ (Dd _ c))
theorem cy {iter:Expr}{body:List Stmt}{wi:TI}{g:TG}{tb:TS}{pos:Pos}(hp:PassesOwn (model X.prog X.w) X.A X.env X.xe) (hc:X.calm=true) (hi:PI X tg iter wi) (hg:PG X tg g) (hb:PSs X body tb)
  (hs:∀ x,foldedSetIterable iter X.env x=pure x:=by intro _;rfl):PS X (.For tg iter body [] pos) (Cm wi g tb):=by
 intro pins s σ H D I h
 refine wpAny_For (thn (hi pins s σ H _ I h) λ v s1 h1=>thn h1 λ itv s2 h2=>?_) hs
 obtain⟨it,fp,tn,J,H2,e,I2,T,st2,f2,W,⟨m0,w0⟩,turn⟩:=h2
 subst e
 have stat:∀ {H':Hp},(∀ b∈fp,H' b=none)->∀ b∈fp,iG X pins H' b:=λ hn b hb=>⟨hn b hb,(f2 b hb).2⟩
 refine codeAny_forLoop_any (λ n s'=>∃ i σ' H',Inv X pins σ' H' s'/\tn i s'.heap/\(∀ b∈fp,H' b=none)/\W i n σ' H') ?_ m0 ⟨0,σ,H2,I2,st2,λ b hb=>(f2 b hb).1,w0⟩
 rintro n s3 ⟨i,σ3,H3,I3,st3,fr3,w3⟩
 rcases turn i n σ3 H3 w3 with ⟨stop,qn⟩|⟨go,N,hN,step⟩
 ·refine EF hp (thn (T.done X rfl rfl rfl hc i pins s3 σ3 H3 X.xe I3 (stat fr3) st3 stop) λ r s4 ⟨hr,I4⟩=>?_)
  subst hr
  exact FP ⟨σ3,H3,I4,qn⟩
 ·refine EF hp (thn (T.item X rfl rfl rfl hc i pins s3 σ3 H3 X.xe I3 (stat fr3) st3 go) λ r s4 ⟨u,hr,h4⟩=>?_)
  subst hr
  refine EF hp (thn h4 λ _ s5 ⟨x,H5,I5,r5,y5,st5,fr5⟩=>?_)
  have I5':=I5.pinned (stat fr5) (T.obj _ _ st5)
  refine EF hp (thn (hg _ s5 σ3 H5 x u _ I5' r5 (step x H5 y5)) λ _ s6 ⟨σ6,H6,I6,q6⟩=>?_)
  refine EF hp (thn (hb _ s6 σ6 H6 _ I6 q6) λ f s7 q7=>?_)
  have again:∀ {σ7:St} {H7:Hp},Inv X (pins++kB fp s5.heap) σ7 H7 s7->N σ7 H7->∃ m,m<n/\∃ i σ' H',Inv X pins σ' H' s7/\tn i s7.heap/\(∀ b∈fp,H' b=none)/\W i m σ' H':=λ{σ7 H7} I7 n7=>by
   obtain⟨m',hm,w7⟩:=hN σ7 H7 n7
   refine⟨m',hm,i+1,σ7,H7,I7.gD,T.keep _ _ _ st5 λ b hb o e=>(I7.pin (b,o) (CW _ (CW _ (dX hb e)))).1,λ b hb=>?_,w7⟩
   obtain⟨o,e,d⟩:=T.obj _ _ st5 b hb
   exact(I7.pin (b,o) (CW _ (CW _ (dX hb e)))).2.1
  cases f with
  | next=>obtain⟨σ7,H7,I7,n7⟩:=q7;exact again I7 n7
  | cont=>obtain⟨σ7,H7,I7,n7⟩:=q7;exact again I7 n7
  | brk=>obtain⟨σ7,H7,I7,q7⟩:=q7;exact⟨σ7,H7,I7.gD,q7⟩
  | ret v=>obtain⟨x7,σ7,H7,I7,r7,q7⟩:=q7;exact⟨x7,σ7,H7,I7.gD,r7,q7⟩
end
theorem iE {K:PySem.W.Frag}{a:Addr}{xs:List V}{g:TG}{tb:TS}{D:Ends}{σ:St}{H:Hp}(Pv:Nat->St->Hp->Prop) (h0:Pv 0 σ H) (hl:∀ i σ H,i<=xs.length->Pv i σ H->SqL K H a xs)
  (hs:∀ i x σ H,xs[i]? = some x->Pv i σ H->g x σ H λ σ2 H2=>tb { D with nx:=Pv (i+1),ct:=Pv (i+1),bk:=D.nx } σ2 H2) (hd:∀ σ H,Pv xs.length σ H->D.nx σ H) :
  ∃ W:Nat->Nat->St->Hp->Prop,(∃ m,W 0 m σ H)/\∀ i m σ H,W i m σ H ->
   ((Itl K a).stop i H/\D.nx σ H)\/((Itl K a).go i H/\∃ N:St->Hp->Prop,(∀ σ' H',N σ' H'->∃ m',m'<m/\W (i+1) m' σ' H')/\∀ x H',(Itl K a).yld i H x H'->g x σ H' λ σ2 H2=>tb { D with nx:=N,ct:=N,bk:=D.nx } σ2 H2):=by
 refine⟨λ i m σ H=>m=xs.length-i/\i<=xs.length/\Pv i σ H,⟨xs.length,by simp,Dq _,h0⟩,?_⟩
 rintro i m σ H ⟨rfl,hi,p⟩
 have q:=hl i σ H hi p
 by_cases hlt:i<xs.length
 ·refine .inr ⟨⟨xs,xs[i],q,by simp[hlt]⟩,Pv (i+1),λ σ' H' p'=>⟨xs.length-(i+1),by lia,rfl,hlt,p'⟩,λ x H' y=>?_⟩
  obtain⟨e,y⟩:=y
  subst e
  exact hs i x σ _ (y xs q) p
 ·have e:i=xs.length:=by lia
  subst e
  exact .inl ⟨⟨xs,q,Nat.le_refl _⟩,hd σ H p⟩
theorem gM {lo:Int}{n:Nat}{g:TG}{tb:TS}{D:Ends}{σ:St}{H:Hp}(Pv:Nat->St->Hp->Prop) (h0:Pv 0 σ H)
  (hs:∀ i σ H,i<n->Pv i σ H->g (.int (lo+i)) σ H λ σ2 H2=>tb { D with nx:=Pv (i+1),ct:=Pv (i+1),bk:=D.nx } σ2 H2) (hd:∀ σ H,Pv n σ H->D.nx σ H) :
  ∃ W:Nat->Nat->St->Hp->Prop,(∃ m,W 0 m σ H)/\∀ i m σ H,W i m σ H ->
   ((Itr lo n).stop i H/\D.nx σ H)\/((Itr lo n).go i H/\∃ N:St->Hp->Prop,(∀ σ' H',N σ' H'->∃ m',m'<m/\W (i+1) m' σ' H')/\∀ x H',(Itr lo n).yld i H x H'->g x σ H' λ σ2 H2=>tb { D with nx:=N,ct:=N,bk:=D.nx } σ2 H2):=by
 refine⟨λ i m σ H=>m=n-i/\i<=n/\Pv i σ H,⟨n,by simp,Dq _,h0⟩,?_⟩
 rintro i m σ H ⟨rfl,hi,p⟩
 by_cases hlt:i<n
 ·refine .inr ⟨hlt,Pv (i+1),λ σ' H' p'=>⟨n-(i+1),by lia,rfl,hlt,p'⟩,λ x H' y=>?_⟩
  obtain⟨e,y⟩:=y
  subst e y
  exact hs i σ _ hlt p
 ·have e:i=n:=by lia
  subst e
  exact .inl ⟨Nat.le_refl _,hd σ H p⟩
noncomputable abbrev R2:=V->V->Hp->VK->Prop
noncomputable def OpR (X:Cx) (f:Value->Value->Sem Value) (r:R2):Prop:=
 ∀ (pins:List (Addr×Obj)) (s:Shared) (σ:St) (H:Hp) (x y:V) (v u:Value) (Q:VK),Inv X pins σ H s->RelV x v->RelV y u->r x y H Q ->
  wpAny (model X.prog X.w) X.A (f v u) (EP X pins σ Q) X.xe s
noncomputable def UnR (X:Cx) (f:Value->Sem Value) (r:V->Hp->VK->Prop):Prop:=
 ∀ (pins:List (Addr×Obj)) (s:Shared) (σ:St) (H:Hp) (x:V) (v:Value) (Q:VK),Inv X pins σ H s->RelV x v->r x H Q ->
  wpAny (model X.prog X.w) X.A (f v) (EP X pins σ Q) X.xe s
noncomputable def cq (X:Cx) (f:Value) (r:List V->Hp->VK->Prop):Prop:=
 ∀ (pins:List (Addr×Obj)) (s:Shared) (σ:St) (H:Hp) (xs:List V) (us:List Value) (Q:VK),Inv X pins σ H s->Vals xs us->r xs H Q ->
  wpAny (model X.prog X.w) X.A (call f us) (EP X pins σ Q) X.xe s
noncomputable def Cn (X:Cx) (r:V->Hp->(Bool->Hp->Prop)->Prop):Prop:=
 ∀ (pins:List (Addr×Obj)) (s:Shared) (σ:St) (H:Hp) (x:V) (v:Value) (Q:Bool->Hp->Prop),Inv X pins σ H s->RelV x v->r x H Q ->
  wpAny (model X.prog X.w) X.A (truthy v) (TP X pins σ Q) X.xe s
noncomputable def tOp (r:R2) (ta tb:TE):TE:=λ σ H Q=>ta σ H λ x H1=>tb σ H1 λ y H2=>r x y H2 Q
noncomputable def tUn (r:V->Hp->VK->Prop) (ta:TE):TE:=λ σ H Q=>ta σ H λ x H1=>r x H1 Q
noncomputable def rI (C:Int->Int->Prop) (g:Int->Int->V):R2:=λ x y H Q=>∃ i j,x=.int i/\y=.int j/\C i j/\Q (g i j) H
noncomputable def rI0 (g:Int->Int->V):R2:=λ x y H Q=>∃ i j,x=.int i/\y=.int j/\Q (g i j) H
noncomputable def rU (g:Int->V):V->Hp->VK->Prop:=λ x H Q=>∃ i,x=.int i/\Q (g i) H
section
variable {X:Cx}{a b c:Expr}{ta tb tc:TE}{pos:Pos}
theorem vH (l:PE X a ta) (m:PE X b tb) {pins:List (Addr×Obj)}{s:Shared}{σ:St}{H:Hp}{R:V->V->Hp->Prop}(I:Inv X pins σ H s)
  (h:ta σ H λ x H1=>tb σ H1 λ y H2=>R x y H2) {Q:Value->Shared->Prop} {f:Value->Value->Sem Value}
  (n:∀ v u i x y H2,Inv X pins σ H2 i->RelV x v->RelV y u->R x y H2->wpAny (model X.prog X.w) X.A (f v u) Q X.xe i) :
  wpAny (model X.prog X.w) X.A (eval a X.env) (λ v d=>wpAny (model X.prog X.w) X.A (eval b X.env) (λ u g=>wpAny (model X.prog X.w) X.A (f v u) Q X.xe g) X.xe d) X.xe s:=by
 refine thn (l pins s σ H _ I h) λ v A ⟨x,H1,j,r,p⟩=>?_
 refine thn (m pins A σ H1 _ j p) λ u i ⟨y,H2,k,z,q⟩=>?_
 exact n v u i x y H2 k r z q
theorem aU {op:Operator}{r:R2}(i:OpR X (binaryOp op) r) (f:PE X a ta) (g:PE X b tb):PE X (.BinOp a op b pos) (tOp r ta tb):=by
 intro pins s σ H Q I h
 exact wpAny_BinOp (vH f g I h λ v u l x y H2 d j k q=>i pins l σ H2 x y v u Q d j k q)
theorem oB (g:UnR X (unaryOp op) r) (f:PE X a ta):PE X (.UnaryOp op a pos) (tUn r ta):=by
 intro pins s σ H Q I h
 exact UnaryOp_ (thn (f pins s σ H _ I h) λ v k ⟨x,H1,d,j,i⟩=>g pins k σ H1 x v Q d j i)
theorem opI {f:Value->Value->Sem Value}{C:Int->Int->Prop}{g:Int->Int->Int}
  (d:∀ (i j:Int) (t u:Tok) (s:Shared) (Q:Value->Shared->Prop) (E:Value->Shared->Prop),C i j->Q (.int (g i j) s.toks) { s with toks:=s.toks+1 }->wpAny (model X.prog X.w) X.A (f (.int i t) (.int j u)) Q E s) :
  OpR X f (rI C λ i j=>.int (g i j)):=by
 intro pins s σ H x y v u Q I l m h
 obtain⟨i,j,rfl,rfl,k,q⟩:=h
 obtain⟨t,rfl⟩:=l
 obtain⟨n,rfl⟩:=m
 exact d i j t n s _ _ k ⟨.int (g i j),H,I.tok _,⟨_,rfl⟩,q⟩
theorem sS {f:Value->Value->Sem Value}{g:Int->Int->Int}
  (d:∀ (i j:Int) (t u:Tok) (s:Shared) (Q:Value->Shared->Prop) (E:Value->Shared->Prop),Q (.int (g i j) s.toks) { s with toks:=s.toks+1 }->wpAny (model X.prog X.w) X.A (f (.int i t) (.int j u)) Q E s) :
  OpR X f (rI0 λ i j=>.int (g i j)):=by
 intro pins s σ H x y v u Q I k l h
 obtain⟨i,j,rfl,rfl,q⟩:=h
 obtain⟨t,rfl⟩:=k
 obtain⟨m,rfl⟩:=l
 exact d i j t m s _ _ ⟨.int (g i j),H,I.tok _,⟨_,rfl⟩,q⟩
theorem tE {f:Value->Value->Sem Value}{g:Int->Int->Bool}
  (d:∀ (i j:Int) (t u:Tok) (s:Shared) (Q:Value->Shared->Prop) (E:Value->Shared->Prop),Q (.bool (g i j)) s->wpAny (model X.prog X.w) X.A (f (.int i t) (.int j u)) Q E s) :
  OpR X f (rI0 λ i j=>.bl (g i j)):=by
 intro pins s σ H x y v u Q I k l h
 obtain⟨i,j,rfl,rfl,q⟩:=h
 obtain⟨t,rfl⟩:=k
 obtain⟨m,rfl⟩:=l
 exact d i j t m s _ _ ⟨.bl (g i j),H,I,rfl,q⟩
noncomputable def Ci (i j:Int):Prop:=0<j/\j<1073741824
noncomputable def vS (i j:Int):Prop:=(-(2 ^ 64)<i/\i<2 ^ 64)\/(-(2 ^ 64)<j/\j<2 ^ 64)
theorem vS.ok (h:vS i j):IntMulOk i j:=by
 rcases h with ⟨h1,h2⟩|⟨h1,h2⟩
 ·exact .of_left (intBits_le_64 h1 h2)
 ·exact .of_right (intBits_le_64 h1 h2)
theorem mS (k):(0:Int)<=2 ^ k:=by
 rw[two_pow_cast]
 exact Int.natCast_nonneg _
theorem bN:OpR X (binaryOp .Add) (rI0 λ i j=>.int (i+j)):=sS λ _ _ _ _ _ _ _ q=>add_int q
theorem q9:OpR X (binaryOp .Sub) (rI0 λ i j=>.int (i-j)):=sS λ _ _ _ _ _ _ _ q=>sub_int q
theorem eU:OpR X (binaryOp .Mult) (rI vS λ i j=>.int (i*j)):=opI λ _ _ _ _ _ _ _ d q=>mul_int q d.ok
theorem df:OpR X (binaryOp .FloorDiv) (rI Ci λ i j=>.int (i/j)):=opI λ i j _ _ _ _ _ d q=>by
 have h1:(0:Int)<j:=d.1
 have h2:j<1073741824:=d.2
 exact floordiv_int (by lia) (by rw[Int.fdiv_eq_ediv_of_nonneg i (by lia)];exact q) (.inl (PyProof.noPylong_small (by lia)))
theorem bS:OpR X (binaryOp .Mod) (rI (λ _ j=>0<j) λ i j=>.int (i%j)):=opI λ i j _ _ _ _ _ d q=>by
 have h1:(0:Int)<j:=d
 exact mod_int' (by lia) (by rw[Int.fmod_eq_emod_of_nonneg i (by lia)];exact q)
theorem jk:OpR X (binaryOp .RShift) (rI (λ _ j=>0<=j) λ i j=>.int (i/2 ^ j.toNat)):=opI λ i j _ _ _ _ _ d q=>
 rshift_int d (by rw[Int.fdiv_eq_ediv_of_nonneg i (mS _)];exact q)
theorem gg:OpR X (binaryOp .BitAnd) (rI0 λ i j=>.int (Builtin.bitAnd i j)):=sS λ _ _ _ _ _ _ _ q=>and_int q
theorem wC:OpR X (binaryOp .BitXor) (rI0 λ i j=>.int (Builtin.bitXor i j)):=sS λ _ _ _ _ _ _ _ q=>xor_int q
theorem unI {f:Value->Sem Value}{g:Int->Int}
  (d:∀ (i:Int) (t:Tok) (s:Shared) (Q:Value->Shared->Prop) (E:Value->Shared->Prop),Q (.int (g i) s.toks) { s with toks:=s.toks+1 }->wpAny (model X.prog X.w) X.A (f (.int i t)) Q E s) :
  UnR X f (rU λ i=>.int (g i)):=by
 intro pins s σ H x v Q I j h
 obtain⟨i,rfl,q⟩:=h
 obtain⟨t,rfl⟩:=j
 exact d i t s _ _ ⟨.int (g i),H,I.tok _,⟨_,rfl⟩,q⟩
theorem kI:UnR X (unaryOp .USub) (rU λ i=>.int (-i)):=unI λ _ _ _ _ _ q=>neg_int q
end
noncomputable def zF:V->V->Bool
 | .non,.non=>true | .non,.int _=>true | .int _,.non=>true | .non,.bl _=>true | .bl _,.non=>true | .non,.str _=>true | .str _,.non=>true
 | .int _,.int _=>true | .bl _,.bl _=>true | .str _,.str _=>true | .byt _,.byt _=>true
 | .int _,.str _=>true | .str _,.int _=>true | .bl _,.str _=>true | .str _,.bl _=>true
 | _,_=>false
noncomputable def rEq:R2:=λ x y H Q=>zF x y=true/\Q (.bl (decide (x=y))) H
noncomputable def rNe:R2:=λ x y H Q=>zF x y=true/\Q (.bl (!decide (x=y))) H
theorem oX:decide (V.int i=V.int j)=(i == j):=by
 rw[DV]
 simp
theorem r9:decide (V.bl i=V.bl j)=(i == j):=by
 rw[DV]
 simp
theorem oy:decide (V.str i=V.str j)=(i == j):=by
 rw[DV]
 simp
theorem n9:decide (V.byt i=V.byt j)=(i.toList == j.toList):=by
 rw[DV]
 cases i
 cases j
 simp
section
variable {X:Cx}{a b c:Expr}{ta tb tc:TE}{pos:Pos}
theorem bD (I:Inv X pins σ H s) (q:Q (.bl k) H) (e:k=k'):EP X pins σ Q (.bool k') s:=by
 subst e
 exact⟨.bl k,H,I,rfl,q⟩
theorem eY:OpR X (compareOp .Eq) rEq:=by
 intro pins s σ H x y v u Q I rx ry h
 obtain⟨hs,q⟩:=h
 cases x with
 | non=>
  cases rx
  cases y with
  | non=>cases ry;exact PySem.EqNone.eq_none_none (bD I q (by simp))
  | bl j=>cases ry;exact PySem.EqNone.eq_none_bool (bD I q (by simp))
  | int j=>obtain⟨t',rfl⟩:=ry;exact PySem.EqNone.eq_none_int (bD I q (by simp))
  | str j=>obtain⟨t',rfl⟩:=ry;exact PySem.EqNone.eq_none_str (bD I q (by simp))
  | _=>exact absurd (show false=true from hs) CQ
 | bl i=>
  cases rx
  cases y with
  | non=>cases ry;exact PySem.EqNone.eq_bool_none (bD I q (by simp))
  | bl j=>cases ry;exact eq_bool (bD I q r9)
  | str j=>obtain⟨t',rfl⟩:=ry;exact PySem.EqMixed.eq_bool_str (bD I q (by simp))
  | _=>exact absurd (show false=true from hs) CQ
 | int i=>
  obtain⟨t,rfl⟩:=rx
  cases y with
  | non=>cases ry;exact PySem.EqNone.eq_int_none (bD I q (by simp))
  | int j=>obtain⟨t',rfl⟩:=ry;exact eq_int (bD I q oX)
  | str j=>obtain⟨t',rfl⟩:=ry;exact PySem.EqMixed.eq_int_str (bD I q (by simp))
  | _=>exact absurd (show false=true from hs) CQ
 | str i=>
  obtain⟨t,rfl⟩:=rx
  cases y with
  | non=>cases ry;exact PySem.EqNone.eq_str_none (bD I q (by simp))
  | bl j=>cases ry;exact PySem.EqMixed.eq_str_bool (bD I q (by simp))
  | int j=>obtain⟨t',rfl⟩:=ry;exact PySem.EqMixed.eq_str_int (bD I q (by simp))
  | str j=>obtain⟨t',rfl⟩:=ry;exact eq_str (bD I q oy)
  | _=>exact absurd (show false=true from hs) CQ
 | byt i=>
  obtain⟨t,rfl⟩:=rx
  cases y with
  | byt j=>obtain⟨t',rfl⟩:=ry;exact PySem.W.eq_bytes (bD I q n9)
  | _=>exact absurd (show false=true from hs) CQ
 | _=>cases y<;>exact absurd (show false=true from hs) CQ
theorem qO:OpR X (compareOp .NotEq) rNe:=by
 intro pins s σ H x y v u Q I rx ry h
 obtain⟨hs,q⟩:=h
 cases x with
 | non=>
  cases rx
  cases y with
  | non=>cases ry;exact PySem.EqNone.ne_none_none (bD I q (by simp))
  | bl j=>cases ry;exact PySem.EqNone.ne_none_bool (bD I q (by simp))
  | int j=>obtain⟨t',rfl⟩:=ry;exact PySem.EqNone.ne_none_int (bD I q (by simp))
  | str j=>obtain⟨t',rfl⟩:=ry;exact PySem.EqNone.ne_none_str (bD I q (by simp))
  | _=>exact absurd (show false=true from hs) CQ
 | bl i=>
  cases rx
  cases y with
  | non=>cases ry;exact PySem.EqNone.ne_bool_none (bD I q (by simp))
  | bl j=>cases ry;exact ne_bool (bD I q (congrArg not r9))
  | str j=>obtain⟨t',rfl⟩:=ry;exact PySem.EqMixed.ne_bool_str (bD I q (by simp))
  | _=>exact absurd (show false=true from hs) CQ
 | int i=>
  obtain⟨t,rfl⟩:=rx
  cases y with
  | non=>cases ry;exact PySem.EqNone.ne_int_none (bD I q (by simp))
  | int j=>obtain⟨t',rfl⟩:=ry;exact ne_int (bD I q (congrArg not oX))
  | str j=>obtain⟨t',rfl⟩:=ry;exact PySem.EqMixed.ne_int_str (bD I q (by simp))
  | _=>exact absurd (show false=true from hs) CQ
 | str i=>
  obtain⟨t,rfl⟩:=rx
  cases y with
  | non=>cases ry;exact PySem.EqNone.ne_str_none (bD I q (by simp))
  | bl j=>cases ry;exact PySem.EqMixed.ne_str_bool (bD I q (by simp))
  | int j=>obtain⟨t',rfl⟩:=ry;exact PySem.EqMixed.ne_str_int (bD I q (by simp))
  | str j=>obtain⟨t',rfl⟩:=ry;exact ne_str (bD I q (congrArg not oy))
  | _=>exact absurd (show false=true from hs) CQ
 | byt i=>
  obtain⟨t,rfl⟩:=rx
  cases y with
  | byt j=>obtain⟨t',rfl⟩:=ry;exact PySem.W.ne_bytes (bD I q (congrArg not n9))
  | _=>exact absurd (show false=true from hs) CQ
 | _=>cases y<;>exact absurd (show false=true from hs) CQ
theorem n6:OpR X (compareOp .Lt) (rI0 λ i j=>.bl (decide (i<j))):=tE λ _ _ _ _ _ _ _ q=>lt_int q
theorem jP:OpR X (compareOp .LtE) (rI0 λ i j=>.bl (decide (i<=j))):=tE λ _ _ _ _ _ _ _ q=>le_int q
theorem xi:OpR X (compareOp .Gt) (rI0 λ i j=>.bl (decide (j<i))):=tE λ _ _ _ _ _ _ _ q=>gt_int q
theorem jz:OpR X (compareOp .GtE) (rI0 λ i j=>.bl (decide (j<=i))):=tE λ _ _ _ _ _ _ _ q=>ge_int q
theorem wQ:OpR X (compareOp .Is) (λ x y H Q=>y=.non/\Q (.bl (decide (x=.non))) H):=by
 intro pins s σ H x y v u Q I d f h
 obtain⟨rfl,q⟩:=h
 cases f
 refine is_none_gen (bD I q ?_)
 cases x<;>first
  | (cases d;rfl)
  | (obtain⟨t,rfl⟩:=d;rfl)
theorem j8:OpR X (compareOp .IsNot) (λ x y H Q=>y=.non/\Q (.bl (!decide (x=.non))) H):=by
 intro pins s σ H x y v u Q I d f h
 obtain⟨rfl,q⟩:=h
 cases f
 refine isnot_none_gen (bD I q ?_)
 cases x<;>first
  | (cases d;rfl)
  | (obtain⟨t,rfl⟩:=d;rfl)
theorem bx (b:Expr) (h:op≠.In:=by decide) (h2:op≠.NotIn:=by decide):behindInMarks op b=false:=by
 have d:(op == CmpOp.In)=false:=by cases op<;>first|rfl|exact absurd rfl h
 have f:(op == CmpOp.NotIn)=false:=by cases op<;>first|rfl|exact absurd rfl h2
 cases b<;>simp[behindInMarks,d,f]
theorem cI {op:CmpOp}{r:R2}(j:OpR X (compareOp op) r) (f:PE X a ta) (g:PE X b tb) (i:behindInMarks op b=false):PE X (.Compare a [op] [b] pos) (tOp r ta tb):=by
 intro pins s σ H Q I h
 exact wpAny_Compare1 (vH f g I h λ v u m x y H2 d k l q=>j pins m σ H2 x y v u Q d k l q) i
noncomputable def rQ (t:TE):TT:=λ σ H Q=>t σ H λ x H'=>∃ k,x=.bl k/\Q k H'
theorem bj (n:OpR X (compareOp op) r) (j:PE X a ta) (l:PE X b tb) (m:behindInMarks op b=false):PT X (.Compare a [op] [b] pos) (rQ (tOp r ta tb)):=by
 intro pins s σ H Q I h
 refine wpAny_isTrue_Compare1 (thn (j pins s σ H _ I h) λ v F ⟨x,H1,f,B,p⟩=>thn (l pins F σ H1 _ f p) λ u G ⟨y,H2,g,C,q⟩=>
  thn (n pins G σ H2 x y v u _ g B C q) λ c J ⟨z,d,i,D,k,e,A⟩=>?_) m
 subst e
 cases D
 exact DP ⟨d,i,A⟩
noncomputable def wz (K:PySem.W.Frag) (x:V) (H:Hp) (k:Bool):Prop:=
 match x with
 | .non=>k=false
 | .bl b=>k=b
 | .int i=>k=(i != 0)
 | .str y=>y.length<=sizeLine/\k=((y.length:Int) != 0)
 | .byt y=>y.size<=sizeLine/\k=((y.size:Int) != 0)
 | .ref p=>(∃ xs,SqL K H p xs/\k = !xs.isEmpty)\/(∃ xs,SqT K H p xs/\k = !xs.isEmpty)\/∃ kvs,H p=some (.dK kvs)/\k = !kvs.isEmpty
 | _=>False
theorem nG (r:KV kvs vs):(!vs.isEmpty) = !kvs.isEmpty:=by
 cases r<;>rfl
theorem iR (r:Vals xs its):(!its.toArray.isEmpty) = !xs.isEmpty:=by
 cases r<;>simp
theorem kl:(sizeLine:Nat)<2 ^ 63:=by rw[El];decide
theorem xa:Cn X (λ x H Q=>∃ k,wz X.K x H k/\Q k H):=by
 intro pins s σ H x v Q I rx h
 obtain⟨k,e,q⟩:=h
 have hl:=kl
 have hs:sizeLine=16777216:=El
 cases x with
 | non=>
  cases rx
  have e':k=false:=e
  subst e'
  exact truthy_none ⟨H,I,q⟩
 | bl b=>
  cases rx
  have e':k=b:=e
  subst e'
  exact DP ⟨H,I,q⟩
 | int i=>
  obtain⟨t,rfl⟩:=rx
  have e':k=(i != 0):=e
  subst e'
  exact PySem.P.truthy_int ⟨H,I,q⟩
 | str y=>
  obtain⟨t,rfl⟩:=rx
  obtain⟨hy,e'⟩:y.length<=sizeLine/\k=((y.length:Int) != 0):=e
  subst e'
  exact PySem.P.truthy_str (by lia) ⟨H,I.tok _,q⟩
 | byt y=>
  obtain⟨t,rfl⟩:=rx
  obtain⟨hy,e'⟩:y.size<=sizeLine/\k=((y.size:Int) != 0):=e
  subst e'
  exact PySem.W.truthy_bytes (by lia) ⟨H,I.tok _,q⟩
 | ref p=>
  cases rx
  have e':(∃ xs,SqL X.K H p xs/\k = !xs.isEmpty)\/(∃ xs,SqT X.K H p xs/\k = !xs.isEmpty)\/∃ kvs,H p=some (.dK kvs)/\k = !kvs.isEmpty:=e
  rcases e' with ⟨xs,hx,e'⟩|⟨xs,hx,e'⟩|⟨kvs,hx,e'⟩
  ·subst e'
   obtain⟨its,r,pl,hz⟩:=I.list hx
   have hlen:=r.length
   exact wpAny_truthy_list pl.isList (by simp only[C0];lia) ⟨H,I.tok _,by rw[iR r];exact q⟩
  ·subst e'
   obtain⟨its,r,pl,hz⟩:=I.tuple hx
   have hlen:=r.length
   exact truthy_tuple pl (by simp only[C0];lia) ⟨H,I.tok _,by rw[iR r];exact q⟩
  ·subst e'
   obtain⟨hz,hS,vs,r,m⟩:kvs.length<=sizeLine/\(p == sysModules)=false/\∃ vs,KV kvs vs/\s.heap.DictOf (bL X.prog X.w) p vs:=I.hok p _ hx
   have hlen:kvs.length=vs.length:=Paired.length r
   exact wpAny_truthy_dict hS m (by lia) ⟨H,I.tok _,by rw[nG r];exact q⟩
 | _=>exact(show False from e).elim
theorem rX (ha:PE X a ta) (he:∀ whole,isTrue a X.env whole=(do let v <- whole;standAt a.pos;holding [v] (truthy v))) :
  PT X a (λ σ H Q=>ta σ H λ x H'=>∃ k,wz X.K x H' k/\Q k H'):=by
 intro pins s σ H Q I h
 exact isTrue_plain (thn (ha pins s σ H _ I h) λ v s1 ⟨x,H1,I1,r1,q1⟩=>xa pins s1 σ H1 x v Q I1 r1 q1) (he _)
theorem vals1 (r:Vals [x] us):∃ u,us=[u]/\RelV x u:=by
 cases r with
 | cons d f=>cases f;exact⟨_,rfl,d⟩
theorem vals2 (r:Vals [x,y] us):∃ u d,us=[u,d]/\RelV x u/\RelV y d:=by
 cases r with
 | cons f g=>
  cases g with
  | cons i j=>cases j;exact⟨_,_,rfl,f,i⟩
theorem pf (f:X.calm=true):cq X (.builtin "min") (λ xs H Q=>∃ i j,xs=[.int i,.int j]/\Q (.int (if j<i then j else i)) H):=by
 intro pins s σ H xs m Q I r h
 obtain⟨i,j,rfl,q⟩:=h
 obtain⟨u,n,rfl,⟨t,rfl⟩,⟨g,rfl⟩⟩:=vals2 r
 refine min_two_ints (I.ok.hd f) λ h' l k=>⟨_,H,I.kept k,?_,q⟩
 by_cases d:j<i
 ·rw[CG d,CG d];exact⟨_,rfl⟩
 ·rw[CD d,CD d];exact⟨_,rfl⟩
end
structure mF (h:Heap) (x dx C:Addr) (mA:Str->Option Value):Prop where
 obj:h.get? x=some (PySem.W.instObj C dx)
 ns:h.Ns1 dx mA
 ne:dx≠x
theorem pC {h:Heap}{f:Addr}{i:Str->Option Value}(n:h.Ns1 f i):∃ od,h.get? f=some od/\∀ name,PySem.W.lookIn name od=some (i name):=by
 obtain⟨o,g,v,p,k,l,_,m⟩:=n
 refine⟨o,p,λ name=>?_⟩
 have e:=m name
 unfold nsFind findBy at e
 rw[<- Array.find?_toList] at e
 unfold PySem.W.lookIn
 rw[k]
 dsimp only
 split
 ·rename_i y q
  rw[q] at e
  exact congrArg some e
 ·rename_i q
  rw[q] at e
  have a:g.toList.any (·.refKey)=false:=by
   rw[List.any_eq_false]
   intro y r
   obtain⟨z,t,d⟩:=l y (Array.mem_toList_iff.mp r)
   simp[DictEntry.refKey,d]
  have j:¬ g.toList.any (·.refKey)=true:=by rw[a];exact CQ
  rw[CD j]
  exact congrArg some e
theorem mF.look (I:mF h x dx C mA):∃ od,PySem.W.InstAt h x (PySem.W.instObj C dx) C (some od)/\∀ name,PySem.W.lookIn name od=some (mA name):=
 let ⟨od,f,d⟩:=pC I.ns
 ⟨od,⟨I.obj,rfl,rfl,f⟩,d⟩
section
variable {prog:Program}{w:World}{A:Around}{E:Value->Shared->Prop}{s:Shared}{K:PySem.W.Frag}{x dx C f:Addr}{mA:Str->Option Value}{name:Str}{v:Value}
theorem get_map (X:K.In s.heap) (I:mF s.heap x dx C mA) (i:PySem.W.plainGet K C name=true) (j:PySem.W.hasDictIn K C=true)
  (g:PySem.W.findIn K (.ref C) name=some none) (l:mA name=some v) (d:PySem.W.handedIn v=true) (h:Q v { s with toks:=s.toks+1 }) :
  wpAny (model prog w) A (getAttr (.ref x) name expr) Q E s:=by
 obtain⟨m,J,k⟩:=I.look
 exact PySem.W.get_value X J (EV i).1 (PySem.W.findObj_own j g rfl (by rw[k,l])) d h
theorem rD (X:K.In s.heap) (I:mF s.heap x dx C mA) (d:PySem.W.plainGet K C name=true)
  (g:PySem.W.findIn K (.ref C) name=some (some (.ref f))) (j:PySem.W.isFn K (.ref f)=true) (k:mA name=none) (h:Q (.ref f,[.ref x]) s) :
  wpAny (model prog w) A (getMethod (.ref x) name pl) Q E s:=by
 obtain⟨l,J,i⟩:=I.look
 exact PySem.W.method_fn X J (EV d).1 (EV d).2 g (DY.mp j) (by show (PySem.W.lookIn name l).map (·.isSome)=some false;rw[i,k];rfl) h
theorem tX (X:K.In s.heap) (I:mF s.heap x dx C mA)
  (hs:PySem.W.findIn K (.ref C) "__setattr__" = some (some (.builtin "object.__setattr__"))) (z:PySem.W.plainOver K C=true) (B:PySem.W.takerIn K C name=some none) (q:PySem.W.hasDictIn K C=true)
  (D:PySem.Within mA ns) (hsz:ns.length<=sizeLine)
  (h:∀ h',mF h' x dx C (λ y=>if y=name then some v else mA y)->Heap.SameBut dx s.heap h'->Q () { s with heap:=h',toks:=s.toks+2 }) :
  wpAny (model prog w) A (setAttr (.ref x) name v) Q E s:=by
 obtain⟨N,J,L⟩:=I.look
 refine PySem.W.set_plain X J hs (PySem.W.osa_open (s:={ s with toks:=s.toks+1 }) (r:=none) X J z B λ b=>?_)
 obtain⟨G,p,j⟩:=PySem.W.any_some q
 have F:s.heap.get? x=some ⟨.ref C,some dx,.plain,#[]⟩:=I.obj
 refine Cq (Cu (Cq (Cq (wpAny_loadPart F (Cq (PySem.W.Looks.here (s:={ s with toks:=s.toks+1 }) (PySem.W.looks_clsIn X p) ?_))))))
 rw[j]
 refine Cu (a:=some dx) (Cq (Cu (Cq ?_)))
 refine wpAny_nsSet1 (s:={ s with toks:=s.toks+1 }) I.ns λ h' d g=>?_
 obtain⟨M,n,m,l,k,i⟩:=d.count (PySem.Within.cons name v D)
 refine Cq (wpAny_lookBehind l (by rw[k];exact pastItsLine_dict (CV i (by rw[Dh];lia))) ?_)
 exact Cu (h _ ⟨(g.2 _ (Ne.symm I.ne)).trans I.obj,d,I.ne⟩ g)
theorem sk (X:K.In s.heap) (k:PySem.W.makesIn K C=true)
  (hi:PySem.W.findIn K (.ref C) "__init__" = some (some (.ref f))) (j:PySem.W.typeIn K (.ref f)=some (.type "function"))
  (h:codeAny (model prog w) (A.under (.builtin "type.__call__" ⟨.ref C::vs,kw⟩)) (.call (.ref f) ⟨.ref (s.heap.objs.size+1)::vs,kw⟩) (PySem.W.InitBack (s.heap.objs.size+1) R)
   { s with heap:=(s.heap.push PySem.W.emptyDict).push (PySem.W.instObj C s.heap.objs.size) }) :
  codeAny (model prog w) A (.call (.ref C) ⟨vs,kw⟩) R s:=by
 obtain⟨l,g,d,t,m⟩:=s
 exact PySem.W.make_core (Gk X k) (PySem.W.looks_findIn X hi) (λ i=>PySem.W.bind_fn X i j) (.inl rfl) h
theorem pW (X:K.In s.heap) (k:PySem.W.makesIn K C=true)
  (hi:PySem.W.findIn K (.ref C) "__init__" = some (some (.builtin "object.__init__")))
  (j:∀ i,PySem.W.Looks (model prog w) s.heap (bindSpecial (.builtin "object.__init__") i) (.builtin "object.__init__",[i]))
  (h:codeAny (model prog w) (A.under (.builtin "type.__call__" ⟨[.ref C],[]⟩)) (.call (.builtin "object.__init__") ⟨[.ref (s.heap.objs.size+1)],[]⟩) (PySem.W.InitBack (s.heap.objs.size+1) R)
   { s with heap:=(s.heap.push PySem.W.emptyDict).push (PySem.W.instObj C s.heap.objs.size) }) :
  codeAny (model prog w) A (.call (.ref C) ⟨[],[]⟩) R s:=by
 obtain⟨l,g,d,t,m⟩:=s
 exact PySem.W.make_core (Gk X k) (PySem.W.looks_findIn X hi) j (.inr ⟨rfl,rfl⟩) h
end
noncomputable def aP (f:Str) (v:V):List (Str×V)->List (Str×V)
 | []=>[(f,v)]
 | (g,x)::r=>if g=f then (g,v)::r else (g,x)::aP f v r
theorem bF (f g) (v):∀ fs:List (Str×V),(aP f v fs).lookup g=if g=f then some v else fs.lookup g
 | []=>by
  show List.lookup g [(f,v)]=_
  by_cases h:g=f
  ·have d:(g == f)=true:=DY.mpr h
   simp only[List.lookup,d,CG h]
  ·have d:(g == f)=false:=Ea.mpr h
   simp only[List.lookup,d,CD h]
 | (k,x)::r=>by
  have j:=bF f g v r
  rw[show aP f v ((k,x)::r)=(if k=f then (k,v)::r else (k,x)::aP f v r) from rfl]
  by_cases i:k=f
  ·rw[CG i]
   by_cases h:g=k
   ·have d:(g == k)=true:=DY.mpr h
    simp only[List.lookup,d,CG (h.trans i)]
   ·have d:(g == k)=false:=Ea.mpr h
    simp only[List.lookup,d,CD (λ e:g=f=>h (e.trans i.symm))]
  ·rw[CD i]
   by_cases h:g=k
   ·have d:(g == k)=true:=DY.mpr h
    simp only[List.lookup,d,CD (λ e:g=f=>i (h.symm.trans e))]
   ·have d:(g == k)=false:=Ea.mpr h
    simp only[List.lookup,d]
    exact j
theorem gL (f) (v):∀ fs:List (Str×V),f∈(aP f v fs).map (·.1)/\∀ g,g∈fs.map (·.1)->g∈(aP f v fs).map (·.1)
 | []=>⟨by simp[aP],λ g h=>by simp at h⟩
 | (k,x)::r=>by
  obtain⟨i,j⟩:=gL f v r
  rw[show aP f v ((k,x)::r)=(if k=f then (k,v)::r else (k,x)::aP f v r) from rfl]
  by_cases d:k=f
  ·rw[CG d]
   subst d
   exact⟨by simp,λ g h=>by simpa using h⟩
  ·rw[CD d]
   refine⟨?_,λ g h=>?_⟩
   ·rw[Dc]
    exact CH _ i
   ·rw[Dc] at h ⊢
    rcases Cz.mp h with e|e
    ·exact Cz.mpr (.inl e)
    ·exact CH _ (j g e)
theorem bG (f) (v):∀ fs:List (Str×V),(aP f v fs).length<=fs.length+1
 | []=>by simp[aP]
 | (k,x)::r=>by
  have g:=bG f v r
  rw[show aP f v ((k,x)::r)=(if k=f then (k,v)::r else (k,x)::aP f v r) from rfl]
  by_cases d:k=f
  ·rw[CG d,Dh,Dh];lia
  ·rw[CD d,Dh,Dh];lia
theorem eu.some_of (r:eu (some v) o):∃ u,o=some u/\RelV v u:=by
 cases o with
 | none=>exact(show False from r).elim
 | some u=>exact⟨u,rfl,r⟩
theorem eu.none_of (r:eu none o):o=none:=by
 cases o with
 | none=>rfl
 | some u=>exact(show False from r).elim
theorem pk {v:V}{u:Value}(r:RelV v u):PySem.W.handedIn u=true:=by
 cases v with
 | non=>cases (show u=Value.none from r);rfl
 | bl b=>cases (show u=Value.bool b from r);rfl
 | int i=>obtain⟨t,e⟩:=(show ∃ t,u=Value.int i t from r);cases e;rfl
 | str x=>obtain⟨t,e⟩:=(show ∃ t,u=Value.str x t from r);cases e;rfl
 | byt b=>obtain⟨t,e⟩:=(show ∃ t,u=Value.bytes b t from r);cases e;rfl
 | flt b=>obtain⟨t,e⟩:=(show ∃ t,u=Value.float b t from r);cases e;rfl
 | ref a=>cases (show u=Value.ref a from r);rfl
 | ty n=>cases (show u=Value.type n from r);rfl
section
variable {P:Program}{w:World}{H H':Hp}{h h':Heap}{a C dx:Addr}{fs fs':List (Str×V)}
theorem gB (g:HOk P w H h) (e:H a=some (.ins C dx fs)):∃ mA,mF h a dx C mA/\(∀ f,eu (fs.lookup f) (mA f))/\PySem.Within mA (fs.map (·.1))/\fs.length<=1000/\H dx=some (.own a):=by
 obtain⟨d,z,i,j,mA,n,r,q⟩:=(show bu P w H h a (.ins C dx fs) from g a _ e)
 exact⟨mA,⟨j,n,i⟩,r,q,z,d⟩
end
structure Cls (K:PySem.W.Frag) (C:Addr):Prop where
 pg:PySem.W.plainGet K C Str.empty=true
 hd:PySem.W.hasDictIn K C=true
 po:PySem.W.plainOver K C=true
 sa:PySem.W.findIn K (.ref C) "__setattr__" = some (some (.builtin "object.__setattr__"))
theorem Cls.get {K:PySem.W.Frag}{C:Addr}(c:Cls K C) (f:Str):PySem.W.plainGet K C f=true:=c.pg
noncomputable def bA (K:PySem.W.Frag) (C:Addr) (f:Str):Prop:=PySem.W.findIn K (.ref C) f=some none
theorem bA.yu {K:PySem.W.Frag}{C:Addr}{f:Str}(n:bA K C f):PySem.W.takerIn K C f=some none:=by
 unfold PySem.W.takerIn
 rw[show PySem.W.findIn K (.ref C) f=some none from n]
 rfl
structure Meth (K:PySem.W.Frag) (C:Addr) (m:Str) (f:Addr):Prop where
 at_:PySem.W.findIn K (.ref C) m=some (some (.ref f))
 fn:PySem.W.isFn K (.ref f)=true
 kp:PySem.W.keepIn K (.ref f)=true
section
variable {X:Cx}{pins:List (Addr×Obj)}{σ:St}{H:Hp}{s:Shared}{a C dx:Addr}{fs:List (Str×V)}{f:Str}{v:V}{A:Around}{E:Value->Shared->Prop}
theorem iQ (I:Inv X pins σ H s) (e:H a=some (.ins C dx fs)) (c:Cls X.K C) (n:bA X.K C f) (l:fs.lookup f=some v)
  (h:∀ u g,Inv X pins σ H g->RelV v u->Q u g):wpAny (model X.prog X.w) A (getAttr (.ref a) f b) Q E s:=by
 obtain⟨mA,O,r,_,_,_⟩:=gB I.hok e
 obtain⟨u,i,d⟩:=eu.some_of (v:=v) (o:=mA f) (by rw[<- l];exact r f)
 exact get_map I.kIn O (c.get f) c.hd n i (pk d) (h u _ (I.tok _) d)
theorem i8 (I:Inv X pins σ H s) (e:H a=some (.ins C dx fs)) (c:Cls X.K C) (k:Meth X.K C m g) (l:fs.lookup m=none)
  (h:Q (.ref g,[.ref a]) s):wpAny (model X.prog X.w) A (getMethod (.ref a) m pl) Q E s:=by
 obtain⟨mA,O,r,_,_,_⟩:=gB I.hok e
 have d:mA m=none:=eu.none_of (by rw[<- l];exact r m)
 exact rD I.kIn O (c.get m) k.at_ k.fn d h
theorem mD (I:Inv X pins σ H s) (e:H a=some (.ins C dx fs)) (c:Cls X.K C) (n:bA X.K C f) (J:fs.length<1000) (F:RelV y u)
  (h:∀ j,Inv X pins σ (upd H a (.ins C dx (aP f y fs))) j->Q () j):wpAny (model X.prog X.w) A (setAttr (.ref a) f u) Q E s:=by
 obtain⟨mA,O,r,k,_,i⟩:=gB I.hok e
 have D:(fs.map (·.1)).length<=sizeLine:=by rw[Cy,El];lia
 refine tX I.kIn O c.sa c.po n.yu c.hd k D λ h' d G=>h _ ?_
 have p:∃ o,h'.get? dx=some o:=let ⟨o,_,_,l,_⟩:=d.ns;⟨o,l⟩
 refine I.write (x:=a) (e:=dx) (by rw[e];exact True.intro) (.inr i) (λ b q m z=>(G.2 b m).trans z) p ?_
 refine⟨by rw[aE O.ne];exact i,?_,O.ne,d.obj,_,d.ns,λ g=>?_,λ g B=>?_⟩
 ·have:=bG f y fs;lia
 ·show eu ((aP f y fs).lookup g) (if g=f then some u else mA g)
  rw[bF]
  by_cases q:g=f
  ·rw[CG q,CG q];exact F
  ·rw[CD q,CD q];exact r g
 ·by_cases q:g=f
  ·rw[q];exact(gL f y fs).1
  ·refine(gL f y fs).2 g (k g λ z=>B ?_)
   show (if g=f then some u else mA g)=none
   rw[CD q];exact z
theorem Inv.made (I:Inv X pins σ H s):Inv X pins σ (upd (upd H s.heap.objs.size (.own (s.heap.objs.size+1))) (s.heap.objs.size+1) (.ins C s.heap.objs.size []))
  { s with heap:=(s.heap.push PySem.W.emptyDict).push (PySem.W.instObj C s.heap.objs.size) }:=by
 have d:(s.heap.push PySem.W.emptyDict).get? s.heap.objs.size=some PySem.W.emptyDict:=Heap.get?_push_size s.heap rfl
 have j:((s.heap.push PySem.W.emptyDict).push (PySem.W.instObj C s.heap.objs.size)).get? (s.heap.objs.size+1)=some (PySem.W.instObj C s.heap.objs.size):=by
  have:=Heap.get?_push_size (s.heap.push PySem.W.emptyDict) (o:=PySem.W.instObj C s.heap.objs.size) rfl
  rwa [Heap.size_push] at this
 have k:(s.heap.push PySem.W.emptyDict).Ns s.heap.objs.size (λ _=>none):=⟨PySem.W.emptyDict,#[],_,d,rfl,(λ e l=>absurd l (by simp)),λ _=>rfl⟩
 have i:=I.laid (a:=s.heap.objs.size) (o:=.own (s.heap.objs.size+1)) (h':=s.heap.push PySem.W.emptyDict) (t':=s.toks) (λ b u q=>Heap.get?_push_of_some _ q) (Nat.le_refl _) ⟨_,d⟩
 refine i.laid (a:=s.heap.objs.size+1) (o:=.ins C s.heap.objs.size []) (t':=s.toks) (λ b u q=>Heap.get?_push_of_some _ q) (Nat.le_of_eq (Heap.size_push _ _)) ?_
 have g:s.heap.objs.size≠s.heap.objs.size+1:=CI (D4 _)
 refine⟨by rw[aE g,aD],Dq _,g,j,λ _=>none,(Heap.Ns1.of_empty k).at λ o q=>Heap.get?_push_of_some _ q,λ _=>True.intro,λ y m=>absurd rfl m⟩
theorem sJ (g:attributeBase e f env (eval e env)=eval e env)
  (h:wpAny (model prog w) A (eval e env) (λ o d=>wpAny (model prog w) A (getAttr o f true) Q E d) E s):wpAny (model prog w) A (eval (.Attribute e f pos) env) Q E s:=
 Attribute_any_ h (by rw[arm_eval_Attribute,g])
end
noncomputable def lS (K:PySem.W.Frag) (ta:TE) (f:Str):TE:=λ σ H Q=>ta σ H λ x H1=>∃ a C dx fs v,x=.ref a/\H1 a=some (.ins C dx fs)/\Cls K C/\bA K C f/\fs.lookup f=some v/\Q v H1
noncomputable def wt (K:PySem.W.Frag) (ta tv:TE) (f:Str):TS:=λ D σ H=>tv σ H λ y H1=>ta σ H1 λ x H2=>∃ a C dx fs,x=.ref a/\H2 a=some (.ins C dx fs)/\Cls K C/\bA K C f/\fs.length<1000 /\
 D.nx σ (upd H2 a (.ins C dx (aP f y fs)))
section
variable {X:Cx}{o e value:Expr}{f:Str}{pos pos' tpos:Pos}{ta tv:TE}
theorem wW (k:PE X e ta) (j:attributeBase e f X.env (eval e X.env)=eval e X.env):PE X (.Attribute e f pos) (lS X.K ta f):=by
 intro pins s σ H Q I h
 refine sJ j (thn (k pins s σ H _ I h) λ u r ⟨x,H1,d,p,a,C,dx,fs,v,ex,i,c,n,l,q⟩=>?_)
 subst ex
 obtain rfl:u=Value.ref a:=p
 exact iQ d i c n l λ z y g m=>⟨v,H1,g,m,q⟩
theorem wL (k:PE X o ta) (m:PE X value tv) (hs:swapsWith value (some (.Attribute o f pos')) pos.line X.env=pure false):PS X (.Assign [.Attribute o f pos'] value pos) (wt X.K ta tv f):=by
 intro pins s σ H D I h
 refine plainObj_wpAny_Assign_Attribute (thn (m pins s σ H _ I h) λ u F ⟨y,H1,d,B,q⟩=>thn (k pins F σ H1 _ d q) λ p G ⟨x,H2,g,z,a,C,dx,fs,ex,j,c,n,l,r⟩=>?_) hs
 subst ex
 obtain rfl:p=Value.ref a:=z
 exact mD g j c n l B λ J i=>⟨σ,_,i,r⟩
end
section
variable {X:Cx}{pins:List (Addr×Obj)}{σ:St}{H:Hp}{s:Shared}{A:Around}{E:Value->Shared->Prop}{Q:Value->Shared->Prop}{c:Value}{b:Bool}
inductive gY (K:PySem.W.Frag) (H:Hp):V->Value->Prop where
 | non:gY K H .non (.type "NoneType")
 | bl (x:Bool):gY K H (.bl x) (.type "bool")
 | int (i:Int):gY K H (.int i) (.type "int")
 | str (x:Str):gY K H (.str x) (.type "str")
 | flt (x:UInt64):gY K H (.flt x) (.type "float")
 | lst {a:Addr} {xs:List V} (e:H a=some (.lst xs)):gY K H (.ref a) (.type "list")
 | frz {a:Addr} {o:Obj} {xs:List V} (e:H a=some (.frz o (.lst xs))):gY K H (.ref a) (.type "list")
 | tup {a:Addr} {xs:List V} (e:H a=some (.tup xs)):gY K H (.ref a) (.type "tuple")
 | dK {a:Addr} {kvs:List (Key×V)} (e:H a=some (.dK kvs)):gY K H (.ref a) (.type "dict")
 | dT {a:Addr} {kvs:List (List Key×V)} (e:H a=some (.dT kvs)):gY K H (.ref a) (.type "dict")
 | ins {a C dx:Addr} {fs:List (Str×V)} (e:H a=some (.ins C dx fs)) (cl:Cls K C) (ha:PySem.W.findIn K (.ref C) "__class__" = some (some (.builtin "object.__class__")))
   (hn:PySem.W.specialIn K (.builtin "object.__class__") "__get__" = some (some (.builtin "getset_descriptor.__get__"))) (htk:PySem.W.takesIn K (.builtin "object.__class__")=some true)
   (hm:PySem.W.mroIn K C (.type "object")=some true):gY K H (.ref a) (.ref C)
theorem pL {x:V}{u t:Value}(I:Inv X pins σ H s) (rx:RelV x u) (ty:gY X.K H x t) (e:PySem.W.kitOne X.K t c=some b) (h:∀ tk,Q (.bool b) { s with toks:=tk }) :
  wpAny (model X.prog X.w) A (call (.builtin "isinstance") [u,c]) Q E s:=by
 cases ty with
 | non=>cases (show u=Value.none from rx);exact DT PySem.W.kitx_none I.kIn True.intro e (λ z=>nomatch z) h
 | bl y=>cases (show u=Value.bool y from rx);exact DT PySem.W.kitx_bool I.kIn True.intro e (λ z=>nomatch z) h
 | int i=>obtain⟨t,q⟩:=(show ∃ t,u=Value.int i t from rx);cases q;exact DT PySem.W.kitx_int I.kIn True.intro e (λ z=>nomatch z) h
 | str y=>obtain⟨t,q⟩:=(show ∃ t,u=Value.str y t from rx);cases q;exact DT PySem.W.kitx_str I.kIn True.intro e (λ z=>nomatch z) h
 | flt y=>obtain⟨t,q⟩:=(show ∃ t,u=Value.float y t from rx);cases q;exact DT PySem.W.kitx_float I.kIn True.intro e (λ z=>nomatch z) h
 | @lst a xs ea=>
  cases (show u=Value.ref a from rx)
  obtain⟨_,_,n,_,h1⟩:=(show bu X.prog X.w H s.heap a (.lst xs) from I.hok a _ ea)
  exact DT PySem.W.kitx_list I.kIn ⟨_,h1,rfl⟩ e (λ z=>nomatch z) h
 | @frz a ob xs ea=>
  cases (show u=Value.ref a from rx)
  obtain⟨_,_,_,n,_,h1⟩:=(show bu X.prog X.w H s.heap a (.frz ob (.lst xs)) from I.hok a _ ea)
  exact DT PySem.W.kitx_list I.kIn ⟨_,h1,rfl⟩ e (λ z=>nomatch z) h
 | @tup a xs ea=>
  cases (show u=Value.ref a from rx)
  obtain⟨_,_,_,p⟩:=(show bu X.prog X.w H s.heap a (.tup xs) from I.hok a _ ea)
  obtain⟨o,h1,h2,_⟩:=p
  exact DT PySem.W.kitx_tuple I.kIn ⟨o,h1,h2⟩ e (λ z=>nomatch z) h
 | @dK a kvs ea=>
  cases (show u=Value.ref a from rx)
  obtain⟨_,_,vs,_,p⟩:=(show bu X.prog X.w H s.heap a (.dK kvs) from I.hok a _ ea)
  obtain⟨o,es,ep,h1,h2,_⟩:=p
  exact DT PySem.W.kitx_dict I.kIn ⟨o,h1,h2.1⟩ e (λ z=>nomatch z) h
 | @dT a kvs ea=>
  cases (show u=Value.ref a from rx)
  obtain⟨_,_,xs,_,o,es,ep,h1,h2,_⟩:=(show bu X.prog X.w H s.heap a (.dT kvs) from I.hok a _ ea)
  exact DT PySem.W.kitx_dict I.kIn ⟨o,h1,h2.1⟩ e (λ z=>nomatch z) h
 | @ins a C dx fs ea cl ha hn htk hm=>
  cases (show u=Value.ref a from rx)
  obtain⟨mA,O,_⟩:=gB I.hok ea
  obtain⟨od,J,_⟩:=O.look
  exact DT (PySem.W.kitx_own (cl.get _) cl.hd ha hn htk hm) I.kIn J e (λ z=>nomatch z) h
end
structure cn (k:Nat) (A:Around):Prop where
 hd:A.handled=none
 dp:A.depth+3*k+5<recursionLimit
 un:A.units+16*k+200<cLine
theorem cn.mono (r:cn k A) (h:j<=k):cn j A:=⟨r.hd,by have:=r.dp;lia,by have:=r.un;lia⟩
theorem cn.deeper (r:cn (k+1) A) (env:Env):cn k (A.deeper env):=
 ⟨r.hd,by have:=r.dp;show A.depth+1+3*k+5<_;lia,by have:=r.un;show A.units+3+16*k+200<_;lia⟩
theorem nF {A:Around}{C:Addr}{us:List Value}{kw:List (Str×Value)}:(A.under (.builtin "type.__call__" ⟨.ref C::us,kw⟩)).depth=A.depth+1:=by
 first|rfl|simp[Around.under,Code.weight,Code.isCreation,Code.isGuard,Code.isCaller,Code.frames,Code.isFrame,guardIds]
theorem m7 {A:Around}{C:Addr}{us:List Value}{kw:List (Str×Value)}:(A.under (.builtin "type.__call__" ⟨.ref C::us,kw⟩)).units=A.units+1:=by
 first|rfl|simp[Around.under,Code.cUnits,Code.frames,Code.isFrame]
theorem cn.make (r:cn (k+1) A) (C) (us) (kw):cn k (A.under (.builtin "type.__call__" ⟨.ref C::us,kw⟩)):=
 ⟨r.hd,by have:=r.dp;rw[nF];lia,by have:=r.un;rw[m7];lia⟩
theorem cn.depth (r:cn k A):A.depth<recursionLimit:=by have:=r.dp;lia
theorem cn.units (r:cn k A):A.units+64<cLine:=by have:=r.un;lia
noncomputable def nA:TA:=λ _ H Q=>Q [] H
noncomputable def ic (ta:TE) (tr:TA):TA:=λ σ H Q=>ta σ H λ x H1=>tr σ H1 λ xs H2=>Q (x::xs) H2
section
variable {X:Cx}{e:Expr}{es:List Expr}{te:TE}{t:TA}{pos:Pos}
theorem aG:PA X [] nA:=λ _ _ _ _ H Q I h=>Calls.spliced_nil ⟨[],H,I,.nil,h⟩
theorem tL (i:PE X e te) (j:PA X es t) (hs:starEach (e::es) X.env=(false,eval e X.env)::starEach es X.env:=by rfl):PA X (e::es) (ic te t):=by
 intro pos pins s σ H Q I h
 rw[hs]
 show wpAny _ _ (spliced ((false,eval e X.env)::backTo pos (starEach es X.env))) _ _ s
 refine Calls.spliced_cons (thn (i pins s σ H _ I h) λ u p ⟨x,H1,d,m,k⟩=>?_)
 exact thn (j pos pins p σ H1 _ d k) λ r q ⟨xs,H2,g,n,l⟩=>⟨x::xs,H2,g,.cons m n,l⟩
noncomputable def Ad (t:TA):TE:=λ σ H Q=>t σ H λ xs H1=>xs.length<=sizeLine/\∀ p,H1 p=none->Q (.ref p) (upd H1 p (.tup xs))
noncomputable def Co (t:TA):TE:=λ σ H Q=>t σ H λ xs H1=>xs.length<=sizeLine/\∀ p,H1 p=none->Q (.ref p) (upd H1 p (.lst xs))
theorem cB {l}(h:PA X es t):PE X (.Tuple es l pos) (Ad t):=by
 intro pins s σ H Q I j
 refine wpAny_Tuple_spliced (thn (h pos pins s σ H _ I j) λ k d ⟨xs,H1,g,r,z,q⟩=>⟨by rw[<- r.length];exact z,?_⟩)
 have i:H1 d.heap.objs.size=none:=g.hok.fresh (Nat.le_refl _)
 refine⟨.ref d.heap.objs.size,upd H1 d.heap.objs.size (.tup xs),g.laid (t':=d.toks) (λ b u e=>Heap.get?_push_of_some _ e) (Nat.le_refl _) ?_,rfl,q _ i⟩
 exact⟨z,k,r,⟨_,Heap.get?_push_size _ rfl,rfl,_,rfl⟩⟩
theorem cV (h:PA X es t):PE X (.List es pos) (Co t):=by
 intro pins s σ H Q I j
 refine wpAny_List_spliced (thn (h pos pins s σ H _ I j) λ k d ⟨xs,H1,g,r,z,q⟩=>⟨by rw[<- r.length];exact z,?_⟩)
 have i:H1 d.heap.objs.size=none:=g.hok.fresh (Nat.le_refl _)
 refine⟨.ref d.heap.objs.size,upd H1 d.heap.objs.size (.lst xs),g.laid (t':=d.toks) (λ b u e=>Heap.get?_push_of_some _ e) (Nat.le_refl _) ?_,rfl,q _ i⟩
 exact⟨z,k,0,r,Heap.get?_push_size _ rfl⟩
end
noncomputable abbrev Sp:=List V->Hp->VK->XK->Prop
noncomputable abbrev CXT:=List Env->Hp->Shared->XK->Value->Shared->Prop
structure jt (P:Program) (w:World) (K:PySem.W.Frag) (mg:Str->Option Value) (base:Heap) (A:Around) (outer:List Env) (s:Shared) (H:Hp):Prop where
 frames:A.frames=some outer
 mod:Mod K mg base
 bs:∀ b o,base.get? b=some o->s.heap.get? b=some o/\H b=none
 bsz:base.objs.size<=s.heap.objs.size
 gS:s.heap.FunFrames base outer
 frf:∀ b∈frs outer,H b=none
 hok:HOk P w H s.heap
 bare:AllBare s.gens
noncomputable def CE (outer:List Env) (P:Program) (w:World) (H:Hp) (s:Shared) (Q:VK) (u:Value) (s':Shared):Prop:=
 ∃ v H',s'.os=s.os/\AllBare s'.gens/\Un (frs outer) [] H H' s.heap s'.heap/\HOk P w H' s'.heap/\RelV v u/\Q v H'
noncomputable def CR (CX:CXT) (outer:List Env) (P:Program) (w:World) (H:Hp) (s:Shared) (Q:VK) (E:XK) (r:Result) (s':Shared):Prop:=
 match r with
 | .ok (.ret u)=>CE outer P w H s Q u s'
 | .ok _=>False
 | .error e=>CX outer H s E e s'
structure bq (P:Program) (w:World) (K:PySem.W.Frag) (mg:Str->Option Value) (base:Heap) (CX:CXT) (k:Nat) (f:Addr) (fd:FuncData) (ps:List Str) (sp:Sp):Prop where
 len:∀ vs H Q E,sp vs H Q E->vs.length=ps.length
 run:∀ (A:Around) (outer:List Env) (s:Shared) (H:Hp) (args:Args) (us:List Value) (vs:List V) (Q:VK) (E:XK),cn k A->jt P w K mg base A outer s H->BindsTo s fd args (ps.zip us)->Vals vs us->sp vs H Q E ->
  codeAny (model P w) A (.call (.ref f) args) (CR CX outer P w H s Q E) s
theorem bq.mono {P:Program}{w:World}{K:PySem.W.Frag}{l:Str->Option Value}{base:Heap}{CX:CXT}{j k:Nat}{f:Addr}{i:FuncData}{m:List Str}{sp:Sp}(F:bq P w K l base CX j f i m sp) (h:j<=k) :
  bq P w K l base CX k f i m sp:=⟨F.len,λ A d s H g p q Q E n=>F.run A d s H g p q Q E (n.mono h)⟩
theorem jt.make {P:Program}{w:World}{K:PySem.W.Frag}{g:Str->Option Value}{base:Heap}{A:Around}{d:List Env}{s:Shared}{H:Hp}(e:jt P w K g base A d s H) (C:Addr) (us:List Value) (kw:List (Str×Value)) :
  jt P w K g base (A.under (.builtin "type.__call__" ⟨.ref C::us,kw⟩)) d s H:=⟨by first|exact e.frames|(simpa [Around.under,Code.envs,Code.isFrame,pushEnvs] using e.frames),e.mod,e.bs,e.bsz,e.gS,e.frf,e.hok,e.bare⟩
section
variable {X:Cx}{pins:List (Addr×Obj)}{σ:St}{H:Hp}{s s':Shared}
theorem Inv.wM (I:Inv X pins σ H s):jt X.prog X.w X.K X.mg X.base X.A X.stack s H:=
 ⟨I.ok.frames,I.ok.mod,I.bs,CV I.ok.bsz I.sz,I.stack,I.gH,I.hok,I.bare⟩
theorem Inv.after (I:Inv X pins σ H s) (h:CE X.stack X.prog X.w H s Q u s'):EP X pins σ Q u s':=by
 obtain⟨v,H',m,i,n,j,r,q⟩:=h
 obtain⟨l,g,d,t,k⟩:=s'
 obtain rfl:k=s.os:=m
 exact⟨v,H',I.call (h':=l) (g':=g) (d':=d) (t':=t) (ch:=[]) n j i (λ b z=>absurd z (by simp)),r,q⟩
end
noncomputable def vj (sp:Sp) (dvs:List V) (E:XK) (t:TA):TE:=λ σ H Q=>t σ H λ vs H1=>sp (vs++dvs) H1 Q E
noncomputable def lR (C:Addr) (m:Str) (sp:Sp) (dvs:List V) (E:XK) (ta:TE) (t:TA):TE:=λ σ H Q=>ta σ H λ x H1=>∃ a dx fs,x=.ref a/\H1 a=some (.ins C dx fs)/\fs.lookup m=none /\
 t σ H1 λ vs H2=>sp (x::(vs++dvs)) H2 Q E
noncomputable def Bo (C:Addr) (sp:Sp) (dvs:List V) (E:XK) (t:TA):TE:=λ σ H Q=>t σ H λ vs H1=>∀ x dx,H1 x=none->H1 dx=none->dx≠x ->
 sp (.ref x::(vs++dvs)) (upd (upd H1 dx (.own x)) x (.ins C dx [])) (λ v H2=>v=.non/\Q (.ref x) H2) E
noncomputable def Binds (K:PySem.W.Frag) (fd:FuncData) (ps:List Str) (ds:List Value):Prop:=
 ∀ (s:Shared) (us:List Value),K.In s.heap->(us++ds).length=ps.length->BindsTo s fd ⟨us,[]⟩ (ps.zip (us++ds))
theorem Binds.all {K:PySem.W.Frag}{g:FuncData}{d:List Str}(h:∀ us:List Value,us.length=d.length->bindArgs g ⟨us,[]⟩=pure (d.zip us)):Binds K g d []:=λ s us _ i=>by
 rw[D2] at i ⊢
 exact .of_eq (h us i)
noncomputable def Passes (CX:CXT) (X:Cx) (E:XK):Prop:=∀ (pins:List (Addr×Obj)) (σ:St) (H:Hp) (s:Shared) (e:Value) (s':Shared),Inv X pins σ H s->CX X.stack H s E e s'->X.xe e s'
section
variable {X:Cx}{CX:CXT}{k:Nat}{f C:Addr}{fd:FuncData}{ps:List Str}{sp:Sp}{dvs:List V}{ds:List Value}{E:XK}{x m:Str}{p pos apos:Pos}{e o:Expr}{es:List Expr}{ta:TE}{t:TA}
theorem ni (F:bq X.prog X.w X.K X.mg X.base CX k f fd ps sp) (q:cn k X.A) (j:Binds X.K fd ps ds) (l:Vals dvs ds) (y:Passes CX X E)
  (I:Inv X pins σ H s) (r:Vals vs us) (h:sp (vs++dvs) H Q E):wpAny (model X.prog X.w) X.A (call (.ref f) us) (EP X pins σ Q) X.xe s:=by
 have g:Vals (vs++dvs) (us++ds):=r.append l
 have n:(us++ds).length=ps.length:=by rw[<- g.length];exact F.len _ _ _ _ h
 refine E4 (EO (F.run X.A X.stack s H ⟨us,[]⟩ (us++ds) (vs++dvs) Q E q I.wM (j s us I.kIn n) g h) λ r s' d=>?_)
 cases r with
 | error e=>exact y pins σ H s e s' I d
 | ok i=>
  cases i with
  | ret u=>exact I.after d
  | next=>exact False.elim d
  | brk=>exact False.elim d
  | cont=>exact False.elim d
theorem aV (F:bq X.prog X.w X.K X.mg X.base CX k f fd ps sp) (G:cn k X.A) (z:Gl X x) (D:X.mg x=some (.ref f)) (B:PySem.W.keepIn X.K (.ref f)=true) (l:Binds X.K fd ps ds) (n:Vals dvs ds) (J:Passes CX X E)
  (j:PA X (e::es) t) (d:(x == ("__debug__" : Str))=false:=by decide) (y:starEach (e::es) X.env=(false,eval e X.env)::starEach es X.env:=by rfl) (g:(backTo pos (starEach es X.env)).any (·.1)=false:=by rfl) :
  PE X (.Call (.Name x p) (e::es) [] pos) (vj sp dvs E t):=by
 intro pins s σ H Q I h
 refine Ef (gC I z D ?_ d)
 refine Fq (h₀:=X.base) I.ok.mod.kin B (thn (j pos pins s σ H _ I h) λ M L ⟨N,H1,i,r,q⟩=>⟨i.kIn,?_⟩) y g
 exact ni F G l n J i r q
theorem aX {pl:Sem Bool}(he:PE X o ta) (c:Cls X.K C) (hm:Meth X.K C m f) (F:bq X.prog X.w X.K X.mg X.base CX k f fd ps sp) (hr:cn k X.A) (hb:Binds X.K fd ps ds) (hd:Vals dvs ds) (hx:Passes CX X E) (ha:PA X (e::es) t)
  (hst:starEach (e::es) X.env=(false,eval e X.env)::starEach es X.env:=by rfl) (hpl:(backTo pos (starEach es X.env)).any (·.1)=false:=by rfl)
  (ht:eval (.Call (.Attribute o m apos) (e::es) [] pos) X.env=(do
   let ov <- eval o X.env
   standAt apos.atName
   let (f,first) <- holding [ov] (getMethod ov m pl)
   callWith pos f first (backTo pos (starEach (e::es) X.env)) (backToKw pos (keywordEach [] X.env))):=by rfl) :
  PE X (.Call (.Attribute o m apos) (e::es) [] pos) (lR C m sp dvs E ta t):=by
 intro pins s σ H Q I h
 refine FV (pl:=pl) (thn (he pins s σ H _ I h) λ u s1 ⟨x,H1,I1,rx,a,dx,fs,ex,ea,l,q⟩=>?_) ht
 subst ex
 obtain rfl:u=Value.ref a:=rx
 refine i8 I1 ea c hm l ?_
 refine Fq (first:=[.ref a]) (h₀:=X.base) I.ok.mod.kin hm.kp (thn (ha pos pins s1 σ H1 _ I1 q) λ us s2 ⟨vs,H2,I2,r,q2⟩=>⟨I2.kIn,?_⟩) hst hpl
 exact ni (us:=.ref a::us) (vs:=.ref a::vs) F hr hb hd hx I2 (.cons rfl r) q2
theorem bc {pl:Sem Bool}(he:PE X o ta) (c:Cls X.K C) (hm:Meth X.K C m f) (F:bq X.prog X.w X.K X.mg X.base CX k f fd ps sp) (hr:cn k X.A) (hb:Binds X.K fd ps ds) (hd:Vals dvs ds) (hx:Passes CX X E)
  (ht:eval (.Call (.Attribute o m apos) [] [] pos) X.env=(do
   let ov <- eval o X.env
   standAt apos.atName
   let (f,first) <- holding [ov] (getMethod ov m pl)
   callWith pos f first (backTo pos (starEach [] X.env)) (backToKw pos (keywordEach [] X.env))):=by rfl) :
  PE X (.Call (.Attribute o m apos) [] [] pos) (lR C m sp dvs E ta nA):=by
 intro pins s σ H Q I h
 refine FV (pl:=pl) (thn (he pins s σ H _ I h) λ u s1 ⟨x,H1,I1,rx,a,dx,fs,ex,ea,l,q⟩=>?_) ht
 subst ex
 obtain rfl:u=Value.ref a:=rx
 refine i8 I1 ea c hm l ?_
 exact PySem.W.callWith_K0 (first:=[.ref a]) I1.kIn hm.kp (ni (us:=[.ref a]) (vs:=[.ref a]) F hr hb hd hx I1 (.cons rfl .nil) q)
structure Mk (K:PySem.W.Frag) (C f:Addr):Prop where
 makes:PySem.W.makesIn K C=true
 init:PySem.W.findIn K (.ref C) "__init__" = some (some (.ref f))
 fn:PySem.W.isFn K (.ref f)=true
 kp:PySem.W.keepIn K (.ref C)=true
theorem qu (M:Mk X.K C f) (F:bq X.prog X.w X.K X.mg X.base CX k f fd ps sp) (D:cn (k+1) X.A) (y:Binds X.K fd ps ds) (z:Vals dvs ds)
  (G:Passes CX X E) (I:Inv X pins σ H s) (r:Vals vs us)
  (h:∀ x dx,H x=none->H dx=none->dx≠x->sp (.ref x::(vs++dvs)) (upd (upd H dx (.own x)) x (.ins C dx [])) (λ v H2=>v=.non/\Q (.ref x) H2) E) :
  wpAny (model X.prog X.w) X.A (call (.ref C) us) (EP X pins σ Q) X.xe s:=by
 have i:=h (s.heap.objs.size+1) s.heap.objs.size (I.hok.fresh (Ex _)) (I.hok.fresh (Nat.le_refl _)) (CI (D4 _))
 have g:=Inv.made (C:=C) I
 have j:Vals (V.ref (s.heap.objs.size+1)::(vs++dvs)) (Value.ref (s.heap.objs.size+1)::(us++ds)):=.cons rfl (r.append z)
 have B:(Value.ref (s.heap.objs.size+1)::us++ds).length=ps.length:=by
  have e:=j.length
  rw[F.len _ _ _ _ i] at e
  exact e.symm
 refine E4 (sk (f:=f) I.kIn M.makes M.init (DY.mp M.fn) (EO (F.run _ X.stack _ _ ⟨Value.ref (s.heap.objs.size+1)::us,[]⟩ (Value.ref (s.heap.objs.size+1)::(us++ds)) _ _ E (D.make C us [])
  (g.wM.make C us []) (y _ (Value.ref (s.heap.objs.size+1)::us) g.kIn B) j i) λ r s' d=>?_))
 cases r with
 | error e=>exact G pins σ _ _ e s' g d
 | ok q=>
  cases q with
  | ret u=>
   obtain⟨v,H',l,L,n,J⟩:=g.after d
   subst n
   exact⟨L,⟨V.ref (s.heap.objs.size+1),H',l,rfl,J⟩⟩
  | next=>exact False.elim d
  | brk=>exact False.elim d
  | cont=>exact False.elim d
theorem dI (M:Mk X.K C f) (F:bq X.prog X.w X.K X.mg X.base CX k f fd ps sp) (D:cn (k+1) X.A) (z:Gl X x) (B:X.mg x=some (.ref C)) (l:Binds X.K fd ps ds) (n:Vals dvs ds) (G:Passes CX X E)
  (j:PA X (e::es) t) (d:(x == ("__debug__" : Str))=false:=by decide) (y:starEach (e::es) X.env=(false,eval e X.env)::starEach es X.env:=by rfl) (g:(backTo pos (starEach es X.env)).any (·.1)=false:=by rfl) :
  PE X (.Call (.Name x p) (e::es) [] pos) (Bo C sp dvs E t):=by
 intro pins s σ H Q I h
 refine Ef (gC I z B ?_ d)
 refine Fq (h₀:=X.base) I.ok.mod.kin M.kp (thn (j pos pins s σ H _ I h) λ L J ⟨N,H1,i,r,q⟩=>⟨i.kIn,?_⟩) y g
 exact qu M F D l n G i r q
end
noncomputable def PK (X:Cx) (kws:List Keyword) (t:TA):Prop:=
 ∀ (pos:Pos) (pins:List (Addr×Obj)) (s:Shared) (σ:St) (H:Hp) (Q:List V->Hp->Prop),Inv X pins σ H s->t σ H Q->wpAny (model X.prog X.w) X.A (evalAll ((backToKw pos (keywordEach kws X.env)).map (·.2))) (AP X pins σ Q) X.xe s
section
variable {X:Cx}{CX:CXT}{k:Nat}{f C:Addr}{fd:FuncData}{ps ks:List Str}{sp:Sp}{E:XK}{x m:Str}{p pos apos kpos:Pos}{e o:Expr}{es:List Expr}{kws:List Keyword}{te ta:TE}{t tk:TA}{nm:Option Str}
theorem qw:PK X [] nA:=λ _ _ _ _ H Q I h=>wpAny_evalAll_nil ⟨[],H,I,.nil,h⟩
theorem oQ (ha:PE X e te) (hr:PK X kws t):PK X (⟨nm,e,kpos⟩::kws) (ic te t):=by
 intro pos pins s σ H Q I h
 show wpAny _ _ (evalAll ((do let v <- eval e X.env;standAt pos;pure v)::(backToKw pos (keywordEach kws X.env)).map (·.2))) _ _ s
 refine wpAny_evalAll_cons (Cq (thn (ha pins s σ H _ I h) λ u s1 ⟨x,H1,I1,r1,q1⟩=>Cq (Fg (Cu ?_))))
 exact thn (hr pos pins s1 σ H1 _ I1 q1) λ us s2 ⟨xs,H2,I2,r2,q2⟩=>⟨x::xs,H2,I2,.cons r1 r2,q2⟩
variable {g:List Value->List Value->List Value}{gV:List V->List V->List V}
end
structure aQ (N P:List Str) (sc:Scope):Prop where
 kind:sc.kind=.function
 co:sc.isCoroutine=false
 gen:sc.isGenerator=false
 nd:N.Nodup
 pre:N.take P.length=P
 par:∀ x∈P,sc.names.lookup x=some .local\/sc.names.lookup x=some .cell
 nofree:∀ y∈sc.names,y.2≠.free
theorem jV {i:Str->Option NameKind}{x:Str}:∀ {d:List (Str×Value)}{m:Str->Option Value},(∀ v,(x,v)∉d)->bindL i d m x=m x
 | [],_,_=>rfl
 | (n,v)::r,m,h=>by
  unfold bindL
  rw[jV λ w j=>h w (CH _ j)]
  split
  ·have:x≠n:=by rintro rfl;exact h v CJ
   simp[this]
  ·rfl
theorem j4 {i:Str->Option NameKind}{x:Str}:∀ {d:List (Str×Value)}{m:Str->Option Value},(∀ v,(x,v)∉d)->bindC i d m x=m x
 | [],_,_=>rfl
 | (n,v)::r,m,h=>by
  unfold bindC
  rw[j4 λ w j=>h w (CH _ j)]
  split
  ·rfl
  ·have:x≠n:=by rintro rfl;exact h v CJ
   simp[this]
theorem gP {d:Str->Option NameKind}{x:Str}{v:Value}:∀ {P:List Str}{vs:List Value}{i:Nat}{m:Str->Option Value},P.Nodup->P[i]? = some x->vs[i]? = some v->d x=some .local ->
  bindL d (P.zip vs) m x=some v
 | [],_,_,_,_,h,_,_=>by simp at h
 | _::_,[],_,_,_,_,h,_=>by simp at h
 | p::P,w::vs,0,m,nd,h1,h2,hk=>by
  simp at h1 h2;subst h1;subst h2
  show bindL d ((p,w)::P.zip vs) m p=_
  unfold bindL
  rw[jV λ v j=>(DM.mp nd).1 (Fl j).1,CG hk]
  simp
 | p::P,w::vs,i+1,m,nd,h1,h2,hk=>by
  show bindL d ((p,w)::P.zip vs) m x=_
  unfold bindL
  exact gP (i:=i) (DM.mp nd).2 (by simpa using h1) (by simpa using h2) hk
theorem jU {d:Str->Option NameKind}{x:Str}{v:Value}:∀ {P:List Str}{vs:List Value}{i:Nat}{m:Str->Option Value},P.Nodup->P[i]? = some x->vs[i]? = some v->d x≠some .local ->
  bindC d (P.zip vs) m x=some v
 | [],_,_,_,_,h,_,_=>by simp at h
 | _::_,[],_,_,_,_,h,_=>by simp at h
 | p::P,w::vs,0,m,nd,h1,h2,hk=>by
  simp at h1 h2;subst h1;subst h2
  show bindC d ((p,w)::P.zip vs) m p=_
  unfold bindC
  rw[j4 λ v j=>(DM.mp nd).1 (Fl j).1,CD hk]
  simp
 | p::P,w::vs,i+1,m,nd,h1,h2,hk=>by
  show bindC d ((p,w)::P.zip vs) m x=_
  unfold bindC
  exact jU (i:=i) (DM.mp nd).2 (by simpa using h1) (by simpa using h2) hk
noncomputable def start (N:List Str) (vs:List V):St:=vs.map some++List.replicate (N.length-vs.length) none
noncomputable def dR (CX:CXT) (P:Program) (w:World) (K:PySem.W.Frag) (mg:Str->Option Value) (base:Heap) (N:List Str) (qual:Str) (scope:Scope) (f:Addr) (cd:Value) (A:Around) (outer:List Env) (s:Shared) (H:Hp) (E:XK):Cx where
 prog:=P
 w:=w
 K:=K
 mg:=mg
 base:=base
 A:=A.deeper (envOfC qual scope s.heap.objs.size f cd)
 N:=N
 s₀:=s
 H₀:=H
 env:=envOfC qual scope s.heap.objs.size f cd
 outer:=outer
 stack:=envOfC qual scope s.heap.objs.size f cd::outer
 ex:=[]
 calm:=true
 fn:=λ _=>true
 pn:=[]
 xe:=λ e s'=>wpAny (model P w) (A.deeper (envOfC qual scope s.heap.objs.size f cd)) (leaving (envOfC qual scope s.heap.objs.size f cd) e) (λ _ s''=>CX outer H s E e s'') (λ e' s''=>CX outer H s E e' s'') s'
theorem iT {sc:Scope}{n:Nat}{x:Str}(h:sc.names.lookup x=some .cell):∃ c,(cellsFrom n sc.names []).lookup x=some c:=by
 have q:=FL sc.names n [] (.inl h)
 exact Option.isSome_iff_exists.mp q
theorem jS {CX:CXT}{P:Program}{w:World}{K:PySem.W.Frag}{mg:Str->Option Value}{base:Heap}{N ps:List Str}{qual:Str}{scope:Scope}{f:Addr}{cd:Value}{A:Around}{outer:List Env}{s s1:Shared}{H:Hp}{E:XK}{us:List Value}{vs:List V}
  (S:aQ N ps scope) (hd:A.handled=none) (e0:jt P w K mg base A outer s H) (hl:vs.length=ps.length) (r:Vals vs us)
  (x:InCallC s s.heap.objs.size (bindL (envOfC qual scope s.heap.objs.size f cd).kindOf (ps.zip us) λ _=>none) (cellsFrom (s.heap.objs.size+1) scope.names []) (bindC (envOfC qual scope s.heap.objs.size f cd).kindOf (ps.zip us) λ _=>none) s1) :
  Inv (dR CX P w K mg base N qual scope f cd A outer s H E) [] (start N vs) H s1:=by
 have hpl:ps.length<=N.length:=by have:=congrArg List.length S.pre;rw[Dg] at this;lia
 obtain⟨h1,tk,rfl,hk⟩:=x.done
 have noA:∀ b:Addr,b∉(dR CX P w K mg base N qual scope f cd A outer s H E).ex:=λ b z=>absurd (show b∈([]:List Addr) from z) (by simp)
 refine⟨⟨e0.mod,S.kind,rfl,rfl,Nat.le_refl _,λ y z c h1 h2=>?_,λ y hy=>?_,λ y c _ h=>?_,λ _=>hd,Around.frames_deeper e0.frames,.inr ⟨rfl,rfl⟩,λ b z=>absurd z (noA b),e0.bs,e0.bsz,λ b _ _=>noA b,λ b z=>absurd z (noA b),e0.gS,e0.frf⟩,
  rfl,e0.bare,Un.kept hk,⟨_,x.toInCall.ns,λ i y v h1 h2 h3=>?_⟩,λ y c h=>⟨_,x.cell y c h⟩,e0.hok.fresh (Nat.le_refl _),λ y c h=>?_,λ p hp=>absurd (show p∈([]:List (Addr×Obj)) from hp) (by simp),e0.hok.kept hk,?_⟩
 ·exact name_of_addr x.apart (Dw h1) (Dw h2)
 ·have hy:scope.names.lookup y=some .cell\/scope.names.lookup y=some .free:=hy
  rcases hy with hy|hy
  ·exact iT hy
  ·exact absurd rfl (S.nofree _ (Dw hy))
 ·exact EB (x.above y c (Dw h))
 ·have hi:i<vs.length:=by
   unfold start at h2
   by_cases hi:i<vs.length
   ·exact hi
   ·rw[C3 (by simpa using hi)] at h2
    rw[E6] at h2
    split at h2<;>cases h2
  have ha:vs[i]? = some v:=by
   unfold start at h2
   rw[Dv (by simpa using hi),Cw] at h2
   cases e:vs[i]? with
   | none=>rw[e] at h2;cases h2
   | some a=>rw[e] at h2;cases h2;rfl
  obtain⟨u,hu,rv⟩:=r.get ha
  have hp:ps[i]? = some y:=by
   rw[<- S.pre,FA (by lia)];exact h1
  have ndP:ps.Nodup:=by rw[<- S.pre];exact S.nd.sublist (Gg _ _)
  refine⟨u,rv,?_⟩
  rcases S.par y (CB hp) with k|k
  ·exact .inl ⟨k,gP ndP hp hu k⟩
  ·obtain⟨c,e⟩:=iT (n:=s.heap.objs.size+1) k
   refine .inr ⟨.inl k,c,e,?_⟩
   have q:=x.cell y c e
   rw[jU ndP hp hu (by show scope.names.lookup y≠_;rw[k];decide)] at q
   exact q
 ·exact .inl (e0.hok.fresh (EB (x.above y c (Dw h))))
 ·unfold start
  show _=N.length
  rw[CA,Cy,Ej]
  lia
theorem uT {CX:CXT}{P:Program}{w:World}{K:PySem.W.Frag}{U:Str->Option Value}{base:Heap}{k:Nat}{f:Addr}{name qual:Str}{l:Arguments}{z:List Stmt}{d:Scope}{dV kV L pm j ct oc:Value}{an od:Option Addr}
  {a0:Array (Option Value)}{N ps:List Str}{sp:Sp}(lk:K.lookup f=some ⟨oc,od,.func (PySem.W.fnOf name qual l z d dV kV L pm an j ct),a0⟩) (W:PySem.W.codeIn K j qual=true) (S:aQ N ps d)
  (T:∀ vs H Q E,sp vs H Q E->vs.length=ps.length)
  (D:∀ (A:Around) (i:List Env) (s:Shared) (H:Hp) (vs:List V) (Q:VK) (E:XK),cn k (A.deeper (envOfC qual d s.heap.objs.size f j))->sp vs H Q E ->
   ∃ t,PSs (dR CX P w K U base N qual d f j A i s H E) z t/\t { nx:=λ _ H'=>Q .non H',rt:=Q } (start N vs) H) :
  bq P w K U base CX (k+1) f (PySem.W.fnOf name qual l z d dV kV L pm an j ct) ps sp:=by
 refine⟨T,λ A i s H a1 us vs Q E Y M hb r R=>?_⟩
 have hl:=T _ _ _ _ R
 have KX:K.In s.heap:=M.mod.kin.keeps λ b o e=>(M.bs b o e).1
 have Z:s.heap.NoLimit:=M.mod.nolimit.keeps λ b o e=>(M.bs b o e).1
 have F:∀ y∈ps.zip us,d.names.lookup y.1=some .local\/(d.names.lookup y.1=some .cell/\((cellsFrom (s.heap.objs.size+1) d.names []).lookup y.1).isSome=true):=λ⟨n,v⟩ hy=>by
  rcases S.par n (Fl hy).1 with q|q
  ·exact .inl q
  ·exact .inr ⟨q,FL _ _ _ (.inl q)⟩
 refine FU Y.depth (KX _ _ lk) rfl S.co S.gen rfl (PySem.W.codeRec_of KX W) (hb _ _ _ _ ?_)
 refine wpAny_newFunctionEnv_cells S.kind F λ a2 he s1 x=>?_
 subst he
 refine⟨Z.keeps x.toInCall.keep,codeAny_func ?_⟩
 obtain⟨t,ht,hq⟩:=D A i s H vs Q E (Y.deeper _) R
 have I:Inv (dR CX P w K U base N qual d f j A i s H E) [] (start N vs) H s1:=jS S Y.hd M hl r x
 refine Dp (ht [] s1 (start N vs) H _ I hq) (λ fl s' G=>?_) λ e s' G=>G
 have O:∀ {B:St} {H':Hp} {v:V} {u:Value},Inv (dR CX P w K U base N qual d f j A i s H E) [] B H' s'->RelV v u->Q v H'->CE i P w H s Q u s':=
  λ{B H' v u} J rv q=>⟨v,H',J.os,J.bare,J.base,J.hok,rv,q⟩
 cases fl with
 | ret u=>
  obtain⟨v,B,H',J,rv,q⟩:=G
  exact O J rv q
 | next=>
  obtain⟨B,H',J,q⟩:=G
  exact O (v:=V.non) (u:=Value.none) J rfl q
 | brk=>
  obtain⟨_,_,_,q⟩:=G
  exact False.elim q
 | cont=>
  obtain⟨_,_,_,q⟩:=G
  exact False.elim q
section
variable {X:Cx}{x:Str}{p pos:Pos}{e:Expr}{es:List Expr}{t:TA}{id T:String}{r:List V->Hp->VK->Prop}
noncomputable def tCB (r:List V->Hp->VK->Prop) (t:TA):TE:=λ σ H Q=>t σ H λ vs H1=>r vs H1 Q
theorem bI (n:cq X (.builtin id) r) (y:Gl X x) (z:X.mg x=none) (D:bootBuiltins x=some (.builtin id)) (l:PA X (e::es) t) (B:x ≠ "__name__":=by decide) (d:(x == ("__debug__" : Str))=false:=by decide)
  (q:starEach (e::es) X.env=(false,eval e X.env)::starEach es X.env:=by rfl) (i:(backTo pos (starEach es X.env)).any (·.1)=false:=by rfl):PE X (.Call (.Name x p) (e::es) [] pos) (tCB r t):=by
 intro pins s σ H Q I h
 refine Ef (eJ I y z D ?_ B d)
 exact PyProof.Rows.callWith_builtin1 (thn (l pos pins s σ H _ I h) λ L J ⟨M,H1,j,G,F⟩=>n pins J σ H1 M L Q j G F) q i
theorem bJ (n:cq X (.type T) r) (y:Gl X x) (z:X.mg x=none) (D:bootBuiltins x=some (.type T)) (l:PA X (e::es) t) (B:x ≠ "__name__":=by decide) (d:(x == ("__debug__" : Str))=false:=by decide)
  (q:starEach (e::es) X.env=(false,eval e X.env)::starEach es X.env:=by rfl) (i:(backTo pos (starEach es X.env)).any (·.1)=false:=by rfl):PE X (.Call (.Name x p) (e::es) [] pos) (tCB r t):=by
 intro pins s σ H Q I h
 refine Ef (eJ I y z D ?_ B d)
 exact EJ (thn (l pos pins s σ H _ I h) λ L J ⟨M,H1,j,G,F⟩=>n pins J σ H1 M L Q j G F) q i
end
end L2
namespace HT
open PySem PyProof.Rows
section
open PySem.SeqAt
open PySem.AutoSeq1 (wpAny_loadPart')
open PySem.MeetsSeq PySem.MeetsSeq2 PySem.MeetsSeq3
end
section
variable {prog:Program}{w:World}{A:Around}{E:Value->Shared->Prop}{s:Shared}
noncomputable def sIx (n d:Nat):Option Int->Nat
 | none=>d
 | some v=>if v<0 then (v+(n:Int)).toNat else min v.toNat n
theorem sX (n d k:Nat):sIx n d (some (k:Int))=min k n:=by
 show (if (k:Int)<0 then ((k:Int)+(n:Int)).toNat else min (k:Int).toNat n)=min k n
 rw[CD (by lia),Dm]
end
end HT
namespace L2
open PySem PySem.Spec PyProof.Rows
noncomputable abbrev TO:=St->Hp->(Option Int->Hp->Prop)->Prop
noncomputable def PO (X:Cx) (e:Option Expr) (t:TO):Prop:=
 ∀ (pins:List (Addr×Obj)) (s:Shared) (σ:St) (H:Hp) (Q:Option Int->Hp->Prop),Inv X pins σ H s->t σ H Q ->
  wpAny (model X.prog X.w) X.A (evalPart e X.env) (λ u s'=>∃ o H',Inv X pins σ H' s'/\IsPart u o/\Q o H') X.xe s
noncomputable def ud:TO:=λ _ H Q=>Q none H
noncomputable def BG (t:TE):TO:=λ σ H Q=>t σ H λ x H1=>∃ i,x=.int i/\Q (some i) H1
section
variable {X:Cx}{e:Expr}{te:TE}{lo hi:Option Expr}{tl th:TO}{pos p2:Pos}
theorem oV:PO X none ud:=by
 intro pins s σ H Q I h
 rw[evalPart_none]
 exact Cu ⟨none,H,I,.none,h⟩
theorem oS (h:PE X e te):PO X (some e) (BG te):=by
 intro pins s σ H Q I j
 rw[evalPart_some]
 refine thn (h pins s σ H _ I j) λ u y ⟨x,H1,d,n,l⟩=>?_
 obtain⟨i,rfl,q⟩:=l
 obtain⟨t,rfl⟩:=n
 exact⟨some i,H1,d,.int i t,q⟩
noncomputable def SlR (X:Cx) (r:V->Option Int->Option Int->Hp->VK->Prop):Prop:=
 ∀ (pins:List (Addr×Obj)) (s:Shared) (σ:St) (H:Hp) (x:V) (v vl vu:Value) (lo hi:Option Int) (sl:Addr) (Q:VK),Inv X pins σ H s->RelV x v->s.heap.IsSliceOf sl vl vu .none->IsPart vl lo->IsPart vu hi->r x lo hi H Q ->
  ∃ T id,typeLookup (.type T) "__getitem__" = pure (some (.builtin id))/\s.TypeIs v T/\wpAny (model X.prog X.w) X.A (getItem v (.ref sl)) (EP X pins σ Q) X.xe s
noncomputable def tSl (r:V->Option Int->Option Int->Hp->VK->Prop) (te:TE) (tl th:TO):TE:=λ σ H Q=>te σ H λ x H1=>tl σ H1 λ l H2=>th σ H2 λ u H3=>r x l u H3 Q
theorem mf (M:SlR X r) (G:PE X e te) (L:PO X lo tl) (O:PO X hi th):PE X (.Subscript e (.Slice lo hi none p2) pos) (tSl r te tl th):=by
 intro pins s σ H Q I h
 refine Subscript_ (thn (G pins s σ H _ I h) λ v Z ⟨x,H1,y,Y,U⟩=>?_)
 refine wpAny_Slice (thn (L pins Z σ H1 _ y U) λ i s2 ⟨l,H2,z,R,V⟩=>thn (O pins s2 σ H2 _ z V) λ j d ⟨u,n,B,S,W⟩=>?_)
 rw[evalPart_none]
 refine Cu ?_
 have D:Inv X pins σ n { d with heap:=d.heap.push { cls:=.type "slice",data:=.fields #[i,j,.none] } }:=B.kept (t':=d.toks) λ b ob q=>Heap.get?_push_of_some _ q
 obtain⟨T,id,F,N,J⟩:=M pins { d with heap:=d.heap.push { cls:=.type "slice",data:=.fields #[i,j,.none] } } σ n x v i j l u d.heap.objs.size Q D Y (Heap.IsSliceOf.new ..) R S W
 show wpAny (model X.prog X.w) X.A (subscriptTail e (.Slice lo hi none p2) v (.ref d.heap.objs.size)) (EP X pins σ Q) X.xe { d with heap:=d.heap.push { cls:=.type "slice",data:=.fields #[i,j,.none] } }
 exact tail_any (ops:=[.ref d.heap.objs.size,v]) N F J (by with_unfolding_all rfl)
noncomputable def kN (xs:List V) (lo hi:Option Int):List V:=(xs.drop (HT.sIx xs.length 0 lo)).take (HT.sIx xs.length xs.length hi-HT.sIx xs.length 0 lo)
theorem kX (xs) (lo hi):(kN xs lo hi).length<=xs.length:=by
 unfold kN
 rw[Dg,List.length_drop]
 lia
end
noncomputable def ixN (n:Nat) (i:Int):Option Nat:=if 0<=i then (if i<n then some i.toNat else none) else if -(n:Int)<=i then some (i+n).toNat else none
noncomputable def atI {α:Type}(xs:List α) (i:Int):Option α:=(ixN xs.length i).bind λ j=>xs[j]?
theorem sU (h:ixN n i=some j):seqIndex? i n=some j/\j<n /\ -(n:Int)<=i/\i<n:=by
 unfold ixN at h
 by_cases d:0<=i
 ·rw[CG d] at h
  by_cases h1:i<n
  ·rw[CG h1] at h
   have e:i.toNat=j:=Option.some.inj h
   exact⟨by rw[seqIndex_of d h1,e],by lia,by lia,h1⟩
  ·rw[CD h1] at h;cases h
 ·rw[CD d] at h
  by_cases h1 : -(n:Int)<=i
  ·rw[CG h1] at h
   have e:(i+n).toNat=j:=Option.some.inj h
   exact⟨by rw[seqIndex_neg (by lia) h1,e],by lia,h1,by lia⟩
  ·rw[CD h1] at h;cases h
theorem oU (h:atI xs i=some v):∃ j,seqIndex? i xs.length=some j/\xs[j]? = some v/\j<xs.length /\ -(xs.length:Int)<=i/\i<xs.length:=by
 unfold atI at h
 cases e:ixN xs.length i with
 | none=>rw[e] at h;cases h
 | some j=>
  rw[e] at h
  obtain⟨h1,h2,d,l⟩:=sU e
  exact⟨j,h1,h,h2,d,l⟩
theorem cR {d:Type}{xs:List d}{j:Nat}{v:d}(h:xs[j]? = some v):atI xs (j:Int)=some v:=by
 have i:j<xs.length:=(Cr.mp h).1
 have e:ixN xs.length (j:Int)=some j:=by
  unfold ixN
  rw[CG (by lia),CG (by lia)];simp
 unfold atI;rw[e];exact h
theorem fi (xs) (v:α):atI (xs++[v]) (-1)=some v:=by
 have d:(xs++[v]).length=xs.length+1:=by simp
 have e:ixN (xs++[v]).length (-1)=some xs.length:=by
  unfold ixN
  rw[d,CD (by decide),CG (by lia)]
  congr 1
  lia
 unfold atI
 rw[e]
 show (xs++[v])[xs.length]? = some v
 simp
noncomputable def uD (b:Expr):Prop:=∀ o i,subscripted b false o i=operate [o,i] (getItem o i)
noncomputable def IxR (X:Cx) (r:R2):Prop:=
 ∀ (value slice:Expr) (pins:List (Addr×Obj)) (s:Shared) (σ:St) (H:Hp) (x y:V) (v u:Value) (Q:VK),Inv X pins σ H s->RelV x v->RelV y u->r x y H Q ->
  subscripted slice false v u=operate [v,u] (getItem v u)->wpAny (model X.prog X.w) X.A (subscriptTail value slice v u) (EP X pins σ Q) X.xe s
noncomputable def MtR (X:Cx) (id:String) (r:V->List V->Hp->VK->Prop):Prop:=
 ∀ (pins:List (Addr×Obj)) (s:Shared) (σ:St) (H:Hp) (x:V) (xs:List V) (v:Value) (us:List Value) (Q:VK),Inv X pins σ H s->RelV x v->Vals xs us->r x xs H Q ->
  wpAny (model X.prog X.w) X.A (call (.builtin id) (v::us)) (EP X pins σ Q) X.xe s
section
variable {X:Cx}{a b:Expr}{ta tb:TE}{pos:Pos}
theorem bo {r:R2}(l:IxR X r) (i:PE X a ta) (j:PE X b tb) (hs:uD b):PE X (.Subscript a b pos) (tOp r ta tb):=by
 intro pins s σ H Q I h
 exact Subscript_ (vH i j I h λ v u B x y H2 d n z q=>l a b pins B σ H2 x y v u Q d n z q (hs _ _))
noncomputable def rR (K:PySem.W.Frag):R2:=λ x y H Q=>∃ p xs i v,x=.ref p/\y=.int i/\SqL K H p xs/\atI xs i=some v/\Q v H
noncomputable def wD (K:PySem.W.Frag):R2:=λ x y H Q=>∃ p xs i v,x=.ref p/\y=.int i/\SqT K H p xs/\atI xs i=some v/\Q v H
theorem ur:IxR X (rR X.K):=by
 intro value F pins s σ H x y v u Q I U V h L
 obtain⟨p,xs,i,z,rfl,rfl,S,O,q⟩:=h
 cases U
 obtain⟨t,rfl⟩:=V
 obtain⟨n,r,B,Z⟩:=I.list S
 obtain⟨j,h1,h2,W,M,N⟩:=oU O
 obtain⟨w,G,D⟩:=r.get h2
 have R:=r.length
 have Y:=kl
 have d:EP X pins σ Q w s:=⟨z,H,I,D,q⟩
 by_cases J:0<=i
 ·have l:i.toNat=j:=by
   rw[seqIndex_of J N] at h1
   exact Option.some.inj h1
  exact item_listR B.isList J (by lia) (by rw[l];simpa using G) d L
 ·have l:(i+(n.toArray.size:Int)).toNat=j:=by
   rw[seqIndex_neg (by lia) M] at h1
   rw[C0,<- R]
   exact Option.some.inj h1
  exact subscriptTail_builtinR (x:=w) B.isList.typeIs slot_list_getitem.lookup
   (wpAny_getItem_list_neg (Q:=λ r s'=>r=w/\EP X pins σ Q r s') B.isList (by lia) (by rw[C0]<;>lia) (by lia) (by rw[l];simpa using G) ⟨rfl,d⟩) L
theorem wV:IxR X (wD X.K):=by
 intro value n pins s σ H x y v u Q I N O h L
 obtain⟨p,xs,i,z,rfl,rfl,J,F,q⟩:=h
 cases N
 obtain⟨t,rfl⟩:=O
 obtain⟨M,r,B,W⟩:=I.tuple J
 obtain⟨j,h1,h2,R,S,U⟩:=oU F
 obtain⟨w,D,l⟩:=r.get h2
 have G:=r.length
 have V:=kl
 have d:EP X pins σ Q w s:=⟨z,H,I,l,q⟩
 exact subscriptTail_builtinR (x:=w) B.typeIs slot_tuple_getitem.lookup
  (getItem_tuple (j:=j) (Q:=λ r s'=>r=w/\EP X pins σ Q r s') B (by lia) (by lia) (by rw[C0,<- G];exact h1) (by simpa using D) ⟨rfl,d⟩) L
theorem Inv.lst (I:Inv X pins σ H s) (h:H p=some (.lst xs)) :
  ∃ (its:List Value) (n:Nat),Vals xs its/\s.heap.get? p=some { cls:=.type "list",data:=.seq its.toArray n }/\xs.length<=sizeLine:=by
 obtain⟨z,its,n,r,e⟩:=I.hok p _ h
 exact⟨its,n,r,e,z⟩
theorem kC (lo hi) (n):(sliceBounds lo hi none n).1=((HT.sIx n 0 lo:Nat):Int)/\(sliceBounds lo hi none n).2.1=((HT.sIx n n hi:Nat):Int)/\(sliceBounds lo hi none n).2.2=1:=by
 refine⟨?_,?_,rfl⟩
 ·cases lo with
  | none=>simp[sliceBounds,HT.sIx]
  | some i=>
   simp only[sliceBounds,HT.sIx,Option.getD_none,show (1:Int)>0 by decide,EZ]
   by_cases h:i<0
   ·simp only[h,EZ]<;>lia
   ·simp only[h,DJ]<;>lia
 ·cases hi with
  | none=>simp[sliceBounds,HT.sIx]
  | some i=>
   simp only[sliceBounds,HT.sIx,Option.getD_none,show (1:Int)>0 by decide,EZ]
   by_cases h:i<0
   ·simp only[h,EZ]<;>lia
   ·simp only[h,DJ]<;>lia
theorem jx (its:List Value) (lo hi:Option Int):slicePick its.toArray lo hi none=((its.drop (HT.sIx its.length 0 lo)).take (HT.sIx its.length its.length hi-HT.sIx its.length 0 lo)).toArray:=by
 obtain⟨h1,h2,d⟩:=kC lo hi its.toArray.size
 unfold slicePick
 rw[h1,h2,d]
 simp only[sliceRange_one,pick_run,C0]<;>rfl
noncomputable def xO (K:PySem.W.Frag):V->Option Int->Option Int->Hp->VK->Prop:=λ x lo hi H Q=>∃ a xs,x=.ref a/\SqL K H a xs/\∀ p,H p=none->Q (.ref p) (upd H p (.lst (kN xs lo hi)))
theorem tY:SlR X (xO X.K):=by
 intro pins s σ H x v J L lo hi G Q I D j z B h
 obtain⟨a,xs,rfl,l,q⟩:=h
 cases D
 obtain⟨y,r,i,n⟩:=I.list l
 have d:=r.length
 refine⟨"list",_,slot_list_getitem.lookup,i.isList.typeIs,?_⟩
 refine wpAny_getItem_list_slice i.isList j z B .none (by simp) ?_ (by rw[C0]<;>lia)
 rw[jx,<- d]
 refine⟨.ref s.heap.objs.size,_,I.laid (t':=s.toks) (o:=.lst (kN xs lo hi)) (λ b F q=>Heap.get?_push_of_some _ q) (Nat.le_refl _) ?_,rfl,q _ (I.hok.fresh (Nat.le_refl _))⟩
 exact⟨CV (kX xs lo hi) n,_,0,(r.drop (HT.sIx xs.length 0 lo)).take (HT.sIx xs.length xs.length hi-HT.sIx xs.length 0 lo),Heap.get?_push_size _ rfl⟩
noncomputable def dN:V->Bool
 | .non=>true
 | .bl _=>true
 | .int _=>true
 | .str _=>true
 | _=>false
noncomputable def eqV:V->V->Bool
 | .non,.non=>true
 | .bl a,.bl b=>a == b
 | .bl a,.int b=>(if a then 1 else 0) == b
 | .int a,.bl b=>a == (if b then 1 else 0)
 | .int a,.int b=>a == b
 | .str a,.str b=>a == b
 | _,_=>false
theorem wU {A:Around}{s:Shared}{y x:V}{u v:Value}(ry:RelV y u) (rx:RelV x v) (fy:dN y=true) (fx:dN x=true):SeqAt.EqAt A s u v (eqV y x):=by
 cases y with
 | non=>
  cases ry
  cases x with
  | non=>cases rx;exact SeqAt.EqAt.same _
  | bl b=>cases rx;exact SeqAt.EqAt.none_bool b
  | int b=>obtain⟨t,rfl⟩:=rx;exact SeqAt.EqAt.none_int b t
  | str b=>obtain⟨t,rfl⟩:=rx;exact SeqAt.EqAt.none_str b t
  | _=>exact absurd (show false=true from fx) CQ
 | bl a=>
  cases ry
  cases x with
  | non=>cases rx;exact SeqAt.EqAt.bool_none a
  | bl b=>cases rx;exact SeqAt.EqAt.bool_bool a b
  | int b=>obtain⟨t,rfl⟩:=rx;exact SeqAt.EqAt.bool_int a b t
  | str b=>obtain⟨t,rfl⟩:=rx;exact SeqAt.EqAt.bool_str a b t
  | _=>exact absurd (show false=true from fx) CQ
 | int a=>
  obtain⟨t',rfl⟩:=ry
  cases x with
  | non=>cases rx;exact SeqAt.EqAt.int_none a t'
  | bl b=>cases rx;exact SeqAt.EqAt.int_bool a t' b
  | int b=>obtain⟨t,rfl⟩:=rx;exact SeqAt.EqAt.int_int a t' b t
  | str b=>obtain⟨t,rfl⟩:=rx;exact SeqAt.EqAt.int_str a t' b t
  | _=>exact absurd (show false=true from fx) CQ
 | str a=>
  obtain⟨t',rfl⟩:=ry
  cases x with
  | non=>cases rx;exact SeqAt.EqAt.str_none a t'
  | bl b=>cases rx;exact SeqAt.EqAt.str_bool a t' b
  | int b=>obtain⟨t,rfl⟩:=rx;exact SeqAt.EqAt.str_int a t' b t
  | str b=>obtain⟨t,rfl⟩:=rx;exact SeqAt.EqAt.str_str a t' b t
  | _=>exact absurd (show false=true from fx) CQ
 | _=>exact absurd (show false=true from fy) CQ
noncomputable def eqU (x:V) (u:Value):Bool:=match u with
 | .none=>eqV .non x
 | .bool b=>eqV (.bl b) x
 | .int i _=>eqV (.int i) x
 | .str z _=>eqV (.str z) x
 | _=>false
theorem qN {x y:V}{u:Value}(r:RelV y u) (f:dN y=true):eqU x u=eqV y x:=by
 cases y with
 | non=>cases r;rfl
 | bl b=>cases r;rfl
 | int i=>obtain⟨t,rfl⟩:=r;rfl
 | str z=>obtain⟨t,rfl⟩:=r;rfl
 | _=>exact absurd (show false=true from f) CQ
theorem gA:∀ {xs:List V}{us:List Value},Vals xs us->xs.all dN=true->us.any (eqU x)=xs.any λ y=>eqV y x
 | _,_,.nil,_=>rfl
 | y::xs,u::us,.cons r t,f=>by
  rw[FC,Dt] at f
  rw[Fh,Fh,qN r f.1,gA t f.2]
theorem fh {A:Around}{s:Shared}{x:V}{v:Value}(rx:RelV x v) (fx:dN x=true):∀ {xs:List V}{us:List Value},Vals xs us->xs.all dN=true->∀ u∈us,SeqAt.EqAt A s u v (eqU x u)
 | _,_,.nil,_=>λ u hu=>by cases hu
 | y::xs,u::us,.cons r t,f=>λ u' hu=>by
  rw[FC,Dt] at f
  rcases Cz.mp hu with rfl|hu
  ·rw[qN r f.1];exact wU r rx f.1 fx
  ·exact fh rx fx t f.2 u' hu
noncomputable def inV (x:V) (xs:List V):Bool:=xs.any λ y=>eqV y x
noncomputable def rIn (K:PySem.W.Frag) (neg:Bool):R2:=λ x y H Q=>∃ p xs,y=.ref p/\(SqL K H p xs\/SqT K H p xs)/\dN x=true/\xs.all dN=true/\Q (.bl (if neg then !inV x xs else inV x xs)) H
theorem pj:OpR X (compareOp .In) (rIn X.K false):=by
 intro pins s σ H x y v u Q I rx ry h
 obtain⟨p,xs,rfl,hq,fx,fs,q⟩:=h
 cases ry
 rcases hq with hq|hq
 ·obtain⟨its,r,pl,hz⟩:=I.list hq
  refine SeqAt.in_listAt (eqU x) pl.isList (λ w hw=>fh rx fx r fs w (by simpa using hw)) ⟨.bl _,H,I,rfl,?_⟩
  rw[show its.toArray.any (eqU x)=its.any (eqU x) by simp,gA r fs]
  exact q
 ·obtain⟨its,r,pl,hz⟩:=I.tuple hq
  refine SeqAt.in_tupleAt (eqU x) pl (λ w hw=>fh rx fx r fs w (by simpa using hw)) ⟨.bl _,H,I,rfl,?_⟩
  rw[show its.toArray.any (eqU x)=its.any (eqU x) by simp,gA r fs]
  exact q
theorem kG:OpR X (compareOp .NotIn) (rIn X.K true):=by
 intro pins s σ H x y v u Q I rx ry h
 obtain⟨p,xs,rfl,hq,fx,fs,q⟩:=h
 cases ry
 rcases hq with hq|hq
 ·obtain⟨its,r,pl,hz⟩:=I.list hq
  refine SeqAt.notIn_listAt (eqU x) pl.isList (λ w hw=>fh rx fx r fs w (by simpa using hw)) ⟨.bl _,H,I,rfl,?_⟩
  rw[show its.toArray.any (eqU x)=its.any (eqU x) by simp,gA r fs]
  exact q
 ·obtain⟨its,r,pl,hz⟩:=I.tuple hq
  refine SeqAt.notIn_tupleAt (eqU x) pl (λ w hw=>fh rx fx r fs w (by simpa using hw)) ⟨.bl _,H,I,rfl,?_⟩
  rw[show its.toArray.any (eqU x)=its.any (eqU x) by simp,gA r fs]
  exact q
theorem kO:cq X (.builtin "len") (λ xs H Q=>∃ p ys,xs=[.ref p]/\(SqL X.K H p ys\/SqT X.K H p ys)/\Q (.int ys.length) H):=by
 intro pins s σ H xs D Q I r h
 obtain⟨p,ys,rfl,i,q⟩:=h
 obtain⟨u,rfl,z⟩:=vals1 r
 cases z
 have B:=kl
 rcases i with i|i
 ·obtain⟨j,n,l,y⟩:=I.list i
  have d:=n.length
  exact Calls.call_len_list l.isList (by simp only[C0]<;>lia) ⟨.int ys.length,H,I.tok _,⟨s.toks+1,by rw[C0,d]⟩,q⟩
 ·obtain⟨j,n,l,y⟩:=I.tuple i
  have d:=n.length
  exact len_tuple l (by simp only[C0]<;>lia) ⟨.int ys.length,H,I.tok _,⟨s.toks+1,by rw[C0,d]⟩,q⟩
theorem kF:cq X (.type "list") (λ xs H Q=>∃ p ys,xs=[.ref p]/\(SqL X.K H p ys\/SqT X.K H p ys)/\∀ l,H l=none->Q (.ref l) (upd H l (.lst ys))):=by
 intro pins s σ H xs O Q I r h
 obtain⟨p,ys,rfl,B,q⟩:=h
 obtain⟨u,rfl,N⟩:=vals1 r
 cases N
 have y:∀ (d:List Value),Vals ys d->ys.length<=sizeLine->∀ (h':Heap) (i:Nat),(∀ b o',s.heap.get? b=some o'->h'.get? b=some o') ->
   h'.get? s.heap.objs.size=some { cls:=.type "list",dict:=none,data:=.seq d.toArray i,slots:=#[] }->EP X pins σ Q (.ref s.heap.objs.size) { s with heap:=h' }:=λ d j D h' i F e=>
  ⟨.ref s.heap.objs.size,_,I.laid (t':=s.toks) F (Nat.le_refl _) (show bu X.prog X.w _ h' _ (.lst ys) from ⟨D,d,i,j,e⟩),rfl,q _ (I.hok.fresh (Nat.le_refl _))⟩
 rcases B with B|B
 ·obtain⟨d,j,M,D⟩:=I.list B
  have z:=j.length
  obtain⟨o,L,G,n,J⟩:=M.isList
  exact call_list_seq p (.inl rfl) L G J (λ h' i F e=>y d j D h' i F e) (by simp only[C0]<;>lia)
 ·obtain⟨d,j,M,D⟩:=I.tuple B
  have z:=j.length
  obtain⟨o,L,G,n,J⟩:=M
  exact call_list_seq p (.inr rfl) L G J (λ h' i F e=>y d j D h' i F e) (by simp only[C0]<;>lia)
theorem jo:cq X (.type "tuple") (λ xs H Q=>∃ p ys,xs=[.ref p]/\((SqL X.K H p ys/\∀ l,H l=none->Q (.ref l) (upd H l (.tup ys)))\/(SqT X.K H p ys/\Q (.ref p) H))):=by
 intro pins s σ H xs J Q I r h
 obtain⟨p,ys,rfl,h⟩:=h
 obtain⟨u,rfl,G⟩:=vals1 r
 cases G
 rcases h with ⟨i,q⟩|⟨i,q⟩
 ·obtain⟨d,n,j,B⟩:=I.list i
  have z:=n.length
  refine call_tuple_list j.isList (λ h' F=>?_) (by simp only[C0]<;>lia)
  have y:Inv X pins σ H { s with heap:=h' }:=I.kept (t':=s.toks) F
  have D:Inv X pins σ (upd H h'.objs.size (.tup ys)) { s with heap:=h'.push { cls:=.type "tuple",data:=.seq d.toArray } }:=
   y.laid (t':=s.toks) (λ b o e=>Heap.get?_push_of_some _ e) (Nat.le_refl _) (show bu X.prog X.w _ _ _ (.tup ys) from ⟨B,d,n,IsTup.new _ _⟩)
  exact⟨.ref h'.objs.size,_,D,rfl,q _ (y.hok.fresh (Nat.le_refl _))⟩
 ·obtain⟨d,n,j,B⟩:=I.tuple i
  exact call_tuple_same j ⟨.ref p,H,I,rfl,q⟩
noncomputable def tyV (K:PySem.W.Frag) (T:String) (x:V) (H:Hp):Prop:=match x with
 | .str _=>T = "str"
 | .int _=>T = "int"
 | .ref p=>(T = "list" /\ ∃ xs,SqL K H p xs)\/(T = "tuple" /\ ∃ o,K.lookup p=some o/\o.cls=.type "tuple" /\ o.dict=none) \/
   (T = "dict" /\ ((∃ kvs,H p=some (.dK kvs))\/∃ kvs,H p=some (.dT kvs)))\/(T = "set" /\ ∃ S n,H p=some (.set S n))
 | _=>False
theorem ql (I:Inv X pins σ H s) (r:RelV x v) (j:tyV X.K T x H) :
  s.TypeIs v T/\∀ a,v=.ref a->∃ B,s.heap.get? a=some B/\B.dict=none:=by
 cases x with
 | str z=>
  obtain⟨t,rfl⟩:=r
  cases (show T = "str" from j)
  exact⟨typeIs_str s z t,λ _ e=>nomatch e⟩
 | int i=>
  obtain⟨t,rfl⟩:=r
  cases (show T = "int" from j)
  exact⟨typeIs_int s i t,λ _ e=>nomatch e⟩
 | ref p=>
  cases r
  rcases j with ⟨rfl,xs,G⟩|⟨rfl,o,d,F,q⟩|⟨rfl,d⟩|⟨rfl,S,n,d⟩
  ·obtain⟨J,_,D,_⟩:=I.list G
   refine⟨D.isList.typeIs,λ a e=>?_⟩
   cases e
   obtain⟨o,n,e,c,q,_⟩:=D
   exact⟨o,e,q⟩
  ·refine⟨⟨o,I.kIn p o d,F⟩,λ a e=>?_⟩
   cases e
   exact⟨o,I.kIn _ o d,q⟩
  ·have z:∃ o,s.heap.get? p=some o/\o.ExactDict:=by
    rcases d with ⟨y,d⟩|⟨y,d⟩
    ·obtain⟨_,_,_,_,o,_,_,e,ex,_⟩:=I.hok p _ d
     exact⟨o,e,ex⟩
    ·obtain⟨_,_,_,_,o,_,_,e,ex,_⟩:=I.hok p _ d
     exact⟨o,e,ex⟩
   obtain⟨o,e,ex⟩:=z
   refine⟨⟨o,e,ex.1⟩,λ a l=>?_⟩
   cases l
   exact⟨o,e,ex.2.1⟩
  ·obtain⟨o,_,_,_,e,ex,_⟩:=I.hok p _ d
   refine⟨⟨o,e,ex.1⟩,λ a l=>?_⟩
   cases l
   exact⟨o,e,ex.2.1⟩
 | _=>exact False.elim j
noncomputable def zZ (K:PySem.W.Frag) (T:String) (r:V->List V->Hp->VK->Prop) (to:TE):TE:=λ σ H Q=>to σ H λ x H1=>tyV K T x H1/\r x [] H1 Q
noncomputable def tBM (K:PySem.W.Frag) (T:String) (r:V->List V->Hp->VK->Prop) (to:TE) (t:TA):TE:=λ σ H Q=>to σ H λ x H1=>tyV K T x H1/\t σ H1 λ xs H2=>r x xs H2 Q
variable {o e:Expr}{es:List Expr}{to:TE}{t:TA}{name:Str}{apos cpos:Pos}{T id:String}{r:V->List V->Hp->VK->Prop}
theorem w5 (B:PlainAttrs T) (j:Slot T name id) (l:typeOf (.builtin id)=pure (.type "method_descriptor")) (y:MtR X id r) (z:PE X o to)
  (d:attributeBase o name X.env (eval o X.env)=eval o X.env:=by rfl) (i:(apos.endLine == cpos.line)=true:=by rfl):PE X (.Call (.Attribute o name apos) [] [] cpos) (zZ X.K T r to):=by
 intro pins s σ H Q I h
 refine wpAny_Call_method0_late d i (thn (z pins s σ H _ I h) λ v F ⟨x,H1,n,q,G,D⟩=>?_)
 obtain⟨h1,h2⟩:=ql n q G
 exact⟨T,id,B,j,l,h1,h2,Calls.callWith_builtin rfl (PySem.evalArgs_none (y pins F σ H1 x [] v [] Q n q .nil D))⟩
theorem BO (L:PlainAttrs T) (n:Slot T name id) (q:typeOf (.builtin id)=pure (.type "method_descriptor")) (G:MtR X id r) (J:PE X o to) (F:PA X (e::es) t)
  (i:attributeBase o name X.env (eval o X.env)=eval o X.env:=by rfl)
  (l:((backTo cpos (starEach (e::es) X.env)).all (λ x=>!x.1) && (backToKw cpos (keywordEach [] X.env)).all (λ x=>x.1.isSome)
   && decide ((e::es).length+([]:List Keyword).length+(if ([]:List Keyword).isEmpty then 0 else 1)<30))=true:=by rfl)
  (j:(apos.endLine == cpos.line)=true:=by rfl) (hs:starEach (e::es) X.env=(false,eval e X.env)::starEach es X.env:=by rfl) (d:(backTo cpos (starEach es X.env)).any (·.1)=false:=by rfl) :
  PE X (.Call (.Attribute o name apos) (e::es) [] cpos) (tBM X.K T r to t):=by
 intro pins s σ H Q I h
 refine wpAny_Call_method_late i l j rfl (thn (J pins s σ H _ I h) λ v R ⟨x,H1,y,B,U,M⟩=>?_)
 obtain⟨h1,h2⟩:=ql y B U
 refine⟨T,id,L,n,q,h1,h2,?_⟩
 have z:=F cpos pins R σ H1 _ y M
 rw[hs] at z ⊢
 refine Calls.callWith_builtin (by show (false || (backTo cpos (starEach es X.env)).any (·.1))=false;rw[d]<;>rfl) (Calls.evalArgs_plain ?_)
 exact thn z λ V S ⟨W,H2,D,O,N⟩=>G pins S σ H2 x W v V Q D B O N
end
noncomputable def MtM (X:Cx) (id:String) (r:V->List V->Hp->VK->Prop):Prop:=
 ∀ (pins:List (Addr×Obj)) (s:Shared) (σ:St) (H:Hp) (x:V) (xs:List V) (v:Value) (us:List Value) (Q:VK),Inv X pins σ H s->RelV x v->Vals xs us->r x xs H Q ->
  wpAny (model X.prog X.w) X.A (call (.builtin id) (v::us)) (EP X pins σ Q) X.xe s
theorem Vals.one:∀ {x:V}{us:List Value},Vals [x] us->∃ u,us=[u]/\RelV x u
 | _,_,.cons r .nil=>⟨_,rfl,r⟩
theorem Vals.zero:∀ {us:List Value},Vals [] us->us=[]
 | _,.nil=>rfl
theorem Vals.dropLast (h:Vals xs us):Vals xs.dropLast us.dropLast:=by
 induction h with
 | nil=>exact .nil
 | cons r t d=>
  cases t with
  | nil=>exact .nil
  | cons q i=>exact .cons r d
theorem mE (l:List α):l.eraseIdx (l.length-1)=l.dropLast:=by
 induction l with
 | nil=>rfl
 | cons a r d=>
  cases r with
  | nil=>rfl
  | cons b r=>
   have e:(a::b::r).length-1=((b::r).length-1)+1:=by
    have h1:(a::b::r).length=r.length+2:=rfl
    have h2:(b::r).length=r.length+1:=rfl
    lia
   rw[e,List.eraseIdx_cons_succ,d]
   all_goals rfl
section
variable {X:Cx}{pins:List (Addr×Obj)}{σ:St}{H:Hp}{s:Shared}{l b:Addr}{xs ys zs:List V}
theorem Inv.zO {its its':List Value}{n:Nat}{f:Array Value->Array Value}{t':Nat}(I:Inv X pins σ H s) (d:H l=some (.lst xs))
  (e:s.heap.get? l=some { cls:=.type "list",data:=.seq its.toArray n }) (j:f its.toArray=its'.toArray) (z:Vals ys its') (hz:ys.length<=sizeLine) :
  Inv X pins σ (upd H l (.lst ys)) { s with heap:=s.heap.update l (Obj.mapSeq f),toks:=t' }:=by
 have q:=PySem.IsL.update e f
 rw[j] at q
 refine I.write (x:=l) (e:=l) (by rw[d];exact trivial) (.inl rfl) (λ B u i y=>(Heap.get?_update_other s.heap (Obj.mapSeq f) (Ne.symm i)).trans y) ⟨_,q⟩ ?_
 exact⟨hz,its',_,z,q⟩
theorem Inv.Cf (I:Inv X pins σ H s) (d:Vals ys its) (hz:ys.length<=sizeLine) :
  Inv X pins σ (upd H s.heap.objs.size (.lst ys)) { s with heap:=s.heap.push { cls:=.type "list",data:=.seq its.toArray },toks:=t' }:=
 I.laid (λ _ _ q=>Heap.get?_push_of_some _ q) (Nat.le_refl _) ⟨hz,its,0,d,Heap.get?_push_size _ rfl⟩
theorem Inv.fresh (I:Inv X pins σ H s):H s.heap.objs.size=none:=I.hok.fresh (Nat.le_refl _)
theorem Inv.uo (I:Inv X pins σ H s) (d:H l=some (.lst xs)):xs.length<=sizeLine/\∃ (its:List Value) (n:Nat),Vals xs its/\xs.length=its.length/\s.heap.get? l=some { cls:=.type "list",data:=.seq its.toArray n }:=by
 obtain⟨z,its,n,r,e⟩:=I.hok l _ d
 exact⟨z,its,n,r,r.length,e⟩
end
section
variable {X:Cx}
noncomputable def uh:V->List V->Hp->VK->Prop:=λ x vs H Q=>∃ l xs y,x=.ref l/\vs=[y]/\H l=some (.lst xs)/\xs.length<sizeLine/\Q .non (upd H l (.lst (xs++[y])))
theorem bU:MtM X "list.append" uh:=by
 intro pins s σ H x M v L Q I D B h
 obtain⟨l,xs,y,rfl,rfl,i,J,q⟩:=h
 cases D
 obtain⟨u,rfl,j⟩:=B.one
 obtain⟨z,d,n,r,G,e⟩:=I.uo i
 refine call_meets F.slot_list_append ⟨_,e,rfl⟩ F.entry_list_append (F.args_list_append_2 _ _) (PySem.list_append l d.toArray n u (by rw[C0];lia)) ⟨e,?_⟩
 refine⟨.non,_,I.zO (its':=d++[u]) i e (by simp) (r.append (.cons j .nil)) ?_,rfl,q⟩
 rw[CA,CY]
 lia
noncomputable def Cp:V->List V->Hp->VK->Prop:=λ x vs H Q=>∃ l xs y,x=.ref l/\vs=[]/\H l=some (.lst xs)/\xs[xs.length-1]? = some y/\Q y (upd H l (.lst xs.dropLast))
theorem rF:MtM X "list.pop" Cp:=by
 intro pins s σ H x R v O Q I N M h
 obtain⟨l,xs,y,rfl,rfl,B,J,q⟩:=h
 cases N
 have i:=M.zero
 subst i
 obtain⟨z,d,n,r,D,e⟩:=I.uo B
 obtain⟨u,G,L⟩:=r.get J
 have j:d.toArray[d.toArray.size-1]? = some u:=by
  show d.toArray[d.length-1]? = some u
  rw[<- C7,<- D]
  exact G
 refine call_meets F.slot_list_pop ⟨_,e,rfl⟩ F.entry_list_pop (F.args_list_pop_1 _) (MeetsSeq.list_pop_last l d.toArray n u j (by rw[C0];lia)) ⟨e,?_⟩
 refine⟨y,_,I.zO (its':=d.dropLast) B e ?_ r.dropLast ?_,L,q⟩
 ·show d.toArray.eraseIdxIfInBounds (d.toArray.size-1)=d.dropLast.toArray
  rw[C0,List.eraseIdxIfInBounds_toArray,mE]
 ·rw[List.length_dropLast]
  lia
noncomputable def Cc:R2:=λ x y H Q=>∃ l b xs zs,x=.ref l/\y=.ref b/\H l=some (.lst xs)/\H b=some (.lst zs)/\xs.length+zs.length<=sizeLine/\∀ p,H p=none->Q (.ref p) (upd H p (.lst (xs++zs)))
theorem nH:OpR X (binaryOp .Add) Cc:=by
 intro pins s σ H x y v u Q I L M h
 obtain⟨l,b,xs,zs,rfl,rfl,F,D,O,q⟩:=h
 cases L
 cases M
 obtain⟨z,i,n,r,N,e⟩:=I.uo F
 obtain⟨S,d,R,J,G,j⟩:=I.uo D
 refine PySem.P.add_list e j ?_ (by rw[C0,C0];lia)
 have B:i.toArray++d.toArray=(i++d).toArray:=by simp
 rw[B]
 exact⟨.ref _,_,I.Cf (t':=s.toks) (r.append J) (by rw[CA];lia),rfl,q _ I.fresh⟩
end
section
variable {prog:Program}{w:World}{A:Around}{E:Value->Shared->Prop}{s:Shared}
end
section
variable {X:Cx}
end
section
variable {κ:Type} [DecidableEq κ]
noncomputable def bV (kvs:List (κ×V)) (k:κ):Option V:=(kvs.find? λ kv=>decide (kv.1=k)).map (·.2)
noncomputable def putK (kvs:List (κ×V)) (k:κ) (v:V):List (κ×V):=
 if (kvs.any λ kv=>decide (kv.1=k))=true then kvs.map (λ kv=>if kv.1=k then (kv.1,v) else kv) else kvs++[(k,v)]
noncomputable def j2 (kvs:List (κ×V)) (k:κ):List (κ×V):=kvs.filter λ kv=>decide (kv.1≠k)
theorem qT:bV ([]:List (κ×V)) k=none:=rfl
theorem eO {p:κ×V}{r:List (κ×V)}{k:κ}(e:p.1=k):bV (p::r) k=some p.2:=by simp[bV,E3,e]
theorem dW {p:κ×V}{r:List (κ×V)}{k:κ}(e:¬ p.1=k):bV (p::r) k=bV r k:=by simp[bV,E3,e]
theorem gm (k:κ):∀ d:List (κ×V),(d.any λ i=>decide (i.1=k))=(bV d k).isSome
 | []=>rfl
 | p::r=>by
  rw[Fh]
  by_cases e:p.1=k
  ·simp only[eO e,CZ e,Bool.true_or,Option.isSome_some]
  ·rw[dW e,DB e,Bool.false_or];exact gm k r
theorem hW (d) (k:κ) (v):(putK d k v).length<=d.length+1:=by
 unfold putK
 split
 ·rw[Cy];lia
 ·rw[CA,Dh,List.length_nil];lia
theorem eT {d:List (κ×V)}{k:κ}(v:V) (h:bV d k=none):putK d k v=d++[(k,v)]:=by
 unfold putK
 rw[gm,h]
 exact CD (by decide)
theorem eu.hJ (r:eu o u):o.isSome=u.isSome:=by
 cases o with
 | none=>cases u with
  | none=>rfl
  | some _=>exact(show False from r).elim
 | some _=>cases u with
  | none=>exact(show False from r).elim
  | some _=>rfl
theorem eu.getD {o:Option V}{u:Option Value}{d:V}{d':Value}(r:eu o u) (i:RelV d d'):RelV (o.getD d) (u.getD d'):=by
 cases o with
 | none=>cases u with
  | none=>exact i
  | some _=>exact(show False from r).elim
 | some _=>cases u with
  | none=>exact(show False from r).elim
  | some _=>exact r
theorem KV.val {d:List (κ×V)}{vs:List (κ×Value)}(r:KV d vs) (k:κ):eu (bV d k) (valueAt vs k):=by
 unfold KV at r
 induction r with
 | nil=>exact True.intro
 | @cons p q ps j h t n=>
  obtain⟨h1,h2⟩:=h
  by_cases e:p.1=k
  ·have i:q.1=k:=h1.symm.trans e
   have b:valueAt (q::j) k=some q.2:=by simp[valueAt,E3,i]
   rw[eO e,b];exact h2
  ·have i:¬ q.1=k:=λ z=>e (h1.trans z)
   have b:valueAt (q::j) k=valueAt j k:=by simp[valueAt,E3,i]
   rw[dW e,b];exact n
theorem KV.any (r:KV kvs vs) (k:κ):(kvs.any λ d=>decide (d.1=k))=vs.any λ d=>decide (d.1=k):=by
 unfold KV at r
 induction r with
 | nil=>rfl
 | cons h t i=>rw[Fh,Fh,i,h.1]
theorem KV.wJ (r:KV kvs vs) (k:κ) (j:RelV y u) :
  KV (kvs.map λ d=>if d.1=k then (d.1,y) else d) (vs.map λ d=>if d.1=k then (d.1,u) else d):=by
 unfold KV at r ⊢
 induction r with
 | nil=>exact .nil
 | @cons p q ps n h t i=>
  rw[Dc,Dc]
  refine .cons ?_ i
  obtain⟨h1,h2⟩:=h
  by_cases e:p.1=k
  ·rw[CG e,CG (h1.symm.trans e)];exact⟨h1,j⟩
  ·rw[CD e,CD (λ z=>e (h1.trans z))];exact⟨h1,h2⟩
theorem KV.put (r:KV kvs vs) (k:κ) (d:RelV y u):KV (putK kvs k y) (stored vs k u):=by
 unfold putK stored
 rw[r.any k]
 by_cases e:(vs.any λ i=>decide (i.1=k))=true
 ·rw[CG e,CG e];exact r.wJ k d
 ·rw[CD e,CD e];exact Paired.snoc r ⟨rfl,d⟩
theorem KV.length (r:KV kvs vs):kvs.length=vs.length:=Paired.length r
theorem sh (d) (k:κ):(j2 d k).length<=d.length:=DI _ _
end
theorem lH (r:RelV (kV k) u):(bL P w).is k u=true:=by
 cases k with
 | inl i=>obtain⟨t,e⟩:=(show ∃ t,u=Value.int i t from r);subst e;exact lF P w i t
 | inr x=>obtain⟨t,e⟩:=(show ∃ t,u=Value.str x t from r);subst e;exact ml P w x t
theorem jR:∀ {ks:List Key}{us:List Value},Vals (ks.map kV) us->ItemsAre (bL P w) ks us
 | [],_,r=>by rw[Gh] at r;cases r;exact .nil
 | k::ks,_,r=>by
  rw[Dc] at r
  cases r with
  | cons h t=>exact .cons (lH h) (jR t)
noncomputable abbrev KT (H:Hp):List (List Key×V)->List (List Key×Addr×Value)->Prop:=Paired λ p q=>p.1=q.1/\H q.2.1=some (.tup (p.1.map kV))/\RelV p.2 q.2.2
theorem KT.val {H:Hp}{d:List (List Key×V)}{xs:List (List Key×Addr×Value)}(r:KT H d xs) (k:List Key):eu (bV d k) ((atKey xs k).map (·.2)):=by
 induction r with
 | nil=>exact True.intro
 | @cons p q ps j h t n=>
  obtain⟨h1,_,h2⟩:=h
  by_cases e:p.1=k
  ·have i:q.1=k:=h1.symm.trans e
   have b:atKey (q::j) k=some q.2:=by simp[atKey,E3,i]
   rw[eO e,b];exact h2
  ·have i:¬ q.1=k:=λ z=>e (h1.trans z)
   have b:atKey (q::j) k=atKey j k:=by simp[atKey,E3,i]
   rw[dW e,b];exact n
theorem KT.wJ (r:KT H kvs xs) (k) (n:RelV y u) :
  KT H (kvs.map λ d=>if d.1=k then (d.1,y) else d) (xs.map (putAt k u)):=by
 induction r with
 | nil=>exact .nil
 | @cons p q ps B h t j=>
  rw[Dc,Dc]
  refine .cons ?_ j
  obtain⟨h1,h2,i⟩:=h
  unfold putAt
  by_cases e:p.1=k
  ·rw[CG e,CG (h1.symm.trans e)];exact⟨h1,h2,n⟩
  ·rw[CD e,CD (λ z=>e (h1.trans z))];exact⟨h1,h2,i⟩
theorem KT.put (r:KT H kvs xs) (k) (i:H b=some (.tup (k.map kV))) (d:RelV y u) :
  KT H (putK kvs k y) (storedH xs k b u):=by
 have e:(kvs.any λ j=>decide (j.1=k))=(atKey xs k).isSome:=by
  rw[gm,(r.val k).hJ,Option.isSome_map]
 unfold putK storedH
 rw[e]
 by_cases q:(atKey xs k).isSome=true
 ·rw[CG q,CG q];exact r.wJ k d
 ·rw[CD q,CD q];exact Paired.snoc r ⟨rfl,i,d⟩
theorem KT.keeps (r:KT H kvs xs) (d:∀ b ys,H b=some (.tup ys)->H' b=some (.tup ys)):KT H' kvs xs:=
 Paired.xc r λ _ _ z=>⟨z.1,d _ _ z.2.1,z.2.2⟩
section
variable {P:Program}{w:World}{H:Hp}{h:Heap}{a:Addr}
theorem vw (d:HOk P w H h) (e:Rd H a u):bu P w H h a u:=e.ok d
theorem jN (d:HOk P w H h) (e:Rd H a (.dK kvs)):kvs.length<=sizeLine/\(a == sysModules)=false/\∃ vs,KV kvs vs/\h.DictOf (bL P w) a vs:=
 show bu P w H h a (.dK kvs) from vw d e
theorem Bx (d:HOk P w H h) (e:H a=some (.dK kvs)):kvs.length<=sizeLine/\(a == sysModules)=false/\∃ vs,KV kvs vs/\h.DictOf (bL P w) a vs:=jN d (.inl e)
theorem f9 (j:HOk P w H h) (e:H a=some (.tup (ks.map kV))):(tupleKind (bL P w)).is h ks a:=by
 obtain⟨_,d,r,o,h1,h2,n,i⟩:=(show bu P w H h a (.tup (ks.map kV)) from j a _ e)
 exact⟨o,d.toArray,n,h1,h2,i,by simpa using jR r⟩
theorem hZ {kvs:List (List Key×V)}(ok:HOk P w H h) (e:Rd H a (.dT kvs)):kvs.length<=sizeLine/\(a == sysModules)=false /\
  ∃ xs,KT H kvs xs/\h.DictOfH (tupleKind (bL P w)) a xs:=by
 obtain⟨z,y,xs,r,o,es,ep,h1,h2,h3,h4,h5⟩:=(show bu P w H h a (.dT kvs) from vw ok e)
 refine⟨z,y,xs,r,o,es,ep,h1,h2,h3,h4,λ x hx=>?_,h5⟩
 have all:∀ {l:List (List Key×V)} {m:List (List Key×Addr×Value)},KT H l m->∀ x∈m,(tupleKind (bL P w)).is h x.1 x.2.1:=by
  intro l m q
  induction q with
  | nil=>intro x hx;exact nomatch hx
  | @cons p q ps qs hq t ih=>
   intro x hx
   rcases Cz.mp hx with e|hx
   ·subst e
    exact f9 ok (by rw[<- hq.1];exact hq.2.1)
   ·exact ih x hx
 exact all r x hx
theorem qh (d:HOk P w H h) (e:H a=some (.dT kvs)):kvs.length<=sizeLine/\(a == sysModules)=false /\
  ∃ xs,KT H kvs xs/\h.DictOfH (tupleKind (bL P w)) a xs:=hZ d (.inl e)
end
noncomputable def iU (H:Hp) (a:Addr) (y:V) (r:Option V):Prop:=
 (∃ kvs k,Rd H a (.dK kvs)/\y=kV k/\r=bV kvs k)\/∃ kvs k b,Rd H a (.dT kvs)/\y=.ref b/\H b=some (.tup (k.map kV))/\r=bV kvs k
noncomputable def pq (H:Hp) (a:Addr) (y v:V) (H':Hp):Prop:=
 (∃ kvs k,H a=some (.dK kvs)/\y=kV k/\kvs.length<sizeLine/\H'=upd H a (.dK (putK kvs k v))) \/
 ∃ kvs k b,H a=some (.dT kvs)/\y=.ref b/\H b=some (.tup (k.map kV))/\kvs.length<sizeLine/\H'=upd H a (.dT (putK kvs k v))
theorem iU.k {H:Hp}{a:Addr}{d:List (Key×V)}{k:Key}(e:H a=some (.dK d)):iU H a (kV k) (bV d k):=.inl ⟨d,k,.inl e,rfl,rfl⟩
theorem iU.t {H:Hp}{a b:Addr}{d:List (List Key×V)}{k:List Key}(e:H a=some (.dT d)) (i:H b=some (.tup (k.map kV))):iU H a (.ref b) (bV d k):=.inr ⟨d,k,b,.inl e,rfl,i,rfl⟩
theorem pq.k {H:Hp}{a:Addr}{d:List (Key×V)}{k:Key}{v:V}(e:H a=some (.dK d)) (i:d.length<sizeLine):pq H a (kV k) v (upd H a (.dK (putK d k v))):=.inl ⟨d,k,e,rfl,i,rfl⟩
theorem pq.t {H:Hp}{a b:Addr}{d:List (List Key×V)}{k:List Key}{v:V}(e:H a=some (.dT d)) (i:H b=some (.tup (k.map kV))) (j:d.length<sizeLine) :
  pq H a (.ref b) v (upd H a (.dT (putK d k v))):=.inr ⟨d,k,b,e,rfl,i,j,rfl⟩
section
variable {X:Cx}{pins:List (Addr×Obj)}{σ:St}{H:Hp}{s:Shared}{a:Addr}{y v:V}{u r:Value}{o:Option V}{A:Around}{E:Value->Shared->Prop}
theorem Inv.big (I:Inv X pins σ H s):sysModules<s.heap.objs.size:=by
 have h:mainGlobals<s.heap.objs.size:=(I.mod.glob.keeps I.bk).lt
 exact Gf (by decide) h
theorem pM (N:A.units+1<cLine) (I:Inv X pins σ H s) (g:iU H a y (some v)) (G:RelV y u) (h:∀ j s',Inv X pins σ H s'->RelV v j->Q j s') :
  wpAny (model X.prog X.w) A (getItem (.ref a) u) Q E s:=by
 rcases g with ⟨F,k,e,q,l⟩|⟨F,k,b,e,q,J,l⟩
 ·subst q
  obtain⟨z,L,O,d,n⟩:=jN I.hok e
  obtain⟨j,D,i⟩:=eu.some_of (v:=v) (o:=valueAt O k) (by rw[l];exact d.val k)
  exact wpAny_getItem_of (lH G) n.mapOf D (h j _ (I.tok _) i)
 ·subst q
  cases (show u=Value.ref b from G)
  obtain⟨z,L,xs,d,n⟩:=hZ I.hok e
  obtain⟨j,D,i⟩:=eu.some_of (v:=v) (o:=(atKey xs k).map (·.2)) (by rw[l];exact d.val k)
  obtain⟨p,M,B⟩:=Df.mp D
  refine wpAny_getItem_heap (EA N) (f9 I.hok J) n M ?_
  rw[B]
  exact h j _ (I.tok _) i
theorem tH (G:A.units+1<cLine) (I:Inv X pins σ H s) (g:iU H a y o) (D:RelV y u) (h:∀ s',Inv X pins σ H s'->Q (.bool (!o.isSome)) s') :
  wpAny (model X.prog X.w) A (compareOp .NotIn u (.ref a)) Q E s:=by
 rcases g with ⟨B,k,e,j,l⟩|⟨B,k,b,e,j,F,l⟩
 ·subst j
  obtain⟨z,n,J,d,i⟩:=jN I.hok e
  refine wpAny_notIn_of (lH D) n i.mapOf ?_
  rw[<- (d.val k).hJ,<- l]
  exact h _ (I.tok _)
 ·subst j
  cases (show u=Value.ref b from D)
  obtain⟨z,n,xs,d,i⟩:=hZ I.hok e
  refine wpAny_notIn_heap (EA G) (f9 I.hok F) n i ?_
  have q:=(d.val k).hJ
  rw[Option.isSome_map] at q
  rw[<- q,<- l]
  exact h _ (I.tok _)
theorem kK (I:Inv X pins σ H s) (n:Mut (H a)) (hs:Heap.SameBut a s.heap h') (j:∃ q,h'.get? a=some q) (d:bu X.prog X.w (upd H a ob) h' a ob) :
  Inv X pins σ (upd H a ob) { s with heap:=h',toks:=t' }:=
 I.write (x:=a) (e:=a) n (.inl rfl) (λ b q i z=>(hs.2 b i).trans z) j d
theorem v8 (z:kvs.length<=sizeLine) (i:(a == sysModules)=false) (d:KV kvs vs) (dd:h'.DictOf (bL P w) a vs) :
  bu P w H' h' a (.dK kvs):=⟨z,i,vs,d,dd⟩
theorem qb {H':Hp}{Q:Unit->Shared->Prop}(hu:A.units+1<cLine) (I:Inv X pins σ H s) (g:pq H a y v H') (S:RelV y u) (R:RelV v r) (h:∀ s',Inv X pins σ H' s'->Q () s') :
  wpAny (model X.prog X.w) A (setItem (.ref a) u r) Q E s:=by
 rcases g with ⟨d,k,e,F,l,D⟩|⟨d,k,b,e,F,N,l,D⟩
 ·subst F D
  obtain⟨z,G,vs,i,B⟩:=Bx I.hok e
  have M:vs.length<=sizeLine:=by rw[<- i.length];exact z
  have J:(putK d k v).length<=sizeLine:=by have:=hW d k v;lia
  refine wpAny_setItem_pairs (hsz:=M) (lH S) B λ h' j L=>h _ ?_
  have Z:∃ q,h'.get? a=some q:=let ⟨q,_,_,n,_⟩:=j;⟨q,n⟩
  exact kK I (by rw[e];exact True.intro) L Z (v8 J G (i.put k R) j)
 ·subst F D
  cases (show u=Value.ref b from S)
  obtain⟨z,G,xs,i,B⟩:=qh I.hok e
  have M:xs.length<=sizeLine:=by rw[<- Paired.length i];exact z
  have J:(putK d k v).length<=sizeLine:=by have:=hW d k v;lia
  refine wpAny_setItem_heap (hsz:=M) (EA hu) (f9 I.hok N) B λ h' j L=>h _ ?_
  obtain⟨q,es,U,n,h2,V,W,_,Y⟩:=j
  refine kK I (by rw[e];exact True.intro) L ⟨q,n⟩ ⟨J,G,_,(i.put k N R).keeps λ c ys O=>?_,q,es,U,n,h2,V,W,Y⟩
  rw[aE (cU O e (λ z=>nomatch z))]
  exact O
end
section
variable {X:Cx}{pins:List (Addr×Obj)}{σ:St}{H:Hp}{s:Shared}{a:Addr}{kvs:List (Key×V)}{k:Key}{u:Value}{A:Around}{E:Value->Shared->Prop}
end
noncomputable def BP (i:Expr):Prop:=∀ ov iv,subscripted i false ov iv=operate [ov,iv] (getItem ov iv)
theorem tJ {prog:Program}{w:World}{A:Around}{E:Value->Shared->Prop}{s:Shared}{env:Env}{value d:Expr}{pos:Pos}{T id:String}{Q:Value->Shared->Prop}
  (I:typeLookup (.type T) "__getitem__" = pure (some (.builtin id))) (hs:BP d)
  (h:wpAny (model prog w) A (eval value env) (λ o q=>wpAny (model prog w) A (eval d env) (λ i j=>j.TypeIs o T/\wpAny (model prog w) A (getItem o i) Q E j) E q) E s) :
  wpAny (model prog w) A (eval (.Subscript value d pos) env) Q E s:=by
 refine Subscript_ (Dp h (λ o q D=>Dp D (λ i j n=>?_) λ _ _ x=>x) λ _ _ x=>x)
 obtain⟨G,n⟩:=n
 unfold subscriptTail
 refine Cq ?_
 rw[getitemInPython_of_ne G.not_modules]
 refine Cq (Fi G I ?_)
 have B:wpAny (model prog w) A (subscripted d false o i) (λ r z=>wpAny (model prog w) A (letTemporaryGo value o r >>= λ _=>pure r) Q E z) E j:=by
  rw[hs o i]
  exact wpAny_operating (Dp n (λ r z F=>Cq (wpAny_letTemporaryGo (Cu F))) λ _ _ x=>x)
 first
  | exact Cu (Cq B)
  | exact Cq (Cu (Cq B))
  | exact Cq B
theorem mh (I:Inv X pins σ H s) (g:iU H a y o):s.TypeIs (.ref a) "dict":=by
 rcases g with ⟨kvs,k,e,_,_⟩|⟨kvs,k,b,e,_,_,_⟩
 ·obtain⟨_,_,i,_,d⟩:=jN I.hok e
  exact d.typeIs
 ·obtain⟨_,_,xs,_,d⟩:=hZ I.hok e
  exact d.typeIs
noncomputable def zV (td ty:TE):TE:=λ σ H Q=>td σ H λ x H1=>ty σ H1 λ y H2=>∃ a v,x=.ref a/\iU H2 a y (some v)/\Q v H2
noncomputable def sN (ty td:TE):TE:=λ σ H Q=>ty σ H λ y H1=>td σ H1 λ x H2=>∃ a o,x=.ref a/\iU H2 a y o/\Q (.bl (!o.isSome)) H2
noncomputable def xU (td ty tv:TE):TS:=λ D σ H=>tv σ H λ v H1=>td σ H1 λ x H2=>ty σ H2 λ y H3=>∃ a H4,x=.ref a/\pq H3 a y v H4/\D.nx σ H4
section
variable {X:Cx}{o i e value:Expr}{pos pos' tpos:Pos}{td ty tv:TE}
theorem cP (B:X.A.units+1<cLine) (z:PE X o td) (hi:PE X i ty) (hs:BP i):PE X (.Subscript o i pos) (zV td ty):=by
 intro pins s σ H Q I h
 refine tJ PySem.F.slot_dict_getitem.lookup hs (thn (z pins s σ H _ I h) λ u L ⟨x,H1,n,G,D⟩=>thn (hi pins L σ H1 _ n D) λ M N ⟨y,H2,j,J,a,v,ex,g,F⟩=>?_)
 subst ex
 obtain rfl:u=Value.ref a:=G
 exact⟨mh j g,pM B j g J λ R O q d=>⟨v,H2,q,d,F⟩⟩
theorem fK (z:X.A.units+1<cLine) (hi:PE X i ty) (q:PE X o td):PC X .NotIn i o (sN ty td):=by
 intro pins s σ H Q I h
 refine thn (hi pins s σ H _ I h) λ M L ⟨y,H1,d,J,D⟩=>thn (q pins L σ H1 _ d D) λ u N ⟨x,H2,j,G,a,B,ex,g,F⟩=>?_
 subst ex
 obtain rfl:u=Value.ref a:=G
 exact tH z j g J λ O n=>⟨.bl (!B.isSome),H2,n,rfl,F⟩
theorem iw (F:X.A.units+1<cLine) (B:PE X o td) (hi:PE X i ty) (G:PE X value tv) (hs:swapsWith value (some (.Subscript o i pos')) pos.line X.env=pure false) :
  PS X (.Assign [.Subscript o i pos'] value pos) (xU td ty tv):=by
 intro pins s σ H D I h
 refine wpAny_Assign_Subscript (thn (G pins s σ H _ I h) λ r S ⟨v,H1,j,N,J⟩=>thn (B pins S σ H1 _ j J) λ u U ⟨x,H2,n,O,L⟩=>thn (hi pins U σ H2 _ n L) λ W Y ⟨y,V,q,R,a,d,ex,g,M⟩=>?_) hs
 subst ex
 obtain rfl:u=Value.ref a:=O
 exact qb F q g R N λ Z z=>⟨σ,d,z,M⟩
end
theorem qM (h:Heap) (d:sysModules<h.objs.size):bu P w H (h.push { cls:=.type "dict",data:=.dict #[] }) h.objs.size (.dK []):=
 ⟨Dq _,Ea.mpr (Ne.symm (CI d)),[],.nil,Heap.DictOf.new h⟩
theorem ro (h:Heap) (d:sysModules<h.objs.size):bu P w H (h.push { cls:=.type "dict",data:=.dict #[] }) h.objs.size (.dT []):=
 ⟨Dq _,Ea.mpr (Ne.symm (CI d)),[],.nil,_,#[],0,Heap.get?_push_size _ rfl,⟨rfl,rfl,rfl⟩,rfl,rfl,F1⟩
noncomputable def wR:TE:=λ _ H Q=>∀ p,H p=none->Q (.ref p) (upd H p (.dK []))
noncomputable def w9:TE:=λ _ H Q=>∀ p,H p=none->Q (.ref p) (upd H p (.dT []))
section
variable {X:Cx}{pos:Pos}
theorem qL:PE X (.Dict [] [] pos) wR:=λ pins s σ H Q I h=>
 wpAny_Dict_empty ⟨.ref s.heap.objs.size,_,I.laid (a:=s.heap.objs.size) (o:=.dK []) (t':=s.toks) (λ _ _ q=>Heap.get?_push_of_some _ q) (Nat.le_refl _) (qM s.heap I.big),rfl,h _ (I.hok.fresh (Nat.le_refl _))⟩
theorem dm:PE X (.Dict [] [] pos) w9:=λ pins s σ H Q I h=>
 wpAny_Dict_empty ⟨.ref s.heap.objs.size,_,I.laid (a:=s.heap.objs.size) (o:=.dT []) (t':=s.toks) (λ _ _ q=>Heap.get?_push_of_some _ q) (Nat.le_refl _) (ro s.heap I.big),rfl,h _ (I.hok.fresh (Nat.le_refl _))⟩
end
structure M2 (X:Cx) (o:Expr) (m:Str) (apos:Pos) (e f:Expr) (cpos:Pos):Prop where
 base:attributeBase o m X.env (eval o X.env)=eval o X.env
 few:((backTo cpos (starEach [e,f] X.env)).all (λ x=>!x.1) && (backToKw cpos (keywordEach [] X.env)).all (λ x=>x.1.isSome)
  && decide (([e,f]:List Expr).length+([]:List Keyword).length+(if ([]:List Keyword).isEmpty then 0 else 1)<30))=true
 line:(apos.endLine == cpos.line)=true
 trees:backTo cpos (starEach [e,f] X.env)=[(false,eval e X.env),(false,eval f X.env)]
noncomputable def IsD (H:Hp) (a:Addr):Prop:=(∃ kvs,Rd H a (.dK kvs))\/∃ kvs,Rd H a (.dT kvs)
theorem v7 (I:Inv X pins σ H s) (d:IsD H a) :
  s.TypeIs (.ref a) "dict" /\ (∀ b,Value.ref a=.ref b->∃ j,s.heap.get? b=some j/\j.dict=none)/\(a == sysModules)=false:=by
 rcases d with ⟨kvs,e⟩|⟨kvs,e⟩
 ·obtain⟨_,z,B,_,n⟩:=jN I.hok e
  refine⟨n.typeIs,λ b q=>?_,z⟩
  cases q
  obtain⟨j,_,_,h1,h2,_⟩:=n
  exact⟨j,h1,h2.2.1⟩
 ·obtain⟨_,z,xs,_,n⟩:=hZ I.hok e
  refine⟨n.typeIs,λ b q=>?_,z⟩
  cases q
  obtain⟨j,_,_,h1,h2,_⟩:=n
  exact⟨j,h1,h2.2.1⟩
section
variable {X:Cx}{pins:List (Addr×Obj)}{σ:St}{H:Hp}{s:Shared}{a:Addr}{y d:V}{u r:Value}{o:Option V}{A:Around}{E:Value->Shared->Prop}
theorem vU (L:A.units+1<cLine) (I:Inv X pins σ H s) (g:iU H a y o) (F:RelV y u) (D:RelV d r) (h:∀ G s',Inv X pins σ H s'->RelV (o.getD d) G->Q G s') :
  wpAny (model X.prog X.w) A (call (.builtin "dict.get") [.ref a,u,r]) Q E s:=by
 rcases g with ⟨kvs,k,e,q,l⟩|⟨kvs,k,b,e,q,J,l⟩
 ·subst q
  obtain⟨z,B,M,j,n⟩:=jN I.hok e
  refine Gd FW n.typeIs PySem.F.entry_dict_get (PySem.F.args_dict_get_3 _ _ _) (meets_dict_get_default (bL X.prog X.w) a (lH F) B r) ⟨_,n.mapOf,h _ _ (I.tok _) ?_⟩
  rw[l]
  exact(j.val k).getD D
 ·subst q
  cases (show u=Value.ref b from F)
  obtain⟨z,B,xs,j,n⟩:=hZ I.hok e
  refine Gd FW n.typeIs PySem.F.entry_dict_get (PySem.F.args_dict_get_3 _ _ _) (meetsH_dict_get_default (tupleKind (bL X.prog X.w)) a b B r) ⟨EA L,k,xs,f9 I.hok J,n,h _ _ (I.tok _) ?_⟩
  rw[l]
  exact(j.val k).getD D
end
noncomputable def wB (td ty tx:TE):TE:=λ σ H Q=>td σ H λ x H1=>∃ a,x=.ref a/\IsD H1 a/\ty σ H1 λ y H2=>tx σ H2 λ z H3=>∃ o,iU H3 a y o/\Q (o.getD z) H3
section
variable {X:Cx}{o e f:Expr}{apos cpos:Pos}{td ty tx:TE}
theorem rC (M:X.A.units+1<cLine) (L:PE X o td) (G:PE X e ty) (J:PE X f tx) (m:M2 X o "get" apos e f cpos):PE X (.Call (.Attribute o "get" apos) [e,f] [] cpos) (wB td ty tx):=by
 intro pins s σ H Q I h
 refine wpAny_Call_method m.base m.few m.line FF FW PySem.F.type_dict_get (thn (L pins s σ H _ I h) λ u W ⟨x,H1,n,S,a,ex,d,N⟩=>?_)
 subst ex
 obtain rfl:u=Value.ref a:=S
 obtain⟨Z,t2,_⟩:=v7 n d
 refine⟨Z,t2,?_⟩
 rw[m.trees]
 refine Calls.callWith_builtin rfl (Calls.evalArgs_plain (Calls.spliced_cons (thn (G pins W σ H1 _ n N) λ iv Y ⟨y,H2,B,U,O⟩=>
  Calls.spliced_cons (thn (J pins Y σ H2 _ B O) λ fv s3 ⟨z,q,D,V,ov,g,R⟩=>Calls.spliced_nil ?_))))
 exact vU M D g U V λ w' s4 F j=>⟨_,q,F,j,R⟩
end
section
variable {X:Cx}{pins:List (Addr×Obj)}{σ:St}{H:Hp}{s:Shared}{a:Addr}{kvs:List (Key×V)}{A:Around}{E:Value->Shared->Prop}
end
section
variable {X:Cx}{pins:List (Addr×Obj)}{σ:St}{H:Hp}{s:Shared}{a:Addr}{y:V}{u:Value}{A:Around}{E:Value->Shared->Prop}
end
end L2
namespace Att
open PySem PySem.W PySem.Calls PyProof.Rows
theorem iq:∀ (ns:List Int) (vs:List Value),WellAll P h vs (ns.map WData.int)->IntsAre vs ns:=by
 intro ns
 induction ns with
 | nil=>
  intro vs w
  rw[Gh] at w
  cases w
  exact .nil
 | cons n ns j=>
  intro vs w
  rw[Dc] at w
  cases w with
  | cons a b=>
   cases a
   exact .cons _ _ (j _ b)
theorem qf {l:OpenLaw}{n:Nat}(N:l.most=some n) {P:Params}{h:Heap}{args:List WData}{z:List Value}
  (j:l.row.toRowW.claim.pre args=true) (J:WellAll P h z args) :
  ∃ a vs ns,z=[Value.ref a]/\args=[WData.list (ns.map WData.int)]/\h.get? a=some { cls:=.type "list",data:=.seq vs.toArray }/\IntsAre vs ns/\ns.length<=n:=by
 have I:WShape.hasAll [] args [.list .int]=true:=(pre_splitW j).1
 have L:l.pre.holds [] { args:=args }=true:=(pre_splitW j).2
 obtain⟨d,r,rfl,h1,h2⟩:=hasAllW_cons I
 obtain rfl:=hasAllW_nil h2
 obtain⟨xs,rfl,M⟩:=hasW_list h1
 obtain⟨ns,rfl⟩:=items_int M
 have D:ns.length<=n:=by
  unfold OpenLaw.pre at L
  have F:(WTm.not (.lt (.lit (.int (n:Int))) (.len (.arg 0)))).holds [] { args:=[.list (ns.map .int)] }=true:=by
   have F:=(holds_andW L).1
   rw[N] at F
   exact F
  have G:=condW_of F (w_not (w_lt w_lit (w_len_list (w_arg rfl))))
  rw[Cy] at G
  refine Nat.le_of_not_lt λ q=>?_
  have R:(n:Int)<((ns.length:Nat):Int):=by lia
  first
   | (rw[CZ R] at G;exact absurd G (by decide))
   | (simp at G;lia)
 cases J with
 | cons S U=>
  cases U
  cases S with
  | list O B=>exact⟨_,_,ns,rfl,rfl,O,iq ns _ B,D⟩
theorem p7 (l:OpenLaw) (args):l.row.toRowW.claim.post args (.bool true) args=true:=
 postW_of (r:=l.row.toRowW) (X:=(true == true))
  (show WShape.has [] (.bool true) .bool=true by first|rfl|decide|simp[WShape.has,WShape.arms,WShape.armsAll])
  (show (WTm.eq .res (.lit (.bool true))).value [] { args:=args,res:=some (.bool true),after:=args }=some (.bool (true == true)) from w_eq_bool (w_res rfl) w_lit) rfl
theorem kS {l:OpenLaw}{n:Nat}{q:Program}{z:List Str}{XP:(Str->Option Value)->Heap->Prop}{YP:World->Heap->Prop}{d:DefRec}
  (hn:l.most=some n) (U:d.params.defaults=[])
  (I:∀ (w:World) (B j:Shared) (R Z:Str->Option Value) (J:Addr) (o:Obj) (pm O D:Value) (a:Addr) (vs:List Value) (ns:List Int),
   Ground q z [] XP w B R Z j.heap->YP w j.heap ->
   j.heap.get? J=some o->o.data=.func (docDef d.name d.params d.body d.scope pm O D)->j.heap.CodeRec O d.name->R d.name=some (.ref J) ->
   j.heap.get? a=some { cls:=.type "list",data:=.seq vs.toArray }->IntsAre vs ns->ns.length<=n->j.gens = #[] ->
   codeAny (model l.prog w) callerA (.call (.ref J) ⟨[.ref a],[]⟩) (λ r s'=>r=.ok (.ret (.bool true))/\OldK j.heap s'.heap/\s'.os=j.os/\AllBare s'.gens) j) :
  WalkO q z XP YP l.row.toRowW d [] (λ f vs=>PySem.call f vs):=by
 intro w B j R Z G Y J o pm O D dV kV ho hd S hD V hg a0 a2 as N a1 a4 W a3
 obtain rfl:dV=.none:=Dflts.none hD U
 obtain rfl:kV=.none:=Dflts.noKw hD
 obtain⟨a,vs,ns,rfl,rfl,M,F,L⟩:=qf hn N W
 refine enter_call (EO (I w B j R Z J o pm O D a vs ns G Y ho (fd_plain hd) S V M F L hg) λ r s' hq=>?_)
 obtain⟨rfl,h2,h3,h4⟩:=hq
 exact⟨.inl ⟨.bool true,.bool true,[],rfl,λ _=>rfl,.bool true,p7 l _,λ _=>⟨List.Pairwise.nil,λ _ hm=>(nomatch hm)⟩⟩,h2,h3,h4⟩
section
variable {prog:Program}{w:World}{A:Around}{E:Value->Shared->Prop}{s:Shared}{K:Frag}
noncomputable def ledger (h:Heap) (L d:Addr):List (Addr×Obj):=(List.range h.objs.size).filterMap λ a=>if a=L\/a=d then none else (h.get? a).map λ o=>(a,o)
end
end Att
namespace L2
open PySem PySem.Spec PyProof.Rows
theorem jF:∀ {vs:List Value}{ns:List Int},IntsAre vs ns->Vals (ns.map V.int) vs
 | _,_,.nil=>.nil
 | _,_,.cons n t h=>.cons ⟨t,rfl⟩ (jF h)
noncomputable def inClass (s:Stmt) (j:Nat):Stmt:=match s with
 | .ClassDef _ _ _ body _ _ _ _ _ _ _=>body.getD j (.Pass ⟨0,0,0,0⟩)
 | _=>.Pass ⟨0,0,0,0⟩
noncomputable def gi (s:Stmt):Arguments:=match s with
 | .FunctionDef _ a _ _ _ _ _ _ _ _=>a
 | _=>{ posonlyargs:=[],args:=[],vararg:=none,kwonlyargs:=[],kw_defaults:=[],kwarg:=none,defaults:=[] }
noncomputable def cQ (s:Stmt):List Stmt:=match s with
 | .FunctionDef _ _ b _ _ _ _ _ _ _=>b
 | _=>[]
noncomputable def aK (s:Stmt):Scope:=match s with
 | .FunctionDef _ _ _ _ _ _ sc _ _ _=>sc
 | _=>{ kind:=.function,names:=[],isGenerator:=false,isCoroutine:=false }
noncomputable abbrev E0:XK:=λ _ _ _=>False
structure Fun (K:PySem.W.Frag) (x qual:Str) (st:Stmt) (f:Addr) (fd:FuncData):Prop where
 ex:∃ (oc:Value) (od:Option Addr) (kV doc pm:Value) (an:Option Addr) (cdv ct:Value) (osl:Array (Option Value)),
  fd=PySem.W.fnOf x qual (gi st) (cQ st) (aK st) .none kV doc pm an cdv ct/\K.lookup f=some ⟨oc,od,.func fd,osl⟩/\PySem.W.codeIn K cdv qual=true
 kp:PySem.W.keepIn K (.ref f)=true
section
variable {P:Program}{w:World}{K:PySem.W.Frag}{mg:Str->Option Value}{base:Heap}
theorem vM {x qual:Str}{st:Stmt}{f:Addr}{G:Value}{od z:Option Addr}{q:Array (Option Value)}{D n F j B:Value}(l:K.lookup f=some ⟨G,od,.func (PySem.W.fnOf x qual (gi st) (cQ st) (aK st) .none D n F z j B),q⟩)
  (c:PySem.W.codeIn K j qual=true) (k:PySem.W.keepIn K (.ref f)=true):Fun K x qual st f (PySem.W.fnOf x qual (gi st) (cQ st) (aK st) .none D n F z j B):=⟨⟨G,od,D,n,F,z,j,B,q,rfl,l,c⟩,k⟩
end
theorem cm (j:cn k A):A.units+1<cLine:=DK (Nat.add_le_add_left (by decide:1<=64) _) j.units
theorem bh (h:n<=1000):n<sizeLine:=DK h (by decide)
section
variable {X:Cx}
theorem pv (i) (n:X.N[i]? = some x:=by rfl) (z:Vis X.env.scope x:=by first|exact Or.inl rfl|exact Or.inr (Or.inl rfl)|exact Or.inr (Or.inr rfl)) (q:(x == ("__debug__" : Str))=false:=by decide)
  (j:(x == ("__classdict__" : Str))=false:=by decide):PE X (.Name x pos) (cM i):=qY n z q j
end
theorem dQ {A B:Prop}(h:B):if false=true then A else B:=by
 rw[CD CQ]
 exact h
theorem cX {A B:Prop}(h:A):if true=true then A else B:=by
 rw[CG rfl]
 exact h
theorem dy {c A B:Prop} [Decidable c] (h1:c->A) (h2:¬ c->B):if c then A else B:=by
 by_cases h:c
 ·rw[CG h]
  exact h1 h
 ·rw[CD h]
  exact h2 h
noncomputable def aM (H H':Hp):Prop:=∀ b o,H b=some o->H' b=some o
theorem aM.refl (H:Hp):aM H H:=λ _ _ h=>h
theorem aM.trans (a:aM H H1) (b:aM H1 H2):aM H H2:=λ c o h=>b c o (a c o h)
theorem aM.free (e:aM H H') (h:H' l=Option.none):H l=Option.none:=by
 cases q:H l with
 | none=>rfl
 | some o=>
  rw[e l o q] at h
  cases h
theorem aM.seq {K:PySem.W.Frag}{H H':Hp}{a:Addr}{xs:List V}(e:aM H H') (h:SqL K H a xs):SqL K H' a xs:=by
 rcases h with (h|⟨o,h⟩)|h
 ·exact .inl (.inl (e _ _ h))
 ·exact .inl (.inr ⟨o,e _ _ h⟩)
 ·exact .inr h
section
variable {X:Cx}
end
section
variable {κ:Type} [DecidableEq κ]
theorem sj {kvs:List (κ×V)}{k:κ}(h:bV kvs k=none):¬ k∈kvs.map (·.1):=by
 intro m
 obtain⟨p,j,e⟩:=CL.mp m
 have q:(kvs.any λ n=>decide (n.1=k))=true:=List.any_eq_true.mpr ⟨p,j,CZ e⟩
 rw[gm,h] at q
 exact absurd q (by simp)
end
theorem eh {sc:Scope}{env:Env}(h:∀ y∈sc.names,y.2=.free->∃ c,env.cells.lookup y.1=some c) :
  ∃ cl,closureFor sc env=pure cl/\(∀ x c,cl.lookup x=some c->env.cells.lookup x=some c)/\∀ y∈sc.names,y.2=.free->∃ c,cl.lookup y.1=some c:=by
 have go:∀ (names:List (Str×NameKind)) (cs:List (Str×Addr)),(∀ y∈names,y.2=.free->∃ c,env.cells.lookup y.1=some c)->(∀ x c,cs.lookup x=some c->env.cells.lookup x=some c) ->
   ∃ cl,(forIn names cs λ(x:Str×NameKind) (r:List (Str×Addr))=>(if (x.2 == NameKind.free)=true then do let c <- cellOf env x.1;pure (ForInStep.yield ((x.1,c)::r)) else pure (ForInStep.yield r):Sem (ForInStep (List (Str×Addr)))))=pure cl /\
    (∀ x c,cl.lookup x=some c->env.cells.lookup x=some c)/\(∀ y∈names,y.2=.free->∃ c,cl.lookup y.1=some c)/\∀ x c,cs.lookup x=some c->∃ c',cl.lookup x=some c':=by
  intro names
  induction names with
  | nil=>intro cs _ hcs;exact⟨cs,rfl,hcs,λ y hy=>by simp at hy,λ x c e=>⟨c,e⟩⟩
  | cons y r ih=>
   intro cs hn hcs
   by_cases hy:y.2=.free
   ·obtain⟨c,hc⟩:=hn y CJ hy
    obtain⟨cl,e,h1,h2,h3⟩:=ih ((y.1,c)::cs) (λ z hz=>hn z (CH _ hz)) (λ x c' e=>by
     rw[D5] at e
     by_cases hx:x=y.1
     ·subst hx;simp at e;subst e;exact hc
     ·have:(x == y.1)=false:=by simpa using hx
      rw[this] at e;exact hcs x c' e)
    refine⟨cl,?_,h1,λ z hz hf=>?_,λ x c' e'=>?_⟩
    ·rw[E2]
     have e1:(y.2 == NameKind.free)=true:=by rw[hy];rfl
     have e2:cellOf env y.1=pure c:=by unfold cellOf;rw[hc]
     rw[e1,e2]
     exact e
    ·rcases Cz.mp hz with rfl|hz
     ·exact h3 z.1 c (by simp)
     ·exact h2 z hz hf
    ·by_cases hx:x=y.1
     ·subst hx;exact h3 y.1 c (by simp)
     ·have:(x == y.1)=false:=by simpa using hx
      exact h3 x c' (by rw[D5,this];exact e')
   ·obtain⟨cl,e,h1,h2,h3⟩:=ih cs (λ z hz=>hn z (CH _ hz)) hcs
    refine⟨cl,?_,h1,λ z hz hf=>?_,h3⟩
    ·rw[E2]
     have e1:(y.2 == NameKind.free)=false:=by simpa using hy
     rw[e1]
     exact e
    ·rcases Cz.mp hz with rfl|hz
     ·exact absurd hf hy
     ·exact h2 z hz hf
 obtain⟨cl,e,h1,h2,_⟩:=go sc.names [] h (λ x c e=>by simp at e)
 refine⟨cl,?_,h1,h2⟩
 have e2:closureFor sc env=((forIn sc.names [] λ(x:Str×NameKind) (r:List (Str×Addr))=>(if (x.2 == NameKind.free)=true then do let c <- cellOf env x.1;pure (ForInStep.yield ((x.1,c)::r)) else pure (ForInStep.yield r):Sem (ForInStep (List (Str×Addr))))) >>= λ s=>pure s):=rfl
 rw[e2,e]
 rfl
theorem dq:(relabel sc env).names.lookup x =
  (sc.names.lookup x).map λ k=>if (k == NameKind.free && env.scope.kind == .function && env.kindOf x == some .cell)=true then NameKind.cell else k:=by
 have F:∀ j:List (Str×NameKind),(j.map λ(n,k)=>if (k == NameKind.free && env.scope.kind == .function && env.kindOf n == some .cell)=true then (n,NameKind.cell) else (n,k)).lookup x =
   (j.lookup x).map λ k=>if (k == NameKind.free && env.scope.kind == .function && env.kindOf x == some .cell)=true then NameKind.cell else k:=by
  intro j
  induction j with
  | nil=>rfl
  | cons y r D=>
   obtain⟨n,k⟩:=y
   rw[Dc,D5]
   show List.lookup x ((if (k == NameKind.free && env.scope.kind == .function && env.kindOf n == some .cell)=true then (n,NameKind.cell) else (n,k))::_)=_
   by_cases B:x=n
   ·subst B
    by_cases q:(k == NameKind.free && env.scope.kind == .function && env.kindOf x == some .cell)=true
    ·rw[CG q];simp only[D5,FE,Fj];rw[CG q]
    ·rw[CD q];simp only[D5,FE,Fj];rw[CD q]
   ·have z:(x == n)=false:=by simpa using B
    by_cases q:(k == NameKind.free && env.scope.kind == .function && env.kindOf n == some .cell)=true
    ·rw[CG q];simp only[D5,z];exact D
    ·rw[CD q];simp only[D5,z];exact D
 exact F sc.names
structure gT (N:List Str) (esc sc:Scope) (N':List Str) (k:Nat):Prop where
 kind:sc.kind=.function
 nocell:∀ y∈sc.names,y.2≠.cell
 names:∀ y∈sc.names,y.2=.local->sc.names.lookup y.1=some .local
 free:∀ y∈sc.names,y.2=.free->esc.names.lookup y.1=some .cell\/esc.names.lookup y.1=some .free
 len:N'.length=N.length+k
 old:∀ (i:Nat) (x:Str),i<N.length->N'[i]? = some x->Vis sc x->N[i]? = some x/\sc.names.lookup x=some .free
noncomputable def iA (N:List Str) (esc sc:Scope) (N':List Str) (k:Nat):Bool:=
 (sc.kind == .function) && (sc.names.all λ y=>y.2 != .cell) && (sc.names.all λ y=>y.2 != .local || sc.names.lookup y.1 == some .local) &&
 (sc.names.all λ y=>y.2 != .free || (esc.names.lookup y.1 == some .cell || esc.names.lookup y.1 == some .free)) && (N'.length == N.length+k) &&
 ((N'.zip N).all λ p=>match sc.names.lookup p.1 with
  | some .local=>false
  | some .cell=>false
  | some .free=>p.1 == p.2
  | _=>true)
theorem gT.of (h:iA N esc sc N' k=true):gT N esc sc N' k:=by
 unfold iA at h
 simp only[Dt,D6,DY,FT,bne_iff_ne,ne_eq] at h
 obtain⟨⟨⟨⟨⟨h1,h2⟩,n⟩,B⟩,D⟩,F⟩:=h
 refine⟨h1,λ y j=>h2 y j,λ y j e=>?_,λ y j e=>?_,D,λ i x hi L J=>?_⟩
 ·rcases n y j with z|z
  ·exact absurd e z
  ·exact z
 ·rcases B y j with z|z
  ·exact absurd e z
  ·exact z
 ·have G:i<(N'.zip N).length:=by rw[List.length_zip];lia
  have I:(x,N[i])∈N'.zip N:=by
   rw[Fc]
   refine⟨i,?_⟩
   rw[List.getElem?_zip_eq_some]
   exact⟨L,by simp[hi]⟩
  have q:=F _ I
  rcases J with z|z|z
  ·rw[z] at q;exact absurd q (by simp)
  ·rw[z] at q;exact absurd q (by simp)
  ·rw[z] at q
   have M:x=N[i]:=by simpa using q
   refine⟨?_,z⟩
   rw[Cs hi,<- M]
noncomputable def cA (X:Cx) (sc:Scope) (N':List Str) (cl:List (Str×Addr)) (C:Addr) (s₂:Shared) (H2:Hp) (fp:List Addr):Cx:=
 { X with N:=N',s₀:=s₂,H₀:=H2,env:=compEnvC sc cl C X.env,outer:=X.stack,ex:=fp,fn:=λ _=>false,pn:=[],xe:=λ _ _=>False }
section
variable {X:Cx}{pins:List (Addr×Obj)}{σ:St}{H:Hp}{s₂:Shared}{sc:Scope}{N':List Str}{k:Nat}{cl:List (Str×Addr)}{C acc:Addr}{fp:List Addr}{h₁:Heap}{tk n:Nat}
theorem hV (h:Vis (relabel sc X.env) x):Vis sc x:=by
 unfold Vis at h ⊢
 rw[dq] at h
 cases e:sc.names.lookup x with
 | none=>rw[e] at h;simp at h
 | some k=>
  rw[e] at h
  simp only[Fj,Option.some.injEq] at h ⊢
  split at h
  ·rename_i j
   simp only[Dt,DY] at j
   exact .inr (.inr j.1.1)
  ·exact h
theorem qP (ok:gT X.N X.env.scope sc N' k) (hcl:∀ x c,cl.lookup x=some c->X.env.cells.lookup x=some c) (hfr:∀ y∈sc.names,y.2=.free->∃ c,cl.lookup y.1=some c)
  (I:Inv X pins σ H s₂) (hfp:∀ b∈fp,iG X pins H b) (hob:∀ b∈fp,∃ o,s₂.heap.get? b=some o)
  (hacc:s₂.heap.objs.size<=acc) (hC:s₂.heap.objs.size<=C) (hne:C≠acc) (ns:h₁.Ns C λ _=>none) (kp:∀ b o,s₂.heap.get? b=some o->h₁.get? b=some o)
  (ha:h₁.get? acc=some { cls:=.type "list",data:=.seq #[] n }) :
  Inv (cA X sc N' cl C s₂ H fp) [] (σ++List.replicate k none) (upd H acc (.lst [])) { s₂ with heap:=h₁,toks:=tk }:=by
 have hfresh:=I.hok.fresh hacc
 have hfreshC:=I.hok.fresh hC
 have hlook:∀ x,((cA X sc N' cl C s₂ H fp).env.kindOf x=some .cell\/(cA X sc N' cl C s₂ H fp).env.kindOf x=some .free)->sc.names.lookup x=some .free:=λ x hx=>by
  have hx':(relabel sc X.env).names.lookup x=some .cell\/(relabel sc X.env).names.lookup x=some .free:=hx
  have hv:Vis sc x:=hV (X:=X) (.inr hx')
  rcases hv with z|z|z
  ·rw[dq,z] at hx';simp at hx'
  ·exact absurd rfl (ok.nocell _ (Dw z))
  ·exact z
 have hexf:∀ b∈fp,b<s₂.heap.objs.size:=λ b hb=>let ⟨o,e⟩:=hob b hb;Heap.lt_size e
 refine⟨⟨I.ok.mod,ok.kind,I.ok.glob,I.ok.blt,hC,λ x y c h1 h2=>I.ok.inj x y c (hcl x c h1) (hcl y c h2),λ x hx=>hfr _ (Dw (hlook x hx)) rfl,λ x c h _=>absurd (show false=true from h) (by simp),
   I.ok.hd,I.ok.frames,.inl rfl,λ b hb=>⟨CI (CM (hexf b hb) hC),λ x c e=>(hfp b hb).2.2.2.2.1 x c (hcl x c e)⟩,I.bs,CV I.ok.bsz I.sz,λ b o e hb=>?_,λ b hb z=>?_,I.stack,I.gH⟩,
  rfl,I.bare,Un.laid kp hacc hfresh,⟨_,ns,λ i x v e1 e2 e3=>?_⟩,λ x c e=>?_,?_,λ x c e=>?_,λ p hp=>absurd (show p∈([]:List (Addr×Obj)) from hp) (by simp),I.hok.laid kp hacc ⟨Dq _,[],n,.nil,ha⟩,?_⟩
 ·rcases (hfp b hb).2.2.2.1 with z|z
  ·exact I.ok.noex b o e z
  ·exact absurd (CM (Heap.lt_size e) (CV I.ok.bsz z)) (DS _)
 ·rcases Cz.mp (I.jb b z) with q|q
  ·exact(hfp b hb).2.1 q
  ·exact(hfp b hb).2.2.1 q
 ·have hi:i<σ.length:=by
   by_cases hi:i<σ.length
   ·exact hi
   ·rw[C3 (by lia),E6] at e2
    split at e2<;>cases e2
  rw[Dv hi] at e2
  have hiN:i<X.N.length:=by rw[<- I.len];exact hi
  obtain⟨q1,q2⟩:=ok.old i x hiN e1 (hV (X:=X) e3)
  have hk:=ok.free _ (Dw q2) rfl
  obtain⟨m,hn,hl⟩:=I.loc
  obtain⟨u,ru,look⟩:=hl i x v q1 e2 (.inr hk)
  refine⟨u,ru,.inr ⟨?_,?_⟩⟩
  ·show (relabel sc X.env).names.lookup x=some .cell\/(relabel sc X.env).names.lookup x=some .free
   rw[dq,q2]
   simp only[Fj,Option.some.injEq]
   split
   ·exact .inl rfl
   ·exact .inr rfl
  ·obtain⟨c,hc⟩:=hfr _ (Dw q2) rfl
   rcases look with ⟨z,_⟩|⟨_,c',e',z⟩
   ·rcases hk with hk|hk
    ·have z':X.env.scope.names.lookup x=some .local:=z
     rw[hk] at z';cases z'
    ·have z':X.env.scope.names.lookup x=some .local:=z
     rw[hk] at z';cases z'
   ·have e'':=hcl x c hc
    rw[e'] at e'';cases e''
    obtain⟨o,ho,hd⟩:=z
    exact⟨_,hc,o,kp _ _ ho,hd⟩
 ·obtain⟨v,o,ho,hd⟩:=I.cell x c (hcl x c e)
  exact⟨v,o,kp _ _ ho,hd⟩
 ·show upd H acc (.lst []) C=none
  rw[aE hne];exact hfreshC
 ·have hc:=hcl x c e
  obtain⟨v,z⟩:=I.cell x c hc
  have hlt:c<s₂.heap.objs.size:=z.lt
  show upd H acc (.lst []) c=none\/(false=false/\∃ o u,upd H acc (.lst []) c=some (.frz o u))
  rw[aE (CI (CM hlt hacc))]
  exact(I.freeC x c hc).imp id λ z=>⟨rfl,z.2⟩
 ·show (σ++List.replicate k none).length=N'.length
  rw[CA,Ej,I.len,ok.len]
end
noncomputable def PTs (X:Cx) (ifs:List Expr) (t:TT):Prop:=(ifs=[]/\∀ σ H Q,t σ H Q->Q true H)\/∃ c,ifs=[c]/\PT X c t
noncomputable def fO:TT:=λ _ H Q=>Q true H
theorem bX:PTs X [] fO:=.inl ⟨rfl,λ _ _ _ h=>h⟩
theorem fH (h:PT X c t):PTs X [c] t:=.inr ⟨c,rfl,h⟩
noncomputable abbrev ig (J:It) (k:Nat) (g:TG) (tc:TT) (te:TE) (σ:St) (H1:Hp) (Q:VK):Prop:=
 ∀ acc,H1 acc=none->∃ W:Nat->Nat->St->List V->Hp->Prop,(∃ m,W 0 m (σ++List.replicate k none) [] (upd H1 acc (.lst []))) /\
  ∀ i m σ2 ys H2,W i m σ2 ys H2 ->
   (J.stop i H2/\Q (.ref acc) H2) \/
   (J.go i H2/\ys.length<sizeLine/\∀ x H3,J.yld i H2 x H3->g x σ2 H3 λ σ4 H4=>tc σ4 H4 λ b H5=>
    if b=true then te σ4 H5 λ v H6=>H6 acc=some (.lst ys)/\∃ m',m'<m/\W (i+1) m' σ4 (ys++[v]) (upd H6 acc (.lst (ys++[v])))
    else ∃ m',m'<m/\W (i+1) m' σ4 ys H5)
noncomputable def nU (wi:TI) (k:Nat) (g:TG) (tc:TT) (te:TE):TE:=λ σ H Q=>wi σ H λ J H1=>ig J k g tc te σ H1 Q
section
variable {X:Cx}{elt tg iter:Expr}{ifs:List Expr}{sc:Scope}{pos:Pos}{N':List Str}{k:Nat}{wi:TI}{g:TG}{tc:TT}{te:TE}{cl:List (Str×Addr)}
set_option maxHeartbeats 800000 in
theorem i4 (hc:X.calm=true) (ok:gT X.N X.env.scope sc N' k) (aq:∀ x c,cl.lookup x=some c->X.env.cells.lookup x=some c) (aB:∀ y∈sc.names,y.2=.free->∃ c,cl.lookup y.1=some c)
  (F:∀ cl C s₂ H2 fp,PG (cA X sc N' cl C s₂ H2 fp) tg g/\PTs (cA X sc N' cl C s₂ H2 fp) ifs tc/\PE (cA X sc N' cl C s₂ H2 fp) elt te)
  {pins:List (Addr×Obj)}{σ:St}{H:Hp}{s₂:Shared}{J:It}{fp:List Addr}{it:Addr}{tn:Nat->Heap->Prop}(I:Inv X pins σ H s₂) (T:Turn X.prog X.w X.K tg J fp it tn) (t0:tn 0 s₂.heap) (Y:∀ b∈fp,iG X pins H b)
  {Q:VK}(h:ig J k g tc te σ H Q) {RR:Value->Addr->Result->Shared->Prop}
  (aA:∀ acc C H' s' G,Inv X pins σ H' s'->s'.heap.Ns C G->s₂.heap.objs.size<=C->H' C=none->Q (.ref acc) H'->RR (.ref acc) C (.ok .next) s') :
  wpAny (model X.prog X.w) X.A (newList []) (λ acc au=>wpAny (model X.prog X.w) X.A (newFunctionEnv sc X.env.globals cl [] X.env.qual none .none (some X.env)) (λ ab av=>
   codeAny (model X.prog X.w) X.A (.compStart (.ListComp elt [⟨tg,iter,ifs,0⟩] sc pos) 0 (.ref it) acc { ab with scope:=relabel sc X.env }) (RR acc ab.locals) av) X.xe au) X.xe s₂:=by
 refine DX (wpAny_newFunctionEnv ok.nocell (by intro y hy;simp at hy) (λ h₁ Z D=>?_) ok.kind)
 dsimp only at Z D ⊢
 generalize ai:s₂.heap.push { cls:=.type "list",dict:=none,data:=.seq ([]:List Value).toArray }=L at Z D ⊢
 have hC:L.objs.size=s₂.heap.objs.size+1:=by rw[<- ai,Heap.size_push]
 have ao:s₂.heap.objs.size≠L.objs.size:=by rw[hC];exact CI (D4 _)
 have a6:s₂.heap.objs.size<=L.objs.size:=by rw[hC];exact Ex _
 have al:∀ b o,s₂.heap.get? b=some o->h₁.get? b=some o:=λ b o e=>D.extBut b o (CI (CM (Heap.lt_size e) a6)) (Heap.get?_push_of_some _ (ai ▸ Heap.get?_push_of_some _ e))
 have ap:h₁.get? s₂.heap.objs.size=some { cls:=.type "list",data:=.seq #[] 0 }:=D.extBut _ _ ao (Heap.get?_push_of_some _ (ai ▸ Heap.get?_push_size _ rfl))
 have aj:∀ b∈fp,∃ o,s₂.heap.get? b=some o:=λ b F=>let ⟨o,e,_⟩:=T.obj 0 _ t0 b F;⟨o,e⟩
 obtain⟨W,⟨m0,w0⟩,af⟩:=h s₂.heap.objs.size I.fresh
 obtain⟨hg,ht,he⟩:=F cl L.objs.size s₂ H fp
 have J0:Inv (cA X sc N' cl L.objs.size s₂ H fp) [] (σ++List.replicate k none) (upd H s₂.heap.objs.size (.lst [])) { s₂ with heap:=h₁,toks:=s₂.toks+([]:List (Str×Value)).length }:=
  qP ok aq aB I Y aj (Nat.le_refl _) a6 (Ne.symm ao) Z al ap
 have ah:∀ {a4:List (Addr×Obj)} {H':Hp},a4=[]->(∀ b∈fp,H' b=none)->∀ b∈fp,iG (cA X sc N' cl L.objs.size s₂ H fp) a4 H' b:=λ{a4 H'} hp hn b F=>by
  subst hp
  refine⟨hn b F,?_,?_,.inl F,λ x c e=>(Y b F).2.2.2.2.1 x c (aq x c e),λ p hp=>absurd (show p∈([]:List (Addr×Obj)) from hp) (by simp)⟩
  ·obtain⟨o,e⟩:=aj b F
   exact CI (CM (Heap.lt_size e) a6)
  ·intro z
   rcases Cz.mp (I.jb b z) with q|q
   ·exact(Y b F).2.1 q
   ·exact(Y b F).2.2.1 q
 let S:=cA X sc N' cl L.objs.size s₂ H fp
 let N:Nat->Shared->Prop:=λ n s'=>∃ i aw ys H',Inv S [] aw H' s'/\tn i s'.heap/\(∀ b∈fp,H' b=none)/\W i n aw ys H'
 have a7:∀ {E':Value->Shared->Prop} (x:Value) (s':Shared),False->E' x s':=λ _ _ z=>z.elim
 have ag:∀ {i n:Nat} {B:St} {ys:List V} {O:Hp} {s3:Shared} {R:Shared->Prop} {E':Value->Shared->Prop},Inv S [] B O s3->tn i s3.heap->(∀ b∈fp,O b=none)->J.go i O ->
   (∀ x an,J.yld i O x an->g x B an λ aa H4=>tc aa H4 λ b H5=>if b=true then te aa H5 λ v H6=>H6 s₂.heap.objs.size=some (.lst ys)/\∃ G,G<n/\W (i+1) G aa (ys++[v]) (upd H6 s₂.heap.objs.size (.lst (ys++[v]))) else ∃ G,G<n/\W (i+1) G aa ys H5) ->
   (∀ (pl:List (Addr×Obj)) (j:St) (H6:Hp) (s6:Shared),Inv S pl j H6 s6->(∀ {a9:St} {H7:Hp} {s7:Shared},Inv S pl a9 H7 s7->Inv S [] a9 H7 s7/\tn (i+1) s7.heap/\∀ b∈fp,H7 b=none) ->
    (tc j H6 λ b H5=>if b=true then te j H5 λ v H6=>H6 s₂.heap.objs.size=some (.lst ys)/\∃ G,G<n/\W (i+1) G j (ys++[v]) (upd H6 s₂.heap.objs.size (.lst (ys++[v]))) else ∃ G,G<n/\W (i+1) G j ys H5)->R s6) ->
   wpAny (model X.prog X.w) X.A (pyNext (.ref it)) (λ r s4=>∃ u,r=some u/\wpAny (model X.prog X.w) X.A (letOwnedTupleGo tg (.ref it) u) (λ _ s5=>wpAny (model X.prog X.w) X.A (assign tg S.env u) (λ _ s6=>R s6) E' s5) E' s4) E' s3:=by
  intro i n B ys O s3 R E' I3 a0 U go a2 ay
  refine Dp (T.item S rfl rfl rfl hc i [] s3 B O E' I3 (ah rfl U) a0 go) (λ r s4 hr=>?_) λ _ _ z=>z
  obtain⟨u,hr,h4⟩:=hr
  refine⟨u,hr,Dp h4 (λ _ s5 h5=>?_) λ _ _ z=>z⟩
  obtain⟨x,H5,I5,r5,y5,am,az⟩:=h5
  have ax:=I5.pinned (ah rfl az) (T.obj _ _ am)
  refine Dp (hg _ s5 B H5 x u _ ax r5 (a2 x H5 y5)) (λ _ s6 h6=>?_) a7
  obtain⟨j,H6,I6,q6⟩:=h6
  refine ay _ j H6 s6 I6 (λ{a9 H7 s7} I7=>?_) q6
  refine⟨I7.gD,T.keep _ _ _ am λ b F o e=>(I7.pin (b,o) (CW _ (CW _ (dX F e)))).1,λ b F=>?_⟩
  obtain⟨o,e,d⟩:=T.obj _ _ am b F
  exact(I7.pin (b,o) (CW _ (CW _ (dX F e)))).2.1
 have ar:∀ {i n:Nat} {pl:List (Addr×Obj)} {j:St} {ys:List V} {H7:Hp} {s7:Shared} {E':Value->Shared->Prop},ys.length<sizeLine->Inv S pl j H7 s7 ->
   (∀ {a9:St} {H7:Hp} {s7:Shared},Inv S pl a9 H7 s7->Inv S [] a9 H7 s7/\tn (i+1) s7.heap/\∀ b∈fp,H7 b=none) ->
   (te j H7 λ v H6=>H6 s₂.heap.objs.size=some (.lst ys)/\∃ G,G<n/\W (i+1) G j (ys++[v]) (upd H6 s₂.heap.objs.size (.lst (ys++[v])))) ->
   wpAny (model X.prog X.w) X.A (eval elt S.env) (λ x s8=>wpAny (model X.prog X.w) X.A (call (.builtin "list.append") [.ref s₂.heap.objs.size,x]) (λ _ s9=>∃ m,m<n/\N m s9) E' s8) E' s7:=by
  intro i n pl j ys H7 s7 E' a1 I7 M q7
  refine Dp (he _ s7 j H7 _ I7 q7) (λ y s8 h8=>?_) a7
  obtain⟨v,H8,I8,r8,a8,G,hm,w8⟩:=h8
  refine Dp (bU (X:=S) _ s8 j H8 (.ref s₂.heap.objs.size) [v] _ _ (λ _ H9=>H9=upd H8 s₂.heap.objs.size (.lst (ys++[v]))) I8 rfl (.cons r8 .nil) ⟨_,ys,v,rfl,rfl,a8,a1,rfl⟩) (λ _ s9 h9=>?_) a7
  obtain⟨_,H9,I9,_,rfl⟩:=h9
  obtain⟨b1,b2,b3⟩:=M I9
  exact⟨G,hm,i+1,j,ys++[v],_,b1,b2,b3,w8⟩
 have ae:∀ {i:Nat} {B:St} {O:Hp} {s3:Shared} {E':Value->Shared->Prop},Inv S [] B O s3->tn i s3.heap->(∀ b∈fp,O b=none)->J.stop i O->Q (.ref s₂.heap.objs.size) O ->
   wpAny (model X.prog X.w) X.A (pyNext (.ref it)) (λ r s4=>r=none/\RR (.ref s₂.heap.objs.size) L.objs.size (.ok .next) s4) E' s3:=by
  intro i B O s3 E' I3 a0 U a3 q
  refine Dp (T.done S rfl rfl rfl hc i [] s3 B O E' I3 (ah rfl U) a0 a3) (λ r s4 hr=>⟨hr.1,?_⟩) λ _ _ z=>z
  have I4:=hr.2
  have IX:Inv X pins σ O s4:=I.Bm I4.os I4.base I4.hok I4.bare λ b F=>⟨(Y b F).2.2.2.1,(Y b F).2.1,(Y b F).2.2.2.2.1,(Y b F).2.2.2.2.2⟩
  obtain⟨G,aC,_⟩:=I4.loc
  exact aA _ _ O s4 G IX aC a6 I4.free q
 let EE:Value->Shared->Prop:=notedBy (model X.prog X.w) X.A S.env λ e s'=>RR (.ref s₂.heap.objs.size) L.objs.size (.error e) s'
 have a5:N m0 { s₂ with heap:=h₁,toks:=s₂.toks+([]:List (Str×Value)).length }:=by
  refine⟨0,_,[],_,J0,T.keep _ _ _ t0 (λ b _ o e=>al b o e),λ b F=>?_,w0⟩
  obtain⟨o,e⟩:=aj b F
  rw[aE (CI (Heap.lt_size e))]
  exact(Y b F).1
 have ad:codeAny (model X.prog X.w) X.A (.compLoop (.ListComp elt [⟨tg,iter,ifs,0⟩] sc pos) 0 (.ref it) (.ref s₂.heap.objs.size) S.env) (RR (.ref s₂.heap.objs.size) L.objs.size) { s₂ with heap:=h₁,toks:=s₂.toks+([]:List (Str×Value)).length }:=by
  rcases ht with ⟨rfl,ht⟩|⟨c,rfl,ht⟩
  ·refine PySem.W.kcp_loop N (λ n s3 hI=>?_) m0 a5
   obtain⟨i,B,ys,O,I3,a0,U,w3⟩:=hI
   rcases af i n B ys O w3 with ⟨a3,q⟩|⟨go,a1,a2⟩
   ·refine Dp (ae I3 a0 U a3 q) (λ r s4 hr=>?_) λ _ _ z=>z
    obtain⟨rfl,hr⟩:=hr
    exact hr
   ·refine Dp (ag I3 a0 U go a2 (λ pl j H6 s6 I6 M q6=>ar (E':=EE) a1 I6 M (by simpa using ht j H6 _ q6))) (λ r s4 hr=>?_) λ _ _ z=>z
    obtain⟨u,rfl,h4⟩:=hr
    exact h4
  ·refine PySem.W.kct_loop N (λ n s3 hI=>?_) m0 a5
   obtain⟨i,B,ys,O,I3,a0,U,w3⟩:=hI
   rcases af i n B ys O w3 with ⟨a3,q⟩|⟨go,a1,a2⟩
   ·refine Dp (ae I3 a0 U a3 q) (λ r s4 hr=>?_) λ _ _ z=>z
    obtain⟨rfl,hr⟩:=hr
    exact hr
   ·refine Dp (ag (R:=λ s6=>wpAny (model X.prog X.w) X.A (isTrue c S.env (eval c S.env)) (λ ak s7=>if ak=true then wpAny (model X.prog X.w) X.A (eval elt S.env) (λ x s8=>wpAny (model X.prog X.w) X.A (call (.builtin "list.append") [.ref s₂.heap.objs.size,x]) (λ _ s9=>∃ m,m<n/\N m s9) EE s8) EE s7 else ∃ m,m<n/\N m s7) EE s6) I3 a0 U go a2 (λ pl j H6 s6 I6 M q6=>Dp (E':=EE) (ht _ s6 j H6 _ I6 q6) (λ ak s7 h7=>?_) a7)) (λ r s4 hr=>?_) λ _ _ z=>z
    ·obtain⟨H7,I7,q7⟩:=h7
     cases ak with
     | false=>
      obtain⟨G,hm,w7⟩:=q7
      obtain⟨b1,b2,b3⟩:=M I7
      exact⟨G,hm,i+1,j,ys,H7,b1,b2,b3,w7⟩
     | true=>exact ar (E':=EE) a1 I7 M q7
    ·obtain⟨u,rfl,h4⟩:=hr
     exact h4
 exact codeAny_compStart_list ad (T.self _ 0 _ _ _ (T.keep _ _ _ t0 (λ b _ o e=>al b o e)) ad)
theorem bR (N':List Str) (k:Nat) (hc:X.calm=true) (hi:PI X tg iter wi)
  (hb:∀ cl C s₂ H2 fp,PG (cA X sc N' cl C s₂ H2 fp) tg g/\PTs (cA X sc N' cl C s₂ H2 fp) ifs tc/\PE (cA X sc N' cl C s₂ H2 fp) elt te)
  (hk:iA X.N X.env.scope sc N' k=true:=by rfl) (hs:∀ x,foldedSetIterable iter X.env x=pure x:=by intro _;rfl) :
  PE X (.ListComp elt [⟨tg,iter,ifs,0⟩] sc pos) (nU wi k g tc te):=by
 intro pins s σ H Q I h
 have ok:=gT.of hk
 obtain⟨cl,e,hcl,hfr⟩:=eh (sc:=sc) (env:=X.env) (λ y hy hf=>I.ok.has y.1 (ok.free y hy hf))
 rw[eval_ListComp]
 refine wpAny_comprehension_free (use:=none) rfl hs e ok.kind ok.names (thn (hi pins s σ H _ I h) λ v s1 h1=>thn h1 λ itv s2 h2=>?_)
 obtain⟨it,fp,tn,J,H2,rfl,I2,T,st2,f2,R⟩:=h2
 refine i4 (RR:=λ acc C=>compPost (model X.prog X.w) X.A X.xe none (EP X pins σ Q) acc C) hc ok hcl hfr hb I2 T st2 f2 R ?_
 intro acc C H' s' m' I' hn hC hfree q
 refine⟨m',hn,λ h'' hs''=>⟨.ref acc,H',?_,rfl,q⟩⟩
 have z:=I2.kD hC hfree
 exact I'.turned (t':=s'.toks) (λ b o hb e=>hs''.extBut b o hb e) hfree z.2.1 z.2.2.2.1 z.2.2.2.2.1 z.2.2.2.2.2
theorem dA (N':List Str) (k:Nat) {i:Nat}{y:Str}{py spos:Pos}(hc:X.calm=true) (hN:X.N.Nodup) (hj:X.N[i]? = some y) (hx:Loc X.env.scope y) (hi:PI X tg iter wi)
  (hb:∀ cl C s₂ H2 fp,PG (cA X sc N' cl C s₂ H2 fp) tg g/\PTs (cA X sc N' cl C s₂ H2 fp) ifs tc/\PE (cA X sc N' cl C s₂ H2 fp) elt te)
  (hsw:swapsWith (.ListComp elt [⟨tg,iter,ifs,0⟩] sc pos) (some (.Name y py)) spos.line X.env=pure true:=by rfl)
  (hk:iA X.N X.env.scope sc N' k=true:=by rfl) (hs:∀ x,foldedSetIterable iter X.env x=pure x:=by intro _;rfl)
  (hf:X.fn y=true\/X.env.scope.names.lookup y=some .local:=by first|exact .inl rfl|exact .inr rfl|assumption) :
  PS X (.Assign [.Name y py] (.ListComp elt [⟨tg,iter,ifs,0⟩] sc pos) spos) (zu (nU wi k g tc te) (ck i)):=by
 intro pins s σ H D I h
 have ok:=gT.of hk
 obtain⟨cl,e,hcl,hfr⟩:=eh (sc:=sc) (env:=X.env) (λ y hy hf=>I.ok.has y.1 (ok.free y hy hf))
 rw[exec_Assign_Name_used _ _ _ _ hsw]
 refine Cq (Fg (Cq ?_))
 show wpAny _ X.A (do let _ <- comprehension (.ListComp elt [⟨tg,iter,ifs,0⟩] sc pos) sc X.env _ (newList []) false (eval iter X.env) (some (assign (.Name y py) X.env))) _ _ s
 refine Cq (Dp (wpAny_comprehension_free (use:=some (assign (.Name y py) X.env)) (Q:=λ _ s'=>SP X pins D .next s') rfl hs e ok.kind ok.names
  (thn (hi pins s σ H _ I h) λ v s1 h1=>thn h1 λ itv s2 h2=>?_)) (λ _ s' hq=>Cu (Cu hq)) λ _ _ e=>e)
 obtain⟨it,fp,tn,J,H2,rfl,I2,T,st2,f2,R⟩:=h2
 refine i4 (RR:=λ acc C=>compPost (model X.prog X.w) X.A X.xe (some (assign (.Name y py) X.env)) (λ _ s'=>SP X pins D .next s') acc C) hc ok hcl hfr hb I2 T st2 f2 R ?_
 intro acc C H' s' m' I' hn hC hfree q
 show wpAny _ X.A (assign (.Name y py) X.env (.ref acc)) _ _ _
 refine wpAny_assign_Name (jW (v:=.ref acc) I' hN hj hx rfl (λ s'' I'' ch=>?_) hf)
 have z:=I2.kD hC hfree
 obtain⟨a,sb,ha⟩:=ch
 have hCa:C≠a:=by
  rcases ha with ha|ha
  ·rw[ha];exact z.2.1
  ·exact Ne.symm (z.2.2.2.2.1 y a ha)
 refine⟨m',hn.sameBut sb hCa,λ h₃ hs₃=>⟨_,H',?_,q⟩⟩
 exact I''.turned (t':=s''.toks) (λ b o hb e=>hs₃.extBut b o hb e) hfree z.2.1 z.2.2.2.1 z.2.2.2.2.1 z.2.2.2.2.2
end
theorem bu.there {P:Program}{w:World}{H:Hp}{h:Heap}{a:Addr}{o:HO}(x:bu P w H h a o):∃ ob,h.get? a=some ob:=by
 cases o with
 | lst xs=>obtain⟨_,_,_,_,e⟩:=x;exact⟨_,e⟩
 | tup xs=>obtain⟨_,_,_,o,e,_⟩:=x;exact⟨_,e⟩
 | dK kvs=>obtain⟨_,_,_,_,o,_,_,e,_⟩:=x;exact⟨_,e⟩
 | dT kvs=>obtain⟨_,_,_,_,o,_,_,e,_⟩:=x;exact⟨_,e⟩
 | set S n=>obtain⟨o,_,_,_,e,_⟩:=x;exact⟨_,e⟩
 | ins C dx fs=>obtain⟨_,_,_,e,_⟩:=x;exact⟨_,e⟩
 | own y=>obtain⟨_,e⟩:=x;exact⟨_,e⟩
 | xd fs=>obtain⟨_,⟨_,_,_,e,_⟩,_⟩:=x;exact⟨_,e⟩
 | rng lo hi=>obtain⟨_,_,_,e⟩:=x;exact⟨_,e⟩
 | frz ob u=>obtain⟨e,_⟩:=x;exact⟨_,e⟩
 | tbl ps=>exact⟨_,(show h.get? a=some _ from x)⟩
 | met f y=>exact⟨_,(show h.get? a=some _ from x)⟩
 | ext φ=>obtain⟨_,e,_⟩:=x;exact e
theorem HOk.there (x:HOk P w H h) (n:H a≠none):∃ j,h.get? a=some j:=by
 cases q:H a with
 | none=>exact absurd q n
 | some u=>exact(x a u q).there
theorem HOk.pJ (x:HOk P w H h) (n:h.get? a=none):H a=none:=by
 cases q:H a with
 | none=>rfl
 | some u=>
  obtain⟨o,e⟩:=(x a u q).there
  rw[n] at e;cases e
noncomputable def Cov (B:Heap) (l:List Env) (H':Hp) (h0 h:Heap):Prop:=∀ b o,h.get? b=some o->b∉frs l->(H' b≠none\/h0.get? b≠none)->B.get? b=some o
structure Air (P:Program) (w:World) (l:List Env) (H:Hp) (s:Shared) (H':Hp) (a:Addr) (cls:Value) (s':Shared):Prop where
 os:s'.os=s.os
 bare:AllBare s'.gens
 un:Un (frs l) [] H H' s.heap s'.heap
 hok:HOk P w H' s'.heap
 new:s.heap.get? a=none
 fly:∃ B a0,Heap.FlyingW B l a cls a0 s'.heap/\Cov B l H' s.heap s'.heap
noncomputable def CXr (P:Program) (w:World):CXT:=λ l H s E e s'=>∃ a cls H',e=.ref a/\Air P w l H s H' a cls s'/\H' a=none/\E cls none H'
noncomputable abbrev ER0:XK:=λ _ _ _=>False
theorem aL:Passes (CXr P w) X ER0:=λ _ _ _ _ _ _ _ h=>by
 obtain⟨_,_,_,_,_,_,z⟩:=h
 exact z.elim
section
variable {P:Program}{w:World}{B:Heap}{l:List Env}{H H':Hp}{h0 h h':Heap}
theorem Un.air (u:Un (frs l) [] H H' h0 h) (hfr:∀ b∈frs l,H b=none) (h0fr:∀ b∈frs l,∃ o,h0.get? b=some o) (cov:Cov B l H' h0 h) (st:B.StaysIn h') (up:h.UpToSlots h') (ff:h.FunFrames B l):Un (frs l) [] H H' h0 h':=by
 have slot:∀ b o,b∈frs l->h.get? b=some o->∃ sl,h'.get? b=some { o with slots:=sl }:=λ b o hb e=>by
  obtain⟨_,o',e',d⟩:=ff.mem hb
  rw[e] at e';cases e'
  exact up b o e d
 have keep:∀ b o,b∉frs l->h0.get? b≠none->h.get? b=some o->h'.get? b=some o:=λ b o hb hn e=>st b o (cov b o e hb (.inr hn))
 refine⟨λ b o e n hb hx=>keep b o hb (by rw[e];simp) (u.keep b o e n hb hx),λ b o e n hb hx=>?_,u.free,λ b o e hx=>?_,u.tups,u.frzs,u.tbls⟩
 ·obtain⟨sl,e1⟩:=u.slot b o e n hb hx
  obtain⟨sl',e2⟩:=slot b _ hb e1
  exact⟨sl',e2⟩
 ·obtain⟨o',e1⟩:=u.there b o e hx
  by_cases hb:b∈frs l
  ·obtain⟨sl,e2⟩:=slot b o' hb e1
   exact⟨_,e2⟩
  ·exact⟨o',keep b o' hb (by rw[e];simp) e1⟩
theorem HOk.air (x:HOk P w H' h) (hfr:∀ b∈frs l,H' b=none) (cov:Cov B l H' h0 h) (st:B.StaysIn h'):HOk P w H' h':=λ a o e=>by
 have k:∀ b u,H' b≠none->h.get? b=some u->h'.get? b=some u:=λ b u n q=>st b u (cov b u q (λ z=>n (hfr b z)) (.inl n))
 refine(x a o e).iH (λ b u hb q=>k b u ?_ q) (λ _ q=>q) λ _ _ q=>q
 rcases hb with rfl|hb
 ·rw[e];simp
 ·rw[hb];simp
end
section
variable {X:Cx}{pins:List (Addr×Obj)}{σ:St}{H H':Hp}{s s':Shared}{a:Addr}{cls:Value}
theorem Inv.i5 (I:Inv X pins σ H s):∀ b∈frs X.stack,∃ o,s.heap.get? b=some o:=λ b hb=>let ⟨_,o,e,_⟩:=I.stack.mem hb;⟨o,e⟩
theorem Air.free (A:Air X.prog X.w X.stack H s H' a cls s') (I:Inv X pins σ H s):∀ b∈frs X.stack,H' b=none:=λ b hb=>by
 obtain⟨o,e⟩:=I.i5 b hb
 exact A.un.free b o e (I.gH b hb) (by simp)
end
section
variable {P:Program}{w:World}{K:PySem.W.Frag}{mg:Str->Option Value}{base:Heap}{N:List Str}{qual:Str}{scope:Scope}{f:Addr}{cd:Value}{A:Around}{outer:List Env}{s₀:Shared}{H₀:Hp}{E:XK}
theorem sI {X:Cx}{pins:List (Addr×Obj)}{σ:St}{H H':Hp}{s s':Shared}{a:Addr}{cls a0:Value}{B h':Heap}(I:Inv X pins σ H s) (hst:X.stack=X.env::X.outer) (hf:X.env.frame=some X.env.locals) (hex:X.ex=[])
  (os:s'.os=s.os) (bare:AllBare s'.gens) (un:Un (frs X.stack) [] H H' s.heap s'.heap) (hok:HOk X.prog X.w H' s'.heap) (new:s.heap.get? a=none) (ff:s'.heap.FunFrames B X.stack)
  (cov:Cov B X.stack H' s.heap s'.heap) (fl:Heap.FlyingW B X.outer a cls a0 h') (up:s'.heap.UpToSlots h'):Air X.prog X.w X.outer X.H₀ X.s₀ H' a cls { s' with heap:=h' }:=by
 have hfree:∀ b∈frs X.stack,H' b=none:=λ b hb=>by
  obtain⟨o,e⟩:=I.i5 b hb
  exact un.free b o e (I.gH b hb) (by simp)
 have sub:∀ b,b∈frs X.stack->b=X.env.locals\/b∈frs X.outer:=λ b hb=>Cz.mp (I.jb b hb)
 have sub':∀ b,b∈frs X.outer->b∈frs X.stack:=λ b hb=>by
  rw[hst];unfold frs;rw[Fm,hf];exact CH _ hb
 have un2:Un (frs X.stack) [] H H' s.heap h':=un.air (λ b hb=>I.gH b hb) I.i5 cov fl.1 up ff
 have base0:=I.base
 rw[hex] at base0
 have neL:∀ b o,X.s₀.heap.get? b=some o->b≠X.env.locals:=λ b o e=>CI (CM (Heap.lt_size e) I.ok.above)
 refine⟨os.trans I.os,bare,⟨λ b o e n hb hx=>?_,λ b o e n hb hx=>?_,λ b o e n hx=>?_,λ b o e hx=>?_,λ b xs e=>un2.tups b xs (base0.tups b xs e),λ b o u e=>un2.frzs b o u (base0.frzs b o u e),λ b ps e=>?_⟩,
  hok.air hfree cov fl.1,?_,B,a0,fl,λ b o e hb hc=>?_⟩
 ·refine un2.keep b o (base0.keep b o e n hb hx) (base0.free b o e n hx) (λ z=>?_) hx
  rcases sub b z with q|q
  ·exact neL b o e q
  ·exact hb q
 ·obtain⟨sl,e1⟩:=base0.slot b o e n hb hx
  obtain⟨sl',e2⟩:=un2.slot b _ e1 (base0.free b o e n hx) (sub' b hb) hx
  exact⟨sl',e2⟩
 ·obtain⟨o',e1⟩:=base0.there b o e hx
  exact un2.free b o' e1 (base0.free b o e n hx) hx
 ·obtain⟨o',e1⟩:=base0.there b o e hx
  exact un2.there b o' e1 hx
 ·obtain⟨m1,e1⟩:=base0.tbls b ps e
  obtain⟨m2,e2⟩:=un2.tbls b _ e1
  exact⟨m1++m2,by rw[e2,Array.append_assoc]⟩
 ·cases q:X.s₀.heap.get? a with
  | none=>rfl
  | some o=>
   obtain⟨o',e1⟩:=base0.there a o q (by simp)
   rw[new] at e1;cases e1
 ·have hb':b∉frs X.stack:=λ z=>by
   rcases sub b z with q|q
   ·subst q
    rcases hc with hc|hc
    ·exact hc (hfree _ z)
    ·cases q:X.s₀.heap.get? X.env.locals with
     | none=>exact hc q
     | some o'=>exact neL _ o' q rfl
   ·exact hb q
  have there:∃ o',s'.heap.get? b=some o':=by
   rcases hc with hc|hc
   ·exact hok.there hc
   ·cases q:X.s₀.heap.get? b with
    | none=>exact absurd q hc
    | some o'=>
     obtain⟨o1,e1⟩:=base0.there b o' q (by simp)
     exact un.there b o1 e1 (by simp)
  obtain⟨o',e'⟩:=there
  have hc':H' b≠none\/s.heap.get? b≠none:=by
   rcases hc with hc|hc
   ·exact .inl hc
   ·cases q:X.s₀.heap.get? b with
    | none=>exact absurd q hc
    | some o'=>
     obtain⟨o1,e1⟩:=base0.there b o' q (by simp)
     exact .inr (by rw[e1];simp)
  have q:=cov b o' e' hb' hc'
  have q':=fl.1 b o' q
  have e':h'.get? b=some o:=e
  rw[q'] at e';cases e'
  exact q
theorem lj {pins:List (Addr×Obj)}{σ:St}{H:Hp}{s s':Shared}{a:Addr}{cls:Value}{vs:List Value}(I:Inv (dR (CXr P w) P w K mg base N qual scope f cd A outer s₀ H₀ E) pins σ H s)
  (os:s'.os=s.os) (gens:s'.gens=s.gens) (hx:Heap.MadeExcOf s.heap s'.heap a cls vs) (q:E cls none H):(dR (CXr P w) P w K mg base N qual scope f cd A outer s₀ H₀ E).xe (.ref a) s':=by
 let X:=dR (CXr P w) P w K mg base N qual scope f cd A outer s₀ H₀ E
 have hB:(PySem.W.hideAll s.heap (frs X.stack)).StaysIn s.heap:=λ b o e=>PySem.W.of_hideAll _ e
 have ff:s.heap.FunFrames (PySem.W.hideAll s.heap (frs X.stack)) X.stack:=PySem.W.funFrames_hide I.stack λ env he b hb=>F5.mpr ⟨env,he,hb⟩
 have ff':s'.heap.FunFrames (PySem.W.hideAll s.heap (frs X.stack)) X.stack:=ff.of_keeps λ b o e _=>⟨o,hx.keeps b o e,rfl⟩
 have hok:HOk X.prog X.w H s'.heap:=I.hok.kept hx.keeps
 have ha:H a=none:=I.hok.pJ hx.new
 show wpAny _ _ (leaving _ _) _ _ _
 refine wpAny_leaves_madeW I.ok.frames rfl hB ff hx λ h' t fl' _ _ up=>?_
 refine⟨a,cls,H,rfl,sI (X:=X) (B:=PySem.W.hideAll s.heap (frs X.stack)) I rfl rfl rfl os (by rw[gens];exact I.bare) (Un.kept hx.keeps) hok hx.new ff' ?_ fl' up,ha,q⟩
 intro b o e hb hc
 have there:∃ o',s.heap.get? b=some o':=by
  rcases hc with hc|hc
  ·exact I.hok.there hc
  ·cases z:s.heap.get? b with
   | none=>exact absurd z hc
   | some o'=>exact⟨o',rfl⟩
 obtain⟨o',e'⟩:=there
 have q':=hx.keeps b o' e'
 have e:s'.heap.get? b=some o:=e
 rw[q'] at e;cases e
 exact PySem.W.hideAll_get _ e' hb
end
section
variable {K:PySem.W.Frag}{h:Heap}{C:Addr}{bmB:List Value}{newId:String}
theorem ua (j:K.In h) (q:PySem.W.excIn K C bmB newId=true) :
  ∃ bm N nm qn bs hd sn sub ab col dd k0 k1 k2 k3 k5 M,h.get? C=some (excClassObj nm qn C N bs bm hd sn sub ab col dd k0 k1 k2 k3 k5 newId)/\h.Ns N M/\M "__init__" = none/\OwnTail h bmB bm:=by
 revert q
 unfold PySem.W.excIn
 split
 ·rename_i dd cd sl F
  split
  ·rename_i C' bm O R p2 S mk U L es
   intro q
   have q:=q
   rw[Dt,Dt,Dt,Dt,Dt] at q
   obtain⟨⟨⟨⟨⟨q1,q2⟩,V⟩,W⟩,J⟩,Y⟩:=q
   obtain rfl:=DY.mp q1
   obtain rfl:=DY.mp q2
   have z:=j _ _ F
   have D:sl = #[O,R,p2,S,some (.builtin mk),U]:=by
    have:=congrArg List.toArray es
    simpa using this
   rw[D] at z
   obtain⟨Z,c2,c3,c4,c5,c6,c7,c8,c9,G,I⟩:=cd
   simp only at L V W J Y z
   subst L
   have e3:I=false:=by simpa using V
   refine⟨bm,c4,Z,c5,c2,c6,c7,c8,c9,G,dd,O,R,p2,S,U,_,?_,.of_isNs (PySem.W.isNs_of_in j J),PySem.W.nsMap_none_of_in j J (DY.mp Y),PySem.W.tail_of_in j W⟩
   rw[z]
   unfold excClassObj
   rw[e3]
  ·intro q;cases q
 ·intro q;cases q
end
noncomputable abbrev uF:List Value:=[.type "ValueError",.type "Exception",.type "BaseException",.type "object"]
noncomputable def tV (K:PySem.W.Frag) (C:Addr):Prop:=PySem.W.excIn K C uF "ValueError.__new__" = true
noncomputable def vO (E:XK) (C:Addr) (t:TA):TS:=λ _ σ H=>t σ H λ vs H1=>vs.length<=100/\E (.ref C) none H1
section
variable {P:Program}{w:World}{K:PySem.W.Frag}{mg:Str->Option Value}{base:Heap}{N:List Str}{qual:Str}{scope:Scope}{f:Addr}{cd:Value}{A:Around}{outer:List Env}{s₀:Shared}{H₀:Hp}{E:XK}
theorem iX (Z:A.handled=none) (Y:Gl (dR (CXr P w) P w K mg base N qual scope f cd A outer s₀ H₀ E) x) (hm:mg x=some (.ref C)) (q:tV K C)
  (U:PA (dR (CXr P w) P w K mg base N qual scope f cd A outer s₀ H₀ E) (e::es) t) (F:(x == ("__debug__" : Str))=false:=by decide)
  (W:starEach (e::es) (dR (CXr P w) P w K mg base N qual scope f cd A outer s₀ H₀ E).env=(false,eval e (dR (CXr P w) P w K mg base N qual scope f cd A outer s₀ H₀ E).env)::starEach es (dR (CXr P w) P w K mg base N qual scope f cd A outer s₀ H₀ E).env:=by rfl)
  (J:(backTo cpos (starEach (e::es) (dR (CXr P w) P w K mg base N qual scope f cd A outer s₀ H₀ E).env)).any (·.1)=false:=by rfl) :
  PS (dR (CXr P w) P w K mg base N qual scope f cd A outer s₀ H₀ E) (.Raise (some (.Call (.Name x np) (e::es) [] cpos)) none pos) (vO E C t):=by
 intro pins s σ H D I h
 obtain⟨bm,O,nm,qn,bs,V,sn,sub,ab,col,dd,k0,k1,k2,k3,k5,mN,R,S,G,M⟩:=ua I.ok.mod.kin q
 refine wpAny_Raise_call_subT (C:=C) (N:=O) (nm:=nm) (q:=qn) (bs:=bs) (bm:=bm) (hdct:=V) (sn:=sn) (sub:=sub) (ab:=ab) (col:=col) (dd:=dd) (k0:=k0) (k1:=k1) (k2:=k2) (k3:=k3) (k5:=k5)
  PySem.F.excBase_ValueError (M.hasType (by decide)) Z J G (gC I Y hm ⟨rfl,?_⟩ F)
 have h2:=U cpos pins s σ H _ I h
 rw[W] at h2 ⊢
 refine Calls.evalArgs_plain (Dp h2 (λ us s2 hq=>?_) λ _ _ z=>z)
 obtain⟨vs,H2,j,r2,L,q2⟩:=hq
 refine⟨rfl,?_,j.bk _ _ R,S.keeps j.bk,M.keeps j.bk,λ h' a hx=>lj j rfl rfl hx q2⟩
 show us.length<=sizeLine
 rw[<- r2.length]
 exact CV L (by decide)
end
section
variable {P:Program}{w:World}{K:PySem.W.Frag}{mg:Str->Option Value}{base:Heap}
theorem Fun.okR {x qual:Str}{st:Stmt}{f:Addr}{fd:FuncData}{N ps:List Str}{k:Nat}{sp:Sp}(F:Fun K x qual st f fd) (S:aQ N ps (aK st)) (G:∀ vs H Q E,sp vs H Q E->vs.length=ps.length)
  (q:∀ (j:Value) (A:Around) (outer:List Env) (s:Shared) (H:Hp) (vs:List V) (Q:VK) (E:XK),A.handled=none->cn k (A.deeper (envOfC qual (aK st) s.heap.objs.size f j))->sp vs H Q E ->
   ∃ t,PSs (dR (CXr P w) P w K mg base N qual (aK st) f j A outer s H E) (cQ st) t/\t { nx:=λ _ H'=>Q .non H',rt:=Q } (start N vs) H):bq P w K mg base (CXr P w) (k+1) f fd ps sp:=by
 obtain⟨W,Y,U,J,Z,O,j,R,M,rfl,L,z⟩:=F.ex
 exact uT L z S G λ A outer s H vs Q E I D=>q j A outer s H vs Q E I.hd I D
theorem Fun.okN {x qual:Str}{st:Stmt}{f:Addr}{fd:FuncData}{N ps:List Str}{k:Nat}{sp:Sp}(F:Fun K x qual st f fd) (S:aQ N ps (aK st)) (I:∀ vs H Q E,sp vs H Q E->vs.length=ps.length)
  (z:∀ (j:Value) (A:Around) (outer:List Env) (s:Shared) (H:Hp) (vs:List V) (Q:VK) (E:XK),cn k (A.deeper (envOfC qual (aK st) s.heap.objs.size f j))->sp vs H Q E ->
   ∃ t,PSs (dR (CXr P w) P w K mg base N qual (aK st) f j A outer s H E).nox (cQ st) t/\t { nx:=λ _ H'=>Q .non H',rt:=Q } (start N vs) H):bq P w K mg base (CXr P w) (k+1) f fd ps sp:=by
 obtain⟨Y,Z,W,J,pm,R,j,U,O,rfl,M,D⟩:=F.ex
 refine uT M D S I λ A outer s H vs Q E L G=>?_
 obtain⟨t,h,q⟩:=z j A outer s H vs Q E L G
 exact⟨t,h.nox,q⟩
end
noncomputable abbrev TX:=St->Hp->VK->XK->Prop
section
variable {X:Cx}{k:Nat}{f C:Addr}{fd:FuncData}{ps:List Str}{sp:Sp}{x m:Str}{p pos apos:Pos}{e o:Expr}{es:List Expr}{ta:TE}{t:TA}
end
noncomputable def vR (a:Addr) (cls:Value):HO:=.ext λ h=>∃ oe vs,h.get? a=some oe/\oe.cls=cls/\oe.data=.fields vs
section
variable {X:Cx}{pins:List (Addr×Obj)}{σ:St}{H:Hp}{s:Shared}{e:Value}
end
section
variable {X:Cx}{pins:List (Addr×Obj)}{σ:St}{Hc H':Hp}{sc s':Shared}{a:Addr}{cls a0:Value}{B h':Heap}
end
section
variable {X:Cx}{e:Expr}{x n:Str}{np p2 pos hpos:Pos}{b₀:Stmt}{suite:List Stmt}{tx:TX}{ts:TS}{c:Value}{i:Nat}
end
open PySem PySem.W PySem.Spec PySem.Calls PyProof.Rows Builtin.Getset_descriptor
section
variable {prog:Program}{w:World}{A:Around}{E:Value->Shared->Prop}{s:Shared}{K:Frag}{x D:Addr}{ox:Obj}
structure mW (K:Frag) (D:Addr):Prop where
 ga:findIn K (.ref D) "__getattribute__" = some (some (.builtin "BaseException.__getattribute__"))
 gb:findIn K (.ref D) "__getattr__" = some none
 ha:findIn K (.ref D) "__class__" = some (some (.builtin "object.__class__"))
 hn:specialIn K (.builtin "object.__class__") "__get__" = some (some (.builtin "getset_descriptor.__get__"))
 htk:takesIn K (.builtin "object.__class__")=some true
 hm:mroIn K D (.type "object")=some true
 hb:mroIn K D (.type "BaseException")=some true
structure ExcAt (h:Heap) (x D:Addr):Prop where
 ex:∃ o vs,h.get? x=some o/\o.cls=.ref D/\o.data=.fields vs
theorem ExcAt.type (I:ExcAt h x D):Looks M h (typeOf (.ref x)) (.ref D):=by
 obtain⟨o,j,e,c,_⟩:=I.ex
 exact c ▸ ((Looks.ld e).andThen .now)
theorem rM (T:mW K D) (j:K.In h):Looks M h (Builtin.ObjectAttr.find (.ref x) (.ref D) "__class__") (.bind (.builtin "getset_descriptor.__get__") (.builtin "object.__class__")):=by
 refine(looks_findIn (M:=M) j T.ha).andThen ((looks_specialIn (M:=M) j T.hn).andThen ?_)
 have q:Looks M h (Builtin.ObjectAttr.dataDescriptor? (some (.builtin "object.__class__")) (some (.builtin "getset_descriptor.__get__"))) (some (.builtin "getset_descriptor.__get__",.builtin "object.__class__")):=
  (looks_takesIn (M:=M) j T.htk).andThen (by rw[CG rfl];exact Looks.now)
 exact q.andThen (Looks.tag .now)
theorem uj (T:mW K D) (j:K.In s.heap) (I:ExcAt s.heap x D) (h:R (.ok (.ret (.ref D))) s) :
  codeAny (model prog w) A (.call (.builtin "getset_descriptor.__get__") ⟨[.builtin "object.__class__",.ref x,tp],[]⟩) R s:=by
 obtain⟨o,O,e,c,G⟩:=I.ex
 obtain⟨J,g,F,t,L⟩:=s
 have q:=I.type (M:=model prog w)
 have z:=looks_mroIn (M:=model prog w) j T.hm
 refine En KF.slot_gs.plain KF.entry_gs (KF.slot_gs.check _ _ _ _ _ _ _ _ KF.type_class (KF.args_gs _ _ _) ?_)
 unfold Builtin.«getset_descriptor.__get__» descrGet
 rw[dga_obj]
 refine Cq (Cu ?_)
 unfold descrGetter descrCheckInstance descrNameAndClass isInstance
 simp only[KF.owner_class]
 repeat lk
 refine⟨Code.quiet_builtin _ (by decide +kernel),Du KF.entry_class ?_⟩
 unfold Builtin.«object.__class__» shownTypeOf
 repeat lk
 exact h
theorem pU {Q:Option Value->Shared->Prop}(T:mW K D) (kin:K.In s.heap) (I:ExcAt s.heap x D) (h:Q (some (.ref D)) { s with toks:=s.toks+1 }):wpAny (model prog w) A (getAttr? (.ref x) "__class__") Q E s:=by
 obtain⟨hh,g,d,t,os⟩:=s
 have look1:=I.type (M:=model prog w)
 have look2:=looks_findIn (M:=model prog w) kin T.ga
 have look3:=looks_findIn (M:=model prog w) kin T.gb
 have look4:Looks (model prog w) hh (isInstance (.ref x) (.type "BaseException")) true:=look1.andThen (looks_mroIn (M:=model prog w) kin T.hb)
 have look5:=rM (M:=model prog w) (x:=x) T kin
 unfold getAttr? getAttrBy? getAttrBy
 refine Cq (wpAny_mkText (Cq (EY (C8 (Cq (look1.at (Cq (look2.at ?_))))))))
 show wpAny _ _ (getAttrByItsOwn _ _ _ _ _ _) _ _ _
 unfold getAttrByItsOwn hookBefore
 refine Cq (look3.at (Cq (EY (C8 ?_))))
 show wpAny _ _ (boundAndCalled _ _ _) _ _ _
 unfold boundAndCalled
 refine Cq (DH (PySem.F.attr_ValueError.ga.bind (.ref x)) (E4 (En PySem.F.attr_ValueError.ga.plain PySem.F.entry_bexc_ga ?_)))
 have kind:builtinKind "BaseException.__getattribute__" = some .slot:=by decide +kernel
 have parts:splitId "BaseException.__getattribute__" = some ("BaseException","__getattribute__"):=by decide +kernel
 simp only[checkBuiltinCall,kind,parts]
 have fits:=PySem.F.args_bexc_ga (.ref x) (.str "__class__" t)
 refine Cq (look4.at ?_)
 simp only[EH,CS,DJ]
 repeat (any_goals (first|assumption|wp_step))
 obtain⟨o,vs,e,c,dt⟩:=I.ex
 refine wpAny_loadPart_at e ?_
 rw[c]
 refine Cu (Cq (look5.at ?_))
 dsimp only
 show wpAny _ _ (holding [Value.builtin "object.__class__"] (call (.builtin "getset_descriptor.__get__") [.builtin "object.__class__",.ref x,.ref D]) >>= ret) _ _ _
 refine Cq (C8 (E4 (uj (s:=⟨hh,g,d,t+1,os⟩) T kin ⟨o,vs,e,c,dt⟩ ?_)))
 exact Cu (Cu (Cu h))
theorem rZ (T:mW K D):KitX K (.ref x) (.ref D) (λ h=>ExcAt h x D) where
 ty:=λ _ _ _ I=>I.type
 it:=λ _ h kin _=>by
  obtain⟨cd,a,_⟩:=Option.bind_eq_some_iff.mp T.hm
  revert a
  unfold clsIn
  split
  ·rename_i look
   intro _ A' Q' E' s' k q
   unfold isType loadHead
   exact Cq (wpAny_loadPart (k _ _ (kin _ _ look)) (Cu q))
  ·intro a;cases a
 ne:=λ h tp dd its n sl kin htp=>by
  obtain⟨cd,a,_⟩:=Option.bind_eq_some_iff.mp T.hm
  refine Bool.eq_false_iff.mpr λ q=>?_
  obtain rfl:D=tp:=Value.ref.inj (DY.mp q)
  revert a
  unfold clsIn
  split
  ·rename_i look
   intro _
   have z:=(kin _ _ look).symm.trans htp
   cases z
  ·intro a;cases a
 ca:=λ kin I k=>pU T kin I k
end
theorem nN (I:Inv X pins σ H s) (e:H a=some (vR a (.ref C))) (T:mW X.K C)
  (k:kitOne X.K (.ref C) c=some b) (h:∀ tk,Q (.bool b) { s with toks:=tk }):wpAny (model X.prog X.w) A (call (.builtin "isinstance") [.ref a,c]) Q E s:=by
 obtain⟨⟨G,J,F,j,q⟩,_⟩:=(show bu X.prog X.w H s.heap a (vR a (.ref C)) from I.hok a _ e)
 exact kia_one (rZ T) I.kIn ⟨G,J,F,j,q⟩ k (λ z=>nomatch z) h
mutual
inductive Rp (K:PySem.W.Frag) (H:Hp):V->PyData->Prop
 | non:Rp K H .non .none
 | bl (b:Bool):Rp K H (.bl b) (.bool b)
 | int (i:Int):Rp K H (.int i) (.int i)
 | str (x:Str):Rp K H (.str x) (.str x)
 | lst {a:Addr} {vs:List V} {ds:List PyData}:SqL K H a vs->cp K H vs ds->Rp K H (.ref a) (.list ds)
 | tup {a:Addr} {vs:List V} {ds:List PyData}:SqT K H a vs->cp K H vs ds->Rp K H (.ref a) (.tuple ds)
inductive cp (K:PySem.W.Frag) (H:Hp):List V->List PyData->Prop
 | nil:cp K H [] []
 | cons {v:V} {vs:List V} {d:PyData} {ds:List PyData}:Rp K H v d->cp K H vs ds->cp K H (v::vs) (d::ds)
end
section
variable {X:Cx}{pins:List (Addr×Obj)}{σ:St}{H:Hp}{s:Shared}
mutual
theorem Rp.reads (I:Inv X pins σ H s):∀ {x:V}{d:PyData}{u:Value},Rp X.K H x d->RelV x u->∃ as,Reads s.heap u d as
 | _,_,u,.non,r=>by cases (show u=Value.none from r);exact⟨_,.none⟩
 | _,_,u,.bl b,r=>by cases (show u=Value.bool b from r);exact⟨_,.bool b⟩
 | _,_,u,.int i,r=>by obtain⟨t,rfl⟩:=(show ∃ t,u=Value.int i t from r);exact⟨_,.int i t⟩
 | _,_,u,.str x,r=>by obtain⟨t,rfl⟩:=(show ∃ t,u=Value.str x t from r);exact⟨_,.str x t⟩
 | _,_,u,@Rp.lst _ _ a vs ds q all,r=>by
  cases (show u=Value.ref a from r)
  obtain⟨its,rv,pl,_⟩:=I.list q
  obtain⟨as,ra⟩:=cp.reads I all rv
  obtain⟨o,n,e,c,_,d⟩:=pl
  exact⟨_,.list e c d (by simpa using ra)⟩
 | _,_,u,@Rp.tup _ _ a vs ds q all,r=>by
  cases (show u=Value.ref a from r)
  obtain⟨its,rv,pl,_⟩:=I.tuple q
  obtain⟨as,ra⟩:=cp.reads I all rv
  obtain⟨o,e,c,n,d⟩:=pl
  exact⟨_,.tuple e c d (by simpa using ra)⟩
theorem cp.reads (I:Inv X pins σ H s):∀ {xs:List V}{ds:List PyData}{us:List Value},cp X.K H xs ds->Vals xs us->∃ as,ReadsAll s.heap us ds as
 | _,_,_,.nil,.nil=>⟨_,.nil⟩
 | _,_,_,.cons p ps,.cons r rs=>by
  obtain⟨as,h1⟩:=Rp.reads I p r
  obtain⟨bs,h2⟩:=cp.reads I ps rs
  exact⟨_,.cons h1 h2⟩
end
end
noncomputable def sV (K:PySem.W.Frag) (neg:Bool):R2:=λ x y H Q=>∃ d e,Rp K H x d/\Rp K H y e/\SeqAt.shaped d=true/\SeqAt.shaped e=true/\Q (.bl (if neg then !PyData.eqv d e else PyData.eqv d e)) H
section
variable {X:Cx}
theorem we (j:X.A.units+64<cLine):OpR X (compareOp .Eq) (sV X.K false):=by
 intro pins s σ H x y v u Q I L M h
 obtain⟨d,e,z,F,O,R,q⟩:=h
 obtain⟨_,G⟩:=z.reads I L
 obtain⟨_,J⟩:=F.reads I M
 exact eq_dataH G J O R j ⟨.bl (PyData.eqv d e),H,I,rfl,q⟩
theorem vY (j:X.A.units+64<cLine):OpR X (compareOp .NotEq) (sV X.K true):=by
 intro pins s σ H x y v u Q I L M h
 obtain⟨d,e,z,F,O,R,q⟩:=h
 obtain⟨_,G⟩:=z.reads I L
 obtain⟨_,J⟩:=F.reads I M
 exact ne_dataH G J O R j ⟨.bl (!PyData.eqv d e),H,I,rfl,q⟩
inductive TyX (K:PySem.W.Frag) (H:Hp):V->Value->Prop
 | plain {x:V} {t:Value}:gY K H x t->TyX K H x t
 | exc {a C:Addr}:H a=some (vR a (.ref C))->mW K C->TyX K H (.ref a) (.ref C)
noncomputable def wg (K:PySem.W.Frag):List V->Hp->VK->Prop:=λ xs H Q=>match xs with
 | [x,.ty T]=>∃ t b,TyX K H x t/\PySem.W.kitOne K t (.type T)=some b/\Q (.bl b) H
 | [x,.ref C]=>∃ t b,TyX K H x t/\PySem.W.kitOne K t (.ref C)=some b/\Q (.bl b) H
 | _=>False
theorem ly:cq X (.builtin "isinstance") (wg X.K):=by
 intro pins s σ H xs M Q I r h
 have L:∀ {x:V} {z c t:Value} {b:Bool},RelV x z->TyX X.K H x t->PySem.W.kitOne X.K t c=some b->Q (.bl b) H->wpAny (model X.prog X.w) X.A (call (.builtin "isinstance") [z,c]) (EP X pins σ Q) X.xe s:=by
  intro x z c t b j ty k q
  have F:∀ tk,EP X pins σ Q (.bool b) { s with toks:=tk }:=λ tk=>⟨.bl b,H,I.tok tk,rfl,q⟩
  cases ty with
  | plain ty=>exact pL I j ty k F
  | exc e T=>
   cases (show z=Value.ref _ from j)
   exact nN I e T k F
 unfold wg at h
 split at h
 ·obtain⟨t,b,ty,k,q⟩:=h
  obtain⟨z,J,rfl,j,G⟩:=vals2 r
  cases (show J=Value.type _ from G)
  exact L j ty k q
 ·obtain⟨t,b,ty,k,q⟩:=h
  obtain⟨z,J,rfl,j,G⟩:=vals2 r
  cases (show J=Value.ref _ from G)
  exact L j ty k q
 ·exact h.elim
theorem jZ (q:Gl X x) (h:∃ t,X.mg x=some (.int i t)) (j:(x == ("__debug__" : Str))=false:=by decide):PE X (.Name x pos) (tC (.int i)):=by
 obtain⟨t,h⟩:=h
 exact uz q h ⟨t,rfl⟩ j
theorem eP (K) (t):PySem.W.kitOne K t t=some true:=by
 unfold PySem.W.kitOne
 rw[CG (FE t)]
structure sZ (K:PySem.W.Frag) (C:Addr):Prop where
 ha:PySem.W.findIn K (.ref C) "__class__" = some (some (.builtin "object.__class__"))
 hn:PySem.W.specialIn K (.builtin "object.__class__") "__get__" = some (some (.builtin "getset_descriptor.__get__"))
 ht:PySem.W.takesIn K (.builtin "object.__class__")=some true
 hm:PySem.W.mroIn K C (.type "object")=some true
end
structure MkO (K:PySem.W.Frag) (C:Addr):Prop where
 makes:PySem.W.makesIn K C=true
 init:PySem.W.findIn K (.ref C) "__init__" = some (some (.builtin "object.__init__"))
 kp:PySem.W.keepIn K (.ref C)=true
noncomputable def vJ (C:Addr):TE:=λ _ H Q=>∀ x dx,H x=none->H dx=none->dx≠x->Q (.ref x) (upd (upd H dx (.own x)) x (.ins C dx []))
section
variable {X:Cx}{C:Addr}{x:Str}{p pos:Pos}
theorem kZ (M:MkO X.K C) (R:Gl X x) (S:X.mg x=some (.ref C)) (G:(x == ("__debug__" : Str))=false:=by decide):PE X (.Call (.Name x p) [] [] pos) (vJ C):=by
 intro pins s σ H Q I h
 refine Ef (gC I R S ?_ G)
 refine PySem.W.callWith_K0 I.kIn M.kp ?_
 have O:=Inv.made (C:=C) I
 have U:=h (s.heap.objs.size+1) s.heap.objs.size (I.hok.fresh (Ex _)) (I.hok.fresh (Nat.le_refl _)) (CI (D4 _))
 refine E4 (pW I.kIn M.makes M.init (λ z=>PySem.W.Looks.of_pure (PySem.W.oi_bind z)) ?_)
 obtain⟨j,g,d,t,V⟩:=s
 have F:((j.push PySem.W.emptyDict).push (PySem.W.instObj C j.objs.size)).get? (j.objs.size+1)=some (PySem.W.instObj C j.objs.size):=by
  have:=Heap.get?_push_size (j.push PySem.W.emptyDict) (o:=PySem.W.instObj C j.objs.size) rfl
  rwa [Heap.size_push] at this
 have q:PySem.W.Looks (model X.prog X.w) ((j.push PySem.W.emptyDict).push (PySem.W.instObj C j.objs.size)) (typeOf (.ref (j.objs.size+1))) (.ref C):=(PySem.W.Looks.ld F).andThen .now
 have L:=(Gk (M:=model X.prog X.w) I.kIn M.makes).top
 have J:PySem.W.Looks (model X.prog X.w) ((j.push PySem.W.emptyDict).push (PySem.W.instObj C j.objs.size)) (isInstance (.ref (j.objs.size+1)) (.type "object")) true:=
  q.andThen (L.keeps λ b o e=>Heap.get?_push_of_some _ (Heap.get?_push_of_some _ e))
 refine En PySem.W.oi_plain PySem.W.entry_oi (@PySem.W.check_slot (model X.prog X.w) _ _ _ _ _ _ _ [] [] _ PySem.W.oi_kind PySem.W.oi_split J (PySem.W.oi_args _) ?_)
 rw[PySem.W.oi_run]
 exact Cu ⟨rfl,.ref (j.objs.size+1),_,O,rfl,U⟩
end
section
variable {X:Cx}{K:PySem.W.Frag}{a b e o value l:Expr}{es:List Expr}{f name:Str}{pos pos' apos cpos:Pos}{ta tb tv tl to:TE}{t:TA}{tg:Expr}
theorem aO (z:PE X e ta) (q:attributeBase e f X.env (eval e X.env)=eval e X.env) (j:X.K=K:=by rfl):PE X (.Attribute e f pos) (lS K ta f):=j ▸ wW z q
theorem bg (q:PE X o ta) (z:PE X value tv) (hs:swapsWith value (some (.Attribute o f pos')) pos.line X.env=pure false) (j:X.K=K:=by rfl):PS X (.Assign [.Attribute o f pos'] value pos) (wt K ta tv f):=j ▸ wL q z hs
theorem bP (q:PE X l tl) (j:X.K=K:=by rfl):PI X tg l (oH K tl):=j ▸ tP q
theorem t8 (q:PE X l tl) (j:X.K=K:=by rfl):PI X tg l (BX K tl):=j ▸ wY q
theorem br (j:X.K=K:=by rfl):IxR X (rR K):=j ▸ ur
theorem bz (j:X.K=K:=by rfl):IxR X (wD K):=j ▸ wV
theorem mj (j:X.K=K:=by rfl):SlR X (xO K):=j ▸ tY
theorem qz (j:X.K=K:=by rfl):OpR X (compareOp .In) (rIn K false):=j ▸ pj
theorem fJ (j:X.K=K:=by rfl):OpR X (compareOp .NotIn) (rIn K true):=j ▸ kG
noncomputable def Cb (K:PySem.W.Frag):List V->Hp->VK->Prop:=λ xs H Q=>∃ p ys,xs=[.ref p]/\(SqL K H p ys\/SqT K H p ys)/\Q (.int ys.length) H
theorem dh (j:X.K=K:=by rfl):cq X (.builtin "len") (Cb K):=j ▸ kO
noncomputable def ug (K:PySem.W.Frag):List V->Hp->VK->Prop:=λ xs H Q=>∃ p ys,xs=[.ref p]/\(SqL K H p ys\/SqT K H p ys)/\∀ l,H l=none->Q (.ref l) (upd H l (.lst ys))
theorem my (j:X.K=K:=by rfl):cq X (.type "list") (ug K):=j ▸ kF
noncomputable def qK (K:PySem.W.Frag):List V->Hp->VK->Prop:=λ xs H Q=>∃ p ys,xs=[.ref p]/\((SqL K H p ys/\∀ l,H l=none->Q (.ref l) (upd H l (.tup ys)))\/(SqT K H p ys/\Q (.ref p) H))
theorem lC (j:X.K=K:=by rfl):cq X (.type "tuple") (qK K):=j ▸ jo
theorem tS (q:X.A.units+64<cLine) (j:X.K=K:=by rfl):OpR X (compareOp .Eq) (sV K false):=j ▸ we q
theorem ue (q:X.A.units+64<cLine) (j:X.K=K:=by rfl):OpR X (compareOp .NotEq) (sV K true):=j ▸ vY q
theorem cZ (j:X.K=K:=by rfl):cq X (.builtin "isinstance") (wg K):=j ▸ ly
theorem cK (z:X.calm=true) (h:PGs X es u) (F:(assignEach es X.env).length=n:=by rfl) (j:(assignEach es X.env).findIdx? (·.1)=none:=by rfl) (q:X.K=K:=by rfl):PG X (.Tuple es k pos) (zP K n u):=q ▸ vI z h F j
noncomputable def Ca (K:PySem.W.Frag) (ta:TE):TT:=λ σ H Q=>ta σ H λ x H'=>∃ k,wz K x H' k/\Q k H'
theorem pX (ha:PE X a ta) (he:∀ whole,isTrue a X.env whole=(do let v <- whole;standAt a.pos;holding [v] (truthy v))) (hK:X.K=K:=by rfl):PT X a (Ca K ta):=hK ▸ rX ha he
variable {T id:String}{r:V->List V->Hp->VK->Prop}
theorem oW (L:PlainAttrs T) (z:Slot T name id) (F:typeOf (.builtin id)=pure (.type "method_descriptor")) (I:MtR X id r) (J:PE X o to)
  (j:attributeBase o name X.env (eval o X.env)=eval o X.env:=by rfl) (q:(apos.endLine == cpos.line)=true:=by rfl) (G:X.K=K:=by rfl):PE X (.Call (.Attribute o name apos) [] [] cpos) (zZ K T r to):=G ▸ w5 L z F I J j q
theorem cW (R:PlainAttrs T) (G:Slot T name id) (I:typeOf (.builtin id)=pure (.type "method_descriptor")) (M:MtR X id r) (O:PE X o to) (L:PA X (e::es) t)
  (q:attributeBase o name X.env (eval o X.env)=eval o X.env:=by rfl)
  (F:((backTo cpos (starEach (e::es) X.env)).all (λ x=>!x.1) && (backToKw cpos (keywordEach [] X.env)).all (λ x=>x.1.isSome)
   && decide ((e::es).length+([]:List Keyword).length+(if ([]:List Keyword).isEmpty then 0 else 1)<30))=true:=by rfl)
  (z:(apos.endLine == cpos.line)=true:=by rfl) (hs:starEach (e::es) X.env=(false,eval e X.env)::starEach es X.env:=by rfl) (j:(backTo cpos (starEach es X.env)).any (·.1)=false:=by rfl) (J:X.K=K:=by rfl) :
  PE X (.Call (.Attribute o name apos) (e::es) [] cpos) (tBM K T r to t):=J ▸ BO R G I M O L q F z hs j
end
theorem bT {k:Bool}{A B:Prop}(h:k=false) (j:B):if k=true then A else B:=by rw[h];exact dQ j
theorem du {k:Bool}{A B:Prop}(h:k=true) (j:A):if k=true then A else B:=by rw[h];exact cX j
theorem aM.new (h:H p=none):aM H (upd H p o):=λ b u e=>by rw[aE (aF e h)];exact e
theorem aM.tup {K:PySem.W.Frag}{H H':Hp}{a:Addr}{xs:List V}(e:aM H H') (h:SqT K H a xs):SqT K H' a xs:=by
 rcases h with (h|⟨o,h⟩)|h
 ·exact .inl (.inl (e _ _ h))
 ·exact .inl (.inr ⟨o,e _ _ h⟩)
 ·exact .inr h
mutual
theorem Rp.same {K:PySem.W.Frag}{H H':Hp}(e:aM H H'):∀ {v:V}{d:PyData},Rp K H v d->Rp K H' v d
 | _,_,.non=>.non
 | _,_,.bl b=>.bl b
 | _,_,.int i=>.int i
 | _,_,.str x=>.str x
 | _,_,.lst q a=>.lst (e.seq q) (cp.same e a)
 | _,_,.tup q a=>.tup (e.tup q) (cp.same e a)
theorem cp.same {K:PySem.W.Frag}{H H':Hp}(e:aM H H'):∀ {vs:List V}{ds:List PyData},cp K H vs ds->cp K H' vs ds
 | _,_,.nil=>.nil
 | _,_,.cons p ps=>.cons (p.same e) (cp.same e ps)
end
mutual
noncomputable def noDict:PyData->Bool
 | .none=>true
 | .bool _=>true
 | .int _=>true
 | .str _=>true
 | .list xs=>noDicts xs
 | .tuple xs=>noDicts xs
 | .dict _=>false
noncomputable def noDicts:List PyData->Bool
 | []=>true
 | x::xs=>noDict x && noDicts xs
end
mutual
theorem jd:∀ {d:PyData},noDict d=true->PyData.eqv d d=true
 | .none,_=>by simp[PyData.eqv]
 | .bool _,_=>by simp[PyData.eqv]
 | .int _,_=>by simp[PyData.eqv]
 | .str _,_=>by simp[PyData.eqv]
 | .list xs,h=>by rw[PyData.eqv];exact fC (by simpa [noDict] using h)
 | .tuple xs,h=>by rw[PyData.eqv];exact fC (by simpa [noDict] using h)
 | .dict _,h=>by simp[noDict] at h
theorem fC:∀ {ds:List PyData},noDicts ds=true->PyData.eqvAll ds ds=true
 | [],_=>by simp[PyData.eqvAll]
 | x::xs,h=>by
  rw[noDicts,Dt] at h
  rw[PyData.eqvAll,jd h.1,fC h.2]
  rfl
end
theorem aM.ins (q:H x=none) (j:H dx=none):aM H (upd (upd H dx (.own x)) x o):=λ b u e=>by
 rw[aE (aF e q),aE (aF e j)];exact e
end L2
namespace SetT
open PySem PySem.SetTable
noncomputable def lcg (M x:Nat):Nat:=(x*5+1)%M
noncomputable def orb (M:Nat):Nat->Nat->Nat
 | 0,x=>x
 | n+1,x=>orb M n (lcg M x)
theorem iy (M):∀ (a b x:Nat),orb M (a+b) x=orb M b (orb M a x)
 | 0,b,x=>by rw[ER];rfl
 | a+1,b,x=>by rw[Nat.add_right_comm];exact iy M a b (lcg M x)
noncomputable def uk (M:Nat):Nat->Nat->List Nat
 | 0,_=>[]
 | n+1,x=>x::uk M n (lcg M x)
theorem lL:∀ {n x y:Nat},y∈uk M n x->∃ a,a<n/\orb M a x=y
 | 0,_,_,h=>by simp[uk] at h
 | n+1,x,y,h=>by
  rcases Cz.mp h with rfl|h
  ·exact⟨0,by lia,rfl⟩
  ·obtain⟨a,j,e⟩:=lL h
   exact⟨a+1,by lia,e⟩
noncomputable def hR (M:Nat):Bool:=((List.range M).all λ y=>(uk M M 0).contains y) && orb M M 0 == 0
theorem cover (h:hR M=true) (J:x<M) (L:y<M):∃ n,n<M/\orb M n x=y:=by
 unfold hR at h
 rw[Dt,D6,DY] at h
 obtain⟨all,q⟩:=h
 have j:∀ z,z<M->∃ a,a<M/\orb M a 0=z:=λ z O=>lL (by simpa using all z (Eg.mpr O))
 obtain⟨a,R,F⟩:=j x J
 obtain⟨b,S,G⟩:=j y L
 by_cases I:a<=b
 ·refine⟨b-a,by lia,?_⟩
  rw[<- F,<- iy,show a+(b-a)=b by lia]
  exact G
 ·refine⟨b+M-a,by lia,?_⟩
  rw[<- F,<- iy,show a+(b+M-a)=M+b by lia,iy,q]
  exact G
inductive Pow:Nat->Prop
 | p8:Pow 8
 | p16:Pow 16
 | p32:Pow 32
 | p64:Pow 64
 | p128:Pow 128
 | p256:Pow 256
theorem Pow.round (h:Pow M):hR M=true:=by cases h<;>decide +kernel
theorem Pow.pos (h:Pow M):8<=M/\M<=256:=by cases h<;>decide
noncomputable def at_ (mask:Nat):Nat->Nat->Nat->Nat×Nat
 | 0,i,p=>(i,p)
 | s+1,i,p=>at_ mask s (leap mask i p).1 (leap mask i p).2
theorem rb (mask):∀ (a b i p:Nat),at_ mask (a+b) i p=at_ mask b (at_ mask a i p).1 (at_ mask a i p).2
 | 0,b,i,p=>by rw[ER];rfl
 | a+1,b,i,p=>by rw[Nat.add_right_comm];exact rb mask a b _ _
theorem oz (mask):∀ (s i p:Nat),(at_ mask s i p).2=p/32 ^ s
 | 0,i,p=>by simp[at_]
 | s+1,i,p=>by
  show (at_ mask s (leap mask i p).1 (leap mask i p).2).2=_
  rw[oz mask s]
  show p/32/32 ^ s=_
  rw[Nat.div_div_eq_div_mul,Nat.pow_succ,Nat.mul_comm]
theorem rz {mask:Nat}:∀ (s i:Nat),i<mask+1->(at_ mask s i 0).1=orb (mask+1) s i
 | 0,i,_=>rfl
 | s+1,i,h=>by
  show (at_ mask s (leap mask i 0).1 (leap mask i 0).2).1=_
  have e:leap mask i 0=(lcg (mask+1) i,0):=by
   unfold leap lcg
   simp
  rw[e]
  exact rz s _ (F3 _ (by lia))
theorem rL {mask:Nat}:∀ (s i p:Nat),i<mask+1->(at_ mask s i p).1<mask+1
 | 0,i,p,h=>h
 | s+1,i,p,h=>rL s _ _ (F3 _ (by lia))
theorem reach {mask i p f:Nat}(j:Pow (mask+1)) (hi:i<mask+1) (F:p<2 ^ 64) (q:f<mask+1):∃ s,s<turns mask/\(at_ mask s i p).1=f:=by
 obtain⟨n,G,e⟩:=cover j.round (rL 13 i p hi) q
 refine⟨13+n,by unfold turns;lia,?_⟩
 rw[rb]
 have z:(at_ mask 13 i p).2=0:=by
  rw[oz]
  exact Nat.div_eq_of_lt (CM F (by decide))
 rw[z,rz _ _ (rL 13 i p hi)]
 exact e
theorem jH {mask:Nat}{owner:Array (Option Nat)}:∀ {fuel i p:Nat},layClean.free mask owner fuel i p=none->∀ s,s<fuel->owner.getD (at_ mask s i p).1 (some 0)≠none
 | 0,_,_,_,s,j=>by lia
 | fuel+1,i,p,h,s,j=>by
  unfold layClean.free at h
  split at h
  ·cases h
  ·rename_i q
   cases s with
   | zero=>
    intro z
    have:=List.find?_eq_none.mp q 0 (Eg.mpr (by unfold runEnd;split<;>lia))
    rw[Nat.add_zero] at this
    have F:owner.getD i (some 0)=none:=z
    rw[F] at this
    exact this rfl
   | succ s=>exact jH (fuel:=fuel) h s (by lia)
theorem jA {mask:Nat}{owner:Array (Option Nat)}:∀ {fuel i p j:Nat},layClean.free mask owner fuel i p=some j->owner.getD j (some 0)=none
 | 0,_,_,_,h=>by simp[layClean.free] at h
 | fuel+1,i,p,j,h=>by
  unfold layClean.free at h
  split at h
  ·rename_i k q
   cases h
   have:=List.find?_some q
   simpa using this
  ·exact jA (fuel:=fuel) h
theorem tu {mask:Nat}{owner:Array (Option Nat)}{i p f:Nat}(F:Pow (mask+1)) (hi:i<mask+1) (I:p<2 ^ 64) (G:f<mask+1) (e:owner[f]? = some none):∃ j,layClean.free mask owner (turns mask) i p=some j/\owner[j]? = some none:=by
 cases q:layClean.free mask owner (turns mask) i p with
 | none=>
  obtain⟨s,J,es⟩:=reach F hi I G
  have:=jH q s J
  rw[es] at this
  exact absurd (by rw[EM,e];rfl) this
 | some j=>
  refine⟨j,rfl,?_⟩
  have:=jA q
  rw[EM] at this
  cases z:owner[j]? with
  | none=>rw[z] at this;cases this
  | some o=>rw[z] at this;rw[show o=none from this]
theorem rB:∀ (l:List (Option Nat)) (j v:Nat),l[j]? = some none->((l.set j (some v)).filterMap id).Perm (v::l.filterMap id)
 | [],j,v,h=>by simp at h
 | x::l,0,v,h=>by
  have:x=none:=by simpa using h
  subst this
  simp
 | x::l,j+1,v,h=>by
  have q:=rB l j v (by simpa using h)
  cases x with
  | none=>simpa using q
  | some y=>
   show (y::(l.set j (some v)).filterMap id).Perm (v::y::l.filterMap id)
   exact(q.cons y).trans (List.Perm.swap v y _)
theorem nP:∀ (l:List (Option Nat)),(l.filterMap id).length<l.length->∃ j,j<l.length/\l[j]? = some none
 | [],h=>by simp at h
 | none::l,_=>⟨0,by simp,rfl⟩
 | some y::l,h=>by
  obtain⟨j,q,e⟩:=nP l (by simpa using h)
  exact⟨j+1,by simpa using q,by simpa using e⟩
theorem lV {mask:Nat}(hM:Pow (mask+1)):∀ (hs:List Int) (owner:Array (Option Nat)) (k:Nat),owner.size=mask+1->(owner.toList.filterMap id).Perm (List.range k)->k+hs.length<=mask ->
  ∃ owner',hs.foldl (λ(acc:Option (Array (Option Nat)×Nat)) h=>do
    let (owner,k) <- acc
    let j <- layClean.free mask owner (turns mask) (bits h%(mask+1)) (bits h)
    pure (owner.setIfInBounds j (some k),k+1)) (some (owner,k))=some (owner',k+hs.length)/\owner'.size=mask+1/\(owner'.toList.filterMap id).Perm (List.range (k+hs.length))
 | [],owner,k,hs,hp,_=>⟨owner,rfl,hs,hp⟩
 | h::hs,owner,k,hsz,hp,hk=>by
  have hlen:(owner.toList.filterMap id).length<owner.toList.length:=by
   rw[hp.length_eq,EK,CK,hsz]
   simp only[Dh] at hk
   lia
  obtain⟨f,hf,ef⟩:=nP _ hlen
  obtain⟨j,ej,fj⟩:=tu (mask:=mask) (owner:=owner) (i:=bits h%(mask+1)) (p:=bits h) (f:=f) hM (F3 _ (by lia))
   (by unfold bits;have:=DE h (b:=2 ^ 64) (by decide);have:=DU h (b:=2 ^ 64) (by decide);lia) (by rw[CK,hsz] at hf;exact hf) (by rw[<- C7];exact ef)
  have step:(do
    let (owner,k) <- some (owner,k)
    let j <- layClean.free mask owner (turns mask) (bits h%(mask+1)) (bits h)
    pure (owner.setIfInBounds j (some k),k+1):Option (Array (Option Nat)×Nat))=some (owner.setIfInBounds j (some k),k+1):=by
   show (layClean.free mask owner (turns mask) (bits h%(mask+1)) (bits h)).bind _=_
   rw[ej]
   rfl
  rw[List.foldl_cons,step]
  have hp':((owner.setIfInBounds j (some k)).toList.filterMap id).Perm (List.range (k+1)):=by
   rw[Array.toList_setIfInBounds]
   refine(rB _ j k (by rw[C7];exact fj)).trans ?_
   rw[Gs]
   exact(hp.cons k).trans (List.perm_append_singleton k _).symm
  obtain⟨o',e',s',p'⟩:=lV hM hs (owner.setIfInBounds j (some k)) (k+1) (by rw[Array.size_setIfInBounds];exact hsz) hp' (by simp only[Dh] at hk;lia)
  refine⟨o',?_,s',?_⟩
  ·rw[e'];simp only[Dh];congr 2;lia
  ·rw[show k+(h::hs).length=k+1+hs.length by simp only[Dh];lia];exact p'
theorem lU {mask:Nat}(j:Pow (mask+1)) {hs:Array Int}(F:hs.size<=mask):∃ owner,layClean mask hs=some owner/\owner.size=mask+1/\(owner.toList.filterMap id).Perm (List.range hs.size):=by
 have z:((Array.replicate (mask+1) (none:Option Nat)).toList.filterMap id).Perm (List.range 0):=by
  rw[Array.toList_replicate]
  have:∀ n,((List.replicate n (none:Option Nat)).filterMap id)=[]:=by
   intro n;induction n with
   | zero=>rfl
   | succ n q=>rw[List.replicate_succ];simpa using q
  rw[this]
  exact List.Perm.refl _
 obtain⟨o,e,s,p⟩:=lV j hs.toList (Array.replicate (mask+1) none) 0 (by simp) z (by rw[CK];lia)
 rw[ER,CK] at e p
 refine⟨o,?_,s,p⟩
 unfold layClean
 rw[<- Array.foldl_toList,e]
 rfl
structure fX (t:SetTable) (n:Nat):Prop where
 size:t.place.size=n
 up:t.place.toList.Pairwise (· < ·)
 clean:t.dummies = #[]
 few:n<=t.mask
theorem fX.fits (r:fX t n):t.fits n=true:=by
 unfold SetTable.fits fill
 rw[r.size,r.clean]
 simp[r.few]
theorem nZ {mask finger moves:Nat}{led plain:Bool}(R:Pow (mask+1)) {hs:Array Int}(O:hs.size<=mask):∃ t F,laid mask finger moves led plain hs=some (t,F)/\fX t hs.size/\t.mask=mask/\t.led=led/\t.plain=plain/\F.toList.Perm (List.range hs.size):=by
 obtain⟨z,e,V,p⟩:=lU R O
 have G:((List.range (mask+1)).filterMap λ j=>(z.getD j none).map (j,·)).map (·.2)=z.toList.filterMap id:=by
  rw[List.map_filterMap]
  have:(λ j=>((z.getD j none).map ((j:Nat),·)).map (·.2))=λ j=>id (z.getD j none):=by
   funext j
   cases z.getD j none<;>rfl
  rw[this]
  show List.filterMap (id ∘ λ j=>z.getD j none) _=_
  rw[<- List.filterMap_map]
  congr 1
  apply List.ext_getElem
  ·simp[V]
  ·intro i h1 h2
   simp[EM] 
   rw[C4 (by simpa using h2)]
   rfl
 have L:(((List.range (mask+1)).filterMap λ j=>(z.getD j none).map (j,·)).map (·.1)).Pairwise (· < ·):=by
  rw[List.map_filterMap,List.pairwise_filterMap]
  refine(List.pairwise_lt_range (n:=mask+1)).imp λ{a b} h x I y J=>?_
  have S:x=a:=by
   cases q:z.getD a none with
   | none=>rw[q] at I;cases I
   | some v=>rw[q] at I;exact(Option.some.inj I).symm
  have U:y=b:=by
   cases q:z.getD b none with
   | none=>rw[q] at J;cases J
   | some v=>rw[q] at J;exact(Option.some.inj J).symm
  rw[S,U];exact h
 have M:((List.range (mask+1)).filterMap λ j=>(z.getD j none).map (j,·)).length=hs.size:=by
  have:=congrArg List.length G
  rw[Cy,p.length_eq,EK] at this
  exact this
 unfold laid
 rw[e]
 refine⟨_,_,rfl,⟨?_,?_,rfl,O⟩,rfl,rfl,rfl,?_⟩
 ·simpa using M
 ·simpa using L
 ·show (((List.range (mask+1)).filterMap λ j=>(z.getD j none).map (j,·)).map (·.2)).toArray.toList.Perm _
  rw[List.toList_toArray,G]
  exact p
theorem kJ {xs:Array Nat}(h:xs.toList.Pairwise (· < ·)) {i k:Nat}{x y:Nat}(j:i<k) (hi:xs[i]? = some x) (q:xs[k]? = some y):x<y:=by
 rw[<- C7] at hi q
 obtain⟨h1,z⟩:=Cr.mp hi
 obtain⟨h2,F⟩:=Cr.mp q
 have:=ET.mp h i k h1 h2 j
 rw[z,F] at this
 exact this
theorem i6 {xs:Array Nat}(h:xs.toList.Pairwise (· < ·)) {j:Nat}:∀ (fuel lo hi:Nat),hi-lo<=fuel->lo<=hi->hi<=xs.size->(∀ i x,i<lo->xs[i]? = some x->x<j)->(∀ i x,hi<=i->xs[i]? = some x->j<=x) ->
  below.go xs j fuel lo hi<=xs.size/\(∀ i x,i<below.go xs j fuel lo hi->xs[i]? = some x->x<j)/\∀ i x,below.go xs j fuel lo hi<=i->xs[i]? = some x->j<=x
 | 0,lo,hi,hf,M,J,h1,h2=>by
  have e:lo=hi:=by lia
  subst e
  exact⟨J,h1,h2⟩
 | fuel+1,lo,hi,hf,M,J,h1,h2=>by
  unfold below.go
  by_cases G:lo<hi
  ·rw[CG G]
   have O:(lo+hi)/2<xs.size:=by lia
   have F:xs[(lo+hi)/2]? = some xs[(lo+hi)/2]:=C4 O
   have I:xs.getD ((lo+hi)/2) j=xs[(lo+hi)/2]:=by rw[EM,F];rfl
   by_cases z:xs.getD ((lo+hi)/2) j<j
   ·rw[CG z]
    refine i6 h fuel _ _ (by lia) (by lia) J (λ i x L e=>?_) h2
    by_cases q:i=(lo+hi)/2
    ·subst q;rw[F] at e;cases e;rw[I] at z;exact z
    ·have:=kJ h (show i<(lo+hi)/2 by lia) e F
     rw[I] at z;lia
   ·rw[CD z]
    refine i6 h fuel _ _ (by lia) (by lia) (by lia) h1 λ i x L e=>?_
    by_cases q:i=(lo+hi)/2
    ·subst q;rw[F] at e;cases e;rw[I] at z;lia
    ·have:=kJ h (show (lo+hi)/2<i by lia) F e
     rw[I] at z;lia
  ·rw[CD G]
   have e:lo=hi:=by lia
   subst e
   exact⟨J,h1,h2⟩
theorem eD (h:xs.toList.Pairwise (· < ·)) (j):below xs j<=xs.size/\(∀ i x,i<below xs j->xs[i]? = some x->x<j)/\∀ i x,below xs j<=i->xs[i]? = some x->j<=x:=by
 unfold below
 exact i6 h xs.size 0 xs.size (by lia) (by lia) (by lia) (λ i x hi=>by lia) λ i x hi e=>by
  have:=(D0.mp e).1
  lia
theorem qe {t:SetTable}{n:Nat}(r:fX t n) {j:Nat}(J:j∈t.place.toList):t.slot j≠.empty:=by
 obtain⟨m,e⟩:=Fc.mp J
 rw[C7] at e
 obtain⟨M,G,I⟩:=eD r.up j
 have q:t.place[below t.place j]? = some j:=by
  by_cases L:m<below t.place j
  ·have:=G m j L e;lia
  ·by_cases F:m=below t.place j
   ·rw[<- F];exact e
   ·have z:below t.place j<t.place.size:=by have:=(D0.mp e).1;lia
    have g:=C4 z
    have h1:=kJ r.up (show below t.place j<m by lia) g e
    have h2:=I _ _ (Nat.le_refl _) g
    lia
 unfold slot
 simp[q]
theorem fF (r:fX t n) (h:t.slot j≠.empty):j∈t.place.toList/\∃ i,t.slot j=.live i:=by
 unfold slot at h ⊢
 dsimp only at h ⊢
 split at h
 ·rename_i q
  have z:t.place[below t.place j]? = some j:=by simpa using q
  rw[<- C7] at z
  refine⟨CB z,below t.place j,?_⟩
  rw[CG q]
 ·have:has t.dummies j=false:=by unfold has;rw[r.clean];simp
  rw[this] at h
  simp at h
theorem qE:∀ (n:Nat) (l:List Nat),(∀ f,f<n->f∈l)->n<=l.length
 | 0,_,_=>Dq _
 | n+1,l,h=>by
  have j:=h n (by lia)
  have q:=qE n (l.erase n) λ f z=>(List.mem_erase_of_ne (by lia)).mpr (h f (by lia))
  rw[List.length_erase_of_mem j] at q
  have:0<l.length:=List.length_pos_of_mem j
  lia
theorem mC (r:fX t n):∃ f,f<t.mask+1/\f∉t.place.toList:=by
 refine Classical.byContradiction λ z=>?_
 have all:∀ f,f<t.mask+1->f∈t.place.toList:=λ f j=>Classical.byContradiction λ q=>z ⟨f,j,q⟩
 have:=qE _ _ all
 rw[CK,r.size] at this
 have:=r.few
 lia
noncomputable def win (mask i pt:Nat):Probe:={ j:=i,more:=runEnd mask i-i,i:=i,perturb:=pt,dummy:=none }
theorem kh (mask i):runEnd mask i-i<=9:=by unfold runEnd;split<;>lia
theorem j0 (r:fX t n):∀ (m fuel:Nat) (p:Probe),p.more=m->p.dummy=none->m<fuel->probe.go t (λ _=>h+1) h fuel p=none ->
  t.slot p.j≠.empty/\probe.go t (λ _=>h+1) h (fuel-(m+1)) (win t.mask (leap t.mask p.i p.perturb).1 (leap t.mask p.i p.perturb).2)=none:=by
 intro m
 induction m with
 | zero=>
  intro fuel p L G J q
  obtain⟨fuel,rfl⟩:∃ k,fuel=k+1:=⟨fuel-1,by lia⟩
  unfold probe.go at q
  by_cases z:t.slot p.j=.empty
  ·rw[z] at q;cases q
  ·refine⟨z,?_⟩
   obtain⟨_,i,F⟩:=fF r z
   rw[F] at q
   dsimp only at q
   rw[CD (by simp;lia)] at q
   have e:t.advance p=win t.mask (leap t.mask p.i p.perturb).1 (leap t.mask p.i p.perturb).2:=by
    unfold advance win
    rw[CD (by lia)]
    simp[G]
   rw[e] at q
   simpa using q
 | succ m M=>
  intro fuel p L G J q
  obtain⟨fuel,rfl⟩:∃ k,fuel=k+1:=⟨fuel-1,by lia⟩
  unfold probe.go at q
  by_cases z:t.slot p.j=.empty
  ·rw[z] at q;cases q
  ·refine⟨z,?_⟩
   obtain⟨_,i,F⟩:=fF r z
   rw[F] at q
   dsimp only at q
   rw[CD (by simp;lia)] at q
   have e:t.advance p={ p with j:=p.j+1,more:=p.more-1 }:=by
    unfold advance
    rw[CG (by lia)]
   rw[e] at q
   have:=(M fuel { p with j:=p.j+1,more:=p.more-1 } (by show p.more-1=m;lia) G (by lia) q).2
   have I:fuel+1-(m+1+1)=fuel-(m+1):=by lia
   rw[I]
   exact this
theorem jC (r:fX t n):∀ (s fuel i j:Nat),10*(s+1)<=fuel->probe.go t (λ _=>h+1) h fuel (win t.mask i j)=none->t.slot (at_ t.mask s i j).1≠.empty
 | 0,fuel,i,j,hf,q=>(j0 r _ fuel (win t.mask i j) rfl rfl (by have:=kh t.mask i;show runEnd t.mask i-i<fuel;lia) q).1
 | s+1,fuel,i,j,hf,q=>by
  have h1:=(j0 r _ fuel (win t.mask i j) rfl rfl (by have:=kh t.mask i;show runEnd t.mask i-i<fuel;lia) q).2
  exact jC r s _ _ _ (by have:=kh t.mask i;show 10*(s+1)<=fuel-(runEnd t.mask i-i+1);lia) h1
theorem ia (r:fX t n):∀ (fuel:Nat) (p:Probe) (m:Met),p.dummy=none->probe.go t (λ _=>h+1) h fuel p=some m->∃ j,m=.empty j none/\t.slot j=.empty
 | 0,p,m,_,q=>by simp[probe.go] at q
 | fuel+1,p,m,hd,q=>by
  unfold probe.go at q
  by_cases z:t.slot p.j=.empty
  ·rw[z] at q
   dsimp only at q
   cases q
   rw[hd]
   exact⟨p.j,rfl,z⟩
  ·obtain⟨_,i,F⟩:=fF r z
   rw[F] at q
   dsimp only at q
   rw[CD (by simp;lia)] at q
   refine ia r fuel _ m ?_ q
   unfold advance
   split<;>exact hd
theorem mi (r:fX t n) (F:Pow (t.mask+1)) (h):∃ j,t.freeSlot h=some (j,false)/\j∉t.place.toList:=by
 have G:bits h<2 ^ 64:=by unfold bits;have:=DE h (b:=2 ^ 64) (by decide);have:=DU h (b:=2 ^ 64) (by decide);lia
 have st:t.probeStart h=win t.mask (bits h%(t.mask+1)) (bits h):=rfl
 unfold freeSlot probe
 rw[st]
 cases q:probe.go t (λ _=>h+1) h (10*turns t.mask) (win t.mask (bits h%(t.mask+1)) (bits h)) with
 | none=>
  obtain⟨f,I,L⟩:=mC r
  obtain⟨s,M,es⟩:=reach F (F3 (bits h) (show 0<t.mask+1 by lia)) G I
  have:=jC r s _ _ _ (by lia) q
  rw[es] at this
  exact absurd (fF r this).1 L
 | some m=>
  obtain⟨j,rfl,z⟩:=ia r _ _ m rfl q
  exact⟨j,rfl,λ J=>qe r J z⟩
theorem Pow.of (h:[8,16,32,64,128,256].contains n=true):Pow n:=by
 have:n=8\/n=16\/n=32\/n=64\/n=128\/n=256:=by simpa using h
 rcases this with rfl|rfl|rfl|rfl|rfl|rfl
 ·exact .p8
 ·exact .p16
 ·exact .p32
 ·exact .p64
 ·exact .p128
 ·exact .p256
theorem gF (h:n<256):Pow (sizeAbove n)/\n<sizeAbove n:=by
 have all:((List.range 256).all λ n=>[8,16,32,64,128,256].contains (sizeAbove n) && decide (n<sizeAbove n))=true:=by decide +kernel
 have:=D6.mp all n (Eg.mpr h)
 rw[Dt,Em] at this
 exact⟨Pow.of this.1,this.2⟩
structure Good (t:SetTable) (n:Nat):Prop where
 rise:fX t n
 pow:Pow (t.mask+1)
 plain:t.plain=true
 slack:n*5<t.mask*3
theorem Good.fits (g:Good t n):t.fits n=true:=g.rise.fits
theorem mK (f m) (led):Good (SetTable.fresh f m led) 0:=⟨⟨rfl,by simp[SetTable.fresh],rfl,by simp[SetTable.fresh]⟩,.p8,rfl,by simp[SetTable.fresh]⟩
theorem wh (r:fX t n) (O:j∉t.place.toList) (R:n+1<=t.mask) :
  fX (t.put j).1 (n+1)/\(t.put j).1.mask=t.mask/\(t.put j).1.plain=t.plain/\(t.put j).1.led=t.led:=by
 obtain⟨S,J,L⟩:=eD r.up j
 have M:has t.dummies j=false:=by unfold has;rw[r.clean];simp
 refine⟨⟨?_,?_,?_,R⟩,rfl,rfl,rfl⟩
 ·show (insertAt t.place (below t.place j) j).size=n+1
  rw[<- CK,(insertAt_perm t.place (below t.place j) j).length_eq,Gj,CA,CK,r.size]
  rfl
 ·show (insertAt t.place (below t.place j) j).toList.Pairwise (· < ·)
  rw[toList_insertAt]
  have F:∀ x,x∈t.place.toList.take (below t.place j)->x<j:=λ x G=>by
   obtain⟨i,e⟩:=Fc.mp G
   have hi:i<below t.place j:=by
    have:=(Cr.mp e).1
    rw[Dg] at this
    lia
   rw[FA hi,C7] at e
   exact J i x hi e
  have q:∀ x,x∈t.place.toList.drop (below t.place j)->j<x:=λ x G=>by
   obtain⟨i,e⟩:=Fc.mp G
   rw[List.getElem?_drop,C7] at e
   have h1:=L _ x (FH _ _) e
   have h2:j≠x:=λ z=>O (by rw[z];exact List.mem_of_mem_drop G)
   lia
  rw[DL]
  refine⟨r.up.sublist (Gg _ _),?_,λ x G y I=>?_⟩
  ·rw[Fs]
   exact⟨q,r.up.sublist (List.drop_sublist _ _)⟩
  ·rcases Cz.mp I with rfl|I
   ·exact F x G
   ·exact Gf (F x G) (q y I)
 ·show (if has t.dummies j then _ else t.dummies) = #[]
  rw[M]
  simpa using r.clean
theorem pR (g:Good t es.size) (h) (x) :
  ∃ es' t',layNew t es h x=(es',t',false,false)/\es'.toList.Perm (es.toList++[(h,x)])/\fX t' es'.size/\t'.mask=t.mask/\t'.plain=true/\t'.led=t.led:=by
 have I:es.size+1<=t.mask:=by have:=g.slack;have:=g.pow.pos;lia
 obtain⟨j,e,M⟩:=mi g.rise g.pow h
 obtain⟨F,L,O,J⟩:=wh g.rise M I
 have q:=layNew_perm t es h x
 rw[Gj] at q
 unfold layNew at q ⊢
 rw[e] at q ⊢
 dsimp only at q ⊢
 have z:(insertAt es (t.put j).2 (h,x)).size=es.size+1:=by
  rw[<- CK,q.length_eq,CA,CK];rfl
 have G:(t.put j).1.fits (insertAt es (t.put j).2 (h,x)).size=true:=by rw[z];exact F.fits
 refine⟨_,(t.put j).1,?_,q,by rw[z];exact F,L,O.trans g.plain,J⟩
 unfold orStandIn
 rw[G]
 rfl
theorem rA {es:Array (Int×Value)}{j:Array Nat}(p:j.toList.Perm (List.range es.size)):(j.filterMap (es[·]?)).toList.Perm es.toList:=by
 rw[Array.toList_filterMap]
 refine(p.filterMap _).trans ?_
 rw[filterMap_getElem?_range]
theorem j3 {t:SetTable}{es:Array (Int×Value)}{wanted:Nat}(F:wanted<256) (I:es.size<=wanted) (z:t.plain=true) :
  ∃ t' j,t.relaid (es.map (·.1)) wanted=some (t',j)/\fX t' es.size/\Pow (t'.mask+1)/\t'.plain=true/\t'.led=t.led/\wanted<=t'.mask/\t'.mask=sizeAbove wanted-1/\j.toList.Perm (List.range es.size):=by
 obtain⟨P,J⟩:=gF F
 have q:sizeAbove wanted-1+1=sizeAbove wanted:=by lia
 obtain⟨t',j,e,r,m,l,G,p⟩:=nZ (mask:=sizeAbove wanted-1) (finger:=t.finger) (moves:=t.movedTo (sizeAbove wanted-1)) (led:=t.led) (plain:=t.plain) (by rw[q];exact P) (hs:=es.map (·.1)) (by rw[E9];lia)
 rw[E9] at r p
 exact⟨t',j,e,r,by rw[m,q];exact P,by rw[G,z],l,by rw[m];lia,m,p⟩
theorem k9 {t:SetTable}{es:Array (Int×Value)}{wanted:Nat}(I:wanted<256) (L:es.size*2<=wanted) (G:t.plain=true) (h0:0<es.size) :
  ∃ es' t',relayAll t es wanted=(es',t',false)/\es'.toList.Perm es.toList/\Good t' es'.size/\t'.led=t.led:=by
 obtain⟨t',j,e,r,P,J,l,M,_,p⟩:=j3 (t:=t) (es:=es) I (by lia) G
 have q:=rA p
 have F:(j.filterMap (es[·]?)).size=es.size:=by rw[<- CK,q.length_eq,CK]
 have z:coversAll j es.size=true:=List.isPerm_iff.mpr p
 refine⟨j.filterMap (es[·]?),t',?_,q,⟨by rw[F];exact r,P,J,by rw[F];lia⟩,l⟩
 unfold relayAll
 rw[e]
 dsimp only
 rw[z,F,r.fits]
 rfl
noncomputable def ke (e:Int×Value):Int:=match e.2 with
 | .int i _=>i
 | _=>0
noncomputable def cg (P:Program) (w:World) (h:Heap) (a:Addr) (ks:List Int):Prop:=
 ∃ o es ep t,h.get? a=some o/\o.ExactSet/\o.data=.set es ep t/\ElemsOf (intKind P w) es.toList/\es.toList.map ke=ks/\ks.Nodup/\Good t es.size/\es.size<=63/\(w.params.followText "set-order" = true\/t.led=true)
section
variable {P:Program}{w:World}{A:Around}{E:Value->Shared->Prop}{s:Shared}{a:Addr}{ks:List Int}
theorem cg.few (S:cg P w h a ks):ks.length<=63:=by
 obtain⟨o,es,j,t,_,_,_,_,e,_,_,f,_⟩:=S
 rw[<- e,Cy,CK];exact f
theorem cg.nodup (S:cg P w h a ks):ks.Nodup:=by obtain⟨o,es,j,t,_,_,_,_,e,n,_⟩:=S;exact n
theorem vf (h:ElemsOf (intKind P w) l) (J:e∈l) (k):(intKind P w).is k e.2=true↔ke e=k:=by
 obtain⟨⟨F,j,_⟩,_⟩:=h e J
 obtain⟨t,q⟩:=Value.isInt_shape (show Value.isInt F e.2=true from j)
 have I:ke e=F:=by unfold ke;rw[q]
 rw[I]
 constructor
 ·intro z
  obtain⟨M,G⟩:=Value.isInt_shape (show Value.isInt k e.2=true from z)
  rw[q] at G;injection G with L _
 ·rintro rfl;exact j
theorem qr (h:ElemsOf (intKind P w) l) (k):(∃ e∈l,(intKind P w).is k e.2=true)↔k∈l.map ke:=by
 rw[CL]
 exact⟨λ⟨e,j,q⟩=>⟨e,j,(vf h j k).mp q⟩,λ⟨e,j,q⟩=>⟨e,j,(vf h j k).mpr q⟩⟩
theorem stored (z:h.get? a=some o) (q:o.ExactSet) (j:o.data=.set es ep t) :
  (h.update a (Obj.putSet es' t')).get? a=some { o with data:=.set es' (ep+1) t' }/\Heap.SameBut a h (h.update a (Obj.putSet es' t')):=by
 refine⟨?_,Heap.SameBut.update h a _⟩
 have:=Heap.get?_update_self (Obj.putSet es' t') z (by rw[putSet_of es' t' j];rfl)
 rwa [putSet_of es' t' j] at this
theorem eE (h:n<=64):n<=sizeLine:=CV h (by decide)
theorem qi (S:cg P w s.heap a ks) (af:ks.length<=62)
  (h:∀ b h' a1,Heap.SameBut a s.heap h'->cg P w h' a a1->(∀ y,y∈a1↔y∈ks\/y=k)->a1.length<=ks.length+1->Q b { s with heap:=h' }) :
  wpAny (model P w) A (setAddHashed a (.int k tok) (hashInt k)) Q E s:=by
 obtain⟨o,es,ep,t,ho,Y,hd,L,O,nd,g,fw,aa⟩:=id S
 have ag:es.size=ks.length:=by rw[<- O,Cy,CK]
 have U:(intKind P w).is k (.int k tok)=true:=by show Value.isInt k (.int k tok)=true;simp[Value.isInt]
 have hb:es.size<scanBound:=DK fw (by decide)
 unfold setAddHashed setAddHashedIn
 refine C8 (Cq (wpAny_setState_of ho hd g.fits ?_))
 dsimp only
 rw[byScan_of (knd:=intKind P w) rfl hb L]
 simp only[↓reduceIte]
 unfold setAddByScan
 refine Cq (Cq (Ez (Cq (wpAny_setScan_of (knd:=intKind P w) U ho hd g.fits L ?_))))
 cases hr:List.findIdx? (λ e=>(intKind P w).is k e.2) es.toList with
 | some j=>
  obtain⟨hj,a8,_⟩:=List.findIdx?_eq_some_iff_getElem.mp hr
  have a6:k∈ks:=by rw[<- O];exact(qr L k).mp ⟨_,Gm hj,a8⟩
  refine Cu (Cu ?_)
  exact h false s.heap ks (Heap.SameBut.refl a s.heap) S (λ y=>⟨.inl,λ z=>z.elim id λ e=>e ▸ a6⟩) (Ex _)
 | none=>
  have a4:k∉ks:=λ z=>by
   rw[<- O] at z
   obtain⟨e,he,q⟩:=(qr L k).mpr z
   have:=List.findIdx?_eq_none_iff.mp hr e he
   rw[q] at this
   cases this
  obtain⟨F,t1,eL,M,J,m1,p1,l1⟩:=pR g (hashInt k) (.int k tok)
  rw[eL]
  dsimp only
  have ae:F.size=es.size+1:=by rw[<- CK,M.length_eq,CA,CK];rfl
  have a3:ElemsOf (intKind P w) F.toList:=(L.push (k:=k) U rfl).perm M
  have a9:(F.toList.map ke).Perm (ks++[k]):=by
   have:=M.map ke
   rw[CP,O] at this
   exact this
  have ab:(ks++[k]).Nodup:=by
   rw[DD]
   refine⟨nd,by simp,λ x hx y hy=>?_⟩
   rw[Cv] at hy
   subst hy
   intro z
   exact a4 (z ▸ hx)
  refine Cq (Cu ?_)
  rw[p1]
  simp only[↓reduceIte]
  rw[hashByValue_scannable 8 (show (Value.int k tok).scannable=true from rfl)]
  refine Cq (Cu ?_)
  simp only[plainKind,↓reduceIte]
  refine Cq (F7 ho hd ?_ (eE (by lia)))
  obtain⟨Z,a5⟩:=stored (es':=F) (t':=t1) ho Y hd
  have a2:∀ (G:Array (Int×Value)) (W:Nat) (V:SetTable) (h2:Heap),h2.get? a=some { o with data:=.set G W V }->Heap.SameBut a s.heap h2->G.toList.Perm F.toList->Good V G.size->V.led=t.led->Q true { s with heap:=h2 }:=by
   intro G W V h2 e2 sb p2 g2 l2
   have kp:(G.toList.map ke).Perm (ks++[k]):=(p2.map ke).trans a9
   refine h true h2 (G.toList.map ke) sb ⟨_,G,W,V,e2,Y,rfl,a3.perm p2,rfl,kp.nodup_iff.mpr ab,g2,?_,?_⟩ (λ y=>?_) ?_
   ·rw[<- CK,p2.length_eq,CK,ae];lia
   ·rw[l2];exact aa
   ·rw[kp.mem_iff,CF,Cv]
   ·rw[kp.length_eq,CA];exact Nat.le_refl _
  by_cases R:t1.tooFull=true
  ·rw[R]
   simp only[Fu,Bool.and_self,↓reduceIte]
   have hg:grown F.size=F.size*4:=by unfold grown;rw[CD (by lia)]
   obtain⟨G,V,eR,p2,g2,l2⟩:=k9 (t:=t1) (es:=F) (wanted:=grown F.size) (by rw[hg];lia) (by rw[hg];lia) p1 (by lia)
   rw[eR]
   dsimp only
   refine Cq (Cu (Cq (F7 Z rfl ?_ (eE ?_))))
   ·obtain⟨a7,ad⟩:=stored (es':=G) (t':=V) Z Y rfl
    exact Cu (Cu (a2 G _ V _ a7 (a5.trans ad) p2 g2 (l2.trans l1)))
   ·rw[<- CK,p2.length_eq,CK];lia
  ·have I:t1.tooFull=false:=by simpa using R
   rw[I]
   simp only[Fu,Bool.and_false,CS,↓reduceIte]
   refine Cu (Cu (a2 F _ t1 _ Z a5 (List.Perm.refl _) ⟨J,by rw[m1];exact g.pow,p1,?_⟩ l1))
   unfold tooFull fill at I
   rw[J.size,J.clean] at I
   simpa using I
end
section
variable {P:Program}{w:World}{A:Around}{E:Value->Shared->Prop}{s:Shared}{a:Addr}{ks:List Int}
theorem cg.at' (S:cg P w h a ks) (e:∀ o,h.get? a=some o->h'.get? a=some o):cg P w h' a ks:=by
 obtain⟨o,es,j,t,q,r⟩:=S
 exact⟨o,es,j,t,e o q,r⟩
theorem cg.lt (S:cg P w h a ks):a<h.objs.size:=by
 obtain⟨o,es,q,t,j,r⟩:=S
 exact Heap.lt_size j
theorem wA {R:Result->Shared->Prop}{I:Addr}{fp Z:List Addr}{G:Array GenState->Array GenState->Prop}{n:Nat}{Y:Nat->Value->Prop}{St:Nat->Shared->Prop}
  (W:WalksS P w A.in1 I fp Z G n Y St) (F:a∉fp) (val:Nat->Int) (O:∀ i v,Y i v->∃ t,v=.int (val i) t) :
  ∀ (k i:Nat) (s:Shared) (ks:List Int),i+k=n->St i s->cg P w s.heap a ks->ks.length+k<=63 ->
   (∀ s' M,Moved (a::Z) G s s'->cg P w s'.heap a M->(∀ y,y∈M↔y∈ks\/∃ j,i<=j/\j<n/\val j=y)->M.length<=ks.length+k->R (.ok (.ret .none)) s') ->
   codeAny (model P w) A (.builtin "set.update.loop" ⟨[.ref a,.ref I],[]⟩) R s:=by
 have V:a∉Z:=λ z=>F (W.sub _ z)
 have J:∀ b∈Z,b∈a::Z:=λ b z=>CH _ z
 intro k
 induction k with
 | zero=>
  intro i s ks hk st S a1 L
  rw[Nat.add_zero] at hk
  subst hk
  refine Du PyProof.Rows.F.entry_set_update_loop ?_
  rw[Around.under_plainId EW _]
  unfold Builtin.«set.update.loop»
  refine Cq (W.done s _ _ st λ s' U=>Cu ?_)
  refine L s' ks (U.mono J) (S.at' λ o e=>U.heap a o V e) (λ y=>⟨.inl,?_⟩) (Nat.le_refl _)
  rintro(z|⟨j,h1,h2,_⟩)
  ·exact z
  ·lia
 | succ k ih=>
  intro i s ks hk st S a1 L
  refine Du PyProof.Rows.F.entry_set_update_loop ?_
  rw[Around.under_plainId EW _]
  unfold Builtin.«set.update.loop»
  refine Cq (W.item i s _ _ (by lia) st λ v s1 hv a5 U=>?_)
  obtain⟨a6,rfl⟩:=O i v hv
  refine Cq (C8 (C8 (Cq ((intKind P w).pyHash (k:=val i) (intKind_is _ _ _ _) ?_))))
  refine qi (s:={ s1 with toks:=s1.toks+1 }) (S.at' λ o e=>U.heap a o V e) (by lia) λ b h2 a2 sb S2 m2 l2=>?_
  refine Cu ⟨DG EW _,ih (i+1) _ a2 (by lia) (W.frame _ s1 h2 _ a5 (Ex _) λ b hb o e=>?_) S2 (by lia) λ s3 a3 a4 S3 m3 l3=>?_⟩
  ·rw[sb.2 b λ z=>F (z ▸ hb)];exact e
  ·refine L s3 a3 (Moved.trans W.gtrans ((U.mono J).then_heap (Ex _) λ b o hb e=>?_) a4) S3 (λ y=>?_) (by lia)
   ·rw[sb.2 b λ z=>hb (z ▸ CJ)];exact e
   ·rw[m3,m2]
    constructor
    ·rintro((z|z)|⟨j,h1,h2,e⟩)
     ·exact .inl z
     ·exact .inr ⟨i,Nat.le_refl _,by lia,z.symm⟩
     ·exact .inr ⟨j,by lia,h2,e⟩
    ·rintro(z|⟨j,h1,h2,e⟩)
     ·exact .inl (.inl z)
     ·by_cases q:j=i
      ·subst q;exact .inl (.inr e.symm)
      ·exact .inr ⟨j,by lia,h2,e⟩
theorem jL {Q:Value->Shared->Prop}
  (h:∀ led:Bool,(w.params.followText "set-order" = true\/led=true)->Q (.ref s.heap.objs.size) { s with heap:=s.heap.push { cls:=.type "set",dict:=none,data:=.set #[] 0 (.fresh 0 0 led) } }) :
  wpAny (model P w) A (newSet (.type "set")) Q E s:=by
 unfold newSet setsByText
 refine Cq (Cq ?_)
 refine Ed (Cu ?_)
 dsimp only
 unfold newObj
 refine Cq (wpAny_alloc (Cu (h _ ?_)))
 show w.params.followText "set-order" = true\/(!w.params.followText "set-order")=true
 cases w.params.followText "set-order" <;> simp
theorem rj (x:Value) {Q:Value->Shared->Prop}
  (h:∀ led:Bool,(w.params.followText "set-order" = true\/led=true)->Q (.ref s.heap.objs.size) { s with heap:=s.heap.push { cls:=.type "set",dict:=none,data:=.set #[] 0 (.fresh 0 0 led) } }) :
  codeAny (model P w) A (.call (.builtin "set.__new__") ⟨[.type "set",x],[]⟩) (wants Q E) s:=by
 refine Gq ?_
 show wpAny _ A.in1 (checkBuiltinCall _ _ >>= λ _=>again _) _ _ s
 refine Cq (DH (F.newCall_set_1 x) (Cu ⟨DG F.plain_set_new _,Du F.entry_set_new ?_⟩))
 rw[Around.under_plainId F.plain_set_new _]
 unfold Builtin.«set.__new__» Builtin.Frozenset.newClass
 have j:=F9
 generalize q:newSet=N
 obtain⟨G,g,d,tk,I⟩:=s
 dsimp only
 wp_walk
 subst q
 exact jL λ led z=>Cu (h led z)
theorem kY {h:Heap}{a:Addr}{led:Bool}(e:h.get? a=some { cls:=.type "set",dict:=none,data:=.set #[] 0 (.fresh 0 0 led) }) (q:w.params.followText "set-order" = true\/led=true):cg P w h a []:=by
 refine⟨_,#[],0,_,e,?_,rfl,?_,rfl,F1,mK 0 0 led,Dq _,q⟩
 ·exact⟨rfl,rfl,rfl⟩
 ·intro e j;cases j
theorem mP {l:Addr}{items:Array Value}{ns:List Int}{led:Bool}{R:Result->Shared->Prop}
  (hh:A.handled=none) (hl:s.heap.IsList l items) (hi:PyProof.Rows.IntsAre items.toList ns) (a4:items.size<=63) (U:a≠l)
  (ha:s.heap.get? a=some { cls:=.type "set",dict:=none,data:=.set #[] 0 (.fresh 0 0 led) }) (J:w.params.followText "set-order" = true\/led=true)
  (h:∀ (h':Heap) (tk:Nat) ks,cg P w h' a ks->(∀ y,y∈ks↔y∈ns) ->
   (∀ b o,b≠a->s.heap.get? b=some o->h'.get? b=some o)->R (.ok (.ret .none)) { s with heap:=h',toks:=tk }) :
  codeAny (model P w) A (.builtin "set.__init__" ⟨[.ref a,.ref l],[]⟩) R s:=by
 refine Du F.entry_set_init ?_
 rw[Around.under_plainId F.called_set.init.plain _]
 have S:cg P w s.heap a []:=kY ha J
 have I:=hl
 obtain⟨ol,V,q,nl,G⟩:=hl
 obtain⟨a3,Z,Y,M⟩:=ol
 simp only at q G
 subst q;subst G
 have u1:=F.sub_list_set
 have u2:=F.sub_list_frozenset
 have u3:(Value.type "list" == Value.type "dict")=false:=by decide
 unfold Builtin.«set.__init__» noKeywords Builtin.Frozenset.updateFrom
 generalize O:pyIter=PI
 wp_walk
 subst O
 refine EI I ?_
 refine Cq (Gw ?_)
 have q3:A.in1.in1.handled=none:=by simp[hh]
 have la:a<s.heap.objs.size:=Heap.lt_size ha
 have ll:l<s.heap.objs.size:=Heap.lt_size V
 refine wA (a:=a) ((Walks.list q3 s.heap.objs.size l (CI ll) items).toS) (by simp only[Cz,CC,C2,EU];exact⟨CI la,U⟩)
  (λ i=>ns.getD i 0) (λ i v hv=>PyProof.Rows.IntsAre.int_at hi i v (by rw[C7];exact hv)) items.size 0 _ [] (ER _)
  ⟨⟨_,Heap.get?_push_size _ rfl,rfl,rfl⟩,I.push _⟩ (S.at' λ o e=>Heap.get?_push_of_some _ e) (by rw[List.length_nil];lia) ?_
 intro s' W L S' m' _
 obtain⟨h',g',d',a2,a1⟩:=s'
 obtain rfl:g'=s.gens:=L.gens
 obtain rfl:d'=s.drawn:=L.drawn
 obtain rfl:a1=s.os:=L.os
 refine Cu (Cu ?_)
 refine h h' a2 W S' (λ y=>?_) λ b o hb e=>L.heap b o ?_ (Heap.get?_push_of_some _ e)
 ·have a5:items.size=ns.length:=by rw[<- CK];exact PyProof.Rows.IntsAre.length hi
  rw[m']
  constructor
  ·rintro(z|⟨j,_,h2,e⟩)
   ·cases z
   ·rw[<- e]
    show ns.getD j 0∈ns
    rw[Eh,Cs (by lia)];exact Gm _
  ·intro z
   obtain⟨j,hj,e⟩:=C1 z
   exact .inr ⟨j,Dq _,by lia,by show ns.getD j 0=y;rw[Eh,Cs hj];exact e⟩
 ·simp only[Cz,CC,C2,EU]
  exact⟨hb,CI (Heap.lt_size e)⟩
set_option maxHeartbeats 3200000 in
theorem mL {l:Addr}{items:Array Value}{ns:List Int}{Q:Value->Shared->Prop}
  (hh:A.handled=none) (hl:s.heap.IsList l items) (hi:PyProof.Rows.IntsAre items.toList ns) (few:items.size<=63)
  (h:∀ (h':Heap) (tk:Nat) ks,cg P w h' s.heap.objs.size ks->(∀ y,y∈ks↔y∈ns) ->
   (∀ b o,s.heap.get? b=some o->h'.get? b=some o)->Q (.ref s.heap.objs.size) { s with heap:=h',toks:=tk }) :
  wpAny (model P w) A (call (.type "set") [.ref l]) Q E s:=by
 obtain⟨c,tl,hmro⟩:=F.called_set.mro
 have u1:=F.called_set.made
 have u2:=F.called_set.sub
 have u3:=F.called_set.notType
 have u4:=F.called_set.canCreate
 have u5:=F.typeCall_set_1 (.ref l)
 refine E4 (Gq ?_)
 show wpAny _ _ (callAny (.type "set") _) _ _ _
 refine Cu ⟨Code.quiet_builtin _ (by decide +kernel),Du F.entry_type_call ?_⟩
 rw[Around.under_plain (weight_type_call_type "set" [.ref l] []) rfl]
 repeat (any_goals (first|assumption|wp_step))
 refine EO (rj (.ref l) (E:=E) (Q:=λ v s1=>∃ led:Bool,(w.params.followText "set-order" = true\/led=true)/\v=.ref s.heap.objs.size/\s1={ s with heap:=s.heap.push { cls:=.type "set",dict:=none,data:=.set #[] 0 (.fresh 0 0 led) } }) λ led q=>⟨led,q,rfl,rfl⟩) λ r s1 hr=>?_
 match r,hr with
 | .error e,hr=>exact hr
 | .ok (.ret v),hr=>
  obtain⟨led,q,rfl,rfl⟩:=hr
  have new:(s.heap.push { cls:=.type "set",dict:=none,data:=.set #[] 0 (.fresh 0 0 led) }).get? s.heap.objs.size=some { cls:=.type "set",dict:=none,data:=.set #[] 0 (.fresh 0 0 led) }:=Heap.get?_push_size _ rfl
  have ty:Shared.TypeIs { s with heap:=s.heap.push { cls:=.type "set",dict:=none,data:=.set #[] 0 (.fresh 0 0 led) } } (.ref s.heap.objs.size) "set":=⟨_,new,rfl⟩
  have u6:=F.called_set.init.lookup
  have u7:=F.called_set.init.bind (.ref s.heap.objs.size)
  repeat (any_goals (first|assumption|wp_step))
  refine codeAny_call_builtin_code (DG F.called_set.init.plain _) (check_set_init_1 ty ?_)
  refine mP (a:=s.heap.objs.size) (items:=items) (ns:=ns) (led:=led) (by simp[hh]) (hl.push _) hi few (DA ?_) new q λ h' tk ks S m keep=>?_
  ·obtain⟨ol,hol,_⟩:=hl;exact Heap.lt_size hol
  ·refine Cu (Cu (h h' tk ks S m λ b o e=>keep b o (CI (Heap.lt_size e)) (Heap.get?_push_of_some _ e)))
end
theorem jE (next:Nat->Nat):∀ (n k:Nat) (l:List α) (out:Array α),n=l.length->(pickOrder.go next n k l out).toList.Perm (out.toList++l)
 | 0,k,l,out,h=>by
  have:l=[]:=Ey h.symm
  subst this
  unfold pickOrder.go;simp
 | n+1,k,l,out,h=>by
  have j:next k%l.length<l.length:=F3 _ (by lia)
  unfold pickOrder.go
  rw[Cs j]
  dsimp only
  refine(jE next n (k+1) _ _ (by rw[List.length_eraseIdx];simp[j];lia)).trans ?_
  rw[Gj,EL]
  refine List.Perm.append_left _ ?_
  rw[List.eraseIdx_eq_take_drop_succ]
  have e:l=l.take (next k%l.length)++l[next k%l.length]::l.drop (next k%l.length+1):=by
   rw[<- List.drop_eq_getElem_cons j,List.take_append_drop]
  refine List.Perm.trans ?_ (List.Perm.of_eq e.symm)
  rw[List.singleton_append]
  exact List.perm_middle.symm
theorem eV (next:Nat->Nat) (xs:Array α):(pickOrder next xs).toList.Perm xs.toList:=by
 unfold pickOrder
 simpa using jE next xs.size 0 xs.toList #[] (by simp)
section
variable {P:Program}{w:World}{A:Around}{E:Value->Shared->Prop}{s:Shared}{a b:Addr}{ks:List Int}
noncomputable def cw (P:Program) (w:World) (h:Heap) (a:Addr) (ks:List Int) (es:Array (Int×Value)) (ep:Nat) (t:SetTable):Prop:=
 ∃ o,h.get? a=some o/\o.ExactSet/\o.data=.set es ep t/\ElemsOf (intKind P w) es.toList/\es.toList.map ke=ks/\ks.Nodup/\Good t es.size/\es.size<=63/\(w.params.followText "set-order" = true\/t.led=true)
theorem cg.tab (S:cg P w h a ks):∃ es ep t,cw P w h a ks es ep t:=by
 obtain⟨o,es,ep,t,r⟩:=S;exact⟨es,ep,t,o,r⟩
theorem cw.lW (S:cw P w h a ks es ep t):cg P w h a ks:=by
 obtain⟨o,r⟩:=S;exact⟨o,es,ep,t,r⟩
theorem cw.size (S:cw P w h a ks es ep t):es.size=ks.length:=by
 obtain⟨o,_,_,_,_,e,_⟩:=S;rw[<- e,Cy,CK]
theorem cw.good (S:cw P w h a ks es ep t):Good t es.size:=by
 obtain⟨o,_,_,_,_,_,_,g,_⟩:=S;exact g
theorem cw.at' (S:cw P w h a ks es ep t) (e:∀ o,h.get? a=some o->h'.get? a=some o):cw P w h' a ks es ep t:=by
 obtain⟨o,j,r⟩:=S
 exact⟨o,e o j,r⟩
theorem cw.state (S:cw P w s.heap a ks es ep t) (h:Q (es,ep,t) s):wpAny (model P w) A (setState a) Q E s:=by
 obtain⟨o,q,_,j,_,_,_,g,_⟩:=S
 exact wpAny_setState_of q j g.fits h
theorem cw.store (S:cw P w s.heap a ks es ep t)
  (z:ElemsOf (intKind P w) es2.toList) (J:(es2.toList.map ke).Nodup) (g:Good t2 es2.size) (q:es2.size<=63) (led:w.params.followText "set-order" = true\/t2.led=true)
  (h:∀ h' ,Heap.SameBut a s.heap h'->cw P w h' a (es2.toList.map ke) es2 (ep+1) t2->Q () { s with heap:=h' }) :
  wpAny (model P w) A (storeSet a es2 t2) Q E s:=by
 obtain⟨o,I,j,G,_⟩:=S
 refine F7 I G ?_ (eE (by lia))
 obtain⟨F,L⟩:=stored (es':=es2) (t':=t2) I j G
 exact h _ L ⟨_,F,j,rfl,z,rfl,J,g,q,led⟩
theorem sy (S:cw P w s.heap a ks es ep t) (R:wanted<256) (hn:ks.length*2<=wanted) (h0:0<wanted)
  (h:∀ h' F es' I t',Heap.SameBut a s.heap h'->cw P w h' a F es' I t'->F.Perm ks->wanted<=t'.mask->Q () { s with heap:=h' }) :
  wpAny (model P w) A (setRelay a wanted) Q E s:=by
 have sz:=S.size
 unfold setRelay
 refine Cq (S.state ?_)
 dsimp only
 obtain⟨o,ho,W,hd,L,M,Z,g,J,O⟩:=id S
 obtain⟨t',j,e,r,pw,pl,l,Y,hm,p⟩:=j3 (t:=t) (es:=es) R (by lia) g.plain
 have G:¬ (sizeAbove wanted>sizeLine):=by
  have h1:=(gF R).1.pos.2
  have h2:256<=sizeLine:=by decide
  lia
 rw[CD G]
 have q:=rA p
 have z:(j.filterMap (es[·]?)).size=es.size:=by rw[<- CK,q.length_eq,CK]
 rw[e]
 have U:((j.filterMap (es[·]?)).toList.map ke).Perm ks:=by have:=q.map ke;rwa [M] at this
 refine Cq (DH (a:=(j.filterMap (es[·]?),t')) ?_ ?_)
 ·show (if ((j.filterMap (es[·]?)).size != es.size)=true then (unsupported "internal:set-table-lost-an-element" >>= λ _=>pure (j.filterMap (es[·]?),t')) else pure (j.filterMap (es[·]?),t'):Sem _)=_
  rw[z]
  simp
 ·dsimp only
  refine S.store (L.perm q) (U.nodup_iff.mpr Z) ⟨by rw[z];exact r,pw,pl,by rw[z];lia⟩ (by rw[z];exact J) (by rw[l];exact O) λ h' sb V=>?_
  exact h h' _ _ _ _ sb V U Y
theorem tW (S:cg P w s.heap a ks) (L:ks.length+more<=126) (h0:0<more)
  (h:∀ h' j es' q t',Heap.SameBut a s.heap h'->cw P w h' a j es' q t'->j.Perm ks->(ks.length+more)*5<t'.mask*3->Q () { s with heap:=h' }) :
  wpAny (model P w) A (setRoomFor a more) Q E s:=by
 obtain⟨es,G,t,S⟩:=S.tab
 have z:=S.size
 have g:=S.good
 have I:t.fill=ks.length:=by unfold fill;rw[g.rise.size,g.rise.clean,z];rfl
 unfold setRoomFor
 refine Cq (S.state ?_)
 dsimp only
 unfold roomFor
 rw[I,g.rise.size,z]
 by_cases c:(ks.length+more)*5 >= t.mask*3
 ·rw[CG c]
  dsimp only
  exact sy S (by lia) (by lia) (by lia) λ h' j es' q t' J F p M=>h h' j es' q t' J F p (by lia)
 ·rw[CD c]
  dsimp only
  exact Cu (h s.heap ks es G t (Heap.SameBut.refl _ _) S (List.Perm.refl _) (by lia))
theorem ui (S:cw P w s.heap a ks es ep t)
  (h:∀ xs:Array (Int×Value),xs.toList.Perm es.toList->Q xs s):wpAny (model P w) A (setWalk a) Q E s:=by
 obtain⟨o,M,G,L,F,I,O,g,z,j⟩:=id S
 unfold setWalk setsByText
 refine Cq (S.state ?_)
 dsimp only
 refine Cq (Cq (Ed (Cu ?_)))
 dsimp only
 split
 ·exact Cq (Ed (Cu (h _ (eV _ _))))
 ·next c=>
  have J:t.led=true:=j.resolve_left c
  split
  ·next d=>
   have q:(!t.plain && decide (es.size>1))=true:=d
   rw[g.plain] at q
   cases q
  ·refine Cq (DH (a:=()) ?_ (Cu (h es (List.Perm.refl _))))
   show (if (!t.led && decide (es.size>1))=true then unsupported "set:maker-not-led" else pure ():Sem Unit)=_
   rw[J]
   rfl
theorem rq (S:cw P w s.heap a ks es ep t)
  (h:∀ xs:Array (Int×Value),xs.toList.Perm es.toList->Q xs s):wpAny (model P w) A (setWalkUnseen a others f) Q E s:=by
 obtain⟨o,L,G,J,F,I,M,g,z,j⟩:=id S
 unfold setWalkUnseen setsByText
 refine Cq (S.state ?_)
 dsimp only
 refine Cq (Cq (Ed (Cu ?_)))
 dsimp only
 split
 ·exact ui S h
 ·next c=>
  exfalso
  apply c
  have q:((model P w).w.params.followText "set-order" || (t.led && t.plain))=true:=by
   rw[g.plain,Bool.and_true,FT];exact j
  rw[q];rfl
theorem mw {kb U:List Int}{eb:Array (Int×Value)}{epb:Nat}{tb:SetTable}{each:Sem Unit}{Q:Unit->Shared->Prop}(ne:a≠b) (Sa:cg P w s.heap a ks) (Sb:cw P w s.heap b kb eb epb tb)
  (few:U.length<=62) (sub1:∀ y∈ks,y∈U) (sub2:∀ y∈kb,y∈U)
  (heach:∀ h' (Q:Unit->Shared->Prop),cw P w h' b kb eb epb tb->Q () { s with heap:=h' }->wpAny (model P w) A each Q E { s with heap:=h' })
  (h:∀ h' ks',Heap.SameBut a s.heap h'->cg P w h' a ks'->(∀ y,y∈ks'↔y∈ks\/y∈kb)->Q () { s with heap:=h' }) :
  wpAny (model P w) A (setMerge a b each) Q E s:=by
 have szb:=Sb.size
 obtain⟨ob,hob,hexb,hdb,helb,hkb,ndb,gb,fewb,ledb⟩:=id Sb
 have l1:ks.length<=62:=CV (Ff Sa.nodup sub1) few
 have l2:kb.length<=62:=CV (Ff ndb sub2) few
 unfold setMerge
 rw[CD (show ¬ ((a == b)=true) by simpa using ne)]
 refine Cq (Sb.state ?_)
 dsimp only
 by_cases em:eb.isEmpty=true
 ·rw[CG em]
  have:kb=[]:=Ey (by rw[<- szb];simpa [Array.isEmpty] using em)
  exact Cu (h s.heap ks (Heap.SameBut.refl _ _) Sa λ y=>by rw[this];simp)
 ·rw[CD em]
  have pos:0<eb.size:=by
   rcases Nat.eq_zero_or_pos eb.size with z|z
   ·exact absurd (by simp[Array.isEmpty,z]) em
   ·exact z
  refine Cq (tW Sa (by lia) pos λ h1 ks1 es1 ep1 t1 sb1 S1 p1 sl=>?_)
  have Sb1:cw P w h1 b kb eb epb tb:=Sb.at' λ o e=>by rw[sb1.2 b (Ne.symm ne)];exact e
  refine Cq (S1.state ?_)
  dsimp only
  have sz1:=S1.size
  have g1:=S1.good
  have hf:t1.fill=ks1.length:=by unfold fill;rw[g1.rise.size,g1.rise.clean,sz1];rfl
  obtain⟨o1,ho1,hex1,hd1,hel1,hks1,nd1,_,few1,led1⟩:=id S1
  have ledm:w.params.followText "set-order" = true\/(t1.led && tb.led)=true:=by
   rcases led1 with z|z
   ·exact .inl z
   rcases ledb with y|y
   ·exact .inl y
   ·exact .inr (by rw[z,y];rfl)
  have plm:(t1.plain && tb.plain)=true:=by rw[g1.plain,gb.plain];rfl
  have none1:t1.fill=0->∀ y,y∈kb↔y∈ks\/y∈kb:=λ z y=>by
   have:ks1=[]:=Ey (by rw[<- hf];exact z)
   have:ks=[]:=by rw[this] at p1;exact p1.symm.eq_nil
   rw[this];simp
  unfold road
  by_cases f0:t1.fill=0
  ·rw[f0]
   simp only[Ge,CS,↓reduceIte]
   by_cases same:(t1.mask == tb.mask && tb.dummies.isEmpty)=true
   ·rw[CG same]
    dsimp only
    refine S1.store helb (by rw[hkb];exact ndb) ⟨⟨gb.rise.size,gb.rise.up,gb.rise.clean,gb.rise.few⟩,gb.pow,plm,gb.slack⟩ fewb ledm λ h2 sb2 S2=>?_
    rw[hkb] at S2
    exact h h2 kb (sb1.trans sb2) S2.lW (none1 f0)
   ·rw[CD same]
    dsimp only
    have sl':eb.size*5<t1.mask*3:=by lia
    obtain⟨t',order,e,r,m,l,pl,p⟩:=nZ (mask:=t1.mask) (finger:=t1.finger) (moves:=t1.moves) (led:=t1.led && tb.led) (plain:=t1.plain && tb.plain) g1.pow (hs:=eb.map (·.1)) (by rw[E9];lia)
    rw[E9] at r p
    rw[e]
    have q:=rA p
    have sz2:(order.filterMap (eb[·]?)).size=eb.size:=by rw[<- CK,q.length_eq,CK]
    have kp:((order.filterMap (eb[·]?)).toList.map ke).Perm kb:=by have:=q.map ke;rwa [hkb] at this
    refine Cq (DH (a:=(order.filterMap (eb[·]?),t')) ?_ ?_)
    ·show (if ((order.filterMap (eb[·]?)).size != eb.size)=true then (unsupported "internal:set-table-lost-an-element" >>= λ _=>pure (order.filterMap (eb[·]?),t')) else pure (order.filterMap (eb[·]?),t'):Sem _)=_
     rw[sz2]
     simp
    ·dsimp only
     refine S1.store (helb.perm q) (kp.nodup_iff.mpr ndb) ⟨by rw[sz2];exact r,by rw[m];exact g1.pow,by rw[pl];exact plm,by rw[sz2,m];exact sl'⟩ (by rw[sz2];exact fewb) (by rw[l];exact ledm) λ h2 sb2 S2=>?_
     exact h h2 _ (sb1.trans sb2) S2.lW λ y=>by rw[kp.mem_iff];exact none1 f0 y
  ·rw[CG (by simpa using f0)]
   dsimp only
   refine Cq (rq Sb1 λ xs px=>?_)
   have helx:ElemsOf (intKind P w) xs.toList:=helb.perm px
   have memx:∀ y,y∈xs.toList.map ke↔y∈kb:=λ y=>by rw[<- hkb];exact(px.map ke).mem_iff
   refine Cq (MeetsSeq2.wpAny_forIn_array _ (λ rest _ s'=>∃ h2 ks2,s'={ s with heap:=h2 }/\Heap.SameBut a s.heap h2/\cg P w h2 a ks2/\(∀ y∈ks2,y∈ks\/y∈kb)/\(∀ y∈ks,y∈ks2)/\(∀ y∈kb,y∈ks2\/y∈rest.map ke)/\ElemsOf (intKind P w) rest/\∀ y∈rest.map ke,y∈kb) _ ?_ ?_ xs _ ⟨h1,ks1,rfl,sb1,S1.lW,λ y z=>.inl (p1.mem_iff.mp z),λ y z=>p1.mem_iff.mpr z,λ y z=>.inr ((memx y).mpr z),helx,λ y z=>(memx y).mp z⟩)
   ·rintro⟨hx,x⟩ rest _ s' ⟨h2,ks2,rfl,sb2,S2,m1,m2,m3,er,mr⟩
    obtain⟨⟨k,hk,hh⟩,_⟩:=er (hx,x) CJ
    obtain⟨tok,q⟩:=Value.isInt_shape (show Value.isInt k x=true from hk)
    have hh':hx=hashInt k:=hh
    subst q;subst hh'
    have kk:ke (hashInt k,Value.int k tok)=k:=rfl
    have kin:k∈kb:=mr k (by rw[Dc,kk];exact CJ)
    have lk:ks2.length<=62:=CV (Ff S2.nodup λ y z=>(m1 y z).elim (sub1 y) (sub2 y)) few
    refine Cq (C8 (qi S2 lk λ _ h3 ks3 sb3 S3 m _=>?_))
    have Sb3:cw P w h3 b kb eb epb tb:=Sb.at' λ o e=>by rw[sb3.2 b (Ne.symm ne),sb2.2 b (Ne.symm ne)];exact e
    refine Cq (heach h3 _ Sb3 (Cq (Sb3.state ?_)))
    dsimp only
    rw[CD (by simp)]
    refine Cu ⟨h3,ks3,rfl,sb2.trans sb3,S3,λ y z=>?_,λ y z=>(m y).mpr (.inl (m2 y z)),λ y z=>?_,λ e he=>er e (CH _ he),λ y z=>mr y (by rw[Dc];exact CH _ z)⟩
    ·rcases (m y).mp z with z|rfl
     ·exact m1 y z
     ·exact .inr kin
    ·rcases m3 y z with z|z
     ·exact .inl ((m y).mpr (.inl z))
     ·rw[Dc,kk] at z
      rcases Cz.mp z with rfl|z
      ·exact .inl ((m y).mpr (.inr rfl))
      ·exact .inr z
   ·rintro _ s' ⟨h2,ks2,rfl,sb2,S2,m1,m2,m3,_,_⟩
    refine Cu (h h2 ks2 sb2 S2 λ y=>⟨m1 y,λ z=>z.elim (m2 y) λ z=>(m3 y z).elim id λ z=>by cases z⟩)
end
section
variable {P:Program}{w:World}{A:Around}{E:Value->Shared->Prop}{s:Shared}{a b:Addr}{ks:List Int}
theorem cg.typeIs (S:cg P w s.heap a ks):s.TypeIs (.ref a) "set":=by
 obtain⟨o,es,z,t,q,j,r⟩:=S
 exact⟨o,q,j.1⟩
theorem qy:entryFor table "set.__or__" = some Builtin.«frozenset.__or__» :=
 Gy (id':="frozenset.__or__") (by kernel_rfl) rfl (by decide +kernel) (by kernel_rfl)
theorem gQ (T:s.TypeIs (.ref a) "set") (h:Q true s):wpAny (model P w) A (Builtin.Frozenset.isAnySet (.ref a)) Q E s:=by
 unfold Builtin.Frozenset.isAnySet orM
 refine Cq (Ec T F9 ?_)
 exact Cu h
theorem sF (T:s.TypeIs (.ref a) "set") (h:Q (.type "set") s):wpAny (model P w) A (Builtin.Frozenset.baseOf a) Q E s:=by
 unfold Builtin.Frozenset.baseOf
 refine Cq (Ec T F9 ?_)
 exact Cu h
theorem i3 (S:cw P w s.heap a ks es ep t) (h:Q ep s):wpAny (model P w) A (setEpoch a) Q E s:=by
 unfold setEpoch
 exact Cq (S.state (Cu h))
theorem zU {V R U:List Int}{Q:Value->Shared->Prop}(G:cg P w s.heap a V) (I:cg P w s.heap b R) (ne:a≠b)
  (L:U.length<=62) (q:∀ y∈V,y∈U) (O:∀ y∈R,y∈U)
  (h:∀ h' M,cg P w h' s.heap.objs.size M->(∀ y,y∈M↔y∈V\/y∈R)->(∀ c o,s.heap.get? c=some o->h'.get? c=some o)->Q (.ref s.heap.objs.size) { s with heap:=h' }) :
  wpAny (model P w) A (binaryOp .BitOr (.ref a) (.ref b)) Q E s:=by
 refine wpAny_binaryOp_same G.typeIs I.typeIs F.fills_set_or F.slot_set_or (DN F.slot_set_or G.typeIs qy ?_ (F.args_set_or_2 _ _))
 show wpAny _ A.in1 (Builtin.Frozenset.slot1 "__or__" _ >>= _) _ _ _
 refine Cq ?_
 unfold Builtin.Frozenset.slot1
 refine Cq (DH (a:=(.ref a,[.ref b])) rfl (Cu ?_))
 dsimp only
 simp only[CS,↓reduceIte]
 unfold andM
 refine Cq (Cq (gQ G.typeIs (gQ I.typeIs ?_)))
 simp only[EH,CS,↓reduceIte]
 refine Cq (Cu (Cq ?_))
 show wpAny _ A.in1 (Builtin.Frozenset.copyOf a >>= _) _ _ _
 refine Cq ?_
 unfold Builtin.Frozenset.copyOf
 refine Cq (sF G.typeIs (Cq (jL λ W hl=>?_)))
 refine Cq (Cu ?_)
 have na:a≠s.heap.objs.size:=CI G.lt
 have nb:b≠s.heap.objs.size:=CI I.lt
 obtain⟨ea,a3,ta,Ta⟩:=G.tab
 obtain⟨eb,S,tb,Tb⟩:=I.tab
 have Z:cg P w (s.heap.push { cls:=.type "set",dict:=none,data:=.set #[] 0 (.fresh 0 0 W) }) s.heap.objs.size []:=kY (Heap.get?_push_size _ rfl) hl
 refine Cq (mw (Ne.symm na) Z (Ta.at' λ o e=>Heap.get?_push_of_some _ e) L (λ y z=>by cases z) q (λ h' Q _ z=>Cu z) λ h1 k1 a1 S1 m1=>?_)
 refine Cu ?_
 dsimp only
 have Y:(Value.ref b != Value.ref a)=true:=by simpa using Ne.symm ne
 rw[CG Y]
 have j:∀ c o,s.heap.get? c=some o->h1.get? c=some o:=λ c o e=>by
  rw[a1.2 c (CI (Heap.lt_size e))];exact Heap.get?_push_of_some _ e
 refine Cq (Cu (Cq (C8 ?_)))
 unfold Builtin.Frozenset.updateFrom
 refine Cq (gQ (I.at' (j b)).typeIs ?_)
 simp only[↓reduceIte]
 refine Cq (Cu ?_)
 unfold Builtin.Frozenset.merge
 have J:cw P w h1 b R eb S tb:=Tb.at' (j b)
 refine Cq (i3 J ?_)
 refine mw (s:={ s with heap:=h1 }) (Ne.symm nb) S1 J L (λ y z=>(m1 y).mp z |>.elim (λ z=>by cases z) (q y)) O (λ h' Q T z=>?_) λ h2 k2 a2 S2 m2=>?_
 ·unfold Builtin.Frozenset.unchanged
  refine Cq (i3 T ?_)
  rw[CD (by simp)]
  exact Cu z
 ·refine Cu (Cu ⟨_,rfl,by simp,h h2 k2 S2 (λ y=>?_) λ c o e=>?_⟩)
  ·rw[m2,m1];simp
  ·rw[a2.2 c (CI (Heap.lt_size e))];exact j c o e
end
theorem fL:Slot "set_iterator" "__next__" "set_iterator.__next__" :=
 .of (owner:="set_iterator") (n:="__next__") (by rw[typeLookup_type,builtinLookup_eq_fast];kernel_rfl) (by decide +kernel) (by decide +kernel) (by decide +kernel)
  (by first|exact .inl (by decide +kernel)|exact .inr (by decide +kernel)) (by rw[Gx];kernel_rfl)
theorem lJ:entryFor table "set_iterator.__next__" = some Builtin.«set_iterator.__next__»:=entryFor_of_fast (by kernel_rfl)
theorem oP (a):argsOk "set_iterator.__next__" ⟨[a],[]⟩:=by unfold argsOk;kernel_rfl
theorem qo:entryFor table "set.__iter__" = some Builtin.«frozenset.__iter__» :=
 Gy (id':="frozenset.__iter__") (by kernel_rfl) rfl (by decide +kernel) (by kernel_rfl)
theorem mX (h:xs.toList.Pairwise (· < ·)) (e:xs[i]? = some j):below xs (j+1)=i+1:=by
 obtain⟨L,F,G⟩:=eD h (j+1)
 have hi:=(D0.mp e).1
 have h1:¬ below xs (j+1)<=i:=λ z=>by have:=G i j z e;lia
 have h2:¬ i+1<below xs (j+1):=λ z=>by
  have q:i+1<xs.size:=by lia
  have J:xs[i+1]? = some xs[i+1]:=C4 q
  have M:=F (i+1) _ z J
  have I:xs[i]=j:=(D0.mp e).2
  have:=ET.mp h i (i+1) (by simpa using hi) (by simpa using q) (D4 _)
  rw[Array.getElem_toList,Array.getElem_toList,I] at this
  lia
 lia
theorem nB (h:xs.toList.Pairwise (· < ·)):below xs 0=0:=by
 obtain⟨q,j,F⟩:=eD h 0
 rcases Nat.eq_zero_or_pos (below xs 0) with z|z
 ·exact z
 ·have:0<xs.size:=by lia
  have:=j 0 _ z (C4 this)
  lia
noncomputable def bC (w:World) (a:Addr) (ep:Nat) (es:Array (Int×Value)):Array (Int×Value):=if w.params.followText "set-order" = true then pickOrder (w.params.setOrder a ep) es else es
theorem fu (w) (a) (ep) (es:Array (Int×Value)):(bC w a ep es).toList.Perm es.toList:=by
 unfold bC
 split
 ·exact eV _ _
 ·exact List.Perm.refl _
theorem dr (w) (a) (ep) (es:Array (Int×Value)):(bC w a ep es).size=es.size:=by
 rw[<- CK,(fu w a ep es).length_eq,CK]
section
variable {P:Program}{w:World}{A:Around}{E:Value->Shared->Prop}{s:Shared}{a I:Addr}{ks:List Int}{es:Array (Int×Value)}{ep:Nat}{t:SetTable}
noncomputable def fB (w:World) (t:SetTable) (h:Heap) (I a:Addr) (i n ep:Nat):Prop:=∃ o slot,h.get? I=some o/\o.cls=.type "set_iterator" /\ o.data=.fields #[.int (slot:Nat) 0,.int i 0,.ref a,.int n 0,.int ep 0]/\(w.params.followText "set-order" = true\/below t.place slot=i)
theorem fB.typeIs (x:fB w t s.heap I a i n ep):s.TypeIs (.ref I) "set_iterator":=by
 obtain⟨o,_,q,j,_⟩:=x;exact⟨o,q,j⟩
theorem qp (S:cw P w s.heap a ks es ep t) (j:w.params.followText "set-order" = true)
  (h:Q (bC w a ep es) s):wpAny (model P w) A (setWalk a) Q E s:=by
 unfold setWalk setsByText
 refine Cq (S.state ?_)
 dsimp only
 refine Cq (Cq (Ed (Cu ?_)))
 dsimp only
 unfold bC at h
 rw[CG j] at h
 split
 ·exact Cq (Ed (Cu h))
 ·next c=>exact absurd j c
theorem iW {j i:Nat}{Q:Option (Value×Nat)->Shared->Prop}(S:cw P w s.heap a ks es ep t) (J:w.params.followText "set-order" = true\/below t.place j=i)
  (hs:∀ e z,(bC w a ep es)[i]? = some e->(w.params.followText "set-order" = true\/below t.place z=i+1)->Q (some (e.2,z)) s)
  (G:(bC w a ep es)[i]? = none->Q none s):wpAny (model P w) A (setNext a j i ep) Q E s:=by
 obtain⟨os,a2,Z,W,Y,a1,nd,g,V,L⟩:=id S
 unfold setNext setsByText
 refine Cq (S.state ?_)
 dsimp only
 refine Cq (Cq (Ed (Cu ?_)))
 dsimp only
 split
 ·next c=>
  rw[CD (by simp)]
  refine Cq (qp S c (Cu ?_))
  cases q:(bC w a ep es)[i]? with
  | none=>exact G q
  | some e=>exact hs e j q (.inl c)
 ·next c=>
  have hl:t.led=true:=L.resolve_left c
  have hi:below t.place j=i:=J.resolve_left c
  have wo:bC w a ep es=es:=by unfold bC;exact CD c
  split
  ·next d=>
   have O:(!t.plain && decide (es.size>1))=true:=d
   rw[g.plain] at O
   cases O
  ·refine Cq (DH (a:=()) ?_ (Cu ?_))
   ·show (if (!t.led && !es.isEmpty)=true then unsupported "set:maker-not-led" else pure ():Sem Unit)=_
    rw[hl]
    rfl
   ·rw[hi]
    rw[wo] at hs G
    by_cases U:i<es.size
    ·have M:i<t.place.size:=by rw[g.rise.size];exact U
     have F:es[i]? = some es[i]:=C4 U
     have R:t.place[i]? = some t.place[i]:=C4 M
     rw[F,R]
     exact hs es[i] (t.place[i]+1) F (.inr (mX g.rise.up R))
    ·have F:es[i]? = none:=DF (by lia)
     rw[F]
     exact G F
theorem next_item {i:Nat}{e:Int×Value}{Q:Option Value->Shared->Prop}(V:fB w t s.heap I a i es.size ep) (S:cw P w s.heap a ks es ep t) (U:(bC w a ep es)[i]? = some e)
  (h:∀ h',Heap.SameBut I s.heap h'->fB w t h' I a (i+1) es.size ep->Q (some e.2) { s with heap:=h' }):wpAny (model P w) A (pyNext (.ref I)) Q E s:=by
 have T:=V.typeIs
 obtain⟨o,W,M,hc,J,R⟩:=V
 obtain⟨os,a5,a3,a1,a2,a4,nd,g,Z,a6⟩:=id S
 unfold pyNext
 refine Cq (EY (E5 (name:=Str.ofString "__next__") T fL (DN fL T lJ ?_ (oP _))))
 unfold Builtin.«set_iterator.__next__»
 refine Cq (DH (a:=(.ref I,[])) rfl ?_)
 refine Cq (FZ M J ?_)
 dsimp only
 unfold setEntries
 refine Cq (Cq (S.state (Cu ?_)))
 dsimp only
 rw[CD (by simp)]
 simp only[Dm]
 refine Cq (iW S R (λ Y j q G=>?_) λ q=>?_)
 ·rw[U] at q
  obtain rfl:e=Y:=Option.some.inj q
  dsimp only
  refine Cq (Fp M J (by simp) ?_)
  have F:=Heap.get?_update_self (Obj.mapFields (·.setIfInBounds 0 (rawInt j))) M (Obj.isFreed_of_fields (Obj.data_mapFields J _))
  have z:=Obj.data_mapFields J (·.setIfInBounds 0 (rawInt j))
  refine Cq (Fp F z (by simp) ?_)
  have O:=Heap.get?_update_self (Obj.mapFields (·.setIfInBounds 1 (rawInt ((i:Int)+1)))) F (Obj.isFreed_of_fields (Obj.data_mapFields z _))
  have L:=Obj.data_mapFields z (·.setIfInBounds 1 (rawInt ((i:Int)+1)))
  refine Cu ⟨_,rfl,Cu (h _ ((Heap.SameBut.update ..).trans (Heap.SameBut.update ..)) ⟨_,j,O,?_,?_,G⟩)⟩
  ·rw[Obj.cls_mapFields,Obj.cls_mapFields];exact hc
  ·rw[L];simp[rawInt]
 ·rw[U] at q;cases q
theorem next_end {i:Nat}{Q:Option Value->Shared->Prop}(R:A.handled=none) (L:fB w t s.heap I a i es.size ep) (S:cw P w s.heap a ks es ep t) (O:(bC w a ep es)[i]? = none)
  (h:∀ h',Heap.ExtBut I s.heap h'->Q none { s with heap:=h' }):wpAny (model P w) A (pyNext (.ref I)) Q E s:=by
 have T:=L.typeIs
 obtain⟨o,M,G,V,F,j⟩:=L
 unfold pyNext
 refine Cq (EY (E5 (name:=Str.ofString "__next__") T fL (DN fL T lJ ?_ (oP _))))
 unfold Builtin.«set_iterator.__next__»
 refine Cq (DH (a:=(.ref I,[])) rfl ?_)
 refine Cq (FZ G F ?_)
 dsimp only
 unfold setEntries
 refine Cq (Cq (S.state (Cu ?_)))
 dsimp only
 rw[CD (by simp)]
 simp only[Dm]
 refine Cq (iW S j (λ U z q J=>?_) λ q=>?_)
 ·rw[O] at q;cases q
 ·dsimp only
  refine Cq (Fp G F (by simp) ?_)
  refine Cq ?_
  simp only[newExc,newTuple]
  refine Cq (DX ?_ (by size_fits))
  refine Cq (m:=firstArgMember _ _) (DH (a:=Value.none) (by first|rfl|(simp only[firstArgMember];rfl)) ?_)
  refine DX ?_ (by size_fits)
  simp only[raiseNew]
  refine Cq (wpAny_handled ?_)
  rw[show A.in1.handled=none from R]
  refine Cq (Cu (wpAny_throw ?_))
  refine Cq (Ec (T:="StopIteration") (b:=true) ⟨_,Heap.get?_push_size _ rfl,rfl⟩ isSubtype_stop ?_)
  exact Cu (h _ (((Heap.SameBut.update ..).extBut.push _).push _))
theorem tN (S:cw P w s.heap a ks es ep t)
  (h:∀ o,fB w t (s.heap.push o) s.heap.objs.size a 0 es.size ep->Q (.ref s.heap.objs.size) { s with heap:=s.heap.push o }):wpAny (model P w) A (pyIter (.ref a)) Q E s:=by
 obtain⟨V,O,L,G,J,M,U,g,z,R⟩:=id S
 have T:s.TypeIs (.ref a) "set":=S.lW.typeIs
 refine F8 T F.slot_set_iter (DN F.slot_set_iter T qo ?_ (F.args_set_iter_1 _))
 unfold Builtin.«frozenset.__iter__» Builtin.Frozenset.slot0
 refine Cq (Cq (DH (a:=(.ref a,[])) rfl (Cu ?_)))
 unfold Builtin.Frozenset.sizeOf setEntries
 refine Cq (Cq (Cq (S.state (Cu (Cu ?_)))))
 unfold setDrawn setsByText
 refine Cq (Cq (S.state ?_))
 dsimp only
 refine Cq (Cq (Ed (Cu (Cu ?_))))
 have j:(!(model P w).w.params.followText "set-order" && (!t.plain && decide (es.size>1)))=false:=by rw[g.plain];simp
 split
 ·next c=>
  have q:(!(model P w).w.params.followText "set-order" && (!t.plain && decide (es.size>1)))=true:=c
  rw[j] at q;cases q
 ·refine Cq (Cu (Cq (i3 S ?_)))
  unfold newFields
  refine Cq (DX (Cu ⟨_,rfl,"set_iterator",_,⟨_,Heap.get?_push_size _ rfl,rfl⟩,fL.lookup,h _ ⟨_,0,Heap.get?_push_size _ rfl,rfl,rfl,.inr (nB g.rise.up)⟩⟩))
theorem om:Slot "set_iterator" "__iter__" "set_iterator.__iter__" :=
 .of (owner:="set_iterator") (n:="__iter__") (by rw[typeLookup_type,builtinLookup_eq_fast];kernel_rfl) (by decide +kernel) (by decide +kernel) (by decide +kernel)
  (by first|exact .inl (by decide +kernel)|exact .inr (by decide +kernel)) (by rw[Gx];kernel_rfl)
theorem qW:entryFor table "set_iterator.__iter__" = some Builtin.«dict_keyiterator.__iter__» :=
 Gy (id':="dict_keyiterator.__iter__") (by kernel_rfl) rfl (by decide +kernel) (by kernel_rfl)
theorem uC (a):argsOk "set_iterator.__iter__" ⟨[a],[]⟩:=by unfold argsOk;kernel_rfl
theorem lE (j:fB w t s.heap I a i n ep) (h:Q (.ref I) s):wpAny (model P w) A (pyIter (.ref I)) Q E s:=by
 have T:=j.typeIs
 refine F8 T om (DN om T qW ?_ (uC _))
 unfold Builtin.«dict_keyiterator.__iter__»
 exact Cq (DH (a:=(.ref I,[])) rfl (Cu ⟨_,rfl,"set_iterator",_,T,fL.lookup,h⟩))
theorem fB.at' (x:fB w t h I a i n ep) (e:∀ o,h.get? I=some o->h'.get? I=some o):fB w t h' I a i n ep:=by
 obtain⟨o,j,q,r⟩:=x;exact⟨o,j,e o q,r⟩
theorem p9 (M:A.handled=none) (R:a≠I):Walks P w A I [I,a] [I] es.size (λ i v=>∃ e,(bC w a ep es)[i]? = some e/\v=e.2) (λ i h=>fB w t h I a i es.size ep/\cw P w h a ks es ep t) where
 sub:=λ b j=>by simp at j;simp[j]
 frame:=λ i h h' st J=>⟨st.1.at' λ o e=>J I (by simp) o e,st.2.at' λ o e=>J a (by simp) o e⟩
 item:=λ i s Q E hi st q=>by
  have O:i<(bC w a ep es).size:=by rw[dr];exact hi
  have G:(bC w a ep es)[i]? = some (bC w a ep es)[i]:=C4 O
  refine next_item st.1 st.2 G λ h' L F=>?_
  exact q _ h' s.toks ⟨_,G,rfl⟩ ⟨F,st.2.at' λ o e=>by rw[L.2 a R];exact e⟩ λ b o j e=>by rw[L.2 b (λ z=>j (by simp[z]))];exact e
 done:=λ s Q E st q=>by
  refine next_end M st.1 st.2 (DF (by rw[dr];exact Nat.le_refl _)) λ h' ex=>?_
  exact q h' s.toks λ b o j e=>ex b o (λ z=>j (by simp[z])) e
 self:=λ i s Q E st q=>lE st.1 q
theorem nT:∀ {l:List (Int×Value)},ElemsOf (intKind P w) l->PyProof.Rows.IntsAre (l.map (·.2)) (l.map ke)
 | [],_=>.nil
 | e::l,h=>by
  obtain⟨⟨k,F,_⟩,_⟩:=h e CJ
  obtain⟨j,q⟩:=Value.isInt_shape (show Value.isInt k e.2=true from F)
  obtain⟨x,v⟩:=e
  subst q
  exact .cons k j (nT λ e z=>h e (CH _ z))
theorem rP {xs:Array (Int×Value)}{acc:Array Value}(h:ItemsOf (λ i v=>∃ e,xs[i]? = some e/\v=e.2) acc xs.size):acc.toList=xs.toList.map (·.2):=by
 refine Ep λ i=>?_
 rw[Cw,C7,C7]
 by_cases q:i<acc.size
 ·have j:=C4 q
  obtain⟨e,z,F⟩:=h.2 i _ j
  rw[j,z,F];rfl
 ·rw[DF (by lia),DF (by have:=h.1;lia)];rfl
theorem m6 {Q:List Value->Shared->Prop}(hh:A.handled=none) (S:cg P w s.heap a ks)
  (h:∀ (vs:List Value) (ns:List Int) h' tk,PyProof.Rows.IntsAre vs ns->ns.Perm ks->(∀ b o,s.heap.get? b=some o->h'.get? b=some o)->Q vs { s with heap:=h',toks:=tk }) :
  wpAny (model P w) A (collect (.ref a)) Q E s:=by
 obtain⟨es,ep,t,S⟩:=S.tab
 have la:a<s.heap.objs.size:=S.lW.lt
 have ne:s.heap.objs.size≠a:=DA la
 unfold collect
 refine Cq (Gw (Du F.entry_proto_collect ?_))
 rw[Around.under_plainId F.plain_proto_collect _]
 unfold Builtin.«proto.collect»
 refine Cq (Fz ?_)
 refine Cu ⟨DG F.plain_list_iadd _,Du F.entry_list_iadd ?_⟩
 rw[Around.under_plainId F.plain_list_iadd _]
 unfold Builtin.«list.__iadd__»
 refine Cq (DH (a:=(.ref s.heap.objs.size,[.ref a])) rfl ?_)
 dsimp only
 unfold Builtin.List.listExtendWith
 have V:=S.at' (h':=s.heap.push { cls:=.type "list",data:=.seq ([]:List Value).toArray }) λ o e=>Heap.get?_push_of_some _ e
 have T1:Shared.TypeIs { s with heap:=s.heap.push { cls:=.type "list",data:=.seq ([]:List Value).toArray } } (.ref a) "set":=V.lW.typeIs (s:={ s with heap:=s.heap.push { cls:=.type "list",data:=.seq ([]:List Value).toArray } })
 refine Cq (FK T1 ?_)
 have h1:Builtin.List.listSameRef (.ref s.heap.objs.size) (.ref a)=false:=by simp[Builtin.List.listSameRef,ne]
 have h2:(Value.type "set" == Value.type "list")=false:=by decide
 have h3:(Value.type "set" == Value.type "tuple")=false:=by decide
 simp only[h1,h2,h3,Bool.or_false,CS,DJ]
 refine Cq (tN V λ J it=>?_)
 refine Cq (C8 ?_)
 unfold Builtin.List.listLengthHint
 have W:=V.at' (h':=(s.heap.push { cls:=.type "list",data:=.seq ([]:List Value).toArray }).push J) λ o e=>Heap.get?_push_of_some _ e
 have R:Shared.TypeIs { s with heap:=(s.heap.push { cls:=.type "list",data:=.seq ([]:List Value).toArray }).push J } (.ref a) "set":=W.lW.typeIs (s:={ s with heap:=(s.heap.push { cls:=.type "list",data:=.seq ([]:List Value).toArray }).push J })
 refine Cq (Fi R F.slot_set_len.lookup ?_)
 wp_delta
 refine Cq (Ec R F9 ?_)
 show wpAny _ A.in1 (typeOf (Value.ref a) >>= _) _ _ _
 refine Cq (FK R (Cu ?_))
 rw[CG (by decide)]
 refine Cq (Ez ?_)
 generalize hH:s.heap.push { cls:=.type "list",data:=.seq ([]:List Value).toArray }=H at it W R ⊢
 have M:H.objs.size=s.heap.objs.size+1:=by rw[<- hH,Heap.size_push]
 have j:(H.push J).get? s.heap.objs.size=some { cls:=.type "list",data:=.seq ([]:List Value).toArray }:=Heap.get?_push_of_some _ (hH ▸ Heap.get?_push_size _ rfl)
 show wpAny _ A.in1 (Builtin.List.listTouch (.ref s.heap.objs.size) >>= _) _ _ _
 refine Cq ?_
 show wpAny _ A.in1 (updateSeq s.heap.objs.size (·.push .none) >>= λ _=>updateSeq s.heap.objs.size (·.pop)) _ _ _
 refine Cq (D1 j rfl ?_)
 have q:=Heap.get?_update_self (Obj.mapSeq (·.push Value.none)) j rfl
 refine D1 q rfl ?_
 have z:=Heap.get?_update_self (Obj.mapSeq (·.pop)) q rfl
 have G:∀ b o,b≠s.heap.objs.size->(H.push J).get? b=some o->(((H.push J).update s.heap.objs.size (Obj.mapSeq (·.push Value.none))).update s.heap.objs.size (Obj.mapSeq (·.pop))).get? b=some o:=
  λ b o hb e=>(Heap.get?_update_other _ _ (Ne.symm hb)).trans ((Heap.get?_update_other _ _ (Ne.symm hb)).trans e)
 have nI:s.heap.objs.size≠H.objs.size:=by lia
 have a2:s.heap.objs.size∉[H.objs.size,a]:=by simp only[Cz,CC,C2,EU];exact⟨nI,ne⟩
 have Z:es.size<=sizeLine:=eE (by have:=S.lW.few;have:=S.size;lia)
 refine Cu ⟨DG F.plain_extend_loop _,codeAny_extend_loopS (p9 (A:=A.in1) (ks:=ks) (t:=t) (es:=es) (ep:=ep) hh (I:=H.objs.size) (CI (by rw[M];exact DC la))).toS Z _ a2 _ es.size 0 _ _ _ rfl (Dq _)
  ⟨it.at' λ o e=>G _ o (Ne.symm nI) e,W.at' λ o e=>G _ o (Ne.symm ne) e⟩ z (ItemsOf.nil _) λ s' L c' U a1 O=>?_⟩
 obtain⟨h',g',d',a6,a5⟩:=s'
 obtain rfl:g'=s.gens:=U.gens
 obtain rfl:d'=s.drawn:=U.drawn
 obtain rfl:a5=s.os:=U.os
 show wpAny _ A (load s.heap.objs.size >>= _) _ _ _
 refine Cq (wpAny_load a1 (Cu ?_))
 obtain⟨_,_,_,_,a3,a4,_⟩:=S
 have Y:L.toList=(bC w a ep es).toList.map (·.2):=rP (by rw[dr];exact O)
 have p:=fu w a ep es
 refine h _ ((bC w a ep es).toList.map ke) h' a6 (by rw[Y];exact nT (a3.perm p)) (by rw[<- a4];exact p.map ke) λ b o e=>U.heap b o ?_ (G b o (CI (Heap.lt_size e)) (Heap.get?_push_of_some _ (hH ▸ Heap.get?_push_of_some _ e)))
 have:=Heap.lt_size e
 simp only[Cz,CC,C2,EU]
 exact⟨CI this,CI (by show b<H.objs.size;rw[M];exact DC this)⟩
theorem mM {Q:Fin->Shared->Prop}{vs:List Value}{ns:List Int}(hI:PyProof.Rows.IntsAre vs ns) (h64:vs.length<64)
  (h:∀ (out:Array Value) (ns':List Int) h' c,(∀ b o,s.heap.get? b=some o->h'.get? b=some o)->h'.get? s.heap.objs.size=some { cls:=.type "list",dict:=none,data:=.seq out c,slots:=#[] }->PyProof.Rows.IntsAre out.toList ns'->ns'.Perm ns->ns'.Pairwise (· <= ·) ->
   Q (.done (.ret (.ref s.heap.objs.size))) { s with heap:=h' }) :
  wpAny (model P w) A (do let l <- newList vs;let _ <- holding [l] (call (.builtin "list.sort") [l] []);ret l) Q E s:=by
 refine Cq (Fz ?_ (eE (EB h64)))
 have hoL:(s.heap.push (PyProof.Rows.seqObj "list" vs.toArray 0)).get? s.heap.objs.size=some (PyProof.Rows.seqObj "list" vs.toArray 0):=Heap.get?_push_size _ rfl
 refine Cq (C8 (DN PyProof.Rows.slot_list_sort ⟨_,hoL,rfl⟩ PyProof.Rows.entry_list_sort (PyProof.Rows.list_sort_tree hoL hI h64 λ out ns' a1 a2 a3=>⟨_,rfl,?_⟩) (PyProof.Rows.args_list_sort _)))
 obtain⟨e,he⟩:=PyProof.Rows.sortedHeap_at (out:=out) hoL
 refine Cu (h out ns' _ e (λ b o q=>?_) he a1 a2 a3)
 have lt:=Heap.lt_size q
 show (PyProof.Rows.sortedHeap (s.heap.push (PyProof.Rows.seqObj "list" vs.toArray 0)) s.heap.objs.size vs out).get? b=some o
 rw[PyProof.Rows.sortedHeap_old (CI lt) (by rw[Heap.size_push];exact DC lt)]
 exact Heap.get?_push_of_some _ q
theorem pF {Q:Value->Shared->Prop}{x:Value}
  (hc:wpAny (model P w) A.in1 (collect x) (λ vs s1=>∃ ns,PyProof.Rows.IntsAre vs ns/\vs.length<64 /\
   ∀ (out:Array Value) (ns':List Int) h' c,(∀ b o,s1.heap.get? b=some o->h'.get? b=some o)->h'.get? s1.heap.objs.size=some { cls:=.type "list",dict:=none,data:=.seq out c,slots:=#[] }->PyProof.Rows.IntsAre out.toList ns'->ns'.Perm ns->ns'.Pairwise (· <= ·) ->
    Q (.ref s1.heap.objs.size) { s1 with heap:=h' }) E s) :
  wpAny (model P w) A (call (.builtin "sorted") [x]) Q E s:=by
 refine Calls.call_function_entry PyProof.Rows.kind_sorted PyProof.Rows.plain_sorted PyProof.Rows.entry_sorted (PyProof.Rows.args_sorted1 _) ?_
 unfold Builtin.«sorted»
 refine Cq (m:=checkCount "sorted" 1 1 _) (Cu ?_)
 refine Cq (Dp hc (λ vs s1 h1=>?_) λ _ _ e=>e)
 obtain⟨ns,hI,h64,fin⟩:=h1
 exact mM hI h64 λ out ns' h' c a b d e f=>⟨_,rfl,fin out ns' h' c a b d e f⟩
end
end SetT
namespace L2
open PySem PySem.Spec PyProof.Rows SetT
noncomputable def eZ (P:Program) (w:World) (a:Addr) (ks:List Int):HO:=.ext λ h=>cg P w h a ks
theorem eZ.ok (S:cg P w h a ks):bu P w H h a (eZ P w a ks):=
 ⟨S,let ⟨o,_,_,_,e,_⟩:=S;⟨o,e⟩,λ _ _ S e=>S.at' e⟩
theorem eZ.get (x:bu P w H h a (eZ P w a ks)):cg P w h a ks:=x.1
noncomputable def iV (ns:List Int):List V:=ns.map V.int
theorem j9:∀ {ns:List Int}{us:List Value},Vals (iV ns) us->IntsAre us ns
 | [],_,.nil=>.nil
 | n::ns,_,.cons r t=>by
  obtain⟨j,rfl⟩:=r
  exact .cons n j (j9 t)
theorem oY:∀ {ns:List Int}{us:List Value},IntsAre us ns->Vals (iV ns) us
 | _,_,.nil=>.nil
 | _,_,.cons n t j=>.cons ⟨t,rfl⟩ (oY j)
section
variable {X:Cx}{K:PySem.W.Frag}{P:Program}{w:World}
noncomputable def vP (K:PySem.W.Frag) (P:Program) (w:World):List V->Hp->VK->Prop:=λ xs H Q=>∃ p ns,xs=[.ref p]/\SqL K H p (iV ns)/\ns.length<=63 /\
 ∀ l ks,H l=none->ks.Nodup->(∀ y,y∈ks↔y∈ns)->Q (.ref l) (upd H l (eZ P w l ks))
theorem jQ (J:X.calm=true) (F:X.K=K:=by rfl) (G:X.prog=P:=by rfl) (M:X.w=w:=by rfl):cq X (.type "set") (vP K P w):=by
 subst F;subst G;subst M
 intro pins s σ H xs us Q I r h
 obtain⟨p,ns,rfl,L,z,q⟩:=h
 obtain⟨u,rfl,Y⟩:=vals1 r
 cases Y
 obtain⟨O,W,V,Z⟩:=I.list L
 have j:=j9 W
 have U:=IntsAre.length j
 refine mL (I.ok.hd J) V.isList (by simpa using j) (by simp only[C0];lia) λ h' tk ks S m R=>?_
 exact⟨.ref s.heap.objs.size,_,I.laid R (Nat.le_refl _) (eZ.ok S),rfl,q _ ks I.fresh S.nodup m⟩
noncomputable def B8 (P:Program) (w:World):R2:=λ x y H Q=>∃ (p q:Addr) (ka kb U:List Int),x=.ref p/\y=.ref q/\p≠q/\H p=some (eZ P w p ka)/\H q=some (eZ P w q kb)/\U.length<=62/\(∀ y∈ka,y∈U)/\(∀ y∈kb,y∈U) /\
 ∀ l ks,H l=none->ks.Nodup->(∀ y,y∈ks↔y∈ka\/y∈kb)->Q (.ref l) (upd H l (eZ P w l ks))
theorem wF (F:X.prog=P:=by rfl) (L:X.w=w:=by rfl):OpR X (binaryOp .BitOr) (B8 P w):=by
 subst F;subst L
 intro pins s σ H x y v u Q I R V h
 obtain⟨p,q,Z,kb,U,rfl,rfl,O,G,J,j,W,Y,z⟩:=h
 cases R;cases V
 refine zU (eZ.get (I.hok _ _ G)) (eZ.get (I.hok _ _ J)) O j W Y λ h' ks S m M=>?_
 exact⟨.ref s.heap.objs.size,_,I.laid (t':=s.toks) M (Nat.le_refl _) (eZ.ok S),rfl,z _ ks I.fresh S.nodup m⟩
noncomputable def wI (P:Program) (w:World):List V->Hp->VK->Prop:=λ xs H Q=>∃ p ks,xs=[.ref p]/\H p=some (eZ P w p ks) /\
 ∀ l ns,H l=none->ns.Perm ks->ns.Pairwise (· <= ·)->Q (.ref l) (upd H l (.lst (iV ns)))
theorem mG (U:X.calm=true) (R:X.prog=P:=by rfl) (W:X.w=w:=by rfl):cq X (.builtin "sorted") (wI P w):=by
 subst R;subst W
 intro pins s σ H xs us Q I r h
 obtain⟨p,ks,rfl,V,q⟩:=h
 obtain⟨u,rfl,rx⟩:=vals1 r
 cases rx
 have S:=eZ.get (I.hok _ _ V)
 refine pF (m6 (by simpa using I.ok.hd U) S λ vs ns h1 tk M J Z=>⟨ns,M,?_,λ G j h' c F e O z so=>?_⟩)
 ·have:=S.few;have:=J.length_eq;have:=IntsAre.length M;lia
 ·have L:Inv X pins σ H { s with heap:=h1,toks:=tk }:=I.kept Z
  have Y:(iV j).length<=sizeLine:=by
   unfold iV;rw[Cy,z.length_eq,J.length_eq];exact eE (CV S.few (by lia))
  exact⟨.ref h1.objs.size,_,L.laid (t':=tk) F (Nat.le_refl _) (show bu X.prog X.w _ h' _ (.lst (iV j)) from ⟨Y,G.toList,c,oY O,by rw[e]⟩),rfl,q _ j L.fresh (z.trans J) so⟩
end
noncomputable def dC (lo hi:Int):List Int:=(List.range (hi-lo).toNat).map λ i:Nat=>lo+i
theorem dU {lo hi y:Int}:y∈dC lo hi↔lo<=y/\y<hi:=by
 unfold dC
 rw[CL]
 constructor
 ·rintro⟨i,hi,rfl⟩
  rw[Eg] at hi
  lia
 ·rintro⟨h1,h2⟩
  exact⟨(y-lo).toNat,Eg.mpr (by lia),by lia⟩
theorem dG {lo hi:Int}:(dC lo hi).length=(hi-lo).toNat:=by unfold dC;rw[Cy,EK]
section
variable {X:Cx}{K:PySem.W.Frag}{P:Program}{w:World}
noncomputable def zS:List V->Hp->VK->Prop:=λ xs H Q=>∃ i j:Int,xs=[.int i,.int j]/\∀ l,H l=none->Q (.ref l) (upd H l (.rng i j))
theorem pA:cq X (.type "range") zS:=by
 intro pins s σ H xs J Q I r h
 obtain⟨i,j,rfl,q⟩:=h
 cases r with
 | cons r z=>
  cases z with
  | cons F z=>
   cases z
   obtain⟨t,rfl⟩:=r
   obtain⟨G,rfl⟩:=F
   refine call_range_2 ⟨.ref s.heap.objs.size,_,I.laid (λ b o e=>Heap.get?_push_of_some _ e) (Nat.le_refl _) (show bu X.prog X.w _ _ _ (.rng i j) from ⟨_,_,_,Heap.get?_push_size _ rfl⟩),rfl,q _ I.fresh⟩
noncomputable def wj:List V->Hp->VK->Prop:=λ xs H Q=>∃ (p:Addr) (i j:Int),xs=[.ref p]/\H p=some (.rng i j)/\(-(2 ^ 62)<=i/\i<2 ^ 62 /\ -(2 ^ 62)<=j/\j<2 ^ 62)/\(j-i).toNat<=1000/\∀ l,H l=none->Q (.ref l) (upd H l (.lst (iV (dC i j))))
theorem pP:∀ {n:Nat}{acc:Array Value},ItemsOf (λ k v=>∃ t,v=Value.int (i+k*1) t) acc n->Vals (iV ((List.range n).map λ k:Nat=>i+k)) acc.toList:=by
 intro n acc h
 have j:∀ (l:List Value) (m:Nat),(∀ k v,l[k]? = some v->∃ t,v=Value.int (i+((m+k:Nat):Int)) t)->Vals (iV ((List.range' m l.length).map λ k:Nat=>i+k)) l:=by
  intro l
  induction l with
  | nil=>intro m _;exact .nil
  | cons v l z=>
   intro m q
   obtain⟨t,rfl⟩:=q 0 v rfl
   refine .cons ⟨t,rfl⟩ (z (m+1) λ k u e=>?_)
   obtain⟨t,rfl⟩:=q (k+1) u (by simpa using e)
   exact⟨t,by rw[show m+(k+1)=m+1+k by lia]⟩
 have:=j acc.toList 0 λ k v e=>by
  obtain⟨t,rfl⟩:=h.2 k v (by rw[<- C7];exact e)
  exact⟨t,by simp⟩
 rw[CK,h.1,<- List.range_eq_range'] at this
 exact this
theorem dY (U:X.calm=true):cq X (.type "list") wj:=by
 intro pins s σ H xs us Q I r h
 obtain⟨p,i,j,rfl,W,⟨J,L,M,O⟩,G,q⟩:=h
 obtain⟨u,rfl,rx⟩:=vals1 r
 cases rx
 obtain⟨t,u,v,e⟩:=I.hok _ _ W
 have V:Builtin.Range.rangeSize i j 1=((j-i).toNat:Nat):=by rw[rangeSize_one];split<;>lia
 refine call_list_range (I.ok.hd U) e (small_one J L M O) V (by lia) λ h' tk z R Z S F=>?_
 have Y:(iV (dC i j)).length<=sizeLine:=by
  unfold iV;rw[Cy,dG]
  exact CV G (by decide)
 refine⟨.ref s.heap.objs.size,_,I.laid Z (Nat.le_refl _) (show bu X.prog X.w _ h' _ (.lst (iV (dC i j))) from ⟨Y,z.toList,R,pP F,by rw[S]⟩),rfl,q _ I.fresh⟩
end
section
variable {X:Cx}{pins:List (Addr×Obj)}{σ:St}{H:Hp}{s:Shared}{h':Heap}
theorem Inv.gZ {t':Nat}{its:List Addr}{a:Addr}{o:HO}(I:Inv X pins σ H s) (k:∀ b u,b∉its->s.heap.get? b=some u->h'.get? b=some u) (L:∀ b∈its,iG X pins H b)
  (O:s.heap.objs.size<=a) (M:bu X.prog X.w (upd H a o) h' a o):Inv X pins σ (upd H a o) { s with heap:=h',toks:=t' }:=by
 have F:H a=none:=I.hok.fresh O
 have G:∀ b u,H b=some u->b∉its:=λ b u e z=>by rw[(L b z).1] at e;cases e
 have Z:∀ b u,s.heap.get? b=some u->b≠a:=λ b u e z=>absurd (CM (Heap.lt_size e) (by rw[z];exact O)) (DS _)
 refine I.step (g':=s.gens) (d':=s.drawn) (ch:=its) (λ b J=>?_) (λ b u _ _ j e _=>k b u j e) (λ b u _ _ j e _=>⟨u.slots,k b u j e⟩) (λ b u _ e n=>by rw[aE (Z b u e)];exact n)
  (λ b u j e=>⟨u,k b u j e⟩) (λ b xs e=>by rw[aE (aF e F)];exact e) (λ b u v e=>by rw[aE (aF e F)];exact e) (λ b ps e=>⟨#[],by rw[aE (aF e F),e];simp⟩) (λ m W=>?_) (λ b u e=>?_) I.bare
 ·obtain⟨f0,R,f2,S,U,V⟩:=L b J
  exact⟨S,R,U,V⟩
 ·obtain⟨u,es,ep,Y,r⟩:=W
  exact⟨u,es,ep,k _ u (λ z=>(L _ z).2.1 rfl) Y,r⟩
 ·by_cases J:b=a
  ·subst J;rw[aD] at e;cases e;exact M
  ·rw[aE J] at e
   refine(I.hok b u e).iH (λ c v j q=>k c v ?_ q) (λ c q=>by rw[aE (aF q F)];exact q) λ c xs q=>by rw[aE (aF q F)];exact q
   rcases j with z|z
   ·rw[z];exact G b u e
   ·exact G c _ z
theorem Inv.kA {t':Nat}{its:List Addr}(I:Inv X pins σ H s) (k:∀ b u,b∉its->s.heap.get? b=some u->h'.get? b=some u) (G:∀ b∈its,iG X pins H b):Inv X pins σ H { s with heap:=h',toks:=t' }:=by
 have F:∀ b u,H b=some u->b∉its:=λ b u e z=>by rw[(G b z).1] at e;cases e
 refine I.step (g':=s.gens) (d':=s.drawn) (ch:=its) (λ b R=>?_) (λ b u _ _ j e _=>k b u j e) (λ b u _ _ j e _=>⟨u.slots,k b u j e⟩) (λ b u _ e n=>n)
  (λ b u j e=>⟨u,k b u j e⟩) (λ b xs e=>e) (λ b u v e=>e) (λ b ps e=>⟨#[],by rw[e];simp⟩) (λ m S=>?_) (λ b u e=>?_) I.bare
 ·obtain⟨V,J,W,L,M,O⟩:=G b R
  exact⟨L,J,M,O⟩
 ·obtain⟨u,es,ep,U,r⟩:=S
  exact⟨u,es,ep,k _ u (λ z=>(G _ z).2.1 rfl) U,r⟩
 ·refine(I.hok b u e).iH (λ c v j q=>k c v ?_ q) (λ c q=>q) λ c xs q=>q
  rcases j with z|z
  ·rw[z];exact F b u e
  ·exact F c _ z
end
noncomputable def Itz (K:PySem.W.Frag) (l1 l2:Addr):It:=
  ⟨λ i H=>∃ xs ys x y,SqL K H l1 xs/\SqL K H l2 ys/\xs[i]? = some x/\ys[i]? = some y,
   λ i H v H'=>∃ p x y,H p=none/\v=.ref p/\H'=upd H p (.tup [x,y])/\(∀ xs,SqL K H l1 xs->xs[i]? = some x)/\∀ ys,SqL K H l2 ys->ys[i]? = some y,
   λ i H=>∃ xs ys,SqL K H l1 xs/\SqL K H l2 ys/\(xs.length<=i\/ys.length<=i)⟩
theorem rm {P:Program}{w:World}{K:PySem.W.Frag}{es:List Expr}{kk:Nat}{pos:Pos}(z L M R S l1 l2:Addr) (D:ZipApart z L M R S l1 l2) :
  Turn P w K (.Tuple es kk pos) (Itz K l1 l2) [z,L,M,R,S] z
   (λ i h=>IsZip h z L M .none/\IsPair h L (.ref R) (.ref S)/\(∃ a b,IsPair h M a b)/\h.IsListIter R l1 i/\h.IsListIter S l2 i) where
 mem:=by simp
 obj:=λ i h st b hb=>by
  obtain⟨J,j,⟨a,c,G⟩,⟨o1,e1,_,d1⟩,⟨o2,e2,_,d2⟩⟩:=st
  simp only[Cz,CC,C2] at hb
  rcases hb with rfl|rfl|rfl|rfl|rfl
  ·exact⟨_,J,λ v q=>by cases q⟩
  ·exact⟨_,j,λ v q=>by cases q⟩
  ·exact⟨_,G,λ v q=>by cases q⟩
  ·exact⟨_,e1,λ v q=>by rw[d1] at q;cases q⟩
  ·exact⟨_,e2,λ v q=>by rw[d2] at q;cases q⟩
 keep:=λ i h h' st k=>by
  obtain⟨J,j,⟨a,b,G⟩,h1,h2⟩:=st
  exact⟨k z (by simp) _ J,k L (by simp) _ j,⟨a,b,k M (by simp) _ G⟩,h1.at λ o e=>k R (by simp) o e,h2.at λ o e=>k S (by simp) o e⟩
 item:=by
  intro X hP hw hK F i pins s σ H E I hf st hg
  subst hP hw hK
  obtain⟨xs,ys,x,y,q1,q2,hx,hy⟩:=hg
  obtain⟨a8,U,p1,ad⟩:=I.list q1
  obtain⟨a9,V,p2,ae⟩:=I.list q2
  obtain⟨u1,aa,ag⟩:=U.get hx
  obtain⟨u2,ab,ah⟩:=V.get hy
  obtain⟨J,j,⟨a,b,G⟩,h1,h2⟩:=st
  have W:∀ {c o},s.heap.get? c=some o->s.heap.objs.size≠c:=λ e=>DA (Heap.lt_size e)
  have n1:s.heap.objs.size≠z:=W J
  refine wpAny_pyNext_zip_item D J j G h1 h2 p1.isList p2.isList (x:=u1) (y:=u2) (by simpa using aa) (by simpa using ab) λ h' a1 a2 a3 a4 a5 a6 hk=>?_
  refine⟨_,rfl,wpAny_letOwnedTupleGo_zip a1 λ O a7 Y=>?_⟩
  have k2:∀ c o,c∉[z,L,M,R,S]->s.heap.get? c=some o->O.get? c=some o:=λ c o F e=>by
   simp only[Cz,CC,C2,EU] at F
   rw[Y.2 c F.1]
   exact hk c o F.1 F.2.2.1 F.2.2.2.1 F.2.2.2.2 e
  have af:bu X.prog X.w (upd H s.heap.objs.size (.tup [x,y])) O s.heap.objs.size (.tup [x,y]):=by
   have e5:O.get? s.heap.objs.size=some { cls:=.type "tuple",data:=.seq #[u1,u2] }:=(Y.2 _ n1).trans a5
   exact⟨eE (by simp),[u1,u2],.cons ag (.cons ah .nil),_,e5,rfl,_,rfl⟩
  refine⟨.ref s.heap.objs.size,_,I.gZ (t':=s.toks) k2 hf (Nat.le_refl _) af,rfl,⟨_,x,y,I.fresh,rfl,rfl,λ zs hs=>by rw[I.eM hs q1];exact hx,λ zs hs=>by rw[I.eM hs q2];exact hy⟩,?_,λ c F=>?_⟩
  ·exact⟨a7,(Y.2 _ D.TIz).trans (hk _ _ D.TIz D.TITO D.TIi1 D.TIi2 j),⟨_,_,(Y.2 _ D.TOz).trans a2⟩,a3.extBut Y.extBut D.i1z,a4.extBut Y.extBut D.i2z⟩
  ·rw[aE]
   ·exact(hf c F).1
   ·simp only[Cz,CC,C2] at F
    rcases F with rfl|rfl|rfl|rfl|rfl
    ·exact Ne.symm (W J)
    ·exact Ne.symm (W j)
    ·exact Ne.symm (W G)
    ·obtain⟨_,e,_⟩:=h1;exact Ne.symm (W e)
    ·obtain⟨_,e,_⟩:=h2;exact Ne.symm (W e)
 done:=by
  intro X hP hw hK F i pins s σ H E I hf st hg
  subst hP hw hK
  obtain⟨xs,ys,q1,q2,Z⟩:=hg
  obtain⟨a8,U,p1,ad⟩:=I.list q1
  obtain⟨a9,V,p2,ae⟩:=I.list q2
  obtain⟨J,j,⟨a,b,G⟩,h1,h2⟩:=st
  have ai:=U.length
  have aj:=V.length
  refine wpAny_pyNext_zip_end (I.ok.hd F) D J j G h1 h2 p1.isList p2.isList (by
   rcases Z with z|z
   ·exact .inl (by simp;lia)
   ·exact .inr (by simp;lia)) λ h' hk=>⟨rfl,I.kA (t':=s.toks) (its:=[z,L,M,R,S]) (λ c o F e=>?_) hf⟩
  simp only[Cz,CC,C2,EU] at F
  exact hk c o F.1 F.2.2.1 F.2.2.2.1 F.2.2.2.2 e
 self:=λ _ _ _ _ _ st h=>wpAny_pyIter_zip st.1 h
section
variable {X:Cx}{K:PySem.W.Frag}
noncomputable def Ce (K:PySem.W.Frag) (ta:TA):TI:=λ σ H R=>ta σ H λ vs H1=>∃ p q xs ys,vs=[.ref p,.ref q]/\SqL K H1 p xs/\SqL K H1 q ys/\R (Itz K p q) H1
theorem qF {a b:Expr}{ta:TA}{p pos pos':Pos}{es:List Expr}{kk:Nat}(hg:Gl X "zip") (hm:X.mg "zip" = none) (ha:PA X [a,b] ta) (hs:starEach [a,b] X.env=[(false,eval a X.env),(false,eval b X.env)]:=by rfl) (z:starEach [b] X.env=[(false,eval b X.env)]:=by rfl) (hK:X.K=K:=by rfl) :
  PI X (.Tuple es kk pos') (.Call (.Name "zip" p) [a,b] [] pos) (Ce K ta):=by
 subst hK
 intro pins s σ H R I h
 refine Call_ (eJ I hg hm boot_zip (EJ (thn (ha pos pins s σ H _ I h) λ us F ⟨vs,H1,j,r1,O⟩=>?_) (by rw[hs,z]) (by rw[z];rfl)))
 obtain⟨G,J,xs,ys,rfl,O,q2,q⟩:=O
 obtain⟨u,v,rfl,rx,ry⟩:=vals2 r1
 cases rx;cases ry
 obtain⟨V,a3,Y,a1⟩:=j.list O
 obtain⟨W,a4,p2,a2⟩:=j.list q2
 have L:G<F.heap.objs.size:=by obtain⟨o,e,_⟩:=Y.isList;exact Heap.lt_size e
 have M:J<F.heap.objs.size:=by obtain⟨o,e,_⟩:=p2.isList;exact Heap.lt_size e
 refine call_zip_2 Y.isList p2.isList λ h' Z z2 z3 z4 z5 z6 kp=>?_
 refine wpAny_pyIter_zip Z ?_
 refine⟨_,_,_,Itz X.K G J,H1,rfl,j.kept (t':=F.toks) kp,rm _ _ _ _ _ G J (zipApart_new L M),⟨Z,z2,⟨_,_,z3⟩,z4,z5⟩,λ b U=>?_,q⟩
 have S:F.heap.objs.size<=b:=by
  simp only[Cz,CC,C2] at U
  rcases U with rfl|rfl|rfl|rfl|rfl<;>first|exact Nat.le_refl _|exact FH _ _
 exact j.kD S (j.hok.fresh S)
noncomputable def Cd (K:PySem.W.Frag):List V->Hp->VK->Prop:=λ xs H Q=>∃ (p:Addr) (bs:List Bool),xs=[.ref p]/\SqL K H p (bs.map V.bl)/\Q (.bl (bs.all id)) H
theorem jB (Y:X.calm=true) (W:X.K=K:=by rfl):cq X (.builtin "all") (Cd K):=by
 subst W
 intro pins s σ H xs us Q I r h
 obtain⟨p,j,rfl,O,q⟩:=h
 obtain⟨u,rfl,rx⟩:=vals1 r
 cases rx
 obtain⟨z,M,L,hz⟩:=I.list O
 have F:j.length=z.length:=by have:=M.length;rwa [Cy] at this
 have lt:p<s.heap.objs.size:=by obtain⟨o,e,_⟩:=L.isList;exact Heap.lt_size e
 refine call_all_walk (EI L.isList ⟨s.heap.objs.size,_,_,_,_,_,λ i=>j.getD i false,rfl,Walks.list (by simpa using I.ok.hd Y) s.heap.objs.size p (CI lt) z.toArray,⟨⟨_,Heap.get?_push_size _ rfl,rfl,rfl⟩,L.isList.push _⟩,λ i v s Q E Z J=>?_,λ h' tk kp=>?_⟩)
 ·have G:z[i]? = some v:=by simpa using Z
  have S:i<j.length:=by rw[F];exact(Cr.mp G).1
  obtain⟨u,R,ru⟩:=M.get (i:=i) (x:=V.bl j[i]) (by rw[Cw,Cs S];rfl)
  rw[G] at R
  cases R
  cases ru
  have e:j.getD i false=j[i]:=by rw[Eh,Cs S];rfl
  dsimp only at J
  rw[e] at J
  exact DP J
 ·have U:Inv X pins σ H { s with heap:=h',toks:=tk }:=I.kept λ b o e=>kp b o (by simp only[Cv];exact CI (Heap.lt_size e)) (Heap.get?_push_of_some _ e)
  have e:(List.range z.toArray.size).all (λ i=>j.getD i false)=j.all id:=by
   rw[C0,<- F]
   clear q M hz O F
   induction j with
   | nil=>rfl
   | cons b j ih=>
    rw[Dh,List.range_succ_eq_map,FC,Fn,FC,<- ih]
    rfl
  rw[e]
  exact⟨.bl (j.all id),H,U,rfl,q⟩
end
end L2
namespace L2
theorem kn (h:PE X e t) (k:PE X e u):PE X e (λ σ H Q=>t σ H Q\/u σ H Q):=by
 intro pins s σ H Q I q
 rcases q with q|q
 ·exact h pins s σ H Q I q
 ·exact k pins s σ H Q I q
open PySem PySem.Spec PyProof.Rows
noncomputable def isStar:Expr->Bool
 | .Starred .. => true
 | _=>false
theorem oO (h:isStar e=false):starEach (e::es) env=(false,eval e env)::starEach es env:=by
 cases e<;>first|rfl|cases h
theorem aJ (j:PE X e te) (q:PA X es t) (h:isStar e=false:=by rfl):PA X (e::es) (ic te t):=tL j q (oO h)
open PySem PySem.Spec PyProof.Rows SetT
noncomputable abbrev Nx (n i:Nat) (A:Prop):Prop:=∃ m',m'<n-i/\(m'=n-(i+1)/\i+1<=n/\A)
theorem Nx.mk (h:i<n) (a:A):Nx n i A:=⟨n-(i+1),by lia,rfl,h,a⟩
theorem cj {K:PySem.W.Frag}{a:Addr}{xs:List V}{k:Nat}{g:TG}{tc:TT}{te:TE}{σ:St}{H1:Hp}{Q:VK}(R:xs.length<=1000)
  (h:∀ acc,H1 acc=none->∃ F:Nat->St->List V->Hp->Prop,F 0 (σ++List.replicate k none) [] (upd H1 acc (.lst []))/\(∀ i j ys H2,i<=xs.length->F i j ys H2->SqL K H2 a xs/\ys.length<=i) /\
   (∀ i x j ys H2,i<xs.length->xs[i]? = some x->F i j ys H2->g x j H2 λ z O=>tc z O λ b L=>if b=true then te z L λ v M=>M acc=some (.lst ys)/\Nx xs.length i (F (i+1) z (ys++[v]) (upd M acc (.lst (ys++[v])))) else Nx xs.length i (F (i+1) z ys L)) /\
   ∀ j ys H2,F xs.length j ys H2->Q (.ref acc) H2):ig (Itl K a) k g tc te σ H1 Q:=by
 intro acc S
 obtain⟨F,U,Y,ps,W⟩:=h acc S
 refine⟨λ i m j ys H2=>m=xs.length-i/\i<=xs.length/\F i j ys H2,⟨xs.length,by simp,Dq _,U⟩,?_⟩
 rintro i m j ys H2 ⟨rfl,hi,p⟩
 obtain⟨q,J⟩:=Y i j ys H2 hi p
 by_cases G:i<xs.length
 ·refine .inr ⟨⟨xs,xs[i],q,by simp[G]⟩,DK J (bh (by lia)),λ x Z y=>?_⟩
  obtain⟨e,y⟩:=y
  subst e
  exact ps i x j ys _ G (y xs q) p
 ·have e:i=xs.length:=by lia
  subst e
  exact .inl ⟨⟨xs,q,Nat.le_refl _⟩,W j ys H2 p⟩
theorem cN {lo:Int}{n:Nat}{k:Nat}{g:TG}{tc:TT}{te:TE}{σ:St}{H1:Hp}{Q:VK}(O:n<=1000)
  (h:∀ acc,H1 acc=none->∃ z:Nat->St->List V->Hp->Prop,z 0 (σ++List.replicate k none) [] (upd H1 acc (.lst []))/\(∀ i j ys H2,i<=n->z i j ys H2->ys.length<=i) /\
   (∀ i j ys H2,i<n->z i j ys H2->g (.int (lo+i)) j H2 λ q M=>tc q M λ b J=>if b=true then te q J λ v L=>L acc=some (.lst ys)/\Nx n i (z (i+1) q (ys++[v]) (upd L acc (.lst (ys++[v])))) else Nx n i (z (i+1) q ys J)) /\
   ∀ j ys H2,z n j ys H2->Q (.ref acc) H2):ig (Itr lo n) k g tc te σ H1 Q:=by
 intro acc R
 obtain⟨z,S,W,ps,U⟩:=h acc R
 refine⟨λ i m j ys H2=>m=n-i/\i<=n/\z i j ys H2,⟨n,by simp,Dq _,S⟩,?_⟩
 rintro i m j ys H2 ⟨rfl,hi,p⟩
 have G:=W i j ys H2 hi p
 by_cases F:i<n
 ·refine .inr ⟨F,DK G (bh (by lia)),λ x Y y=>?_⟩
  obtain⟨e,rfl⟩:=y
  subst e
  exact ps i j ys _ F p
 ·have e:i=n:=by lia
  subst e
  exact .inl ⟨Nat.le_refl _,U j ys H2 p⟩
noncomputable def But (S:List Addr) (H H':Hp):Prop:=∀ b o,b∉S->H b=some o->H' b=some o
theorem But.of (h:aM H H'):But S H H':=λ b o _ e=>h b o e
theorem But.same (h:But S H H') (s:aM G H) (j:∀ b∈S,G b=none):aM G H':=λ b o e=>h b o (λ z=>by rw[j b z] at e;cases e) (s b o e)
theorem But.trans (h:But S H H') (k:But S H' H''):But S H H'':=λ b o n e=>k b o n (h b o n e)
theorem But.mono (h:But S H H') (k:∀ b∈S,b∈S'):But S' H H':=λ b o n e=>h b o (λ z=>n (k b z)) e
theorem But.upd:But [p] H (upd H p o):=λ b u n e=>by rw[aE (λ z=>n (by simp[z]))];exact e
structure cL (H G G' H':Hp):Prop where
 sub:aM G G'
 held:aM G' H'
 new:∀ b o,G' b=some o->G b=some o\/H b=none
theorem cL.free (g:cL H G G' H') (h:H b≠none) (n:G b=none):G' b=none:=by
 cases e:G' b with
 | none=>rfl
 | some o=>
  rcases g.new b o e with z|z
  ·rw[n] at z;cases z
  ·exact absurd z h
noncomputable def okD (n:Nat) (d:PyData):Prop:=d.canLay0=true/\d.depth<=n/\noDict d=true
theorem okD.int:okD n (.int i):=⟨by simp[PyData.canLay0],by simp[PyData.depth],by simp[noDict]⟩
theorem okD.bool:okD n (.bool i):=⟨by simp[PyData.canLay0],by simp[PyData.depth],by simp[noDict]⟩
theorem okD.none:okD n .none:=⟨by simp[PyData.canLay0],by simp[PyData.depth],by simp[noDict]⟩
theorem okD.all:∀ {xs:List PyData},(∀ d∈xs,okD n d)->PyData.canLayAll0 xs=true/\PyData.depthAll xs<=n/\noDicts xs=true
 | [],_=>⟨by simp[PyData.canLayAll0],by simp[PyData.depthAll],by simp[noDicts]⟩
 | x::xs,h=>by
  obtain⟨a,b,c⟩:=okD.all λ d z=>h d (CH _ z)
  obtain⟨j,F,q⟩:=h x CJ
  refine⟨by simp[PyData.canLayAll0,a,j],?_,by simp[noDicts,c,q]⟩
  rw[PyData.depthAll]
  lia
theorem okD.list (h:∀ d∈xs,okD n d):okD (n+1) (.list xs):=by
 obtain⟨a,b,c⟩:=okD.all h
 exact⟨by simp[PyData.canLay0,a],by rw[PyData.depth];lia,by simp[noDict,c]⟩
theorem okD.tuple (h:∀ d∈xs,okD n d):okD (n+1) (.tuple xs):=by
 obtain⟨a,b,c⟩:=okD.all h
 exact⟨by simp[PyData.canLay0,a],by rw[PyData.depth];lia,by simp[noDict,c]⟩
theorem okD.mono (h:okD n d) (l:n<=m):okD m d:=⟨h.1,CV h.2.1 l,h.2.2⟩
theorem okD.shaped (h:okD n d) (l:n<=64):SeqAt.shaped d=true:=by
 unfold SeqAt.shaped
 rw[h.1,CZ (CV h.2.1 l)]
 rfl
theorem okD.self (h:okD n d):PyData.eqv d d=true:=jd h.2.2
theorem ku {K:PySem.W.Frag}{H:Hp}:∀ {ns:List Int},cp K H (iV ns) (ns.map PyData.int)
 | []=>.nil
 | n::ns=>.cons (.int n) ku
theorem sr {n:Nat}{ns:List Int}:∀ d∈ns.map PyData.int,okD n d:=λ d hd=>by
 obtain⟨i,_,rfl⟩:=CL.mp hd
 exact .int
theorem cL.freeze (g:cL H G G' H') (n:H p=none) (h:H' p=some o):cL H G (L2.upd G' p o) H':=by
 refine⟨λ b u e=>?_,λ b u e=>?_,λ b u e=>?_⟩
 ·by_cases j:b=p
  ·subst j
   have:=g.held _ _ (g.sub _ _ e)
   rw[h] at this
   rw[aD];exact this
  ·rw[aE j];exact g.sub _ _ e
 ·by_cases j:b=p
  ·subst j;rw[aD] at e;rw[h];exact e
  ·rw[aE j] at e;exact g.held _ _ e
 ·by_cases j:b=p
  ·subst j;exact .inr n
  ·rw[aE j] at e;exact g.new _ _ e
theorem cL.then (g:cL H G G1 H1) (k:cL H1 G1 G2 H2) (s:∀ b o,H b=some o->∃ u,H1 b=some u):cL H G G2 H2:=
 ⟨g.sub.trans k.sub,k.held,λ b o e=>by
  rcases k.new b o e with z|z
  ·exact g.new b o z
  ·refine .inr ?_
   cases q:H b with
   | none=>rfl
   | some u=>obtain⟨F,j⟩:=s b u q;rw[z] at j;cases j⟩
theorem cp.len {K:PySem.W.Frag}{H:Hp}:∀ {xs:List V}{ds:List PyData},cp K H xs ds->xs.length=ds.length
 | _,_,.nil=>rfl
 | _,_,.cons _ r=>by simp[cp.len r]
section
variable {X:Cx}{e a b:Expr}{es:List Expr}{te ta tb:TE}{t:TA}{pos:Pos}{ks:List (Option Expr)}{vs:List Expr}{ts:List (TE×TE)}
end
noncomputable def Top (val:Nat->Int) (j:Nat) (m:Int):Prop:=(∀ i,i<j->val i<=m)/\∃ i,i<j/\val i=m
section
variable {prog:Program}{w:World}{A:Around}{R:Result->Shared->Prop}{it S:Addr}{fp wr:List Addr}{n:Nat}{Pi:Nat->Value->Prop}{St:Nat->Heap->Prop}{kw:List (Str×Value)}{val:Nat->Int}
theorem q8 (W:Walks prog w A.in1 it fp wr n Pi St) (hv:∀ i v,Pi i v->∃ t,v=.int (val i) t) (out:S∉fp) :
  ∀ (left j:Nat) (s:Shared) (m:Int) (t:Tok) (c:Nat),left=n-j->0<j->j<=n->St j s.heap->Top val j m ->
   s.heap.get? S=some { cls:=.type "list",dict:=none,data:=.seq #[.int m t,.int m t] c,slots:=#[] } ->
   (∀ m' t' h' tk,Top val n m'->(∀ b o,b∉wr->b≠S->s.heap.get? b=some o->h'.get? b=some o)->R (.ok (.ret (.int m' t'))) { s with heap:=h',toks:=tk }) ->
   codeAny (model prog w) A (.builtin "max.loop" ⟨[.ref it,.none,.ref S],kw⟩) R s:=by
 have M:S∉wr:=λ z=>out (W.sub _ z)
 have nm:(toString "max" ++ toString ".loop" : String) = "max.loop":=by decide
 intro left
 induction left with
 | zero=>
  intro j s m t c hl h0 hj V tp hS J
  obtain rfl:j=n:=by lia
  refine Du F.entry_max_loop ?_
  rw[Around.under_plainId F.plain_max_loop _]
  refine Cq (E8 hS rfl ?_)
  refine Cq (Ee (W.done s _ _ V λ h' tk kp=>?_))
  refine Cq (D1 (kp S _ M hS) rfl (Cq (EN (Cu ?_))))
  exact J m t _ tk tp λ b o Z nS e=>(Heap.get?_update_other _ _ (Ne.symm nS)).trans (kp b o Z e)
 | succ left ih=>
  intro j s m t c hl h0 hj V tp hS J
  have lt:j<n:=by lia
  refine Du F.entry_max_loop ?_
  rw[Around.under_plainId F.plain_max_loop _]
  refine Cq (E8 hS rfl ?_)
  refine Cq (Ee (W.item j s _ _ lt V λ v h' tk pv L kp=>?_))
  have U:=kp S _ M hS
  obtain⟨u,rfl⟩:=hv j v pv
  refine Cq (Cu ?_)
  refine Cq (Ee (C8 (Cq ?_)))
  refine CmpOf.ints_gt (P:=λ i v=>∃ t,v=.int ([val j,m].getD i 0) t) (λ i=>[val j,m].getD i 0) (λ _ _ z=>z) 0 1 _ _ _ _ _ ⟨u,rfl⟩ ⟨t,rfl⟩ ?_
  refine Cq (C8 (DP ?_))
  refine Cq (EN (Cu ?_))
  by_cases g:val j>m
  ·have a1:Top val (j+1) (val j):=⟨λ i hi=>by
    by_cases e:i=j
    ·subst e;lia
    ·have:=tp.1 i (by lia);lia,j,by lia,rfl⟩
   have gb:(λ i j'=>decide ([val j,m].getD i 0 > [val j,m].getD j' 0)) 0 1=true:=CZ g
   rw[CG gb]
   refine Cq (D1 U rfl (Cq (EN ?_)))
   rw[nm]
   refine Cu ⟨DG F.plain_max_loop _,ih (j+1) _ (val j) u _ (by lia) (by lia) lt (W.frame _ _ _ L λ b hb o e=>?_) a1 (Heap.get?_update_self _ U rfl) λ m' t' O G q Y=>?_⟩
   ·exact(Heap.get?_update_other _ _ (λ z:S=b=>out (z ▸ hb))).trans e
   ·exact J m' t' O G q λ b o Z nS e=>Y b o Z nS ((Heap.get?_update_other _ _ (Ne.symm nS)).trans (kp b o Z e))
  ·have a1:Top val (j+1) m:=⟨λ i hi=>by
    by_cases e:i=j
    ·subst e;lia
    ·exact tp.1 i (by lia),let ⟨i,a,b⟩:=tp.2;⟨i,by lia,b⟩⟩
   have gb:¬ ((λ i j'=>decide ([val j,m].getD i 0 > [val j,m].getD j' 0)) 0 1=true):=λ z=>g (Dr z)
   rw[CD gb]
   refine Cq (EN ?_)
   rw[nm]
   refine Cu ⟨DG F.plain_max_loop _,ih (j+1) _ m t c (by lia) (by lia) lt L a1 U λ m' t' O G q Y=>?_⟩
   exact J m' t' O G q λ b o Z nS e=>Y b o Z nS (kp b o Z e)
theorem pb (W:Walks prog w A.in1 it fp wr n Pi St) (hv:∀ i v,Pi i v->∃ t,v=.int (val i) t) (out:S∉fp) (J:St 0 s.heap) (hS:s.heap.get? S=some { cls:=.type "list",dict:=none,data:=.seq #[] c,slots:=#[] })
  (none:n=0->∃ k d j,kw=(k,d)::j/\∀ h' tk,(∀ b o,b∉wr->b≠S->s.heap.get? b=some o->h'.get? b=some o)->R (.ok (.ret d)) { s with heap:=h',toks:=tk })
  (Z:∀ V t' h' tk,Top val n V->(∀ b o,b∉wr->b≠S->s.heap.get? b=some o->h'.get? b=some o)->R (.ok (.ret (.int V t'))) { s with heap:=h',toks:=tk }) :
  codeAny (model prog w) A (.builtin "max.loop" ⟨[.ref it,.none,.ref S],kw⟩) R s:=by
 have M:S∉wr:=λ z=>out (W.sub _ z)
 have nm:(toString "max" ++ toString ".loop" : String) = "max.loop":=by decide
 refine Du F.entry_max_loop ?_
 rw[Around.under_plainId F.plain_max_loop _]
 refine Cq (E8 hS rfl ?_)
 by_cases n0:n=0
 ·obtain⟨k,d,j,rfl,q⟩:=none n0
  refine Cq (Ee (W.done s _ _ (by rw[n0];exact J) λ h' tk U=>?_))
  exact Cq (Ez (Cu (q h' tk λ b o Y _ e=>U b o Y e)))
 ·refine Cq (Ee (W.item 0 s _ _ (by lia) J λ v h' tk pv L U=>?_))
  have G:=U S _ M hS
  obtain⟨u,rfl⟩:=hv 0 v pv
  refine Cq (Cu ?_)
  refine Cq (D1 G rfl ?_)
  rw[nm]
  refine Cu ⟨DG F.plain_max_loop _,q8 W hv out (n-1) 1 _ (val 0) u _ rfl (by lia) (by lia) (W.frame _ _ _ L λ b hb o e=>?_) ⟨λ i hi=>?_,0,by lia,rfl⟩ (Heap.get?_update_self _ G rfl) λ V t' a1 O q a2=>?_⟩
  ·exact(Heap.get?_update_other _ _ (λ z:S=b=>out (z ▸ hb))).trans e
  ·obtain rfl:i=0:=by lia
   exact Dk _
  ·exact Z V t' a1 O q λ b o Y nS e=>a2 b o Y nS ((Heap.get?_update_other _ _ (Ne.symm nS)).trans (U b o Y e))
end
theorem pE (a d):argsOk "max" ⟨[a],[("default",d)]⟩:=by unfold argsOk;kernel_rfl
section
variable {X:Cx}{K:PySem.W.Frag}
noncomputable def rn (ns:List Int) (m:Int):Prop:=m∈ns/\∀ z∈ns,z<=m
theorem rV (h:Top (λ i=>ns.getD i 0) ns.length m):rn ns m:=by
 obtain⟨h1,i,hi,e⟩:=h
 have g:∀ j (q:j<ns.length),ns.getD j 0=ns[j]:=λ j q=>by rw[Eh,Cs q];rfl
 refine⟨?_,λ z G=>?_⟩
 ·have F:ns.getD i 0=m:=e
  rw[g i hi] at F
  rw[<- F];exact Gm hi
 ·obtain⟨j,q,rfl⟩:=C1 G
  have:=h1 j q
  simp only[] at this
  rw[g j q] at this;exact this
theorem sL (hc:X.calm=true) (I:Inv X pins σ H s) (hq:SqL X.K H l (iV ns))
  (h0:ns=[]->∃ k d j,kw=(k,d)::j/\∃ x,RelV x d/\Q x H) (h1:∀ m,rn ns m->Q (.int m) H) :
  wpAny (model X.prog X.w) X.A.in1 (pyIter (.ref l)) (λ it Y=>∃ Z:Addr,it=.ref Z/\codeAny (model X.prog X.w) X.A (.builtin "max.loop" ⟨[.ref Z,.none,.ref Y.heap.objs.size],kw⟩)
   (λ r s'=>match r with | .ok (.ret v)=>EP X pins σ Q v s' | .ok _=>False | .error e=>X.xe e s') { Y with heap:=Y.heap.push { cls:=.type "list",data:=.seq #[] 0 } }) X.xe s:=by
 obtain⟨F,rv,U,hz⟩:=I.list hq
 have hI:=j9 rv
 have O:=IntsAre.length hI
 have lt:l<s.heap.objs.size:=by obtain⟨o,e,_⟩:=U.isList;exact Heap.lt_size e
 refine EI U.isList ⟨s.heap.objs.size,rfl,?_⟩
 have W:=Walks.list (A:=X.A.in1) (prog:=X.prog) (w:=X.w) (by simpa using I.ok.hd hc) s.heap.objs.size l (CI lt) F.toArray
 have sz:(s.heap.push { cls:=.type "list_iterator",data:=.fields #[.ref l,.int 0 0] }).objs.size=s.heap.objs.size+1:=Heap.size_push ..
 have nl:F.toArray.size=ns.length:=by rw[C0];lia
 have L:∀ {h':Heap},(∀ b o,b∉[s.heap.objs.size]->b≠s.heap.objs.size+1->((s.heap.push { cls:=.type "list_iterator",data:=.fields #[.ref l,.int 0 0] }).push { cls:=.type "list",data:=.seq #[] 0 }).get? b=some o->h'.get? b=some o)->∀ b o,s.heap.get? b=some o->h'.get? b=some o:=λ J b o e=>by
  have lb:=Heap.lt_size e
  exact J b o (by simp only[Cv];exact CI lb) (CI (DC lb)) (Heap.get?_push_of_some _ (Heap.get?_push_of_some _ e))
 rw[sz]
 refine pb (val:=λ i=>ns.getD i 0) W (λ i v hv=>?_) ?_ (W.frame 0 _ _ ⟨⟨_,Heap.get?_push_size _ rfl,rfl,rfl⟩,U.isList.push _⟩ λ b _ o e=>Heap.get?_push_of_some _ e) (by rw[<- sz];exact Heap.get?_push_size _ rfl) (λ n0=>?_) λ m' t' h' tk M J=>?_
 ·have G:F[i]? = some v:=by simpa using hv
  have li:i<ns.length:=by rw[<- O];exact(Cr.mp G).1
  obtain⟨u,hu,ru⟩:=rv.get (i:=i) (x:=V.int ns[i]) (by unfold iV;rw[Cw,Cs li];rfl)
  rw[G] at hu
  cases hu
  obtain⟨t,rfl⟩:=ru
  exact⟨t,by rw[Eh,Cs li];rfl⟩
 ·intro z
  simp only[Cz,CC,C2] at z
  rcases z with z|z
  ·exact absurd z (DA (D4 _))
  ·exact absurd z (DA (DC lt))
 ·have e0:ns=[]:=Ey (by lia)
  obtain⟨k,d,j,rfl,x,rx,q⟩:=h0 e0
  exact⟨k,d,j,rfl,λ h' tk J=>⟨x,H,I.kept (L J),rx,q⟩⟩
 ·rw[nl] at M
  exact⟨.int m',H,I.kept (L J),⟨t',rfl⟩,h1 m' (rV M)⟩
noncomputable def zH (K:PySem.W.Frag) (ta tk:TA):TE:=λ σ H Q=>ta σ H λ vs H1=>tk σ H1 λ zs H2=>∃ p ns y,vs=[.ref p]/\zs=[y]/\SqL K H2 p (iV ns)/\(ns=[]->Q y H2)/\∀ m,rn ns m->Q (.int m) H2
theorem uB {prog:Program}{w:World}{A:Around}{E:Value->Shared->Prop}{s:Shared}{id:String}{f:Builtin}{us:List Value}{kw:List (Str×Value)}{R:Value->Shared->Prop}(k1:builtinKind id=none) (k2:plainId id=true) (k3:entryFor table id=some f) (F:argsOk id ⟨us,kw⟩)
  (j:wpAny (model prog w) A.in1 (f ⟨us,kw⟩) (λ q s'=>match q with
   | .done z=>(match (Except.ok z:Result) with | .ok (.ret v)=>R v s' | .ok _=>False | .error e=>E e s')
   | .again z=>z.quiet=true/\codeAny (model prog w) A z (λ r s'=>match r with | .ok (.ret v)=>R v s' | .ok _=>False | .error e=>E e s') s') E s) :
  wpAny (model prog w) A (call (.builtin id) us kw) R E s:=by
 refine E4 (En k2 k3 ?_)
 simp only[checkBuiltinCall,k1]
 cases J:Manifest.signature? id with
 | none=>exact Cu j
 | some sig=>
  have G:Bind.checkArgs id sig ⟨us,kw⟩=pure ():=by simpa only[argsOk,J] using F
  show wpAny _ A.in1 (Bind.checkArgs id sig ⟨us,kw⟩) _ _ s
  rw[G];exact Cu j
theorem tZ (M:X.calm=true) (U:Gl X "max") (V:X.mg "max" = none) (Y:bootBuiltins "max" = some (.builtin "max")) (L:PA X [e] ta) (O:PK X [⟨some "default",c,kp⟩] tk) (hs:isStar e=false:=by rfl) (J:X.K=K:=by rfl) :
  PE X (.Call (.Name "max" p) [e] [⟨some "default",c,kp⟩] pos) (zH K ta tk):=by
 subst J
 intro pins s σ H Q I h
 refine Ef (eJ I U V Y ?_)
 have es:starEach [e] X.env=[(false,eval e X.env)]:=oO hs
 have nm:(toString "max" ++ toString ".loop" : String) = "max.loop":=by decide
 refine PyProof.Rows.callWith_kw (kws:=[⟨some "default",c,kp⟩]) (thn (L pos pins s σ H _ I h) λ us s1 ⟨vs,H1,j,r1,Z⟩=>?_) (by rw[es];rfl) (by rw[es];rfl)
 refine thn (O pos pins s1 σ H1 _ j Z) λ ks s2 ⟨zs,H2,q,r2,q2⟩=>?_
 obtain⟨l,ns,y,rfl,rfl,W,h0,h1⟩:=q2
 obtain⟨u,rfl,ru⟩:=vals1 r1
 cases ru
 obtain⟨d,rfl,rd⟩:=vals1 r2
 show wpAny (model X.prog X.w) X.A (call (.builtin "max") [.ref l] [("default",d)]) _ _ s2
 refine uB F.kind_max F.plain_max F.entry_max (pE _ _) ?_
 refine Cq (m:=Builtin.Builtins.bindParams "max" ["key","default"] 0 ⟨[],[("default",d)]⟩) (DH (show Builtin.Builtins.bindParams "max" ["key","default"] 0 ⟨[],[("default",d)]⟩=pure [none,some d] from rfl) ?_)
 refine Cq (Cu ?_)
 refine Cq (Dp (sL M q W (kw:=[("default",d)]) (λ z=>⟨_,d,[],rfl,y,rd,h0 z⟩) h1) (λ it s3 ⟨I3,G,z⟩=>?_) λ _ _ z=>z)
 subst G
 refine Cq (DX ?_)
 rw[nm]
 exact Cu ⟨DG F.plain_max_loop _,z⟩
end
theorem jT {K:PySem.W.Frag}{a:Addr}{ns:List Int}{p:Int->Bool}{tc:TT}{σ:St}{H1:Hp}{Q:VK}(J:ns.length<=1000) (W:SqL K H1 a (iV ns))
  (Y:∀ j∈ns,∀ acc xs (R:Bool->Hp->Prop),H1 acc=none->R (p j) (upd H1 acc (.lst xs))->tc (σ++[some (.int j)]) (upd H1 acc (.lst xs)) R)
  (h:∀ acc,H1 acc=none->Q (.ref acc) (upd H1 acc (.lst (iV (ns.filter p))))):ig (Itl K a) 1 (ck σ.length) tc (cM σ.length) σ H1 Q:=by
 have F:∀ l:List Int,(iV l).length=l.length:=λ l=>by unfold iV;rw[Cy]
 have G:∀ (l:List Int) (j:Int),iV l++[V.int j]=iV (l++[j]):=λ l j=>by unfold iV;rw[CP];rfl
 refine cj (xs:=iV ns) (by rw[F];exact J) λ acc q=>⟨λ i z zs H2=>zs=iV ((ns.take i).filter p)/\H2=upd H1 acc (.lst zs)/\∃ o,z=σ++[o],⟨rfl,rfl,_,rfl⟩,?_,?_,?_⟩
 ·rintro i z zs H2 hi ⟨rfl,rfl,_⟩
  refine⟨(aM.new q).seq W,?_⟩
  rw[F]
  exact CV (DI _ _) (by rw[Dg];lia)
 ·rintro i x z zs H2 hi L ⟨rfl,rfl,o,rfl⟩
  unfold iV at L
  rw[Cw] at L
  obtain⟨j,O,rfl⟩:=Df.mp L
  have es:(σ++[o]).set σ.length (some (V.int j))=σ++[some (V.int j)]:=by rw[List.set_append_right _ _ (Nat.le_refl _),Eb];rfl
  have M:ns.take (i+1)=ns.take i++[j]:=by rw[D7,O];rfl
  dsimp only[ck]
  rw[es]
  refine Y j (CB O) acc _ _ q ?_
  cases U:p j with
  | true=>
   refine cX ⟨V.int j,by simp,aD,Nx.mk hi ⟨?_,by rw[dH],_,rfl⟩⟩
   rw[M,Ei,D8 U,FR,G]
  | false=>
   refine dQ (Nx.mk hi ⟨?_,rfl,_,rfl⟩)
   rw[M,Ei,D9 (by simp[U]),FR,D2]
 ·rintro z zs H2 ⟨rfl,rfl,o,rfl⟩
  rw[F,ES]
  exact h acc q
theorem b7:∀ (j:List (Str×NameKind)) (n:Nat) (acc:List (Str×Addr)),cellsFrom n j acc=cellsFrom n j []++acc
 | [],_,_=>rfl
 | (x,k)::r,n,acc=>by
  unfold cellsFrom
  split
  ·rw[b7 r (n+1) ((x,n)::acc),b7 r (n+1) [(x,n)],EL];rfl
  ·exact b7 r n acc
theorem dJ:∀ {j:List (Str×NameKind)}{n:Nat}{acc:List (Str×Addr)}{x:Str}{c:Addr},(x,c)∈cellsFrom n j acc->(x,c)∈acc\/∃ y∈j,y.1=x/\y.2=.cell
 | [],_,_,_,_,h=>.inl h
 | (y,k)::r,n,acc,x,c,h=>by
  unfold cellsFrom at h
  split at h
  ·rename_i G
   rcases dJ h with z|⟨F,m,q⟩
   ·rcases Cz.mp z with z|z
    ·cases z;exact .inr ⟨_,CJ,rfl,DY.mp G⟩
    ·exact .inl z
   ·exact .inr ⟨F,CH _ m,q⟩
  ·rcases dJ h with z|⟨F,m,q⟩
   ·exact .inl z
   ·exact .inr ⟨F,CH _ m,q⟩
theorem hX (f:Str×Value->PUnit->Sem (ForInStep PUnit)) (z:∀ n v u,f (n,v) u=(do storeName env n v;pure (.yield ⟨⟩))) (F:env.scope.kind=.function) :
  ∀ (j:List (Str×Value)) (m:Str->Option Value) (s:Shared) (Q:PUnit->Shared->Prop),s.heap.Ns env.locals m->(∀ x∈j,env.kindOf x.1=some .local) ->
   (∀ h' tk,h'.Ns env.locals (bindL env.kindOf j m)->Heap.SameBut env.locals s.heap h'->Q ⟨⟩ { s with heap:=h',toks:=tk })->wpAny M A (forIn j ⟨⟩ f) Q E s
 | [],m,s,Q,n,_,h=>by rw[List.forIn_nil];exact Cu (h s.heap s.toks n (Heap.SameBut.refl ..))
 | (x,v)::r,m,s,Q,n,hl,h=>by
  rw[E2,z]
  have G:env.kindOf x=some .local:=hl (x,v) CJ
  refine Cq (Cq (wpAny_storeName_local G n (λ h1 U J=>Cu ?_) (by rw[F];rfl)))
  refine hX f z F r _ _ Q U (λ y O=>hl y (CH _ O)) λ h2 tk V L=>?_
  refine h h2 tk ?_ ⟨L.1.trans J.1,λ b q=>(L.2 b q).trans (J.2 b q)⟩
  unfold bindL
  rw[CG G]
  exact V
theorem mR {M:Model}{A:Around}{E:Value->Shared->Prop}{s:Shared}{scope:Scope}{cl:List (Str×Addr)}{j:List (Str×Value)}{qual:Str}{z:Option Addr}{q:Value}{Q:Env->Shared->Prop}
  (Y:scope.kind=.function) (Z:∀ x∈j,scope.names.lookup x.1=some .local)
  (W:∀ env,env=newEnv scope s.heap.objs.size mainGlobals (cellsFrom (s.heap.objs.size+1) scope.names cl) qual z q none builtinsNs ->
   ∀ h' tk,h'.Ns s.heap.objs.size (bindL env.kindOf j λ _=>none)->(∀ b o,s.heap.get? b=some o->h'.get? b=some o) ->
    (∀ n c,(n,c)∈cellsFrom (s.heap.objs.size+1) scope.names []->h'.IsCell c none/\s.heap.objs.size+1<=c)->(cellsFrom (s.heap.objs.size+1) scope.names []).Pairwise (λ x y=>x.2≠y.2)->Q env { s with heap:=h',toks:=tk }) :
  wpAny M A (newFunctionEnv scope mainGlobals cl j qual z q none builtinsNs) Q E s:=by
 simp only[newFunctionEnv,Option.isSome_none,CS,DJ]
 refine Cq (wpAny_alloc ?_)
 refine Cq (wpAny_layCells _ (λ name F G=>by cases J:F == NameKind.cell<;>simp[J]) _ _ _ _ ?_)
 have O:=cellsFrom_ok scope.names (s.heap.push { cls:=.type "frame",data:=.dict #[] }) (s.heap.objs.size+1) [] ⟨λ _ _ L=>(nomatch L),List.Pairwise.nil⟩ (by rw[Heap.size_push];exact Nat.le_refl _)
 rw[Heap.size_push] at O
 rw[show ({ s with heap:=s.heap.push { cls:=.type "frame",data:=.dict #[] } }:Shared).heap.objs.size=s.heap.objs.size+1 from Heap.size_push ..]
 refine Cq (hX (env:=newEnv scope s.heap.objs.size mainGlobals (cellsFrom (s.heap.objs.size+1) scope.names cl) qual z q none builtinsNs)
  _ (λ _ _ _=>rfl) Y j (λ _=>none) _ _ ((Heap.Ns.new s.heap (.type "frame")).keeps (pushCells_keeps _ _)) Z λ h' tk n U=>Cu (W _ rfl h' tk n (λ b o e=>?_) (λ n c L=>?_) O.apart))
 ·exact(U.2 b (CI (Heap.lt_size e))).trans (pushCells_keeps _ _ b o (Heap.get?_push_of_some _ e))
 ·obtain⟨z1,V⟩:=O.empty n c L
  exact⟨z1.sameBut U (DA V),V⟩
structure iZ (N ps F:List Str) (sc:Scope):Prop where
 kind:sc.kind=.function
 co:sc.isCoroutine=false
 gen:sc.isGenerator=false
 nd:N.Nodup
 pre:N.take ps.length=ps
 post:N.drop (N.length-F.length)=F
 fit:ps.length+F.length<=N.length
 par:∀ x∈ps,sc.names.lookup x=some .local
 fre:∀ y∈sc.names,y.2=.free->y.1∈F
 isf:∀ x∈F,sc.names.lookup x=some .free
 noc:∀ y∈sc.names,y.2=.cell->y.1∉F
structure Clo (H:Hp) (name qual:Str) (st:Stmt) (F:List Str) (f:Addr) (ws:List V):Prop where
 ex:∃ (cl:List (Str×Addr)) (doc pm ctv:Value) (c':Addr) (oc:Obj) (vs:Array Value) (t:Tok),
  H f=some (.frz { cls:=.type "function",data:=.func (PySem.W.fnX name qual (gi st) (cQ st) (aK st) cl .none .none doc pm none (.ref c') ctv) } (.own f)) /\
  H c'=some (.frz oc (.own c'))/\oc.data=.fields vs/\vs[1]? = some (.str qual t) /\
  (∀ x c,cl.lookup x=some c->x∈F)/\(∀ x y c,cl.lookup x=some c->cl.lookup y=some c->x=y) /\
  ∀ (i:Nat) x v,F[i]? = some x->ws[i]? = some v->∃ c o u,cl.lookup x=some c/\H c=some (.frz o (.own c))/\o.data=.cell (some u)/\RelV v u
 len:ws.length=F.length
theorem Clo.same {H H':Hp}{name qual:Str}{st:Stmt}{F:List Str}{f:Addr}{z:List V}(k:∀ b o u,H b=some (.frz o u)->H' b=some (.frz o u)) (c:Clo H name qual st F f z):Clo H' name qual st F f z:=by
 obtain⟨⟨cl,q,pm,j,G,Z,vs,t,J,L,M,O,U,W,Y⟩,l⟩:=c
 exact⟨⟨cl,q,pm,j,G,Z,vs,t,k _ _ _ J,k _ _ _ L,M,O,U,W,λ i x v h1 h2=>let ⟨c,o,u,z1,z2,z3,z4⟩:=Y i x v h1 h2;⟨c,o,u,z1,k _ _ _ z2,z3,z4⟩⟩,l⟩
noncomputable def gc (N:List Str) (vs ws:List V):St:=vs.map some++List.replicate (N.length-vs.length-ws.length) none++ws.map some
noncomputable def cxC (CX:CXT) (P:Program) (w:World) (K:PySem.W.Frag) (mg:Str->Option Value) (base:Heap) (N F:List Str) (qual:Str) (scope:Scope) (f:Addr) (cd:Value) (cl:List (Str×Addr)) (A:Around) (outer:List Env) (s:Shared) (H:Hp) (E:XK):Cx where
 prog:=P
 w:=w
 K:=K
 mg:=mg
 base:=base
 A:=A.deeper (PySem.W.envX qual scope s.heap.objs.size f cd (cellsFrom (s.heap.objs.size+1) scope.names cl))
 N:=N
 s₀:=s
 H₀:=H
 env:=PySem.W.envX qual scope s.heap.objs.size f cd (cellsFrom (s.heap.objs.size+1) scope.names cl)
 outer:=outer
 stack:=PySem.W.envX qual scope s.heap.objs.size f cd (cellsFrom (s.heap.objs.size+1) scope.names cl)::outer
 ex:=[]
 calm:=true
 fn:=λ x=>!F.contains x
 pn:=[]
 xe:=λ e s'=>wpAny (model P w) (A.deeper (PySem.W.envX qual scope s.heap.objs.size f cd (cellsFrom (s.heap.objs.size+1) scope.names cl))) (leaving (PySem.W.envX qual scope s.heap.objs.size f cd (cellsFrom (s.heap.objs.size+1) scope.names cl)) e)
  (λ _ s''=>CX outer H s E e s'') (λ e' s''=>CX outer H s E e' s'') s'
theorem m9 (z:vs.length+ws.length<=N.length) (h:(gc N vs ws)[i]? = some (some v)) :
  (i<vs.length/\vs[i]? = some v)\/∃ j,i=N.length-ws.length+j/\ws[j]? = some v:=by
 unfold gc at h
 by_cases h1:i<vs.length
 ·rw[EL,Dv (by simpa using h1),Cw] at h
  cases e:vs[i]? with
  | none=>rw[e] at h;cases h
  | some a=>rw[e] at h;cases h;exact .inl ⟨h1,rfl⟩
 ·by_cases h2:i<N.length-ws.length
  ·rw[Dv (by simp;lia),C3 (by simpa using h1),E6] at h
   split at h<;>cases h
  ·rw[C3 (by simp;lia),Cw] at h
   refine .inr ⟨i-(N.length-ws.length),by lia,?_⟩
   have e:i-(List.map some vs++List.replicate (N.length-vs.length-ws.length) none).length=i-(N.length-ws.length):=by simp;lia
   rw[e] at h
   cases q:ws[i-(N.length-ws.length)]? with
   | none=>rw[q] at h;cases h
   | some a=>rw[q] at h;cases h;rfl
theorem nE {CX:CXT}{P:Program}{w:World}{K:PySem.W.Frag}{mg:Str->Option Value}{base:Heap}{N ps F:List Str}{qual:Str}{scope:Scope}{f:Addr}{cd:Value}{cl:List (Str×Addr)}{A:Around}{outer:List Env}{s:Shared}{H:Hp}{E:XK}{us:List Value}{vs ws:List V}{h':Heap}{tk:Nat}
  (S:iZ N ps F scope) (hd:A.handled=none) (e0:jt P w K mg base A outer s H) (hl:vs.length=ps.length) (r:Vals vs us) (wl:ws.length=F.length)
  (c1:∀ x c,cl.lookup x=some c->x∈F) (c2:∀ x y c,cl.lookup x=some c->cl.lookup y=some c->x=y)
  (c3:∀ (i:Nat) x v,F[i]? = some x->ws[i]? = some v->∃ c o u,cl.lookup x=some c/\H c=some (.frz o (.own c))/\o.data=.cell (some u)/\RelV v u)
  (n:h'.Ns s.heap.objs.size (bindL (PySem.W.envX qual scope s.heap.objs.size f cd (cellsFrom (s.heap.objs.size+1) scope.names cl)).kindOf (ps.zip us) λ _=>none)) (hk:∀ b o,s.heap.get? b=some o->h'.get? b=some o)
  (o1:∀ n c,(n,c)∈cellsFrom (s.heap.objs.size+1) scope.names []->h'.IsCell c none/\s.heap.objs.size+1<=c) (o2:(cellsFrom (s.heap.objs.size+1) scope.names []).Pairwise (λ x y=>x.2≠y.2)) :
  Inv (cxC CX P w K mg base N F qual scope f cd cl A outer s H E) [] (gc N vs ws) H { s with heap:=h',toks:=tk }:=by
 have noA:∀ b:Addr,b∉(cxC CX P w K mg base N F qual scope f cd cl A outer s H E).ex:=λ b z=>absurd (show b∈([]:List Addr) from z) (by simp)
 have look:∀ x c,(cellsFrom (s.heap.objs.size+1) scope.names cl).lookup x=some c->(x,c)∈cellsFrom (s.heap.objs.size+1) scope.names []\/cl.lookup x=some c:=λ x c e=>by
  rw[b7,F6] at e
  cases q:(cellsFrom (s.heap.objs.size+1) scope.names []).lookup x with
  | none=>rw[q] at e;exact .inr e
  | some d=>rw[q] at e;cases e;exact .inl (Dw q)
 have inF:∀ x c,cl.lookup x=some c->∃ o u,H c=some (.frz o (.own c))/\o.data=.cell (some u)/\h'.get? c=some o/\c<s.heap.objs.size:=λ x c e=>by
  obtain⟨i,hi,ei⟩:=List.mem_iff_getElem.mp (c1 x c e)
  have hw:i<ws.length:=by lia
  obtain⟨c',o,u,z1,z2,z3,_⟩:=c3 i x ws[i] (by rw[Cs hi,ei]) (Cs hw)
  rw[e] at z1;cases z1
  obtain⟨q,_⟩:=e0.hok c _ z2
  exact⟨o,u,z2,z3,hk _ _ q,Heap.lt_size q⟩
 have nofn:∀ x,x∈F->(cxC CX P w K mg base N F qual scope f cd cl A outer s H E).fn x=false:=λ x hx=>by
  show (!F.contains x)=false
  rw[List.contains_iff_mem.mpr hx];rfl
 refine⟨⟨e0.mod,S.kind,rfl,rfl,Nat.le_refl _,λ y z c h1 h2=>?_,λ y hy=>?_,λ y c hf h=>?_,λ _=>hd,Around.frames_deeper e0.frames,.inr ⟨rfl,rfl⟩,λ b z=>absurd z (noA b),e0.bs,e0.bsz,λ b _ _=>noA b,λ b z=>absurd z (noA b),e0.gS,e0.frf⟩,
  rfl,e0.bare,Un.kept hk,⟨_,n,λ i y v h1 h2 h3=>?_⟩,λ y c h=>?_,e0.hok.fresh (Nat.le_refl _),λ y c h=>?_,λ p hp=>absurd (show p∈([]:List (Addr×Obj)) from hp) (by simp),e0.hok.kept hk,?_⟩
 ·rcases look y c h1 with a|a<;>rcases look z c h2 with b|b
  ·exact name_of_addr o2 a b
  ·obtain⟨_,_,_,_,_,lt⟩:=inF z c b
   exact absurd (CM lt (CV (Ex _) (o1 y c a).2)) (DS _)
  ·obtain⟨_,_,_,_,_,lt⟩:=inF y c a
   exact absurd (CM lt (CV (Ex _) (o1 z c b).2)) (DS _)
  ·exact c2 y z c a b
 ·have hy:scope.names.lookup y=some .cell\/scope.names.lookup y=some .free:=hy
  show ∃ c,(cellsFrom (s.heap.objs.size+1) scope.names cl).lookup y=some c
  rw[b7,F6]
  rcases hy with hy|hy
  ·obtain⟨c,e⟩:=iT (n:=s.heap.objs.size+1) hy
   exact⟨c,by rw[e];rfl⟩
  ·obtain⟨i,hi,ei⟩:=List.mem_iff_getElem.mp (S.fre _ (Dw hy) rfl)
   have hw:i<ws.length:=by lia
   obtain⟨c',_,_,z1,_⟩:=c3 i y ws[i] (by rw[Cs hi,ei]) (Cs hw)
   cases q:(cellsFrom (s.heap.objs.size+1) scope.names []).lookup y with
   | none=>exact⟨c',by rw[z1];rfl⟩
   | some d=>exact⟨d,rfl⟩
 ·rcases look y c h with a|a
  ·have:=(o1 y c a).2
   show s.heap.objs.size<=c
   lia
  ·rw[nofn y (c1 y c a)] at hf;cases hf
 ·have hi:i<N.length:=(Cr.mp h1).1
  rcases m9 (by have:=S.fit;lia) h2 with ⟨hi,ha⟩|⟨j,rfl,ha⟩
  ·obtain⟨u,hu,rv⟩:=r.get ha
   have hp:ps[i]? = some y:=by
    rw[<- S.pre,FA (by lia)];exact h1
   have ndP:ps.Nodup:=by rw[<- S.pre];exact S.nd.sublist (Gg _ _)
   have k:=S.par y (CB hp)
   exact⟨u,rv,.inl ⟨k,gP ndP hp hu k⟩⟩
  ·have hF:F[j]? = some y:=by
    rw[<- S.post,List.getElem?_drop,<- wl];exact h1
   obtain⟨c,o,u,z1,z2,z3,z4⟩:=c3 j y v hF ha
   obtain⟨q,_⟩:=e0.hok c _ z2
   refine⟨u,z4,.inr ⟨.inr (S.isf y (CB hF)),c,?_,o,hk _ _ q,z3⟩⟩
   show (cellsFrom (s.heap.objs.size+1) scope.names cl).lookup y=some c
   rw[b7,F6]
   cases q:(cellsFrom (s.heap.objs.size+1) scope.names []).lookup y with
   | none=>rw[z1];rfl
   | some d=>
    rcases dJ (Dw q) with z|⟨y',m1,rfl,m3⟩
    ·exact absurd z (by simp)
    ·exact absurd (CB hF) (S.noc _ m1 m3)
 ·rcases look y c h with a|a
  ·exact⟨_,(o1 y c a).1⟩
  ·obtain⟨o,u,_,z3,z,_⟩:=inF y c a
   exact⟨_,o,z,z3⟩
 ·rcases look y c h with a|a
  ·exact .inl (e0.hok.fresh (by have:=(o1 y c a).2;lia))
  ·obtain⟨o,u,z,_⟩:=inF y c a
   exact .inr ⟨nofn y (c1 y c a),o,_,z⟩
 ·unfold gc
  show _=N.length
  rw[CA,CA,Cy,Cy,Ej]
  have:=S.fit
  lia
structure iY (P:Program) (w:World) (K:PySem.W.Frag) (mg:Str->Option Value) (base:Heap) (CX:CXT) (k:Nat) (name qual:Str) (st:Stmt) (ps F:List Str) (sp:List V->Sp):Prop where
 len:∀ ws vs H Q E,sp ws vs H Q E->vs.length=ps.length
 run:∀ (f:Addr) (ws:List V) (A:Around) (outer:List Env) (s:Shared) (H:Hp) (us:List Value) (vs:List V) (Q:VK) (E:XK),cn k A->jt P w K mg base A outer s H->Clo H name qual st F f ws->Vals vs us->sp ws vs H Q E ->
  codeAny (model P w) A (.call (.ref f) ⟨us,[]⟩) (CR CX outer P w H s Q E) s
theorem iY.mono {P:Program}{w:World}{K:PySem.W.Frag}{mg:Str->Option Value}{base:Heap}{CX:CXT}{j k:Nat}{name qual:Str}{st:Stmt}{ps F:List Str}{sp:List V->Sp}(C:iY P w K mg base CX j name qual st ps F sp) (h:j<=k) :
  iY P w K mg base CX k name qual st ps F sp:=⟨C.len,λ f G A outer s H z vs Q E q=>C.run f G A outer s H z vs Q E (q.mono h)⟩
theorem wK {CX:CXT}{P:Program}{w:World}{K:PySem.W.Frag}{mg:Str->Option Value}{base:Heap}{k:Nat}{name qual:Str}{st:Stmt}{N ps F:List Str}{sp:List V->Sp}(S:iZ N ps F (aK st))
  (a2:∀ j vs H Q E,sp j vs H Q E->vs.length=ps.length)
  (hb:∀ (cl:List (Str×Addr)) (M pm L:Value) (G:Addr) (us:List Value),us.length=ps.length->bindArgs (PySem.W.fnX name qual (gi st) (cQ st) (aK st) cl .none .none M pm none (.ref G) L) ⟨us,[]⟩=pure (ps.zip us))
  (O:∀ (f:Addr) (W:Value) (cl:List (Str×Addr)) (A:Around) (outer:List Env) (s:Shared) (H:Hp) (j vs:List V) (Q:VK) (E:XK),
   cn k (A.deeper (PySem.W.envX qual (aK st) s.heap.objs.size f W (cellsFrom (s.heap.objs.size+1) (aK st).names cl)))->j.length=F.length->sp j vs H Q E ->
   ∃ t,PSs (cxC CX P w K mg base N F qual (aK st) f W cl A outer s H E).nox (cQ st) t/\t { nx:=λ _ H'=>Q .non H',rt:=Q } (gc N vs j) H) :
  iY P w K mg base CX (k+1) name qual st ps F sp:=by
 refine⟨a2,λ f j A outer s H us vs Q E hr Y c r a1=>?_⟩
 have hl:=a2 _ _ _ _ _ a1
 obtain⟨⟨cl,M,pm,L,G,oc,a3,t,e1,e2,e3,e4,e5,e6,e7⟩,wl⟩:=c
 have a5:s.heap.NoLimit:=Y.mod.nolimit.keeps λ b o e=>(Y.bs b o e).1
 have a4:us.length=ps.length:=by rw[<- r.length];exact hl
 obtain⟨g1,_⟩:=Y.hok f _ e1
 obtain⟨g2,_⟩:=Y.hok G _ e2
 refine FU hr.depth g1 rfl S.co S.gen rfl ⟨G,oc,a3,t,rfl,g2,e3,e4⟩ ?_
 rw[hb cl M pm L G us a4]
 refine Cu ?_
 refine mR S.kind (λ y hy=>S.par y.1 (Fl hy).1) λ a6 he h' tk n hk o1 o2=>?_
 subst he
 refine⟨a5.keeps hk,codeAny_func ?_⟩
 obtain⟨t,ht,hq⟩:=O f (.ref G) cl A outer s H j vs Q E (hr.deeper _) wl a1
 have I:Inv (cxC CX P w K mg base N F qual (aK st) f (.ref G) cl A outer s H E) [] (gc N vs j) H { s with heap:=h',toks:=tk }:=nE S hr.hd Y hl r wl e5 e6 e7 n hk o1 o2
 refine Dp (ht.nox [] _ (gc N vs j) H _ I hq) (λ fl s' U=>?_) λ e s' U=>U
 have Z:∀ {z:St} {H':Hp} {v:V} {u:Value},Inv (cxC CX P w K mg base N F qual (aK st) f (.ref G) cl A outer s H E) [] z H' s'->RelV v u->Q v H'->CE outer P w H s Q u s':=
  λ{z H' v u} J rv q=>⟨v,H',J.os,J.bare,J.base,J.hok,rv,q⟩
 cases fl with
 | ret u=>
  obtain⟨v,z,H',J,rv,q⟩:=U
  exact Z J rv q
 | next=>
  obtain⟨z,H',J,q⟩:=U
  exact Z (v:=V.non) (u:=Value.none) J rfl q
 | brk=>
  obtain⟨_,_,_,q⟩:=U
  exact False.elim q
 | cont=>
  obtain⟨_,_,_,q⟩:=U
  exact False.elim q
noncomputable def fP (H H':Hp):Prop:=∀ b o u,H b=some (.frz o u)->H' b=some (.frz o u)
theorem fP.refl (H:Hp):fP H H:=λ _ _ _ h=>h
theorem fP.trans (a:fP H H1) (b:fP H1 H2):fP H H2:=λ c o u h=>b c o u (a c o u h)
theorem qZ {X:Cx}{CX:CXT}{k:Nat}{name qual:Str}{st:Stmt}{ps F:List Str}{sp:List V->Sp}{E:XK}{pos:Pos}{e:Expr}{es:List Expr}{t:TA}{pins:List (Addr×Obj)}{σ:St}{H1:Hp}{Q:VK}{f:Addr}{U:List V}{L:Shared}
  (C:iY X.prog X.w X.K X.mg X.base CX k name qual st ps F sp) (hr:cn k X.A) (hx:Passes CX X E) (ha:PA X (e::es) t) (W:Inv X pins σ H1 L) (c:Clo H1 name qual st F f U) (h1:t σ H1 λ vs H2=>fP H1 H2/\sp U vs H2 Q E)
  (he:starEach (e::es) X.env=(false,eval e X.env)::starEach es X.env) (O:(backTo pos (starEach es X.env)).any (·.1)=false) :
  wpAny (model X.prog X.w) X.A (callWith pos (.ref f) [] (backTo pos (starEach (e::es) X.env)) []) (EP X pins σ Q) X.xe L:=by
 obtain⟨cl,a2,pm,a1,c',oc,vs,tq,Y,_⟩:=id c.ex
 have G:∀ {o:Obj} {h:Heap},h.get? f=some o->PySem.W.Frag.In [(f,o)] h:=λ{o h} z a o' q=>by
  rw[D5] at q
  cases M:a == f with
  | true=>rw[M] at q;cases q;rw[DY.mp M];exact z
  | false=>rw[M] at q;cases q
 obtain⟨g1,_⟩:=W.hok f _ Y
 refine Fq (h₀:=L.heap) (G g1) (by simp[PySem.W.keepIn]) (thn (ha pos pins L σ H1 _ W h1) λ us s2 ⟨vs,H2,J,r,Z,q⟩=>?_) he O
 obtain⟨g2,_⟩:=J.hok f _ (Z _ _ _ Y)
 refine⟨G g2,?_⟩
 refine E4 (EO (C.run f U X.A X.stack s2 H2 us vs Q E hr J.wM (c.same Z) r q) λ r s' j=>?_)
 cases r with
 | error e=>exact hx pins σ H2 s2 e s' J j
 | ok fl=>
  cases fl with
  | ret u=>exact J.after j
  | next=>exact False.elim j
  | brk=>exact False.elim j
  | cont=>exact False.elim j
theorem kP {sc:Scope}{env:Env}(h:∀ y∈sc.names,y.2=.free->∃ c,env.cells.lookup y.1=some c) :
  ∃ cl,closureFor sc env=pure cl/\∀ x c,cl.lookup x=some c->∃ y∈sc.names,y.1=x/\y.2=.free:=by
 have go:∀ (names:List (Str×NameKind)) (cs:List (Str×Addr)),(∀ y∈names,y.2=.free->∃ c,env.cells.lookup y.1=some c) ->
   ∃ cl,(forIn names cs λ(x:Str×NameKind) (r:List (Str×Addr))=>(if (x.2 == NameKind.free)=true then do let c <- cellOf env x.1;pure (ForInStep.yield ((x.1,c)::r)) else pure (ForInStep.yield r):Sem (ForInStep (List (Str×Addr)))))=pure cl /\
    ∀ x c,cl.lookup x=some c->(∃ c',cs.lookup x=some c')\/∃ y∈names,y.1=x/\y.2=.free:=by
  intro names
  induction names with
  | nil=>intro cs _;exact⟨cs,rfl,λ x c e=>.inl ⟨c,e⟩⟩
  | cons y r ih=>
   intro cs hn
   by_cases hy:y.2=.free
   ·obtain⟨c,hc⟩:=hn y CJ hy
    obtain⟨cl,e,h1⟩:=ih ((y.1,c)::cs) (λ z hz=>hn z (CH _ hz))
    refine⟨cl,?_,λ x c' e'=>?_⟩
    ·rw[E2]
     have e1:(y.2 == NameKind.free)=true:=by rw[hy];rfl
     have e2:cellOf env y.1=pure c:=by unfold cellOf;rw[hc]
     rw[e1,e2]
     exact e
    ·rcases h1 x c' e' with ⟨c2,z⟩|⟨z,m,q⟩
     ·rw[D5] at z
      cases hb:x == y.1 with
      | true=>exact .inr ⟨y,CJ,(DY.mp hb).symm,hy⟩
      | false=>rw[hb] at z;exact .inl ⟨c2,z⟩
     ·exact .inr ⟨z,CH _ m,q⟩
   ·obtain⟨cl,e,h1⟩:=ih cs (λ z hz=>hn z (CH _ hz))
    refine⟨cl,?_,λ x c' e'=>?_⟩
    ·rw[E2]
     have e1:(y.2 == NameKind.free)=false:=by simpa using hy
     rw[e1]
     exact e
    ·rcases h1 x c' e' with z|⟨z,m,q⟩
     ·exact .inl z
     ·exact .inr ⟨z,CH _ m,q⟩
 obtain⟨cl,e,h1⟩:=go sc.names [] h
 refine⟨cl,?_,λ x c e=>(h1 x c e).elim (λ⟨_,z⟩=>by simp at z) id⟩
 have e2:closureFor sc env=((forIn sc.names [] λ(x:Str×NameKind) (r:List (Str×Addr))=>(if (x.2 == NameKind.free)=true then do let c <- cellOf env x.1;pure (ForInStep.yield ((x.1,c)::r)) else pure (ForInStep.yield r):Sem (ForInStep (List (Str×Addr))))) >>= λ s=>pure s):=rfl
 rw[e2,e]
 rfl
noncomputable def ju (H:Hp) (P:Addr) (pos:Pos) (qual:Str):Prop:=
 H P=some (.tbl #[])\/∃ c' oc vs t,H P=some (.tbl #[rawInt pos.line,rawInt pos.col,.ref c'])/\H c'=some (.frz oc (.own c'))/\oc.data=.fields vs/\vs[1]? = some (.str qual t)
theorem ju.get (t:ju H P pos qual):∃ ps,H P=some (.tbl ps):=by
 rcases t with t|⟨_,_,_,_,t,_⟩<;>exact⟨_,t⟩
theorem ju.same (k:fP H H') (e:H' P=H P) (t:ju H P pos qual):ju H' P pos qual:=by
 rcases t with t|⟨j,F,vs,tk,t,z,q⟩
 ·exact .inl (e.trans t)
 ·exact .inr ⟨j,F,vs,tk,e.trans t,k _ _ _ z,q⟩
noncomputable def lK (P:Addr) (H H':Hp):Prop:=∀ b o,b≠P->H b=some o->H' b=some o
structure Tab (mg:Str->Option Value) (base:Heap) (c P:Addr):Prop where
 code:PySem.W.CodeHd base c P
 blt:base.BuiltinsAt mg P
 ne:mainGlobals≠P
section
variable {P:Program}{w:World}{H H1:Hp}{h h':Heap}{T:Addr}{ps more:Array Value}{fs:List Addr}
theorem grown (J:H T=some (.tbl ps)) (U:HOk P w H h) (a:lK T H H1) (b:∀ x,x≠T->H x=none->x<h.objs.size->H1 x=none) (c:∀ x o,x≠T->h.get? x=some o->h'.get? x=some o)
  (d:H1 T=some (.tbl (ps++more))) (O:h'.get? T=some { cls:=.none,data:=.fields (ps++more) }) (e:∀ x o,H x=none->H1 x=some o->bu P w H1 h' x o):Un fs [] H H1 h h'/\HOk P w H1 h':=by
 have G:∀ x,H x=none->x≠T:=λ x n z=>by rw[z,J] at n;cases n
 have j:∀ x o,H x=some o->(∀ q,o≠.tbl q)->x≠T:=λ x o n q z=>by rw[z,J] at n;cases n;exact q _ rfl
 refine⟨⟨λ x o q n _ _=>c x o (G x n) q,λ x o q n _ _=>⟨o.slots,c x o (G x n) q⟩,λ x o q n _=>b x (G x n) n (Heap.lt_size q),λ x o q _=>?_,λ x xs q=>a x _ (j x _ q λ _=>by simp) q,λ x o u q=>a x _ (j x _ q λ _=>by simp) q,λ x V q=>?_⟩,λ x o q=>?_⟩
 ·by_cases F:x=T
  ·subst F;exact⟨_,O⟩
  ·exact⟨o,c x o F q⟩
 ·by_cases F:x=T
  ·subst F;rw[J] at q;cases q;exact⟨more,d⟩
  ·exact⟨#[],by rw[a x _ F q];simp⟩
 ·by_cases F:x=T
  ·subst F
   rw[d] at q;cases q
   exact O
  ·cases L:H x with
   | none=>exact e x o L q
   | some o'=>
    have z:=a x o' F L
    rw[q] at z;cases z
    refine(U x o L).iH (λ y u M r=>c y u ?_ r) (λ y r=>a y _ (j y _ r λ _=>by simp) r) λ y xs r=>a y _ (j y _ r λ _=>by simp) r
    rcases M with rfl|M
    ·exact F
    ·exact j y _ M λ _=>by simp
end
noncomputable def PM (X:Cx) (body:List Stmt) (t:TE):Prop:=
 ∀ (s:Shared) (σ:St) (H:Hp) (Q:VK),Inv X [] σ H s->t σ H Q->wpAny (model X.prog X.w) X.A (execs body X.env)
  (λ fl s'=>∃ u v H',fl=.ret u/\s'.os=X.s₀.os/\AllBare s'.gens/\Un X.fs X.ex X.H₀ H' X.s₀.heap s'.heap/\HOk X.prog X.w H' s'.heap/\RelV v u/\Q v H') X.xe s
noncomputable def B7 (t:TS) (u:TE):TE:=λ σ H Q=>t { nx:=λ σ' H'=>u σ' H' Q,rt:=λ _ _=>False } σ H
theorem kH {X:Cx}{st:Stmt}{rest:List Stmt}{t:TS}{u:TE}(h1:PS X st t) (h2:PM X rest u):PM X (st::rest) (B7 t u):=by
 intro s σ H Q I h
 refine Fd (thn (h1 [] s σ H _ I h) λ f F q=>?_)
 cases f with
 | next=>
  obtain⟨j,H',z,q⟩:=q
  exact h2 F j H' Q z q
 | ret v=>obtain⟨_,_,_,_,_,q⟩:=q;exact False.elim q
 | brk=>obtain⟨_,_,_,q⟩:=q;exact False.elim q
 | cont=>obtain⟨_,_,_,q⟩:=q;exact False.elim q
noncomputable def tMk (T:Addr) (name qual:Str) (st:Stmt) (pos:Pos) (F:List Str) (ix:List Nat):TE:=λ σ H Q=>ju H T pos qual/\∃ ws,ws.length=F.length/\(∀ (j i:Nat),ix[j]? = some i->∃ v,σ[i]? = some (some v)/\ws[j]? = some v) /\
 ∀ f H',H f=none->lK T H H'->ju H' T pos qual->Clo H' name qual st F f ws->Q (.ref f) H'
theorem vQ {X:Cx}{T c:Addr}{name qual:Str}{args:Arguments}{body:List Stmt}{scope:Scope}{pos p2 pos2:Pos}{F:List Str}{ix:List Nat}{i:Nat}(Tb:Tab X.mg X.base c T) (hcd:X.env.code=.ref c) (hN:X.N.Nodup) (hi:X.N[i]? = some name) (hloc:X.env.scope.names.lookup name=some .local)
  (hfn:∀ x,X.fn x=true) (hix:∀ (j:Nat) x,F[j]? = some x->∃ i',ix[j]? = some i'/\X.N[i']? = some x) (hni:∀ i'∈ix,i'≠i) (hF:∀ x∈F,X.env.scope.names.lookup x=some .cell)
  (hfr:∀ y∈scope.names,y.2=.free->y.1∈F) (hfr2:∀ x∈F,scope.names.lookup x=some .free)
  (hdf:defaultsOf args X.env=([],[]):=by rfl) (han:annTrees args none X.env=[]:=by rfl) (hq:qualnameIn X.env name name=qual:=by rfl)
  (hdb:(name == ("__debug__" : Str))=false:=by decide) (hcdn:(name == ("__classdict__" : Str))=false:=by decide) :
  PM X [.FunctionDef name args body [] none [] scope none name pos,.Return (some (.Name name p2)) pos2] (tMk T name qual (.FunctionDef name args body [] none [] scope none name pos) pos F ix):=by
 intro s σ H Q I h
 obtain⟨tab,ws,wl,hw,k⟩:=h
 have has:∀ y∈scope.names,y.2=.free->∃ c,X.env.cells.lookup y.1=some c:=λ y hy hf=>I.ok.has y.1 (.inl (hF _ (hfr y hy hf)))
 obtain⟨cl,ecl,hcl,hfc⟩:=eh has
 obtain⟨cl2,ecl2,hkey⟩:=kP has
 have:cl=cl2:=by rw[ecl] at ecl2;injection ecl2
 subst this
 have fin:∀ (f c':Addr) (oc:Obj) (cvs:Array Value) (tq:Tok) (doc pm ctv:Value) (H1:Hp) (h1:Heap) (tk:Nat),H f=none->Inv X [] σ H1 { s with heap:=h1,toks:=tk }->lK T H H1->ju H1 T pos qual ->
   H1 f=some (.frz { cls:=.type "function",data:=.func (PySem.W.fnX name qual args body scope cl .none .none doc pm none (.ref c') ctv) } (.own f))->H1 c'=some (.frz oc (.own c'))->oc.data=.fields cvs->cvs[1]? = some (.str qual tq) ->
   wpAny (model X.prog X.w) X.A (storeName X.env name (.ref f)) (λ _ s2=>wpAny (model X.prog X.w) X.A (execs [.Return (some (.Name name p2)) pos2] X.env)
    (λ fl s'=>∃ u v H',fl=.ret u/\s'.os=X.s₀.os/\AllBare s'.gens/\Un X.fs X.ex X.H₀ H' X.s₀.heap s'.heap/\HOk X.prog X.w H' s'.heap/\RelV v u/\Q v H') X.xe s2) X.xe { s with heap:=h1,toks:=tk }:=by
  intro f c' oc cvs tq doc pm ctv H1 h1 tk fresh I1 sT tT ef ec' e3 e4
  refine iO (v:=.ref f) (u:=.ref f) I1 hN hi (.inl hloc) rfl (λ s2 I2=>?_) (.inr hloc)
  refine Fd (wpAny_Return_some (thn (qY (X:=X) (pos:=p2) hi (.inl hloc) hdb hcdn [] s2 _ H1 (λ v H'=>v=.ref f/\H'=H1) I2 ⟨.ref f,CU (by rw[I1.len];exact(Cr.mp hi).1),rfl,rfl⟩) λ u s3 ⟨v,H',I3,rv,ev,eH⟩=>?_))
  subst ev;subst eH
  obtain rfl:u=Value.ref f:=rv
  have cnone:∀ x c,X.env.cells.lookup x=some c->H' c=none:=λ x c e=>(I3.freeC x c e).elim id λ z=>absurd ((hfn x).symm.trans z.1) (by decide)
  have cab:∀ x c,X.env.cells.lookup x=some c->X.s₀.heap.objs.size<=c:=λ x c e=>I3.ok.cab x c (hfn x) e
  classical
  let H2:Hp:=λ b=>if (∃ x∈F,X.env.cells.lookup x=some b) then (s3.heap.get? b).map (λ o=>.frz o (.own b)) else H' b
  have old:∀ b o,H' b=some o->H2 b=some o:=λ b o e=>by
   show (if _ then _ else _)=_
   rw[CD]
   ·exact e
   ·rintro⟨x,_,z⟩;rw[cnone x b z] at e;cases e
  have oldn:∀ b,b<X.s₀.heap.objs.size->H2 b=H' b:=λ b lt=>by
   show (if _ then _ else _)=_
   rw[CD]
   rintro⟨x,_,z⟩;exact absurd (CM lt (cab x b z)) (DS _)
  refine⟨.ref f,.ref f,H2,rfl,I3.os,I3.bare,⟨I3.base.keep,I3.base.slot,λ b o q n hx=>by rw[oldn b (Heap.lt_size q)];exact I3.base.free b o q n hx,I3.base.there,λ b xs q=>old _ _ (I3.base.tups b xs q),λ b o u q=>old _ _ (I3.base.frzs b o u q),λ b ps q=>let ⟨m,z⟩:=I3.base.tbls b ps q;⟨m,old _ _ z⟩⟩,?_,rfl,?_⟩
  ·intro b o q
   by_cases hb:∃ x∈F,X.env.cells.lookup x=some b
   ·have q':(if (∃ x∈F,X.env.cells.lookup x=some b) then (s3.heap.get? b).map (λ o=>HO.frz o (.own b)) else H' b)=some o:=q
    rw[CG hb] at q'
    obtain⟨ob,z,rfl⟩:=Df.mp q'
    exact⟨z,ob,z⟩
   ·have q':(if (∃ x∈F,X.env.cells.lookup x=some b) then (s3.heap.get? b).map (λ o=>HO.frz o (.own b)) else H' b)=some o:=q
    rw[CD hb] at q'
    exact(I3.hok b o q').iH (λ _ _ _ r=>r) (λ c r=>old _ _ r) λ c xs r=>old _ _ r
  ·refine k f H2 fresh (λ b o hb e=>old _ _ (sT b o hb e)) ?_ ⟨⟨cl,doc,pm,ctv,c',oc,cvs,tq,old _ _ ef,old _ _ ec',e3,e4,?_,?_,?_⟩,wl⟩
   ·rcases tT with z|⟨c2,oc2,v2,t2,z,z2,r⟩
    ·exact .inl (old _ _ z)
    ·exact .inr ⟨c2,oc2,v2,t2,old _ _ z,old _ _ z2,r⟩
   ·intro x c e
    obtain⟨y,m,rfl,hy⟩:=hkey x c e
    exact hfr y m hy
   ·intro x y c e1 e2
    exact I3.ok.inj x y c (hcl x c e1) (hcl y c e2)
   ·intro j x v ej ewj
    obtain⟨i',ei,eN⟩:=hix j x ej
    obtain⟨v',es,ew⟩:=hw j i' ei
    rw[ewj] at ew;cases ew
    have xF:x∈F:=CB ej
    obtain⟨m,hn,hl⟩:=I3.loc
    obtain⟨u,ru,lo⟩:=hl i' x v eN (by rw[C6 (Ne.symm (hni i' (CB ei)))];exact es) (.inr (.inl (hF x xF)))
    rcases lo with ⟨z,_⟩|⟨_,c,ec,o,ho,hd⟩
    ·have z':X.env.scope.names.lookup x=some .local:=z
     rw[hF x xF] at z';cases z'
    ·obtain⟨c2,ec2⟩:=hfc _ (Dw (hfr2 x xF)) rfl
     have:=hcl x c2 ec2
     rw[ec] at this;cases this
     refine⟨c,o,u,ec2,?_,hd,ru⟩
     show (if (∃ x∈F,X.env.cells.lookup x=some c) then (s3.heap.get? c).map (λ o=>HO.frz o (.own c)) else H' c)=_
     rw[CG ⟨x,xF,ec⟩,ho];rfl
 have G:=I.mod.glob.keeps I.bk
 have C:=Tb.code.keeps I.bk
 have B:=Tb.blt.keeps I.bk
 refine Fd ?_
 rw[exec_def,hdf,han,hq]
 refine Cq (Fg (Cq (C8 ?_)))
 refine Cq (Cu (Cq (C8 (Cu (C8 (Cq (Cu ?_)))))))
 rcases tab with tab|⟨c',oc,cvs,tq,tab,ec',e3,e4⟩
 ·have hP:s.heap.get? T=some (PySem.W.tabObj #[]):=I.hok T _ tab
  refine PySem.W.makeFunction_K ecl I.ok.glob G hcd C hP trivial rfl Tb.ne B λ c' ctv doc h' tk hx hge hlt hrec htb=>?_
  obtain⟨c2,oc,cvs,tq,e2,g2,e3,e4⟩:=hrec
  cases e2
  refine Cq (Fg (Cq (wpAny_bindName ?_)))
  let fo:Obj:={ cls:=.type "function",data:=.func (PySem.W.fnX name qual args body scope cl .none .none doc ((X.mg "__name__").getD .none) none (.ref c') ctv) }
  let H1:Hp:=upd (upd (upd H T (.tbl (#[] ++ #[rawInt pos.line,rawInt pos.col,.ref c']))) c' (.frz oc (.own c'))) h'.objs.size (.frz fo (.own h'.objs.size))
  have Tlt:T<s.heap.objs.size:=I.hok.lt tab
  have cT:c'≠T:=DA (CM Tlt hge)
  have fc:h'.objs.size≠c':=DA hlt
  have fT:h'.objs.size≠T:=DA (Gf (CM Tlt hge) hlt)
  have n1:H c'=none:=I.hok.fresh hge
  have n2:H h'.objs.size=none:=I.hok.fresh (CV hge (EB hlt))
  have H1f:H1 h'.objs.size=some (.frz fo (.own h'.objs.size)):=aD
  have H1c:H1 c'=some (.frz oc (.own c')):=by show upd _ _ _ _=_;rw[aE (Ne.symm fc),aD]
  have H1T:H1 T=some (.tbl (#[] ++ #[rawInt pos.line,rawInt pos.col,.ref c'])):=by show upd _ _ _ _=_;rw[aE (Ne.symm fT),aE (Ne.symm cT),aD]
  have H1o:∀ b,b≠T->b≠c'->b≠h'.objs.size->H1 b=H b:=λ b x1 x2 x3=>by show upd _ _ _ _=_;rw[aE x3,aE x2,aE x1]
  have sT:lK T H H1:=λ b o hb e=>by
   rw[H1o b hb (λ z=>by rw[z,n1] at e;cases e) (λ z=>by rw[z,n2] at e;cases e)];exact e
  have gf:(h'.push fo).get? h'.objs.size=some fo:=Heap.get?_push_size _ rfl
  have gr:=grown (fs:=X.fs) (P:=X.prog) (w:=X.w) (h':=h'.push fo) tab I.hok sT (λ b hb n lt=>by rw[H1o b hb (CI (CM lt hge)) (CI (Gf (CM lt hge) hlt))];exact n)
   (λ b o hb e=>Heap.get?_push_of_some _ (hx b o hb e)) H1T (Heap.get?_push_of_some _ htb) (λ b o n e=>by
    by_cases x3:b=h'.objs.size
    ·subst x3;rw[H1f] at e;cases e;exact⟨gf,_,gf⟩
    ·by_cases x2:b=c'
     ·subst x2;rw[H1c] at e;cases e;exact⟨Heap.get?_push_of_some _ g2,_,Heap.get?_push_of_some _ g2⟩
     ·have x1:b≠T:=λ z=>by rw[z,tab] at n;cases n
      rw[H1o b x1 x2 x3,n] at e;cases e)
  exact thn (fin h'.objs.size c' oc cvs tq doc _ ctv H1 (h'.push fo) tk n2 (I.un gr.1 gr.2) sT (.inr ⟨c',oc,cvs,tq,by rw[H1T];rfl,H1c,e3,e4⟩) H1f H1c e3 e4) λ _ s2 z=>Cu z
 ·have hP:s.heap.get? T=some (PySem.W.tabObj #[rawInt pos.line,rawInt pos.col,.ref c']):=I.hok T _ tab
  refine PySem.W.makeFunction_hit (cv:=.ref c') ecl I.ok.glob G hcd C hP (by simp[TriplesOk,rawInt]) (by simp[codeAmong,rawInt]) B λ ctv doc h' tk hx hge=>?_
  refine Cq (Fg (Cq (wpAny_bindName ?_)))
  let fo:Obj:={ cls:=.type "function",data:=.func (PySem.W.fnX name qual args body scope cl .none .none doc ((X.mg "__name__").getD .none) none (.ref c') ctv) }
  let H1:Hp:=upd H h'.objs.size (.frz fo (.own h'.objs.size))
  have n2:H h'.objs.size=none:=I.hok.fresh hge
  have H1f:H1 h'.objs.size=some (.frz fo (.own h'.objs.size)):=aD
  have all:∀ b o,H b=some o->H1 b=some o:=λ b o e=>by show upd _ _ _ _=_;rw[aE (aF e n2)];exact e
  have gf:(h'.push fo).get? h'.objs.size=some fo:=Heap.get?_push_size _ rfl
  have I1:Inv X [] σ H1 { s with heap:=h'.push fo,toks:=tk }:=I.laid (λ b o e=>Heap.get?_push_of_some _ (hx b o e)) hge ⟨gf,_,gf⟩
  exact thn (fin h'.objs.size c' oc cvs tq doc _ ctv H1 (h'.push fo) tk n2 I1 (λ b o _ e=>all b o e) (.inr ⟨c',oc,cvs,tq,all _ _ tab,all _ _ ec',e3,e4⟩) H1f (all _ _ ec') e3 e4) λ _ s2 z=>Cu z
theorem AY {CX:CXT}{P:Program}{w:World}{K:PySem.W.Frag}{mg:Str->Option Value}{base:Heap}{k:Nat}{f:Addr}{name qual:Str}{j:Arguments}{F:List Stmt}{scope:Scope}{dV kV L pm z ct oc:Value}{an od:Option Addr}
  {a2:Array (Option Value)}{N ps:List Str}{sp:Sp}(lk:K.lookup f=some ⟨oc,od,.func (PySem.W.fnOf name qual j F scope dV kV L pm an z ct),a2⟩) (W:PySem.W.codeIn K z qual=true) (S:aQ N ps scope)
  (U:∀ vs H Q E,sp vs H Q E->vs.length=ps.length)
  (G:∀ (A:Around) (outer:List Env) (s:Shared) (H:Hp) (vs:List V) (Q:VK) (E:XK),cn k (A.deeper (envOfC qual scope s.heap.objs.size f z))->sp vs H Q E ->
   ∃ t,PM (dR CX P w K mg base N qual scope f z A outer s H E).nox F t/\t (start N vs) H Q) :
  bq P w K mg base CX (k+1) f (PySem.W.fnOf name qual j F scope dV kV L pm an z ct) ps sp:=by
 refine⟨U,λ A outer s H a3 us vs Q E Y M hb r O=>?_⟩
 have hl:=U _ _ _ _ O
 have KX:K.In s.heap:=M.mod.kin.keeps λ b o e=>(M.bs b o e).1
 have a1:s.heap.NoLimit:=M.mod.nolimit.keeps λ b o e=>(M.bs b o e).1
 have J:∀ y∈ps.zip us,scope.names.lookup y.1=some .local\/(scope.names.lookup y.1=some .cell/\((cellsFrom (s.heap.objs.size+1) scope.names []).lookup y.1).isSome=true):=λ⟨n,v⟩ hy=>by
  rcases S.par n (Fl hy).1 with q|q
  ·exact .inl q
  ·exact .inr ⟨q,FL _ _ _ (.inl q)⟩
 refine FU Y.depth (KX _ _ lk) rfl S.co S.gen rfl (PySem.W.codeRec_of KX W) (hb _ _ _ _ ?_)
 refine wpAny_newFunctionEnv_cells S.kind J λ a4 he s1 x=>?_
 subst he
 refine⟨a1.keeps x.toInCall.keep,codeAny_func ?_⟩
 obtain⟨t,ht,hq⟩:=G A outer s H vs Q E (Y.deeper _) O
 have I:Inv (dR CX P w K mg base N qual scope f z A outer s H E) [] (start N vs) H s1:=jS S Y.hd M hl r x
 refine Dp (ht s1 (start N vs) H Q (I.iJ _) hq) (λ fl s' Z=>?_) λ e s' Z=>False.elim Z
 obtain⟨u,v,H',rfl,o1,o2,o3,o4,o5,o6⟩:=Z
 exact⟨v,H',o1,o2,o3,o4,o5,o6⟩
theorem Fun.okM {CX:CXT}{P:Program}{w:World}{K:PySem.W.Frag}{mg:Str->Option Value}{base:Heap}{x qual:Str}{st:Stmt}{f c:Addr}{fd:FuncData}{N ps:List Str}{k:Nat}{sp:Sp}(F:Fun K x qual st f fd) (L:fd.code=.ref c) (S:aQ N ps (aK st)) (G:∀ vs H Q E,sp vs H Q E->vs.length=ps.length)
  (j:∀ (A:Around) (outer:List Env) (s:Shared) (H:Hp) (vs:List V) (Q:VK) (E:XK),cn k (A.deeper (envOfC qual (aK st) s.heap.objs.size f (.ref c)))->sp vs H Q E ->
   ∃ t,PM (dR CX P w K mg base N qual (aK st) f (.ref c) A outer s H E).nox (cQ st) t/\t (start N vs) H Q):bq P w K mg base CX (k+1) f fd ps sp:=by
 obtain⟨Z,od,Y,J,pm,U,q,W,O,rfl,M,z⟩:=F.ex
 obtain rfl:q=.ref c:=L
 exact AY M z S G j
theorem wu {F N:List Str}{ix:List Nat}(h:ix.map (λ i=>N[i]?)=F.map some):∀ (j:Nat) x,F[j]? = some x->∃ G,ix[j]? = some G/\N[G]? = some x:=λ j x e=>by
 have z:(F.map some)[j]? = some (some x):=by rw[Cw,e];rfl
 rw[<- h,Cw] at z
 cases q:ix[j]? with
 | none=>rw[q] at z;cases z
 | some i=>rw[q] at z;exact⟨i,rfl,by simpa using z⟩
noncomputable def inDef (s:Stmt) (j:Nat):Stmt:=(cQ s).getD j (.Pass ⟨0,0,0,0⟩)
noncomputable def posOf (s:Stmt):Pos:=match s with
 | .FunctionDef _ _ _ _ _ _ _ _ _ p=>p
 | _=>⟨0,0,0,0⟩
theorem tK {X:Cx}{T c:Addr}{name qual:Str}(st:Stmt) {args:Arguments}{body:List Stmt}{scope:Scope}{pos p2 pos2:Pos}{F:List Str}{ix:List Nat}{i:Nat}(hst:st=.FunctionDef name args body [] none [] scope none name pos) (Tb:Tab X.mg X.base c T) (hcd:X.env.code=.ref c) (hN:X.N.Nodup) (hi:X.N[i]? = some name) (hloc:X.env.scope.names.lookup name=some .local)
  (hfn:∀ x,X.fn x=true) (hix:∀ (j:Nat) x,F[j]? = some x->∃ i',ix[j]? = some i'/\X.N[i']? = some x) (hni:∀ i'∈ix,i'≠i) (hF:∀ x∈F,X.env.scope.names.lookup x=some .cell)
  (hfr:∀ y∈(aK st).names,y.2=.free->y.1∈F) (hfr2:∀ x∈F,(aK st).names.lookup x=some .free)
  (hdf:defaultsOf args X.env=([],[]):=by rfl) (han:annTrees args none X.env=[]:=by rfl) (hq:qualnameIn X.env name name=qual:=by rfl)
  (hdb:(name == ("__debug__" : Str))=false:=by decide) (hcdn:(name == ("__classdict__" : Str))=false:=by decide) :
  PM X [st,.Return (some (.Name name p2)) pos2] (tMk T name qual st (posOf st) F ix):=by
 subst hst
 exact vQ Tb hcd hN hi hloc hfn hix hni hF hfr hfr2 hdf han hq hdb hcdn
theorem qd {P:Program}{w:World}{K:PySem.W.Frag}{mg mb:Str->Option Value}{CX:CXT}{k:Nat}{fa a:Addr}{fd:FuncData}{x:Str}{sp:Sp}{j:Shared}{vs:List Value}{ns:List Int}{tabs:List (Addr×Addr)}
  (KX:K.In j.heap) (W:j.heap.Ns mainGlobals mg) (J:j.heap.Ns builtinsNs mb) (ai:∀ x:Str,x ≠ "__name__" -> mb x=bootBuiltins x) (a8:j.heap.NoLimit) (hg:j.gens = #[])
  (aj:∃ bm ob,mg "__builtins__" = some (.ref bm)/\bm≠builtinsNs/\j.heap.get? bm=some ob/\ob.cls=.type "module" /\ ob.dict=some builtinsNs/\ob.data=.plain)
  (hT:PySem.W.TabsAt tabs j.heap) (ag:∀ q∈tabs,K.lookup q.2=none)
  (ha:j.heap.get? a=some { cls:=.type "list",data:=.seq vs.toArray }) (hi:IntsAre vs ns) (hl:ns.length<=sizeLine) (hr:cn k callerA)
  (F:∀ base:Heap,K.In base->base.Ns mainGlobals mg->(∀ q∈tabs,Tab mg base q.1 q.2)->bq P w K mg base CX k fa fd [x] sp) (a4:∀ (s:Shared) (u:Value),BindsTo s fd ⟨[u],[]⟩ [(x,u)])
  (ak:∀ H:Hp,(∀ q∈tabs,H q.2=some (.tbl #[]))->SqL K H a (ns.map V.int)->sp [.ref a] H (λ v _=>v=.bl true) λ _ _ _=>False)
  (ae:∀ H e s',CX [] H j (λ _ _ _=>False) e s'->False) :
  codeAny (model P w) callerA (.call (.ref fa) ⟨[.ref a],[]⟩) (λ r s'=>r=.ok (.ret (.bool true))/\OldK j.heap s'.heap/\s'.os=j.os/\AllBare s'.gens) j:=by
 have rv:=jF hi
 have aa:=hi.length
 have aT:a∉tabs.map (·.2):=λ m=>by
  obtain⟨q,M,e⟩:=CL.mp m
  have:=(hT q M).2
  rw[e,ha] at this;cases this
 have Z:∀ H:Hp,(∀ b,H b=none\/(∃ o xs,H b=some (.frz o (.lst xs)))\/(b∈tabs.map (·.2)/\H b=some (.tbl #[])))->(∀ q∈tabs,H q.2=some (.tbl #[]))->SqL K H a (ns.map V.int)->HOk P w H j.heap->(∀ b,H b≠none->b=a\/b∈tabs.map (·.2))->(H a≠none->K.lookup a=none) ->
   codeAny (model P w) callerA (.call (.ref fa) ⟨[.ref a],[]⟩) (λ r s'=>r=.ok (.ret (.bool true))/\OldK j.heap s'.heap/\s'.os=j.os/\AllBare s'.gens) j:=by
  intro H hO af hS a9 hA hK
  have G:∀ {b:Addr} {o:Obj},j.heap.get? b=some o->H b=none->(jr j.heap H).get? b=some o:=λ e n=>qj e n
  have ad:∀ {b:Addr} {o:Obj},j.heap.get? b=some o->H b≠none->o.cls=.type "list" \/ o=PySem.W.tabObj #[]:=λ{b o} e n=>by
   rcases hA b n with z|z
   ·subst z;rw[ha] at e;cases e;exact .inl rfl
   ·obtain⟨q,M,rfl⟩:=CL.mp z
    have:=(hT q M).2
    rw[e] at this;cases this;exact .inr rfl
  have am:∀ {b:Addr} {o:Obj},j.heap.get? b=some o->o.cls≠.type "list" -> (∀ q,o.data≠.fields q)->H b=none:=λ{b o} e d1 d2=>by
   cases q:H b with
   | none=>rfl
   | some u=>
    rcases ad e (by rw[q];simp) with z|z
    ·exact absurd z d1
    ·rw[z] at d2;exact absurd rfl (d2 #[])
  have an:∀ {b:Addr} {o:Obj} {es:Array DictEntry} {ep:Nat},j.heap.get? b=some o->o.data=.dict es ep->H b=none:=λ{b o es ep} e d=>by
   cases q:H b with
   | none=>rfl
   | some u=>
    rcases hA b (by rw[q];simp) with z|z
    ·subst z;rw[ha] at e;cases e
     have d':Data.seq vs.toArray _=Data.dict es ep:=d
     cases d'
    ·obtain⟨r,O,rfl⟩:=CL.mp z
     have:=(hT r O).2
     rw[e] at this;cases this
     have d':Data.fields #[]=Data.dict es ep:=d
     cases d'
  have Y:∀ {b:Addr} {m:Str->Option Value},j.heap.Ns b m->(jr j.heap H).Ns b m:=λ{b m} ⟨o,es,ep,e,d,r⟩=>⟨o,es,ep,G e (an e d),d,r⟩
  have a7:K.In (jr j.heap H):=λ b o e=>G (KX b o e) (by
   cases q:H b with
   | none=>rfl
   | some u=>
    rcases hA b (by rw[q];simp) with e'|z
    ·subst e'
     rw[hK (by rw[q];simp)] at e;cases e
    ·obtain⟨r,O,rfl⟩:=CL.mp z
     rw[ag r O] at e;cases e)
  have hM:Mod K mg (jr j.heap H):=⟨a7,Y W,⟨mb,Y J,ai⟩,let ⟨mc,h1,h2⟩:=a8;⟨mc,Y h1,h2⟩⟩
  have ah:∀ q∈tabs,Tab mg (jr j.heap H) q.1 q.2:=λ q M=>by
   obtain⟨⟨o,ws,a6,tf,a3,tg,al,ab,tt,e1,r1,r2,r3⟩,e2⟩:=hT q M
   have n1:H q.1=none:=by
    cases z:H q.1 with
    | none=>rfl
    | some u=>
     rcases ad e1 (by rw[z];simp) with z|z
     ·rw[r1] at z;exact absurd z (by simp)
     ·rw[z] at r1;exact absurd r1 (by simp[PySem.W.tabObj])
   obtain⟨bm,ob,b1,b2,b3,b4,b5,b6⟩:=aj
   have n2:H bm=none:=am b3 (by rw[b4];decide) (λ z=>by rw[b6];simp)
   refine⟨⟨o,ws,a6,tf,a3,tg,al,ab,tt,G e1 n1,r1,r2,r3⟩,⟨bm,ob,b1,b2,λ z=>?_,λ z=>?_,G b3 n2,b4,b5,b6⟩,λ z=>?_⟩
   ·obtain⟨og,es,ep,g1,g2,_⟩:=W
    rw[<- z,b3] at g1;cases g1;rw[b6] at g2;cases g2
   ·rw[z,e2] at b3;cases b3;cases b4
   ·obtain⟨og,es,ep,g1,g2,_⟩:=W
    rw[z,e2] at g1;cases g1;cases g2
  have e0:jt P w K mg (jr j.heap H) callerA [] j H:=⟨rfl,hM,λ b o e=>sW e,Nat.le_of_eq (pB _ _),trivial,λ b J=>absurd (show b∈([]:List Addr) from J) (by simp),a9,.of_eq hg⟩
  refine EO ((F _ a7 (Y W) ah).run callerA [] j H ⟨[.ref a],[]⟩ [.ref a] [.ref a] _ _ hr e0 (a4 j (.ref a)) (.cons rfl .nil) (ak H af hS)) λ r s' h=>?_
  cases r with
  | error e=>exact(ae H e s' h).elim
  | ok fl=>
   cases fl with
   | next=>exact False.elim h
   | brk=>exact False.elim h
   | cont=>exact False.elim h
   | ret u=>
    obtain⟨v,H',os,a5,un,a1,r',q⟩:=h
    have q':v=.bl true:=q
    subst q'
    obtain rfl:u=Value.bool true:=r'
    have a2:∀ b o,j.heap.get? b=some o->s'.heap.get? b=some o\/(isCodeTable j.heap b/\o=PySem.W.tabObj #[]/\∃ ps,s'.heap.get? b=some (PySem.W.tabObj ps)):=λ b o e=>by
     cases q:H b with
     | none=>exact .inl (un.keep b o e q (by intro z;exact absurd (show b∈([]:List Addr) from z) (by simp)) (by simp))
     | some u=>
      rcases hO b with z|⟨ob,xs,z⟩|⟨m,z⟩
      ·rw[q] at z;cases z
      ·have z2:=un.frzs b ob _ z
       obtain⟨e1,_⟩:=a9 b _ z
       obtain⟨e2,_⟩:=a1 b _ z2
       rw[e] at e1;cases e1
       exact .inl e2
      ·obtain⟨r,O,rfl⟩:=CL.mp m
       obtain⟨more,z2⟩:=un.tbls _ _ z
       have e2:s'.heap.get? r.2=some (PySem.W.tabObj (#[]++more)):=a1 _ _ z2
       have e3:=(hT r O).2
       rw[e] at e3
       exact .inr ⟨((hT r O).1.tab (hT r O).2).isCodeTable,Option.some.inj e3,_,e2⟩
    refine⟨rfl,⟨λ b o e=>?_,λ b o e=>?_⟩,os,a5⟩
    ·rcases a2 b o e with z|⟨t,rfl,ps,hP⟩
     ·exact .inl z
     ·exact .inr (.inl ⟨t,rfl,#[],ps,rfl,by rw[Array.empty_append];exact hP⟩)
    ·rcases a2 b o e with z|⟨t,rfl,ps,hP⟩
     ·exact⟨o,z⟩
     ·exact⟨_,hP⟩
 have U:∀ q∈tabs,j.heap.get? q.2=some { cls:=.none,data:=.fields #[] }:=λ q M=>(hT q M).2
 classical
 cases hk:K.lookup a with
 | some o=>
  have e:=KX a o hk
  rw[ha] at e
  cases e
  refine Z (λ b=>if b∈tabs.map (·.2) then some (.tbl #[]) else none) (λ b=>?_) (λ q M=>CG (CN M)) (.inr ⟨_,vs.toArray,_,hk,rfl,rfl,rfl,by rw[C0,aa];exact hl,by simpa using rv⟩) (λ b u z=>?_) (λ b z=>?_) λ z=>absurd (CD aT) z
  ·by_cases J:b∈tabs.map (·.2)
   ·exact .inr (.inr ⟨J,CG J⟩)
   ·exact .inl (CD J)
  ·by_cases J:b∈tabs.map (·.2)
   ·have z':=(CG J).symm.trans z
    cases z'
    obtain⟨q,M,rfl⟩:=CL.mp J
    exact U q M
   ·have z':=(CD J).symm.trans z
    cases z'
  ·by_cases J:b∈tabs.map (·.2)
   ·exact .inr J
   ·exact absurd (CD J) z
 | none=>
  refine Z (λ b=>if b=a then some (.frz { cls:=.type "list",data:=.seq vs.toArray } (.lst (ns.map V.int))) else if b∈tabs.map (·.2) then some (.tbl #[]) else none) (λ b=>?_) (λ q M=>?_) (.inl (.inr ⟨{ cls:=.type "list",data:=.seq vs.toArray },CG rfl⟩)) (λ b u z=>?_) (λ b z=>?_) λ _=>hk
  ·by_cases J:b=a
   ·exact .inr (.inl ⟨_,_,CG J⟩)
   ·by_cases L:b∈tabs.map (·.2)
    ·exact .inr (.inr ⟨L,by rw[CD J,CG L]⟩)
    ·exact .inl (by rw[CD J,CD L])
  ·show (if q.2=a then _ else _)=_
   rw[CD (λ z:q.2=a=>aT (by rw[<- z];exact CN M)),CG (CN M)]
  ·by_cases J:b=a
   ·have z':=(CG J).symm.trans z
    cases z'
    subst J
    exact⟨ha,by rw[Cy];exact hl,vs,_,rv,ha⟩
   ·have z':=(CD J).symm.trans z
    by_cases L:b∈tabs.map (·.2)
    ·have z2:=(CG L).symm.trans z'
     cases z2
     obtain⟨q,M,rfl⟩:=CL.mp L
     exact U q M
    ·have z2:=(CD L).symm.trans z'
     cases z2
  ·by_cases J:b=a
   ·exact .inl J
   ·by_cases L:b∈tabs.map (·.2)
    ·exact .inr L
    ·exact absurd (by rw[CD J,CD L]) z
theorem qX {l:PySem.W.OpenLaw}{n k:Nat}{q:Program}{M:List Str}{XP:(Str->Option Value)->Heap->Prop}{YP:World->Heap->Prop}{d:DefRec}{K:Params->PySem.W.Frag}{CX:World->CXT}{sp:World->Sp}{x:Str}(ts:List Addr)
  (hn:l.most=some n) (a5:n<=sizeLine) (a3:d.params.defaults=[]) (hr:cn k callerA)
  (hY:∀ (w:World) (h:Heap),YP w h->(K w.params).In h) (hT:∀ (w:World) (h:Heap),YP w h->∀ P∈ts,h.get? P=some (PySem.W.tabObj #[]))
  (F:∀ (w:World) (mg:Str->Option Value) (Z:Addr) (h:Heap),(K w.params).In h->h.Ns mainGlobals mg->mg d.name=some (.ref Z) ->
   ∃ (fd:FuncData) (tabs:List (Addr×Addr)),(∀ q∈tabs,PySem.W.codeHdIn (K w.params) q.1 q.2=true/\(K w.params).lookup q.2=none/\q.2∈ts)/\(∀ P∈ts,P∈tabs.map (·.2))/\(∀ (s:Shared) (u:Value),BindsTo s fd ⟨[u],[]⟩ [(x,u)]) /\
    ∀ base:Heap,(K w.params).In base->base.Ns mainGlobals mg->(∀ q∈tabs,Tab mg base q.1 q.2)->bq l.prog w (K w.params) mg base (CX w) k Z fd [x] (sp w))
  (a6:∀ (w:World) (H:Hp) (a:Addr) (ns:List Int),ns.length<=n->(∀ P∈ts,H P=some (.tbl #[]))->SqL (K w.params) H a (ns.map V.int)->sp w [.ref a] H (λ v _=>v=.bl true) λ _ _ _=>False)
  (a1:∀ (w:World) (H:Hp) (s:Shared) (e:Value) (s':Shared),CX w [] H s (λ _ _ _=>False) e s'->False) :
  PySem.W.WalkO q M XP YP l.row.toRowW d [] (λ f vs=>PySem.call f vs):=by
 refine Att.kS hn a3 λ w s₀ z mg mb Z o pm cd a7 a vs ns G Y ho hd a8 a4 W L j hg=>?_
 have KX:=hY w _ Y
 obtain⟨fd,tabs,J,U,hb,hF⟩:=F w mg Z _ KX G.T.g a4
 have a2:PySem.W.TabsAt tabs z.heap:=λ q O=>⟨PySem.W.codeHd_of_K KX (J q O).1,hT w _ Y _ (J q O).2.2⟩
 exact qd (tabs:=tabs) KX G.T.g G.T.b G.T.builtins G.T.nolimit hg G.T.bmain a2 (λ q O=>(J q O).2.1) W L (CV j a5) hr hF hb
  (λ H hH hS=>a6 w H a ns j (λ P hP=>by
   obtain⟨q,O,rfl⟩:=CL.mp (U P hP)
   exact hH q O) hS) λ H e s'=>a1 w H z e s'
section
variable {X:Cx}{K:PySem.W.Frag}
theorem rr (U:xs.length<=1000)
  (h:∀ acc,H1 acc=none->∃ F:Nat->St->List V->Hp->Prop,F 0 (σ++List.replicate k none) [] (upd H1 acc (.lst []))/\(∀ i j ys H2,i<=xs.length->F i j ys H2->SqT K H2 a xs/\ys.length<=i) /\
   (∀ i x j ys H2,i<xs.length->xs[i]? = some x->F i j ys H2->g x j H2 λ z O=>tc z O λ b L=>if b=true then te z L λ v M=>M acc=some (.lst ys)/\Nx xs.length i (F (i+1) z (ys++[v]) (upd M acc (.lst (ys++[v])))) else Nx xs.length i (F (i+1) z ys L)) /\
   ∀ j ys H2,F xs.length j ys H2->Q (.ref acc) H2):ig (Itt K a) k g tc te σ H1 Q:=by
 intro acc W
 obtain⟨F,Y,pl,ps,Z⟩:=h acc W
 refine⟨λ i m j ys H2=>m=xs.length-i/\i<=xs.length/\F i j ys H2,⟨xs.length,by simp,Dq _,Y⟩,?_⟩
 rintro i m j ys H2 ⟨rfl,hi,p⟩
 obtain⟨q,J⟩:=pl i j ys H2 hi p
 by_cases G:i<xs.length
 ·refine .inr ⟨⟨xs,xs[i],q,by simp[G]⟩,DK J (bh (by lia)),λ x H3 y=>?_⟩
  obtain⟨e,y⟩:=y
  subst e
  exact ps i x j ys _ G (y xs q) p
 ·have e:i=xs.length:=by lia
  subst e
  exact .inl ⟨⟨xs,q,Nat.le_refl _⟩,Z j ys H2 p⟩
end
section
variable {X:Cx}{pr:Params}{a:Addr}{kvs:List (Str×Int)}{name:Str}{i:Expr}{ty:TE}{p pos:Pos}
end
section
variable {X:Cx}{K:PySem.W.Frag}
end
section
open PySem.Builtin PySem.Builtin.Str
end
section
variable {X:Cx}
end
noncomputable def Asc (x:Str):Prop:=∀ c∈x.cps.toList,c<128
theorem Asc.all (h:Asc x):x.cps.all (· < 128)=true:=by
 rw[<- Array.all_toList,D6]
 exact λ c j=>CZ (h c j)
end L2
namespace PySem
section
variable {prog:Program}{w:World}{K:Type} [DecidableEq K] {knd:HeapKind prog w K}{A:Around}{E:Value->Shared->Prop}{s:Shared}
theorem fS (f:α->β):∀ (l:List α) (j:Nat),(l.map f).eraseIdx j=(l.eraseIdx j).map f
 | [],_=>by simp
 | x::r,0=>by simp
 | x::r,j+1=>by simp[fS f r j]
theorem js {xs:List (K×Addr×Value)}(q:(xs.map (·.1)).Nodup):∀ {j:Nat}{k:K}{p:Addr×Value},xs[j]? = some (k,p)->xs.eraseIdx j=xs.filter λ x=>decide (x.1≠k):=by
 induction xs with
 | nil=>intro j k p h;simp at h
 | cons x r G=>
  intro j k p h
  rw[Dc,DM] at q
  cases j with
  | zero=>
   simp only[List.getElem?_cons_zero,Option.some.injEq] at h
   subst h
   rw[List.eraseIdx_cons_zero,D9 (by simp)]
   rw[List.filter_eq_self.mpr]
   intro y F
   refine CZ λ e=>q.1 (CL.mpr ⟨y,F,e⟩)
  | succ j=>
   simp only[List.getElem?_cons_succ] at h
   have z:k∈r.map (·.1):=CL.mpr ⟨(k,p),CB h,rfl⟩
   have J:x.1≠k:=λ e=>q.1 (by rw[e];exact z)
   rw[List.eraseIdx_cons_succ,G q.2 h,D8 (p:=λ x:K×Addr×Value=>decide (x.1≠k)) (by simpa using J)]
theorem kf {d a:Addr}{xs:List (K×Addr×Value)}{k:K}{p:Addr×Value}{Q:Option DictEntry->Shared->Prop}(hu:knd.room A) (z:knd.is s.heap k a) (hm:s.heap.DictOfH knd d xs) (V:atKey xs k=some p)
  (F:∀ h',h'.DictOfH knd d (xs.filter λ x=>decide (x.1≠k))->Heap.SameBut d s.heap h'->Q (some ⟨knd.hash k,.ref p.1,p.2⟩) { s with heap:=h',toks:=s.toks+knd.draws k })
  (hsz:xs.length<=sizeLine):wpAny (model prog w) A (Builtin.Dict.takeOut d (.ref a)) Q E s:=by
 obtain⟨o,es,ep,M,hc,G,J,L,U⟩:=hm
 unfold Builtin.Dict.takeOut
 try with_reducible refine C8 ?_
 refine Cq (knd.pyHash hu z ?_)
 refine Cq (wpAny_dictFind_heap (s:={ s with toks:=s.toks+knd.draws k }) hu z M G J L U ?_ ?_)
 ·intro Z
  rw[atKey_none_of_get Z] at V
  cases V
 ·intro j q O
  have W:q=p:=by rw[atKey_of_get U O] at V;exact Option.some.inj V
  subst W
  refine Cq (DQ (s:={ s with toks:=s.toks+knd.draws k }) M G ?_)
  rw[entry_at J j,O]
  refine Cq (wpAny_updateDictKeys (hz:=by have e:=Ek J;lia) (s:={ s with toks:=s.toks+knd.draws k }) M G (Cu (F _ ⟨_,_,ep+1,Heap.get?_update_self _ M (Obj.isFreed_of_dict (Obj.data_mapDictKeys G _)),
   hc.mapDictKeys _,Obj.data_mapDictKeys G _,?_,?_,?_⟩ (Heap.SameBut.update ..))))
  ·rw[<- js U O]
   have Y:j<es.size:=by
    rw[Ek J]
    exact(Cr.mp O).1
   show (es.eraseIdxIfInBounds j).toList=_
   rw[Array.eraseIdxIfInBounds,dif_pos Y,Array.toList_eraseIdx,J,fS]
  ·intro x hx
   exact knd.keeps (L x (Dj.mp hx).1) M G (Heap.SameBut.update ..)
  ·exact(List.filter_sublist.map _).nodup U
theorem il (knd:HeapKind prog w K) (d a) :
  MeetsIn prog w (Builtin.«dict.pop» ⟨[.ref d,.ref a],[]⟩) (λ A R s=>knd.room A.in1/\∃ k xs p,knd.is s.heap k a/\s.heap.DictOfH knd d xs/\xs.length<=sizeLine/\atKey xs k=some p /\
   ∀ h',h'.DictOfH knd d (xs.filter λ x=>decide (x.1≠k))->Heap.SameBut d s.heap h'->R (.ok (.ret p.2)) { s with heap:=h',toks:=s.toks+knd.draws k }):=
 .of_wp λ A R s ⟨W,k,xs,p,j,q,J,L,h⟩=>by
  unfold Builtin.«dict.pop»
  refine Cq ?_
  unfold Builtin.Dict.keyAndDefault
  refine Cq (Fb q.typeIs ?_)
  show wpAny _ _ (pure (d,Value.ref a,none)) _ _ s
  refine Cu ?_
  obtain⟨o,es,ep,V,Z,M,O,U,hn⟩:=id q
  have Y:es.isEmpty=false:=by
   have:es.size≠0:=by
    rw[Ek O]
    intro z
    rw[List.length_eq_zero_iff.mp z] at L
    cases L
   simp[Array.isEmpty,this]
  simp only[show (keyPart (Value.ref a)).isSome=false from rfl,CS,DJ]
  refine Cq (DQ V M ?_)
  refine Cq (Cu ?_)
  rw[Y]
  simp only[CS,DJ]
  refine Cq (kf W j q L (λ h' F G=>?_) J)
  simp only[Option.isNone_some,CS,DJ]
  exact Cq (EN (Cu ⟨_,rfl,h h' F G⟩))
theorem fN (W:knd.room A) (q:knd.is s.heap k a) (hm:s.heap.DictOfH knd d xs)
  (h1:∀ p,atKey xs k=some p->Q p.2 { s with toks:=s.toks+knd.draws k })
  (h2:atKey xs k=none->∀ h',h'.DictOfH knd d (xs++[(k,a,dflt)])->Heap.SameBut d s.heap h'->Q dflt { s with heap:=h',toks:=s.toks+knd.draws k })
  (hsz:xs.length<=sizeLine):wpAny (model prog w) A (dictSetDefault d (.ref a) dflt) Q E s:=by
 obtain⟨o,es,ep,G,Z,F,O,J,U⟩:=hm
 unfold dictSetDefault
 try with_reducible refine C8 ?_
 refine Cq (knd.pyHash W q ?_)
 refine Cq (wpAny_dictFind_heap (s:={ s with toks:=s.toks+knd.draws k }) W q G F O J U ?_ ?_)
 ·intro L
  have M:k∉xs.map (·.1):=not_mem_keys_of_get L
  refine Cq (Ez (Cq (wpAny_updateDictKeys (hz:=by have e:=Ek O;lia) (s:={ s with toks:=s.toks+knd.draws k }) G F (Cu (h2 (atKey_none_of_get L) _ ⟨_,_,ep+1,Heap.get?_update_self _ G (Obj.isFreed_of_dict (Obj.data_mapDictKeys F _)),
   Z.mapDictKeys _,Obj.data_mapDictKeys F _,?_,?_,?_⟩ (Heap.SameBut.update ..))))))
  ·simp[O,entryOfKey]
  ·intro x z
   rcases CF.mp z with z|z
   ·exact knd.keeps (J x z) G F (Heap.SameBut.update ..)
   ·simp only[Cv] at z
    subst z
    exact knd.keeps q G F (Heap.SameBut.update ..)
  ·rw[CP,DD]
   refine⟨U,by simp,?_⟩
   intro x z y Y
   simp only[Dc,Gh,Cv] at Y
   subst Y
   exact λ e=>M (e ▸ z)
 ·intro j p V
  refine Cq (DQ (s:={ s with toks:=s.toks+knd.draws k }) G F ?_)
  rw[entry_at O j,V]
  exact Cq (Ez (Cu (h1 p (atKey_of_get U V))))
theorem eC (knd:HeapKind prog w K) (d a) (J:(d == sysModules)=false) (j) :
  MeetsIn prog w (Builtin.«dict.setdefault» ⟨[.ref d,.ref a,j],[]⟩) (λ A R s=>knd.room A.in1/\∃ k xs,knd.is s.heap k a/\s.heap.DictOfH knd d xs/\xs.length<=sizeLine /\
   (∀ p,atKey xs k=some p->R (.ok (.ret p.2)) { s with toks:=s.toks+knd.draws k }) /\
   (atKey xs k=none->∀ h',h'.DictOfH knd d (xs++[(k,a,j)])->Heap.SameBut d s.heap h'->R (.ok (.ret j)) { s with heap:=h',toks:=s.toks+knd.draws k })):=
 .of_wp λ A R s ⟨M,k,xs,q,G,U,h1,h2⟩=>by
  unfold Builtin.«dict.setdefault»
  refine Cq ?_
  unfold Builtin.Dict.keyAndDefault
  refine Cq (Fb G.typeIs ?_)
  show wpAny _ _ (pure (d,Value.ref a,some j)) _ _ s
  refine Cu ?_
  show wpAny _ _ (if (d == sysModules)=true then _ else (dictSetDefault d (.ref a) j >>= _)) _ _ s
  rw[CD (by rw[J];exact CQ)]
  exact Cq (fN M q G (λ v O=>Cu ⟨v.2,rfl,h1 v O⟩) (λ L h' z F=>Cu ⟨j,rfl,h2 L h' z F⟩) U)
end
end PySem
namespace L2
open PySem PySem.Spec PyProof.Rows
theorem KT.drop (r:KT H kvs xs) (k):KT H (j2 kvs k) (xs.filter λ x=>decide (x.1≠k)):=by
 unfold j2
 induction r with
 | nil=>exact .nil
 | @cons p q ps z h t j=>
  by_cases e:p.1=k
  ·rw[D9 (by simp[e]),D9 (by rw[<- h.1];simp[e])]
   exact j
  ·rw[D8 (by simp[e]),D8 (by rw[<- h.1];simp[e])]
   exact .cons h j
theorem KT.atKey (r:KT H kvs xs) (h:bV kvs k=some v):∃ p,PySem.atKey xs k=some p/\RelV v p.2:=by
 obtain⟨G,F,q⟩:=eu.some_of (v:=v) (o:=(PySem.atKey xs k).map (·.2)) (by rw[<- h];exact r.val k)
 obtain⟨p,z,j⟩:=Df.mp F
 exact⟨p,z,by rw[j];exact q⟩
section
variable {X:Cx}
theorem q5 (I:Inv X pins σ H s) (e:H a=some (.dT kvs)) (M:(a == sysModules)=false) (hs:Heap.SameBut a s.heap h')
  (dd:h'.DictOfH (tupleKind (bL X.prog X.w)) a xs') (r:KT H kvs' xs') (O:kvs'.length<=sizeLine):Inv X pins σ (upd H a (.dT kvs')) { s with heap:=h',toks:=t' }:=by
 obtain⟨q,es,ep,F,h2,G,J,_,L⟩:=dd
 refine kK I (by rw[e];exact True.intro) hs ⟨q,F⟩ ⟨O,M,_,r.keeps λ c ys j=>?_,q,es,ep,F,h2,G,J,L⟩
 rw[aE (cU j e (λ z=>nomatch z))]
 exact j
noncomputable def xu:V->List V->Hp->VK->Prop:=λ x vs H Q=>∃ a b kvs k v,x=.ref a/\vs=[.ref b]/\H a=some (.dT kvs)/\H b=some (.tup (k.map kV))/\bV kvs k=some v/\Q v (upd H a (.dT (j2 kvs k)))
theorem ti (U:X.A.units+1<cLine):MtM X "dict.pop" xu:=by
 intro pins s σ H x vs v us Q I rx Z h
 obtain⟨a,b,kvs,k,y,rfl,rfl,e,J,V,q⟩:=h
 cases rx
 obtain⟨u,rfl,Y⟩:=Z.one
 cases (show u=Value.ref b from Y)
 obtain⟨z,L,xs,j,G⟩:=qh I.hok e
 obtain⟨p,M,W⟩:=j.atKey V
 refine Gd PySem.F.slot_dict_pop G.typeIs PySem.F.entry_dict_pop (PySem.F.args_dict_pop_2 _ _) (il (tupleKind (bL X.prog X.w)) a b)
  ⟨EA U,k,xs,p,f9 I.hok J,G,by rw[<- Paired.length j];exact z,M,λ h' F O=>⟨y,_,q5 I e L O F (j.drop k) (CV (sh kvs k) z),W,q⟩⟩
noncomputable def qR:V->List V->Hp->VK->Prop:=λ x vs H Q=>∃ a b kvs k y,x=.ref a/\vs=[.ref b,y]/\H a=some (.dT kvs)/\H b=some (.tup (k.map kV))/\kvs.length<sizeLine /\
 (∀ v,bV kvs k=some v->Q v H)/\(bV kvs k=none->Q y (upd H a (.dT (kvs++[(k,y)]))))
theorem mH (hu:X.A.units+1<cLine):MtM X "dict.setdefault" qR:=by
 intro pins s σ H x vs v us Q I rx rv h
 obtain⟨a,b,kvs,k,y,rfl,rfl,e,U,hl,q1,q2⟩:=h
 cases rx
 obtain⟨u,M,rfl,ru,J⟩:∃ u M,us=u::M/\RelV (.ref b) u/\Vals [y] M:=by cases rv with|cons a b=>exact⟨_,_,rfl,a,b⟩
 obtain⟨u2,rfl,q⟩:=J.one
 cases (show u=Value.ref b from ru)
 obtain⟨z,V,xs,j,O⟩:=qh I.hok e
 refine Gd PySem.F.slot_dict_setdefault O.typeIs PySem.F.entry_dict_setdefault (PySem.F.args_dict_setdefault_3 _ _ _) (eC (tupleKind (bL X.prog X.w)) a b V u2)
  ⟨EA hu,k,xs,f9 I.hok U,O,by rw[<- Paired.length j];exact z,λ p Y=>?_,λ W h' F Z=>?_⟩
 ·have r:=j.val k
  rw[Y] at r
  obtain⟨v,hv,L⟩:∃ v,bV kvs k=some v/\RelV v p.2:=by
   cases h:bV kvs k with
   | none=>rw[h] at r;exact(show False from r).elim
   | some v=>rw[h] at r;exact⟨v,rfl,r⟩
  exact⟨v,H,I.tok _,L,q1 v hv⟩
 ·have G:bV kvs k=none:=by
   have r:=j.val k
   rw[W] at r
   cases h:bV kvs k with
   | none=>rfl
   | some v=>rw[h] at r;exact(show False from r).elim
  exact⟨y,_,q5 I e V Z F (Paired.snoc j ⟨rfl,U,q⟩) (by rw[CA];show _+1<=_;lia),q,q2 G⟩
end
end L2
namespace PySem
section
variable {prog:Program}{w:World}{K:Type} [DecidableEq K] {knd:HeapKind prog w K}{A:Around}{E:Value->Shared->Prop}{s:Shared}
theorem kR {es:List DictEntry}(q:(es.map (·.hash)).Nodup) {e:DictEntry}(j:e∈es):(es.filter (·.hash == e.hash)).length<=1:=by
 induction es with
 | nil=>cases j
 | cons x r G=>
  rw[Dc,DM] at q
  by_cases h:x.hash=e.hash
  ·rw[D8 (by simp[h]),FO.mpr]
   ·simp
   ·intro y F z
    exact q.1 (CL.mpr ⟨y,F,by simpa [h] using z⟩)
  ·rw[D9 (by simp[h])]
   rcases Cz.mp j with rfl|j
   ·exact absurd rfl h
   ·exact G q.2 j
theorem eQ {id:String}{d:Addr}{o:Obj}{es ep}{Q:Array DictEntry->Shared->Prop}(M:s.heap.get? d=some o) (J:o.data=.dict es ep)
  (O:∀ e∈es.toList,∃ b,e.key=.ref b/\s.TypeIs (.ref b) "tuple") (L:(es.toList.map (·.hash)).Nodup) (h:Q es s) :
  wpAny (model prog w) A (Builtin.Dict.entriesForEmpty id d) Q E s:=by
 unfold Builtin.Dict.entriesForEmpty
 refine Cq (DQ M J ?_)
 refine Cq ?_
 rw[<- Array.forIn_toList]
 refine wpAny_forIn_list _ (λ rest _ s'=>s'=s/\∀ e∈rest,e∈es.toList) _ ?_ ?_ _ _ ⟨rfl,λ e j=>j⟩
 ·rintro x rest r s' ⟨rfl,q⟩
  obtain⟨b,z,G⟩:=O x (q x CJ)
  refine Cq ?_
  rw[z]
  unfold Builtin.Dict.quietEq
  refine Cq (Fi G F.slot_tuple_eq.lookup (Cu ?_))
  have W:=kR L (q x CJ)
  have U:¬ (es.filter (·.hash == x.hash)).size>1:=by
   have V:(es.filter (·.hash == x.hash)).size=(es.toList.filter (·.hash == x.hash)).length:=by
    rw[<- CK,Array.toList_filter]
   lia
  rw[CG (by decide),CD U]
  exact Cu ⟨rfl,λ e j=>q e (CH _ j)⟩
 ·rintro r s' ⟨rfl,_⟩
  exact Cu h
theorem iI (O:d≠o) (U:(o == sysModules)=false)
  (z:s.heap.get? d=some od) (q:od.data=.dict #[] epd) (F:s.heap.get? o=some oo) (j:oo.data=.dict es ep)
  (W:∀ e∈es.toList,∃ b,e.key=.ref b/\s.TypeIs (.ref b) "tuple") (Z:(es.toList.map (·.hash)).Nodup) (hsz:es.size<=sizeLine)
  (V:∀ h' G L,h'.get? d=some G->G.data=.dict es L->(od.ExactDict->G.ExactDict)->Heap.SameBut d s.heap h'->Q () { s with heap:=h' }) :
  wpAny (model prog w) A (Builtin.Dict.mergeDict nm d o) Q E s:=by
 unfold Builtin.Dict.mergeDict
 rw[CD (by simpa using O)]
 unfold Builtin.Dict.showsAll
 rw[CD (by rw[U];exact CQ)]
 refine Cq (Cu ?_)
 refine Cq (DQ F j ?_)
 dsimp only
 by_cases J:es = #[]
 ·subst J
  rw[CD (by simp)]
  refine Cq (FQ F j ?_)
  refine Cq (DQ F j ?_)
  refine Cq ?_
  rw[Std.Legacy.Range.forIn_eq_forIn_range']
  refine wpAny_forIn_list _ (λ rest _ s'=>s'=s/\rest=[]) _ ?_ ?_ _ _ ⟨rfl,rfl⟩
  ·rintro x rest r s' ⟨_,e⟩;cases e
  ·rintro r s' ⟨rfl,_⟩
   exact Cu (V _ od epd z q id (Heap.SameBut.refl _ _))
 ·have M:(decide (es.size<=8) && es.all λ e=>(keyPart e.key).isSome)=false:=by
   have:(es.all λ e=>(keyPart e.key).isSome)=false:=by
    rw[<- Array.all_toList]
    cases h:es.toList with
    | nil=>exact absurd (by rw[<- Array.toList_inj];exact h) J
    | cons x r=>
     obtain⟨b,Y,_⟩:=W x (by rw[h];exact CJ)
     rw[FC,Y]
     rfl
   rw[this,Bool.and_false]
  rw[M]
  rw[CG (by decide)]
  refine Cq (DQ z q ?_)
  rw[CG (by decide)]
  refine Cq (eQ F j W Z ?_)
  rw[CG (by cases h:es.isEmpty with|true=>exact absurd (Array.isEmpty_iff.mp h) J|false=>rfl)]
  refine Cq (wpAny_updateDictKeysTo z q (Cu (V _ _ (epd+1) (Heap.get?_update_self _ z (Obj.isFreed_of_dict (Obj.data_mapDictKeys q _))) (Obj.data_mapDictKeys q _) (λ h=>h.mapDictKeys _) (Heap.SameBut.update ..))) (by lia))
theorem ja (a1:(o == sysModules)=false) (L:s.heap.get? o=some oo) (hx:oo.ExactDict) (O:oo.data=.dict es ep)
  (hq:∀ e∈es.toList,∃ b,e.key=.ref b/\s.TypeIs (.ref b) "tuple") (hn:(es.toList.map (·.hash)).Nodup) (hsz:es.size<=sizeLine)
  (h:∀ h' od G,h'.get? s.heap.objs.size=some od->od.data=.dict es G->od.ExactDict->(∀ b u,s.heap.get? b=some u->h'.get? b=some u)->Q (.ref s.heap.objs.size) { s with heap:=h' }) :
  wpAny (model prog w) A (call (.type "dict") [.ref o]) Q E s:=by
 refine callType_codes (Q₁:=λ U j=>U=.ref s.heap.objs.size/\j={ s with heap:=s.heap.push { cls:=.type "dict",data:=.dict #[] } }) F.kt_called_dict (F.kt_typeCall_dict_1 _) F.entry_dict_init (kt_code_dict_new _ ⟨rfl,rfl⟩) ?_
 rintro U j ⟨rfl,rfl⟩
 have hg:(s.heap.push { cls:=.type "dict",data:=.dict #[] }).get? s.heap.objs.size=some { cls:=.type "dict",data:=.dict #[] }:=Heap.get?_push_size _ rfl
 have V:∀ b u,s.heap.get? b=some u->(s.heap.push { cls:=.type "dict",data:=.dict #[] }).get? b=some u:=λ b u e=>Heap.get?_push_of_some _ e
 have M:({ s with heap:=s.heap.push { cls:=.type "dict",data:=.dict #[] } }:Shared).TypeIs (.ref s.heap.objs.size) "dict":=⟨_,hg,rfl⟩
 have J:({ s with heap:=s.heap.push { cls:=.type "dict",data:=.dict #[] } }:Shared).TypeIs (.ref o) "dict":=⟨_,V _ _ L,hx.1⟩
 have Y:s.heap.objs.size≠o:=λ e=>absurd (Heap.lt_size L) (by rw[e];exact DS _)
 refine⟨M,F.args_dict_init_2 _ _,?_⟩
 unfold Builtin.«dict.__init__»
 refine Cq ?_
 unfold Builtin.Dict.selfAndRest
 refine Cq (Fb M ?_)
 show wpAny _ _ (pure (s.heap.objs.size,[Value.ref o])) _ _ _
 refine Cu ?_
 show wpAny _ _ (Builtin.Dict.updateFrom "dict.__init__" s.heap.objs.size (.ref o) [] .none) _ _ _
 unfold Builtin.Dict.updateFrom
 refine Cq (FK J ?_)
 rw[CD (by decide)]
 refine Cq ?_
 unfold Builtin.Dict.merge
 refine Cq ?_
 unfold Builtin.Dict.readDirectly
 refine Cq (Ec J isSubtype_dict_dict ?_)
 simp only[EH,CS,DJ]
 refine Cq (Fi J F.slot_dict_iter.lookup (Cu ?_))
 simp only[FE,EZ]
 refine Cq (Cu ?_)
 refine iI Y a1 hg rfl (V _ _ L) O (λ e he=>?_) hn hsz λ h' a4 G Z W a3 a2=>?_
 ·obtain⟨b,eb,q,hb,hc⟩:=hq e he
  exact⟨b,eb,q,V _ _ hb,hc⟩
 ·show wpAny _ _ (Builtin.Dict.addKeywords s.heap.objs.size [] >>= _) _ _ _
  exact Cq (Cu (Cu ⟨rfl,h h' a4 G Z W (a3 ⟨rfl,rfl,rfl⟩) λ b u e=>(a2.2 b λ z=>absurd (Heap.lt_size e) (by rw[z];exact DS _)).trans (V _ _ e)⟩))
end
end PySem
namespace L2
open PySem PySem.Spec PyProof.Rows
noncomputable def hT (w:World) (k:List Key):Int:=reduceHash (Builtin.Tuple.tupleHashOf (k.map (BL w)))
section
variable {X:Cx}
noncomputable def wX (w:World):List V->Hp->VK->Prop:=λ xs H Q=>∃ a kvs,xs=[.ref a]/\Rd H a (.dT kvs)/\(kvs.map λ p=>hT w p.1).Nodup/\∀ l,H l=none->Q (.ref l) (upd H l (.dT kvs))
theorem KT.B3 (r:KT H kvs xs):xs.map (·.1)=kvs.map (·.1):=by
 induction r with
 | nil=>rfl
 | @cons p q ps z h t j=>rw[Dc,Dc,j,h.1]
theorem jm:cq X (.type "dict") (wX X.w):=by
 intro pins s σ H xs us Q I r h
 obtain⟨a,kvs,rfl,e,hh,q⟩:=h
 obtain⟨u,rfl,ru⟩:=vals1 r
 cases ru
 obtain⟨z,hd,xs,j,o,es,ep,ho,hx,F,L,U,hn⟩:=hZ I.hok e
 have Z:es.toList.map (·.hash)=kvs.map λ p=>hT X.w p.1:=by
  rw[L,Ds]
  have:(kvs.map λ p=>hT X.w p.1)=(kvs.map (·.1)).map (hT X.w):=by rw[Ds];rfl
  rw[this,<- KT.B3 j,Ds]
  rfl
 have a2:kvs.length=es.size:=by rw[Ek L];exact Paired.length j
 refine ja hd ho hx F (λ en G=>?_) (by rw[Z];exact hh) (by lia) λ h' od M hg O V kp=>?_
 ·rw[L] at G
  obtain⟨x,W,rfl⟩:=CL.mp G
  obtain⟨ob,a1,n,h1,h2,h3,_⟩:=U x W
  exact⟨x.2.1,rfl,ob,h1,h2⟩
 ·have J:H s.heap.objs.size=none:=I.hok.fresh (Nat.le_refl _)
  refine⟨.ref s.heap.objs.size,_,I.laid (a:=s.heap.objs.size) (o:=.dT kvs) (t':=s.toks) kp (Nat.le_refl _) ⟨z,?_,xs,j.keeps λ c ys Y=>?_,od,es,M,hg,V,O,L,hn⟩,rfl,q _ J⟩
  ·have:=I.big
   rw[Ea]
   exact DA this
  ·rw[aE (aF Y J)];exact Y
end
end L2
namespace PySem
section
variable {prog:Program}{w:World}{A:Around}{E:Value->Shared->Prop}{s:Shared}
theorem ji (J:(d == sysModules)=false) (z:s.heap.get? d=some o) (L:o.ExactDict) (j:o.data=.dict es ep)
  (G:Q (.ref s.heap.objs.size) { s with heap:=s.heap.push { cls:=.type "dict_keyiterator",data:=.fields #[.ref d,.int 0 0,.int es.size 0,.int ep 0] } }) :
  wpAny (model prog w) A (pyIter (.ref d)) Q E s:=by
 have q:s.TypeIs (.ref d) "dict":=⟨o,z,L.1⟩
 refine F8 q F.slot_dict_iter (DN F.slot_dict_iter q F.entry_dict_iter ?_ (F.args_dict_iter_1 _))
 unfold Builtin.«dict.__iter__»
 refine Cq ?_
 unfold Builtin.Dict.dictSlotNone
 refine Cq (Fb q ?_)
 show wpAny _ _ (pure (Value.ref d)) _ _ s
 refine Cu ?_
 show wpAny _ _ (Builtin.Dict.showsAll d >>= _) _ _ s
 unfold Builtin.Dict.showsAll
 rw[CD (by rw[J];exact CQ)]
 refine Cq (Cu (Cq (DQ z j (Cq (FQ z j ?_)))))
 refine Cq (DX (Cu ⟨_,rfl,"dict_keyiterator",_,⟨_,Heap.get?_push_size _ rfl,rfl⟩,F.slot_dict_keyiterator_next.lookup,?_⟩))
 simpa [rawInt] using G
theorem jg (j:s.heap.IsKeyIter it d i es.size ep) (J:s.heap.get? d=some od) (z:od.data=.dict es ep) (G:i<es.size)
  (U:∀ h',h'.IsKeyIter it d (i+1) es.size ep->Heap.SameBut it s.heap h'->Q (some es[i].key) { s with heap:=h' }) :
  wpAny (model prog w) A (pyNext (.ref it)) Q E s:=by
 obtain⟨o,O,V,M⟩:=id j
 unfold pyNext
 refine Cq (EY (E5 (name:=Str.ofString "__next__") j.typeIs F.slot_dict_keyiterator_next
  (DN F.slot_dict_keyiterator_next j.typeIs F.entry_dict_keyiterator_next ?_ (F.args_dict_keyiterator_next_1 _))))
 refine Cq (Cu ?_)
 refine Cq ?_
 refine Cq ?_
 first|refine Cq (Eu j.typeIs (Cu ?_))|refine Cq (EX j.typeIs (Cu ?_))
 refine Cq (FZ O M ?_)
 have L:Builtin.Dict_items.ownsTuple "dict_keyiterator" = false:=by decide
 simp only[L,CS,DJ]
 show wpAny _ _ (if (Value.ref d == Value.none)=true then _ else _) _ _ s
 rw[CD (show ¬ ((Value.ref d == Value.none)=true) from CQ)]
 refine Cq (Cu (Cq (DQ J z ?_)))
 rw[CD (by simp)]
 refine Cq (Cu (Cq (FQ J z ?_)))
 rw[CD (by simp)]
 refine Cu ?_
 simp only[show ¬ ((i:Int)<0) from by lia,DJ,Dm,C4 G]
 refine Cq ?_
 first|refine Cq (Eu j.typeIs (Cu ?_))|refine Cq (EX j.typeIs (Cu ?_))
 refine Cq (wpAny_isOneOf_keyiter j.typeIs ?_)
 show wpAny _ _ (setField (.ref it) 1 (rawInt ((i:Int)+1)) >>= _) _ _ s
 refine Cq (Fp O M (by simp) ?_)
 have q:(s.heap.update it (Obj.mapFields (·.setIfInBounds 1 (rawInt ((i:Int)+1))))).IsKeyIter it d (i+1) es.size ep:=
  ⟨_,Heap.get?_update_self _ O (Obj.isFreed_of_fields (Obj.data_mapFields M _)),(Obj.cls_mapFields ..).trans V,by rw[Obj.data_mapFields M];simp[rawInt]⟩
 refine Cq (C8 ?_)
 refine Cq (wpAny_isOneOf_keyiter (s:={ s with heap:=s.heap.update it (Obj.mapFields (·.setIfInBounds 1 (rawInt ((i:Int)+1)))) }) q.typeIs ?_)
 show wpAny _ _ (pure es[i].key) _ _ _
 exact Cu (Cu ⟨_,rfl,Cu (U _ q (Heap.SameBut.update ..))⟩)
theorem kz {it d:Addr}{i ep:Nat}{od:Obj}{es:Array DictEntry}{Q:Option Value->Shared->Prop}(hh:A.handled=none) (hit:s.heap.IsKeyIter it d i es.size ep) (hod:s.heap.get? d=some od) (hdd:od.data=.dict es ep) (hge:es.size<=i)
  (hQ:∀ h',Heap.ExtBut it s.heap h'->Q none { s with heap:=h' }):wpAny (model prog w) A (pyNext (.ref it)) Q E s:=by
 obtain⟨o,ho,hc,hd⟩:=id hit
 unfold pyNext
 refine Cq (EY (E5 (name:=Str.ofString "__next__") hit.typeIs F.slot_dict_keyiterator_next
  (DN F.slot_dict_keyiterator_next hit.typeIs F.entry_dict_keyiterator_next ?_ (F.args_dict_keyiterator_next_1 _))))
 refine Cq (Cu ?_)
 refine Cq ?_
 refine Cq ?_
 first|refine Cq (Eu hit.typeIs (Cu ?_))|refine Cq (EX hit.typeIs (Cu ?_))
 refine Cq (FZ ho hd ?_)
 have hown:Builtin.Dict_items.ownsTuple "dict_keyiterator" = false:=by decide
 simp only[hown,CS,DJ]
 show wpAny _ _ (if (Value.ref d == Value.none)=true then _ else _) _ _ s
 rw[CD (show ¬ ((Value.ref d == Value.none)=true) from CQ)]
 refine Cq (Cu (Cq (DQ hod hdd ?_)))
 rw[CD (by simp)]
 refine Cq (Cu (Cq (FQ hod hdd ?_)))
 rw[CD (by simp)]
 refine Cu ?_
 simp only[show ¬ ((i:Int)<0) from by lia,DJ,Dm,DF hge]
 refine Cq ?_
 first|refine Cq (Eu hit.typeIs (Cu ?_))|refine Cq (EX hit.typeIs (Cu ?_))
 show wpAny _ _ (setField (.ref it) 0 .none >>= _) _ _ s
 refine Cq (Fp ho hd (by simp) ?_)
 show wpAny _ _ (newExc (.type "StopIteration") [] >>= _) _ _ _
 refine Cq ?_
 simp only[newExc,newTuple]
 refine Cq (DX ?_ (by size_fits))
 refine Cq (m:=firstArgMember _ _) (DH (a:=Value.none) (by first|rfl|(simp only[firstArgMember];rfl)) ?_)
 refine DX ?_ (by size_fits)
 simp only[raiseNew]
 refine Cq (wpAny_handled ?_)
 rw[show A.in1.handled=none from hh]
 refine Cq (Cu (wpAny_throw ?_))
 refine Cq (Ec (T:="StopIteration") (b:=true) ⟨_,Heap.get?_push_size _ rfl,rfl⟩ isSubtype_stop ?_)
 exact Cu (hQ _ (((Heap.SameBut.update ..).extBut.push _).push _))
end
end PySem
namespace L2
open PySem PySem.Spec PyProof.Rows
section
variable {X:Cx}{pins:List (Addr×Obj)}{σ:St}{H:Hp}{s:Shared}
theorem Inv.uN {a:Addr}{u u':HO}(I:Inv X pins σ H s) (e:H a=some u) (nt:∀ xs,u≠.tup xs) (nb:∀ ps,u≠.tbl ps) (no:∀ b,u≠.own b) (nf:∀ o v,u=.frz o v->(∀ o' v',X.H₀ a≠some (.frz o' v'))/\∀ x c,X.env.cells.lookup x=some c->c≠a)
  (ok:bu X.prog X.w (upd H a u') s.heap a u'):Inv X pins σ (upd H a u') s:=by
 have ne:∀ {b:Addr} {v:HO},H b=some v->v≠u->b≠a:=λ h n z=>by rw[z,e] at h;exact n (Option.some.inj h).symm
 have n0:∀ {b:Addr},H b=none->b≠a:=λ h z=>by rw[z,e] at h;cases h
 refine⟨I.ok,I.os,I.bare,⟨I.base.keep,I.base.slot,λ b o q n hx=>?_,I.base.there,λ b xs q=>?_,λ b o v q=>?_,λ b ps q=>?_⟩,I.loc,I.cell,?_,λ x c q=>?_,λ p hp=>?_,λ b v q=>?_,I.len⟩
 ·have:=I.base.free b o q n hx
  rw[aE (n0 this)];exact this
 ·have:=I.base.tups b xs q
  rw[aE (ne this λ z=>nt xs z.symm)];exact this
 ·have h1:=I.base.frzs b o v q
  rw[aE λ z=>?_]
  ·exact h1
  ·subst z
   rw[e] at h1
   exact(nf o v (Option.some.inj h1)).1 o v q
 ·obtain⟨m,h1⟩:=I.base.tbls b ps q
  exact⟨m,by rw[aE (ne h1 λ z=>nb _ z.symm)];exact h1⟩
 ·rw[aE (n0 I.free)];exact I.free
 ·rcases I.freeC x c q with h1|⟨h1,o,v,h2⟩
  ·exact .inl (by rw[aE (n0 h1)];exact h1)
  ·refine .inr ⟨h1,o,v,?_⟩
   rw[aE λ z=>?_]
   ·exact h2
   ·have h3:u=.frz o v:=by rw[z,e] at h2;exact Option.some.inj h2
    exact(nf o v h3).2 x c q z
 ·obtain⟨h1,h2,h3⟩:=I.pin p hp
  exact⟨h1,by rw[aE (n0 h2)];exact h2,h3⟩
 ·by_cases z:b=a
  ·subst z
   rw[aD] at q;cases q;exact ok
  ·rw[aE z] at q
   refine(I.hok b v q).iH (λ c o hc r=>r) (λ c r=>?_) λ c xs r=>?_
   ·rw[aE (ne r λ z=>no _ z.symm)];exact r
   ·rw[aE (ne r λ z=>nt _ z.symm)];exact r
theorem vo (F:bu X.prog X.w H h a (.dT kvs)) (j:∀ b xs,H b=some (.tup xs)->H' b=some (.tup xs)):bu X.prog X.w H' h a (.dT kvs):=by
 obtain⟨z,y,xs,r,q⟩:=F
 exact⟨z,y,xs,KT.keeps r j,q⟩
theorem Inv.sQ (I:Inv X pins σ H s) (e:H a=some (.dT kvs)):∃ o,s.heap.get? a=some o/\Inv X pins σ (upd H a (.frz o (.dT kvs))) s:=by
 have j:=I.hok a _ e
 obtain⟨z,y,xs,r,o,es,ep,h1,h2⟩:=id j
 refine⟨o,h1,I.uN e (λ _ z=>nomatch z) (λ _ z=>nomatch z) (λ _ z=>nomatch z) (λ _ _ z=>nomatch z) ⟨h1,vo j λ b xs q=>?_⟩⟩
 rw[aE (cU q e (λ z=>nomatch z))];exact q
theorem Inv.AN (I:Inv X pins σ H s) (e:H a=some (.frz o (.dT kvs))) (n:∀ o' G,X.H₀ a≠some (.frz o' G)):Inv X pins σ (upd H a (.dT kvs)) s:=by
 obtain⟨h1,F⟩:=(show bu X.prog X.w H s.heap a (.frz o (.dT kvs)) from I.hok a _ e)
 refine I.uN e (λ _ z=>nomatch z) (λ _ z=>nomatch z) (λ _ z=>nomatch z) (λ o' G z=>⟨n,λ x c q z=>?_⟩) (vo F λ b xs q=>?_)
 ·obtain⟨v,O,h2,j⟩:=I.cell x c q
  obtain⟨_,_,_,_,M,es,ep,J,_,L,_⟩:=F
  rw[z,J] at h2;cases h2
  rw[L] at j;cases j
 ·rw[aE (cU q e (λ z=>nomatch z))];exact q
end
theorem Paired.oR:∀ {xs:List α}{ys:List β}{i:Nat}{x:α},Paired F xs ys->xs[i]? = some x->∃ y,ys[i]? = some y/\F x y
 | _,_,_,_,.nil,e=>by simp at e
 | _,_,0,_,.cons a _,e=>by simp at e;subst e;exact⟨_,rfl,a⟩
 | _,_,i+1,v,.cons _ b,e=>by
  obtain⟨r,h1,h2⟩:=Paired.oR (i:=i) b (by simpa using e)
  exact⟨r,by simpa using h1,h2⟩
noncomputable def Itk (a:Addr) (o:Obj) (kvs:List (List Key×V)):It:=
 ⟨λ i H=>H a=some (.frz o (.dT kvs))/\i<kvs.length,λ i H x H'=>H'=H/\∃ b k v,x=.ref b/\kvs[i]? = some (k,v)/\H b=some (.tup (k.map kV)),λ i H=>H a=some (.frz o (.dT kvs))/\kvs.length<=i⟩
theorem pY {P:Program}{w:World}{K:PySem.W.Frag}{tg:Expr}(a it:Addr) {o:Obj}{es:Array DictEntry}{ep:Nat}{kvs:List (List Key×V)}(hd:o.data=.dict es ep) (hn:es.size=kvs.length) :
  Turn P w K tg (Itk a o kvs) [it] it (λ i h=>h.IsKeyIter it a i es.size ep) where
 mem:=by simp
 obj:=λ i h st b j=>by
  have e:b=it:=by simpa using j
  subst e
  obtain⟨o,e,c,d⟩:=st
  exact⟨o,e,λ v z=>by rw[d] at z;cases z⟩
 keep:=λ i h h' st k=>by
  obtain⟨o,e,c⟩:=st
  exact⟨o,k it (by simp) o e,c⟩
 item:=by
  intro X hP hw Z hc i pins s σ H E I L st hg
  subst hP hw Z
  obtain⟨e,hi⟩:=hg
  obtain⟨h1,ok⟩:=(show bu X.prog X.w H s.heap a (.frz o (.dT kvs)) from I.hok a _ e)
  obtain⟨z,y,xs,r,o1,a2,a1,g1,g2,g3,g4,g5⟩:=ok
  rw[h1] at g1;cases g1
  rw[hd] at g3;cases g3
  obtain⟨M,O,f2,U,W,Y⟩:=L it (by simp)
  have G:i<es.size:=by lia
  refine jg st h1 hd G λ h' J sb=>?_
  have I1:Inv X pins σ H { s with heap:=h' }:=I.turned (t':=s.toks) (λ b o j e=>(sb.2 b j).trans e) M O U W Y
  obtain⟨oi,ei,ci,di⟩:=id J
  obtain⟨⟨k,v⟩,F⟩:∃ p,kvs[i]? = some p:=⟨_,Cs hi⟩
  obtain⟨q,hq,q1,q2,q3⟩:∃ q,xs[i]? = some q/\k=q.1/\H q.2.1=some (.tup (k.map kV))/\RelV v q.2.2:=by
   have:=Paired.oR (i:=i) r F
   obtain⟨q,hq,h⟩:=this
   exact⟨q,hq,h⟩
  have ek:es[i].key=.ref q.2.1:=by
   have:=entry_at g4 i
   rw[hq,C4 G] at this
   have:=Option.some.inj this
   rw[this];rfl
  exact⟨_,rfl,oa (s:={ s with heap:=h' }) ei ci di (by decide) ⟨.ref q.2.1,H,I1,ek,⟨rfl,q.2.1,k,v,rfl,F,q2⟩,J,λ b j=>(L b j).1⟩⟩
 done:=by
  intro X hP hw Z hc i pins s σ H E I L st hg
  subst hP hw Z
  obtain⟨e,hi⟩:=hg
  obtain⟨h1,ok⟩:=(show bu X.prog X.w H s.heap a (.frz o (.dT kvs)) from I.hok a _ e)
  obtain⟨M,O,f2,U,W,Y⟩:=L it (by simp)
  exact kz (I.ok.hd hc) st h1 hd (by lia) λ h' eb=>⟨rfl,I.turned (t':=s.toks) (λ b o j e=>eb b o j e) M O U W Y⟩
 self:=λ _ _ _ _ _ st h=>FY st h
section
variable {X:Cx}{tg:Expr}
noncomputable def A5 (tl:TE):TI:=λ σ H R=>tl σ H λ x H1=>∃ a kvs,x=.ref a/\((H1 a=some (.dT kvs)/\∀ o,R (Itk a o kvs) (upd H1 a (.frz o (.dT kvs))))\/∃ o,H1 a=some (.frz o (.dT kvs))/\R (Itk a o kvs) H1)
theorem t9 {l:Expr}{tl:TE}(Y:PE X l tl):PI X tg l (A5 tl):=by
 intro pins s σ H R I h
 refine thn (Y pins s σ H _ I h) λ v F ⟨x,H1,G,r1,q1⟩=>?_
 obtain⟨a,kvs,rfl,q⟩:=q1
 cases r1
 obtain⟨o,H2,j,M,V⟩:∃ o H2,Inv X pins σ H2 F/\H2 a=some (.frz o (.dT kvs))/\R (Itk a o kvs) H2:=by
  rcases q with ⟨e,q⟩|⟨o,e,q⟩
  ·obtain⟨o,_,j⟩:=G.sQ e
   exact⟨o,_,j,aD,q o⟩
  ·exact⟨o,H1,G,e,q⟩
 obtain⟨h1,ok⟩:=(show bu X.prog X.w H2 F.heap a (.frz o (.dT kvs)) from j.hok a _ M)
 obtain⟨z,y,xs,r,o1,es,ep,J,O,L,U,g5⟩:=ok
 rw[h1] at J;cases J
 have Z:es.size=kvs.length:=by rw[Ek U];exact(Paired.length r).symm
 refine ji y h1 O L ?_
 refine⟨F.heap.objs.size,[F.heap.objs.size],_,_,H2,rfl,j.kept (t':=F.toks) λ b o e=>Heap.get?_push_of_some _ e,pY a _ L Z,⟨_,Heap.get?_push_size _ rfl,rfl,rfl⟩,λ b W=>?_,V⟩
 have e:b=F.heap.objs.size:=by simpa using W
 subst e
 exact j.kD (Nat.le_refl _) (j.hok.fresh (Nat.le_refl _))
end
theorem o8 (W:kvs.length<=1000)
  (h:∀ acc,H1 acc=none->∃ F:Nat->St->List V->Hp->Prop,F 0 (σ++List.replicate k none) [] (upd H1 acc (.lst []))/\(∀ i j ys H2,i<=kvs.length->F i j ys H2->H2 a=some (.frz o (.dT kvs))/\ys.length<=i) /\
   (∀ i b J v j ys H2,i<kvs.length->kvs[i]? = some (J,v)->H2 b=some (.tup (J.map kV))->F i j ys H2->g (.ref b) j H2 λ z U=>tc z U λ c M=>if c=true then te z M λ v O=>O acc=some (.lst ys)/\Nx kvs.length i (F (i+1) z (ys++[v]) (upd O acc (.lst (ys++[v])))) else Nx kvs.length i (F (i+1) z ys M)) /\
   ∀ j ys H2,F kvs.length j ys H2->Q (.ref acc) H2):ig (Itk a o kvs) k g tc te σ H1 Q:=by
 intro acc Y
 obtain⟨F,Z,pl,ps,pd⟩:=h acc Y
 refine⟨λ i m j ys H2=>m=kvs.length-i/\i<=kvs.length/\F i j ys H2,⟨kvs.length,by simp,Dq _,Z⟩,?_⟩
 rintro i m j ys H2 ⟨rfl,hi,p⟩
 obtain⟨q,L⟩:=pl i j ys H2 hi p
 by_cases G:i<kvs.length
 ·refine .inr ⟨⟨q,G⟩,DK L (bh (by lia)),λ x H3 y=>?_⟩
  obtain⟨e,b,J,v,rfl,y1,y2⟩:=y
  subst e
  exact ps i b J v j ys _ G y1 y2 p
 ·have e:i=kvs.length:=by lia
  subst e
  exact .inl ⟨⟨q,Nat.le_refl _⟩,pd j ys H2 p⟩
section
variable {X:Cx}
noncomputable def BD (H₀:Hp) (t:TE):TE:=λ σ H Q=>t σ H λ v H1=>∃ a o kvs,H1 a=some (.frz o (.dT kvs))/\(∀ o' v',H₀ a≠some (.frz o' v'))/\Q v (upd H1 a (.dT kvs))
theorem uc (h:PE X e t) (G:X.H₀=H₀:=by rfl):PE X e (BD H₀ t):=by
 subst G
 intro pins s σ H Q I J
 refine Dp (h pins s σ H _ I J) (λ v O ⟨y,H1,j,M,L⟩=>?_) λ _ _ z=>z
 obtain⟨a,o,kvs,F,n,q⟩:=L
 exact⟨y,_,j.AN F n,M,q⟩
end
noncomputable def Ite (K:PySem.W.Frag) (l:Addr):It:=
 ⟨λ i H=>∃ xs x,SqL K H l xs/\xs[i]? = some x,λ i H v H'=>∃ p x,H p=none/\v=.ref p/\H'=upd H p (.tup [.int i,x])/\∀ xs,SqL K H l xs->xs[i]? = some x,λ i H=>∃ xs,SqL K H l xs/\xs.length<=i⟩
theorem pO {P:Program}{w:World}{K:PySem.W.Frag}{es:List Expr}{kk:Nat}{pos:Pos}(e it l:Addr) (L:e≠it) :
  Turn P w K (.Tuple es kk pos) (Ite K l) [e,it] e (λ i h=>(∃ j,IsEnum h e it i j)/\h.IsListIter it l i) where
 mem:=by simp
 obj:=λ i h st b hb=>by
  obtain⟨⟨j,F⟩,⟨o1,e1,_,d1⟩⟩:=st
  simp only[Cz,CC,C2] at hb
  rcases hb with rfl|rfl
  ·exact⟨_,F,λ v q=>by cases q⟩
  ·exact⟨_,e1,λ v q=>by rw[d1] at q;cases q⟩
 keep:=λ i h h' st k=>by
  obtain⟨⟨j,F⟩,h1⟩:=st
  exact⟨⟨j,k e (by simp) _ F⟩,h1.at λ o q=>k it (by simp) o q⟩
 item:=by
  intro X W hw V z i pins s σ H E I O st Y
  subst W hw V
  obtain⟨xs,x,U,hx⟩:=Y
  obtain⟨its,rv,p1,hz⟩:=I.list U
  obtain⟨u,hu,ru⟩:=rv.get hx
  obtain⟨⟨j,F⟩,h1⟩:=st
  have lt:∀ {c o},s.heap.get? c=some o->s.heap.objs.size≠c:=λ e=>DA (Heap.lt_size e)
  have n1:s.heap.objs.size≠e:=lt F
  have n2:s.heap.objs.size≠it:=by obtain⟨_,q,_⟩:=h1;exact lt q
  refine wpAny_pyNext_enum_item F h1 p1.isList (x:=u) (by simpa using hu) L λ h' ho M hT a3 Z=>?_
  refine⟨_,rfl,wpAny_letOwnedTupleGo_enum (s:={ s with heap:=h',toks:=s.toks+1 }) ho λ G J sb=>?_⟩
  have k2:∀ c o,c∉[e,it]->s.heap.get? c=some o->G.get? c=some o:=λ c o z q=>by
   simp only[Cz,CC,C2,EU] at z
   exact(sb.2 c z.1).trans (Z c o z.1 z.2 q)
  have a1:bu X.prog X.w (upd H s.heap.objs.size (.tup [.int i,x])) G s.heap.objs.size (.tup [.int i,x]):=by
   have e5:G.get? s.heap.objs.size=some { cls:=.type "tuple",data:=.seq #[.int i s.toks,u] }:=(sb.2 _ n1).trans hT
   exact⟨bh (by simp),[.int i s.toks,u],.cons ⟨_,rfl⟩ (.cons ru .nil),_,e5,rfl,_,rfl⟩
  refine⟨.ref s.heap.objs.size,_,I.gZ (t':=s.toks+1) k2 O (Nat.le_refl _) a1,rfl,⟨_,x,I.fresh,rfl,rfl,λ zs hs=>by rw[I.eM hs U];exact hx⟩,?_,λ c z=>?_⟩
  ·exact⟨⟨_,by simpa using J⟩,M.at λ o q=>(sb.2 it L.symm).trans q⟩
  ·rw[aE]
   ·exact(O c z).1
   ·simp only[Cz,CC,C2] at z
    rcases z with rfl|rfl
    ·exact Ne.symm n1
    ·exact Ne.symm n2
 done:=by
  intro X W hw V z i pins s σ H E I O st Y
  subst W hw V
  obtain⟨xs,U,a2⟩:=Y
  obtain⟨its,rv,p1,hz⟩:=I.list U
  obtain⟨⟨j,F⟩,h1⟩:=st
  have a4:=rv.length
  refine wpAny_pyNext_enum_end (I.ok.hd z) F h1 p1.isList (DF (by simp;lia)) λ h' Z=>⟨rfl,I.kA (t':=s.toks) (its:=[e,it]) (λ c o z q=>?_) O⟩
  simp only[Cz,CC,C2,EU] at z
  exact Z c o z.2 q
 self:=λ _ _ _ _ _ st h=>by
  obtain⟨⟨j,F⟩,_⟩:=st
  exact Fw F h
section
variable {X:Cx}{K:PySem.W.Frag}
theorem boot_enumerate:bootBuiltins "enumerate" = some (.type "enumerate"):=by decide +kernel
noncomputable def xj (K:PySem.W.Frag) (ta:TA):TI:=λ σ H R=>ta σ H λ vs H1=>∃ p xs,vs=[.ref p]/\SqL K H1 p xs/\R (Ite K p) H1
theorem d6 {a:Expr}{ta:TA}{p pos pos':Pos}{es:List Expr}{Y:Nat}(U:Gl X "enumerate") (V:X.mg "enumerate" = none) (O:PA X [a] ta) (hs:starEach [a] X.env=[(false,eval a X.env)]:=by rfl) (M:X.K=K:=by rfl) :
  PI X (.Tuple es Y pos') (.Call (.Name "enumerate" p) [a] [] pos) (xj K ta):=by
 subst M
 intro pins s σ H R I h
 refine Call_ (eJ I U V boot_enumerate (EJ (thn (O pos pins s σ H _ I h) λ us J ⟨vs,H1,j,r1,z⟩=>?_) hs rfl))
 obtain⟨l,xs,rfl,z,q⟩:=z
 obtain⟨u,rfl,rx⟩:=vals1 r1
 cases rx
 obtain⟨W,rv,p1,hz⟩:=j.list z
 refine call_enumerate_list p1.isList λ h' L z2 z3 Z=>?_
 refine Fw L ?_
 refine⟨_,_,_,Ite X.K l,H1,rfl,j.kept (t':=J.toks) Z,pO _ _ l (DA (D4 _)),⟨⟨_,L⟩,z2⟩,λ b G=>?_,q⟩
 have F:J.heap.objs.size<=b:=by
  simp only[Cz,CC,C2] at G
  rcases G with rfl|rfl
  ·exact FH _ _
  ·exact Nat.le_refl _
 exact j.kD F (j.hok.fresh F)
end
theorem dv {K:PySem.W.Frag}{l:Addr}{xs:List V}{g:TG}{tb:TS}{D:Ends}{σ:St}{H:Hp}(Pv:Nat->St->Hp->Prop) (h0:Pv 0 σ H) (hl:∀ i σ H,i<=xs.length->Pv i σ H->SqL K H l xs)
  (hs:∀ i x p σ H,xs[i]? = some x->H p=none->Pv i σ H->g (.ref p) σ (upd H p (.tup [.int i,x])) λ σ2 H2=>tb { D with nx:=Pv (i+1),ct:=Pv (i+1),bk:=D.nx } σ2 H2) (hd:∀ σ H,Pv xs.length σ H->D.nx σ H) :
  ∃ W:Nat->Nat->St->Hp->Prop,(∃ m,W 0 m σ H)/\∀ i m σ H,W i m σ H ->
   ((Ite K l).stop i H/\D.nx σ H)\/((Ite K l).go i H/\∃ N:St->Hp->Prop,(∀ σ' H',N σ' H'->∃ m',m'<m/\W (i+1) m' σ' H')/\∀ x H',(Ite K l).yld i H x H'->g x σ H' λ σ2 H2=>tb { D with nx:=N,ct:=N,bk:=D.nx } σ2 H2):=by
 refine⟨λ i m σ H=>m=xs.length-i/\i<=xs.length/\Pv i σ H,⟨xs.length,by simp,Dq _,h0⟩,?_⟩
 rintro i m σ H ⟨rfl,hi,p⟩
 have q:=hl i σ H hi p
 by_cases hlt:i<xs.length
 ·refine .inr ⟨⟨xs,xs[i],q,by simp[hlt]⟩,Pv (i+1),λ σ' H' p'=>⟨xs.length-(i+1),by lia,rfl,hlt,p'⟩,λ v H' y=>?_⟩
  obtain⟨a,x,na,rfl,rfl,y⟩:=y
  exact hs i x a σ H (y xs q) na p
 ·have e:i=xs.length:=by lia
  subst e
  exact .inl ⟨⟨xs,q,Nat.le_refl _⟩,hd σ H p⟩
end L2
namespace PySem
section
variable {prog:Program}{w:World}{A:Around}{E:Value->Shared->Prop}{s:Shared}
end
end PySem
namespace L2
open PySem PySem.Spec PyProof.Rows
section
variable {X:Cx}
end
noncomputable def uy (e:Expr):Arguments:=match e with
 | .Lambda a _ _ _=>a
 | _=>{ posonlyargs:=[],args:=[],vararg:=none,kwonlyargs:=[],kw_defaults:=[],kwarg:=none,defaults:=[] }
noncomputable def tR (e:Expr):Expr:=match e with
 | .Lambda _ b _ _=>b
 | _=>.Name "" ⟨0,0,0,0⟩
noncomputable def rf (e:Expr):Scope:=match e with
 | .Lambda _ _ sc _=>sc
 | _=>{ kind:=.function,names:=[],isGenerator:=false,isCoroutine:=false }
structure tQ (H:Hp) (qual:Str) (e:Expr) (F:List Str) (f:Addr) (ws:List V):Prop where
 ex:∃ (cl:List (Str×Addr)) (pm ctv:Value) (c':Addr) (oc:Obj) (vs:Array Value) (t:Tok),
  H f=some (.frz { cls:=.type "function",data:=.func (PySem.W.kla_fn "<lambda>" qual (uy e) (tR e) (rf e) cl pm (.ref c') ctv) } (.own f)) /\
  H c'=some (.frz oc (.own c'))/\oc.data=.fields vs/\vs[1]? = some (.str qual t) /\
  (∀ x c,cl.lookup x=some c->x∈F)/\(∀ x y c,cl.lookup x=some c->cl.lookup y=some c->x=y) /\
  ∀ (i:Nat) x v,F[i]? = some x->ws[i]? = some v->∃ c o u,cl.lookup x=some c/\H c=some (.frz o (.own c))/\o.data=.cell (some u)/\RelV v u
 len:ws.length=F.length
theorem tQ.same (k:fP H H') (c:tQ H qual e F f ws):tQ H' qual e F f ws:=by
 obtain⟨⟨cl,W,j,q,V,vs,t,z,G,J,L,M,O,U⟩,l⟩:=c
 exact⟨⟨cl,W,j,q,V,vs,t,k _ _ _ z,k _ _ _ G,J,L,M,O,λ i x v h1 h2=>let ⟨c,o,u,Y,Z,z3,z4⟩:=U i x v h1 h2;⟨c,o,u,Y,k _ _ _ Z,z3,z4⟩⟩,l⟩
structure nD (P:Program) (w:World) (K:PySem.W.Frag) (mg:Str->Option Value) (base:Heap) (CX:CXT) (k:Nat) (qual:Str) (e:Expr) (ps F:List Str) (sp:List V->Sp):Prop where
 len:∀ ws vs H Q E,sp ws vs H Q E->vs.length=ps.length
 run:∀ (f:Addr) (ws:List V) (A:Around) (outer:List Env) (s:Shared) (H:Hp) (us:List Value) (vs:List V) (Q:VK) (E:XK),cn k A->jt P w K mg base A outer s H->tQ H qual e F f ws->Vals vs us->sp ws vs H Q E ->
  codeAny (model P w) A (.call (.ref f) ⟨us,[]⟩) (CR CX outer P w H s Q E) s
theorem nD.mono {P:Program}{w:World}{K:PySem.W.Frag}{mg:Str->Option Value}{base:Heap}{CX:CXT}{j k:Nat}{qual:Str}{e:Expr}{ps F:List Str}{sp:List V->Sp}(C:nD P w K mg base CX j qual e ps F sp) (h:j<=k) :
  nD P w K mg base CX k qual e ps F sp:=⟨C.len,λ f G A outer s H z vs Q E q=>C.run f G A outer s H z vs Q E (q.mono h)⟩
section
variable {X:Cx}
end
section
variable {X:Cx}{pins:List (Addr×Obj)}{σ:St}{H:Hp}{s:Shared}{A:Around}{E:Value->Shared->Prop}
theorem lI (I:Inv X pins σ H s) (e:H a=some (.ins C dx fs)) (c:Cls X.K C) (n:bA X.K C m) (l:fs.lookup m=some v)
  (h:∀ u s',Inv X pins σ H s'->RelV v u->Q (u,[]) s'):wpAny (model X.prog X.w) A (getMethod (.ref a) m pl) Q E s:=by
 obtain⟨mA,O,r,_,_,_⟩:=gB I.hok e
 obtain⟨j,J,_⟩:=O.look
 exact PySem.W.method_usual I.kIn J (EV (c.get m)).1 (EV (c.get m)).2 n rfl (iQ I e c n l h)
end
section
variable {X:Cx}{σ:St}{H:Hp}{s:Shared}
end
end L2
namespace Tim
open PySem PyProof.Rows
noncomputable def Cmp (prog:Program) (w:World) (A:Around) (s:Shared) (rk:Keyed->Int) (κ:SortKind) (S:List Keyed):Prop:=
 ∀ x∈S,∀ y∈S,∀ (E:Value->Shared->Prop) (Q:Bool->Shared->Prop),Q (decide (rk x<rk y)) s->wpAny (model prog w) A (keyLt' κ x.1 y.1) Q E s
structure SB (a₀:Array Keyed) (κ:SortKind) (P:Array (Nat×Nat×Nat)) (st:SortSt):Prop where
 perm:(arrOf st).Perm a₀
 kind:kindOf st=κ
 failed:failedOf st=none
 pend:pendingOf st=P
noncomputable def R (rk:Keyed->Int) (xs:Array Keyed) (i:Nat):Int:=match xs[i]? with
 | some p=>rk p
 | none=>0
section
variable {rk:Keyed->Int}{κ:SortKind}{a₀:Array Keyed}{P:Array (Nat×Nat×Nat)}
theorem pV (h:i<xs.size):R rk xs i=rk xs[i]:=by unfold R;rw[getElem?_pos xs i h]
theorem gI (h:xs[i]? = ys[j]?):R rk xs i=R rk ys j:=by unfold R;rw[h]
theorem SB.size {st:SortSt}(h:SB a₀ κ P st):(arrOf st).size=a₀.size:=h.perm.size_eq
theorem SB.setArr {st:SortSt}(h:SB a₀ κ P st) {xs:Array Keyed}(j:xs.Perm (arrOf st)):SB a₀ κ P (setArr st xs):=⟨j.trans h.perm,h.kind,h.failed,h.pend⟩
theorem SB.mem {st:SortSt}(h:SB a₀ κ P st) {i:Nat}(hi:i<(arrOf st).size):(arrOf st)[i]∈a₀.toList:=(Fv.mp h.perm).mem_iff.mp (by simp)
theorem iP (D:(a₀.toList.map rk).Nodup) (G:xs.Perm a₀) (hi:i<xs.size) (F:j<xs.size) (e:R rk xs i=R rk xs j):i=j:=by
 have n:(xs.toList.map rk).Nodup:=((Fv.mp G).map rk).nodup_iff.mpr D
 rw[pV hi,pV F] at e
 have q:(xs.toList.map rk)[i]? = some (rk xs[i]):=by rw[Cw];simp[hi]
 have z:(xs.toList.map rk)[j]? = some (rk xs[j]):=by rw[Cw];simp[F]
 exact(DZ (Cr.mp q).1 n).mp (by rw[q,z,e])
noncomputable def Seg (rk:Keyed->Int) (xs:Array Keyed) (lo hi:Nat):Prop:=∀ i j,lo<=i->i<j->j<hi->R rk xs i<R rk xs j
theorem lQ (hs:src<xs.size) (j:d<=src) (k) :
  R rk (bubble xs src d) k=if k=src-d then R rk xs src else if src-d<k/\k<=src then R rk xs (k-1) else R rk xs k:=by
 have e:=getElem?_bubble hs d j k
 by_cases h1:k=src-d
 ·rw[CG h1] at e ⊢;exact gI e
 ·rw[CD h1] at e ⊢
  by_cases h2:src-d<k/\k<=src
  ·rw[CG h2] at e ⊢;exact gI e
  ·rw[CD h2] at e ⊢;exact gI e
theorem mu (q:j<=xs.size) (k):R rk (mirror xs i j ((j-i)/2)) k=if i<=k/\k<j then R rk xs (i+j-1-k) else R rk xs k:=by
 have e:=getElem?_mirror_all (i:=i) q k
 by_cases h:i<=k/\k<j
 ·rw[CG h] at e ⊢;exact gI e
 ·rw[CD h] at e ⊢;exact gI e
end
section
variable {prog:Program}{w:World}{A:Around}{E:Value->Shared->Prop}{s:Shared}{rk:Keyed->Int}{κ:SortKind}{a₀:Array Keyed}{P:Array (Nat×Nat×Nat)}
theorem vV {st:SortSt}{x y:Keyed}{Q:Option Bool->SortSt->Prop}(C:Cmp prog w A s rk κ a₀.toList) (j:kindOf st=κ) (q:x∈a₀.toList) (z:y∈a₀.toList) (h:Q (some (decide (rk x<rk y))) st) :
  wpS (model prog w) A E s (lt' x y) Q st:=by
 rw[lt'_eq]
 refine Dz (Gu ?_)
 rw[j]
 exact Dz (wpS_lift (EY (C x q y z _ _ ⟨rfl,DW h⟩)))
theorem lT {st:SortSt}{xs:Array Keyed}{i:Nat}{Q:Keyed->SortSt->Prop}(hi:i<xs.size) (h:Q xs[i] st):wpS (model prog w) A E s (elem' xs i) Q st:=by
 rw[elem'_eq,getElem?_pos xs i hi]
 exact DW h
theorem fI {st:SortSt}{i j:Nat}{Q:Option Bool->SortSt->Prop}(C:Cmp prog w A s rk κ a₀.toList) (F:SB a₀ κ P st) (hi:i<a₀.size) (G:j<a₀.size)
  (h:Q (some (decide (R rk (arrOf st) i<R rk (arrOf st) j))) st):wpS (model prog w) A E s (ltAt' i j) Q st:=by
 have q:i<(arrOf st).size:=by rw[F.size];exact hi
 have z:j<(arrOf st).size:=by rw[F.size];exact G
 rw[ltAt'_eq]
 refine Dz (Gu ?_)
 refine Dz (lT q (Dz (lT z ?_)))
 refine vV C F.kind (F.mem q) (F.mem z) ?_
 rw[pV q,pV z] at h
 exact h
theorem wpS_binarySort {st:SortSt}{lo n ok:Nat}{Q:Bool->SortSt->Prop}(C:Cmp prog w A s rk κ a₀.toList) (D:(a₀.toList.map rk).Nodup) (hn:lo+n<=a₀.size) (a5:ok<=n) (hB:SB a₀ κ P st) (hs:Seg rk (arrOf st) lo (lo+ok))
  (h:∀ z,SB a₀ κ P z->Seg rk (arrOf z) lo (lo+n)->(∀ k,(k<lo\/lo+n<=k)->(arrOf z)[k]? = (arrOf st)[k]?)->Q true z):wpS (model prog w) A E s (binarySort' lo n ok) Q st:=by
 rw[binarySort'_eq]
 refine Dz (FX (E7 (I:=λ k c z=>c=(none,())/\SB a₀ κ P z/\Seg rk (arrOf z) lo (lo+min k n)/\∀ k,(k<lo\/lo+n<=k)->(arrOf z)[k]? = (arrOf st)[k]?)
  (Q:=λ c z=>c=(none,())/\SB a₀ κ P z/\Seg rk (arrOf z) lo (lo+n)/\∀ k,(k<lo\/lo+n<=k)->(arrOf z)[k]? = (arrOf st)[k]?) ?step ?fin ?init) ?post)
 case post=>
  rintro c z ⟨rfl,G,J,ho⟩
  exact DW (h z G J ho)
 case init=>
  refine⟨rfl,hB,λ i j h0 Y hj=>?_,λ _ _=>rfl⟩
  by_cases h1:ok=0
  ·lia
  ·exact hs i j h0 Y (by lia)
 case fin=>
  rintro c z ⟨hc,G,J,ho⟩
  refine⟨hc,G,?_,ho⟩
  rwa [show min (max (max ok 1) n) n=n by lia] at J
 case step=>
  rintro k c z a2 a3 ⟨rfl,G,J,ho⟩
  rw[show min k n=k by lia] at J
  have O:lo+k<(arrOf z).size:=by rw[G.size];lia
  refine Dz (FX (E7 (I:=λ x c q=>q=z/\∃ l r,c=(none,l,r)/\l<=r/\r<=k/\r-l<=k-x /\
    (∀ i,i<l->R rk (arrOf z) (lo+i)<R rk (arrOf z) (lo+k))/\(∀ i,r<=i->i<k->R rk (arrOf z) (lo+k)<R rk (arrOf z) (lo+i)))
   (Q:=λ c q=>q=z/\∃ l r,c=(none,l,r)/\l<=k /\
    (∀ i,i<l->R rk (arrOf z) (lo+i)<R rk (arrOf z) (lo+k))/\(∀ i,l<=i->i<k->R rk (arrOf z) (lo+k)<R rk (arrOf z) (lo+i))) ?istep ?ifin ?iinit) ?ipost)
  case iinit=>exact⟨rfl,0,k,rfl,by lia,by lia,by lia,λ i hi=>by lia,λ i h1 h2=>by lia⟩
  case ifin=>
   rintro c q ⟨rfl,l,r,rfl,a1,U,hm,M,L⟩
   have:l=r:=by lia
   subst this
   exact⟨rfl,l,l,rfl,U,M,L⟩
  case istep=>
   rintro x c q _ a6 ⟨rfl,l,r,rfl,a1,U,hm,M,L⟩
   dsimp only
   by_cases V:l >= r
   ·rw[CG V]
    have:l=r:=by lia
    subst this
    exact DW ⟨rfl,l,l,rfl,U,M,L⟩
   ·rw[CD V]
    refine Dz (fI C G (by lia) (by lia) ?_)
    by_cases F:R rk (arrOf q) (lo+k)<R rk (arrOf q) (lo+(l+r)/2)
    ·simp only[F,Fx,EZ]
     refine DW ⟨rfl,l,(l+r)/2,rfl,by lia,by lia,by lia,M,λ i h1 h2=>?_⟩
     by_cases e:i=(l+r)/2
     ·rw[e];exact F
     ·exact Gi F (J _ _ (by lia) (by lia) (by lia))
    ·simp only[F,Gb,CS,DJ]
     have ne:R rk (arrOf q) (lo+(l+r)/2)≠R rk (arrOf q) (lo+k):=λ e=>by
      have:=iP D G.perm (by lia) O e
      lia
     have lt:R rk (arrOf q) (lo+(l+r)/2)<R rk (arrOf q) (lo+k):=by lia
     refine DW ⟨rfl,(l+r)/2+1,r,rfl,by lia,by lia,by lia,λ i h1=>?_,L⟩
     by_cases e:i=(l+r)/2
     ·rw[e];exact lt
     ·exact Gi (J _ _ (by lia) (by lia) (by lia)) lt
  case ipost=>
   rintro c q ⟨rfl,l,r,rfl,a4,M,L⟩
   show wpS _ _ _ _ (do moveDown' (lo+k) (lo+l);pure (ForInStep.yield (none,()))) _ _
   rw[moveDown'_eq]
   refine Dz (Gv (DW ⟨rfl,G.setArr (bubble_perm _ _ _),?_,λ j hj=>?_⟩))
   ·rw[show min (k+1) n=k+1 by lia]
    intro i j h0 Y hj
    show R rk (bubble (arrOf q) (lo+k) (lo+k-(lo+l))) i<R rk (bubble (arrOf q) (lo+k) (lo+k-(lo+l))) j
    have Z:∀ i,lo<=i->i<lo+l->R rk (arrOf q) i<R rk (arrOf q) (lo+k):=λ i a b=>by
     have:=M (i-lo) (by lia)
     rwa [show lo+(i-lo)=i by lia] at this
    have W:∀ i,lo+l<=i->i<lo+k->R rk (arrOf q) (lo+k)<R rk (arrOf q) i:=λ i a b=>by
     have:=L (i-lo) (by lia) (by lia)
     rwa [show lo+(i-lo)=i by lia] at this
    rw[lQ O (by lia),lQ O (by lia),show lo+k-(lo+k-(lo+l))=lo+l by lia]
    repeat' split
    all_goals first
     | (exfalso;lia)
     | exact Z _ (by lia) (by lia)
     | exact W _ (by lia) (by lia)
     | exact J _ _ (by lia) (by lia) (by lia)
   ·have e:=getElem?_bubble O (lo+k-(lo+l)) (by lia) j
    show (bubble (arrOf q) (lo+k) (lo+k-(lo+l)))[j]? = _
    rw[e,CD (by lia),CD (by lia)]
    exact ho j hj
end
section
variable {prog:Program}{w:World}{A:Around}{E:Value->Shared->Prop}{s:Shared}{rk:Keyed->Int}{κ:SortKind}{a₀:Array Keyed}{P:Array (Nat×Nat×Nat)}
theorem Seg.one {xs:Array Keyed}{lo:Nat}:Seg rk xs lo (lo+1):=λ i j a b c=>by lia
theorem Seg.grow {xs:Array Keyed}{lo n:Nat}(h:Seg rk xs lo (lo+n)) (h1:1<=n) (q:R rk xs (lo+n-1)<R rk xs (lo+n)):Seg rk xs lo (lo+(n+1)):=λ i j a b c=>by
 by_cases e:j=lo+n
 ·subst e
  by_cases z:i=lo+n-1
  ·rw[z];exact q
  ·exact Gi (h i (lo+n-1) a (by lia) (by lia)) q
 ·exact h i j a b (by lia)
theorem wpS_countRun {st:SortSt}{lo z:Nat}{Q:Option Nat->SortSt->Prop}(C:Cmp prog w A s rk κ a₀.toList) (D:(a₀.toList.map rk).Nodup) (h1:1<=z) (hn:lo+z<=a₀.size) (M:SB a₀ κ P st)
  (h:∀ n q,SB a₀ κ P q->1<=n->n<=z->Seg rk (arrOf q) lo (lo+n)->(∀ k,(k<lo\/lo+z<=k)->(arrOf q)[k]? = (arrOf st)[k]?)->Q (some n) q):wpS (model prog w) A E s (countRun' lo z) Q st:=by
 have ne:∀ {q:SortSt},SB a₀ κ P q->∀ i j,i<j->j<a₀.size->¬ R rk (arrOf q) j<R rk (arrOf q) i->R rk (arrOf q) i<R rk (arrOf q) j:=λ G i j a b c=>by
  have:R rk (arrOf _) i≠R rk (arrOf _) j:=λ e=>by
   have:=iP D G.perm (by rw[G.size];lia) (by rw[G.size];lia) e
   lia
  lia
 have a8:∀ {q:SortSt},SB a₀ κ P q->∀ i j,i<j->j<a₀.size->¬ R rk (arrOf q) i<R rk (arrOf q) j->R rk (arrOf q) j<R rk (arrOf q) i:=λ G i j a b c=>by
  have:R rk (arrOf _) i≠R rk (arrOf _) j:=λ e=>by
   have:=iP D G.perm (by rw[G.size];lia) (by rw[G.size];lia) e
   lia
  lia
 rw[countRun'_eq]
 refine Dz (FX (E7 (I:=λ x c q=>q=st/\c=(none,x)/\1<=x/\Seg rk (arrOf st) lo (lo+x))
  (Q:=λ c q=>q=st/\∃ n,c=(none,n)/\1<=n/\n<=z/\Seg rk (arrOf st) lo (lo+n)/\(n=z\/R rk (arrOf st) (lo+n)<R rk (arrOf st) (lo+n-1))) ?step ?fin ?init) ?post)
 case init=>exact⟨rfl,rfl,Nat.le_refl _,Seg.one⟩
 case fin=>
  rintro c q ⟨rfl,rfl,a,b⟩
  rw[show max 1 z=z by lia] at b ⊢
  exact⟨rfl,z,rfl,h1,Nat.le_refl _,b,.inl rfl⟩
 case step=>
  rintro x c q U a3 ⟨rfl,rfl,_,L⟩
  dsimp only
  refine Dz (fI C M (by lia) (by lia) ?_)
  by_cases J:R rk (arrOf q) (lo+x)<R rk (arrOf q) (lo+x-1)
  ·simp only[J,Fx,EZ]
   exact DW ⟨rfl,x,rfl,U,by lia,L,.inr J⟩
  ·simp only[J,Gb,CS,DJ]
   exact DW ⟨rfl,rfl,by lia,L.grow U (ne M _ _ (by lia) (by lia) J)⟩
 case post=>
  rintro c q ⟨rfl,n,rfl,Y,Z,L,a7⟩
  dsimp only
  by_cases e:n=z
  ·rw[CG (by simp[e])]
   exact DW (h n q M Y Z L λ _ _=>rfl)
  rw[CD (by simp[e])]
  have a4:=a7.resolve_left e
  by_cases g1:n>1
  ·rw[CG g1]
   refine Dz (fI C M (by lia) (by lia) ?_)
   have:R rk (arrOf q) lo<R rk (arrOf q) (lo+n-1):=L _ _ (Nat.le_refl _) (by lia) (by lia)
   simp only[this,Fx,EZ]
   exact DW (h n q M Y Z L λ _ _=>rfl)
  rw[CD g1]
  have n1:n=1:=by lia
  subst n1
  refine Dz (wpS_lift (Ez ⟨rfl,?_⟩))
  have h2:2<=z:=by lia
  refine Dz (FX (E7 (I:=λ x c F=>F=q/\c=(none,x,0)/\∀ i j,lo<=i->i<j->j<lo+x->R rk (arrOf q) j<R rk (arrOf q) i)
   (Q:=λ c F=>F=q/\∃ n,c=(none,n,0)/\2<=n/\n<=z/\∀ i j,lo<=i->i<j->j<lo+n->R rk (arrOf q) j<R rk (arrOf q) i) ?step2 ?fin2 ?init2) ?post2)
  case init2=>
   refine⟨rfl,rfl,λ i j a b c=>?_⟩
   have e1:i=lo:=by lia
   have e2:j=lo+1:=by lia
   rw[e1,e2]
   simpa using a4
  case fin2=>
   rintro c F ⟨rfl,rfl,b⟩
   rw[show max (1+1) z=z by lia] at b ⊢
   exact⟨rfl,z,rfl,h2,Nat.le_refl _,b⟩
  case step2=>
   rintro x c F U a3 ⟨rfl,rfl,hf⟩
   dsimp only
   refine Dz (fI C M (by lia) (by lia) ?_)
   by_cases J:R rk (arrOf F) (lo+x)<R rk (arrOf F) (lo+x-1)
   ·simp only[J,Fx,EZ]
    rw[CD (by lia)]
    refine DW ⟨rfl,rfl,λ i j a b c=>?_⟩
    by_cases e:j=lo+x
    ·subst e
     by_cases e2:i=lo+x-1
     ·rw[e2];exact J
     ·exact Gi J (hf i (lo+x-1) a (by lia) (by lia))
    ·exact hf i j a b (by lia)
   ·simp only[J,Gb,CS,DJ]
    refine Dz (fI C M (by lia) (by lia) ?_)
    have:=ne M _ _ (show lo+x-1<lo+x by lia) (by lia) J
    simp only[this,Fx,EZ]
    exact DW ⟨rfl,x,rfl,by lia,by lia,hf⟩
  case post2=>
   rintro c F ⟨rfl,n,rfl,Y,Z,hf⟩
   dsimp only
   rw[CD (by lia),reverseSlice'_eq]
   have hz:lo+n<=(arrOf F).size:=by rw[M.size];lia
   have O:SB a₀ κ P (setArr F (mirror (arrOf F) lo (lo+n) ((lo+n-lo)/2))):=M.setArr (mirror_perm _ _ _ _)
   have a2:Seg rk (mirror (arrOf F) lo (lo+n) ((lo+n-lo)/2)) lo (lo+n):=λ i j a b c=>by
    rw[mu hz,mu hz,CG (by lia),CG (by lia)]
    exact hf _ _ (by lia) (by lia) (by lia)
   have ho:∀ k,(k<lo\/lo+z<=k)->(mirror (arrOf F) lo (lo+n) ((lo+n-lo)/2))[k]? = (arrOf F)[k]?:=λ k hk=>by
    rw[getElem?_mirror_all hz,CD (by lia)]
   refine Dz (Gv ?_)
   have W:Seg rk (arrOf (setArr F (mirror (arrOf F) lo (lo+n) ((lo+n-lo)/2)))) lo (lo+n):=a2
   have a1:∀ k,(k<lo\/lo+z<=k)->(arrOf (setArr F (mirror (arrOf F) lo (lo+n) ((lo+n-lo)/2))))[k]? = (arrOf F)[k]?:=ho
   clear a2 ho
   generalize setArr F (mirror (arrOf F) lo (lo+n) ((lo+n-lo)/2))=V at O W a1 ⊢
   refine Dz (FX (E7 (I:=λ x c q=>q=V/\c=(none,x)/\Seg rk (arrOf V) lo (lo+x))
    (Q:=λ c q=>q=V/\∃ m,c=(none,m)/\1<=m/\m<=z/\Seg rk (arrOf V) lo (lo+m)) ?step3 ?fin3 ?init3) ?post3)
   case init3=>exact⟨rfl,rfl,W⟩
   case fin3=>
    rintro c q ⟨rfl,rfl,b⟩
    rw[show max n z=z by lia] at b ⊢
    exact⟨rfl,z,rfl,h1,Nat.le_refl _,b⟩
   case step3=>
    rintro x c q U a3 ⟨rfl,rfl,L⟩
    dsimp only
    refine Dz (fI C O (by lia) (by lia) ?_)
    by_cases J:R rk (arrOf q) (lo+x)<R rk (arrOf q) (lo+x-1)
    ·simp only[J,Fx,EZ]
     exact DW ⟨rfl,x,rfl,by lia,by lia,L⟩
    ·simp only[J,Gb,CS,DJ]
     exact DW ⟨rfl,rfl,L.grow (by lia) (ne O _ _ (by lia) (by lia) J)⟩
   case post3=>
    rintro c q ⟨rfl,m,rfl,a5,a6,L⟩
    exact DW (h m q O a5 a6 L a1)
end
noncomputable abbrev Asc (rk:Keyed->Int) (l:List Keyed):Prop:=l.Pairwise λ x y=>rk x<rk y
section
variable {rk:Keyed->Int}
theorem uA (h:Seg rk xs 0 xs.size):Asc rk xs.toList:=by
 unfold Asc
 rw[ET]
 intro i j hi z q
 have:=h i j (Dq _) q (by simpa using z)
 rw[pV (by simpa using hi),pV (by simpa using z)] at this
 simpa using this
end
section
variable {prog:Program}{w:World}{A:Around}{E:Value->Shared->Prop}{s:Shared}{rk:Keyed->Int}{κ:SortKind}{a₀:Array Keyed}
noncomputable def One (rk:Keyed->Int) (κ:SortKind) (a₀:Array Keyed) (st:SortSt):Prop:=SB a₀ κ #[(0,a₀.size,0)] st/\Seg rk (arrOf st) 0 a₀.size
theorem jw {st:SortSt}{Q:Unit->SortSt->Prop}(C:Cmp prog w A s rk κ a₀.toList) (D:(a₀.toList.map rk).Nodup) (hB:SB a₀ κ #[] st) (h2:2<=a₀.size) (h128:a₀.size<64)
  (h:∀ st',(arrOf st').Perm a₀->failedOf st'=none->Seg rk (arrOf st') 0 a₀.size->Q () st'):wpS (model prog w) A E s sortRuns' Q st:=by
 rw[sortRuns'_eq]
 refine Dz (Gu ?_)
 dsimp only
 have hmr:minRun' a₀.size a₀.size 0=a₀.size:=by
  obtain⟨f,hf⟩:∃ f,a₀.size=f+2:=⟨a₀.size-2,by lia⟩
  rw[hf,minRun'_succ,CG (by lia)]
 simp only[hB.size,hmr]
 refine Dz (FX (E7
  (I:=λ x c st'=>(x=0/\c=(none,0)/\SB a₀ κ #[] st')\/(1<=x/\c=(none,a₀.size)/\One rk κ a₀ st'))
  (Q:=λ c st'=>c=(none,a₀.size)/\One rk κ a₀ st') ?step ?fin (.inl ⟨rfl,rfl,hB⟩)) ?post)
 case fin=>
  rintro c st' (⟨hx,_,_⟩|⟨_,hc,hD⟩)
  ·lia
  ·exact⟨hc,hD⟩
 case step=>
  rintro x c st' _ hx (⟨rfl,rfl,hB'⟩|⟨hx1,rfl,hD⟩)
  ·dsimp only
   rw[CD (by lia)]
   simp only[Nat.sub_zero,ER]
   refine Dz (wpS_countRun C D (by lia) (by lia) hB' λ m st2 hB2 hm1 hm2 hs2 ho2=>?_)
   dsimp only
   rw[ER] at hs2
   have pe:∀ (n:Nat) (st3:SortSt),SB a₀ κ #[] st3->SB a₀ κ #[(0,n,0)] (setPending st3 ((pendingOf st3).push (0,n,0))):=λ n st3 b3=>⟨b3.perm,b3.kind,b3.failed,by show (pendingOf st3).push _=_;rw[b3.pend];rfl⟩
   by_cases hlt:m<a₀.size
   ·rw[CG hlt]
    refine Dz (wpS_lift (Ez ⟨rfl,?_⟩))
    refine Dz (wpS_binarySort C D (by lia) (by lia) hB2 (by rw[ER];exact hs2) λ st3 hB3 hs3 ho3=>?_)
    rw[ER] at hs3
    simp only[EH,CS,DJ]
    refine Dz (Gu ?_)
    have hb:(pendingOf st3).back? = none:=by rw[hB3.pend];rfl
    rw[hb]
    dsimp only
    refine Dz (Gv (DW ?_))
    rw[Nat.min_self] at hs3 ⊢
    exact .inr ⟨Nat.le_refl _,rfl,pe _ st3 hB3,hs3⟩
   ·rw[CD hlt]
    refine Dz (Gu ?_)
    have hb:(pendingOf st2).back? = none:=by rw[hB2.pend];rfl
    rw[hb]
    dsimp only
    refine Dz (Gv (DW ?_))
    have e:m=a₀.size:=by lia
    subst e
    exact .inr ⟨Nat.le_refl _,rfl,pe _ st2 hB2,hs2⟩
  ·dsimp only
   rw[CG (Nat.le_refl _)]
   exact DW ⟨rfl,hD⟩
 case post=>
  rintro c st' ⟨rfl,hD⟩
  dsimp only
  refine Dz (FX (E7 (I:=λ x c st''=>c=(none,())/\One rk κ a₀ st'') (Q:=λ c st''=>c=(none,())/\One rk κ a₀ st'') ?_ (λ _ _ hh=>hh) ⟨rfl,hD⟩) ?_)
  ·rintro x c st'' _ _ ⟨rfl,h⟩
   refine Dz (Gu ?_)
   rw[CG (by rw[h.1.pend];exact Nat.le_refl 1)]
   exact DW ⟨rfl,h⟩
  ·rintro c st'' ⟨rfl,h'⟩
   exact DW (h _ h'.1.perm h'.1.failed h'.2)
end
open PySem PyProof.Rows PySem.W
noncomputable def Tri (h:Heap) (v:Value) (x y z:Int):Prop:=∃ b o n t1 t2 t3,v=.ref b/\h.get? b=some o/\o.cls=.type "tuple" /\ o.data=.seq #[.int x t1,.int y t2,.int z t3] n/\0<=y/\y<1000/\0<=z/\z<1000
noncomputable def cH (x y z:Int):Int:=x*1000000+y*1000+z
noncomputable def cb (h:Heap) (v:Value):Int:=match v with
 | .ref b=>match h.get? b with
  | some o=>match o.data with
   | .seq xs _=>match xs.toList with
    | [.int x _,.int y _,.int z _]=>cH x y z
    | _=>0
   | _=>0
  | none=>0
 | _=>0
theorem Tri.rk (t:Tri h v x y z):cb h v=cH x y z:=by
 obtain⟨b,o,n,j,q,F,rfl,e,_,d,_⟩:=t
 unfold cb
 simp only[e,d]
theorem Tri.keeps (k:∀ b o,o.cls=.type "tuple" -> h.get? b=some o->h'.get? b=some o) (t:Tri h v x y z):Tri h' v x y z:=by
 obtain⟨b,o,n,j,q,F,rfl,e,c,r⟩:=t
 exact⟨b,o,n,j,q,F,rfl,k b o c e,c,r⟩
section
variable {prog:Program}{w:World}{A:Around}{E:Value->Shared->Prop}{s:Shared}
theorem lt3 (t:Tri s.heap v x y z) (t':Tri s.heap u x' y' z') (h:Q (decide (cH x y z<cH x' y' z')) s):wpAny (model prog w) A (keyLt' (tuples' true) v u) Q E s:=by
 obtain⟨b,o,n,M,O,U,rfl,e,c,d,Z,q2,q3,q4⟩:=t
 obtain⟨V,o',Y,j,q,F,rfl,L,W,J,r1,r2,r3,r4⟩:=t'
 unfold cH at h
 refine kat_lt e d L J ?_
 show KatLex prog w A true false Q [(.int x M,.int x' j),(.int y O,.int y' q),(.int z U,.int z' F)] 0 s
 refine kat_cons (Er ?_)
 by_cases h1:x=x'
 ·subst h1
  rw[show (x == x)=true by simp]
  refine kat_yes (kat_cons (Er ?_))
  by_cases h2:y=y'
  ·subst h2
   rw[show (y == y)=true by simp]
   refine kat_yes (kat_cons (Er ?_))
   by_cases G:z=z'
   ·subst G
    rw[show (z == z)=true by simp]
    refine kat_yes (kat_nil ?_)
    rwa [show decide (x*1000000+y*1000+z<x*1000000+y*1000+z)=false by simp] at h
   ·rw[show (z == z')=false by simpa using G]
    refine kat_no (kat_one _ _ (lt_int ?_))
    show Q _ s
    rwa [show decide (x*1000000+y*1000+z<x*1000000+y*1000+z')=decide (z<z') by rw[Et];lia] at h
  ·rw[show (y == y')=false by simpa using h2]
   refine kat_no (kat_one _ _ (lt_int ?_))
   show Q _ s
   rwa [show decide (x*1000000+y*1000+z<x*1000000+y'*1000+z')=decide (y<y') by rw[Et];lia] at h
 ·rw[show (x == x')=false by simpa using h1]
  refine kat_no (oneLt_int ?_)
  rwa [show decide (x*1000000+y*1000+z<x'*1000000+y'*1000+z')=decide (x<x') by rw[Et];lia] at h
theorem oJ:∀ {vs:List Value},(∀ v∈vs,∃ x y z,Tri h v x y z)->∃ fs,KatTups h vs fs/\fs.length=vs.length/\∀ f∈fs,∃ x t,f=Value.int x t
 | [],_=>⟨[],.nil,rfl,λ _ h=>by cases h⟩
 | v::vs,t=>by
  obtain⟨fs,k,l,a⟩:=oJ λ v q=>t v (CH _ q)
  obtain⟨x,y,z,b,o,n,F,G,J,rfl,e,c,d,_⟩:=t v CJ
  refine⟨.int x F::fs,.cons e c d rfl k,by rw[Dh,Dh,l],λ f j=>?_⟩
  rcases Cz.mp j with rfl|j
  ·exact⟨_,_,rfl⟩
  ·exact a f j
theorem An {vs:List Value}{Q:SortKind->Shared->Prop}(h2:0<vs.length) (t:∀ v∈vs,∃ x y z,Tri s.heap v x y z) (h:Q (tuples' true) s):wpAny (model prog w) A (keyKind' vs.toArray) Q E s:=by
 obtain⟨fs,k,l,a⟩:=oJ t
 refine kat_kind (T:=.type "int") k (by lia) (λ v j=>?_) rfl h
 obtain⟨x,t,rfl⟩:=a v j
 exact Looks.of_pure rfl
theorem eA (vs):(pairsOf vs).toList=vs.zip vs:=by
 unfold pairsOf;simp
theorem kE (f:Value->Int) (vs:List Value):(vs.zip vs).map (λ p:Keyed=>f p.1)=vs.map f:=by
 induction vs with
 | nil=>rfl
 | cons v vs j=>simp only[F4,Dc,j]
theorem km {vs:List Value}{p:Keyed}(h:p∈vs.zip vs):p.1=p.2/\p.1∈vs:=by
 induction vs with
 | nil=>cases h
 | cons v vs j=>
  rw[F4] at h
  rcases Cz.mp h with rfl|h
  ·exact⟨rfl,CJ⟩
  ·exact⟨(j h).1,CH _ (j h).2⟩
theorem ij {a:Addr}{vs:List Value}{n:Nat}{P:PySem.Fin->Shared->Prop}(ho:s.heap.get? a=some (seqObj "list" vs.toArray n)) (t:∀ v∈vs,∃ x y z,Tri s.heap v x y z) (hd:(vs.map (cb s.heap)).Nodup) (h128:vs.length<64)
  (h:∀ out:Array Value,out.toList.Perm vs->out.toList.Pairwise (λ u v=>cb s.heap u<cb s.heap v)->P (.done (.ret .none)) { s with heap:=sortedHeap s.heap a vs out }) :
  wpAny (model prog w) A (Builtin.«list.sort» ⟨[.ref a],[]⟩) P E s:=by
 rw[list_sort_plain]
 have ha:a<s.heap.objs.size:=Heap.lt_size ho
 refine Cq (listItems_at ho rfl ?_)
 refine Cq (Gz ho rfl ?_ (by rw[C0,El];lia) (Dq _))
 obtain⟨e1,ho1⟩:∃ e1,(s.heap.update a (Obj.mapSeq λ _=>#[])).get? a=some (seqObj "list" #[] e1):=⟨_,get?_update_seq ho (λ _=>#[])⟩
 refine Cq (seqEpoch_at ho1 rfl ?_)
 refine Cq (wpAny_newTuple ?_ (by show vs.length<=_;rw[El];lia))
 refine Cq (Fz ?_ (Dq _))
 refine C8 ?_
 have ho6:(((s.heap.update a (Obj.mapSeq λ _=>#[])).push (seqObj "tuple" vs.toArray 0)).push (seqObj "list" #[] 0)).get? a=some (seqObj "list" #[] e1):=by
  rw[Heap.get?_push_ne _ _ _ (by rw[size_push',Heap.size_update];exact CI (DC ha)),Heap.get?_push_ne _ _ _ (by rw[Heap.size_update];exact CI ha)]
  exact ho1
 have kp:∀ b o,o.cls=.type "tuple" -> s.heap.get? b=some o->(((s.heap.update a (Obj.mapSeq λ _=>#[])).push (seqObj "tuple" vs.toArray 0)).push (seqObj "list" #[] 0)).get? b=some o:=λ b o c e=>by
  have hb:b≠a:=λ z=>by rw[z,ho] at e;cases e;exact absurd (show Value.type "list" = Value.type "tuple" from c) (by decide)
  exact Heap.get?_push_of_some _ (Heap.get?_push_of_some _ ((Heap.get?_update_ne _ _ _ _ hb).trans e))
 show wpAny (model prog w) A _ P E { s with heap:=((s.heap.update a (Obj.mapSeq λ _=>#[])).push (seqObj "tuple" vs.toArray 0)).push (seqObj "list" #[] 0) }
 dsimp only
 have hsz:vs.toArray.size=vs.length:=by simp
 by_cases h2:vs.toArray.size<2
 ·rw[CG h2,CG h2]
  refine Cq (Cu ?_)
  rw[StateT.run_pure]
  refine Cq (Cu ?_)
  dsimp only
  refine Cq (seqEpoch_at ho6 rfl ?_)
  refine Cq (Gz ho6 rfl ?_ (Dq _) (hsz2:=by rw[E9];show (pairsOf vs).size<=_;rw[Ga,El];lia))
  simp only[Ge,CS,DJ]
  have e:((arrOf (SortSt.mk' general' (vs.toArray.zip vs.toArray) #[] 7 none)).map (·.2))=vs.toArray:=by
   show (vs.toArray.zip vs.toArray).map (·.2)=_
   apply Array.toList_inj.mp
   rw[Gp]
   simp
   exact List.map_snd_zip (Nat.le_refl _)
  refine Cu ?_
  show P _ { s with heap:=sortedHeap s.heap a vs ((arrOf (SortSt.mk' general' (vs.toArray.zip vs.toArray) #[] 7 none)).map (·.2)) }
  rw[e]
  refine h vs.toArray (.refl _) ?_
  match vs,hsz,h2 with
  | [],_,_=>exact .nil
  | [_],_,_=>exact FI _ _
  | _::_::_,_,h2=>exact absurd h2 (by simp)
 ·rw[CD h2,CD h2]
  have t6:∀ v∈vs,∃ x y z,Tri (((s.heap.update a (Obj.mapSeq λ _=>#[])).push (seqObj "tuple" vs.toArray 0)).push (seqObj "list" #[] 0)) v x y z:=λ v hv=>let ⟨x,y,z,q⟩:=t v hv;⟨x,y,z,q.keeps kp⟩
  have mem0:∀ p∈(pairsOf vs).toList,p.1=p.2/\p.1∈vs:=λ p hp=>by rw[eA] at hp;exact km hp
  refine Cq (An (by lia) t6 ?_)
  refine Cq (Dp (jw (rk:=λ p=>cb s.heap p.1) (κ:=tuples' true) (a₀:=pairsOf vs) (st:=SortSt.mk' (tuples' true) (vs.toArray.zip vs.toArray) #[] 7 none)
   (Q:=λ _ st'=>(arrOf st').Perm (pairsOf vs)/\failedOf st'=none/\Seg (λ p=>cb s.heap p.1) (arrOf st') 0 (pairsOf vs).size)
   (λ x hx y hy E' Q' q=>?_) ?_ ⟨Array.Perm.refl _,rfl,rfl,rfl⟩ (by rw[Ga];lia) (by rw[Ga];exact h128) λ st' a1 a2 a3=>⟨a1,a2,a3⟩) ?_ λ _ _ e=>e)
  ·obtain⟨x1,x2,x3,tx⟩:=t x.1 (mem0 x hx).2
   obtain⟨y1,y2,y3,ty⟩:=t y.1 (mem0 y hy).2
   refine lt3 (tx.keeps kp) (ty.keeps kp) ?_
   have q':Q' (decide (cb s.heap x.1<cb s.heap y.1)) _:=q
   rw[tx.rk,ty.rk] at q'
   exact q'
  ·rw[eA,kE (cb s.heap)];exact hd
  ·rintro⟨⟨⟩,st'⟩ s' ⟨rfl,hp,hf,hs⟩
   dsimp only
   have hpl:=Fv.mp hp
   refine Cq (seqEpoch_at ho6 rfl ?_)
   refine Cq (Gz ho6 rfl ?_ (Dq _) (hsz2:=by refine CV (Nat.le_of_eq ((E9 ..).trans (hp.size_eq.trans (Ga _)))) ?_;rw[El];lia))
   rw[hf]
   simp only[Ge,CS,DJ]
   refine Cu ?_
   show P _ { s with heap:=sortedHeap s.heap a vs ((arrOf st').map (·.2)) }
   refine h _ ?_ ?_
   ·rw[Gp]
    refine(hpl.map _).trans ?_
    rw[eA,List.map_snd_zip (Nat.le_refl _)]
   ·rw[Gp,DR]
    have z:(arrOf st').size=(pairsOf vs).size:=hp.size_eq
    rw[<- z] at hs
    refine(uA hs).imp_of_mem λ{p q} hp' hq' lt=>?_
    rw[<- (mem0 p (hpl.mem_iff.mp hp')).1,<- (mem0 q (hpl.mem_iff.mp hq')).1]
    exact lt
theorem su {Q:PySem.Fin->Shared->Prop}{vs:List Value}(t:∀ v∈vs,∃ x y z,Tri s.heap v x y z) (hd:(vs.map (cb s.heap)).Nodup) (h128:vs.length<64)
  (h:∀ (out:Array Value) h' c,(∀ b o,s.heap.get? b=some o->h'.get? b=some o)->h'.get? s.heap.objs.size=some { cls:=.type "list",dict:=none,data:=.seq out c,slots:=#[] }->out.toList.Perm vs->out.toList.Pairwise (λ u v=>cb s.heap u<cb s.heap v) ->
   Q (.done (.ret (.ref s.heap.objs.size))) { s with heap:=h' }) :
  wpAny (model prog w) A (do let l <- newList vs;let _ <- holding [l] (call (.builtin "list.sort") [l] []);ret l) Q E s:=by
 refine Cq (Fz ?_ (by rw[El];lia))
 have hoL:(s.heap.push (seqObj "list" vs.toArray 0)).get? s.heap.objs.size=some (seqObj "list" vs.toArray 0):=Heap.get?_push_size _ rfl
 have kp:∀ b o,o.cls=.type "tuple" -> s.heap.get? b=some o->(s.heap.push (seqObj "list" vs.toArray 0)).get? b=some o:=λ b o _ e=>Heap.get?_push_of_some _ e
 have ers:∀ v∈vs,cb (s.heap.push (seqObj "list" vs.toArray 0)) v=cb s.heap v:=λ v hv=>by
  obtain⟨x,y,z,q⟩:=t v hv
  rw[(q.keeps kp).rk,q.rk]
 refine Cq (C8 (DN slot_list_sort ⟨_,hoL,rfl⟩ entry_list_sort (ij hoL (λ v hv=>let ⟨x,y,z,q⟩:=t v hv;⟨x,y,z,q.keeps kp⟩) ?_ h128 λ out a1 a2=>⟨_,rfl,?_⟩) (args_list_sort _)))
 ·show (vs.map (cb (s.heap.push (seqObj "list" vs.toArray 0)))).Nodup
  rw[Dn ers];exact hd
 ·obtain⟨e,he⟩:=sortedHeap_at (out:=out) hoL
  refine Cu (h out _ e (λ b o q=>?_) he a1 ?_)
  ·have lt:=Heap.lt_size q
   show (sortedHeap (s.heap.push (seqObj "list" vs.toArray 0)) s.heap.objs.size vs out).get? b=some o
   rw[sortedHeap_old (CI lt) (by rw[Heap.size_push];exact DC lt)]
   exact Heap.get?_push_of_some _ q
  ·refine a2.imp_of_mem λ{p q} hp hq lt=>?_
   rw[<- ers p (a1.mem_iff.mp hp),<- ers q (a1.mem_iff.mp hq)];exact lt
theorem jh {Q:Value->Shared->Prop}{x:Value}
  (hc:wpAny (model prog w) A.in1 (collect x) (λ vs s1=>(∀ v∈vs,∃ x y z,Tri s1.heap v x y z)/\(vs.map (cb s1.heap)).Nodup/\vs.length<64 /\
   ∀ (out:Array Value) h' c,(∀ b o,s1.heap.get? b=some o->h'.get? b=some o)->h'.get? s1.heap.objs.size=some { cls:=.type "list",dict:=none,data:=.seq out c,slots:=#[] }->out.toList.Perm vs->out.toList.Pairwise (λ u v=>cb s1.heap u<cb s1.heap v) ->
    Q (.ref s1.heap.objs.size) { s1 with heap:=h' }) E s) :
  wpAny (model prog w) A (call (.builtin "sorted") [x]) Q E s:=by
 refine Calls.call_function_entry kind_sorted plain_sorted entry_sorted (args_sorted1 _) ?_
 unfold Builtin.«sorted»
 refine Cq (m:=checkCount "sorted" 1 1 _) (Cu ?_)
 refine Cq (Dp hc (λ vs s1 h1=>?_) λ _ _ e=>e)
 obtain⟨t,hd,h128,fin⟩:=h1
 exact su t hd h128 λ out h' c a b d e=>⟨_,rfl,fin out h' c a b d e⟩
end
end Tim
namespace L2
open PySem PySem.Spec PyProof.Rows
noncomputable def rk3 (H:Hp) (v:V):Int:=match v with
 | .ref b=>match H b with
  | some (.tup [.int x,.int y,.int z])=>Tim.cH x y z
  | _=>0
 | _=>0
noncomputable def Nm (H:Hp) (v:V):Prop:=∃ b x y z,v=.ref b/\H b=some (.tup [.int x,.int y,.int z])/\0<=y/\y<1000/\0<=z/\z<1000
section
variable {X:Cx}
theorem mJ (L:HOk P w H h) (e:H b=some (.tup [.int x,.int y,.int z])) (q:0<=y/\y<1000/\0<=z/\z<1000):Tim.Tri h (.ref b) x y z:=by
 obtain⟨_,J,r,o,G,j,n,F⟩:=L b _ e
 cases r with
 | cons M r=>
 cases r with
 | cons O r=>
 cases r with
 | cons U r=>
 cases r
 obtain⟨V,rfl⟩:=M
 obtain⟨W,rfl⟩:=O
 obtain⟨Y,rfl⟩:=U
 exact⟨b,o,n,V,W,Y,rfl,G,j,F,q.1,q.2.1,q.2.2.1,q.2.2.2⟩
theorem oD:∀ {j:List V}{its:List Value},(∀ v∈j,Nm H v)->Vals j its->∃ bs:List Addr,j=bs.map V.ref/\its=bs.map Value.ref
 | _,_,_,.nil=>⟨[],rfl,rfl⟩
 | v::j,u::its,n,.cons r t=>by
  obtain⟨bs,q,z⟩:=oD (λ v F=>n v (CH _ F)) t
  obtain⟨b,_,_,_,rfl,_⟩:=n v CJ
  cases r
  exact⟨b::bs,by rw[q];rfl,by rw[z];rfl⟩
theorem j5 (h:out.Perm (bs.map Value.ref)):∃ j:List Addr,out=j.map Value.ref/\j.Perm bs:=by
 refine⟨out.map λ v=>match v with | .ref a=>a|_=>0,?_,?_⟩
 ·rw[Ds]
  symm
  refine(Dn λ v q=>?_).trans (List.map_id _)
  obtain⟨b,_,rfl⟩:=CL.mp (h.mem_iff.mp q)
  rfl
 ·refine(h.map _).trans ?_
  rw[Ds]
  exact .of_eq ((Dn λ _ _=>rfl).trans (List.map_id _))
theorem gW:∀ (bs:List Addr),Vals (bs.map V.ref) (bs.map Value.ref)
 | []=>.nil
 | _::bs=>.cons rfl (gW bs)
noncomputable def wb (K:PySem.W.Frag):List V->Hp->VK->Prop:=λ xs H Q=>∃ p ls,xs=[.ref p]/\SqL K H p ls/\ls.length<64/\(∀ v∈ls,Nm H v)/\(ls.map (rk3 H)).Nodup /\
 ∀ l ls',H l=none->ls'.Perm ls->ls'.Pairwise (λ u v=>rk3 H u<rk3 H v)->Q (.ref l) (upd H l (.lst ls'))
theorem nO {K:PySem.W.Frag}(hK:X.K=K:=by rfl):cq X (.builtin "sorted") (wb K):=by
 subst hK
 intro pins s σ H xs us Q I r h
 obtain⟨p,ls,rfl,hq,M,nm,nd,q⟩:=h
 obtain⟨u,rfl,rx⟩:=vals1 r
 cases rx
 obtain⟨a2,r',pl,hz⟩:=I.list hq
 obtain⟨J,rfl,rfl⟩:=oD nm r'
 have Z:∀ b o,s.heap.get? b=some o->((s.heap.push (seqObj "list" #[] 0)).update s.heap.objs.size (Obj.mapSeq (· ++ (J.map Value.ref).toArray))).get? b=some o:=λ b o e=>
  (Heap.get?_update_other _ _ (DA (Heap.lt_size e))).trans (Heap.get?_push_of_some _ e)
 have U:Inv X pins σ H { s with heap:=(s.heap.push (seqObj "list" #[] 0)).update s.heap.objs.size (Obj.mapSeq (· ++ (J.map Value.ref).toArray)) }:=I.kept (t':=s.toks) Z
 have j:∀ b∈J,Tim.cb ((s.heap.push (seqObj "list" #[] 0)).update s.heap.objs.size (Obj.mapSeq (· ++ (J.map Value.ref).toArray))) (.ref b)=rk3 H (.ref b)/\∃ x y z,Tim.Tri ((s.heap.push (seqObj "list" #[] 0)).update s.heap.objs.size (Obj.mapSeq (· ++ (J.map Value.ref).toArray))) (.ref b) x y z:=λ b G=>by
  obtain⟨b',x,y,z,e,L,qq⟩:=nm _ (CN G)
  cases e
  have T:=mJ U.hok L qq
  exact⟨by rw[T.rk];unfold rk3;simp only[L],x,y,z,T⟩
 refine Tim.jh (collect_list pl.isList ⟨λ v hv=>?_,?_,by simpa using M,λ a1 h' c Y e pm so=>?_⟩ (by rw[El];simp at M ⊢;lia))
 ·obtain⟨b,G,rfl⟩:=CL.mp hv
  exact(j b G).2
 ·rw[Ds] at nd ⊢
  exact(Dn (f:=Tim.cb ((s.heap.push (seqObj "list" #[] 0)).update s.heap.objs.size (Obj.mapSeq (· ++ (J.map Value.ref).toArray))) ∘ Value.ref) (g:=rk3 H ∘ V.ref) λ b G=>(j b G).1) ▸ nd
 ·obtain⟨O,L,F⟩:=j5 pm
  have W:(O.map V.ref).length<=sizeLine:=by
   rw[Cy,F.length_eq];simpa using hz
  refine⟨.ref _,_,U.laid (t':=s.toks) Y (Nat.le_refl _) (show bu X.prog X.w _ h' _ (.lst (O.map V.ref)) from ⟨W,a1.toList,c,by rw[L];exact gW O,by rw[e]⟩),rfl,q _ (O.map V.ref) U.fresh (F.map _) ?_⟩
  rw[L,DR] at so
  rw[DR]
  refine so.imp_of_mem λ{b c} G hc lt=>?_
  rw[<- (j b (F.mem_iff.mp G)).1,<- (j c (F.mem_iff.mp hc)).1];exact lt
end
end L2
namespace Tim
open PySem PyProof.Rows PySem.W
theorem Walks.sH (U:A.handled=none) (it d) (L:d≠it) (M:od.data=.dict es ep) :
  Walks prog w A it [it,d] [it] es.size (λ i v=>∃ e,es[i]? = some e/\v=e.key) (λ i h=>h.IsKeyIter it d i es.size ep/\h.get? d=some od) where
 sub:=λ b j=>by simp at j;simp[j]
 frame:=λ _ _ _ st O=>⟨st.1.at λ o e=>O it (by simp) o e,O d (by simp) _ st.2⟩
 item:=λ i s Q E hi st q=>by
  refine jg st.1 st.2 M hi λ h' F G=>?_
  exact q _ h' s.toks ⟨_,C4 hi,rfl⟩ ⟨F,(G.2 d L).trans st.2⟩ λ b o j e=>(G.2 b (λ z=>j (by simp[z]))).trans e
 done:=λ s Q E st q=>kz U st.1 st.2 M (Nat.le_refl _) λ h' J=>q h' s.toks λ b o j e=>J b o (λ z=>j (by simp[z])) e
 self:=λ _ _ _ _ st q=>FY st.1 q
section
variable {prog:Program}{w:World}{A:Around}{E:Value->Shared->Prop}{s:Shared}
theorem uu (M:A.units<cLine) (t:Tri s.heap v x y z) (t':Tri s.heap u x' y' z') (h:Q (.bool (decide (cH x y z<cH x' y' z'))) s):wpAny (model prog w) A (richCompare .Lt v u) Q E s:=by
 obtain⟨b,o,n,t1,t2,t3,rfl,e,c,d,Y,Z,q3,q4⟩:=t
 obtain⟨J,o',W,O,U,V,rfl,j,q,L,r1,r2,r3,r4⟩:=t'
 unfold cH at h
 refine wpAny_richCompare_same_room (op:=.Lt) ⟨o,e,c⟩ ⟨o',j,q⟩ F.slot_tuple_lt (DN F.slot_tuple_lt ⟨o,e,c⟩ F.entry_tuple_lt ?_ (F.args_tuple_lt_2 _ _)) M
 show wpAny _ _ (isInstance (.ref J) (.type "tuple") >>= _) _ _ s
 refine Cq (Ec (T:="tuple") ⟨o',j,q⟩ isSubtype_tuple_tuple ?_)
 simp only[EH,CS,DJ]
 refine Cq (wpAny_tupleItemsOf e d ?_)
 refine Cq (wpAny_tupleItemsOf j L ?_)
 refine Cq ?_
 simp only[F4,List.zip_nil_right,E2,List.forIn_nil]
 refine Cq (Cq (Er ?_))
 by_cases h1:x=x'
 ·subst h1
  rw[show (x == x)=true by simp]
  simp only[EH,CS,DJ]
  refine Cu ?_
  dsimp only
  refine Cq (Cq (Er ?_))
  by_cases h2:y=y'
  ·subst h2
   rw[show (y == y)=true by simp]
   simp only[EH,CS,DJ]
   refine Cu ?_
   dsimp only
   refine Cq (Cq (Er ?_))
   by_cases G:z=z'
   ·subst G
    rw[show (z == z)=true by simp]
    simp only[EH,CS,DJ]
    refine Cu ?_
    dsimp only
    refine Cu ?_
    dsimp only
    refine Cu ⟨_,rfl,(λ z=>nomatch z),?_⟩
    rwa [show decide (x*1000000+y*1000+z<x*1000000+y*1000+z)=false by simp] at h
   ·rw[show (z == z')=false by simpa using G]
    simp only[Fu,EZ]
    refine Cq (Ez (Cq (lt_int (Cq (Cu (Cu ?_))))))
    dsimp only
    repeat' (refine Cu ?_;try dsimp only)
    refine⟨_,rfl,(λ z=>nomatch z),?_⟩
    rwa [show decide (x*1000000+y*1000+z<x*1000000+y*1000+z')=decide (z<z') by rw[Et];lia] at h
  ·rw[show (y == y')=false by simpa using h2]
   simp only[Fu,EZ]
   refine Cq (Ez (Cq (lt_int (Cq (Cu (Cu ?_))))))
   dsimp only
   repeat' (refine Cu ?_;try dsimp only)
   refine⟨_,rfl,(λ z=>nomatch z),?_⟩
   rwa [show decide (x*1000000+y*1000+z<x*1000000+y'*1000+z')=decide (y<y') by rw[Et];lia] at h
 ·rw[show (x == x')=false by simpa using h1]
  simp only[Fu,EZ]
  refine Cq (Ez (Cq (lt_int (Cq (Cu (Cu ?_))))))
  dsimp only
  repeat' (refine Cu ?_;try dsimp only)
  refine⟨_,rfl,(λ z=>nomatch z),?_⟩
  rwa [show decide (x*1000000+y*1000+z<x'*1000000+y'*1000+z')=decide (x<x') by rw[Et];lia] at h
end
noncomputable def Low (val:Nat->Int) (j m:Nat):Prop:=m<j/\∀ i,i<j->val m<=val i
section
variable {prog:Program}{w:World}{A:Around}{R:Result->Shared->Prop}{it S:Addr}{fp wr:List Addr}{n:Nat}{Pi:Nat->Value->Prop}{St:Nat->Heap->Prop}{x y z:Nat->Int}{bs:Nat->Addr}
theorem pG (W:Walks prog w A.in1 it fp wr n Pi St) (hv:∀ i v,Pi i v->v=.ref (bs i)) (out:S∉fp) (hu:A.in1.units<cLine) (hb:∀ i,i<n->bs i∉wr/\bs i≠S) :
  ∀ (left j:Nat) (s:Shared) (m:Nat) (c:Nat),left=n-j->0<j->j<=n->St j s.heap->Low (λ i=>cH (x i) (y i) (z i)) j m->(∀ i,i<n->Tri s.heap (.ref (bs i)) (x i) (y i) (z i)) ->
   s.heap.get? S=some { cls:=.type "list",dict:=none,data:=.seq #[.ref (bs m),.ref (bs m)] c,slots:=#[] } ->
   (∀ m' h' tk,Low (λ i=>cH (x i) (y i) (z i)) n m'->(∀ b o,b∉wr->b≠S->s.heap.get? b=some o->h'.get? b=some o)->R (.ok (.ret (.ref (bs m')))) { s with heap:=h',toks:=tk }) ->
   codeAny (model prog w) A (.builtin "min.loop" ⟨[.ref it,.none,.ref S],[]⟩) R s:=by
 have O:S∉wr:=λ z=>out (W.sub _ z)
 have nm:(toString "min" ++ toString ".loop" : String) = "min.loop":=by decide
 intro left
 induction left with
 | zero=>
  intro j s m c hl h0 hj Y tp ht hS J
  obtain rfl:j=n:=by lia
  refine Du F.entry_min_loop ?_
  rw[Around.under_plainId F.plain_min_loop _]
  refine Cq (E8 hS rfl ?_)
  refine Cq (Ee (W.done s _ _ Y λ h' tk Z=>?_))
  refine Cq (D1 (Z S _ O hS) rfl (Cq (EN (Cu ?_))))
  exact J m _ tk tp λ b o nb nS e=>(Heap.get?_update_other _ _ (Ne.symm nS)).trans (Z b o nb e)
 | succ left ih=>
  intro j s m c hl h0 hj Y tp ht hS J
  have lt:j<n:=by lia
  refine Du F.entry_min_loop ?_
  rw[Around.under_plainId F.plain_min_loop _]
  refine Cq (E8 hS rfl ?_)
  refine Cq (Ee (W.item j s _ _ lt Y λ v h' tk pv M Z=>?_))
  have V:=Z S _ O hS
  have L:∀ i,i<n->Tri h' (.ref (bs i)) (x i) (y i) (z i):=λ i hi=>by
   obtain⟨b,o,q,t1,t2,t3,e0,e,r⟩:=ht i hi
   cases e0
   exact⟨_,o,q,t1,t2,t3,rfl,Z _ o (hb i hi).1 e,r⟩
  obtain rfl:=hv j v pv
  refine Cq (Cu ?_)
  refine Cq (Ee (C8 (Cq ?_)))
  refine uu hu (L j lt) (L m (by have:=tp.1;lia)) ?_
  refine Cq (C8 (DP ?_))
  refine Cq (EN (Cu ?_))
  by_cases g:cH (x j) (y j) (z j)<cH (x m) (y m) (z m)
  ·have a2:Low (λ i=>cH (x i) (y i) (z i)) (j+1) j:=⟨by lia,λ i hi=>by
    by_cases e:i=j
    ·subst e;exact Dk _
    ·have:=tp.2 i (by lia)
     dsimp only at this ⊢
     lia⟩
   rw[CG (CZ g)]
   refine Cq (D1 V rfl (Cq (EN ?_)))
   rw[nm]
   refine Cu ⟨DG F.plain_min_loop _,ih (j+1) _ j _ (by lia) (by lia) lt (W.frame _ _ _ M λ b a3 o e=>?_) a2 (λ i hi=>?_) (Heap.get?_update_self _ V rfl) λ m' U G q a1=>?_⟩
   ·exact(Heap.get?_update_other _ _ (λ z:S=b=>out (z ▸ a3))).trans e
   ·obtain⟨b,o,q,t1,t2,t3,e0,e,r⟩:=L i hi
    cases e0
    exact⟨_,o,q,t1,t2,t3,rfl,(Heap.get?_update_other _ _ (Ne.symm (hb i hi).2)).trans e,r⟩
   ·exact J m' U G q λ b o nb nS e=>a1 b o nb nS ((Heap.get?_update_other _ _ (Ne.symm nS)).trans (Z b o nb e))
  ·have a2:Low (λ i=>cH (x i) (y i) (z i)) (j+1) m:=⟨by have:=tp.1;lia,λ i hi=>by
    by_cases e:i=j
    ·subst e
     dsimp only
     lia
    ·exact tp.2 i (by lia)⟩
   rw[CD (λ z=>g (Dr z))]
   refine Cq (EN ?_)
   rw[nm]
   refine Cu ⟨DG F.plain_min_loop _,ih (j+1) _ m c (by lia) (by lia) lt M a2 L V λ m' U G q a1=>?_⟩
   exact J m' U G q λ b o nb nS e=>a1 b o nb nS (Z b o nb e)
theorem nK (W:Walks prog w A.in1 it fp wr n Pi St) (hv:∀ i v,Pi i v->v=.ref (bs i)) (out:S∉fp) (hu:A.in1.units<cLine) (V:∀ i,i<n->bs i∉wr/\bs i≠S) (hn:0<n) (Z:St 0 s.heap) (ht:∀ i,i<n->Tri s.heap (.ref (bs i)) (x i) (y i) (z i))
  (hS:s.heap.get? S=some { cls:=.type "list",dict:=none,data:=.seq #[] c,slots:=#[] })
  (O:∀ M h' tk,Low (λ i=>cH (x i) (y i) (z i)) n M->(∀ b o,b∉wr->b≠S->s.heap.get? b=some o->h'.get? b=some o)->R (.ok (.ret (.ref (bs M)))) { s with heap:=h',toks:=tk }) :
  codeAny (model prog w) A (.builtin "min.loop" ⟨[.ref it,.none,.ref S],[]⟩) R s:=by
 have J:S∉wr:=λ z=>out (W.sub _ z)
 have nm:(toString "min" ++ toString ".loop" : String) = "min.loop":=by decide
 refine Du F.entry_min_loop ?_
 rw[Around.under_plainId F.plain_min_loop _]
 refine Cq (E8 hS rfl ?_)
 refine Cq (Ee (W.item 0 s _ _ hn Z λ v h' tk pv G kp=>?_))
 have j:=kp S _ J hS
 obtain rfl:=hv 0 v pv
 show wpAny _ A.in1 (updateSeq S (λ _=>#[.ref (bs 0),.ref (bs 0)]) >>= _) _ _ _
 refine Cq (D1 j rfl ?_)
 rw[nm]
 refine Cu ⟨DG F.plain_min_loop _,pG (x:=x) (y:=y) (z:=z) W hv out hu V _ 1 _ 0 _ rfl (by lia) hn (W.frame _ _ _ G λ b Y o e=>?_) ⟨by lia,λ i hi=>?_⟩ (λ i hi=>?_) (Heap.get?_update_self _ j rfl) λ M U L q a1=>?_⟩
 ·exact(Heap.get?_update_other _ _ (λ z:S=b=>out (z ▸ Y))).trans e
 ·obtain rfl:i=0:=by lia
  exact Dk _
 ·obtain⟨b,o,q,t1,t2,t3,e0,e,r⟩:=ht i hi
  cases e0
  exact⟨_,o,q,t1,t2,t3,rfl,(Heap.get?_update_other _ _ (Ne.symm (V i hi).2)).trans (kp _ o (V i hi).1 e),r⟩
 ·exact O M U L q λ b o nb nS e=>a1 b o nb nS ((Heap.get?_update_other _ _ (Ne.symm nS)).trans (kp b o nb e))
end
end Tim
namespace L2
open PySem PySem.Spec PyProof.Rows
section
variable {X:Cx}
noncomputable def vF (kvs:List (List Key×V)) (ns:List (Int×Int×Int)):Prop:=kvs.map (·.1)=ns.map (λ n=>[Sum.inl n.1,Sum.inl n.2.1,Sum.inl n.2.2])
noncomputable def yI:List V->Hp->VK->Prop:=λ xs H Q=>∃ a kvs ns,xs=[.ref a]/\Rd H a (.dT kvs)/\vF kvs ns/\ns≠[]/\(∀ n∈ns,0<=n.2.1/\n.2.1<1000/\0<=n.2.2/\n.2.2<1000) /\
 ∀ b n,n∈ns->(∀ m∈ns,Tim.cH n.1 n.2.1 n.2.2<=Tim.cH m.1 m.2.1 m.2.2)->H b=some (.tup [.int n.1,.int n.2.1,.int n.2.2])->Q (.ref b) H
theorem ph (hc:X.calm=true) (hu:X.A.units+1<cLine):cq X (.builtin "min") yI:=by
 intro pins s σ H xs us Q I r h
 obtain⟨a,kvs,G,rfl,e,hk,ne,sm,q⟩:=h
 obtain⟨u,rfl,rx⟩:=vals1 r
 cases rx
 obtain⟨z,hd,xs,a2,o,es,ep,ho,hx,O,he,a5,hn⟩:=hZ I.hok e
 have lx:xs.length=kvs.length:=(Paired.length a2).symm
 have le:es.size=kvs.length:=by rw[<- lx];exact Ek he
 have ln:G.length=kvs.length:=by have:=congrArg List.length hk;simpa using this.symm
 have J:∀ i,i<kvs.length->∃ n b v,G[i]? = some n/\xs[i]? = some ([Sum.inl n.1,Sum.inl n.2.1,Sum.inl n.2.2],b,v)/\H b=some (.tup [.int n.1,.int n.2.1,.int n.2.2]):=λ i hi=>by
  obtain⟨y,hy,Y,Z,f3⟩:=Paired.oR a2 (Cs hi)
  have hn:G[i]? = some (G[i]'(by lia)):=Cs _
  have k1:(kvs.map (·.1))[i]? = some (kvs[i].1):=by rw[Cw,Cs hi];rfl
  have a4:kvs.map (·.1)=G.map (λ n=>[Sum.inl n.1,Sum.inl n.2.1,Sum.inl n.2.2]):=hk
  rw[a4,Cw,hn] at k1
  have k2:kvs[i].1=[Sum.inl (G[i]'(by lia)).1,Sum.inl (G[i]'(by lia)).2.1,Sum.inl (G[i]'(by lia)).2.2]:=(Option.some.inj k1).symm
  obtain⟨yk,yb,yv⟩:=y
  refine⟨_,yb,yv,hn,?_,?_⟩
  ·rw[hy]
   have:kvs[i].1=yk:=Y
   rw[<- this,k2]
  ·have a1:H yb=some (.tup (kvs[i].1.map kV)):=Z
   rw[k2] at a1
   exact a1
 have fg:∀ (i:Nat) (n:Int×Int×Int) (b:Addr) (v:Value),G[i]? = some n->xs[i]? = some ([Sum.inl n.1,Sum.inl n.2.1,Sum.inl n.2.2],b,v)->(xs[i]?.map (·.2.1)).getD 0=b/\(G[i]?.map (·.1)).getD 0=n.1/\(G[i]?.map (·.2.1)).getD 0=n.2.1/\(G[i]?.map (·.2.2)).getD 0=n.2.2:=λ i n b v h1 h2=>by
  rw[h1,h2];exact⟨rfl,rfl,rfl,rfl⟩
 have la:a<s.heap.objs.size:=Heap.lt_size ho
 have nm:(toString "min" ++ toString ".loop" : String) = "min.loop":=by decide
 refine call_function_tree F.kind_min F.plain_min F.entry_min (F.args_min1 _) ?_
 refine Cq (m:=Builtin.Builtins.bindParams "min" ["key","default"] 0 ⟨[],[]⟩) (DH (show Builtin.Builtins.bindParams "min" ["key","default"] 0 ⟨[],[]⟩=pure [none,none] from rfl) ?_)
 refine Cq (Cu ?_)
 refine Cq (ji hd ho hx O ?_)
 refine Cq (DX ?_)
 rw[nm]
 let h1:Heap:=s.heap.push { cls:=.type "dict_keyiterator",data:=.fields #[.ref a,.int 0 0,.int es.size 0,.int ep 0] }
 have sz:h1.objs.size=s.heap.objs.size+1:=Heap.size_push ..
 have U:∀ b o,s.heap.get? b=some o->(h1.push { cls:=.type "list",data:=.seq #[] 0 }).get? b=some o:=λ b o e=>Heap.get?_push_of_some _ (Heap.get?_push_of_some _ e)
 have a3:∀ i,i<kvs.length->(xs[i]?.map (·.2.1)).getD 0<s.heap.objs.size:=λ i hi=>by
  obtain⟨n,b,v,W,L,M⟩:=J i hi
  rw[(fg i n b v W L).1]
  exact I.hok.lt M
 refine Cu ⟨DG F.plain_min_loop _,Tim.nK (S:=h1.objs.size) (bs:=λ i=>(xs[i]?.map (·.2.1)).getD 0) (x:=λ i=>(G[i]?.map (·.1)).getD 0) (y:=λ i=>(G[i]?.map (·.2.1)).getD 0) (z:=λ i=>(G[i]?.map (·.2.2)).getD 0)
  (Tim.Walks.sH (by simpa using I.ok.hd hc) s.heap.objs.size a (CI la) O) (λ i v hv=>?_) ?_ (by simpa using hu) (λ i hi=>?_) ?_ ⟨⟨_,Heap.get?_push_of_some _ (Heap.get?_push_size _ rfl),rfl,rfl⟩,U _ _ ho⟩ (λ i hi=>?_) (Heap.get?_push_size _ rfl) λ m h' tk lo kp=>?_⟩
 ·obtain⟨en,W,rfl⟩:=hv
  have hi:i<es.size:=by
   rw[D0] at W;exact W.1
  obtain⟨n,b,v,L,M,_⟩:=J i (by lia)
  rw[(fg i n b v L M).1]
  have V:es.toList[i]? = some en:=by simpa using W
  rw[he,Cw,M] at V
  cases V
  rfl
 ·intro z
  simp only[Cz,CC,C2] at z
  rw[sz] at z
  rcases z with z|z
  ·exact absurd z (Nat.succ_ne_self _)
  ·rw[<- z] at la;exact absurd la (Nat.not_lt.mpr (Ex _))
 ·have:=a3 i (by lia)
  refine⟨λ z=>?_,?_⟩
  ·simp only[Cz,CC,C2] at z
   exact CI this z
  ·rw[sz];exact CI (DC this)
 ·rw[le,<- ln];exact List.length_pos_iff.mpr ne
 ·obtain⟨n,b,v,L,M,V⟩:=J i (by lia)
  obtain⟨Y,Z,f3,f4⟩:=fg i n b v L M
  dsimp only
  rw[Y,Z,f3,f4]
  exact(mJ I.hok V (sm n (CB L))).keeps λ b o _ e=>U b o e
 ·obtain⟨n,b,v,L,M,V⟩:=J m (by have:=lo.1;lia)
  obtain⟨Y,Z,f3,f4⟩:=fg m n b v L M
  dsimp only
  rw[Y]
  refine⟨.ref b,H,I.kept λ c oc e=>kp c oc ?_ ?_ (U c oc e),rfl,q b n (CB L) (λ k hk=>?_) V⟩
  ·simp only[Cv];exact CI (Heap.lt_size e)
  ·rw[sz];exact CI (DC (Heap.lt_size e))
  ·obtain⟨j,hj,rfl⟩:=C1 hk
   obtain⟨n',b',v',g2,g3,_⟩:=J j (by lia)
   obtain⟨_,d2,d3,d4⟩:=fg j n' b' v' g2 g3
   have:=lo.2 j (by lia)
   dsimp only at this
   rw[Z,f3,f4,d2,d3,d4] at this
   rw[Cs hj] at g2
   cases g2
   exact this
end
end L2
namespace Zn
open PySem
section
variable {prog:Program}{w:World}{A:Around}{E:Value->Shared->Prop}{s:Shared}
end
end Zn
namespace L2
open PySem PySem.Spec PyProof.Rows
section
variable {X:Cx}{K:PySem.W.Frag}
end
theorem lA {K:PySem.W.Frag}{W Y:Addr}{xs ys:List V}{k:Nat}{g:TG}{tc:TT}{te:TE}{σ:St}{H1:Hp}{Q:VK}(a1:xs.length<=1000) (J:xs.length=ys.length)
  (h:∀ acc,H1 acc=none->∃ F:Nat->St->List V->Hp->Prop,F 0 (σ++List.replicate k none) [] (upd H1 acc (.lst []))/\(∀ i j zs H2,i<=xs.length->F i j zs H2->SqL K H2 W xs/\SqL K H2 Y ys/\zs.length<=i) /\
   (∀ i x y p j zs H2,i<xs.length->xs[i]? = some x->ys[i]? = some y->H2 p=none->F i j zs H2->g (.ref p) j (upd H2 p (.tup [x,y])) λ q Z=>tc q Z λ b O=>if b=true then te q O λ v U=>U acc=some (.lst zs)/\Nx xs.length i (F (i+1) q (zs++[v]) (upd U acc (.lst (zs++[v])))) else Nx xs.length i (F (i+1) q zs O)) /\
   ∀ j zs H2,F xs.length j zs H2->Q (.ref acc) H2):ig (Itz K W Y) k g tc te σ H1 Q:=by
 intro acc ha
 obtain⟨F,p0,pl,ps,pd⟩:=h acc ha
 refine⟨λ i m j zs H2=>m=xs.length-i/\i<=xs.length/\F i j zs H2,⟨xs.length,by simp,Dq _,p0⟩,?_⟩
 rintro i m j zs H2 ⟨rfl,hi,p⟩
 obtain⟨L,M,ln⟩:=pl i j zs H2 hi p
 by_cases G:i<xs.length
 ·refine .inr ⟨⟨xs,ys,xs[i],ys[i],L,M,by simp[G],by simp[J ▸ G]⟩,DK ln (bh (by lia)),λ v H3 z=>?_⟩
  obtain⟨b,x,y,nb,rfl,rfl,z1,z2⟩:=z
  exact ps i x y b j zs H2 G (z1 xs L) (z2 ys M) nb p
 ·have e:i=xs.length:=by lia
  subst e
  exact .inl ⟨⟨xs,ys,L,M,.inl (Nat.le_refl _)⟩,pd j zs H2 p⟩
end L2
namespace PySem
section
variable {prog:Program}{w:World}{A:Around}{E:Value->Shared->Prop}{s:Shared}
theorem p5 (M:A.handled=none) (I d) (F:d≠I) (es:Array DictEntry) (ep) :
  Walks prog w A I [I,d] [I] es.size (λ i v=>∃ h:i<es.size,v=es[i].key) (λ i h=>h.IsKeyIter I d i es.size ep/\∃ od,h.get? d=some od/\od.data=.dict es ep) where
 sub:=λ b j=>by simp at j;simp[j]
 frame:=λ _ _ _ st J=>⟨st.1.at λ o e=>J I (by simp) o e,let ⟨od,h1,h2⟩:=st.2;⟨od,J d (by simp) _ h1,h2⟩⟩
 item:=λ i s Q E hi st q=>by
  obtain⟨it,od,h1,h2⟩:=st
  refine jg it h1 h2 hi λ h' G L=>?_
  exact q _ h' s.toks ⟨hi,rfl⟩ ⟨G,od,by rw[L.2 d F];exact h1,h2⟩ λ b o j e=>by rw[L.2 b (λ z=>j (by simp[z]))];exact e
 done:=λ s Q E st q=>by
  obtain⟨it,od,h1,h2⟩:=st
  exact kz M it h1 h2 (Nat.le_refl _) λ h' ex=>q h' s.toks λ b o j e=>ex b o (λ z=>j (by simp[z])) e
 self:=λ _ _ _ _ st q=>FY st.1 q
theorem jv:isSubtype (.type "dict") (.type "dict")=pure true:=by rw[Gx];kernel_rfl
theorem keys_eq {es:Array DictEntry}{acc:Array Value}(h:ItemsOf (λ i v=>∃ h:i<es.size,v=es[i].key) acc es.size):acc.toList=es.toList.map (·.key):=by
 refine Ep λ i=>?_
 rw[Cw,C7,C7]
 by_cases q:i<acc.size
 ·have j:=C4 q
  obtain⟨F,G⟩:=h.2 i _ j
  rw[j,C4 F,G];rfl
 ·rw[DF (by lia),DF (by have:=h.1;lia)];rfl
theorem lX {Q:List Value->Shared->Prop}{a:Addr}{o:Obj}{es:Array DictEntry}{ep:Nat}(hh:A.handled=none) (hd:(a == sysModules)=false) (ho:s.heap.get? a=some o) (hx:o.ExactDict) (G:o.data=.dict es ep) (a1:es.size<=sizeLine)
  (h:∀ h' tk,(∀ b o,s.heap.get? b=some o->h'.get? b=some o)->Q (es.toList.map (·.key)) { s with heap:=h',toks:=tk }) :
  wpAny (model prog w) A (collect (.ref a)) Q E s:=by
 have la:a<s.heap.objs.size:=Heap.lt_size ho
 have ne:s.heap.objs.size≠a:=DA la
 unfold collect
 refine Cq (Gw (Du F.entry_proto_collect ?_))
 rw[Around.under_plainId F.plain_proto_collect _]
 unfold Builtin.«proto.collect»
 refine Cq (Fz ?_)
 refine Cu ⟨DG F.plain_list_iadd _,Du F.entry_list_iadd ?_⟩
 rw[Around.under_plainId F.plain_list_iadd _]
 unfold Builtin.«list.__iadd__»
 refine Cq (DH (a:=(.ref s.heap.objs.size,[.ref a])) rfl ?_)
 dsimp only
 unfold Builtin.List.listExtendWith
 have L:(s.heap.push { cls:=.type "list",data:=.seq ([]:List Value).toArray }).get? a=some o:=Heap.get?_push_of_some _ ho
 have T1:Shared.TypeIs { s with heap:=s.heap.push { cls:=.type "list",data:=.seq ([]:List Value).toArray } } (.ref a) "dict":=⟨o,L,hx.1⟩
 refine Cq (FK T1 ?_)
 have h1:Builtin.List.listSameRef (.ref s.heap.objs.size) (.ref a)=false:=by simp[Builtin.List.listSameRef,ne]
 have h2:(Value.type "dict" == Value.type "list")=false:=by decide
 have h3:(Value.type "dict" == Value.type "tuple")=false:=by decide
 simp only[h1,h2,h3,Bool.or_false,CS,DJ]
 refine Cq (ji hd L hx G ?_)
 refine Cq (C8 ?_)
 unfold Builtin.List.listLengthHint
 generalize O:({ cls:=.type "dict_keyiterator",data:=.fields #[.ref a,.int 0 0,.int es.size 0,.int ep 0] }:Obj)=V
 have M:((s.heap.push { cls:=.type "list",data:=.seq ([]:List Value).toArray }).push V).get? a=some o:=Heap.get?_push_of_some _ L
 have Z:Shared.TypeIs { s with heap:=(s.heap.push { cls:=.type "list",data:=.seq ([]:List Value).toArray }).push V } (.ref a) "dict":=⟨o,M,hx.1⟩
 refine Cq (Fi Z F.slot_dict_len.lookup ?_)
 wp_delta
 refine Cq (Ec Z jv ?_)
 show wpAny _ A.in1 (typeOf (Value.ref a) >>= _) _ _ _
 refine Cq (FK Z (Cu ?_))
 rw[CG (by decide)]
 refine Cq (Ez ?_)
 have it:((s.heap.push { cls:=.type "list",data:=.seq ([]:List Value).toArray }).push V).IsKeyIter (s.heap.push { cls:=.type "list",data:=.seq ([]:List Value).toArray }).objs.size a 0 es.size ep:=⟨_,Heap.get?_push_size _ (by rw[<- O];rfl),by rw[<- O],by rw[<- O];rfl⟩
 generalize hH:s.heap.push { cls:=.type "list",data:=.seq ([]:List Value).toArray }=H at it M Z ⊢
 have W:H.objs.size=s.heap.objs.size+1:=by rw[<- hH,Heap.size_push]
 have j:(H.push V).get? s.heap.objs.size=some { cls:=.type "list",data:=.seq ([]:List Value).toArray }:=Heap.get?_push_of_some _ (hH ▸ Heap.get?_push_size _ rfl)
 show wpAny _ A.in1 (Builtin.List.listTouch (.ref s.heap.objs.size) >>= _) _ _ _
 refine Cq ?_
 show wpAny _ A.in1 (updateSeq s.heap.objs.size (·.push .none) >>= λ _=>updateSeq s.heap.objs.size (·.pop)) _ _ _
 refine Cq (D1 j rfl ?_)
 have q:=Heap.get?_update_self (Obj.mapSeq (·.push Value.none)) j rfl
 refine D1 q rfl ?_
 have J:=Heap.get?_update_self (Obj.mapSeq (·.pop)) q rfl
 have U:∀ b o,b≠s.heap.objs.size->(H.push V).get? b=some o->(((H.push V).update s.heap.objs.size (Obj.mapSeq (·.push Value.none))).update s.heap.objs.size (Obj.mapSeq (·.pop))).get? b=some o:=
  λ b o hb e=>(Heap.get?_update_other _ _ (Ne.symm hb)).trans ((Heap.get?_update_other _ _ (Ne.symm hb)).trans e)
 have nI:s.heap.objs.size≠H.objs.size:=by lia
 have a3:s.heap.objs.size∉[H.objs.size,a]:=by simp only[Cz,CC,C2,EU];exact⟨nI,ne⟩
 refine Cu ⟨DG F.plain_extend_loop _,codeAny_extend_loopS (p5 (A:=A.in1) hh H.objs.size a (CI (by rw[W];exact DC la)) es ep).toS a1 _ a3 _ es.size 0 _ _ _ rfl (Dq _)
  ⟨it.at λ o e=>U _ o (Ne.symm nI) e,o,U _ o (Ne.symm ne) M,G⟩ J (ItemsOf.nil _) λ s' a6 c' hm a2 Y=>?_⟩
 obtain⟨h',g',d',a5,a4⟩:=s'
 obtain rfl:g'=s.gens:=hm.gens
 obtain rfl:d'=s.drawn:=hm.drawn
 obtain rfl:a4=s.os:=hm.os
 show wpAny _ A (load s.heap.objs.size >>= _) _ _ _
 refine Cq (wpAny_load a2 (Cu ?_))
 rw[keys_eq Y]
 refine h h' a5 λ b o e=>hm.heap b o ?_ (U b o (CI (Heap.lt_size e)) (Heap.get?_push_of_some _ (hH ▸ Heap.get?_push_of_some _ e)))
 have:=Heap.lt_size e
 simp only[Cz,CC,C2,EU]
 exact⟨CI this,CI (by show b<H.objs.size;rw[W];exact DC this)⟩
end
end PySem
namespace L2
open PySem PySem.Spec PyProof.Rows
section
variable {X:Cx}
noncomputable def m8 (H:Hp) (kvs:List (List Key×V)) (bs:List Addr):Prop:=bs.length=kvs.length/\∀ (i:Nat) b k v,bs[i]? = some b->kvs[i]? = some (k,v)->H b=some (.tup (k.map kV))
noncomputable def wZ:List V->Hp->VK->Prop:=λ xs H Q=>∃ a kvs,xs=[.ref a]/\H a=some (.dT kvs)/\kvs.length<64/\∀ bs,m8 H kvs bs->(∀ v∈bs.map V.ref,Nm H v)/\((bs.map V.ref).map (rk3 H)).Nodup /\
 ∀ l ls',H l=none->ls'.Perm (bs.map V.ref)->ls'.Pairwise (λ u v=>rk3 H u<rk3 H v)->Q (.ref l) (upd H l (.lst ls'))
theorem nM (U:X.calm=true):cq X (.builtin "sorted") wZ:=by
 intro pins s σ H xs us Q I r h
 obtain⟨a,kvs,rfl,ha,O,h⟩:=h
 obtain⟨u,rfl,rx⟩:=vals1 r
 cases rx
 obtain⟨z,y,xs,r,o,es,ep,g1,g2,g3,g4,g5⟩:=(show bu X.prog X.w H s.heap a (.dT kvs) from I.hok a _ ha)
 have hn:es.size=kvs.length:=by rw[Ek g4];exact(Paired.length r).symm
 have hx:xs.length=kvs.length:=(Paired.length r).symm
 have ek:es.toList.map (·.key)=(xs.map λ q=>q.2.1).map Value.ref:=by
  refine Ep λ i=>?_
  rw[Cw,Cw,Cw,C7,entry_at g4 i]
  cases xs[i]? <;> rfl
 have ks:m8 H kvs (xs.map λ q=>q.2.1):=by
  refine⟨by rw[Cy,hx],λ i b k v j hk=>?_⟩
  obtain⟨q,W,q1,q2,q3⟩:∃ q,xs[i]? = some q/\k=q.1/\H q.2.1=some (.tup (k.map kV))/\RelV v q.2.2:=by
   obtain⟨q,W,h⟩:=Paired.oR (i:=i) r hk
   exact⟨q,W,h⟩
  rw[Cw,W] at j
  cases j
  exact q2
 obtain⟨nm,nd,q⟩:=h _ ks
 generalize xs.map (λ q=>q.2.1)=bs at ek ks nm nd q
 have lb:bs.length=kvs.length:=ks.1
 refine Tim.jh (lX (by simpa using I.ok.hd U) y g1 g2 g3 (by rw[hn,El];lia) λ h1 tk kp=>?_)
 rw[ek]
 have M:Inv X pins σ H { s with heap:=h1,toks:=tk }:=I.kept kp
 have F:∀ b∈bs,Tim.cb h1 (.ref b)=rk3 H (.ref b)/\∃ x y z,Tim.Tri h1 (.ref b) x y z:=λ b j=>by
  obtain⟨b',x,y,z,e,J,qq⟩:=nm _ (CN j)
  cases e
  have T:=mJ M.hok J qq
  exact⟨by rw[T.rk];unfold rk3;simp only[J],x,y,z,T⟩
 refine⟨λ v hv=>?_,?_,by rw[Cy,lb];exact O,λ a1 h' c Z e pm so=>?_⟩
 ·obtain⟨b,j,rfl⟩:=CL.mp hv
  exact(F b j).2
 ·rw[Ds] at nd ⊢
  exact(Dn (f:=Tim.cb h1 ∘ Value.ref) (g:=rk3 H ∘ V.ref) λ b j=>(F b j).1) ▸ nd
 ·obtain⟨L,J,G⟩:=j5 pm
  have Y:(L.map V.ref).length<=sizeLine:=by
   rw[Cy,G.length_eq,lb,El];lia
  refine⟨.ref _,_,M.laid (t':=tk) Z (Nat.le_refl _) (show bu X.prog X.w _ h' _ (.lst (L.map V.ref)) from ⟨Y,a1.toList,c,by rw[J];exact gW L,by rw[e]⟩),rfl,q _ (L.map V.ref) M.fresh (G.map _) ?_⟩
  rw[J,DR] at so
  rw[DR]
  refine so.imp_of_mem λ{b c} j U lt=>?_
  rw[<- (F b (G.mem_iff.mp j)).1,<- (F c (G.mem_iff.mp U)).1];exact lt
end
section
variable {X:Cx}
noncomputable def zr:List V->Hp->VK->Prop:=λ xs H Q=>∃ j:Int,xs=[.int j]/\∀ l,H l=none->Q (.ref l) (upd H l (.rng 0 j))
theorem gR:cq X (.type "range") zr:=by
 intro pins s σ H xs G Q I r h
 obtain⟨j,rfl,q⟩:=h
 obtain⟨u,rfl,F⟩:=vals1 r
 obtain⟨t,rfl⟩:=F
 refine call_range_1 ⟨.ref s.heap.objs.size,_,I.laid (λ b o e=>Heap.get?_push_of_some _ e) (Nat.le_refl _) (show bu X.prog X.w _ _ _ (.rng 0 j) from ⟨_,_,_,Heap.get?_push_size _ rfl⟩),rfl,q _ I.fresh⟩
end
section
variable {X:Cx}
noncomputable def sP (C:Addr) (m name qual:Str) (st:Stmt) (F:List Str) (sp:List V->Sp) (E:XK) (tf:TE) (t:TA):TE:=λ σ H Q=>tf σ H λ x H1=>∃ a dx fs f ws,x=.ref a/\H1 a=some (.ins C dx fs)/\fs.lookup m=some (.ref f)/\Clo H1 name qual st F f ws/\t σ H1 λ vs H2=>fP H1 H2/\sp ws vs H2 Q E
theorem pI {CX:CXT}{k:Nat}{C:Addr}{m name qual:Str}{st:Stmt}{o:Expr}{ps F:List Str}{sp:List V->Sp}{E:XK}{apos pos:Pos}{e:Expr}{es:List Expr}{tf:TE}{t:TA}{pl:Sem Bool}(CO:iY X.prog X.w X.K X.mg X.base CX k name qual st ps F sp) (hr:cn k X.A)
  (hf:PE X o tf) (c:Cls X.K C) (n:bA X.K C m) (hx:Passes CX X E) (ha:PA X (e::es) t) (hst:starEach (e::es) X.env=(false,eval e X.env)::starEach es X.env:=by rfl) (hpl:(backTo pos (starEach es X.env)).any (·.1)=false:=by rfl)
  (ht:eval (.Call (.Attribute o m apos) (e::es) [] pos) X.env=(do
   let ov <- eval o X.env
   standAt apos.atName
   let (f,first) <- holding [ov] (getMethod ov m pl)
   callWith pos f first (backTo pos (starEach (e::es) X.env)) (backToKw pos (keywordEach [] X.env))):=by rfl) :
  PE X (.Call (.Attribute o m apos) (e::es) [] pos) (sP C m name qual st F sp E tf t):=by
 intro pins s σ H Q I h
 refine FV (pl:=pl) (thn (hf pins s σ H _ I h) λ u s1 ⟨x,H1,I1,rx,a,dx,fs,f,ws,ex,ea,l,cl,q⟩=>?_) ht
 subst ex
 obtain rfl:u=Value.ref a:=rx
 refine lI I1 ea c n l λ u2 s2 I2 ru=>?_
 obtain rfl:u2=Value.ref f:=ru
 exact qZ CO hr hx ha I2 cl q hst hpl
end
noncomputable def Ev (te:TE) (σ:St) (H:Hp) (v:V):Prop:=∀ Q:VK,Q v H->te σ H Q
noncomputable def Es (ta:TA) (σ:St) (H:Hp) (vs:List V):Prop:=∀ Q:List V->Hp->Prop,Q vs H->ta σ H Q
section
variable {σ:St}{H:Hp}{x y:V}{vs:List V}{te:TE}{ta:TA}{K:PySem.W.Frag}{C a dx:Addr}{fs:List (Str×V)}{m:Str}
theorem Ev.n (h:σ[i]? = some (some x)):Ev (cM i) σ H x:=λ _ q=>⟨_,h,q⟩
theorem Ev.c:Ev (tC x) σ H x:=λ _ q=>q
theorem Ev.f (h:Ev te σ H (.ref a)) (e:H a=some (.ins C dx fs)) (c:Cls K C) (n:bA K C m) (l:fs.lookup m=some x):Ev (lS K te m) σ H x:=λ _ q=>h _ ⟨a,C,dx,fs,x,rfl,e,c,n,l,q⟩
theorem Es.nil:Es nA σ H []:=λ _ q=>q
theorem Es.cons (h:Ev te σ H x) (k:Es ta σ H vs):Es (ic te ta) σ H (x::vs):=λ Q q=>h _ (k _ q)
theorem tm (h:Ev te σ H (.ref a)) (e:H a=some (.ins C dx fs)) (l:fs.lookup m=none) (j:Es ta σ H vs) (k:sp (.ref a::(vs++[])) H Q E):lR C m sp [] E te ta σ H Q:=h _ ⟨a,dx,fs,rfl,e,l,j _ k⟩
theorem tcl (j:Es ta σ H vs) (k:sp (vs++[]) H Q E):vj sp [] E ta σ H Q:=j _ k
end
theorem mz {prog:Program}{w:World}{A:Around}{it:Addr}{fp:List Addr}{n:Nat}{P:Nat->Value->Prop}{St:Nat->Heap->Prop}(D:Draws prog w A it fp n P St) (c:Nat) :
  Draws prog w A it fp (c+n) (λ j x=>∃ i,j=c+i/\P i x) (λ j h=>∃ i,j=c+i/\St i h) where
 live:=λ j h ⟨i,_,st⟩=>D.live i h st
 frame:=λ j h h' ⟨i,e,st⟩ k=>⟨i,e,D.frame i h h' st k⟩
 item:=λ j s Q E L ⟨i,e,st⟩ G=>D.item i s Q E (by omega) st λ x h' tk p q J=>G x h' tk ⟨i,e,p⟩ ⟨i+1,by omega,q⟩ J
 done:=λ s Q E ⟨i,e,st⟩ F=>D.done s Q E (by rw[show n=i by omega];exact st) F
noncomputable def Itc (K:PySem.W.Frag) (l:Addr) (c:Nat):It:=
 ⟨λ i H=>∃ xs x,SqL K H l xs/\xs[i]? = some x,λ i H v H'=>∃ p x,H p=none/\v=.ref p/\H'=upd H p (.tup [.int ((c+i:Nat):Int),x])/\∀ xs,SqL K H l xs->xs[i]? = some x,λ i H=>∃ xs,SqL K H l xs/\xs.length<=i⟩
theorem mx {P:Program}{w:World}{K:PySem.W.Frag}{es:List Expr}{kk:Nat}{pos:Pos}(e it l c:Nat) (M:e≠it) (a2:l≠it) (a1:e≠l) :
  Turn P w K (.Tuple es kk pos) (Itc K l c) [e,it] e (λ i h=>(∃ F,IsEnum h e it ((c+i:Nat):Int) F)/\h.IsListIter it l i) where
 mem:=by simp
 obj:=λ i h st b G=>by
  obtain⟨⟨F,J⟩,⟨o1,e1,_,d1⟩⟩:=st
  simp only[Cz,CC,C2] at G
  rcases G with rfl|rfl
  ·exact⟨_,J,λ v q=>by cases q⟩
  ·exact⟨_,e1,λ v q=>by rw[d1] at q;cases q⟩
 keep:=λ i h h' st k=>by
  obtain⟨⟨F,J⟩,h1⟩:=st
  exact⟨⟨F,k e (by simp) _ J⟩,h1.at λ o q=>k it (by simp) o q⟩
 item:=by
  intro X hP hw hK hc i pins s σ H E I Y st hg
  subst hP hw hK
  obtain⟨xs,x,Z,hx⟩:=hg
  obtain⟨its,rv,p1,hz⟩:=I.list Z
  obtain⟨u,hu,ru⟩:=rv.get hx
  obtain⟨⟨F,J⟩,h1⟩:=st
  have lt:∀ {c o},s.heap.get? c=some o->s.heap.objs.size≠c:=λ e=>DA (Heap.lt_size e)
  have n1:s.heap.objs.size≠e:=lt J
  have n2:s.heap.objs.size≠it:=by obtain⟨_,q,_⟩:=h1;exact lt q
  have W:its.toArray[i]? = some u:=by simpa using hu
  have hi:i<its.toArray.size:=(D0.mp W).1
  have D:=mz (Draws.list (prog:=X.prog) (w:=X.w) (A:=X.A.in1) (I.ok.hd hc) it l a2 its.toArray) c
  refine wpAny_pyNext_enum_itemD D (i:=c+i) J ⟨i,rfl,h1,p1.isList⟩ (Nat.add_lt_add_left hi c) M (by simp[M,a1]) λ y h' tk py ho a4 hT a6 hk=>?_
  obtain⟨i',ei,ey⟩:=py
  obtain rfl:i=i':=by omega
  have O:its.toArray[i]? = some y:=ey
  rw[W] at O
  cases O
  obtain⟨i2,e2,V,_⟩:=a4
  obtain rfl:i2=i+1:=by omega
  refine⟨_,rfl,wpAny_letOwnedTupleGo_enum (s:={ s with heap:=h',toks:=tk+1 }) ho λ L U sb=>?_⟩
  have k2:∀ b o,b∉[e,it]->s.heap.get? b=some o->L.get? b=some o:=λ b o G q=>by
   simp only[Cz,CC,C2,EU] at G
   exact(sb.2 b G.1).trans (hk b o G.1 G.2 q)
  have a3:bu X.prog X.w (upd H s.heap.objs.size (.tup [.int ((c+i:Nat):Int),x])) L s.heap.objs.size (.tup [.int ((c+i:Nat):Int),x]):=by
   have e5:L.get? s.heap.objs.size=some { cls:=.type "tuple",data:=.seq #[.int ((c+i:Nat):Int) tk,u] }:=(sb.2 _ n1).trans hT
   exact⟨bh (by simp),[.int ((c+i:Nat):Int) tk,u],.cons ⟨_,rfl⟩ (.cons ru .nil),_,e5,rfl,_,rfl⟩
  refine⟨.ref s.heap.objs.size,_,I.gZ (t':=tk+1) k2 Y (Nat.le_refl _) a3,rfl,⟨_,x,I.fresh,rfl,rfl,λ zs hs=>by rw[I.eM hs Z];exact hx⟩,?_,λ b G=>?_⟩
  ·exact⟨⟨_,by rw[show ((c+(i+1):Nat):Int)=((c+i:Nat):Int)+1 by omega];exact U⟩,V.at λ o q=>(sb.2 it M.symm).trans q⟩
  ·rw[aE]
   ·exact(Y b G).1
   ·simp only[Cz,CC,C2] at G
    rcases G with rfl|rfl
    ·exact Ne.symm n1
    ·exact Ne.symm n2
 done:=by
  intro X hP hw hK hc i pins s σ H E I Y st hg
  subst hP hw hK
  obtain⟨xs,Z,a5⟩:=hg
  obtain⟨its,rv,p1,hz⟩:=I.list Z
  obtain⟨⟨F,J⟩,h1⟩:=st
  have a7:=rv.length
  have no:its.toArray[i]? = none:=DF (by simp;omega)
  have D:Draws X.prog X.w X.A.in1 it [it,l] i (λ _ _=>False) (λ j h=>j=i/\h.IsListIter it l i/\h.IsList l its.toArray):={
   live:=λ _ _ st=>let ⟨o,ho,_⟩:=st.2.1;⟨o,ho⟩
   frame:=λ _ _ _ st k=>⟨st.1,st.2.1.at λ o q=>k it (by simp) o q,st.2.2.at λ o q=>k l (by simp) o q⟩
   item:=λ j _ _ _ hj st _=>absurd st.1 (CI hj)
   done:=λ _ _ _ st hE=>wpAny_nextOf_list_end (I.ok.hd hc) st.2.1 st.2.2 no hE }
  refine wpAny_pyNext_enum_endD D J ⟨rfl,h1,p1.isList⟩ λ h' hk=>⟨rfl,I.kA (t':=s.toks) (its:=[e,it]) (λ b o G q=>?_) Y⟩
  simp only[Cz,CC,C2,EU] at G
  exact hk b o G.2 q
 self:=λ _ _ _ _ _ st h=>by
  obtain⟨⟨F,J⟩,_⟩:=st
  exact Fw J h
section
variable {prog:Program}{w:World}{A:Around}{E:Value->Shared->Prop}{s:Shared}
theorem kU {T id:String}{x:Value}{r:List Value}{kw:List (Str×Value)}(hl:typeLookup (.type T) "__init__" = pure (some (.builtin "object.__init__"))) (hm:Bind.madeBy (.type T)=pure (some id)) (hne:(some id != some "object.__new__")=true) :
  Meets (Builtin.«object.__init__» ⟨x::r,kw⟩) (λ _ R s=>s.TypeIs x T/\R (.ok (.ret .none)) s):=.of_wp λ _ _ _ _ _ ⟨hT,q⟩=>by
 cases r with
 | nil=>
  cases kw with
  | nil=>exact Cu ⟨_,rfl,q⟩
  | cons a kw=>
   repeat (any_goals (first|assumption|wp_step))
   exact⟨_,rfl,q⟩
 | cons a r=>
  repeat (any_goals (first|assumption|wp_step))
  exact⟨_,rfl,q⟩
theorem mT {T id:String}{Bn:Builtin}{args:List Value}{kw:List (Str×Value)}{S:PySem.Spec}{Q:Value->Shared->Prop}(ft:TypeCalled T id "object.__init__") (hne:(some id != some "object.__new__")=true)
  (c1:checkTypeCall T ⟨args,kw⟩=pure ()) (c2:checkBuiltinCall id ⟨.type T::args,kw⟩=pure ()) (c3:∀ x,argsOk "object.__init__" ⟨x::args,kw⟩) (en:entryFor table id=some Bn) (g:Meets (Bn ⟨.type T::args,kw⟩) S)
  (h:S A.in1 (wants (λ x s=>s.TypeIs x T/\Q x s) E) s):wpAny (model prog w) A (call (.type T) args kw) Q E s:=by
 obtain⟨_,_,hmro⟩:=ft.mro
 have hmade:=ft.made;have hsub:=ft.sub;have h1:=ft.notType;have h2:=ft.canCreate
 refine E4 (Gq (show wpAny _ _ (callAny (.type T) _) _ _ _ from Cu ⟨Code.quiet_builtin _ (by decide +kernel),Du F.entry_type_call ?_⟩))
 rw[Around.under_plain (weight_type_call_type T args kw) (units_type_call_type T args kw)]
 repeat (any_goals (first|assumption|wp_step))
 refine EO (En ft.plain en (DH c2 (g prog w A.in1 _ s h))) λ r s₁ hr=>?_
 match r,hr with
 | .error e,hr=>exact hr
 | .ok (.ret x),hr=>
  have hli:=ft.init.lookup
  have hbi:=ft.init.bind x
  have hT:=hr.1
  repeat (any_goals (first|assumption|wp_step))
  refine EO (En ft.init.plain F.entry_object_init (ft.init.check _ _ _ _ _ _ _ _ hT (c3 x) (kU ft.init.lookup ft.made hne prog w A.in1 (wants (λ r s₂=>r=.none/\Q x s₂) E) s₁ ⟨hT,rfl,hr.2⟩))) λ r₂ s₂ q=>?_
  match r₂,q with
  | .error e,q=>exact q
  | .ok (.ret v),q=>
   obtain⟨rfl,q⟩:=q
   repeat (any_goals (first|assumption|wp_step))
  | .ok .next,q=>exact q.elim
  | .ok .brk,q=>exact q.elim
  | .ok .cont,q=>exact q.elim
 | .ok .next,hr=>exact hr.elim
 | .ok .brk,hr=>exact hr.elim
 | .ok .cont,hr=>exact hr.elim
theorem sY (a b):checkTypeCall "enumerate" ⟨[a],[("start",b)]⟩=pure ():=by kernel_rfl
theorem tG (a b):checkBuiltinCall "enumerate.__new__" ⟨[.type "enumerate",a],[("start",b)]⟩=pure ():=by kernel_rfl
theorem sE (x a b):argsOk "object.__init__" ⟨[x,a],[("start",b)]⟩:=by
 kernel_rfl
set_option maxHeartbeats 2000000 in
theorem pQ (l) (items:Array Value) (n) (tk) (F) (U:Array (Option Value)) :
  Meets (Builtin.«enumerate.__new__» ⟨[.type "enumerate",.ref l],[("start",.int 1 tk)]⟩) (λ _ R s=>s.heap.get? l=some { cls:=.type "list",dict:=F,data:=.seq items n,slots:=U } /\
   R (.ok (.ret (.ref (s.heap.push { cls:=.type "list_iterator",data:=.fields #[.ref l,.int 0 0] }).objs.size))) { s with heap:=(s.heap.push { cls:=.type "list_iterator",data:=.fields #[.ref l,.int 0 0] }).push { cls:=.type "enumerate",data:=.fields #[.none,.bool false,.ref s.heap.objs.size,rawInt 1,.none,.none] } }):=.of_wp λ prog w A R s M=>by
 obtain⟨J,g,d,t,O⟩:=s;obtain⟨j,q⟩:=M
 have G:=sub_enumerate
 have L:Heap.IsList (Shared.heap ⟨J,g,d,t,O⟩) l items:=⟨_,j,rfl,n,rfl⟩
 wp_walk using AutoSeq1.wpAny_loadPart' j
 refine wpAny_stack_any λ st=>Cu ?_
 split
 ·rename_i c _ _ _ _ _
  cases (c == Value.type "enumerate")
  all_goals
   wp_walk using AutoSeq1.wpAny_loadPart' j,EI L
   exact⟨_,rfl,q⟩
 ·wp_walk using AutoSeq1.wpAny_loadPart' j,EI L
  exact⟨_,rfl,q⟩
theorem mU (M:s.heap.IsList l items)
  (h:∀ h',IsEnum h' (s.heap.objs.size+1) s.heap.objs.size 1 .none->h'.IsListIter s.heap.objs.size l 0->(∀ b o,s.heap.get? b=some o->h'.get? b=some o)->Q (.ref (s.heap.objs.size+1)) { s with heap:=h' }) :
  wpAny (model prog w) A (call (.type "enumerate") [.ref l] [("start",.int 1 tk)]) Q E s:=by
 obtain⟨⟨c,j,L,W⟩,V,O,n,U⟩:=M
 obtain rfl:c=.type "list":=O
 obtain rfl:L=.seq items n:=U
 refine mT F.called_enumerate (by decide) (sY _ _) (tG _ _) (λ x=>sE x _ _) F.entry_enumerate_new (pQ l items n tk j W) ⟨V,?_⟩
 have J:(s.heap.push { cls:=.type "list_iterator",data:=.fields #[.ref l,.int 0 0] }).objs.size=s.heap.objs.size+1:=Heap.size_push ..
 generalize G:s.heap.push { cls:=.type "list_iterator",data:=.fields #[.ref l,.int 0 0] }=H1 at J ⊢
 have q:IsEnum (H1.push { cls:=.type "enumerate",data:=.fields #[.none,.bool false,.ref s.heap.objs.size,rawInt 1,.none,.none] }) H1.objs.size s.heap.objs.size 1 .none:=Heap.get?_push_size _ rfl
 show _/\_
 rw[J] at q ⊢
 have it:H1.get? s.heap.objs.size=some { cls:=.type "list_iterator",data:=.fields #[.ref l,.int 0 0] }:=by rw[<- G];exact Heap.get?_push_size _ rfl
 exact⟨⟨_,q,rfl⟩,h _ q ⟨_,Heap.get?_push_of_some _ it,rfl,rfl⟩ λ b o x=>Heap.get?_push_of_some _ (by rw[<- G];exact Heap.get?_push_of_some _ x)⟩
end
section
variable {M:Model}{A:Around}{E:Value->Shared->Prop}{s:Shared}{env:Env}
theorem nJ
  (h:wpAny M A (spliced (backTo pos (starEach [e] env))) (λ vs j=>wpAny M A (evalAll ((backToKw pos (keywordEach kws env)).map (·.2))) (λ ks s₂=>wpAny M A (call (.type T) vs (((backToKw pos (keywordEach kws env)).filterMap (·.1)).zip ks)) Q E s₂) E j) E s)
  (G:starEach [e] env=[(false,eval e env)]) (F:(backToKw pos (keywordEach kws env)).all (·.1.isSome)=true:=by rfl) (J:(backToKw pos (keywordEach kws env)).any (·.1.isNone)=false:=by rfl) :
  wpAny M A (callWith pos (.type T) [] (backTo pos (starEach [e] env)) (backToKw pos (keywordEach kws env))) Q E s:=by
 rw[G] at h ⊢
 have q:=PyProof.Rows.evalArgs_kwB (f:=.type T) (Q:=λ a j=>wpAny M A (call (.type T) ([]++a.pos) a.kw) Q E j) F h
 unfold callWith
 refine Cq (C8 (Dp q (λ a j z=>Cq (Fg ?_)) λ _ _ x=>x))
 rw[J]
 refine Cq (Cu (Cq (Dp z (λ r s₂ y=>Cq (C8 (wpAny_point (Cu y)))) λ _ _ x=>x)))
end
section
variable {X:Cx}{K:PySem.W.Frag}
noncomputable def vN (K:PySem.W.Frag) (ta:TA):TI:=λ σ H R=>ta σ H λ vs H1=>∃ p xs,vs=[.ref p]/\SqL K H1 p xs/\R (Itc K p 1) H1
theorem kT (hg:Gl X "enumerate") (hm:X.mg "enumerate" = none) (ha:PA X [a] ta) (hs:starEach [a] X.env=[(false,eval a X.env)]:=by rfl) (hK:X.K=K:=by rfl) :
  PI X (.Tuple es kk pos') (.Call (.Name "enumerate" p) [a] [⟨some "start",.Constant (.int 1) n kq,kp⟩] pos) (vN K ta):=by
 subst hK
 intro pins s σ H R I h
 refine Ef (eJ I hg hm boot_enumerate (nJ (thn (ha pos pins s σ H _ I h) λ us s1 ⟨vs,H1,Z,r1,J⟩=>?_) hs))
 obtain⟨l,xs,rfl,J,q⟩:=J
 obtain⟨u,rfl,rx⟩:=vals1 r1
 cases rx
 refine thn ((oQ (aN (X:=X)) qw:PK X [⟨some "start",.Constant (.int 1) n kq,kp⟩] _) pos pins s1 σ H1 (λ W H2=>W=[.int 1]/\H2=H1) Z ⟨rfl,rfl⟩) λ ks j ⟨W,H2,F,r2,e1,e2⟩=>?_
 subst e1 e2
 obtain⟨u,rfl,⟨tk,rfl⟩⟩:=vals1 r2
 obtain⟨a1,rv,V,hz⟩:=F.list J
 show wpAny (model X.prog X.w) X.A (call (.type "enumerate") [.ref l] [("start",.int 1 tk)]) _ _ j
 refine mU V.isList λ h' Y z2 G=>Fw Y ?_
 have U:l<j.heap.objs.size:=by obtain⟨_,z,_⟩:=V.isList;exact Heap.lt_size z
 refine⟨_,_,_,Itc X.K l 1,H2,rfl,F.kept (t':=j.toks) G,mx (j.heap.objs.size+1) j.heap.objs.size l 1 (DA (D4 _)) (CI U) (DA (DC U)),⟨⟨_,Y⟩,z2⟩,λ b O=>?_,q⟩
 have L:j.heap.objs.size<=b:=by
  simp only[Cz,CC,C2] at O
  rcases O with rfl|rfl
  ·exact FH _ _
  ·exact Nat.le_refl _
 exact F.kD L (F.hok.fresh L)
end
theorem jX {K:PySem.W.Frag}{l:Addr}{c:Nat}{xs:List V}{g:TG}{tb:TS}{D:Ends}{σ:St}{H:Hp}(Pv:Nat->St->Hp->Prop) (h0:Pv 0 σ H) (hl:∀ i σ H,i<=xs.length->Pv i σ H->SqL K H l xs)
  (hs:∀ i x p σ H,xs[i]? = some x->H p=none->Pv i σ H->g (.ref p) σ (upd H p (.tup [.int ((c+i:Nat):Int),x])) λ σ2 H2=>tb { D with nx:=Pv (i+1),ct:=Pv (i+1),bk:=D.nx } σ2 H2) (hd:∀ σ H,Pv xs.length σ H->D.nx σ H) :
  ∃ W:Nat->Nat->St->Hp->Prop,(∃ m,W 0 m σ H)/\∀ i m σ H,W i m σ H ->
   ((Itc K l c).stop i H/\D.nx σ H)\/((Itc K l c).go i H/\∃ N:St->Hp->Prop,(∀ σ' H',N σ' H'->∃ m',m'<m/\W (i+1) m' σ' H')/\∀ x H',(Itc K l c).yld i H x H'->g x σ H' λ σ2 H2=>tb { D with nx:=N,ct:=N,bk:=D.nx } σ2 H2):=by
 refine⟨λ i m σ H=>m=xs.length-i/\i<=xs.length/\Pv i σ H,⟨xs.length,by simp,Dq _,h0⟩,?_⟩
 rintro i m σ H ⟨rfl,hi,p⟩
 have q:=hl i σ H hi p
 by_cases hlt:i<xs.length
 ·refine .inr ⟨⟨xs,xs[i],q,by simp[hlt]⟩,Pv (i+1),λ σ' H' p'=>⟨xs.length-(i+1),by omega,rfl,hlt,p'⟩,λ v H' y=>?_⟩
  obtain⟨a,x,na,rfl,rfl,y⟩:=y
  exact hs i x a σ H (y xs q) na p
 ·obtain rfl:i=xs.length:=by omega
  exact .inl ⟨⟨xs,q,Nat.le_refl _⟩,hd σ H p⟩
noncomputable def prD (p:Int×Int):PyData:=.tuple [.int p.1,.int p.2]
theorem uv (a b:Int×Int):PyData.eqv (prD a) (prD b)=decide (a=b):=by
 unfold prD
 rw[DV,C9]
 simp[PyData.eqv,PyData.eqvAll,Prod.ext_iff]
theorem nY:∀ ps:List (Int×Int),PyData.canLayAll0 (ps.map prD)=true
 | []=>rfl
 | p::ps=>by
  rw[Dc]
  show (PyData.canLay0 (prD p) && PyData.canLayAll0 (ps.map prD))=true
  rw[nY ps];rfl
theorem oA:∀ ps:List (Int×Int),((ps.map prD).any λ y=>PyData.eqv y (prD p))=decide (p∈ps)
 | []=>rfl
 | a::ps=>by
  rw[Dc,Fh,oA ps,uv,DV,FT,C9,C9,C9,Cz]
  exact⟨λ h=>h.imp Eq.symm id,λ h=>h.imp Eq.symm id⟩
noncomputable def sM (K:PySem.W.Frag):R2:=λ x y H Q=>∃ (b l:Addr) (p:Int×Int) (ps:List (Int×Int)),x=.ref b/\y=.ref l/\Rp K H (.ref b) (prD p)/\Rp K H (.ref l) (.list (ps.map prD))/\Q (.bl (decide (p∉ps))) H
section
variable {X:Cx}{K:PySem.W.Frag}
theorem pD (V:X.A.units+64<cLine) (j:X.K=K:=by rfl):OpR X (compareOp .NotIn) (sM K):=by
 subst j
 intro pins s σ H x y v u Q I O U h
 obtain⟨b,l,p,ps,rfl,rfl,L,J,q⟩:=h
 obtain⟨_,F⟩:=L.reads I O
 obtain⟨_,G⟩:=J.reads I U
 refine SeqAt.notIn_list_reads G F (nY ps) rfl ?_ ⟨.bl _,H,I,rfl,?_⟩
 ·have h1:min (PyData.depthAll (ps.map prD)) (prD p).depth<=(prD p).depth:=Nat.min_le_right _ _
  have h2:(prD p).depth<=3:=by unfold prD;simp[PyData.depth,PyData.depthAll]
  lia
 ·rw[oA,<- decide_not];exact q
end
end L2
namespace B
open PySem L2
noncomputable def top (i:Nat):Stmt:=PySem.Challenge.pw_backline_k51_the_base_only_rises.main.body.getD i (.Pass ⟨0,0,0,0⟩)
noncomputable abbrev zA:Stmt:=top 11
noncomputable abbrev zj:Stmt:=inClass (top 13) 0
noncomputable abbrev z9:Stmt:=top 14
noncomputable abbrev zJ:Stmt:=inClass (top 34) 0
noncomputable abbrev AQ:Stmt:=inClass (top 34) 1
noncomputable abbrev yd:Stmt:=inClass (top 36) 0
noncomputable abbrev AD:Stmt:=inClass (top 37) 0
noncomputable abbrev zh:Stmt:=inClass (top 37) 1
noncomputable abbrev Af:Stmt:=inClass (top 37) 2
noncomputable abbrev BW:Stmt:=inClass (top 15) 0
noncomputable abbrev xl:Stmt:=inClass (top 15) 1
noncomputable abbrev yh:Stmt:=inClass (top 15) 2
noncomputable abbrev Ap:Stmt:=inClass (top 15) 5
noncomputable abbrev BB:Stmt:=inClass (top 15) 6
noncomputable abbrev zi:Stmt:=inClass (top 15) 7
noncomputable abbrev yr:Stmt:=inClass (top 15) 8
noncomputable abbrev xC:Stmt:=inClass (top 15) 3
noncomputable abbrev yw:Stmt:=inClass (top 15) 4
noncomputable abbrev zT:Stmt:=inClass (top 15) 9
noncomputable abbrev yl:Stmt:=inClass (top 15) 10
noncomputable abbrev zB:Stmt:=inClass (top 15) 11
noncomputable abbrev yZ:Stmt:=top 39
noncomputable abbrev xV:Stmt:=top 40
noncomputable abbrev AI:Stmt:=top 17
noncomputable abbrev xo:Stmt:=inClass (top 18) 14
noncomputable abbrev xR:Stmt:=inClass (top 18) 17
noncomputable abbrev xg:Stmt:=inClass (top 18) 15
noncomputable abbrev yo:Stmt:=inClass (top 18) 18
noncomputable abbrev mI:Stmt:=inDef (top 41) 3
noncomputable abbrev za:Stmt:=inClass (top 18) 16
noncomputable abbrev Au:Stmt:=inClass (top 18) 1
noncomputable abbrev xK:Stmt:=inClass (top 18) 2
noncomputable abbrev BU:Stmt:=inClass (top 18) 3
noncomputable abbrev yP:Stmt:=inClass (top 18) 4
noncomputable abbrev Bv:Stmt:=inClass (top 18) 6
noncomputable abbrev BR:Stmt:=inClass (top 18) 7
noncomputable abbrev zY:Stmt:=inClass (top 18) 8
noncomputable abbrev ya:Stmt:=inClass (top 18) 0
noncomputable abbrev y7:Stmt:=top 8
noncomputable abbrev xx:Stmt:=top 9
noncomputable abbrev xn:Stmt:=inClass (top 18) 10
noncomputable abbrev xW:Stmt:=top 20
noncomputable abbrev xZ:Stmt:=inClass (top 21) 0
noncomputable abbrev yV:Stmt:=inClass (top 21) 1
noncomputable abbrev Ay:Stmt:=inClass (top 21) 2
noncomputable abbrev yW:Stmt:=inClass (top 21) 3
noncomputable abbrev xE:Stmt:=inClass (top 21) 4
noncomputable abbrev Aw:Stmt:=top 22
noncomputable abbrev Bb:Stmt:=top 23
noncomputable abbrev Bs:Stmt:=top 24
noncomputable abbrev A7:Stmt:=inClass (top 18) 19
noncomputable abbrev ym:Stmt:=inClass (top 18) 12
noncomputable abbrev zv:Stmt:=inClass (top 18) 13
noncomputable abbrev yM:Stmt:=top 26
noncomputable abbrev AA:Stmt:=inClass (top 28) 0
noncomputable abbrev xM:Stmt:=inClass (top 28) 3
noncomputable abbrev Aa:Stmt:=top 30
noncomputable abbrev y9:Stmt:=top 41
noncomputable abbrev xI:Stmt:=top 42
noncomputable abbrev zf:Stmt:=top 43
noncomputable abbrev zI:Stmt:=top 44
noncomputable abbrev yQ:Stmt:=top 45
noncomputable abbrev zx:Stmt:=top 46
noncomputable abbrev yj:Stmt:=top 47
noncomputable abbrev yH:Stmt:=top 48
noncomputable abbrev uO:Stmt:=top 49
theorem BE:aQ ["value"] ["value"] (aK zA):=⟨rfl,rfl,rfl,by decide +kernel,rfl,by decide +kernel,by decide +kernel⟩
theorem Bu:aQ ["self","used","state","sent","said"] ["self","used","state","sent","said"] (aK zj):=⟨rfl,rfl,rfl,by decide +kernel,rfl,by decide +kernel,by decide +kernel⟩
theorem xA:aQ ["event"] ["event"] (aK z9):=⟨rfl,rfl,rfl,by decide +kernel,rfl,by decide +kernel,by decide +kernel⟩
theorem xr:aQ ["self","down","here"] ["self","down","here"] (aK zJ):=⟨rfl,rfl,rfl,by decide +kernel,rfl,by decide +kernel,by decide +kernel⟩
theorem zC:aQ ["self","down","here"] ["self","down","here"] (aK AQ):=⟨rfl,rfl,rfl,by decide +kernel,rfl,by decide +kernel,by decide +kernel⟩
theorem Bt:aQ ["self","down","here"] ["self","down","here"] (aK yd):=⟨rfl,rfl,rfl,by decide +kernel,rfl,by decide +kernel,by decide +kernel⟩
theorem xk:aQ ["self","size"] ["self","size"] (aK AD):=⟨rfl,rfl,rfl,by decide +kernel,rfl,by decide +kernel,by decide +kernel⟩
theorem Av:aQ ["self","down","here"] ["self","down","here"] (aK zh):=⟨rfl,rfl,rfl,by decide +kernel,rfl,by decide +kernel,by decide +kernel⟩
theorem Br:aQ ["self","down","here"] ["self","down","here"] (aK Af):=⟨rfl,rfl,rfl,by decide +kernel,rfl,by decide +kernel,by decide +kernel⟩
theorem yF:aQ ["self","start","habit"] ["self","start","habit"] (aK BW):=⟨rfl,rfl,rfl,by decide +kernel,rfl,by decide +kernel,by decide +kernel⟩
theorem xD:aQ ["self"] ["self"] (aK xl):=⟨rfl,rfl,rfl,by decide +kernel,rfl,by decide +kernel,by decide +kernel⟩
theorem y8:aQ ["self"] ["self"] (aK yh):=⟨rfl,rfl,rfl,by decide +kernel,rfl,by decide +kernel,by decide +kernel⟩
theorem vd:aQ ["self","written"] ["self"] (aK Ap):=⟨rfl,rfl,rfl,by decide +kernel,rfl,by decide +kernel,by decide +kernel⟩
theorem zd:aQ ["self","place"] ["self","place"] (aK BB):=⟨rfl,rfl,rfl,by decide +kernel,rfl,by decide +kernel,by decide +kernel⟩
theorem B2:aQ ["self","place"] ["self","place"] (aK zi):=⟨rfl,rfl,rfl,by decide +kernel,rfl,by decide +kernel,by decide +kernel⟩
theorem Bg:aQ ["self","place"] ["self","place"] (aK yr):=⟨rfl,rfl,rfl,by decide +kernel,rfl,by decide +kernel,by decide +kernel⟩
theorem AO:aQ ["self","event"] ["self","event"] (aK xC):=⟨rfl,rfl,rfl,by decide +kernel,rfl,by decide +kernel,by decide +kernel⟩
theorem Be:aQ ["self"] ["self"] (aK yw):=⟨rfl,rfl,rfl,by decide +kernel,rfl,by decide +kernel,by decide +kernel⟩
theorem Ax:aQ ["self","place","stands"] ["self","place","stands"] (aK zT):=⟨rfl,rfl,rfl,by decide +kernel,rfl,by decide +kernel,by decide +kernel⟩
theorem AW:aQ ["self","place","stands"] ["self","place","stands"] (aK yl):=⟨rfl,rfl,rfl,by decide +kernel,rfl,by decide +kernel,by decide +kernel⟩
theorem uJ:aQ ["self","place","kept"] ["self","place"] (aK zB):=⟨rfl,rfl,rfl,by decide +kernel,rfl,by decide +kernel,by decide +kernel⟩
theorem z0:aQ ["_law_script","_law_k"] ["_law_script","_law_k"] (aK yZ):=⟨rfl,rfl,rfl,by decide +kernel,rfl,by decide +kernel,by decide +kernel⟩
theorem oE:aQ ["_law_cell","_law_k","_law_number"] ["_law_cell","_law_k"] (aK xV):=⟨rfl,rfl,rfl,by decide +kernel,rfl,by decide +kernel,by decide +kernel⟩
theorem zc:aQ ["value"] ["value"] (aK AI):=⟨rfl,rfl,rfl,by decide +kernel,rfl,by decide +kernel,by decide +kernel⟩
theorem Bi:aQ ["self","hand"] ["self","hand"] (aK xo):=⟨rfl,rfl,rfl,by decide +kernel,rfl,by decide +kernel,by decide +kernel⟩
theorem Bf:aQ ["self","hand","row"] ["self","hand","row"] (aK xR):=⟨rfl,rfl,rfl,by decide +kernel,rfl,by decide +kernel,by decide +kernel⟩
theorem vz:aQ ["self","hand","name","way"] ["self","hand","name"] (aK xg):=⟨rfl,rfl,rfl,by decide +kernel,rfl,by decide +kernel,by decide +kernel⟩
theorem lB:aQ ["self","sender","place","letters","k","letter","name","way"] ["self","sender","place","letters"] (aK yo):=⟨rfl,rfl,rfl,by decide +kernel,rfl,by decide +kernel,by decide +kernel⟩
theorem fQ:iZ ["_law_hand","_law_state","_law_word","_law_heard","_law_new","_law_digit","_law_letters","_law_many","_law_cell","_law_a","_law_b","_law_m"] ["_law_hand","_law_state","_law_word"] ["_law_many","_law_cell","_law_a","_law_b","_law_m"] (aK mI):=⟨rfl,rfl,rfl,by decide +kernel,rfl,rfl,by decide,by decide +kernel,by decide +kernel,by decide +kernel,by decide +kernel⟩
theorem yN:∀ x∈(["_law_many","_law_cell","_law_a","_law_b","_law_m"]:List Str),(aK (top 41)).names.lookup x=some .cell:=by decide +kernel
theorem oK:aQ ["self","hand","name","word","thread","led","event"] ["self","hand","name","word"] (aK za):=⟨rfl,rfl,rfl,by decide +kernel,rfl,by decide +kernel,by decide +kernel⟩
theorem AG:aQ ["self","hand"] ["self","hand"] (aK Au):=⟨rfl,rfl,rfl,by decide +kernel,rfl,by decide +kernel,by decide +kernel⟩
theorem xB:aQ ["self","hand","name"] ["self","hand","name"] (aK xK):=⟨rfl,rfl,rfl,by decide +kernel,rfl,by decide +kernel,by decide +kernel⟩
theorem zX:aQ ["self","hand"] ["self","hand"] (aK BU):=⟨rfl,rfl,rfl,by decide +kernel,rfl,by decide +kernel,by decide +kernel⟩
theorem yU:aQ ["self"] ["self"] (aK yP):=⟨rfl,rfl,rfl,by decide +kernel,rfl,by decide +kernel,by decide +kernel⟩
theorem AL:aQ ["self"] ["self"] (aK Bv):=⟨rfl,rfl,rfl,by decide +kernel,rfl,by decide +kernel,by decide +kernel⟩
theorem zg:aQ ["self"] ["self"] (aK BR):=⟨rfl,rfl,rfl,by decide +kernel,rfl,by decide +kernel,by decide +kernel⟩
theorem B0:aQ ["self"] ["self"] (aK zY):=⟨rfl,rfl,rfl,by decide +kernel,rfl,by decide +kernel,by decide +kernel⟩
theorem ze:aQ ["self","does","starts","habits","ordered"] ["self","does","starts","habits","ordered"] (aK ya):=⟨rfl,rfl,rfl,by decide +kernel,rfl,by decide +kernel,by decide +kernel⟩
theorem Ak:aQ ["line","name"] ["line","name"] (aK y7):=⟨rfl,rfl,rfl,by decide +kernel,rfl,by decide +kernel,by decide +kernel⟩
theorem BM:aQ ["line","user","place"] ["line","user","place"] (aK xx):=⟨rfl,rfl,rfl,by decide +kernel,rfl,by decide +kernel,by decide +kernel⟩
theorem yY:aQ ["self","hand"] ["self","hand"] (aK xn):=⟨rfl,rfl,rfl,by decide +kernel,rfl,by decide +kernel,by decide +kernel⟩
theorem lG:aQ ["loom","fallen","allowed","hand","here","points"] ["loom","fallen"] (aK xW):=⟨rfl,rfl,rfl,by decide +kernel,rfl,by decide +kernel,by decide +kernel⟩
theorem Bj:aQ ["self","loom","fallen"] ["self","loom","fallen"] (aK xZ):=⟨rfl,rfl,rfl,by decide +kernel,rfl,by decide +kernel,by decide +kernel⟩
theorem xS:aQ ["self"] ["self"] (aK yV):=⟨rfl,rfl,rfl,by decide +kernel,rfl,by decide +kernel,by decide +kernel⟩
theorem uH:aQ ["self","name","line"] ["self","name"] (aK Ay):=⟨rfl,rfl,rfl,by decide +kernel,rfl,by decide +kernel,by decide +kernel⟩
theorem xG:aQ ["self","name"] ["self","name"] (aK yW):=⟨rfl,rfl,rfl,by decide +kernel,rfl,by decide +kernel,by decide +kernel⟩
theorem vx:aQ ["self","name","points"] ["self","name"] (aK xE):=⟨rfl,rfl,rfl,by decide +kernel,rfl,by decide +kernel,by decide +kernel⟩
theorem qC:aQ ["loom","used","name"] ["loom"] (aK Aw):=⟨rfl,rfl,rfl,by decide +kernel,rfl,by decide +kernel,by decide +kernel⟩
theorem qB:aQ ["used","line","hand","names"] ["used","line"] (aK Bb):=⟨rfl,rfl,rfl,by decide +kernel,rfl,by decide +kernel,by decide +kernel⟩
theorem i7:aQ ["loom","fallen","descent","used","paper","sender","name"] ["loom","fallen"] (aK Bs):=⟨rfl,rfl,rfl,by decide +kernel,rfl,by decide +kernel,by decide +kernel⟩
theorem gy:aQ ["self","told","events","place","event","hand"] ["self"] (aK A7):=⟨rfl,rfl,rfl,by decide +kernel,rfl,by decide +kernel,by decide +kernel⟩
theorem md:aQ ["self","line","fallen","hand","thread"] ["self","line","fallen"] (aK ym):=⟨rfl,rfl,rfl,by decide +kernel,rfl,by decide +kernel,by decide +kernel⟩
theorem AM:aQ ["self","hand","place"] ["self","hand","place"] (aK zv):=⟨rfl,rfl,rfl,by decide +kernel,rfl,by decide +kernel,by decide +kernel⟩
theorem yC:aQ ["loom"] ["loom"] (aK yM):=⟨rfl,rfl,rfl,by decide +kernel,rfl,by decide +kernel,by decide +kernel⟩
theorem Aq:aQ ["self","loom"] ["self","loom"] (aK AA):=⟨rfl,rfl,rfl,by decide +kernel,rfl,by decide +kernel,by decide +kernel⟩
theorem rp:aQ ["self","hand","place"] ["self"] (aK xM):=⟨rfl,rfl,rfl,by decide +kernel,rfl,by decide +kernel,by decide +kernel⟩
theorem vy:aQ ["loom","fallen","found"] ["loom","fallen"] (aK Aa):=⟨rfl,rfl,rfl,by decide +kernel,rfl,by decide +kernel,by decide +kernel⟩
theorem mv:aQ ["_law_many","_law_cell","_law_a","_law_b","_law_m","_law_does"] ["_law_many","_law_cell"] (aK y9):=⟨rfl,rfl,rfl,by decide +kernel,rfl,by decide +kernel,by decide +kernel⟩
theorem oC:aQ ["_law_many","_law_cell","_law_found","_law_hand","_law_number"] ["_law_many","_law_cell"] (aK xI):=⟨rfl,rfl,rfl,by decide +kernel,rfl,by decide +kernel,by decide +kernel⟩
theorem lz:aQ ["_law_script","_law_cell","_law_many","_law_starts","_law_habits_here"] ["_law_script"] (aK zf):=⟨rfl,rfl,rfl,by decide +kernel,rfl,by decide +kernel,by decide +kernel⟩
theorem jn:aQ ["_law_loom_here","_law_sent","_law_found","_law_ways","_law_name","_law_way","_law_hands"] ["_law_loom_here"] (aK zI):=⟨rfl,rfl,rfl,by decide +kernel,rfl,by decide +kernel,by decide +kernel⟩
theorem zM:aQ ["_law_loom_here","_law_row"] ["_law_loom_here","_law_row"] (aK yQ):=⟨rfl,rfl,rfl,by decide +kernel,rfl,by decide +kernel,by decide +kernel⟩
theorem xT:aQ ["_law_many","_law_number"] ["_law_many","_law_number"] (aK zx):=⟨rfl,rfl,rfl,by decide +kernel,rfl,by decide +kernel,by decide +kernel⟩
theorem zQ:aQ ["_law_line","_law_base"] ["_law_line","_law_base"] (aK yj):=⟨rfl,rfl,rfl,by decide +kernel,rfl,by decide +kernel,by decide +kernel⟩
theorem qD:aQ ["_law_loom_here","_law_base","_law_number","_law_due","_law_hand"] ["_law_loom_here","_law_base","_law_number"] (aK yH):=⟨rfl,rfl,rfl,by decide +kernel,rfl,by decide +kernel,by decide +kernel⟩
theorem eB:aQ ["_law_script","_law_loom_here","_law_keeper","_law_last","_law_k","_law_number","_law_options_here","_law_base"] ["_law_script"] (aK uO):=⟨rfl,rfl,rfl,by decide +kernel,rfl,by decide +kernel,by decide +kernel⟩
theorem vi:bootBuiltins "all" = some (.builtin "all"):=by decide +kernel
theorem wc:bootBuiltins "bool" = some (.type "bool"):=by decide +kernel
theorem sA:bootBuiltins "dict" = some (.type "dict"):=by decide +kernel
theorem AK:bootBuiltins "int" = some (.type "int"):=by decide +kernel
theorem da:bootBuiltins "isinstance" = some (.builtin "isinstance"):=by decide +kernel
theorem jJ:bootBuiltins "len" = some (.builtin "len"):=by decide +kernel
theorem gO:bootBuiltins "list" = some (.type "list"):=by decide +kernel
theorem Ba:bootBuiltins "max" = some (.builtin "max"):=by decide +kernel
theorem uS:bootBuiltins "min" = some (.builtin "min"):=by decide +kernel
theorem ir:bootBuiltins "range" = some (.type "range"):=by decide +kernel
theorem uK:bootBuiltins "set" = some (.type "set"):=by decide +kernel
theorem je:bootBuiltins "sorted" = some (.builtin "sorted"):=by decide +kernel
theorem nW:bootBuiltins "tuple" = some (.type "tuple"):=by decide +kernel
noncomputable def Ao (K:W.Frag) (c p:Addr):Prop:=∃ oq oe vq sq,K.lookup c=some ⟨oq,oe,.fields vq,sq⟩/\vq[11]? = some (.ref p)
set_option genInjectivity false in
set_option genSizeOf false in
structure Adr where
 c_Bundle:Addr
 c_Descent:Addr
 c_Each:Addr
 c_Event:Addr
 c_Keeper:Addr
 c_Loom:Addr
 c_Never:Addr
 c_NoPoint:Addr
 c_NoSize:Addr
 c_Thread:Addr
 f_az:Addr
 f_ba:Addr
 f_dg:Addr
 f_co:Addr
 f_dm:Addr
 f_ca:Addr
 f_cb:Addr
 f_bd:Addr
 f_cx:Addr
 f_bi:Addr
 f_be:Addr
 f_ax:Addr
 f_ap:Addr
 f_aq:Addr
 f_ay:Addr
 f_cp:Addr
 f_ah:Addr
 f_dn:Addr
 f_da:Addr
 f_dh:Addr
 f_dj:Addr
 f_cr:Addr
 f_cc:Addr
 f_cz:Addr
 f_aj:Addr
 f_ak:Addr
 f_cd:Addr
 f_cs:Addr
 f_ao:Addr
 f_ar:Addr
 f_bk:Addr
 f_bn:Addr
 f_bf:Addr
 f_cy:Addr
 f_af:Addr
 f_bb:Addr
 f_bo:Addr
 f_as:Addr
 f_ad:Addr
 f_am:Addr
 f_bp:Addr
 f_bq:Addr
 f_an:Addr
 f_bg:Addr
 f_dp:Addr
 f_ce:Addr
 f_br:Addr
 f_dq:Addr
 f_ag:Addr
 f_ac:Addr
 f_ai:Addr
 f_bz:Addr
 f_ae:Addr
 f_aa:Addr
 f_bj:Addr
 f_cq:Addr
 f_bs:Addr
 f_cf:Addr
 f_db:Addr
 f_bt:Addr
 f_dk:Addr
 f_dc:Addr
 f_al:Addr
 f_au:Addr
 f_law:Addr
 cd_bs:Addr
 tb_bs:Addr
 ts:List Addr
 fd_dg:FuncData
 fd_co:FuncData
 fd_dm:FuncData
 fd_ag:FuncData
 fd_ac:FuncData
 fd_ai:FuncData
 fd_bz:FuncData
 fd_ae:FuncData
 fd_aa:FuncData
 fd_ca:FuncData
 fd_cb:FuncData
 fd_bd:FuncData
 fd_be:FuncData
 fd_ax:FuncData
 fd_ap:FuncData
 fd_aq:FuncData
 fd_cx:FuncData
 fd_bi:FuncData
 fd_ay:FuncData
 fd_cp:FuncData
 fd_ah:FuncData
 fd_bj:FuncData
 fd_cq:FuncData
 fd_dn:FuncData
 fd_ar:FuncData
 fd_bf:FuncData
 fd_bk:FuncData
 fd_cy:FuncData
 fd_bn:FuncData
 fd_dh:FuncData
 fd_dj:FuncData
 fd_cr:FuncData
 fd_cc:FuncData
 fd_cz:FuncData
 fd_aj:FuncData
 fd_ak:FuncData
 fd_da:FuncData
 fd_az:FuncData
 fd_ba:FuncData
 fd_cd:FuncData
 fd_bb:FuncData
 fd_bo:FuncData
 fd_as:FuncData
 fd_ad:FuncData
 fd_am:FuncData
 fd_bp:FuncData
 fd_bq:FuncData
 fd_an:FuncData
 fd_bg:FuncData
 fd_af:FuncData
 fd_cs:FuncData
 fd_ao:FuncData
 fd_dp:FuncData
 fd_ce:FuncData
 fd_br:FuncData
 fd_dq:FuncData
 fd_bs:FuncData
 fd_cf:FuncData
 fd_db:FuncData
 fd_bt:FuncData
 fd_dk:FuncData
 fd_dc:FuncData
 fd_al:FuncData
 fd_au:FuncData
 fd_law:FuncData
set_option genInjectivity false in
set_option genSizeOf false in
structure Txt (K:W.Frag) (mg:Str->Option Value) (t:Adr):Prop where
 no_isinstance:mg "isinstance" = none
 no_bool:mg "bool" = none
 no_int:mg "int" = none
 na_cv:bA K t.c_Event "used"
 cl_Event:Cls K t.c_Event
 na_ch:bA K t.c_Event "state"
 na_cu:bA K t.c_Event "sent"
 no_tuple:mg "tuple" = none
 na_ct:bA K t.c_Event "said"
 no_list:mg "list" = none
 mk_Event:Mk K t.c_Event t.f_co
 mg_Event:mg "Event" = some (.ref t.c_Event)
 b_co:Binds K t.fd_co ["self","used","state","sent","said"] []
 mg_dg:mg "is_whole" = some (.ref t.f_dg)
 kp_dg:W.keepIn K (.ref t.f_dg)=true
 b_dg:Binds K t.fd_dg ["value"] []
 mv_SMALLEST_SIZE:∃ t,mg "SMALLEST_SIZE" = some (.int 1 t)
 mv_GREATEST_SIZE:∃ t,mg "GREATEST_SIZE" = some (.int 20 t)
 mg_NoSize:mg "NoSize" = some (.ref t.c_NoSize)
 ex_NoSize:tV K t.c_NoSize
 na_cg:bA K t.c_Bundle "size"
 cl_Bundle:Cls K t.c_Bundle
 na_bw:bA K t.c_Thread "first"
 cl_Thread:Cls K t.c_Thread
 na_bx:bA K t.c_Thread "habit"
 na_cm:bA K t.c_Thread "done"
 na_aw:bA K t.c_Thread "writings"
 na_cn:bA K t.c_Thread "down"
 no_len:mg "len" = none
 mg_dm:mg "copy_of" = some (.ref t.f_dm)
 kp_dm:W.keepIn K (.ref t.f_dm)=true
 b_dm:Binds K t.fd_dm ["event"] []
 no_range:mg "range" = none
 no_sorted:mg "sorted" = none
 no_set:mg "set" = none
 me_cb:Meth K t.c_Thread "here" t.f_cb
 b_cb:Binds K t.fd_cb ["self"] []
 me_ax:Meth K t.c_Thread "is_here" t.f_ax
 b_ax:Binds K t.fd_ax ["self","place"] []
 me_ap:Meth K t.c_Thread "is_point" t.f_ap
 b_ap:Binds K t.fd_ap ["self","place"] []
 mg_NoPoint:mg "NoPoint" = some (.ref t.c_NoPoint)
 ex_NoPoint:tV K t.c_NoPoint
 me_ae:Meth K t.c_Bundle "down_by_deed" t.f_ae
 b_ae:Binds K t.fd_ae ["self","down","here"] []
 cl_Each:Cls K t.c_Each
 me_ai:Meth K t.c_Each "down_by_deed" t.f_ai
 b_ai:Binds K t.fd_ai ["self","down","here"] []
 cl_Never:Cls K t.c_Never
 me_Never_down_by_deed:Meth K t.c_Never "down_by_deed" t.f_ag
 b_ag:Binds K t.fd_ag ["self","down","here"] []
 me_aa:Meth K t.c_Bundle "down_by_writing" t.f_aa
 b_aa:Binds K t.fd_aa ["self","down","here"] []
 me_Each_down_by_writing:Meth K t.c_Each "down_by_writing" t.f_ac
 b_ac:Binds K t.fd_ac ["self","down","here"] []
 me_Never_down_by_writing:Meth K t.c_Never "down_by_writing" t.f_ac
 me_ay:Meth K t.c_Thread "can_cut" t.f_ay
 b_ay:Binds K t.fd_ay ["self","place","stands"] []
 no_min:mg "min" = none
 no_max:mg "max" = none
 no_all:mg "all" = none
 na_de:bA K t.c_Loom "many"
 cl_Loom:Cls K t.c_Loom
 na_bv:bA K t.c_Loom "threads"
 na_dl:bA K t.c_Loom "log"
 mg_dn:mg "is_name" = some (.ref t.f_dn)
 kp_dn:W.keepIn K (.ref t.f_dn)=true
 b_dn:Binds K t.fd_dn ["value"] []
 na_df:bA K t.c_Loom "ways"
 na_bu:bA K t.c_Loom "ordered"
 no_enumerate:mg "enumerate" = none
 na_cl:bA K t.c_Loom "posted"
 na_cw:bA K t.c_Loom "taken"
 mg_cq:mg "_law_mixed" = some (.ref t.f_cq)
 kp_cq:W.keepIn K (.ref t.f_cq)=true
 b_cq:Binds K t.fd_cq ["_law_cell","_law_k"] []
 na_dd:bA K t.c_Loom "does"
 me_aq:Meth K t.c_Thread "state_at" t.f_aq
 b_aq:Binds K t.fd_aq ["self","place"] []
 me_cx:Meth K t.c_Thread "do" t.f_cx
 b_cx:Binds K t.fd_cx ["self","event"] []
 me_cy:Meth K t.c_Loom "post" t.f_cy
 b_cy:Binds K t.fd_cy ["self","sender","place","letters"] []
 me_ar:Meth K t.c_Loom "check_hand" t.f_ar
 b_ar:Binds K t.fd_ar ["self","hand"] []
 me_bn:Meth K t.c_Loom "do_deed" t.f_bn
 b_bn:Binds K t.fd_bn ["self","hand","name","word"] []
 me_bf:Meth K t.c_Loom "note_row" t.f_bf
 b_bf:Binds K t.fd_bf ["self","hand","row"] []
 me_bk:Meth K t.c_Loom "may_use" t.f_bk
 b_bk:Binds K t.fd_bk ["self","hand","name"] []
 me_bi:Meth K t.c_Thread "write" t.f_bi
 b_bi:Binds K t.fd_bi ["self"] []
 no_dict:mg "dict" = none
 no_zip:mg "zip" = none
 mk_Thread:Mk K t.c_Thread t.f_ca
 mg_Thread:mg "Thread" = some (.ref t.c_Thread)
 b_ca:Binds K t.fd_ca ["self","start","habit"] []
 me_be:Meth K t.c_Thread "points" t.f_be
 b_be:Binds K t.fd_be ["self"] []
 me_cc:Meth K t.c_Loom "places" t.f_cc
 b_cc:Binds K t.fd_cc ["self"] []
 me_cd:Meth K t.c_Loom "points" t.f_cd
 b_cd:Binds K t.fd_cd ["self","hand"] []
 na_bc:bA K t.c_Descent "posted"
 cl_Descent:Cls K t.c_Descent
 me_aj:Meth K t.c_Loom "letters_sent" t.f_aj
 b_aj:Binds K t.fd_aj ["self"] []
 na_bh:bA K t.c_Descent "taken"
 me_ak:Meth K t.c_Loom "letters_used" t.f_ak
 b_ak:Binds K t.fd_ak ["self"] []
 na_av:bA K t.c_Descent "allowed"
 mg_bb:mg "allowed_points" = some (.ref t.f_bb)
 kp_bb:W.keepIn K (.ref t.f_bb)=true
 b_bb:Binds K t.fd_bb ["loom","fallen"] []
 me_as:Meth K t.c_Descent "reached" t.f_as
 b_as:Binds K t.fd_as ["self"] []
 mg_az:mg "is_sent_within" = some (.ref t.f_az)
 kp_az:W.keepIn K (.ref t.f_az)=true
 b_az:Binds K t.fd_az ["line","name"] []
 mg_ba:mg "is_used_within" = some (.ref t.f_ba)
 kp_ba:W.keepIn K (.ref t.f_ba)=true
 b_ba:Binds K t.fd_ba ["line","user","place"] []
 mk_Descent:Mk K t.c_Descent t.f_bo
 mg_Descent:mg "Descent" = some (.ref t.c_Descent)
 b_bo:Binds K t.fd_bo ["self","loom","fallen"] []
 mg_bq:mg "used_of_each" = some (.ref t.f_bq)
 kp_bq:W.keepIn K (.ref t.f_bq)=true
 b_bq:Binds K t.fd_bq ["loom"] []
 mg_an:mg "sender_gone_back" = some (.ref t.f_an)
 kp_an:W.keepIn K (.ref t.f_an)=true
 b_an:Binds K t.fd_an ["used","line"] []
 me_ad:Meth K t.c_Descent "is_broken_by" t.f_ad
 b_ad:Binds K t.fd_ad ["self","name"] []
 me_am:Meth K t.c_Descent "can_step" t.f_am
 b_am:Binds K t.fd_am ["self","name"] []
 me_bp:Meth K t.c_Descent "step" t.f_bp
 b_bp:Binds K t.fd_bp ["self","name"] []
 me_bd:Meth K t.c_Thread "events" t.f_bd
 b_bd:Binds K t.fd_bd ["self"] []
 me_cp:Meth K t.c_Thread "cut" t.f_cp
 b_cp:Binds K t.fd_cp ["self","place","stands"] []
 me_af:Meth K t.c_Loom "reckon_letters" t.f_af
 b_af:Binds K t.fd_af ["self"] []
 me_ah:Meth K t.c_Thread "throw_ahead" t.f_ah
 b_ah:Binds K t.fd_ah ["self","place"] []
 mg_bg:mg "greatest_line" = some (.ref t.f_bg)
 kp_bg:W.keepIn K (.ref t.f_bg)=true
 b_bg:Binds K t.fd_bg ["loom","fallen"] []
 na_cj:bA K t.c_Keeper "loom"
 cl_Keeper:Cls K t.c_Keeper
 na_ck:bA K t.c_Keeper "told"
 na_ci:bA K t.c_Keeper "ends"
 mg_dp:mg "base_of" = some (.ref t.f_dp)
 kp_dp:W.keepIn K (.ref t.f_dp)=true
 b_dp:Binds K t.fd_dp ["loom"] []
 me_ao:Meth K t.c_Loom "throw_ahead" t.f_ao
 b_ao:Binds K t.fd_ao ["self","hand","place"] []
 me_cs:Meth K t.c_Loom "go_to" t.f_cs
 b_cs:Binds K t.fd_cs ["self","line","fallen"] []
 mk_Bundle:Mk K t.c_Bundle t.f_bz
 mg_Bundle:mg "Bundle" = some (.ref t.c_Bundle)
 b_bz:Binds K t.fd_bz ["self","size"] []
 mk_Each:MkO K t.c_Each
 mg_Each:mg "Each" = some (.ref t.c_Each)
 mk_Never:MkO K t.c_Never
 mg_Never:mg "Never" = some (.ref t.c_Never)
 mg_bj:mg "_law_cell_at" = some (.ref t.f_bj)
 kp_bj:W.keepIn K (.ref t.f_bj)=true
 b_bj:Binds K t.fd_bj ["_law_script","_law_k"] []
 mg_cf:mg "_law_habits" = some (.ref t.f_cf)
 kp_cf:W.keepIn K (.ref t.f_cf)=true
 b_cf:Binds K t.fd_cf ["_law_many","_law_cell"] []
 mg_bs:mg "_law_program" = some (.ref t.f_bs)
 kp_bs:W.keepIn K (.ref t.f_bs)=true
 b_bs:Binds K t.fd_bs ["_law_many","_law_cell"] []
 mk_Loom:Mk K t.c_Loom t.f_da
 mg_Loom:mg "Loom" = some (.ref t.c_Loom)
 b_da:Binds K t.fd_da ["self","does","starts","habits","ordered"] []
 me_cz:Meth K t.c_Loom "road" t.f_cz
 b_cz:Binds K t.fd_cz ["self"] []
 me_dh:Meth K t.c_Loom "own" t.f_dh
 b_dh:Binds K t.fd_dh ["self","hand"] []
 me_dj:Meth K t.c_Loom "use" t.f_dj
 b_dj:Binds K t.fd_dj ["self","hand","name"] []
 me_cr:Meth K t.c_Loom "write" t.f_cr
 b_cr:Binds K t.fd_cr ["self","hand"] []
 mg_dc:mg "_law_some" = some (.ref t.f_dc)
 kp_dc:W.keepIn K (.ref t.f_dc)=true
 b_dc:Binds K t.fd_dc ["_law_many","_law_number"] []
 mg_al:mg "_law_at_or_beyond" = some (.ref t.f_al)
 kp_al:W.keepIn K (.ref t.f_al)=true
 b_al:Binds K t.fd_al ["_law_line","_law_base"] []
 mg_db:mg "_law_loom" = some (.ref t.f_db)
 kp_db:W.keepIn K (.ref t.f_db)=true
 b_db:Binds K t.fd_db ["_law_script"] []
 mk_Keeper:Mk K t.c_Keeper t.f_ce
 mg_Keeper:mg "Keeper" = some (.ref t.c_Keeper)
 b_ce:Binds K t.fd_ce ["self","loom"] []
 mg_dq:mg "fall" = some (.ref t.f_dq)
 kp_dq:W.keepIn K (.ref t.f_dq)=true
 b_dq:Binds K t.fd_dq ["loom","fallen"] []
 me_br:Meth K t.c_Keeper "throw" t.f_br
 b_br:Binds K t.fd_br ["self"] []
 mg_bt:mg "_law_options" = some (.ref t.f_bt)
 kp_bt:W.keepIn K (.ref t.f_bt)=true
 b_bt:Binds K t.fd_bt ["_law_loom_here"] []
 mg_dk:mg "_law_act" = some (.ref t.f_dk)
 kp_dk:W.keepIn K (.ref t.f_dk)=true
 b_dk:Binds K t.fd_dk ["_law_loom_here","_law_row"] []
 mg_au:mg "_law_base_right" = some (.ref t.f_au)
 kp_au:W.keepIn K (.ref t.f_au)=true
 b_au:Binds K t.fd_au ["_law_loom_here","_law_base","_law_number"] []
 F_dg:Fun K "is_whole" "is_whole" zA t.f_dg t.fd_dg
 F_co:Fun K "__init__" "Event.__init__" zj t.f_co t.fd_co
 F_dm:Fun K "copy_of" "copy_of" z9 t.f_dm t.fd_dm
 F_ag:Fun K "down_by_deed" "Habit.down_by_deed" zJ t.f_ag t.fd_ag
 F_ac:Fun K "down_by_writing" "Habit.down_by_writing" AQ t.f_ac t.fd_ac
 F_ai:Fun K "down_by_deed" "Each.down_by_deed" yd t.f_ai t.fd_ai
 F_bz:Fun K "__init__" "Bundle.__init__" AD t.f_bz t.fd_bz
 F_ae:Fun K "down_by_deed" "Bundle.down_by_deed" zh t.f_ae t.fd_ae
 F_aa:Fun K "down_by_writing" "Bundle.down_by_writing" Af t.f_aa t.fd_aa
 F_ca:Fun K "__init__" "Thread.__init__" BW t.f_ca t.fd_ca
 F_cb:Fun K "here" "Thread.here" xl t.f_cb t.fd_cb
 F_bd:Fun K "events" "Thread.events" yh t.f_bd t.fd_bd
 F_be:Fun K "points" "Thread.points" Ap t.f_be t.fd_be
 F_ax:Fun K "is_here" "Thread.is_here" BB t.f_ax t.fd_ax
 F_ap:Fun K "is_point" "Thread.is_point" zi t.f_ap t.fd_ap
 F_aq:Fun K "state_at" "Thread.state_at" yr t.f_aq t.fd_aq
 F_cx:Fun K "do" "Thread.do" xC t.f_cx t.fd_cx
 F_bi:Fun K "write" "Thread.write" yw t.f_bi t.fd_bi
 F_ay:Fun K "can_cut" "Thread.can_cut" zT t.f_ay t.fd_ay
 F_cp:Fun K "cut" "Thread.cut" yl t.f_cp t.fd_cp
 F_ah:Fun K "throw_ahead" "Thread.throw_ahead" zB t.f_ah t.fd_ah
 F_bj:Fun K "_law_cell_at" "_law_cell_at" yZ t.f_bj t.fd_bj
 F_cq:Fun K "_law_mixed" "_law_mixed" xV t.f_cq t.fd_cq
 F_dn:Fun K "is_name" "is_name" AI t.f_dn t.fd_dn
 F_ar:Fun K "check_hand" "Loom.check_hand" xo t.f_ar t.fd_ar
 F_bf:Fun K "note_row" "Loom.note_row" xR t.f_bf t.fd_bf
 F_bk:Fun K "may_use" "Loom.may_use" xg t.f_bk t.fd_bk
 F_cy:Fun K "post" "Loom.post" yo t.f_cy t.fd_cy
 F_bn:Fun K "do_deed" "Loom.do_deed" za t.f_bn t.fd_bn
 F_dh:Fun K "own" "Loom.own" Au t.f_dh t.fd_dh
 F_dj:Fun K "use" "Loom.use" xK t.f_dj t.fd_dj
 F_cr:Fun K "write" "Loom.write" BU t.f_cr t.fd_cr
 F_cc:Fun K "places" "Loom.places" yP t.f_cc t.fd_cc
 F_cz:Fun K "road" "Loom.road" Bv t.f_cz t.fd_cz
 F_aj:Fun K "letters_sent" "Loom.letters_sent" BR t.f_aj t.fd_aj
 F_ak:Fun K "letters_used" "Loom.letters_used" zY t.f_ak t.fd_ak
 F_da:Fun K "__init__" "Loom.__init__" ya t.f_da t.fd_da
 F_az:Fun K "is_sent_within" "is_sent_within" y7 t.f_az t.fd_az
 F_ba:Fun K "is_used_within" "is_used_within" xx t.f_ba t.fd_ba
 F_cd:Fun K "points" "Loom.points" xn t.f_cd t.fd_cd
 F_bb:Fun K "allowed_points" "allowed_points" xW t.f_bb t.fd_bb
 F_bo:Fun K "__init__" "Descent.__init__" xZ t.f_bo t.fd_bo
 F_as:Fun K "reached" "Descent.reached" yV t.f_as t.fd_as
 F_ad:Fun K "is_broken_by" "Descent.is_broken_by" Ay t.f_ad t.fd_ad
 F_am:Fun K "can_step" "Descent.can_step" yW t.f_am t.fd_am
 F_bp:Fun K "step" "Descent.step" xE t.f_bp t.fd_bp
 F_bq:Fun K "used_of_each" "used_of_each" Aw t.f_bq t.fd_bq
 F_an:Fun K "sender_gone_back" "sender_gone_back" Bb t.f_an t.fd_an
 F_bg:Fun K "greatest_line" "greatest_line" Bs t.f_bg t.fd_bg
 F_af:Fun K "reckon_letters" "Loom.reckon_letters" A7 t.f_af t.fd_af
 F_cs:Fun K "go_to" "Loom.go_to" ym t.f_cs t.fd_cs
 F_ao:Fun K "throw_ahead" "Loom.throw_ahead" zv t.f_ao t.fd_ao
 F_dp:Fun K "base_of" "base_of" yM t.f_dp t.fd_dp
 F_ce:Fun K "__init__" "Keeper.__init__" AA t.f_ce t.fd_ce
 F_br:Fun K "throw" "Keeper.throw" xM t.f_br t.fd_br
 F_dq:Fun K "fall" "fall" Aa t.f_dq t.fd_dq
 F_bs:Fun K "_law_program" "_law_program" y9 t.f_bs t.fd_bs
 F_cf:Fun K "_law_habits" "_law_habits" xI t.f_cf t.fd_cf
 F_db:Fun K "_law_loom" "_law_loom" zf t.f_db t.fd_db
 F_bt:Fun K "_law_options" "_law_options" zI t.f_bt t.fd_bt
 F_dk:Fun K "_law_act" "_law_act" yQ t.f_dk t.fd_dk
 F_dc:Fun K "_law_some" "_law_some" zx t.f_dc t.fd_dc
 F_al:Fun K "_law_at_or_beyond" "_law_at_or_beyond" yj t.f_al t.fd_al
 F_au:Fun K "_law_base_right" "_law_base_right" yH t.f_au t.fd_au
 F_law:Fun K "law" "law" uO t.f_law t.fd_law
 b_law:Binds K t.fd_law ["_law_script"] []
 tab_bs:W.codeHdIn K t.cd_bs t.tb_bs=true
 tn_bs:K.lookup t.tb_bs=none
 tin_bs:t.tb_bs∈t.ts
 cde_bs:t.fd_bs.code=.ref t.cd_bs
 tall:∀ P∈t.ts,P∈[t.tb_bs]
 ik_Bundle:sZ K t.c_Bundle
 ik_Each:sZ K t.c_Each
 ik_Event:sZ K t.c_Event
 ik_Never:sZ K t.c_Never
 ke_b:W.kitOne K (.ref t.c_Bundle) (.ref t.c_Each)=some false
 ke_n:W.kitOne K (.ref t.c_Never) (.ref t.c_Each)=some false
 ki_b:W.kitOne K (.type "int") (.type "bool")=some false
 xk_NoPoint:mW K t.c_NoPoint
 tq_bs:Ao K t.cd_bs t.tb_bs
structure vK (mg:Str->Option Value) (base:Heap) (t:Adr):Prop where
 tb_bs:Tab mg base t.cd_bs t.tb_bs
section
variable {P:Program}{w:World}{K:W.Frag}{mg:Str->Option Value}{base:Heap}{t:Adr}
variable {ts:List Addr}
theorem sq (h:∀ r,r=b->qg a r D σ H):qg a b D σ H:=h b rfl
theorem sn (e:r=qg a b) (h:∀ r,r=b->qg a r D σ H):r D σ H:=by subst e;exact h b rfl
noncomputable def Bz:Sp:=λ vs H Q _=>∃ i,vs=[.int i]/\Q (.bl true) H
theorem kQ (T:Txt K mg t):bq P w K mg base (CXr P w) 1 t.f_dg t.fd_dg ["value"] Bz:=by
 refine T.F_dg.okN BE (λ vs H Q E h=>?_) (λ j A outer s H vs Q E q h=>?_)
 ·obtain⟨i,rfl,_⟩:=h;rfl
 ·obtain⟨i,rfl,k⟩:=h
  refine⟨_,(aI (aW (ko (bI (cZ (K:=K)) rfl T.no_isinstance da (aJ (pv 0) (aJ (iz (v:=.ty "int") rfl T.no_int AK rfl) aG))) (jc (mQ (bI (cZ (K:=K)) rfl T.no_isinstance da (aJ (pv 0) (aJ (iz (v:=.ty "bool") rfl T.no_bool wc rfl) aG)))))))),?_⟩
  refine⟨_,rfl,_,_,.plain (.int i),eP _ _,_,rfl,cX ?_⟩
  exact⟨_,rfl,_,_,.plain (.int i),T.ki_b,_,rfl,k⟩
theorem fM {H:Hp}{p a C dx:Addr}{fs fs':List (Str×V)}{xs:List V}(hp:H p=some (.ins C dx fs)) (h:SqL K H a xs):SqL K (upd H p (.ins C dx fs')) a xs:=by
 rcases h with (h|⟨o,h⟩)|h
 ·exact .inl (.inl (by rw[aE (cU h hp (by simp))];exact h))
 ·exact .inl (.inr ⟨o,by rw[aE (cU h hp (by simp))];exact h⟩)
 ·exact .inr h
theorem tD {H:Hp}{p a C dx:Addr}{fs fs':List (Str×V)}{xs:List V}(hp:H p=some (.ins C dx fs)) (h:SqT K H a xs):SqT K (upd H p (.ins C dx fs')) a xs:=by
 rcases h with (h|⟨o,h⟩)|h
 ·exact .inl (.inl (by rw[aE (cU h hp (by simp))];exact h))
 ·exact .inl (.inr ⟨o,by rw[aE (cU h hp (by simp))];exact h⟩)
 ·exact .inr h
theorem dB (h:fs.length<=n) (j:n<999):(aP f v fs).length<1000:=by
 have:=bG f v fs
 lia
noncomputable def evF (v:V) (st:Int) (l1 l2:Addr):List (Str×V):=aP "said" (.ref l2) (aP "sent" (.ref l1) (aP "state" (.int st) (aP "used" v [])))
noncomputable def xQ (K:W.Frag) (t:Adr):Sp:=λ vs H Q _=>∃ p dx v st a b xs ys,vs=[.ref p,v,.int st,.ref a,.ref b]/\H p=some (.ins t.c_Event dx [])/\SqL K H a xs/\xs.length<=1000/\(∀ x∈xs,∃ q zs,x=.ref q/\SqT K H q zs)/\SqL K H b ys /\
 ∀ l1 l2 H',H l1=none->H l2=none->l1≠l2->(∀ c,H' c=if c=p then some (.ins t.c_Event dx (evF v st l1 l2)) else if c=l1 then some (.lst xs) else if c=l2 then some (.lst ys) else H c)->Q .non H'
theorem va (T:Txt K mg t):bq P w K mg base (CXr P w) 1 t.f_co t.fd_co ["self","used","state","sent","said"] (xQ K t):=by
 refine T.F_co.okN Bu (λ vs H Q E h=>?_) (λ a4 A outer s H vs Q E hr h=>?_)
 ·obtain⟨p,dx,v,st,a,b,xs,ys,rfl,_⟩:=h;rfl
 ·obtain⟨p,dx,v,st,a,b,xs,ys,rfl,hp,ha,a3,hx,hb,k⟩:=h
  refine⟨_,(aH (bg (K:=K) (pv 0) (pv 1) rfl)
   (aH (bg (K:=K) (pv 0) (pv 2) rfl)
   (aH (bg (K:=K) (pv 0) (bR ["self","used","state","sent","said","letter"] 1 rfl (bP (K:=K) (pv 3)) (λ _ _ _ _ _=>⟨(aR (i:=5) (show List.Nodup (["self","used","state","sent","said","letter"]:List Str) from by decide +kernel) rfl (Or.inl rfl)),bX,(bJ (lC (K:=K)) rfl T.no_tuple nW (aJ (pv 5) aG))⟩)) rfl)
   (aI (bg (K:=K) (pv 0) (bJ (my (K:=K)) rfl T.no_list gO (aJ (pv 4) aG)) rfl))))),?_⟩
  refine⟨_,rfl,_,rfl,p,_,dx,_,rfl,hp,T.cl_Event,T.na_cv,by decide,?_⟩
  refine⟨_,rfl,_,rfl,p,_,dx,_,rfl,aD,T.cl_Event,T.na_ch,dB (n:=0) (Nat.le_refl _) (by decide),?_⟩
  rw[dH]
  have U:SqL K (upd H p (HO.ins t.c_Event dx (aP "state" (V.int st) (aP "used" v [])))) a xs:=fM hp ha
  have Z:SqL K (upd H p (HO.ins t.c_Event dx (aP "state" (V.int st) (aP "used" v [])))) b ys:=fM hp hb
  have a2:∀ x∈xs,∃ q zs,x=.ref q/\SqT K (upd H p (HO.ins t.c_Event dx (aP "state" (V.int st) (aP "used" v [])))) q zs:=λ x m=>let ⟨q,zs,e,h⟩:=hx x m;⟨q,zs,e,tD hp h⟩
  have G:upd H p (HO.ins t.c_Event dx (aP "state" (V.int st) (aP "used" v []))) p=_:=aD
  generalize O:upd H p (HO.ins t.c_Event dx (aP "state" (V.int st) (aP "used" v [])))=H1 at U Z a2 G ⊢
  refine⟨_,rfl,a,rfl,⟨_,U⟩,cj (xs:=xs) a3 λ acc j=>⟨λ i L zs H2=>zs=xs.take i/\H2=upd H1 acc (.lst zs)/\∃ o,L=[some (.ref p),some v,some (.int st),some (.ref a),some (.ref b),o],⟨rfl,rfl,_,rfl⟩,?_,?_,?_⟩⟩
  ·rintro i L zs H2 hi ⟨rfl,rfl,_,rfl⟩
   exact⟨(aM.new j).seq U,by rw[Dg];lia⟩
  ·rintro i x L zs H2 hi a1 ⟨rfl,rfl,o,rfl⟩
   obtain⟨q,zs,rfl,hq⟩:=a2 x (CB a1)
   dsimp only[ck,fO]
   refine cX ⟨_,rfl,q,zs,rfl,.inr ⟨(aM.new j).tup hq,aD,Nx.mk hi ⟨?_,?_,_,rfl⟩⟩⟩
   ·rw[D7,a1];rfl
   ·rw[dH]
  ·rintro L zs H2 ⟨rfl,rfl,o,rfl⟩
   rw[ES]
   have J:p≠acc:=aF G j
   refine⟨_,rfl,p,_,dx,_,rfl,(by rw[aE J];exact G),T.cl_Event,T.na_cu,dB (n:=1) (bG _ _ _) (by decide),?_⟩
   refine⟨_,rfl,b,ys,rfl,.inl (fM (by rw[aE J];exact G) ((aM.new j).seq Z)),λ l2 F=>?_⟩
   have W:p≠l2:=aF (aD) F
   have nl:acc≠l2:=aF (o:=.lst xs) (by rw[aE (Ne.symm J),aD]) F
   refine⟨_,rfl,p,_,dx,_,rfl,(by rw[aE W,aD]),T.cl_Event,T.na_ct,dB (n:=2) (CV (bG _ _ _) (FG (bG _ _ _))) (by decide),?_⟩
   refine k acc l2 _ ?_ ?_ nl λ c=>?_
   ·rw[<- O,aE (Ne.symm J)] at j;exact j
   ·rw[aE (Ne.symm W),aE (Ne.symm nl),<- O,aE (Ne.symm W)] at F;exact F
   ·rw[<- O]
    unfold evF
    by_cases Y:c=p
    ·rw[Y,aD,CG rfl]
    ·rw[aE Y,CD Y]
     by_cases c2:c=l2
     ·rw[c2,aD,CD (Ne.symm nl),CG rfl]
     ·rw[aE c2,aE Y]
      by_cases c3:c=acc
      ·rw[c3,aD,CG rfl]
      ·rw[aE c3,aE Y,CD c3,CD c2]
noncomputable abbrev Nm3:=Int×Int×Int
noncomputable def nV (n:Nm3):List V:=[.int n.1,.int n.2.1,.int n.2.2]
structure EvA where
 u:Option Nm3
 st:Int
 se:List (Int×Int)
noncomputable def UsO (G:Hp) (v:V):Option Nm3->Prop
 | none=>v=.non
 | some n=>∃ b,v=.ref b/\G b=some (.tup (nV n))
noncomputable def LsO (G:Hp) (xs:List V) (se:List (Int×Int)):Prop:=∃ ls:List (Addr×Int×Int),xs=ls.map (λ x=>V.ref x.1)/\se=ls.map (·.2)/\∀ x∈ls,G x.1=some (.tup [.int x.2.1,.int x.2.2])
noncomputable def EvO (_:W.Frag) (t:Adr) (G:Hp) (e:Addr) (A:EvA):Prop:=∃ dx v l1 l2 xs ys,G e=some (.ins t.c_Event dx (evF v A.st l1 l2))/\UsO G v A.u/\G l1=some (.lst xs)/\LsO G xs A.se/\xs.length<=3/\G l2=some (.lst ys)
theorem UsO.same (s:aM G G') (h:UsO G v u):UsO G' v u:=by
 cases u with
 | none=>exact h
 | some n=>exact let ⟨b,e,q⟩:=h;⟨b,e,s _ _ q⟩
theorem LsO.same (s:aM G G') (h:LsO G xs se):LsO G' xs se:=let ⟨L,j,F,q⟩:=h;⟨L,j,F,λ x J=>s _ _ (q x J)⟩
theorem EvO.same (s:aM G G') (h:EvO K t G e A):EvO K t G' e A:=by
 obtain⟨dx,v,L,O,xs,ys,h1,h2,j,q,F,J⟩:=h
 exact⟨dx,v,L,O,xs,ys,s _ _ h1,h2.same s,s _ _ j,q.same s,F,s _ _ J⟩
theorem iK:(evF v st l1 l2).lookup ("used" : Str)=some v:=by unfold evF;rw[bF,CD (by decide),bF,CD (by decide),bF,CD (by decide),bF,CG rfl]
theorem jI:(evF v st l1 l2).lookup ("state" : Str)=some (V.int st):=by unfold evF;rw[bF,CD (by decide),bF,CD (by decide),bF,CG rfl]
theorem gj:(evF v st l1 l2).lookup ("sent" : Str)=some (V.ref l1):=by unfold evF;rw[bF,CD (by decide),bF,CG rfl]
theorem rN:(evF v st l1 l2).lookup ("said" : Str)=some (V.ref l2):=by unfold evF;rw[bF,CG rfl]
theorem rK (sG:aM G H) (ne:H e=none) (a1:H dxe=none) (V:upd (upd H dxe (.own e)) e (.ins t.c_Event dxe []) m1=none) (W:upd (upd H dxe (.own e)) e (.ins t.c_Event dxe []) m2=none) (J:m1≠m2)
  (U:∀ c,H5 c=if c=e then some (.ins t.c_Event dxe (evF v Ew.st m1 m2)) else if c=m1 then some (.lst xs) else if c=m2 then some (.lst ys) else upd (upd H dxe (.own e)) e (.ins t.c_Event dxe []) c)
  (r1:UsO G v Ew.u) (r2:LsO G xs Ew.se) (Y:xs.length<=3):∃ O,cL H G O H5/\aM H H5/\EvO K t O e Ew/\O e=some (.ins t.c_Event dxe (evF v Ew.st m1 m2))/\O m1=some (.lst xs):=by
 have L:aM H (upd (upd H dxe (.own e)) e (.ins t.c_Event dxe [])):=aM.ins ne a1
 have j:m1≠e:=λ z=>by rw[z,aD] at V;cases V
 have F:m2≠e:=λ z=>by rw[z,aD] at W;cases W
 have s5:aM H H5:=λ c u q=>by
  rw[U c,CD (aF q ne),CD (aF q (L.free V)),CD (aF q (L.free W))]
  exact L _ _ q
 have g0:cL H G G H5:=⟨aM.refl _,sG.trans s5,λ _ _ z=>.inl z⟩
 have g1:=g0.freeze (o:=.lst xs) (L.free V) (by rw[U m1,CD j,CG rfl])
 have g2:=g1.freeze (o:=.lst ys) (L.free W) (by rw[U m2,CD F,CD (Ne.symm J),CG rfl])
 have Z:=g2.freeze (o:=.ins t.c_Event dxe (evF v Ew.st m1 m2)) ne (by rw[U e,CG rfl])
 have q1:upd (upd (upd G m1 (.lst xs)) m2 (.lst ys)) e (.ins t.c_Event dxe (evF v Ew.st m1 m2)) m1=some (.lst xs):=by rw[aE j,aE J,aD]
 exact⟨_,Z,s5,⟨dxe,v,m1,m2,xs,ys,aD,r1.same Z.sub,q1,r2.same Z.sub,Y,by rw[aE F,aD]⟩,aD,q1⟩
noncomputable def yG (K:W.Frag) (t:Adr):Sp:=λ vs H Q _=>∃ G e A,vs=[.ref e]/\aM G H/\EvO K t G e A/\∀ G' H' e',cL H G G' H'->aM H H'->EvO K t G' e' A->Q (.ref e') H'
theorem vh (T:Txt K mg t):bq P w K mg base (CXr P w) 3 t.f_dm t.fd_dm ["event"] (yG K t):=by
 refine T.F_dm.okN xA (λ vs H Q E h=>?_) (λ a1 A outer s H vs Q E hr h=>?_)
 ·obtain⟨G,e,A,rfl,_⟩:=h;rfl
 ·obtain⟨G,e,A,rfl,J,ev,k⟩:=h
  refine⟨_,(aI (aW (dI T.mk_Event (va (K:=K) T) (hr.mono (by decide)) rfl T.mg_Event T.b_co .nil aL (aJ (aO (K:=K) (pv 0) rfl) (aJ (aO (K:=K) (pv 0) rfl) (aJ (aO (K:=K) (pv 0) rfl) (aJ (aO (K:=K) (pv 0) rfl) aG))))))),?_⟩
  obtain⟨dx,v,l1,l2,xs,ys,h1,h2,h3,W,h5,h6⟩:=id ev
  have L:=J _ _ h1
  refine⟨_,rfl,e,_,dx,_,_,rfl,L,T.cl_Event,T.na_cv,iK,?_⟩
  refine⟨_,rfl,e,_,dx,_,_,rfl,L,T.cl_Event,T.na_ch,jI,?_⟩
  refine⟨_,rfl,e,_,dx,_,_,rfl,L,T.cl_Event,T.na_cu,gj,?_⟩
  refine⟨_,rfl,e,_,dx,_,_,rfl,L,T.cl_Event,T.na_ct,rN,λ x j Y F a2=>?_⟩
  have V:aM H (upd (upd H j (.own x)) x (.ins t.c_Event j [])):=aM.ins Y F
  refine⟨x,j,v,A.st,l1,l2,xs,ys,rfl,aD,SqL.of (V _ _ (J _ _ h3)),by lia,λ y hy=>?_,SqL.of (V _ _ (J _ _ h6)),λ m1 m2 H' n1 n2 U hH=>⟨rfl,?_⟩⟩
  ·obtain⟨ls,rfl,_,q⟩:=W
   obtain⟨z,hz,rfl⟩:=CL.mp hy
   exact⟨_,_,rfl,SqT.of (V _ _ (J _ _ (q z hz)))⟩
  obtain⟨Z,g,s,O,_⟩:=rK (Ew:=A) J Y F n1 n2 U hH h2 W h5
  exact k Z H' x g s O
noncomputable def xp:Sp:=λ vs H Q _=>∃ x d h,vs=[x,.int d,.int h]/\Q (.int d) H
theorem B1 (T:Txt K mg t):bq P w K mg base (CXr P w) 1 t.f_ag t.fd_ag ["self","down","here"] xp:=by
 refine T.F_ag.okN xr (λ vs H Q E h=>?_) (λ j A outer s H vs Q E q h=>?_)
 ·obtain⟨x,d,h,rfl,_⟩:=h;rfl
 ·obtain⟨x,d,h,rfl,k⟩:=h
  exact⟨_,(aI (aW (pv 1))),_,rfl,k⟩
noncomputable def zD:Sp:=λ vs H Q _=>∃ x d h,vs=[x,.int d,.int h]/\Q (.int d) H
theorem vk (T:Txt K mg t):bq P w K mg base (CXr P w) 1 t.f_ac t.fd_ac ["self","down","here"] zD:=by
 refine T.F_ac.okN zC (λ vs H Q E h=>?_) (λ j A outer s H vs Q E q h=>?_)
 ·obtain⟨x,d,h,rfl,_⟩:=h;rfl
 ·obtain⟨x,d,h,rfl,k⟩:=h
  exact⟨_,(aI (aW (pv 1))),_,rfl,k⟩
noncomputable def BF:Sp:=λ vs H Q _=>∃ x d h,vs=[x,.int d,.int h]/\Q (.int h) H
theorem AZ (T:Txt K mg t):bq P w K mg base (CXr P w) 1 t.f_ai t.fd_ai ["self","down","here"] BF:=by
 refine T.F_ai.okN Bt (λ vs H Q E h=>?_) (λ j A outer s H vs Q E q h=>?_)
 ·obtain⟨x,d,h,rfl,_⟩:=h;rfl
 ·obtain⟨x,d,h,rfl,k⟩:=h
  exact⟨_,(aI (aW (pv 2))),_,rfl,k⟩
noncomputable def A6 (t:Adr):Sp:=λ vs H Q E=>∃ p dx i,vs=[.ref p,.int i]/\H p=some (.ins t.c_Bundle dx []) /\
 (1<=i->i<=20->Q .non (upd H p (.ins t.c_Bundle dx (aP "size" (.int i) []))))/\(¬ (1<=i/\i<=20)->E (.ref t.c_NoSize) none H)
theorem vn (T:Txt K mg t):bq P w K mg base (CXr P w) 2 t.f_bz t.fd_bz ["self","size"] (A6 t):=by
 refine T.F_bz.okR xk (λ vs H Q E h=>?_) (λ q A outer s H vs Q E F J h=>?_)
 ·obtain⟨p,dx,i,rfl,_⟩:=h;rfl
 ·obtain⟨p,dx,i,rfl,G,L,j⟩:=h
  refine⟨_,(aH (bH (PW.pt (eX (b9 (bO (aV (kQ (K:=K) T) (J.mono (by decide)) rfl T.mg_dg T.kp_dg T.b_dg .nil aL (aJ (pv 1) aG)))) (eX (bj n6 (pv 1) (jZ rfl T.mv_SMALLEST_SIZE) (bx _)) (fD (bj xi (pv 1) (jZ rfl T.mv_GREATEST_SIZE) (bx _))))))
    (aI (iX F rfl T.mg_NoSize T.ex_NoSize (aJ dk aG)))
    bp)
   (aI (bg (K:=K) (pv 0) (pv 1) rfl))),?_⟩
  refine⟨_,rfl,i,rfl,_,rfl,dQ ?_⟩
  refine⟨_,rfl,_,_,rfl,rfl,_,rfl,dy (λ z=>cX ⟨by decide,j ?_⟩) λ V=>?_⟩
  ·have:=Dr z;lia
  refine⟨_,rfl,_,_,rfl,rfl,_,rfl,dy (λ z=>⟨by decide,j ?_⟩) λ W=>?_⟩
  ·have:=Dr z;lia
  have O:1<=i:=by simpa using V
  have U:i<=20:=by simpa using W
  exact⟨_,rfl,_,rfl,p,_,dx,_,rfl,G,T.cl_Bundle,T.na_cg,by decide,L O U⟩
noncomputable def BC (t:Adr):Sp:=λ vs H Q _=>∃ p dx n d h,vs=[.ref p,.int d,.int h]/\H p=some (.ins t.c_Bundle dx (aP "size" (.int n) []))/\Q (.int (if h-d >= n then h else d)) H
theorem yJ (T:Txt K mg t):bq P w K mg base (CXr P w) 1 t.f_ae t.fd_ae ["self","down","here"] (BC t):=by
 refine T.F_ae.okN Av (λ vs H Q E h=>?_) (λ j A outer s H vs Q E F h=>?_)
 ·obtain⟨p,dx,n,d,h,rfl,_⟩:=h;rfl
 ·obtain⟨p,dx,n,d,h,rfl,q,k⟩:=h
  refine⟨_,(aH (bH (bj jz (aU q9 (pv 2) (pv 1)) (aO (K:=K) (pv 0) rfl) (bx _))
    (aI (aW (pv 2)))
    bp)
   (aI (aW (pv 1)))),?_⟩
  refine⟨_,rfl,_,rfl,_,_,rfl,rfl,_,rfl,p,_,dx,_,.int n,rfl,q,T.cl_Bundle,T.na_cg,(by rw[bF,CG rfl]),_,_,rfl,rfl,_,rfl,dy (λ z=>⟨_,rfl,?_⟩) λ z=>⟨_,rfl,?_⟩⟩
  ·rwa [CG (Dr z)] at k
  ·rwa [CD (λ y=>z (CZ y))] at k
noncomputable def Ab:Sp:=λ vs H Q _=>∃ x d h,vs=[x,.int d,.int h]/\Q (.int h) H
theorem yA (T:Txt K mg t):bq P w K mg base (CXr P w) 1 t.f_aa t.fd_aa ["self","down","here"] Ab:=by
 refine T.F_aa.okN Br (λ vs H Q E h=>?_) (λ j A outer s H vs Q E q h=>?_)
 ·obtain⟨x,d,h,rfl,_⟩:=h;rfl
 ·obtain⟨x,d,h,rfl,k⟩:=h
  exact⟨_,(aI (aW (pv 2))),_,rfl,k⟩
noncomputable def thF (first:Int) (ha dn wr:Addr) (down:Int):List (Str×V):=[("first",.int first),("habit",.ref ha),("done",.ref dn),("writings",.ref wr),("down",.int down)]
theorem cO:(thF first ha dn wr down).length<1000:=by show 5<1000;decide
theorem sO:aP "down" (.int d) (thF first ha dn wr down)=thF first ha dn wr d:=rfl
noncomputable def zl (t:Adr):Sp:=λ vs H Q _=>∃ p dx i ha,vs=[.ref p,.int i,.ref ha]/\H p=some (.ins t.c_Thread dx []) /\
 ∀ dn wr H',H dn=none->H wr=none->dn≠wr->(∀ c,H' c=if c=p then some (.ins t.c_Thread dx (thF i ha dn wr 0)) else if c=dn then some (.lst []) else if c=wr then some (.lst [.int 0]) else H c)->Q .non H'
theorem xN (T:Txt K mg t):bq P w K mg base (CXr P w) 1 t.f_ca t.fd_ca ["self","start","habit"] (zl t):=by
 refine T.F_ca.okN yF (λ vs H Q E h=>?_) (λ W A outer s H vs Q E hr h=>?_)
 ·obtain⟨p,dx,i,Y,rfl,_⟩:=h;rfl
 ·obtain⟨p,dx,i,Y,rfl,Z,k⟩:=h
  refine⟨_,(aH (bg (K:=K) (pv 0) (pv 1) rfl)
   (aH (bg (K:=K) (pv 0) (pv 2) rfl)
   (aH (bg (K:=K) (pv 0) (cV aG) rfl)
   (aH (bg (K:=K) (pv 0) (cV (aJ aN aG)) rfl)
   (aI (bg (K:=K) (pv 0) aN rfl)))))),?_⟩
  refine⟨_,rfl,_,rfl,p,_,dx,_,rfl,Z,T.cl_Thread,T.na_bw,by decide,?_⟩
  refine⟨_,rfl,_,rfl,p,_,dx,_,rfl,aD,T.cl_Thread,T.na_bx,dB (n:=0) (Nat.le_refl _) (by decide),?_⟩
  rw[dH]
  refine⟨by decide,λ O q=>⟨_,rfl,p,_,dx,_,rfl,(by rw[aE (aF aD q),aD]),T.cl_Thread,T.na_cm,dB (n:=1) (bG _ _ _) (by decide),?_⟩⟩
  have J:p≠O:=aF aD q
  refine⟨by decide,λ wr j=>⟨_,rfl,p,_,dx,_,rfl,(by rw[aE (aF aD j),aD]),T.cl_Thread,T.na_aw,dB (n:=2) (CV (bG _ _ _) (FG (bG _ _ _))) (by decide),?_⟩⟩
  have L:p≠wr:=aF aD j
  have F:O≠wr:=aF (o:=.lst []) (by rw[aE (Ne.symm J),aD]) j
  refine⟨_,rfl,p,_,dx,_,rfl,aD,T.cl_Thread,T.na_cn,dB (n:=3) (CV (bG _ _ _) (FG (CV (bG _ _ _) (FG (bG _ _ _))))) (by decide),?_⟩
  refine k O wr _ ?_ ?_ F λ c=>?_
  ·rw[aE (Ne.symm J)] at q;exact q
  ·rw[aE (Ne.symm L),aE (Ne.symm F),aE (Ne.symm L)] at j;exact j
  ·by_cases G:c=p
   ·rw[G,aD,CG rfl];rfl
   ·rw[aE G,aE G,CD G]
    by_cases U:c=wr
    ·rw[U,aD,CD (Ne.symm F),CG rfl]
    ·rw[aE U,aE G]
     by_cases V:c=O
     ·rw[V,aD,CG rfl]
     ·rw[aE V,aE G,CD V,CD U]
noncomputable def ve (t:Adr) (K:W.Frag):Sp:=λ vs H Q _=>∃ p dx i ha dn wr d xs,vs=[.ref p]/\H p=some (.ins t.c_Thread dx (thF i ha dn wr d))/\SqL K H dn xs/\Q (.int xs.length) H
theorem dF (T:Txt K mg t):bq P w K mg base (CXr P w) 1 t.f_cb t.fd_cb ["self"] (ve t K):=by
 refine T.F_cb.okN xD (λ vs H Q E h=>?_) (λ q A outer s H vs Q E L h=>?_)
 ·obtain⟨p,dx,i,F,j,wr,d,xs,rfl,_⟩:=h;rfl
 ·obtain⟨p,dx,i,F,j,wr,d,xs,rfl,J,G,k⟩:=h
  refine⟨_,(aI (aW (bI (dh (K:=K)) rfl T.no_len jJ (aJ (aO (K:=K) (pv 0) rfl) aG)))),?_⟩
  exact⟨_,rfl,p,_,dx,_,.ref j,rfl,J,T.cl_Thread,T.na_cm,rfl,j,xs,rfl,.inl G,k⟩
noncomputable def ip (K:W.Frag) (t:Adr) (G:Hp) (es:List V) (As:List EvA):Prop:=es.length=As.length/\∀ (i:Nat) (e:V) (A:EvA),es[i]? = some e->As[i]? = some A->∃ q,e=V.ref q/\EvO K t G q A
theorem ip.same (s:aM G G') (h:ip K t G es As):ip K t G' es As:=⟨h.1,λ i e A a b=>let ⟨q,z,y⟩:=h.2 i e A a b;⟨q,z,y.same s⟩⟩
--@for k01 k02
noncomputable def xv (K:W.Frag) (t:Adr):Sp:=λ vs H Q _=>∃ G p dx i ha dn wr d es As,vs=[.ref p]/\aM G H/\H p=some (.ins t.c_Thread dx (thF i ha dn wr d))/\H dn=some (.lst es)/\ip K t G es As/\es.length<=1000 /\
 ∀ G' H' l es',cL H G G' H'->aM H H'->H l=none->H' l=some (.lst es')->G' l=none->ip K t G' es' As->Q (.ref l) H'
theorem Ag (T:Txt K mg t):bq P w K mg base (CXr P w) 4 t.f_bd t.fd_bd ["self"] (xv K t):=by
 refine T.F_bd.okN y8 (λ vs H Q E h=>?_) (λ a5 A outer s H vs Q E hr h=>?_)
 ·obtain⟨G,p,dx,i,ha,dn,wr,d,es,As,rfl,_⟩:=h;rfl
 ·obtain⟨G,p,dx,i,ha,dn,wr,d,es,As,rfl,sG,hp,hd,ev,a3,k⟩:=h
  refine⟨_,(aI (aW (bR ["self","event"] 1 rfl (bP (K:=K) (aO (K:=K) (pv 0) rfl)) (λ _ _ _ _ _=>⟨(aR (i:=1) (show List.Nodup (["self","event"]:List Str) from by decide +kernel) rfl (Or.inl rfl)),bX,(aV (vh (K:=K) T) (hr.mono (by decide)) rfl T.mg_dm T.kp_dm T.b_dm .nil aL (aJ (pv 1) aG))⟩)))),?_⟩
  refine⟨_,rfl,p,_,dx,_,.ref dn,rfl,hp,T.cl_Thread,T.na_cm,rfl,dn,rfl,⟨_,SqL.of hd⟩,cj (xs:=es) a3 λ acc F=>⟨λ i L ys H2=>(∃ O,cL H G O H2/\O acc=none/\∀ (j:Nat) (e:V) (A:EvA),ys[j]? = some e->As[j]? = some A->∃ q,e=V.ref q/\EvO K t O q A)/\aM H H2/\H2 acc=some (.lst ys)/\ys.length=i/\∃ o,L=[some (.ref p),o],?_,?_,?_,?_⟩⟩
  ·have a1:G acc=none:=by
    cases q:G acc with
    | none=>rfl
    | some u=>rw[sG _ _ q] at F;cases F
   exact⟨⟨G,⟨aM.refl _,sG.trans (aM.new F),λ _ _ e=>.inl e⟩,a1,λ j e A z=>by simp at z⟩,aM.new F,aD,rfl,_,rfl⟩
  ·rintro i L ys H2 hi ⟨_,W,_,rfl,_⟩
   exact⟨SqL.of (W _ _ hd),Nat.le_refl _⟩
  ·rintro i x L ys H2 hi hx ⟨⟨O,U,ga,ok⟩,W,J,rfl,o,rfl⟩
   obtain⟨Ai,hA⟩:∃ Ai,As[ys.length]? = some Ai:=⟨_,Cs (by rw[<- ev.1];exact hi)⟩
   obtain⟨q,rfl,eq⟩:=ev.2 _ _ _ hx hA
   dsimp only[ck,fO]
   refine cX ⟨_,rfl,O,q,Ai,rfl,U.held,eq.same U.sub,λ G' H' e' Y s3 a2=>⟨s3 _ _ J,Nx.mk hi ?_⟩⟩
   have Z:G' acc=none:=Y.free (by rw[J];simp) ga
   refine⟨⟨G',⟨U.sub.trans Y.sub,λ b u z=>?_,λ b u z=>?_⟩,Z,λ j e A z y=>?_⟩,λ b u z=>?_,aD,by rw[CA];rfl,_,rfl⟩
   ·rw[aE (aF z Z)];exact Y.held _ _ z
   ·rcases Y.new b u z with z'|z'
    ·exact U.new b u z'
    ·refine .inr ?_
     cases y:H b with
     | none=>rfl
     | some v=>rw[W _ _ y] at z';cases z'
   ·rw[List.getElem?_append] at z
    split at z
    ·obtain⟨q',e1,e2⟩:=ok j e A z y
     exact⟨q',e1,e2.same Y.sub⟩
    ·next hj=>
     have:j=ys.length:=by
      have:=(Cr.mp z).1
      simp at this
      lia
     subst this
     rw[Eb] at z
     cases z
     rw[hA] at y
     cases y
     exact⟨e',rfl,a2⟩
   ·rw[aE (aF z F)];exact s3 _ _ (W _ _ z)
  ·rintro L ys H2 ⟨⟨O,U,ga,ok⟩,W,J,a4,_⟩
   exact k O H2 acc ys U W F J ga ⟨a4.trans ev.1,ok⟩
--@all
theorem bM:atI (x::xs) 0=some x:=by
 unfold atI ixN
 rw[CG (by lia),CG (by rw[Dh];lia)]
 rfl
noncomputable def x6 (t:Adr):Sp:=λ vs H Q _=>∃ p dx i ha dn wr d w0 ws,vs=[.ref p]/\H p=some (.ins t.c_Thread dx (thF i ha dn wr d))/\H wr=some (.lst (iV (w0::ws)))/\(∀ y∈w0::ws,0<=y/\y<=60)/\(w0::ws).length<=62/\0<=d/\d<=60 /\
 ∀ l ns H',aM H H'->H l=none->H' l=some (.lst (iV ns))->ns.Pairwise (· <= ·)->ns.Nodup->(∀ y,y∈ns↔(w0<=y/\y<=d)\/y∈w0::ws)->Q (.ref l) H'
theorem yi (T:Txt K mg t):bq P w K mg base (CXr P w) 1 t.f_be t.fd_be ["self"] (x6 t):=by
 refine T.F_be.okN vd (λ vs H Q E h=>?_) (λ a1 A outer s H vs Q E hr h=>?_)
 ·obtain⟨p,dx,i,ha,dn,wr,d,j,ws,rfl,_⟩:=h;rfl
 ·obtain⟨p,dx,i,ha,dn,wr,d,j,ws,rfl,U,hw,bw,lw,d0,d1,k⟩:=h
  refine⟨_,(aH (aY (i:=1) vd.nd rfl (Or.inl rfl) (bJ (dY rfl) rfl T.no_list gO (aJ (bJ pA rfl T.no_range ir (aJ (bo (br (K:=K)) (aO (K:=K) (pv 0) rfl) aN (λ _ _=>rfl)) (aJ (aU bN (aO (K:=K) (pv 0) rfl) aN) aG))) aG)))
   (aI (aW (bI (mG rfl (P:=P) (w:=w)) rfl T.no_sorted je (aJ (aU (wF (P:=P) (w:=w)) (bJ (jQ rfl (K:=K) (P:=P) (w:=w)) rfl T.no_set uK (aJ (pv 1) aG)) (bJ (jQ rfl (K:=K) (P:=P) (w:=w)) rfl T.no_set uK (aJ (aO (K:=K) (pv 0) rfl) aG))) aG))))),?_⟩
  have b0:=bw j CJ
  refine⟨_,rfl,p,_,dx,_,.ref wr,rfl,U,T.cl_Thread,T.na_aw,rfl,wr,_,0,.int j,rfl,rfl,SqL.of hw,bM,?_⟩
  refine⟨_,rfl,p,_,dx,_,.int d,rfl,U,T.cl_Thread,T.na_cn,rfl,_,_,rfl,rfl,_,_,rfl,λ r V=>?_⟩
  have s1:aM H _:=aM.new (o:=.rng j (d+1)) V
  refine⟨r,j,d+1,rfl,aD,⟨by lia,by lia,by lia,by lia⟩,by lia,λ l hl=>?_⟩
  have s2:=s1.trans (aM.new (o:=.lst (iV (dC j (d+1)))) hl)
  refine⟨_,rfl,l,dC j (d+1),rfl,SqL.of aD,by rw[dG];lia,λ a ka L a2 ma=>?_⟩
  have Z:=s2.trans (aM.new (o:=eZ P w a ka) L)
  refine⟨_,rfl,p,_,dx,_,.ref wr,rfl,Z _ _ U,T.cl_Thread,T.na_aw,rfl,wr,j::ws,rfl,SqL.of (Z _ _ hw),by lia,λ b kb F a3 mb=>?_⟩
  have G:a≠b:=aF aD F
  have s4:=Z.trans (aM.new (o:=eZ P w b kb) F)
  refine⟨a,b,ka,kb,dC 0 61,rfl,rfl,G,by rw[aE G,aD],aD,by rw[dG];decide,λ y W=>?_,λ y W=>?_,λ c kc O Y mc=>?_⟩
  ·have:=dU.mp ((ma y).mp W);exact dU.mpr (by lia)
  ·have:=bw y ((mb y).mp W);exact dU.mpr (by lia)
  have s5:=s4.trans (aM.new (o:=eZ P w c kc) O)
  refine⟨c,kc,rfl,aD,λ e ns J pm so=>?_⟩
  refine k e ns _ (s5.trans (aM.new J)) ?_ aD so (pm.nodup_iff.mpr Y) λ y=>?_
  ·cases q:H e with
   | none=>rfl
   | some u=>rw[s5 _ _ q] at J;cases J
  ·rw[pm.mem_iff,mc,ma,mb,dU]
   constructor
   ·rintro(z|z)
    ·exact .inl (by lia)
    ·exact .inr z
   ·rintro(z|z)
    ·exact .inl (by lia)
    ·exact .inr z
noncomputable def uZ (K:W.Frag) (t:Adr):Sp:=λ vs H Q _=>∃ p dx i ha dn wr d xs y,vs=[.ref p,.int y]/\H p=some (.ins t.c_Thread dx (thF i ha dn wr d))/\SqL K H dn xs/\Q (.bl (decide (y=xs.length))) H
theorem qU (T:Txt K mg t):bq P w K mg base (CXr P w) 2 t.f_ax t.fd_ax ["self","place"] (uZ K t):=by
 refine T.F_ax.okN zd (λ vs H Q E h=>?_) (λ J A outer s H vs Q E G h=>?_)
 ·obtain⟨p,dx,i,q,j,wr,d,xs,y,rfl,_⟩:=h;rfl
 ·obtain⟨p,dx,i,q,j,wr,d,xs,y,rfl,F,L,k⟩:=h
  refine⟨_,(aI (aW (ko (aV (kQ (K:=K) T) (G.mono (by decide)) rfl T.mg_dg T.kp_dg T.b_dg .nil aL (aJ (pv 1) aG)) (jc (cI eY (pv 1) (bc (pv 0) T.cl_Thread T.me_cb (dF (K:=K) T) (G.mono (by decide)) T.b_cb .nil aL) (bx _)))))),?_⟩
  refine⟨_,rfl,y,rfl,_,rfl,cX ?_⟩
  refine⟨_,rfl,_,rfl,p,dx,_,rfl,F,rfl,p,dx,i,q,j,wr,d,xs,rfl,F,L,?_⟩
  refine⟨rfl,?_⟩
  have e:decide (V.int y=V.int xs.length)=decide (y=(xs.length:Int)):=by rw[DV];simp
  rw[e];exact k
theorem gh {y:Int}:∀ {ws:List Int},inV (V.int y) (iV ws)=decide (y∈ws)
 | []=>rfl
 | w::ws=>by
  have ih:inV (V.int y) (iV ws)=decide (y∈ws):=gh
  show (eqV (V.int w) (V.int y) || inV (V.int y) (iV ws))=_
  rw[ih,DV,FT,C9,C9,Cz]
  show ((w == y)=true\/_)↔_
  rw[DY]
  exact⟨λ h=>h.elim (λ e=>.inl e.symm) .inr,λ h=>h.elim (λ e=>.inl e.symm) .inr⟩
noncomputable def uU (t:Adr):Sp:=λ vs H Q _=>∃ p dx i ha dn wr d w0 ws y,vs=[.ref p,.int y]/\H p=some (.ins t.c_Thread dx (thF i ha dn wr d))/\H wr=some (.lst (iV (w0::ws)))/\Q (.bl (decide (y∈w0::ws\/(w0<=y/\y<=d)))) H
theorem uV (T:Txt K mg t):bq P w K mg base (CXr P w) 2 t.f_ap t.fd_ap ["self","place"] (uU t):=by
 refine T.F_ap.okN B2 (λ vs H Q E h=>?_) (λ U A outer s H vs Q E hr h=>?_)
 ·obtain⟨p,dx,i,Z,W,wr,d,j,F,y,rfl,_⟩:=h;rfl
 ·obtain⟨p,dx,i,Z,W,wr,d,j,F,y,rfl,J,O,k⟩:=h
  refine⟨_,(aH (bH (b9 (bO (aV (kQ (K:=K) T) (hr.mono (by decide)) rfl T.mg_dg T.kp_dg T.b_dg .nil aL (aJ (pv 1) aG))))
    (aI (aW eI))
    bp)
   (aH (bH (bj (qz (K:=K)) (pv 1) (aO (K:=K) (pv 0) rfl) (by with_unfolding_all rfl))
    (aI (aW eI))
    bp)
   (aI (aW (ko (cI jz (pv 1) (bo (br (K:=K)) (aO (K:=K) (pv 0) rfl) aN (λ _ _=>rfl)) (bx _)) (jc (cI jP (pv 1) (aO (K:=K) (pv 0) rfl) (bx _)))))))),?_⟩
  refine⟨_,rfl,y,rfl,_,rfl,dQ ?_⟩
  refine⟨_,rfl,_,rfl,p,_,dx,_,.ref wr,rfl,J,T.cl_Thread,T.na_aw,rfl,?_⟩
  have Y:(iV (j::F)).all dN=true:=by
   unfold iV;rw[Fn];exact D6.mpr λ _ _=>rfl
  have G:inV (V.int y) (iV (j::F))=decide (y∈j::F):=gh
  refine⟨wr,_,rfl,.inl (SqL.of O),rfl,Y,_,rfl,?_⟩
  rw[CD (by simp),G]
  by_cases z:y∈j::F
  ·rw[CZ z]
   rw[CZ (Or.inl z)] at k
   exact cX k
  ·rw[DB z]
   refine dQ ?_
   refine⟨_,rfl,_,rfl,p,_,dx,_,.ref wr,rfl,J,T.cl_Thread,T.na_aw,rfl,wr,_,0,.int j,rfl,rfl,SqL.of O,bM,_,_,rfl,rfl,_,rfl,?_⟩
   refine dy (λ L=>⟨_,rfl,_,rfl,p,_,dx,_,.int d,rfl,J,T.cl_Thread,T.na_cn,rfl,_,_,rfl,rfl,?_⟩) λ L=>?_
   ·have e:decide (y∈j::F\/j<=y/\y<=d)=decide (y<=d):=by
     rw[DV,C9,C9]
     exact⟨λ h=>h.elim (λ q=>absurd q z) λ q=>q.2,λ h=>.inr ⟨Dr L,h⟩⟩
    rw[e] at k;exact k
   ·have e:decide (y∈j::F\/j<=y/\y<=d)=false:=by
     rw[FD]
     exact λ h=>h.elim z λ q=>L (CZ q.1)
    rw[e] at k;exact k
noncomputable def tF (first:Int) (As:List EvA) (y:Int):Int:=if y=0 then first else ((As[(y-1).toNat]?).map EvA.st).getD 0
noncomputable def gx (n:Nat) (ws:List Int) (w0 d y:Int):Prop:=y=n\/y∈w0::ws\/(w0<=y/\y<=d)
noncomputable def vm (K:W.Frag) (t:Adr):Sp:=λ vs H Q E=>∃ G p dx i ha dn wr d w0 ws es As y,vs=[.ref p,.int y]/\aM G H/\H p=some (.ins t.c_Thread dx (thF i ha dn wr d))/\H wr=some (.lst (iV (w0::ws)))/\H dn=some (.lst es)/\ip K t G es As /\
 (∀ z∈w0::ws,0<=z/\z<=es.length)/\d<=es.length/\(gx es.length ws w0 d y->Q (.int (tF i As y)) H)/\(¬ gx es.length ws w0 d y->E (.ref t.c_NoPoint) none H)
theorem AX (T:Txt K mg t):bq P w K mg base (CXr P w) 3 t.f_aq t.fd_aq ["self","place"] (vm K t):=by
 refine T.F_aq.okR Bg (λ vs H Q E h=>?_) (λ a3 A outer s H vs Q E hh hr h=>?_)
 ·obtain⟨G,p,dx,i,ha,U,wr,d,J,O,es,As,y,rfl,_⟩:=h;rfl
 ·obtain⟨G,p,dx,i,ha,U,wr,d,J,O,es,As,y,rfl,sG,L,hw,hd,ev,bw,bd,kg,kb⟩:=h
  refine⟨_,(aH (bH (PW.pt (iL (b9 (bO (aX (pv 0) T.cl_Thread T.me_ax (qU (K:=K) T) (hr.mono (by decide)) T.b_ax .nil aL (aJ (pv 1) aG)))) (gK (b9 (bO (aX (pv 0) T.cl_Thread T.me_ap (uV (K:=K) T) (hr.mono (by decide)) T.b_ap .nil aL (aJ (pv 1) aG)))))))
    (aI (iX hh rfl T.mg_NoPoint T.ex_NoPoint (aJ dk aG)))
    bp)
   (aH (bH (bj eY (pv 1) aN (bx _))
    (aI (aW (aO (K:=K) (pv 0) rfl)))
    bp)
   (aI (aW (aO (K:=K) (bo (br (K:=K)) (aO (K:=K) (pv 0) rfl) (aU q9 (pv 1) aN) (λ _ _=>rfl)) rfl))))),?_⟩
  have b0:=bw J CJ
  have rest:gx es.length O J d y->Q (.int (tF i As y)) H:=kg
  have a2:gx es.length O J d y->0<=y/\y<=es.length:=λ c=>by
   rcases c with c|c|c
   ·lia
   ·exact bw y c
   ·lia
  have W:gx es.length O J d y->(qg (sC (rQ (tOp rEq (cM 1) (tC (V.int 0)))) (sD (lS K (cM 0) "first")) rO)
    (sD (lS K (tOp (rR K) (lS K (cM 0) "done") (tOp (rI0 λ i j=>V.int (i-j)) (cM 1) (tC (V.int 1)))) "state"))) { nx:=λ x H'=>Q V.non H',rt:=Q } [some (.ref p),some (.int y)] H:=by
   intro c
   have r:=a2 c
   have F:=kg c
   refine⟨_,rfl,rfl,_,rfl,?_⟩
   by_cases y0:y=0
   ·refine du (by rw[y0];simp) ⟨_,rfl,p,_,dx,_,.int i,rfl,L,T.cl_Thread,T.na_bw,rfl,?_⟩
    unfold tF at F;rw[CG y0] at F;exact F
   ·refine bT (by simp[y0]) ?_
    obtain⟨e,he⟩:∃ e,es[(y-1).toNat]? = some e:=⟨_,Cs (by lia)⟩
    obtain⟨Ai,hA⟩:∃ Ai,As[(y-1).toNat]? = some Ai:=⟨_,Cs (by rw[<- ev.1];lia)⟩
    obtain⟨q,rfl,a1,v,l1,l2,xs,ys,h1,_⟩:=ev.2 _ _ _ he hA
    refine⟨_,rfl,p,_,dx,_,.ref U,rfl,L,T.cl_Thread,T.na_cm,rfl,_,rfl,_,_,rfl,rfl,U,es,y-1,.ref q,rfl,rfl,SqL.of hd,?_,q,_,a1,_,.int Ai.st,rfl,sG _ _ h1,T.cl_Event,T.na_ch,jI,?_⟩
    ·unfold atI ixN;rw[CG (by lia),CG (by lia)];exact he
    ·unfold tF at F;rw[CD y0,hA] at F;exact F
  refine⟨_,rfl,p,dx,_,rfl,L,rfl,_,rfl,p,dx,i,ha,U,wr,d,es,y,rfl,L,SqL.of hd,_,rfl,?_⟩
  by_cases Y:y=es.length
  ·refine bT (by rw[CZ Y];rfl) (dQ (W (.inl Y)))
  ·refine du (by rw[DB Y];rfl) ?_
   refine⟨_,rfl,p,dx,_,rfl,L,rfl,_,rfl,p,dx,i,ha,U,wr,d,J,O,y,rfl,L,hw,_,rfl,?_⟩
   by_cases Z:y∈J::O\/(J<=y/\y<=d)
   ·exact bT (by rw[CZ Z];rfl) (W (.inr Z))
   ·exact du (by rw[DB Z];rfl) ⟨by decide,kb λ z=>z.elim Y Z⟩
inductive fZ where
 | never|each|bundle (n:Int)
noncomputable def fZ.gv:fZ->Int->Int->Int
 | .never,d,_=>d
 | .each,_,h=>h
 | .bundle n,d,h=>if h-d >= n then h else d
noncomputable def fZ.dc:fZ->Int->Int->Int
 | .bundle _,_,h=>h
 | _,d,_=>d
noncomputable def gU (t:Adr) (G:Hp) (ha:Addr):fZ->Prop
 | .never=>∃ dx,G ha=some (.ins t.c_Never dx [])
 | .each=>∃ dx,G ha=some (.ins t.c_Each dx [])
 | .bundle n=>∃ dx,G ha=some (.ins t.c_Bundle dx (aP "size" (.int n) []))
structure ThA where
 first:Int
 hab:fZ
 evs:List EvA
 ws:List Int
 down:Int
structure ThL where
 (p dx ha dn wr:Addr)
structure Th (K:W.Frag) (t:Adr) (G H:Hp) (L:ThL) (A:ThA):Prop where
 self:H L.p=some (.ins t.c_Thread L.dx (thF A.first L.ha L.dn L.wr A.down))
 hab:gU t G L.ha A.hab
 done:∃ es,H L.dn=some (.lst es)/\ip K t G es A.evs
 dc:H L.wr=some (.lst (iV A.ws))
 held:aM G H
 gp:G L.p=none
 gd:G L.dn=none
 gw:G L.wr=none
 ne:L.dn≠L.wr
noncomputable def vt (K:W.Frag) (t:Adr):Sp:=λ vs H Q _=>∃ G L A e Ev,vs=[.ref L.p,.ref e]/\Th K t G H L A/\EvO K t G e Ev/\A.evs.length<=900 /\
 ∀ G' H',cL H G G' H'->But [L.p,L.dn] H H'->Th K t G' H' L { A with evs:=A.evs++[Ev],down:=A.hab.gv A.down (A.evs.length+1) }->Q .non H'
theorem z8 (T:Txt K mg t):bq P w K mg base (CXr P w) 4 t.f_cx t.fd_cx ["self","event"] (vt K t):=by
 refine T.F_cx.okN AO (λ vs H Q E h=>?_) (λ cdv A outer s H vs Q E hr h=>?_)
 ·obtain⟨G,L,A,e,Ev,rfl,_⟩:=h;rfl
 ·obtain⟨G,L,A,e,Ev,rfl,th,ev,few,k⟩:=h
  refine⟨_,(aH (aZ (cW (K:=K) Dl Dy Dx bU (aO (K:=K) (pv 0) rfl) (aJ (aV (vh (K:=K) T) (hr.mono (by decide)) rfl T.mg_dm T.kp_dm T.b_dm .nil aL (aJ (pv 1) aG)) aG)))
   (aI (bg (K:=K) (pv 0) (kn (aX (aO (K:=K) (pv 0) rfl) T.cl_Never T.me_Never_down_by_deed (B1 (K:=K) T) (hr.mono (by decide)) T.b_ag .nil aL (aJ (aO (K:=K) (pv 0) rfl) (aJ (bc (pv 0) T.cl_Thread T.me_cb (dF (K:=K) T) (hr.mono (by decide)) T.b_cb .nil aL) aG))) (kn (aX (aO (K:=K) (pv 0) rfl) T.cl_Each T.me_ai (AZ (K:=K) T) (hr.mono (by decide)) T.b_ai .nil aL (aJ (aO (K:=K) (pv 0) rfl) (aJ (bc (pv 0) T.cl_Thread T.me_cb (dF (K:=K) T) (hr.mono (by decide)) T.b_cb .nil aL) aG))) (aX (aO (K:=K) (pv 0) rfl) T.cl_Bundle T.me_ae (yJ (K:=K) T) (hr.mono (by decide)) T.b_ae .nil aL (aJ (aO (K:=K) (pv 0) rfl) (aJ (bc (pv 0) T.cl_Thread T.me_cb (dF (K:=K) T) (hr.mono (by decide)) T.b_cb .nil aL) aG))))) rfl))),?_⟩
  obtain⟨es,hd,evs⟩:=th.done
  refine⟨_,rfl,L.p,_,L.dx,_,.ref L.dn,rfl,th.self,T.cl_Thread,T.na_cm,rfl,?_⟩
  refine⟨.inl ⟨rfl,es,SqL.of hd⟩,_,rfl,G,e,Ev,rfl,th.held,ev,λ G' H' e' g s2 ev'=>?_⟩
  refine⟨L.dn,es,.ref e',rfl,rfl,s2 _ _ hd,bh (by rw[evs.1];lia),?_⟩
  have npd:L.p≠L.dn:=cU th.self hd (by simp)
  have npw:L.p≠L.wr:=cU th.self th.dc (by simp)
  have hp1:upd H' L.dn (.lst (es++[.ref e'])) L.p=some (.ins t.c_Thread L.dx (thF A.first L.ha L.dn L.wr A.down)):=by rw[aE npd];exact s2 _ _ th.self
  have hd1:upd H' L.dn (.lst (es++[.ref e'])) L.dn=some (.lst (es++[.ref e'])):=aD
  have len:((es++[V.ref e']).length:Int)=A.evs.length+1:=by rw[CA,evs.1];simp
  have gp':G' L.p=none:=g.free (by rw[th.self];simp) th.gp
  have gd':G' L.dn=none:=g.free (by rw[hd];simp) th.gd
  have gw':G' L.wr=none:=g.free (by rw[th.dc];simp) th.gw
  have habH:∀ b u,G b=some u->upd H' L.dn (.lst (es++[.ref e'])) b=some u:=λ b u z=>by
   rw[aE (aF z th.gd)];exact s2 _ _ (th.held _ _ z)
  have fin:∀ d',d'=A.hab.gv A.down (A.evs.length+1)->Q .non (upd (upd H' L.dn (.lst (es++[.ref e']))) L.p (.ins t.c_Thread L.dx (thF A.first L.ha L.dn L.wr d'))):=λ d' hd'=>by
   have held':aM G' (upd (upd H' L.dn (.lst (es++[.ref e']))) L.p (.ins t.c_Thread L.dx (thF A.first L.ha L.dn L.wr d'))):=λ b u z=>by
    rw[aE (aF z gp'),aE (aF z gd')];exact g.held _ _ z
   refine k G' _ ⟨g.sub,held',g.new⟩ (λ b u n z=>?_) ⟨?_,?_,⟨es++[.ref e'],?_,?_⟩,?_,held',gp',gd',gw',th.ne⟩
   ·simp only[Cz,CC,C2,EU] at n
    rw[aE n.1,aE n.2];exact s2 _ _ z
   ·rw[aD,hd']
   ·have hh:=th.hab
    revert hh
    cases A.hab<;>exact λ⟨dx,z⟩=>⟨dx,g.sub _ _ z⟩
   ·rw[aE (Ne.symm npd),aD]
   ·refine⟨by rw[CA,CA,evs.1];rfl,λ j x B hx hB=>?_⟩
    rw[List.getElem?_append] at hx hB
    by_cases hj:j<es.length
    ·rw[CG hj] at hx
     rw[CG (by rw[<- evs.1];exact hj)] at hB
     obtain⟨q,e1,e2⟩:=evs.2 j x B hx hB
     exact⟨q,e1,e2.same g.sub⟩
    ·rw[CD hj] at hx
     rw[CD (by rw[<- evs.1];exact hj)] at hB
     have lt:=(Cr.mp hx).1
     have:j-es.length=0:=by simp at lt;lia
     rw[this] at hx
     rw[<- evs.1,this] at hB
     cases hx;cases hB
     exact⟨e',rfl,ev'⟩
   ·show upd (upd H' L.dn _) L.p _ L.wr=some (.lst (iV A.ws))
    rw[aE (Ne.symm npw),aE (Ne.symm th.ne)];exact s2 _ _ th.dc
  have hb:=th.hab
  cases hA:A.hab with
  | never=>
   rw[hA] at hb
   obtain⟨dxh,hh'⟩:=hb
   refine .inl ⟨_,rfl,L.p,_,L.dx,_,.ref L.ha,rfl,hp1,T.cl_Thread,T.na_bx,rfl,L.ha,dxh,_,rfl,habH _ _ hh',rfl,?_⟩
   refine⟨_,rfl,L.p,_,L.dx,_,.int A.down,rfl,hp1,T.cl_Thread,T.na_cn,rfl,?_⟩
   refine⟨_,rfl,L.p,L.dx,_,rfl,hp1,rfl,L.p,L.dx,_,_,_,_,_,_,rfl,hp1,SqL.of hd1,_,_,_,rfl,?_⟩
   exact⟨_,rfl,L.p,_,L.dx,_,rfl,hp1,T.cl_Thread,T.na_cn,cO,fin _ (by rw[hA];rfl)⟩
  | each=>
   rw[hA] at hb
   obtain⟨dxh,hh'⟩:=hb
   refine .inr (.inl ⟨_,rfl,L.p,_,L.dx,_,.ref L.ha,rfl,hp1,T.cl_Thread,T.na_bx,rfl,L.ha,dxh,_,rfl,habH _ _ hh',rfl,?_⟩)
   refine⟨_,rfl,L.p,_,L.dx,_,.int A.down,rfl,hp1,T.cl_Thread,T.na_cn,rfl,?_⟩
   refine⟨_,rfl,L.p,L.dx,_,rfl,hp1,rfl,L.p,L.dx,_,_,_,_,_,_,rfl,hp1,SqL.of hd1,_,_,_,rfl,?_⟩
   exact⟨_,rfl,L.p,_,L.dx,_,rfl,hp1,T.cl_Thread,T.na_cn,cO,fin _ (by rw[hA];exact len)⟩
  | bundle n=>
   rw[hA] at hb
   obtain⟨dxh,hh'⟩:=hb
   refine .inr (.inr ⟨_,rfl,L.p,_,L.dx,_,.ref L.ha,rfl,hp1,T.cl_Thread,T.na_bx,rfl,L.ha,dxh,_,rfl,habH _ _ hh',rfl,?_⟩)
   refine⟨_,rfl,L.p,_,L.dx,_,.int A.down,rfl,hp1,T.cl_Thread,T.na_cn,rfl,?_⟩
   refine⟨_,rfl,L.p,L.dx,_,rfl,hp1,rfl,L.p,L.dx,_,_,_,_,_,_,rfl,hp1,SqL.of hd1,L.ha,dxh,n,_,_,rfl,habH _ _ hh',?_⟩
   exact⟨_,rfl,L.p,_,L.dx,_,rfl,hp1,T.cl_Thread,T.na_cn,cO,fin _ (by rw[hA,len];rfl)⟩
noncomputable def ThA.wrote (A:ThA):ThA:=if (A.evs.length:Int)∈A.ws then A else { A with ws:=A.ws++[(A.evs.length:Int)],down:=A.hab.dc A.down A.evs.length }
noncomputable def Bl (K:W.Frag) (t:Adr):Sp:=λ vs H Q _=>∃ G L A,vs=[.ref L.p]/\Th K t G H L A/\A.ws.length<=900 /\
 ∀ H',But [L.p,L.wr] H H'->Th K t G H' L A.wrote->Q .non H'
theorem Az (T:Txt K mg t):bq P w K mg base (CXr P w) 2 t.f_bi t.fd_bi ["self"] (Bl K t):=by
 refine T.F_bi.okN Be (λ vs H Q E h=>?_) (λ cdv A outer s H vs Q E hr h=>?_)
 ·obtain⟨G,L,A,rfl,_⟩:=h;rfl
 ·obtain⟨G,L,A,rfl,th,few,k⟩:=h
  refine⟨_,(aH (bH (bj (qz (K:=K)) (bc (pv 0) T.cl_Thread T.me_cb (dF (K:=K) T) (hr.mono (by decide)) T.b_cb .nil aL) (aO (K:=K) (pv 0) rfl) (by with_unfolding_all rfl))
    (aI oG)
    bp)
   (aH (aZ (cW (K:=K) Dl Dy Dx bU (aO (K:=K) (pv 0) rfl) (aJ (bc (pv 0) T.cl_Thread T.me_cb (dF (K:=K) T) (hr.mono (by decide)) T.b_cb .nil aL) aG)))
   (aI (bg (K:=K) (pv 0) (kn (aX (aO (K:=K) (pv 0) rfl) T.cl_Never T.me_Never_down_by_writing (vk (K:=K) T) (hr.mono (by decide)) T.b_ac .nil aL (aJ (aO (K:=K) (pv 0) rfl) (aJ (bc (pv 0) T.cl_Thread T.me_cb (dF (K:=K) T) (hr.mono (by decide)) T.b_cb .nil aL) aG))) (kn (aX (aO (K:=K) (pv 0) rfl) T.cl_Each T.me_Each_down_by_writing (vk (K:=K) T) (hr.mono (by decide)) T.b_ac .nil aL (aJ (aO (K:=K) (pv 0) rfl) (aJ (bc (pv 0) T.cl_Thread T.me_cb (dF (K:=K) T) (hr.mono (by decide)) T.b_cb .nil aL) aG))) (aX (aO (K:=K) (pv 0) rfl) T.cl_Bundle T.me_aa (yA (K:=K) T) (hr.mono (by decide)) T.b_aa .nil aL (aJ (aO (K:=K) (pv 0) rfl) (aJ (bc (pv 0) T.cl_Thread T.me_cb (dF (K:=K) T) (hr.mono (by decide)) T.b_cb .nil aL) aG))))) rfl)))),?_⟩
  obtain⟨es,hd,evs⟩:=th.done
  have fl:(iV A.ws).all dN=true:=by unfold iV;rw[Fn];exact D6.mpr λ _ _=>rfl
  refine⟨_,rfl,L.p,L.dx,_,rfl,th.self,rfl,L.p,L.dx,_,_,_,_,_,es,rfl,th.self,SqL.of hd,_,rfl,L.p,_,L.dx,_,.ref L.wr,rfl,th.self,T.cl_Thread,T.na_aw,rfl,L.wr,_,rfl,.inl (SqL.of th.dc),rfl,fl,_,rfl,?_⟩
  rw[CD (by simp),gh,evs.1]
  by_cases z:(A.evs.length:Int)∈A.ws
  ·rw[CZ z]
   refine cX (k H (But.of (aM.refl _)) ?_)
   unfold ThA.wrote;rw[CG z];exact th
  ·rw[DB z]
   refine dQ ?_
   refine⟨_,rfl,L.p,_,L.dx,_,.ref L.wr,rfl,th.self,T.cl_Thread,T.na_aw,rfl,.inl ⟨rfl,_,SqL.of th.dc⟩,?_⟩
   refine⟨_,rfl,L.p,L.dx,_,rfl,th.self,rfl,L.p,L.dx,_,_,_,_,_,es,rfl,th.self,SqL.of hd,L.wr,_,_,rfl,rfl,th.dc,bh (by unfold iV;rw[Cy];lia),?_⟩
   have npw:L.p≠L.wr:=cU th.self th.dc (by simp)
   have npd:L.p≠L.dn:=cU th.self hd (by simp)
   have eW:iV A.ws++[V.int es.length]=iV (A.ws++[(A.evs.length:Int)]):=by unfold iV;rw[CP,evs.1];rfl
   rw[eW]
   have hp1:upd H L.wr (.lst (iV (A.ws++[(A.evs.length:Int)]))) L.p=some (.ins t.c_Thread L.dx (thF A.first L.ha L.dn L.wr A.down)):=by rw[aE npw];exact th.self
   have hd1:upd H L.wr (.lst (iV (A.ws++[(A.evs.length:Int)]))) L.dn=some (.lst es):=by rw[aE th.ne];exact hd
   have habH:∀ b u,G b=some u->upd H L.wr (.lst (iV (A.ws++[(A.evs.length:Int)]))) b=some u:=λ b u z=>by
    rw[aE (aF z th.gw)];exact th.held _ _ z
   have len:(es.length:Int)=A.evs.length:=by rw[evs.1]
   have fin:∀ d',d'=A.hab.dc A.down A.evs.length->Q .non (upd (upd H L.wr (.lst (iV (A.ws++[(A.evs.length:Int)])))) L.p (.ins t.c_Thread L.dx (thF A.first L.ha L.dn L.wr d'))):=λ d' hd'=>by
    refine k _ (λ b u n q=>?_) ?_
    ·simp only[Cz,CC,C2,EU] at n
     rw[aE n.1,aE n.2];exact q
    ·unfold ThA.wrote
     rw[CD z]
     refine⟨?_,th.hab,⟨es,?_,evs⟩,?_,λ b u q=>?_,th.gp,th.gd,th.gw,th.ne⟩
     ·rw[aD,hd']
     ·rw[aE (Ne.symm npd)];exact hd1
     ·show upd (upd H L.wr _) L.p _ L.wr=_
      rw[aE (Ne.symm npw),aD]
     ·rw[aE (aF q th.gp)];exact habH _ _ q
   have hb:=th.hab
   cases hA:A.hab with
   | never=>
    rw[hA] at hb
    obtain⟨dxh,hh'⟩:=hb
    refine .inl ⟨_,rfl,L.p,_,L.dx,_,.ref L.ha,rfl,hp1,T.cl_Thread,T.na_bx,rfl,L.ha,dxh,_,rfl,habH _ _ hh',rfl,?_⟩
    refine⟨_,rfl,L.p,_,L.dx,_,.int A.down,rfl,hp1,T.cl_Thread,T.na_cn,rfl,?_⟩
    refine⟨_,rfl,L.p,L.dx,_,rfl,hp1,rfl,L.p,L.dx,_,_,_,_,_,_,rfl,hp1,SqL.of hd1,_,_,_,rfl,?_⟩
    exact⟨_,rfl,L.p,_,L.dx,_,rfl,hp1,T.cl_Thread,T.na_cn,cO,fin _ (by rw[hA];rfl)⟩
   | each=>
    rw[hA] at hb
    obtain⟨dxh,hh'⟩:=hb
    refine .inr (.inl ⟨_,rfl,L.p,_,L.dx,_,.ref L.ha,rfl,hp1,T.cl_Thread,T.na_bx,rfl,L.ha,dxh,_,rfl,habH _ _ hh',rfl,?_⟩)
    refine⟨_,rfl,L.p,_,L.dx,_,.int A.down,rfl,hp1,T.cl_Thread,T.na_cn,rfl,?_⟩
    refine⟨_,rfl,L.p,L.dx,_,rfl,hp1,rfl,L.p,L.dx,_,_,_,_,_,_,rfl,hp1,SqL.of hd1,_,_,_,rfl,?_⟩
    exact⟨_,rfl,L.p,_,L.dx,_,rfl,hp1,T.cl_Thread,T.na_cn,cO,fin _ (by rw[hA];rfl)⟩
   | bundle n=>
    rw[hA] at hb
    obtain⟨dxh,hh'⟩:=hb
    refine .inr (.inr ⟨_,rfl,L.p,_,L.dx,_,.ref L.ha,rfl,hp1,T.cl_Thread,T.na_bx,rfl,L.ha,dxh,_,rfl,habH _ _ hh',rfl,?_⟩)
    refine⟨_,rfl,L.p,_,L.dx,_,.int A.down,rfl,hp1,T.cl_Thread,T.na_cn,rfl,?_⟩
    refine⟨_,rfl,L.p,L.dx,_,rfl,hp1,rfl,L.p,L.dx,_,_,_,_,_,_,rfl,hp1,SqL.of hd1,_,_,_,rfl,?_⟩
    exact⟨_,rfl,L.p,_,L.dx,_,rfl,hp1,T.cl_Thread,T.na_cn,cO,fin _ (by rw[hA,len];rfl)⟩
noncomputable def ThA.cutAt (T:ThA) (p:Int):ThA:={ T with evs:=T.evs.take p.toNat,ws:=T.ws.filter (λ y=>decide (y<=p)),down:=min T.down p }
noncomputable def ThA.pt (T:ThA) (y:Int):Prop:=∃ w∈T.ws,y=w\/(w<y/\y<=T.down)
theorem ThA.kx {T:ThA}{j:Int}{F:List Int}{y:Int}(e:T.ws=j::F) (h:∀ y∈j::F,j<=y):T.pt y↔y∈j::F\/(j<=y/\y<=T.down):=by
 unfold ThA.pt
 rw[e]
 constructor
 ·rintro⟨J,G,z|z⟩
  ·rw[z];exact .inl G
  ·have:=h J G;exact .inr (by omega)
 ·rintro(z|z)
  ·exact⟨y,z,.inl rfl⟩
  ·by_cases q:y=j
   ·exact⟨j,CJ,.inl q⟩
   ·exact⟨j,CJ,.inr (by omega)⟩
theorem iD:iV ns++[V.int i]=iV (ns++[i]):=by unfold iV;rw[CP];rfl
theorem cz:(iV ns).length=ns.length:=by unfold iV;rw[Cy]
theorem g9 {ns:List Int}{i:Nat}{x:V}(h:(iV ns)[i]? = some x):∃ j,x=V.int j/\ns[i]? = some j:=by
 unfold iV at h
 rw[Cw] at h
 obtain⟨j,e,rfl⟩:=Df.mp h
 exact⟨j,rfl,e⟩
--@for k02 k03
noncomputable def uW (K:W.Frag) (t:Adr):Sp:=λ vs H Q _=>∃ p dx i ha dn wr d w0 ws xs y b,vs=[.ref p,.int y,.bl b]/\H p=some (.ins t.c_Thread dx (thF i ha dn wr d))/\H wr=some (.lst (iV (w0::ws)))/\SqL K H dn xs/\Q (.bl (decide ((b=true/\y=xs.length)\/y∈w0::ws\/(w0<=y/\y<=d)))) H
theorem uL (T:Txt K mg t):bq P w K mg base (CXr P w) 3 t.f_ay t.fd_ay ["self","place","stands"] (uW K t):=by
 refine T.F_ay.okN Ax (λ vs H Q E h=>?_) (λ U A outer s H vs Q E O h=>?_)
 ·obtain⟨p,dx,i,L,J,wr,d,j,F,xs,y,b,rfl,_⟩:=h;rfl
 ·obtain⟨p,dx,i,L,J,wr,d,j,F,xs,y,b,rfl,G,Y,W,k⟩:=h
  refine⟨_,(aH (bH (PW.pt (iL (bO (pv 2)) (gK (bO (aX (pv 0) T.cl_Thread T.me_ax (qU (K:=K) T) (O.mono (by decide)) T.b_ax .nil aL (aJ (pv 1) aG))))))
    (aI (aW eI))
    bp)
   (aI (aW (aX (pv 0) T.cl_Thread T.me_ap (uV (K:=K) T) (O.mono (by decide)) T.b_ap .nil aL (aJ (pv 1) aG))))),?_⟩
  have rest:Q (.bl (decide (y∈j::F\/(j<=y/\y<=d)))) H->(sD (lR t.c_Thread "is_point" (uU t) [] ER0 (cM 0) (ic (cM 1) nA))) { nx:=λ x H'=>Q V.non H',rt:=Q } [some (.ref p),some (.int y),some (.bl b)] H:=λ q=>
   ⟨_,rfl,p,dx,_,rfl,G,rfl,_,rfl,p,dx,i,L,J,wr,d,j,F,y,rfl,G,Y,q⟩
  refine⟨_,rfl,_,rfl,?_⟩
  cases b with
  | false=>
   refine dQ (dQ (rest ?_))
   have e:decide ((false=true/\y=(xs.length:Int))\/y∈j::F\/(j<=y/\y<=d))=decide (y∈j::F\/(j<=y/\y<=d)):=by rw[DV,C9,C9];simp
   rw[<- e];exact k
  | true=>
   refine cX ⟨_,rfl,p,dx,_,rfl,G,rfl,_,rfl,p,dx,i,L,J,wr,d,xs,y,rfl,G,W,_,rfl,?_⟩
   by_cases c:y=(xs.length:Int)
   ·refine du (CZ c) ?_
    have e:decide ((true=true/\y=(xs.length:Int))\/y∈j::F\/(j<=y/\y<=d))=true:=CZ (.inl ⟨rfl,c⟩)
    rw[e] at k;exact k
   ·refine bT (DB c) (rest ?_)
    have e:decide ((true=true/\y=(xs.length:Int))\/y∈j::F\/(j<=y/\y<=d))=decide (y∈j::F\/(j<=y/\y<=d)):=by
     rw[DV,C9,C9]
     exact⟨λ h=>h.elim (λ z=>absurd z.2 c) id,.inr⟩
    rw[<- e];exact k
theorem ip.take (h:ip K t G es As) (n):ip K t G (es.take n) (As.take n):=by
 refine⟨by rw[Dg,Dg,h.1],λ i e A a b=>?_⟩
 rw[List.getElem?_take] at a b
 split at a
 ·next j=>rw[CG j] at b;exact h.2 i e A a b
 ·cases a
theorem tM (h:0<=y):kN xs none (some y)=xs.take y.toNat:=by
 unfold kN
 show (xs.drop 0).take (HT.sIx xs.length xs.length (some y)-0)=_
 obtain⟨n,rfl⟩:∃ n:Nat,y=n:=⟨y.toNat,by lia⟩
 rw[HT.sX,List.drop_zero,Nat.sub_zero,Dm,Nat.min_comm,<- List.take_take]
 rw[FN (l:=xs.take n) (by rw[Dg];lia)]
noncomputable def uX (K:W.Frag) (t:Adr):Sp:=λ vs H Q E=>∃ G L A w0 ws y b,vs=[.ref L.p,.int y,.bl b]/\Th K t G H L A/\A.ws=w0::ws/\(∀ z∈w0::ws,w0<=z)/\0<=w0/\A.ws.length<=900 /\
 ((b=true/\y=A.evs.length)->Q .non H)/\(¬ (b=true/\y=A.evs.length)->A.pt y->∀ H' dn wr,But [L.p] H H'->H dn=none->H wr=none->Th K t G H' { L with dn:=dn,wr:=wr } (A.cutAt y)->Q .non H') /\
 (¬ (b=true/\y=A.evs.length)->¬ A.pt y->E (.ref t.c_NoPoint) none H)
theorem yO (T:Txt K mg t):bq P w K mg base (CXr P w) 4 t.f_cp t.fd_cp ["self","place","stands"] (uX K t):=by
 refine T.F_cp.okR AW (λ vs H Q E h=>?_) (λ a7 A outer s H vs Q E hh hr h=>?_)
 ·obtain⟨G,L,A,w0,ws,y,b,rfl,_⟩:=h;rfl
 ·obtain⟨G,L,A,w0,ws,y,b,rfl,th,ew,a1,h0,a8,k1,k2,k3⟩:=h
  refine⟨_,(aH (bH (b9 (bO (aX (pv 0) T.cl_Thread T.me_ay (uL (K:=K) T) (hr.mono (by decide)) T.b_ay .nil aL (aJ (pv 1) (aJ (pv 2) aG)))))
    (aI (iX hh rfl T.mg_NoPoint T.ex_NoPoint (aJ dk aG)))
    bp)
   (aH (bH (PW.pt (iL (bO (pv 2)) (gK (bO (aX (pv 0) T.cl_Thread T.me_ax (qU (K:=K) T) (hr.mono (by decide)) T.b_ax .nil aL (aJ (pv 1) aG))))))
    (aI oG)
    bp)
   (aH (bg (K:=K) (pv 0) (mf (mj (K:=K)) (aO (K:=K) (pv 0) rfl) oV (oS (pv 1))) rfl)
   (aH (bg (K:=K) (pv 0) (bR ["self","place","stands","writing"] 1 rfl (bP (K:=K) (aO (K:=K) (pv 0) rfl)) (λ _ _ _ _ _=>⟨(aR (i:=3) (show List.Nodup (["self","place","stands","writing"]:List Str) from by decide +kernel) rfl (Or.inl rfl)),(fH (bj jP (pv 3) (pv 1) (bx _))),(pv 3)⟩)) rfl)
   (aI (bg (K:=K) (pv 0) (bI (pf rfl) rfl T.no_min uS (aJ (aO (K:=K) (pv 0) rfl) (aJ (pv 1) aG))) rfl)))))),?_⟩
  obtain⟨es,hd,a3⟩:=th.done
  have hw:H L.wr=some (.lst (iV (w0::ws))):=by rw[<- ew];exact th.dc
  refine⟨_,rfl,L.p,L.dx,_,rfl,th.self,rfl,_,rfl,_,rfl,L.p,L.dx,_,_,_,_,_,w0,ws,es,y,b,rfl,th.self,hw,SqL.of hd,_,rfl,?_⟩
  have U:(es.length:Int)=A.evs.length:=by rw[a3.1]
  rw[U]
  by_cases c:b=true/\y=A.evs.length
  ·refine bT (by rw[CZ (Or.inl c)];rfl) ?_
   refine⟨_,rfl,_,rfl,du c.1 ⟨_,rfl,L.p,L.dx,_,rfl,th.self,rfl,_,rfl,L.p,L.dx,_,_,_,_,_,es,y,rfl,th.self,SqL.of hd,_,rfl,du (by rw[U];exact CZ c.2) (k1 c)⟩⟩
  ·by_cases p:A.pt y
   ·have p':=(ThA.kx ew a1).mp p
    refine bT (by rw[CZ (Or.inr p')];rfl) ?_
    have y0:0<=y:=by
     rcases p' with z|z
     ·have:=a1 y z;omega
     ·omega
    have a6:∀ D:Ends,D.nx [some (.ref L.p),some (.int y),some (.bl b)] H->sC (yR (tB (cM 2)) (tB (lR t.c_Thread "is_here" (uZ K t) [] ER0 (cM 0) (ic (cM 1) nA)))) vA rO D [some (.ref L.p),some (.int y),some (.bl b)] H:=λ D kd=>by
     refine⟨_,rfl,_,rfl,?_⟩
     by_cases hb:b=true
     ·refine du hb ⟨_,rfl,L.p,L.dx,_,rfl,th.self,rfl,_,rfl,L.p,L.dx,_,_,_,_,_,es,y,rfl,th.self,SqL.of hd,_,rfl,bT (DB λ z=>c ⟨hb,by rw[<- U];exact z⟩) kd⟩
     ·exact bT (by simpa using hb) (dQ kd)
    refine a6 _ ?_
    refine⟨_,rfl,L.p,_,L.dx,_,.ref L.dn,rfl,th.self,T.cl_Thread,T.na_cm,rfl,_,rfl,y,rfl,L.dn,es,rfl,SqL.of hd,λ F V=>?_⟩
    have a2:L.p≠F:=aF th.self V
    refine⟨_,rfl,L.p,_,L.dx,_,rfl,(by rw[aE a2];exact th.self),T.cl_Thread,T.na_cm,cO,?_⟩
    rw[tM y0]
    have e1:aP "done" (.ref F) (thF A.first L.ha L.dn L.wr A.down)=thF A.first L.ha F L.wr A.down:=rfl
    rw[e1]
    have O:upd (upd H F (.lst (es.take y.toNat))) L.p (.ins t.c_Thread L.dx (thF A.first L.ha F L.wr A.down)) L.p=some (.ins t.c_Thread L.dx (thF A.first L.ha F L.wr A.down)):=aD
    have Y:upd (upd H F (.lst (es.take y.toNat))) L.p (.ins t.c_Thread L.dx (thF A.first L.ha F L.wr A.down)) F=some (.lst (es.take y.toNat)):=by rw[aE (Ne.symm a2),aD]
    have b1:But [L.p] H (upd (upd H F (.lst (es.take y.toNat))) L.p (.ins t.c_Thread L.dx (thF A.first L.ha F L.wr A.down))):=λ q u n z=>by
     simp only[Cv] at n
     rw[aE n];exact aM.new V _ _ z
    have Z:=b1 _ _ (by simp only[Cv];exact Ne.symm (cU th.self th.dc (by simp))) th.dc
    generalize upd (upd H F (.lst (es.take y.toNat))) L.p (.ins t.c_Thread L.dx (thF A.first L.ha F L.wr A.down))=H1 at O Y b1 Z ⊢
    refine⟨_,rfl,L.p,_,L.dx,_,.ref L.wr,rfl,O,T.cl_Thread,T.na_aw,rfl,L.wr,rfl,⟨_,SqL.of Z⟩,cj (xs:=iV A.ws) (by rw[cz];omega) λ acc J=>⟨λ i W zs H2=>zs=iV ((A.ws.take i).filter (λ z=>decide (z<=y)))/\H2=upd H1 acc (.lst zs)/\∃ o,W=[some (.ref L.p),some (.int y),some (.bl b),o],⟨rfl,rfl,_,rfl⟩,?_,?_,?_⟩⟩
    ·rintro i W zs H2 hi ⟨rfl,rfl,_⟩
     refine⟨SqL.of (aM.new J _ _ Z),?_⟩
     rw[cz]
     exact CV (DI _ _) (by rw[Dg];omega)
    ·rintro i x W zs H2 hi hx ⟨rfl,rfl,o,rfl⟩
     obtain⟨j,rfl,hj⟩:=g9 hx
     dsimp only[ck]
     have et:A.ws.take (i+1)=A.ws.take i++[j]:=by rw[D7,hj];rfl
     refine⟨_,rfl,_,rfl,_,_,rfl,rfl,_,rfl,dy (λ z=>?_) λ z=>?_⟩
     ·have jy:=Dr z
      refine⟨_,rfl,aD,Nx.mk hi ⟨?_,by rw[dH],_,rfl⟩⟩
      rw[et,Ei,D8 (by simpa using jy),FR,iD]
     ·have jy:¬ j<=y:=λ q=>z (CZ q)
      refine Nx.mk hi ⟨?_,rfl,_,rfl⟩
      rw[et,Ei,D9 (by simpa using jy),FR,D2]
    ·rintro W zs H2 ⟨rfl,rfl,o,rfl⟩
     rw[cz,ES]
     have a5:L.p≠acc:=aF O J
     refine⟨_,rfl,L.p,_,L.dx,_,rfl,(by rw[aE a5];exact O),T.cl_Thread,T.na_aw,cO,?_⟩
     have e2:aP "writings" (.ref acc) (thF A.first L.ha F L.wr A.down)=thF A.first L.ha F acc A.down:=rfl
     rw[e2]
     refine⟨_,rfl,L.p,_,L.dx,_,.int A.down,rfl,aD,T.cl_Thread,T.na_cn,rfl,_,rfl,_,_,rfl,?_⟩
     refine⟨_,rfl,L.p,_,L.dx,_,rfl,aD,T.cl_Thread,T.na_cn,cO,?_⟩
     rw[dH,sO]
     have em:(if y<A.down then y else A.down)=min A.down y:=by split<;>omega
     rw[em]
     have a4:F≠acc:=aF Y J
     have Ha:H acc=none:=by
      cases q:H acc with
      | none=>rfl
      | some u=>exact absurd J (by
        by_cases z:acc=L.p
        ·rw[z,O];simp
        ·rw[b1 _ _ (by simpa using z) q];simp)
     have gN:∀ {q:Addr},H q=none->G q=none:=λ{q} z=>by
      cases e:G q with
      | none=>rfl
      | some u=>rw[th.held _ _ e] at z;cases z
     have b3:But [L.p] H (upd (upd H1 acc (.lst (iV (A.ws.filter (λ z=>decide (z<=y)))))) L.p (.ins t.c_Thread L.dx (thF A.first L.ha F acc (min A.down y)))):=λ q u n z=>by
      have n':=n
      simp only[Cv] at n'
      rw[aE n'];exact aM.new J _ _ (b1 _ _ n z)
     refine k2 c p _ F acc b3 V Ha ⟨?_,th.hab,⟨es.take y.toNat,?_,a3.take _⟩,?_,b3.same th.held (λ q hq=>by rw[Cv] at hq;rw[hq];exact th.gp),th.gp,gN V,gN Ha,a4⟩
     ·rw[aD];rfl
     ·show upd _ L.p _ F=_
      rw[aE (Ne.symm a2),aE a4];exact Y
     ·show upd _ L.p _ acc=some (.lst (iV (A.ws.filter (λ z=>decide (z<=y)))))
      rw[aE (Ne.symm a5),aD]
   ·have p':¬ ((b=true/\y=(A.evs.length:Int))\/y∈w0::ws\/(w0<=y/\y<=A.down)):=λ z=>z.elim c λ q=>p ((ThA.kx ew a1).mpr q)
    exact du (by rw[DB p'];rfl) ⟨by decide,k3 c p⟩
--@all
noncomputable def mZ (ws:List Int) (p k:Int):Prop:=(k=0/\∀ w∈ws,p<w)\/(k∈ws/\k<=p/\∀ w∈ws,w<=p->w<=k)
--@for k03
noncomputable def zo (K:W.Frag) (t:Adr):Sp:=λ vs H Q _=>∃ G L A y,vs=[.ref L.p,.int y]/\Th K t G H L A/\A.ws.length<=900 /\
 ∀ kp H' wr,mZ A.ws y kp->But [L.p] H H'->H wr=none->Th K t G H' { L with wr:=wr } { A with ws:=A.ws.filter (λ z=>decide (z >= kp)) }->Q .non H'
theorem zK (T:Txt K mg t):bq P w K mg base (CXr P w) 1 t.f_ah t.fd_ah ["self","place"] (zo K t):=by
 refine T.F_ah.okN uJ (λ vs H Q E h=>?_) (λ a4 A outer s H vs Q E hr h=>?_)
 ·obtain⟨G,L,A,y,rfl,_⟩:=h;rfl
 ·obtain⟨G,L,A,y,rfl,th,a5,k⟩:=h
  refine⟨_,(aH (aY (i:=2) uJ.nd rfl (Or.inr rfl) (tZ (K:=K) rfl rfl T.no_max Ba (aJ (bR ["self","place","kept","writing"] 1 rfl (bP (K:=K) (aO (K:=K) (pv 0) rfl)) (λ _ _ _ _ _=>⟨(aR (i:=3) (show List.Nodup (["self","place","kept","writing"]:List Str) from by decide +kernel) rfl (Or.inl rfl)),(fH (bj jP (pv 3) (pv 1) (bx _))),(pv 3)⟩)) aG) (oQ aN qw)))
   (aI (bg (K:=K) (pv 0) (bR ["self","place","kept","writing"] 1 rfl (bP (K:=K) (aO (K:=K) (pv 0) rfl)) (λ _ _ _ _ _=>⟨(aR (i:=3) (show List.Nodup (["self","place","kept","writing"]:List Str) from by decide +kernel) rfl (Or.inl rfl)),(fH (bj jz (pv 3) (pv 2) (bx _))),(pv 3)⟩)) rfl))),?_⟩
  have go:∀ J acc ns,H acc=none->mZ A.ws y J->wt K (cM 0) (nU (oH K (lS K (cM 0) "writings")) 1 (ck 3) (rQ (tOp (rI0 λ i j=>V.bl (decide (i >= j))) (cM 3) (cM 2))) (cM 3)) "writings" { nx:=λ x H'=>Q V.non H',rt:=Q } [some (.ref L.p),some (.int y),some (.int J)] (upd H acc (.lst ns)):=λ J acc ns na W=>by
   have O:aM H (upd H acc (.lst ns)):=aM.new na
   generalize upd H acc (.lst ns)=H1 at O ⊢
   have w1:=O _ _ th.dc
   refine⟨_,rfl,L.p,_,L.dx,_,.ref L.wr,rfl,O _ _ th.self,T.cl_Thread,T.na_aw,rfl,L.wr,rfl,⟨_,SqL.of w1⟩,jT (ns:=A.ws) (p:=λ z=>decide (z >= J)) (σ:=[some (.ref L.p),some (.int y),some (.int J)]) (by lia) (SqL.of w1) (λ j _ acc xs R _ q=>⟨_,rfl,_,rfl,_,_,rfl,rfl,_,rfl,q⟩) λ F n2=>?_⟩
   have Y:L.p≠F:=aF (O _ _ th.self) n2
   refine⟨_,rfl,L.p,_,L.dx,_,rfl,(by rw[aE Y];exact O _ _ th.self),T.cl_Thread,T.na_aw,cO,?_⟩
   have e2:aP "writings" (.ref F) (thF A.first L.ha L.dn L.wr A.down)=thF A.first L.ha L.dn F A.down:=rfl
   rw[e2]
   have Z:H F=none:=by
    cases q:H F with
    | none=>rfl
    | some u=>rw[O _ _ q] at n2;cases n2
   have gN:G F=none:=by
    cases e:G F with
    | none=>rfl
    | some u=>rw[th.held _ _ e] at Z;cases Z
   have b3:But [L.p] H (upd (upd H1 F (.lst (iV (A.ws.filter (λ z=>decide (z >= J)))))) L.p (.ins t.c_Thread L.dx (thF A.first L.ha L.dn F A.down))):=λ q u n z=>by
    have n':=n
    simp only[Cv] at n'
    rw[aE n'];exact aM.new n2 _ _ (O _ _ z)
   obtain⟨es,hd,a1⟩:=th.done
   have a3:L.p≠L.dn:=cU th.self hd (by simp)
   refine k J _ F W b3 Z ⟨?_,th.hab,⟨es,?_,a1⟩,?_,b3.same th.held (λ q hq=>by rw[Cv] at hq;rw[hq];exact th.gp),th.gp,th.gd,gN,aF hd Z⟩
   ·rw[aD]
   ·exact b3 _ _ (by simp only[Cv];exact Ne.symm a3) hd
   ·show upd _ L.p _ F=some (.lst (iV (A.ws.filter (λ z=>decide (z >= J)))))
    rw[aE (Ne.symm Y),aD]
  refine⟨_,rfl,L.p,_,L.dx,_,.ref L.wr,rfl,th.self,T.cl_Thread,T.na_aw,rfl,L.wr,rfl,⟨_,SqL.of th.dc⟩,jT (ns:=A.ws) (p:=λ z=>decide (z<=y)) (σ:=[some (.ref L.p),some (.int y),none]) (by lia) (SqL.of th.dc) (λ j _ acc xs R _ q=>⟨_,rfl,_,rfl,_,_,rfl,rfl,_,rfl,q⟩) λ acc na=>⟨acc,_,_,rfl,rfl,SqL.of aD,λ e0=>?_,λ m U=>?_⟩⟩
  ·refine go 0 acc _ na (.inl ⟨rfl,λ w hw=>?_⟩)
   have:=FO.mp e0 w hw
   have:¬ w<=y:=by simpa using this
   lia
  ·refine go m acc _ na (.inr ⟨(Dj.mp U.1).1,Dr (Dj.mp U.1).2,λ w hw hy=>U.2 w (Dj.mpr ⟨hw,CZ hy⟩)⟩)
--@all
noncomputable def nC (K:W.Frag):Sp:=λ vs H Q _=>∃ a ns k,vs=[.ref a,.int k]/\SqL K H a (iV ns)/\0<=k/\∀ c:Int,Q (.int c) H
theorem jG (T:Txt K mg t):bq P w K mg base (CXr P w) 1 t.f_bj t.fd_bj ["_law_script","_law_k"] (nC K):=by
 refine T.F_bj.okN z0 (λ vs H Q E h=>?_) (λ L A outer s H vs Q E O h=>?_)
 ·obtain⟨a,j,k,rfl,_⟩:=h;rfl
 ·obtain⟨a,j,k,rfl,J,h0,q⟩:=h
  refine⟨_,(aH (bH (bj n6 (pv 1) (bI (dh (K:=K)) rfl T.no_len jJ (aJ (pv 0) aG)) (bx _))
    (aI (aW (bo (br (K:=K)) (pv 0) (pv 1) (λ _ _=>rfl))))
    bp)
   (aI (aW aN))),?_⟩
  refine⟨_,rfl,_,rfl,a,_,rfl,.inl J,_,_,rfl,rfl,_,rfl,dy (λ z=>?_) λ _=>q 0⟩
  have F:k<(iV j).length:=Dr z
  have G:k.toNat<j.length:=by unfold iV at F;rw[Cy] at F;lia
  refine⟨_,rfl,_,rfl,a,_,k,.int j[k.toNat],rfl,rfl,J,?_,q _⟩
  unfold atI ixN
  rw[CG h0,CG F]
  show (iV j)[k.toNat]? = _
  unfold iV
  rw[Cw,Cs G]
  rfl
noncomputable def rY:Sp:=λ vs H Q _=>∃ c k:Int,vs=[.int c,.int k]/\0<=k/\k<=1000/\∀ c:Int,Q (.int c) H
theorem jj (T:Txt K mg t):bq P w K mg base (CXr P w) 1 t.f_cq t.fd_cq ["_law_cell","_law_k"] rY:=by
 refine T.F_cq.okN oE (λ vs H Q E h=>?_) (λ F A outer s H vs Q E G h=>?_)
 ·obtain⟨c,k,rfl,_⟩:=h;rfl
 ·obtain⟨c,k,rfl,h0,h1,q⟩:=h
  refine⟨_,(aH (aY (i:=2) oE.nd rfl (Or.inl rfl) (aU bS (aU eU (aU bN (aU bN (aU gg (pv 0) aN) (aU eU aN (pv 1))) aN) aN) aN))
   (aH (aY (i:=2) oE.nd rfl (Or.inl rfl) (aU bS (aU eU (pv 2) (aU bN (aU df (pv 2) aN) aN)) aN))
   (aH (aY (i:=2) oE.nd rfl (Or.inl rfl) (aU bS (aU eU (pv 2) (aU bN (aU df (pv 2) aN) aN)) aN))
   (aI (aW (aU wC (pv 2) (aU gg (aU jk (pv 0) (aU bN (aU eU aN (pv 1)) aN)) aN))))))),?_⟩
  refine⟨_,rfl,_,_,rfl,rfl,_,rfl,_,_,rfl,rfl,.inl ⟨by decide,by decide⟩,_,_,rfl,rfl,_,_,rfl,rfl,_,_,rfl,rfl,.inr ⟨by decide,by decide⟩,_,_,rfl,rfl,by show (0:Int)<2147483647;decide,?_⟩
  have j:∀ x:Int,-(2 ^ 64)<x%2147483647/\x%2147483647<2 ^ 64:=λ x=>by
   have h1:=DU x (b:=2147483647) (by decide)
   have h2:=DE x (b:=2147483647) (by decide)
   lia
  refine⟨_,rfl,_,rfl,_,_,rfl,rfl,⟨by decide,by decide⟩,_,_,rfl,rfl,_,_,rfl,rfl,.inl (j _),_,_,rfl,rfl,by show (0:Int)<2147483647;decide,?_⟩
  refine⟨_,rfl,_,rfl,_,_,rfl,rfl,⟨by decide,by decide⟩,_,_,rfl,rfl,_,_,rfl,rfl,.inl (j _),_,_,rfl,rfl,by show (0:Int)<2147483647;decide,?_⟩
  exact⟨_,rfl,_,rfl,_,rfl,_,_,rfl,rfl,.inl ⟨by decide,by decide⟩,_,_,rfl,rfl,_,_,rfl,rfl,by show (0:Int)<=31*k+31;lia,_,_,rfl,rfl,_,_,rfl,rfl,q _⟩
theorem gU.same (s:aM G G') (h:gU t G ha hb):gU t G' ha hb:=by
 cases hb<;>exact let ⟨dx,z⟩:=h;⟨dx,s _ _ z⟩
theorem Th.keep (h:Th K t G H L A) (q:aM G G') (s':aM G' H') (j:∀ b o,b∈[L.p,L.dn,L.wr]->H b=some o->H' b=some o) (n:∀ b∈[L.p,L.dn,L.wr],G' b=none):Th K t G' H' L A:=by
 obtain⟨es,h1,h2⟩:=h.done
 exact⟨j _ _ (by simp) h.self,h.hab.same q,⟨es,j _ _ (by simp) h1,h2.same q⟩,j _ _ (by simp) h.dc,s',n _ (by simp),n _ (by simp),n _ (by simp),h.ne⟩
noncomputable def zG:Sp:=λ vs H Q _=>∃ b x y z,vs=[.ref b]/\H b=some (.tup [.int x,.int y,.int z])/\∀ H',aM H H'->Q (.bl true) H'
theorem uP (T:Txt K mg t):bq P w K mg base (CXr P w) 2 t.f_dn t.fd_dn ["value"] zG:=by
 refine T.F_dn.okN zc (λ vs H Q E h=>?_) (λ U A outer s H vs Q E W h=>?_)
 ·obtain⟨b,x,y,z,rfl,_⟩:=h;rfl
 ·obtain⟨b,x,y,z,rfl,L,k⟩:=h
  refine⟨_,(aH (bH (PW.pt (eX (b9 (bO (bI (cZ (K:=K)) rfl T.no_isinstance da (aJ (pv 0) (aJ (iz (v:=.ty "tuple") rfl T.no_tuple nW rfl) aG))))) (fD (bj qO (bI (dh (K:=K)) rfl T.no_len jJ (aJ (pv 0) aG)) aN (bx _)))))
    (aI (aW eI))
    bp)
   (aI (aW (bI (jB rfl (K:=K)) rfl T.no_all vi (aJ (bR ["value","part"] 1 rfl (t8 (K:=K) (pv 0)) (λ _ _ _ _ _=>⟨(aR (i:=1) (show List.Nodup (["value","part"]:List Str) from by decide +kernel) rfl (Or.inl rfl)),bX,(aV (kQ (K:=K) T) (W.mono (by decide)) rfl T.mg_dg T.kp_dg T.b_dg .nil aL (aJ (pv 1) aG))⟩)) aG))))),?_⟩
  refine⟨_,rfl,_,_,.plain (.tup L),eP _ _,_,rfl,dQ ⟨_,rfl,_,_,rfl,.inr (SqT.of L),rfl,_,rfl,bT (by simp) ?_⟩⟩
  refine⟨_,rfl,b,rfl,⟨_,SqT.of L⟩,rr (xs:=[.int x,.int y,.int z]) (by show 3<=1000;decide) λ acc G=>⟨λ i F ys H2=>ys=List.replicate i (V.bl true)/\H2 acc=some (.lst ys)/\aM H H2/\∃ o,F=[some (.ref b),o],⟨rfl,aD,aM.new G,_,rfl⟩,?_,?_,?_⟩⟩
  ·rintro i F ys H2 hi ⟨rfl,_,J,_⟩
   exact⟨J.tup (SqT.of L),by simp⟩
  ·rintro i v F ys H2 hi q ⟨rfl,O,J,o,rfl⟩
   obtain⟨j,rfl⟩:∃ j,v=.int j:=by
    match i,q with
    | 0,q=>exact⟨x,by simpa using q.symm⟩
    | 1,q=>exact⟨y,by simpa using q.symm⟩
    | 2,q=>exact⟨z,by simpa using q.symm⟩
    | n+3,q=>simp at q
   dsimp only[ck,fO]
   refine cX ⟨_,rfl,j,rfl,O,Nx.mk hi ⟨?_,aD,λ b u e=>?_,_,rfl⟩⟩
   ·rw[F0]
   ·rw[aE (aF e G)];exact J _ _ e
  ·rintro F ys H2 ⟨rfl,O,J,o,rfl⟩
   exact⟨acc,[true,true,true],rfl,SqL.of O,k H2 J⟩
noncomputable def cd3 (n:Nm3):Int:=n.1*1000000+n.2.1*1000+n.2.2
noncomputable def Small (n:Nm3):Prop:=0<=n.2.1/\n.2.1<1000/\0<=n.2.2/\n.2.2<1000
theorem oZ (j:Small a) (q:Small b) (h:cd3 a=cd3 b):a=b:=by
 obtain⟨x,y,z⟩:=a
 obtain⟨F,G,J⟩:=b
 unfold cd3 at h
 unfold Small at j q
 dsimp only at h j q
 have:x=F:=by lia
 have:y=G:=by lia
 have:z=J:=by lia
 subst F;subst G;subst J;rfl
noncomputable def pN (l:List Nm3):Prop:=l.Pairwise λ a b=>cd3 a<cd3 b
noncomputable def nk (n:Nm3):List Key:=[.inl n.1,.inl n.2.1,.inl n.2.2]
structure cF where
 (nm:Nm3) (adr:Addr) (to wd:Int)
structure DiL where
 (po ta wy:Addr)
structure DiA where
 po:List cF
 ta:List (Nm3×Int)
 wy:List ((Int×Int)×Addr×List Nm3)
noncomputable def wk (k:Int×Int):List Key:=[.inl k.1,.inl k.2]
noncomputable def DiL.own (L:DiL) (A:DiA):List Addr:=[L.po,L.ta,L.wy]++A.wy.map (·.2.1)
structure Di (G H:Hp) (L:DiL) (A:DiA):Prop where
 po:H L.po=some (.dT (A.po.map λ l=>(nk l.nm,V.ref l.adr)))
 ta:H L.ta=some (.dT (A.ta.map λ e=>(nk e.1,V.int e.2)))
 wy:H L.wy=some (.dT (A.wy.map λ e=>(wk e.1,V.ref e.2.1)))
 ways:∀ e∈A.wy,H e.2.1=some (.dT (e.2.2.map λ n=>(nk n,V.bl true)))
 lets:∀ l∈A.po,G l.adr=some (.tup [.int l.to,.int l.wd])
 held:aM G H
 nd:(L.own A).Nodup
 gn:∀ b∈L.own A,G b=none
structure WfD (m:Int) (c:Int->Int) (A:DiA):Prop where
 nd:(A.po.map (·.nm)).Nodup
 nt:(A.ta.map (·.1)).Nodup
 rg:∀ l∈A.po,0<=l.nm.1/\l.nm.1<m/\1<=l.nm.2.1/\l.nm.2.1<=c l.nm.1/\0<=l.nm.2.2/\l.nm.2.2<3/\0<=l.to/\l.to<m
 wn:(A.wy.map (·.1)).Nodup
 wi:∀ e∈A.wy,∀ n,n∈e.2.2↔∃ l∈A.po,l.nm=n/\n.1=e.1.1/\l.to=e.1.2/\n∉A.ta.map (·.1)
 wd:∀ e∈A.wy,e.2.2.Nodup
 wa:∀ l∈A.po,l.nm∉A.ta.map (·.1)->∃ e∈A.wy,e.1=(l.nm.1,l.to)
 t1:∀ e∈A.ta,1<=e.2
noncomputable def loF (dz:Addr) (many:Int) (ord:Bool) (lt lg:Addr) (D:DiL):List (Str×V):=
 [("does",.ref dz),("many",.int many),("ordered",.bl ord),("threads",.ref lt),("log",.ref lg),("posted",.ref D.po),("taken",.ref D.ta),("ways",.ref D.wy)]
noncomputable def vv (t:Adr):Sp:=λ vs H Q _=>∃ p dx dz m o lt lg D h,vs=[.ref p,.int h]/\H p=some (.ins t.c_Loom dx (loF dz m o lt lg D))/\0<=h/\h<m/\Q .non H
theorem lO (T:Txt K mg t):bq P w K mg base (CXr P w) 2 t.f_ar t.fd_ar ["self","hand"] (vv t):=by
 refine T.F_ar.okN Bi (λ vs H Q E h=>?_) (λ j A outer s H vs Q E G h=>?_)
 ·obtain⟨p,dx,q,m,o,L,J,D,h,rfl,_⟩:=h;rfl
 ·obtain⟨p,dx,q,m,o,L,J,D,h,rfl,F,h0,h1,k⟩:=h
  refine⟨_,(aI (bH (PW.pt (eX (b9 (bO (aV (kQ (K:=K) T) (G.mono (by decide)) rfl T.mg_dg T.kp_dg T.b_dg .nil aL (aJ (pv 1) aG)))) (eX (bj n6 (pv 1) aN (bx _)) (fD (bj jz (pv 1) (aO (K:=K) (pv 0) rfl) (bx _))))))
    (aI gG)
    bp)),?_⟩
  refine⟨_,rfl,h,rfl,true,rfl,dQ ⟨_,rfl,_,_,rfl,rfl,_,rfl,bT (by simpa using h0) ⟨_,rfl,_,rfl,p,_,dx,_,_,rfl,F,T.cl_Loom,T.na_de,rfl,_,_,rfl,rfl,_,rfl,bT (by simpa using h1) k⟩⟩⟩
noncomputable def qx (t:Adr):Sp:=λ vs H Q _=>∃ p dx dz m o lt lg D,∃ j:Nat,∃ r q qs xs dxq i ha dn wr d es,vs=[.ref p,.int j,.ref r]/\H p=some (.ins t.c_Loom dx (loF dz m o lt lg D))/\H lt=some (.lst qs)/\H lg=some (.lst xs)/\xs.length<=900/\qs[j]? = some (.ref q) /\
 H q=some (.ins t.c_Thread dxq (thF i ha dn wr d))/\H dn=some (.lst es)/\∀ e pl H',But [lg] H H'->H' lg=some (.lst (xs++[.ref e]))->H' e=some (.tup [.ref r,.int pl])->Q .non H'
theorem rH (T:Txt K mg t):bq P w K mg base (CXr P w) 2 t.f_bf t.fd_bf ["self","hand","row"] (qx t):=by
 refine T.F_bf.okN Bf (λ vs H Q E h=>?_) (λ a1 A outer s H vs Q E hr h=>?_)
 ·obtain⟨p,dx,dz,m,o,Y,W,D,j,r,q,Z,xs,F,i,U,L,wr,d,es,rfl,_⟩:=h;rfl
 ·obtain⟨p,dx,dz,m,o,Y,W,D,j,r,q,Z,xs,F,i,U,L,wr,d,es,rfl,V,hl,G,a2,hq,O,hd,k⟩:=h
  refine⟨_,(aI (aZ (cW (K:=K) Dl Dy Dx bU (aO (K:=K) (pv 0) rfl) (aJ (cB (aJ (pv 2) (aJ (bc (bo (br (K:=K)) (aO (K:=K) (pv 0) rfl) (pv 1) (λ _ _=>rfl)) T.cl_Thread T.me_cb (dF (K:=K) T) (hr.mono (by decide)) T.b_cb .nil aL) aG))) aG)))),?_⟩
  refine⟨_,rfl,p,_,dx,_,_,rfl,V,T.cl_Loom,T.na_dl,rfl,.inl ⟨rfl,xs,SqL.of G⟩,_,rfl,?_⟩
  refine⟨_,rfl,p,_,dx,_,_,rfl,V,T.cl_Loom,T.na_bv,rfl,_,rfl,Y,Z,j,.ref q,rfl,rfl,SqL.of hl,cR hq,q,F,_,rfl,O,rfl,?_⟩
  refine⟨q,F,i,U,L,wr,d,es,rfl,O,SqL.of hd,by show 2<=sizeLine;decide,λ b J=>?_⟩
  refine⟨W,xs,.ref b,rfl,rfl,by rw[aE (aF G J)];exact G,bh (by lia),k _ _ _ (λ c u n e=>?_) aD (by rw[aE (aF G J).symm];exact aD)⟩
  rw[aE (by simpa using n),aE (aF e J)];exact e
theorem cG {α κ:Type} [DecidableEq κ] (f:α->κ) (g:α->V):∀ {l:List α}{a:α},(l.map f).Nodup->a∈l->bV (l.map λ x=>(f x,g x)) (f a)=some (g a)
 | [],_,_,h=>by cases h
 | x::l,a,nd,h=>by
  rw[Dc] at nd ⊢
  obtain⟨n1,n2⟩:=DM.mp nd
  by_cases e:f x=f a
  ·rw[eO e]
   rcases Cz.mp h with rfl|h
   ·rfl
   ·exact absurd (show f x∈l.map f by rw[e];exact CN h) n1
  ·rw[dW e]
   rcases Cz.mp h with rfl|h
   ·exact absurd rfl e
   ·exact cG f g n2 h
theorem dZ [DecidableEq κ] (f:α->κ) (g:α->V):∀ {l:List α},(∀ x∈l,f x≠k)->bV (l.map λ x=>(f x,g x)) k=none
 | [],_=>rfl
 | x::l,h=>by
  rw[Dc,dW (h x CJ)]
  exact dZ f g λ y j=>h y (CH _ j)
theorem dD {q F G:Type}{f:q->F}{g:F->G}{l:List q}(j:∀ a b,g a=g b->a=b) (h:(l.map f).Nodup):(l.map λ x=>g (f x)).Nodup:=by
 unfold List.Nodup at h ⊢
 rw[DR] at h ⊢
 exact h.imp λ h e=>h (j _ _ e)
theorem vr {q F:Type}{g:q->F}{l:List q}(j:∀ a b,g a=g b->a=b) (h:l.Nodup):(l.map g).Nodup:=by
 unfold List.Nodup at h ⊢
 rw[DR]
 exact h.imp λ h e=>h (j _ _ e)
theorem cC (a b:Nm3) (h:nk a=nk b):a=b:=by
 obtain⟨x,y,z⟩:=a
 obtain⟨j,q,F⟩:=b
 simp only[nk,List.cons.injEq,Sum.inl.injEq] at h
 obtain⟨rfl,rfl,rfl,_⟩:=h
 rfl
theorem mY (a b:Int×Int) (h:wk a=wk b):a=b:=by
 obtain⟨x,y⟩:=a
 obtain⟨j,q⟩:=b
 simp only[wk,List.cons.injEq,Sum.inl.injEq] at h
 obtain⟨rfl,rfl,_⟩:=h
 rfl
theorem vp {H:Hp}{b:Addr}{n:Nm3}(h:H b=some (.tup (nV n))):Rp K H (.ref b) (.tuple [.int n.1,.int n.2.1,.int n.2.2]):=.tup (SqT.of h) (.cons (.int _) (.cons (.int _) (.cons (.int _) .nil)))
noncomputable def yx (t:Adr):Sp:=λ vs H Q _=>∃ G p dx dz m o lt lg D A h b n e,vs=[.ref p,.int h,.ref b]/\H p=some (.ins t.c_Loom dx (loF dz m o lt lg D))/\Di G H D A/\H b=some (.tup (nV n))/\e∈A.wy/\(A.wy.map (·.1)).Nodup/\e.1=(n.1,h)/\n∈e.2.2/\e.2.2.Nodup/\(∀ m∈e.2.2,Small m)/\(o=true->∀ m∈e.2.2,cd3 n<=cd3 m) /\
 ∀ H',aM H H'->Q (.bl true) H'
theorem yq (T:Txt K mg t):bq P w K mg base (CXr P w) 3 t.f_bk t.fd_bk ["self","hand","name"] (yx t):=by
 refine T.F_bk.okN vz (λ vs H Q E h=>?_) (λ cdv A outer s H vs Q E hr h=>?_)
 ·obtain⟨G,p,dx,dz,m,o,lt,lg,D,A,h,b,n,e,rfl,_⟩:=h;rfl
 ·obtain⟨G,p,dx,dz,m,o,lt,lg,D,Di,h,b,n,e,rfl,hp,di,hb,he,wn,ek,hn,en,sm,od,k⟩:=h
  refine⟨_,(aH (bH (b9 (bO (aV (uP (K:=K) T) (hr.mono (by decide)) rfl T.mg_dn T.kp_dn T.b_dn .nil aL (aJ (pv 2) aG))))
    (aI (aW eI))
    bp)
   (aH (aY (i:=3) vz.nd rfl (Or.inl rfl) (rC (cm hr) (aO (K:=K) (pv 0) rfl) (cB (aJ (bo (bz (K:=K)) (pv 2) aN (λ _ _=>rfl)) (aJ (pv 1) aG))) qL ⟨rfl,rfl,rfl,rfl⟩))
   (aH (bH (j7 (fK (cm hr) (pv 2) (pv 3)))
    (aI (aW eI))
    bp)
   (aI (aW (zy (mQ (aO (K:=K) (pv 0) rfl)) (jc (cI (tS (K:=K) hr.units) (pv 2) (bI (ph rfl (cm hr)) rfl T.no_min uS (aJ (pv 3) aG)) (bx _))))))))),?_⟩
  refine⟨_,rfl,b,n.1,n.2.1,n.2.2,rfl,hb,λ H1 s1=>⟨true,rfl,dQ ?_⟩⟩
  refine⟨_,rfl,p,_,dx,_,_,rfl,s1 _ _ hp,T.cl_Loom,T.na_df,rfl,D.wy,rfl,.inr ⟨_,.inl (s1 _ _ di.wy)⟩,?_⟩
  refine⟨_,rfl,b,nV n,0,.int n.1,rfl,rfl,SqT.of (s1 _ _ hb),bM,_,rfl,by show 2<=sizeLine;decide,λ q hq l hl=>?_⟩
  have s2:aM H (upd H1 q (.tup [.int n.1,.int h])):=s1.trans (aM.new hq)
  have s3:aM H (upd (upd H1 q (.tup [.int n.1,.int h])) l (.dK [])):=s2.trans (aM.new hl)
  have hq3:upd (upd H1 q (.tup [.int n.1,.int h])) l (.dK []) q=some (.tup ((wk (n.1,h)).map kV)):=by rw[aE (aF aD hl),aD];rfl
  have v1:bV (Di.wy.map λ e=>(wk e.1,V.ref e.2.1)) (wk (n.1,h))=some (.ref e.2.1):=by
   rw[<- ek]
   exact cG (λ e=>wk e.1) (λ e=>V.ref e.2.1) (dD (f:=λ x:(Int×Int)×Addr×List Nm3=>x.1) mY wn) he
  have v2:bV (e.2.2.map λ n=>(nk n,V.bl true)) (nk n)=some (.bl true):=cG nk (λ _=>V.bl true) (vr cC en) hn
  refine⟨_,.inr ⟨_,wk (n.1,h),q,.inl (s3 _ _ di.wy),rfl,hq3,v1.symm⟩,?_⟩
  refine⟨_,rfl,_,rfl,e.2.1,_,rfl,.inr ⟨_,nk n,b,.inl (s3 _ _ (di.ways e he)),rfl,s3 _ _ hb,v2.symm⟩,_,rfl,dQ ?_⟩
  refine⟨_,rfl,p,_,dx,_,_,rfl,s3 _ _ hp,T.cl_Loom,T.na_bu,rfl,o,rfl,_,rfl,?_⟩
  cases o with
  | false=>exact cX (k _ s3)
  | true=>
   refine dQ ⟨_,rfl,_,rfl,e.2.1,_,e.2.2,rfl,.inl (s3 _ _ (di.ways e he)),?_,EC hn,sm,λ b' n' hn' le hb'=>?_⟩
   ·unfold vF
    rw[Ds]
    rfl
   ·have e1:=od rfl n' hn'
    have e2:=le n hn
    have en:n=n':=oZ (sm n hn) (sm n' hn') (by unfold cd3 at e1 ⊢;unfold Tim.cH at e2;lia)
    subst en
    refine⟨_,_,vp (s3 _ _ hb),vp hb',rfl,rfl,?_⟩
    have:PyData.eqv (.tuple [.int n.1,.int n.2.1,.int n.2.2]) (.tuple [.int n.1,.int n.2.1,.int n.2.2])=true:=jd rfl
    show Q (.bl (PyData.eqv _ _)) _
    rw[this]
    exact k _ s3
noncomputable def bW (wy:List ((Int×Int)×Addr×List Nm3)) (k:Int×Int) (n:Nm3) (q:Addr):List ((Int×Int)×Addr×List Nm3):=
 if k∈wy.map (·.1) then wy.map (λ e=>if e.1=k then (e.1,e.2.1,e.2.2++[n]) else e) else wy++[(k,q,[n])]
noncomputable def DiA.j6 (A:DiA) (n:Nm3) (adr:Addr) (to wd:Int) (q:Addr):DiA:={ A with po:=A.po++[⟨n,adr,to,wd⟩],wy:=bW A.wy (n.1,to) n q }
theorem i9:(bW wy k n q).map (·.1)=if k∈wy.map (·.1) then wy.map (·.1) else wy.map (·.1)++[k]:=by
 unfold bW
 by_cases h:k∈wy.map (·.1)
 ·rw[CG h,CG h,Ds]
  exact Dn λ e _=>by
   show (if e.1=k then (e.1,e.2.1,e.2.2++[n]) else e).1=e.1
   by_cases z:e.1=k
   ·rw[CG z]
   ·rw[CD z]
 ·rw[CD h,CD h,CP];rfl
theorem fG:e∈bW wy k n q->(∃ e0∈wy,e0.1=k/\e=(e0.1,e0.2.1,e0.2.2++[n]))\/(e∈wy/\e.1≠k)\/(k∉wy.map (·.1)/\e=(k,q,[n])):=by
 unfold bW
 by_cases h:k∈wy.map (·.1)
 ·rw[CG h,CL]
  rintro⟨e0,m,rfl⟩
  by_cases z:e0.1=k
  ·rw[CG z];exact .inl ⟨e0,m,z,rfl⟩
  ·rw[CD z];exact .inr (.inl ⟨m,z⟩)
 ·rw[CD h,CF,Cv]
  rintro(m|rfl)
  ·exact .inr (.inl ⟨m,λ z=>h (by rw[<- z];exact CN m)⟩)
  ·exact .inr (.inr ⟨h,rfl⟩)
theorem WfD.j6 {m:Int}{c:Int->Int}{A:DiA}(w:WfD m c A) {n:Nm3}{adr q:Addr}{to wd:Int}(hn:n∉A.po.map (·.nm)) (nta:n∉A.ta.map (·.1))
  (r:0<=n.1/\n.1<m/\1<=n.2.1/\n.2.1<=c n.1/\0<=n.2.2/\n.2.2<3/\0<=to/\to<m):WfD m c (A.j6 n adr to wd q):=by
 have nwy:∀ e∈A.wy,n∉e.2.2:=λ e he z=>by
  obtain⟨l,hl,e1,_⟩:=(w.wi e he n).mp z
  exact hn (by rw[<- e1];exact CN hl)
 refine⟨?_,w.nt,λ l hl=>?_,?_,λ e he n'=>?_,λ e he=>?_,λ l hl nt=>?_,w.t1⟩
 ·show ((A.po++[(⟨n,adr,to,wd⟩:cF)]).map cF.nm).Nodup
  rw[CP]
  refine DD.mpr ⟨w.nd,(by simp),λ a ha b hb=>?_⟩
  rw[ED,Cv] at hb
  rw[hb];exact λ z=>hn (by have z':a=n:=z;rw[<- z'];exact ha)
 ·rcases CF.mp hl with hl|hl
  ·exact w.rg l hl
  ·rw[Cv] at hl
   subst hl;exact r
 ·show ((bW A.wy (n.1,to) n q).map (·.1)).Nodup
  rw[i9]
  by_cases h:(n.1,to)∈A.wy.map (·.1)
  ·rw[CG h];exact w.wn
  ·rw[CD h]
   refine DD.mpr ⟨w.wn,(by simp),λ a ha b hb=>?_⟩
   rw[Cv] at hb
   rw[hb];exact λ z=>h (by rw[<- z];exact ha)
 ·have lift:(∃ l∈A.po++[⟨n,adr,to,wd⟩],l.nm=n'/\n'.1=e.1.1/\l.to=e.1.2/\n'∉A.ta.map (·.1))↔(∃ l∈A.po,l.nm=n'/\n'.1=e.1.1/\l.to=e.1.2/\n'∉A.ta.map (·.1))\/(n=n'/\n'.1=e.1.1/\to=e.1.2/\n'∉A.ta.map (·.1)):=by
   constructor
   ·rintro⟨l,hl,z⟩
    rcases CF.mp hl with hl|hl
    ·exact .inl ⟨l,hl,z⟩
    ·rw[Cv] at hl
     subst hl;exact .inr z
   ·rintro(⟨l,hl,z⟩|z)
    ·exact⟨l,Dd _ hl,z⟩
    ·exact⟨_,CW _ (Cv.mpr rfl),z⟩
  show n'∈e.2.2↔∃ l∈A.po++[⟨n,adr,to,wd⟩],l.nm=n'/\n'.1=e.1.1/\l.to=e.1.2/\n'∉A.ta.map (·.1)
  rw[lift]
  rcases fG he with ⟨e0,m0,k0,rfl⟩|⟨m0,k0⟩|⟨nk0,rfl⟩
  ·rw[CF,Cv,w.wi e0 m0 n']
   refine or_congr Iff.rfl ⟨?_,λ z=>z.1.symm⟩
   rintro rfl
   exact⟨rfl,by rw[k0],by rw[k0],nta⟩
  ·rw[w.wi e m0 n']
   constructor
   ·exact .inl
   ·rintro(z|⟨rfl,z1,z2,_⟩)
    ·exact z
    ·exact absurd (Prod.ext z1.symm z2.symm) k0
  ·rw[Cv]
   constructor
   ·rintro rfl
    exact .inr ⟨rfl,rfl,rfl,nta⟩
   ·rintro(⟨l,hl,rfl,z1,z2,z3⟩|z)
    ·obtain⟨e1,he1,z4⟩:=w.wa l hl z3
     refine absurd ?_ nk0
     rw[CL]
     refine⟨e1,he1,?_⟩
     rw[z4]
     exact Prod.ext z1 z2
    ·exact z.1.symm
 ·rcases fG he with ⟨e0,m0,k0,rfl⟩|⟨m0,k0⟩|⟨nk0,rfl⟩
  ·refine DD.mpr ⟨w.wd e0 m0,(by simp),λ a ha b hb=>?_⟩
   rw[Cv] at hb
   rw[hb];exact λ z=>nwy e0 m0 (by rw[<- z];exact ha)
  ·exact w.wd e m0
  ·show ([n]:List Nm3).Nodup
   simp
 ·have keyIn:∀ k,(k∈A.wy.map (·.1)\/k=(n.1,to))->∃ e∈bW A.wy (n.1,to) n q,e.1=k:=λ k hk=>by
   have:k∈(bW A.wy (n.1,to) n q).map (·.1):=by
    rw[i9]
    by_cases h:(n.1,to)∈A.wy.map (·.1)
    ·rw[CG h]
     rcases hk with hk|rfl
     ·exact hk
     ·exact h
    ·rw[CD h,CF,Cv];exact hk
   obtain⟨e,he,z⟩:=CL.mp this
   exact⟨e,he,z⟩
  rcases CF.mp hl with hl|hl
  ·obtain⟨e,he,z⟩:=w.wa l hl nt
   exact keyIn _ (.inl (by rw[<- z];exact CN he))
  ·rw[Cv] at hl
   subst hl
   exact keyIn _ (.inr rfl)
theorem WfD.xq (w:WfD m c A) (V:x.nm∉A.po.map (·.nm)) (ta:x.nm∈A.ta.map (·.1))
  (r:0<=x.nm.1/\x.nm.1<m/\1<=x.nm.2.1/\x.nm.2.1<=c x.nm.1/\0<=x.nm.2.2/\x.nm.2.2<3/\0<=x.to/\x.to<m):WfD m c { A with po:=A.po++[x] }:=by
 have q:∀ l,l∈A.po++[x]->l∈A.po\/l=x:=λ l j=>(CF.mp j).imp id Cv.mp
 refine⟨?_,w.nt,λ l j=>(q l j).elim (w.rg l) λ z=>by rw[z];exact r,w.wn,λ e U n=>?_,w.wd,λ l j G=>(q l j).elim (λ z=>w.wa l z G) λ z=>absurd (by rw[z];exact ta) G,w.t1⟩
 ·show ((A.po++[x]).map cF.nm).Nodup
  rw[CP]
  refine DD.mpr ⟨w.nd,(by simp),λ a O b F=>?_⟩
  rw[ED,Cv] at F
  rw[F];exact λ z=>V (by rw[<- z];exact O)
 ·refine(w.wi e U n).trans ⟨λ⟨l,j,z⟩=>⟨l,Dd _ j,z⟩,λ⟨l,j,J,L⟩=>(q l j).elim (λ y=>⟨l,y,J,L⟩) λ y=>?_⟩
  subst y;subst J
  exact absurd ta L.2.2
theorem DiL.eF {L:DiL}{A:DiA}{e:(Int×Int)×Addr×List Nm3}(h:e∈A.wy):e.2.1∈L.own A:=CW _ (CN h)
theorem DiL.cx {L:DiL}{A:DiA}{b:Addr}(h:b∈L.own A):b=L.po\/b=L.ta\/b=L.wy\/∃ e∈A.wy,b=e.2.1:=by
 rcases CF.mp h with h|h
 ·simp only[Cz,CC,C2] at h
  rcases h with h|h|h
  ·exact .inl h
  ·exact .inr (.inl h)
  ·exact .inr (.inr (.inl h))
 ·obtain⟨e,j,rfl⟩:=CL.mp h
  exact .inr (.inr (.inr ⟨e,j,rfl⟩))
theorem Di.nes (d:Di G H L A):L.po≠L.ta/\L.po≠L.wy/\L.ta≠L.wy/\(∀ e∈A.wy,e.2.1≠L.po/\e.2.1≠L.ta/\e.2.1≠L.wy)/\∀ e∈A.wy,∀ F∈A.wy,e.2.1=F.2.1->e=F:=by
 have V:=d.nd
 unfold DiL.own at V
 obtain⟨q,Y,U⟩:=DD.mp V
 simp only[DM,Cz,CC,C2,EU] at q
 refine⟨q.1.1,q.1.2,q.2.1,λ e J=>?_,λ e J F O z=>?_⟩
 ·have m:e.2.1∈A.wy.map (·.2.1):=CN J
  exact⟨λ z=>U L.po (by simp) _ m z.symm,λ z=>U L.ta (by simp) _ m z.symm,λ z=>U L.wy (by simp) _ m z.symm⟩
 ·obtain⟨i,hi,rfl⟩:=C1 J
  obtain⟨j,W,rfl⟩:=C1 O
  have:i=j:=(DZ (l:=A.wy.map (·.2.1)) (by simpa using hi) Y).mp (by rw[Cw,Cw,Cs hi,Cs W];exact congrArg some z)
  subst this;rfl
theorem Di.isd {G H:Hp}{L:DiL}{A:DiA}(d:Di G H L A) {b:Addr}(h:b∈L.own A):∃ kvs,H b=some (.dT kvs):=by
 rcases DiL.cx h with rfl|rfl|rfl|⟨e,j,rfl⟩
 ·exact⟨_,d.po⟩
 ·exact⟨_,d.ta⟩
 ·exact⟨_,d.wy⟩
 ·exact⟨_,d.ways e j⟩
theorem Di.frame {G H H':Hp}{L:DiL}{A:DiA}(d:Di G H L A) (j:∀ b o,b∈L.own A->H b=some o->H' b=some o) (F:aM G H'):Di G H' L A:=
 ⟨j _ _ (by unfold DiL.own;simp) d.po,j _ _ (by unfold DiL.own;simp) d.ta,j _ _ (by unfold DiL.own;simp) d.wy,λ e q=>j _ _ (DiL.eF q) (d.ways e q),d.lets,F,d.nd,d.gn⟩
theorem Di.yB {G H H':Hp}{L:DiL}{A:DiA}{x:cF}(d:Di G H L A) (O:G x.adr=some (.tup [.int x.to,.int x.wd])) (h1:H' L.po=some (.dT ((A.po.map λ l=>(nk l.nm,V.ref l.adr))++[(nk x.nm,V.ref x.adr)])))
  (F:∀ b o,b≠L.po->b∈L.own A->H b=some o->H' b=some o) (J:aM G H'):Di G H' L { A with po:=A.po++[x] }:=by
 obtain⟨U,W,Z,Y,_⟩:=d.nes
 refine⟨by rw[h1,CP];rfl,F _ _ (Ne.symm U) (by unfold DiL.own;simp) d.ta,F _ _ (Ne.symm W) (by unfold DiL.own;simp) d.wy,λ e q=>F _ _ (Y e q).1 (DiL.eF q) (d.ways e q),λ l j=>?_,J,d.nd,d.gn⟩
 rcases CF.mp j with j|j
 ·exact d.lets l j
 ·rw[Cv] at j;subst j;exact O
theorem Di.wN {G H H':Hp}{L:DiL}{A:DiA}{n:Nm3}{e0:(Int×Int)×Addr×List Nm3}(d:Di G H L A) (wn:(A.wy.map (·.1)).Nodup) (q:e0∈A.wy) (h1:H' e0.2.1=some (.dT ((e0.2.2.map λ n=>(nk n,V.bl true))++[(nk n,V.bl true)])))
  (J:∀ b o,b≠e0.2.1->b∈L.own A->H b=some o->H' b=some o) (hG:aM G H'):Di G H' L { A with wy:=bW A.wy e0.1 n 0 }:=by
 obtain⟨n1,n2,n3,Z,n5⟩:=d.nes
 have hk:e0.1∈A.wy.map (·.1):=CN q
 have ew:bW A.wy e0.1 n 0=A.wy.map (λ e=>if e.1=e0.1 then (e.1,e.2.1,e.2.2++[n]) else e):=by unfold bW;rw[CG hk]
 have O:∀ e:(Int×Int)×Addr×List Nm3,(if e.1=e0.1 then (e.1,e.2.1,e.2.2++[n]) else e).2.1=e.2.1/\(if e.1=e0.1 then (e.1,e.2.1,e.2.2++[n]) else e).1=e.1:=λ e=>by
  by_cases z:e.1=e0.1
  ·rw[CG z];exact⟨rfl,rfl⟩
  ·rw[CD z];exact⟨rfl,rfl⟩
 have eo:L.own { A with wy:=bW A.wy e0.1 n 0 }=L.own A:=by
  unfold DiL.own
  rw[ew,Ds]
  congr 1
  exact Dn λ e _=>(O e).1
 refine⟨J _ _ (λ z=>(Z e0 q).1 z.symm) (by unfold DiL.own;simp) d.po,J _ _ (λ z=>(Z e0 q).2.1 z.symm) (by unfold DiL.own;simp) d.ta,?_,λ e hm=>?_,d.lets,hG,by rw[eo];exact d.nd,by rw[eo];exact d.gn⟩
 ·show H' L.wy=some (.dT ((bW A.wy e0.1 n 0).map λ e=>(wk e.1,V.ref e.2.1)))
  rw[ew,Ds,J _ _ (λ z=>(Z e0 q).2.2 z.symm) (by unfold DiL.own;simp) d.wy]
  congr 2
  exact Dn λ e _=>by show _=(wk _,V.ref _);rw[(O e).1,(O e).2]
 ·have W:e∈bW A.wy e0.1 n 0:=hm
  rcases fG W with ⟨U,F,Y,rfl⟩|⟨F,Y⟩|⟨z,_⟩
  ·have:U=e0:=by
    obtain⟨i,hi,rfl⟩:=C1 F
    obtain⟨j,hj,rfl⟩:=C1 q
    have:i=j:=(DZ (l:=A.wy.map (·.1)) (by simpa using hi) wn).mp (by rw[Cw,Cw,Cs hi,Cs hj];exact congrArg some Y)
    subst this;rfl
   subst this
   show H' U.2.1=some (.dT ((U.2.2++[n]).map λ n=>(nk n,V.bl true)))
   rw[h1,CP];rfl
  ·exact J _ _ (λ z=>Y (by rw[n5 e F e0 q z])) (DiL.eF F) (d.ways e F)
  ·exact absurd hk z
theorem Di.vX {G H H':Hp}{L:DiL}{A:DiA}{n:Nm3}{q:Addr}{k:Int×Int}(d:Di G H L A) (nk0:k∉A.wy.map (·.1)) (nq:q∉L.own A) (gq:G q=none) (h1:H' L.wy=some (.dT ((A.wy.map λ e=>(wk e.1,V.ref e.2.1))++[(wk k,V.ref q)]))) (h2:H' q=some (.dT [(nk n,V.bl true)]))
  (kp:∀ b o,b≠L.wy->b∈L.own A->H b=some o->H' b=some o) (hG:aM G H'):Di G H' L { A with wy:=bW A.wy k n q }:=by
 obtain⟨n1,n2,n3,n4,n5⟩:=d.nes
 have ew:bW A.wy k n q=A.wy++[(k,q,[n])]:=by unfold bW;rw[CD nk0]
 have eo:L.own { A with wy:=bW A.wy k n q }=L.own A++[q]:=by
  unfold DiL.own
  rw[ew,CP,EL];rfl
 refine⟨kp _ _ n2 (by unfold DiL.own;simp) d.po,kp _ _ n3 (by unfold DiL.own;simp) d.ta,?_,λ e hm=>?_,d.lets,hG,?_,λ b hb=>?_⟩
 ·show H' L.wy=some (.dT ((bW A.wy k n q).map λ e=>(wk e.1,V.ref e.2.1)))
  rw[ew,CP,h1];rfl
 ·have hm':e∈bW A.wy k n q:=hm
  rw[ew] at hm'
  rcases CF.mp hm' with m2|m2
  ·exact kp _ _ (n4 e m2).2.2 (DiL.eF m2) (d.ways e m2)
  ·rw[Cv] at m2;subst m2;exact h2
 ·rw[eo]
  refine DD.mpr ⟨d.nd,by simp,λ a ha b hb=>?_⟩
  rw[Cv] at hb
  rw[hb];exact λ z=>nq (by rw[<- z];exact ha)
 ·rw[eo] at hb
  rcases CF.mp hb with hb|hb
  ·exact d.gn b hb
  ·rw[Cv] at hb;rw[hb];exact gq
theorem jf [DecidableEq α]:∀ {a b:List α},a.Nodup->(∀ x∈a,x∈b)->a.length<=b.length
 | [],_,_,_=>Dq _
 | x::a,b,nd,h=>by
  obtain⟨F,G⟩:=DM.mp nd
  have j:=h x CJ
  have:=jf (b:=b.erase x) G λ y q=>(List.mem_erase_of_ne (λ z=>F (by rw[<- z];exact q))).mpr (h y (CH _ q))
  rw[List.length_erase_of_mem j] at this
  have:=List.length_pos_of_mem j
  rw[Dh];lia
theorem ri [DecidableEq κ] (f:α->κ) (g:α->V):∀ {l:List α},bV (l.map λ x=>(f x,g x)) k=some v->∃ x∈l,f x=k/\v=g x
 | [],h=>by cases h
 | x::l,h=>by
  rw[Dc] at h
  by_cases e:f x=k
  ·rw[eO e] at h
   cases h
   exact⟨x,CJ,e,rfl⟩
  ·rw[dW e] at h
   obtain⟨y,j,z⟩:=ri f g h
   exact⟨y,CH _ j,z⟩
theorem jO:(bW wy k n q).length<=wy.length+1:=by
 unfold bW
 by_cases h:k∈wy.map (·.1)
 ·rw[CG h,Cy];lia
 ·rw[CD h,CA];simp
theorem lN {D:DiL}{A:DiA}{n:Nm3}{q adr b:Addr}{k:Int×Int}{po:List cF}(h:b∈D.own { A with po:=po,wy:=bW A.wy k n q }):b∈D.own A\/(k∉A.wy.map (·.1)/\b=q):=by
 rcases DiL.cx h with rfl|rfl|rfl|⟨e,he,rfl⟩
 ·exact .inl (by unfold DiL.own;simp)
 ·exact .inl (by unfold DiL.own;simp)
 ·exact .inl (by unfold DiL.own;simp)
 ·have he':e∈bW A.wy k n q:=he
  rcases fG he' with ⟨e0,m0,_,rfl⟩|⟨m0,_⟩|⟨z,rfl⟩
  ·exact .inl (show e0.2.1∈D.own A from DiL.eF m0)
  ·exact .inl (DiL.eF m0)
  ·exact .inr ⟨z,rfl⟩
theorem iB (b:But S H H') (n:a∉S) (h:SqL K H a xs):SqL K H' a xs:=by
 rcases h with (h|⟨o,h⟩)|h
 ·exact .inl (.inl (b _ _ n h))
 ·exact .inl (.inr ⟨o,b _ _ n h⟩)
 ·exact .inr h
theorem gJ (b:But S H H1) (h:a∈S\/H a=none):But S H (upd H1 a o):=λ c u n e=>by
 rw[aE]
 ·exact b c u n e
 ·rintro rfl
  rcases h with h|h
  ·exact n h
  ·rw[h] at e;cases e
noncomputable def lets (s pl:Int) (xs:List (Addr×Int×Int)):List cF:=xs.mapIdx λ k x=>⟨(s,pl,(k:Int)),x.1,x.2.1,x.2.2⟩
theorem fz:l∈lets s pl xs↔∃ (k:Nat) (x:Addr×Int×Int),xs[k]? = some x/\l=⟨(s,pl,(k:Int)),x.1,x.2.1,x.2.2⟩:=by
 unfold lets
 rw[List.mem_mapIdx]
 constructor
 ·rintro⟨i,h,rfl⟩
  exact⟨i,xs[i],Cs h,rfl⟩
 ·rintro⟨k,x,h,rfl⟩
  obtain⟨j,rfl⟩:=Cr.mp h
  exact⟨k,j,rfl⟩
theorem pT {s pl:Int}{xs:List (Addr×Int×Int)}{i:Nat}{y:Addr×Int×Int}(h:xs[i]? = some y):lets s pl (xs.take (i+1))=lets s pl (xs.take i)++[⟨(s,pl,(i:Int)),y.1,y.2.1,y.2.2⟩]:=by
 unfold lets
 have j:=(Cr.mp h).1
 rw[D7,h,Option.toList_some,List.mapIdx_append,Dg,Nat.min_eq_left (EB j)]
 simp
noncomputable def vC (K:W.Frag) (t:Adr):Sp:=λ vs H Q _=>∃ G p dx dz m o lt lg D A l,∃ s pl:Int,∃ xs:List (Addr×Int×Int),∃ m' c,vs=[.ref p,.int s,.int pl,.ref l]/\H p=some (.ins t.c_Loom dx (loF dz m o lt lg D))/\Di G H D A/\WfD m' c A/\p∉D.own A/\l∉D.own A /\
 SqL K H l (xs.map λ x=>V.ref x.1)/\xs.length<=3/\(∀ x∈xs,G x.1=some (.tup [.int x.2.1,.int x.2.2])/\0<=x.2.1/\x.2.1<m')/\0<=s/\s<m'/\1<=pl/\pl<=c s/\(∀ e∈A.po,e.nm.1=s->e.nm.2.1<pl)/\A.po.length<=900/\A.wy.length<=900 /\
 ∀ H' A',But (D.own A) H H'->Di G H' D A'->WfD m' c A'->A'.ta=A.ta->A'.po=A.po++lets s pl xs->A'.wy.length<=A.wy.length+xs.length->(∀ b∈D.own A',b∈D.own A\/H b=none)->Q .non H'
theorem uE (T:Txt K mg t):bq P w K mg base (CXr P w) 1 t.f_cy t.fd_cy ["self","sender","place","letters"] (vC K t):=by
 refine T.F_cy.okN lB (λ vs H Q E h=>?_) (λ cdv A outer s H vs Q E hr h=>?_)
 ·obtain⟨G,p,dx,dz,m,o,lt,lg,D,A,l,s,pl,xs,m',c,rfl,_⟩:=h;rfl
 ·obtain⟨G,p,dx,dz,m,o,lt,lg,D,A,l,s,pl,xs,m',c,rfl,hp,di,wf,np,nl,hl,few,hx,s0,s1,pl0,pl1,new,f1,f2,k⟩:=h
  refine⟨_,(aI (cy PassesOwn.never rfl (d6 (K:=K) rfl T.no_enumerate (aJ (pv 3) aG)) (cK (K:=K) rfl (bB (aR (i:=4) lB.nd rfl (Or.inl rfl)) (bB (aR (i:=5) lB.nd rfl (Or.inl rfl)) cJ)))
    (aH (aY (i:=6) lB.nd rfl (Or.inl rfl) (cB (aJ (pv 1) (aJ (pv 2) (aJ (pv 4) aG)))))
   (aH (iw (cm hr) (aO (K:=K) (pv 0) rfl) (pv 6) (pv 5) rfl)
   (aI (bH (j7 (fK (cm hr) (pv 6) (aO (K:=K) (pv 0) rfl)))
    (aH (aY (i:=7) lB.nd rfl (Or.inl rfl) (cW (K:=K) FF PySem.F.slot_dict_setdefault PySem.F.type_dict_setdefault (mH (cm hr)) (aO (K:=K) (pv 0) rfl) (aJ (cB (aJ (pv 1) (aJ (bo (bz (K:=K)) (pv 5) aN (λ _ _=>rfl)) aG))) (aJ dm aG))))
   (aI (iw (cm hr) (pv 7) (pv 6) eI rfl)))
    bp)))))),?_⟩
  refine⟨_,rfl,l,_,rfl,hl,dv (xs:=xs.map λ x=>V.ref x.1)
   (λ i σ H2=>(∃ A2,But (D.own A) H H2/\Di G H2 D A2/\WfD m' c A2/\A2.ta=A.ta/\A2.po=A.po++lets s pl (xs.take i)/\A2.wy.length<=A.wy.length+i/\(∀ b∈D.own A2,b∈D.own A\/H b=none))/\∃ a b c d,σ=[some (.ref p),some (.int s),some (.int pl),some (.ref l),a,b,c,d])
   ⟨⟨A,But.of (.refl _),di,wf,rfl,(D2 _).symm,Nat.le_refl _,λ b hb=>.inl hb⟩,_,_,_,_,rfl⟩ ?_ ?_ ?_⟩
  ·rintro i σ H2 hi ⟨⟨A2,bt,_⟩,_⟩
   exact iB bt nl hl
  ·rintro i x pe σ H2 hx' npe ⟨⟨A2,bt,d2,w2,e1,e2,e3,e4⟩,a0,b0,c0,d0,rfl⟩
   obtain⟨y,hy,rfl⟩:∃ y,xs[i]? = some y/\x=.ref y.1:=by
    rw[Cw] at hx'
    cases q:xs[i]? with
    | none=>rw[q] at hx';cases hx'
    | some y=>rw[q] at hx';cases hx';exact⟨y,rfl,rfl⟩
   have hi:i<xs.length:=(Cr.mp hy).1
   obtain⟨ga,t0,t1⟩:=hx y (CB hy)
   refine⟨pe,_,rfl,SqT.of aD,rfl,_,_,rfl,_,_,rfl,rfl,?_⟩
   refine⟨_,rfl,_,rfl,_,rfl,by show 3<=sizeLine;decide,λ nb hnb=>?_⟩
   let n:Nm3:=(s,pl,(i:Int))
   have s4:aM H2 (upd (upd H2 pe (.tup [.int i,.ref y.1])) nb (.tup [.int s,.int pl,.int i])):=(aM.new npe).trans (aM.new hnb)
   have hb4:upd (upd H2 pe (.tup [.int i,.ref y.1])) nb (.tup [.int s,.int pl,.int i]) nb=some (.tup ((nk n).map kV)):=aD
   have bt4:But (D.own A) H (upd (upd H2 pe (.tup [.int i,.ref y.1])) nb (.tup [.int s,.int pl,.int i])):=λ b u nn e=>s4 _ _ (bt b u nn e)
   have d4:Di G (upd (upd H2 pe (.tup [.int i,.ref y.1])) nb (.tup [.int s,.int pl,.int i])) D A2:=d2.frame (λ b u _ e=>s4 _ _ e) (λ b u e=>s4 _ _ (d2.held _ _ e))
   generalize upd (upd H2 pe (.tup [.int i,.ref y.1])) nb (.tup [.int s,.int pl,.int i])=H4 at hb4 bt4 d4 ⊢
   have hn:n∉A2.po.map (·.nm):=λ z=>by
    obtain⟨e,he,ez⟩:=CL.mp z
    rw[e2] at he
    rcases CF.mp he with he|he
    ·have:=new e he (by rw[ez])
     rw[ez] at this;exact absurd this (Int.lt_irrefl _)
    ·obtain⟨k',x',hx',rfl⟩:=fz.mp he
     have:=(Cr.mp hx').1
     rw[Dg] at this
     have ek:(k':Int)=i:=congrArg (λ n:Nm3=>n.2.2) ez
     omega
   have len2:A2.po.length<=A.po.length+i:=by rw[e2,CA];unfold lets;rw[Ft,Dg];omega
   have v1:bV (A2.po.map λ l=>(nk l.nm,V.ref l.adr)) (nk n)=none:=dZ (λ l:cF=>nk l.nm) (λ l=>V.ref l.adr) λ e he z=>hn (by rw[<- cC _ _ z];exact CN he)
   refine⟨_,rfl,_,rfl,p,_,dx,_,_,rfl,bt4 _ _ np hp,T.cl_Loom,T.na_cl,rfl,_,rfl,D.po,_,rfl,.inr ⟨_,nk n,nb,d4.po,rfl,hb4,bh (by rw[Cy];omega),rfl⟩,?_⟩
   rw[eT _ v1]
   have nbo:∀ b,b∈D.own A2->nb≠b:=λ b hb z=>by
    obtain⟨kvs,q⟩:=d4.isd hb
    rw[<- z,hb4] at q;cases q
   obtain⟨m1,m2,m3,m4,m5⟩:=d4.nes
   have poI:D.po∈D.own A2:=by unfold DiL.own;simp
   have wyI:D.wy∈D.own A2:=by unfold DiL.own;simp
   have d5:=d4.yB (x:=⟨n,y.1,y.2.1,y.2.2⟩) (H':=upd H4 D.po (.dT ((A2.po.map λ l=>(nk l.nm,V.ref l.adr))++[(nk n,V.ref y.1)]))) ga aD (λ b u nn _ e=>by rw[aE nn];exact e) (λ b u e=>by rw[aE (aF e (d4.gn _ poI))];exact d4.held _ _ e)
   have hb5:upd H4 D.po (.dT ((A2.po.map λ l=>(nk l.nm,V.ref l.adr))++[(nk n,V.ref y.1)])) nb=some (.tup ((nk n).map kV)):=by rw[aE (nbo _ poI)];exact hb4
   have bt5:But (D.own A) H (upd H4 D.po (.dT ((A2.po.map λ l=>(nk l.nm,V.ref l.adr))++[(nk n,V.ref y.1)]))):=gJ bt4 (e4 _ poI)
   generalize upd H4 D.po (.dT ((A2.po.map λ l=>(nk l.nm,V.ref l.adr))++[(nk n,V.ref y.1)]))=H5 at d5 hb5 bt5 ⊢
   have r:0<=n.1/\n.1<m'/\1<=n.2.1/\n.2.1<=c n.1/\0<=n.2.2/\n.2.2<3/\0<=y.2.1/\y.2.1<m':=⟨s0,s1,pl0,pl1,Int.natCast_nonneg i,by show (i:Int)<3;omega,t0,t1⟩
   have e2':A2.po++[(⟨n,y.1,y.2.1,y.2.2⟩:cF)]=A.po++lets s pl (xs.take (i+1)):=by rw[pT hy,e2,EL]
   refine⟨_,rfl,_,rfl,p,_,dx,_,_,rfl,bt5 _ _ np hp,T.cl_Loom,T.na_cw,rfl,D.ta,_,rfl,.inr ⟨_,nk n,nb,.inl d5.ta,rfl,hb5,rfl⟩,_,rfl,?_⟩
   by_cases nin:n∈A2.ta.map (·.1)
   ·obtain⟨e0,he0,ee⟩:=CL.mp nin
    have ev:bV (A2.ta.map λ e=>(nk e.1,V.int e.2)) (nk n)=some (.int e0.2):=by
     rw[<- ee];exact cG (λ e:Nm3×Int=>nk e.1) (λ e=>V.int e.2) (dD (f:=λ e:Nm3×Int=>e.1) cC w2.nt) he0
    refine bT (by rw[ev];rfl) ?_
    refine⟨⟨_,bt5,d5,w2.xq (x:=⟨n,y.1,y.2.1,y.2.2⟩) hn nin r,e1,e2',by show A2.wy.length<=_;omega,e4⟩,_,_,_,_,rfl⟩
   have nta:bV (A2.ta.map λ e=>(nk e.1,V.int e.2)) (nk n)=none:=dZ (λ e:Nm3×Int=>nk e.1) (λ e=>V.int e.2) λ e he z=>nin (by rw[<- cC _ _ z];exact CN he)
   refine du (by rw[nta];rfl) ?_
   refine⟨_,rfl,p,_,dx,_,_,rfl,bt5 _ _ np hp,T.cl_Loom,T.na_df,rfl,.inr (.inr (.inl ⟨rfl,.inr ⟨_,d5.wy⟩⟩)),_,rfl,_,rfl,y.1,_,0,.int y.2.1,rfl,rfl,SqT.of (d5.held _ _ ga),bM,by show 2<=sizeLine;decide,λ kb hkb q hq=>?_⟩
   have s7:aM H5 (upd (upd H5 kb (.tup [.int s,.int y.2.1])) q (.dT [])):=(aM.new hkb).trans (aM.new hq)
   have hq5:H5 q=none:=(aM.new hkb).free hq
   have hk7:upd (upd H5 kb (.tup [.int s,.int y.2.1])) q (.dT []) kb=some (.tup ((wk (s,y.2.1)).map kV)):=by rw[aE (aF aD hq),aD];rfl
   have hb7:=s7 _ _ hb5
   have bt7:But (D.own A) H (upd (upd H5 kb (.tup [.int s,.int y.2.1])) q (.dT [])):=λ b u nn e=>s7 _ _ (bt5 b u nn e)
   have d7:Di G (upd (upd H5 kb (.tup [.int s,.int y.2.1])) q (.dT [])) D { A2 with po:=A2.po++[⟨n,y.1,y.2.1,y.2.2⟩] }:=d5.frame (λ b u _ e=>s7 _ _ e) (λ b u e=>s7 _ _ (d5.held _ _ e))
   have qq:upd (upd H5 kb (.tup [.int s,.int y.2.1])) q (.dT []) q=some (.dT []):=aD
   have hqo:q∉D.own A2:=λ z=>by
    obtain⟨kvs,e⟩:=d5.isd z
    rw[hq5] at e;cases e
   have hqH:H q=none\/q∈D.own A:=by
    cases e:H q with
    | none=>exact .inl rfl
    | some u=>
     by_cases z:q∈D.own A
     ·exact .inr z
     ·rw[bt5 _ _ z e] at hq5;cases hq5
   generalize upd (upd H5 kb (.tup [.int s,.int y.2.1])) q (.dT [])=H7 at hk7 hb7 bt7 d7 qq ⊢
   refine⟨D.wy,kb,_,wk (s,y.2.1),.ref q,rfl,rfl,d7.wy,hk7,bh (by rw[Cy];show A2.wy.length<=1000;omega),λ v hv=>?_,λ hv=>?_⟩
   ·obtain⟨e0,he0,k0,rfl⟩:=ri (λ e:(Int×Int)×Addr×List Nm3=>wk e.1) (λ e=>V.ref e.2.1) hv
    have k0:=mY _ _ k0
    have he0:e0∈A2.wy:=he0
    have kin:(s,y.2.1)∈A2.wy.map (·.1):=by rw[<- k0];exact CN he0
    have v2:bV (e0.2.2.map λ n=>(nk n,V.bl true)) (nk n)=none:=dZ nk (λ _=>V.bl true) λ z hz e=>by
     obtain⟨l,hl,q1,_⟩:=(w2.wi e0 he0 z).mp hz
     exact hn (by rw[<- cC _ _ e,<- q1];exact CN hl)
    have way:=d7.ways e0 he0
    have lenw:e0.2.2.length<=A2.po.length:=by
     have:=jf (b:=A2.po.map (·.nm)) (w2.wd e0 he0) λ z hz=>by
      obtain⟨l,hl,q1,_⟩:=(w2.wi e0 he0 z).mp hz
      rw[<- q1];exact CN hl
     rwa [Cy] at this
    refine⟨_,rfl,_,rfl,e0.2.1,_,rfl,.inr ⟨_,nk n,nb,way,rfl,hb7,bh (by rw[Cy];omega),rfl⟩,?_⟩
    rw[eT _ v2]
    have own0:e0.2.1∈D.own A2:=DiL.eF he0
    have d9:=d7.wN (n:=n) (e0:=e0) (H':=upd H7 e0.2.1 (.dT ((e0.2.2.map λ n=>(nk n,V.bl true))++[(nk n,V.bl true)]))) w2.wn he0 aD (λ b u nn _ e=>by rw[aE nn];exact e) (λ b u e=>by rw[aE (aF e (d7.gn _ own0))];exact d7.held _ _ e)
    rw[k0] at d9
    refine⟨⟨A2.j6 n y.1 y.2.1 y.2.2 0,gJ bt7 (e4 _ own0),d9,w2.j6 hn nin r,e1,e2',?_,λ b hb=>?_⟩,_,_,_,_,rfl⟩
    ·have:=jO (wy:=A2.wy) (k:=(s,y.2.1)) (n:=n) (q:=0)
     show (bW A2.wy (s,y.2.1) n 0).length<=_
     omega
    ·rcases lN (adr:=y.1) hb with hb|⟨z,_⟩
     ·exact e4 b hb
     ·exact absurd kin z
   ·have nin':(s,y.2.1)∉A2.wy.map (·.1):=λ z=>by
     obtain⟨e,he,q1⟩:=CL.mp z
     refine sj hv ?_
     rw[Ds]
     exact CL.mpr ⟨e,he,by show wk e.1=_;rw[q1]⟩
    have qwy:q≠D.wy:=λ z=>hqo (by rw[z];exact wyI)
    have nbwy:nb≠D.wy:=nbo _ wyI
    have nbq:nb≠q:=λ z=>by rw[z] at hb5;rw[hq5] at hb5;cases hb5
    refine⟨_,rfl,_,rfl,q,_,rfl,.inr ⟨[],nk n,nb,by rw[aE qwy];exact qq,rfl,by rw[aE nbwy];exact hb7,by decide,rfl⟩,?_⟩
    rw[eT _ qT,List.nil_append]
    have gq:G q=none:=by
     cases e:G q with
     | none=>rfl
     | some u=>rw[d5.held _ _ e] at hq5;cases hq5
    have d9:=d7.vX (n:=n) (q:=q) (k:=(s,y.2.1)) (H':=upd (upd H7 D.wy (.dT ((A2.wy.map λ e=>(wk e.1,V.ref e.2.1))++[(wk (s,y.2.1),V.ref q)]))) q (.dT [(nk n,V.bl true)])) nin' hqo gq (by rw[aE (Ne.symm qwy),aD]) aD (λ b u nn ho e=>by rw[aE (λ z=>hqo (by rw[<- z];exact ho)),aE nn];exact e) (λ b u e=>by rw[aE (aF e gq),aE (aF e (d7.gn _ wyI))];exact d7.held _ _ e)
    refine⟨⟨A2.j6 n y.1 y.2.1 y.2.2 q,gJ (gJ bt7 (e4 _ wyI)) hqH.symm,d9,w2.j6 hn nin r,e1,e2',?_,λ b hb=>?_⟩,_,_,_,_,rfl⟩
    ·have:=jO (wy:=A2.wy) (k:=(s,y.2.1)) (n:=n) (q:=q)
     show (bW A2.wy (s,y.2.1) n q).length<=_
     omega
    ·rcases lN (adr:=y.1) hb with hb|⟨_,rfl⟩
     ·exact e4 b hb
     ·exact hqH.symm
  ·rintro σ H2 ⟨⟨A2,bt,d2,w2,e1,e2,e3,e4⟩,_⟩
   rw[Cy] at e2 e3
   rw[ES] at e2
   exact k H2 A2 bt d2 w2 e1 e2 e3 e4
theorem pH:∃ j,kN (iV ns) lo hi=iV j/\j.length<=ns.length:=by
 refine⟨(ns.drop (HT.sIx (iV ns).length 0 lo)).take (HT.sIx (iV ns).length (iV ns).length hi-HT.sIx (iV ns).length 0 lo),?_,?_⟩
 ·unfold kN iV
  rw[List.map_take,List.map_drop]
 ·rw[Dg,List.length_drop];lia
noncomputable def Bh (K:W.Frag):List V->Sp:=λ ws vs H Q _=>∃ a b m c mn:Int,∃ h st v,ws=[.int mn,.int c,.int a,.int b,.int m]/\vs=[.int h,.int st,v]/\(v=.non\/∃ wd,v=.int wd)/\2<=mn/\mn<=10/\0<=h/\h<mn/\0<m/\(-(2 ^ 64)<a/\a<2 ^ 64)/\(-(2 ^ 64)<b/\b<2 ^ 64) /\
 ∀ (H':Hp) (r:Addr) (st':Int) (l1 l2:Addr) (ls:List (Addr×Int×Int)) (zs:List Int),aM H H'->H' r=some (.tup [.int st',.ref l1,.ref l2])->H' l1=some (.lst (ls.map λ x:Addr×Int×Int=>V.ref x.1))->ls.length<=2->(∀ x∈ls,H' x.1=some (.tup [.int x.2.1,.int x.2.2])/\0<=x.2.1/\x.2.1<mn)->H' l2=some (.lst (iV zs))->zs.length<=10->Q (.ref r) H'
theorem xP (T:Txt K mg t):iY P w K mg base (CXr P w) 2 "_law_does" "_law_program.<locals>._law_does" mI ["_law_hand","_law_state","_law_word"] ["_law_many","_law_cell","_law_a","_law_b","_law_m"] (Bh K):=by
 refine wK fQ (λ ws vs H Q E h=>?_) (λ cl doc pm ctv c us hl=>match us,hl with | [_,_,_],_=>rfl) (λ f cdv cl A outer s H ws vs Q E hr wl h=>?_)
 ·obtain⟨a,b,m,c,mn,h,st,v,_,rfl,_⟩:=h;rfl
 ·obtain⟨a,b,m,c,mn,h,st,v,rfl,rfl,hv,m0,m1,h0,h1,mp,ba,bb,k⟩:=h
  refine⟨_,(aH (aY (i:=3) fQ.nd rfl (Or.inl rfl) (pv 2))
   (aH (bH (bj wQ (pv 2) fV (bx _))
    (aI (aY (i:=3) fQ.nd rfl (Or.inl rfl) aN))
    bp)
   (aH (aY (i:=4) fQ.nd rfl (Or.inr rfl) (aU bS (aU bN (aU bN (aU bN (aU eU (pv 9) (pv 1)) (aU eU (pv 10) (pv 3))) (pv 0)) aN) (pv 11)))
   (aH (aY (i:=5) fQ.nd rfl (Or.inr rfl) (pv 4))
   (aH (bH (bj eY (aU gg (pv 8) aN) aN (bx _))
    (aH (aY (i:=5) fQ.nd rfl (Or.inr rfl) (aV (jj (K:=K) T) (hr.mono (by decide)) rfl T.mg_cq T.kp_cq T.b_cq .nil aL (aJ (pv 8) (aJ (aU bN aN (aU bS (aU bN (aU eU (pv 1) (pv 7)) (pv 0)) aN)) aG))))
   (aI (aY (i:=4) fQ.nd rfl (Or.inr rfl) (aU bN (aU bN (pv 1) aN) (aU bS (pv 3) aN)))))
    bp)
   (aH (dA ["_law_hand","_law_state","_law_word","_law_heard","_law_new","_law_digit","_law_letters","_law_many","_law_cell","_law_a","_law_b","_law_m","_law_k"] 1 (i:=6) rfl fQ.nd rfl (Or.inl rfl) (cf rfl T.no_range (aJ (aU bS (pv 5) aN) aG)) (λ _ _ _ _ _=>⟨(aR (i:=12) (show List.Nodup (["_law_hand","_law_state","_law_word","_law_heard","_law_new","_law_digit","_law_letters","_law_many","_law_cell","_law_a","_law_b","_law_m","_law_k"]:List Str) from by decide +kernel) rfl (Or.inl rfl)),bX,(cB (aJ (aU bS (aU bN (aU df (pv 5) aN) (pv 12)) (pv 7)) (aJ (aU bN (aU bN (pv 4) (pv 5)) (pv 12)) aG)))⟩))
   (aI (aW (cB (aJ (pv 4) (aJ (pv 6) (aJ (mf (mj (K:=K)) (cV (aJ (pv 4) (aJ (pv 5) aG))) oV (oS (aU bS (aU df (pv 5) aN) aN))) aG)))))))))))),?_⟩
  refine sq λ r1 e1=>?_
  refine⟨_,rfl,?_⟩
  refine(sn e1 λ r2 e2=>?_:r1 _ _ _)
  have main:∀ hd:Int,r2 { nx:=λ x H'=>Q V.non H',rt:=Q } [some (.int h),some (.int st),some v,some (.int hd),none,none,none,some (.int mn),some (.int c),some (.int a),some (.int b),some (.int m)] H:=λ hd=>by
   refine(sn e2 λ r3 e3=>?_:r2 _ _ _)
   refine⟨_,rfl,_,rfl,_,_,rfl,rfl,.inl ba,_,rfl,_,rfl,_,_,rfl,rfl,.inl bb,_,_,rfl,rfl,_,rfl,_,_,rfl,rfl,_,_,rfl,rfl,_,rfl,_,_,rfl,rfl,mp,?_⟩
   refine(sn e3 λ r4 e4=>?_:r3 _ _ _)
   refine⟨_,rfl,?_⟩
   refine(sn e4 λ r5 e5=>?_:r4 _ _ _)
   have fin:∀ nw dg:Int,r5 { nx:=λ x H'=>Q V.non H',rt:=Q } [some (.int h),some (.int st),some v,some (.int hd),some (.int nw),some (.int dg),none,some (.int mn),some (.int c),some (.int a),some (.int b),some (.int m)] H:=λ nw dg=>by
    refine(sn e5 λ r6 e6=>?_:r5 _ _ _)
    have b0:=DU dg (b:=3) (by decide)
    have b1:=DE dg (b:=3) (by decide)
    refine⟨_,rfl,_,_,rfl,rfl,by show (0:Int)<3;decide,dg%3,rfl,by omega,by omega,cN (by omega) λ acc hacc=>⟨λ i σ2 ys H2=>∃ ls:List (Addr×Int×Int),ls.length=i/\ys=ls.map (λ x=>V.ref x.1)/\H2 acc=some (.lst ys)/\(∀ x∈ls,H2 x.1=some (.tup [.int x.2.1,.int x.2.2])/\0<=x.2.1/\x.2.1<mn)/\aM H H2/\∃ o,σ2=[some (.int h),some (.int st),some v,some (.int hd),some (.int nw),some (.int dg),none,some (.int mn),some (.int c),some (.int a),some (.int b),some (.int m),o],⟨[],rfl,rfl,aD,(λ x hx=>by cases hx),aM.new hacc,_,rfl⟩,?_,?_,?_⟩⟩
    ·rintro i σ2 ys H2 hi ⟨ls,len,rfl,_⟩
     rw[Cy];omega
    ·rintro i σ2 ys H2 hi ⟨ls,len,rfl,e2,hls,sm,o,rfl⟩
     dsimp only[ck,fO]
     refine cX ⟨_,rfl,_,_,rfl,rfl,⟨by decide,by decide⟩,_,rfl,_,_,rfl,rfl,_,rfl,_,_,rfl,rfl,by omega,_,rfl,_,rfl,_,_,rfl,rfl,_,rfl,_,_,rfl,rfl,by show 2<=sizeLine;decide,λ q hq=>?_⟩
     have nq:q≠acc:=λ z=>by rw[z,e2] at hq;cases hq
     refine⟨by rw[aE (Ne.symm nq)];exact e2,Nx.mk hi ⟨ls++[(q,(dg/3+(0+(i:Int)))%mn,nw+dg+(0+(i:Int)))],by rw[CA,len];rfl,by rw[CP];rfl,aD,λ x hx=>?_,λ b u e=>?_,_,rfl⟩⟩
     ·rcases CF.mp hx with hx|hx
      ·obtain⟨z1,z2⟩:=hls x hx
       refine⟨?_,z2⟩
       rw[aE (λ z=>by rw[z,e2] at z1;cases z1),aE (aF z1 hq)];exact z1
      ·rw[Cv] at hx
       subst hx
       exact⟨by rw[aE nq,aD],DU _ (by omega),DE _ (by omega)⟩
     ·rw[aE (aF e hacc),aE (aF (sm _ _ e) hq)];exact sm _ _ e
    rintro σ2 ys H2 ⟨ls,len,rfl,e2,hls,sm,o,rfl⟩
    subst e6
    refine⟨_,rfl,_,rfl,_,rfl,_,rfl,by show 2<=sizeLine;decide,λ l5 hl5=>?_⟩
    refine⟨_,rfl,_,_,rfl,rfl,⟨by decide,by decide⟩,_,_,rfl,rfl,by show (0:Int)<3;decide,_,rfl,l5,_,rfl,SqL.of aD,λ l6 hl6=>⟨by show 3<=sizeLine;decide,λ r hr=>?_⟩⟩
    obtain⟨zs,ew,lw⟩:=pH (ns:=[nw,dg]) (lo:=none) (hi:=some (dg/9%3))
    have s5:aM H2 (upd H2 l5 (.lst [V.int nw,V.int dg])):=aM.new hl5
    have s6:aM H2 (upd (upd H2 l5 (.lst [V.int nw,V.int dg])) l6 (.lst (kN [V.int nw,V.int dg] none (some (dg/9%3))))):=s5.trans (aM.new hl6)
    have s7:=s6.trans (aM.new (o:=.tup [V.int nw,.ref acc,.ref l6]) hr)
    refine k _ r _ acc l6 ls zs (sm.trans s7) aD (s7 _ _ e2) (by omega) (λ x hx=>⟨s7 _ _ (hls x hx).1,(hls x hx).2⟩) ?_ (CV lw (by show 2<=10;decide))
    rw[aE (aF aD hr),aD,<- ew];rfl
   refine⟨_,rfl,_,_,rfl,rfl,rfl,_,rfl,dy (λ z=>?_) λ z=>fin _ _⟩
   have b0:=DU (st*mn+h) (b:=60) (by decide)
   have b1:=DE (st*mn+h) (b:=60) (by decide)
   refine⟨_,rfl,_,rfl,_,rfl,_,_,rfl,rfl,.inr ⟨by omega,by omega⟩,_,rfl,_,_,rfl,rfl,_,_,rfl,rfl,by show (0:Int)<60;decide,_,_,rfl,rfl,c,_,rfl,by omega,by omega,λ dg=>?_⟩
   exact⟨_,rfl,_,_,rfl,rfl,_,rfl,_,_,rfl,rfl,by show (0:Int)<2;decide,_,_,rfl,rfl,fin _ _⟩
  rcases hv with rfl|⟨wd,rfl⟩
  ·exact⟨_,rfl,rfl,_,rfl,du rfl (main 0)⟩
  ·exact⟨_,rfl,rfl,_,rfl,bT rfl (main wd)⟩
theorem WfD.mono (w:WfD m c A) (h:∀ x,c x<=c' x):WfD m c' A:=
 ⟨w.nd,w.nt,λ l j=>let ⟨q,F,G,J,L⟩:=w.rg l j;⟨q,F,G,Fo J (h _),L⟩,w.wn,w.wi,w.wd,w.wa,w.t1⟩
noncomputable def fR (wy:List ((Int×Int)×Addr×List Nm3)) (k:Int×Int) (n:Nm3):List ((Int×Int)×Addr×List Nm3):=wy.map λ e=>if e.1=k then (e.1,e.2.1,e.2.2.filter λ x=>decide (x≠n)) else e
theorem dM (k:Int×Int) (n:Nm3) (e:(Int×Int)×Addr×List Nm3):(if e.1=k then (e.1,e.2.1,e.2.2.filter λ x=>decide (x≠n)) else e).1=e.1/\(if e.1=k then (e.1,e.2.1,e.2.2.filter λ x=>decide (x≠n)) else e).2.1=e.2.1:=by
 by_cases z:e.1=k
 ·rw[CG z];exact⟨rfl,rfl⟩
 ·rw[CD z];exact⟨rfl,rfl⟩
theorem nh:(fR wy k n).map (·.1)=wy.map (·.1):=by
 unfold fR
 rw[Ds]
 exact Dn λ e _=>(dM k n e).1
theorem dj {A:DiA}(G:(A.po.map (·.nm)).Nodup) {l q:cF}(h:l∈A.po) (h':q∈A.po) (e:l.nm=q.nm):l=q:=by
 obtain⟨i,hi,rfl⟩:=C1 h
 obtain⟨j,F,rfl⟩:=C1 h'
 have:i=j:=(DZ (l:=A.po.map (·.nm)) (by simpa using hi) G).mp (by rw[Cw,Cw,Cs hi,Cs F];exact congrArg some e)
 subst this;rfl
noncomputable def DiA.take (A:DiA) (l:cF) (pl:Int):DiA:={ A with ta:=A.ta++[(l.nm,pl)],wy:=fR A.wy (l.nm.1,l.to) l.nm }
theorem WfD.take {m:Int}{c:Int->Int}{A:DiA}(w:WfD m c A) {l:cF}{pl:Int}(hl:l∈A.po) (nt:l.nm∉A.ta.map (·.1)) (Z:1<=pl):WfD m c (A.take l pl):=by
 have V:∀ n,n∈(A.ta++[(l.nm,pl)]).map (·.1)↔n∈A.ta.map (·.1)\/n=l.nm:=λ n=>by rw[CP,CF];simp
 refine⟨w.nd,?_,w.rg,by show ((fR A.wy _ _).map (·.1)).Nodup;rw[nh];exact w.wn,λ e J n=>?_,λ e J=>?_,λ G Y a1=>?_,λ e J=>?_⟩
 ·show ((A.ta++[(l.nm,pl)]).map (·.1)).Nodup
  rw[CP]
  refine DD.mpr ⟨w.nt,by simp,λ a ha b hb z=>?_⟩
  have W:b=l.nm:=by simpa using hb
  exact nt (by rw[<- W,<- z];exact ha)
 ·obtain⟨j,F,rfl⟩:=CL.mp (show e∈A.wy.map _ from J)
  rw[(dM _ _ j).1]
  show _↔∃ G∈A.po,G.nm=n/\n.1=j.1.1/\G.to=j.1.2/\n∉(A.ta++[(l.nm,pl)]).map (·.1)
  have base:=w.wi j F n
  by_cases z:j.1=(l.nm.1,l.to)
  ·rw[CG z]
   show n∈j.2.2.filter _↔_
   rw[Dj,base]
   constructor
   ·rintro⟨⟨G,h1,h2,L,O,U⟩,h6⟩
    exact⟨G,h1,h2,L,O,λ q=>((V n).mp q).elim U (by simpa using h6)⟩
   ·rintro⟨G,h1,h2,L,O,U⟩
    exact⟨⟨G,h1,h2,L,O,λ q=>U ((V n).mpr (.inl q))⟩,by rw[Em];exact λ q=>U ((V n).mpr (.inr q))⟩
  ·rw[CD z,base]
   constructor
   ·rintro⟨G,h1,h2,L,O,U⟩
    refine⟨G,h1,h2,L,O,λ q=>((V n).mp q).elim U λ y=>z ?_⟩
    have:G=l:=dj w.nd h1 hl (h2.trans y)
    subst this
    subst y
    exact Prod.ext L.symm O.symm
   ·rintro⟨G,h1,h2,L,O,U⟩
    exact⟨G,h1,h2,L,O,λ q=>U ((V n).mpr (.inl q))⟩
 ·obtain⟨j,F,rfl⟩:=CL.mp (show e∈A.wy.map _ from J)
  by_cases z:j.1=(l.nm.1,l.to)
  ·rw[CG z];exact(w.wd j F).filter _
  ·rw[CD z];exact w.wd j F
 ·obtain⟨j,F,z⟩:=w.wa G Y λ q=>a1 ((V _).mpr (.inl q))
  exact⟨_,CL.mpr ⟨j,F,rfl⟩,by rw[(dM _ _ j).1];exact z⟩
 ·rcases CF.mp J with J|J
  ·exact w.t1 e J
  ·rw[Cv] at J
   subst J;exact Z
theorem Di.take {G H H':Hp}{L:DiL}{A:DiA}{l:cF}{pl:Int}{e0:(Int×Int)×Addr×List Nm3}(d:Di G H L A) (wn:(A.wy.map (·.1)).Nodup) (J:e0∈A.wy) (k0:e0.1=(l.nm.1,l.to))
  (h1:H' L.ta=some (.dT ((A.ta.map λ e=>(nk e.1,V.int e.2))++[(nk l.nm,V.int pl)]))) (h2:H' e0.2.1=some (.dT ((e0.2.2.filter λ x=>decide (x≠l.nm)).map λ n=>(nk n,V.bl true))))
  (U:∀ b o,b≠L.ta->b≠e0.2.1->b∈L.own A->H b=some o->H' b=some o) (Y:aM G H'):Di G H' L (A.take l pl)/\L.own (A.take l pl)=L.own A:=by
 obtain⟨n1,n2,n3,W,n5⟩:=d.nes
 have O:L.own (A.take l pl)=L.own A:=by
  show [L.po,L.ta,L.wy]++(fR A.wy (l.nm.1,l.to) l.nm).map (·.2.1)=[L.po,L.ta,L.wy]++A.wy.map (·.2.1)
  unfold fR
  rw[Ds]
  congr 1
  exact Dn λ e _=>(dM _ _ e).2
 refine⟨⟨U _ _ n1 (λ z=>(W e0 J).1 z.symm) (by unfold DiL.own;simp) d.po,?_,?_,λ e hm=>?_,d.lets,Y,by rw[O];exact d.nd,by rw[O];exact d.gn⟩,O⟩
 ·show H' L.ta=some (.dT ((A.ta++[(l.nm,pl)]).map λ e=>(nk e.1,V.int e.2)))
  rw[h1,CP];rfl
 ·show H' L.wy=some (.dT ((fR A.wy (l.nm.1,l.to) l.nm).map λ e=>(wk e.1,V.ref e.2.1)))
  unfold fR
  rw[Ds,U _ _ (Ne.symm n3) (λ z=>(W e0 J).2.2 z.symm) (by unfold DiL.own;simp) d.wy]
  congr 2
  exact Dn λ e _=>by show _=(wk _,V.ref _);rw[(dM _ _ e).1,(dM _ _ e).2]
 ·obtain⟨q,F,rfl⟩:=CL.mp (show e∈A.wy.map _ from hm)
  by_cases z:q.1=(l.nm.1,l.to)
  ·have:q=e0:=by
    obtain⟨i,hi,rfl⟩:=C1 F
    obtain⟨j,Z,rfl⟩:=C1 J
    have:i=j:=(DZ (l:=A.wy.map (·.1)) (by simpa using hi) wn).mp (by rw[Cw,Cw,Cs hi,Cs Z];exact congrArg some (z.trans k0.symm))
    subst this;rfl
   subst this
   rw[CG z];exact h2
  ·rw[CD z]
   exact U _ _ (W q F).2.1 (λ y=>z (by rw[n5 q F e0 J y];exact k0)) (DiL.eF F) (d.ways q F)
theorem mB {ns:List Nm3}{n:Nm3}:j2 (ns.map λ n=>(nk n,V.bl true)) (nk n)=(ns.filter λ x=>decide (x≠n)).map λ n=>(nk n,V.bl true):=by
 unfold j2
 rw[List.filter_map]
 congr 1
 refine List.filter_congr λ x _=>?_
 show decide (nk x≠nk n)=decide (x≠n)
 rw[Et]
 exact⟨λ h e=>h (by rw[e]),λ h e=>h (cC _ _ e)⟩
structure LoL where
 (p dx dz lt lg:Addr)
 D:DiL
 ths:List ThL
structure LoA where
 many:Nat
 ord:Bool
 fr:List V
 ths:List ThA
 A:DiA
 b:Int->Int
noncomputable def cnt (ths:List ThA) (h:Int):Int:=match ths[h.toNat]? with
 | some T=>T.evs.length
 | none=>0
noncomputable def ThL.ad (q:ThL):List Addr:=[q.p,q.dn,q.wr]
noncomputable def LoL.own (L:LoL) (A:LoA):List Addr:=[L.p,L.lt,L.lg]++(L.ths.flatMap ThL.ad++L.D.own A.A)
structure TWf (n:Nat) (T:ThA):Prop where
 ne:T.ws≠[]
 so:T.ws.Pairwise (· < ·)
 rg:∀ z∈T.ws,0<=z/\z<=T.evs.length
 dn:T.down<=T.evs.length
 d0:0<=T.down
 en:T.evs.length<=n
 wn:T.ws.length<=n+1
noncomputable def qH (m:Nat) (H:Hp) (x:V):Prop:=∃ e r pl s,∃ h:Nat,∃ xs,x=.ref e/\H e=some (.tup [.ref r,.int pl])/\H r=some (.tup (.str s :: .int h::xs))/\h<m
theorem qH.keep (h:qH m H x) (k:∀ b xs,H b=some (.tup xs)->H' b=some (.tup xs)):qH m H' x:=
 let ⟨e,r,G,s,i,xs,ex,j,F,q⟩:=h
 ⟨e,r,G,s,i,xs,ex,k _ _ j,k _ _ F,q⟩
structure LoC (K:W.Frag) (t:Adr) (G H:Hp) (L:LoL) (A:LoA):Prop where
 self:H L.p=some (.ins t.c_Loom L.dx (loF L.dz A.many A.ord L.lt L.lg L.D))
 tl:H L.lt=some (.lst (L.ths.map λ q=>V.ref q.p))
 th:∀ (i:Nat) q T,L.ths[i]? = some q->A.ths[i]? = some T->Th K t G H q T
 len1:L.ths.length=A.many
 len2:A.ths.length=A.many
 log:∃ xs,H L.lg=some (.lst xs)
 di:Di G H L.D A.A
 clo:Clo G "_law_does" "_law_program.<locals>._law_does" mI ["_law_many","_law_cell","_law_a","_law_b","_law_m"] L.dz A.fr
 held:aM G H
 gn:∀ b∈L.own A,G b=none
 td:∀ (i j:Nat) q r,L.ths[i]? = some q->L.ths[j]? = some r->i≠j->∀ x∈q.ad,x∉r.ad
 tb:∀ (i:Nat) q,L.ths[i]? = some q->∀ x∈q.ad,x∉[L.p,L.lt,L.lg]
 ll:L.lt≠L.lg
noncomputable def Big:HO->Prop
 | .ins _ _ _=>True
 | .lst _=>True
 | .dT _=>True
 | _=>False
section
variable {G H G' H':Hp}{L:LoL}{A:LoA}
theorem LoC.wm (c:LoC K t G H L A) {i:Nat}{q:ThL}(h:L.ths[i]? = some q):∃ T,A.ths[i]? = some T/\Th K t G H q T:=by
 have hi:=(Cr.mp h).1
 have e:=Cs (l:=A.ths) (i:=i) (by rw[c.len2,<- c.len1];exact hi)
 exact⟨_,e,c.th i q _ h e⟩
theorem Th.kind (h:Th K t G H q T) (j:b∈q.ad):(∃ C dx fs,H b=some (.ins C dx fs))\/∃ xs,H b=some (.lst xs):=by
 unfold ThL.ad at j
 simp only[Cz,CC,C2] at j
 obtain⟨es,F,_⟩:=h.done
 rcases j with rfl|rfl|rfl
 ·exact .inl ⟨_,_,_,h.self⟩
 ·exact .inr ⟨_,F⟩
 ·exact .inr ⟨_,h.dc⟩
theorem LoL.cx (h:b∈L.own A):b∈[L.p,L.lt,L.lg]\/(∃ (i:Nat) (q:ThL),L.ths[i]? = some q/\b∈q.ad)\/b∈L.D.own A.A:=by
 rcases CF.mp h with h|h
 ·exact .inl h
 ·rcases CF.mp h with h|h
  ·obtain⟨q,j,z⟩:=FJ.mp h
   obtain⟨i,hi⟩:=Eo j
   exact .inr (.inl ⟨i,q,hi,z⟩)
  ·exact .inr (.inr h)
theorem LoL.dP (h:b∈[L.p,L.lt,L.lg]):b∈L.own A:=Dd _ h
theorem LoL.dS {b:Addr}{i:Nat}{q:ThL}(h:L.ths[i]? = some q) (j:b∈q.ad):b∈L.own A:=CW _ (Dd _ (FJ.mpr ⟨q,CB h,j⟩))
theorem LoL.gz (h:b∈L.D.own A.A):b∈L.own A:=CW _ (CW _ h)
theorem LoC.uY (c:LoC K t G H L A) (h:b∈[L.p,L.lt,L.lg]):(∃ C dx fs,H b=some (.ins C dx fs))\/∃ xs,H b=some (.lst xs):=by
 simp only[Cz,CC,C2] at h
 obtain⟨es,j⟩:=c.log
 rcases h with rfl|rfl|rfl
 ·exact .inl ⟨_,_,_,c.self⟩
 ·exact .inr ⟨_,c.tl⟩
 ·exact .inr ⟨_,j⟩
theorem LoC.big (c:LoC K t G H L A) {b:Addr}(h:b∈L.own A):∃ o,H b=some o/\Big o:=by
 have j:((∃ C dx fs,H b=some (.ins C dx fs))\/∃ xs,H b=some (.lst xs))->∃ o,H b=some o/\Big o:=λ z=>z.elim (λ⟨_,_,_,e⟩=>⟨_,e,trivial⟩) λ⟨_,e⟩=>⟨_,e,trivial⟩
 rcases LoL.cx h with h|⟨i,q,F,z⟩|h
 ·exact j (c.uY h)
 ·obtain⟨T,_,th⟩:=c.wm F
  exact j (th.kind z)
 ·obtain⟨kvs,e⟩:=c.di.isd h
  exact⟨_,e,trivial⟩
theorem LoC.eS (c:LoC K t G H L A):∀ b∈L.own A,H b≠none:=λ b j z=>by
 obtain⟨o,e,_⟩:=c.big j
 rw[z] at e;cases e
theorem LoC.tU (c:LoC K t G H L A) {b:Addr}{xs:List V}(h:H b=some (.tup xs)):b∉L.own A:=λ z=>by
 obtain⟨o,e,q⟩:=c.big z
 rw[h] at e;cases e;exact q
theorem uG (d:Di G H D D') (k:(∃ C dx fs,H b=some (.ins C dx fs))\/∃ xs,H b=some (.lst xs)):b∉D.own D':=λ z=>by
 obtain⟨kvs,e⟩:=d.isd z
 rcases k with ⟨_,_,_,y⟩|⟨_,y⟩<;>(rw[e] at y;cases y)
theorem LoC.nd1 (c:LoC K t G H L A) (h:b∈[L.p,L.lt,L.lg]):b∉L.D.own A.A:=uG c.di (c.uY h)
theorem LoC.nd2 (c:LoC K t G H L A) {b:Addr}{i:Nat}{q:ThL}(h:L.ths[i]? = some q) (j:b∈q.ad):b∉L.D.own A.A:=let ⟨_,_,th⟩:=c.wm h;uG c.di (th.kind j)
theorem LoC.frame (c:LoC K t G H L A) (sg:aM G G') (s':aM G' H') (kp:∀ b o,b∈L.own A->H b=some o->H' b=some o) (n:∀ b∈L.own A,G' b=none):LoC K t G' H' L A:=by
 obtain⟨xs,hx⟩:=c.log
 have di:=c.di.frame (H':=H') (λ b o hb e=>kp b o (LoL.gz hb) e) (λ b o e=>s' _ _ (sg _ _ e))
 exact⟨kp _ _ (LoL.dP (by simp)) c.self,kp _ _ (LoL.dP (by simp)) c.tl,λ i q T hq hT=>(c.th i q T hq hT).keep sg s' (λ b o hb e=>kp b o (LoL.dS hq hb) e) λ b hb=>n b (LoL.dS hq hb),c.len1,c.len2,⟨xs,kp _ _ (LoL.dP (by simp)) hx⟩,
  ⟨di.po,di.ta,di.wy,di.ways,λ l hl=>sg _ _ (c.di.lets l hl),s',c.di.nd,λ b hb=>n b (LoL.gz hb)⟩,c.clo.same λ b o u e=>sg _ _ e,s',n,c.td,c.tb,c.ll⟩
theorem LoC.same (c:LoC K t G H L A) (s:aM H H'):LoC K t G H' L A:=c.frame (.refl _) (c.held.trans s) (λ b o _ e=>s _ _ e) c.gn
theorem LoC.jM (c:LoC K t G H L A) {j:Nat}{q q':ThL}{T':ThA}(hq:L.ths[j]? = some q) (g:cL H G G' H') (bt:But q.ad H H') (th:Th K t G' H' q' T') (pe:q'.p=q.p) (fr:∀ b∈q'.ad,b∈q.ad\/H b=none):LoC K t G' H' { L with ths:=L.ths.set j q' } { A with ths:=A.ths.set j T' }:=by
 have hj:=(Cr.mp hq).1
 have gn0:∀ b∈L.own A,G' b=none:=λ b hb=>g.free (c.eS b hb) (c.gn b hb)
 have get:∀ i r,(L.ths.set j q')[i]? = some r->(i=j/\r=q')\/(i≠j/\L.ths[i]? = some r):=λ i r h=>by
  by_cases e:i=j
  ·subst e
   rw[CU hj] at h;cases h
   exact .inl ⟨rfl,rfl⟩
  ·rw[C6 (Ne.symm e)] at h
   exact .inr ⟨e,h⟩
 have fresh:∀ {b:Addr},H b=none->b∉L.own A:=λ h z=>c.eS _ z h
 have kp:∀ b o,b∈L.own A->b∉q.ad->H b=some o->H' b=some o:=λ b o _ n e=>bt b o n e
 obtain⟨xs,hx⟩:=c.log
 have n1:∀ b∈[L.p,L.lt,L.lg],b∉q.ad:=λ b hb z=>c.tb j q hq b z hb
 have di:=c.di.frame (H':=H') (λ b o hb e=>bt b o (λ z=>c.nd2 hq z hb) e) (λ b o e=>g.held _ _ (g.sub _ _ e))
 refine⟨bt _ _ (n1 _ (by simp)) c.self,?_,λ i r T hr hT=>?_,by rw[EG];exact c.len1,by rw[EG];exact c.len2,⟨xs,bt _ _ (n1 _ (by simp)) hx⟩,⟨di.po,di.ta,di.wy,di.ways,λ l hl=>g.sub _ _ (c.di.lets l hl),g.held,c.di.nd,λ b hb=>gn0 b (LoL.gz hb)⟩,c.clo.same λ b o u e=>g.sub _ _ e,g.held,λ b hb=>?_,λ i k r s hr hs ik x hx hy=>?_,λ i r hr x hx hy=>?_,c.ll⟩
 ·show H' L.lt=_
  rw[bt _ _ (n1 _ (by simp)) c.tl]
  congr 2
  refine Ep λ i=>?_
  rw[Cw,Cw]
  by_cases e:j=i
  ·subst e;rw[CU hj,hq];exact congrArg (λ x=>some (V.ref x)) pe.symm
  ·rw[C6 e]
 ·rcases get i r hr with ⟨rfl,rfl⟩|⟨ne,hr⟩
  ·have hT':(A.ths.set i T')[i]? = some T:=hT
   rw[CU (by rw[c.len2,<- c.len1];exact hj)] at hT'
   cases hT';exact th
  ·have hT':(A.ths.set j T')[i]? = some T:=hT
   rw[C6 (Ne.symm ne)] at hT'
   exact(c.th i r T hr hT').keep g.sub g.held (λ b o hb z=>bt b o (c.td i j r q hr hq ne b hb) z) λ b hb=>gn0 b (LoL.dS hr hb)
 ·rcases LoL.cx hb with hb2|⟨i,r,hr,hb2⟩|hb2
  ·exact gn0 b (LoL.dP hb2)
  ·rcases get i r hr with ⟨rfl,rfl⟩|⟨ne,hr2⟩
   ·unfold ThL.ad at hb2
    simp only[Cz,CC,C2] at hb2
    rcases hb2 with z|z|z
    ·rw[z];exact th.gp
    ·rw[z];exact th.gd
    ·rw[z];exact th.gw
   ·exact gn0 b (LoL.dS hr2 hb2)
  ·exact gn0 b (LoL.gz hb2)
 ·rcases get i r hr with ⟨e1,e2⟩|⟨ne,hr2⟩
  ·subst e1;subst e2
   rcases get k s hs with ⟨e3,_⟩|⟨ne,hs2⟩
   ·exact ik e3.symm
   ·rcases fr x hx with z|z
    ·exact c.td i k q s hq hs2 ik x z hy
    ·exact fresh z (LoL.dS hs2 hy)
  ·rcases get k s hs with ⟨e1,e2⟩|⟨ne',hs2⟩
   ·subst e1;subst e2
    rcases fr x hy with z|z
    ·exact c.td i k r q hr2 hq ik x hx z
    ·exact fresh z (LoL.dS hr2 hx)
   ·exact c.td i k r s hr2 hs2 ik x hx hy
 ·rcases get i r hr with ⟨rfl,rfl⟩|⟨ne,hr⟩
  ·rcases fr x hx with z|z
   ·exact c.tb i q hq x z hy
   ·exact fresh z (LoL.dP hy)
  ·exact c.tb i r hr x hx hy
theorem LoC.uR (c:LoC K t G H L A) {D:DiL}{D':DiA}(bt:But (L.p::L.D.own A.A) H H') (hp:H' L.p=some (.ins t.c_Loom L.dx (loF L.dz A.many A.ord L.lt L.lg D))) (d':Di G H' D D'):LoC K t G H' { L with D:=D } { A with A:=D' }:=by
 obtain⟨xs,hx⟩:=c.log
 have hl:=c.tl
 have n1:∀ b xs,H b=some (.lst xs)->b∈[L.p,L.lt,L.lg]->b∉L.p::L.D.own A.A:=λ b xs e hb z=>by
  rcases Cz.mp z with z|z
  ·rw[z,c.self] at e;cases e
  ·exact c.nd1 hb z
 refine⟨hp,bt _ _ (n1 _ _ hl (by simp)) hl,λ i q T hq hT=>?_,c.len1,c.len2,⟨xs,bt _ _ (n1 _ _ hx (by simp)) hx⟩,d',c.clo,d'.held,λ b hb=>?_,c.td,c.tb,c.ll⟩
 ·refine(c.th i q T hq hT).keep (.refl _) d'.held (λ b o hb e=>bt b o (λ z=>?_) e) λ b hb=>c.gn b (LoL.dS hq hb)
  rcases Cz.mp z with z|z
  ·exact c.tb i q hq b hb (by rw[z];simp)
  ·exact c.nd2 hq hb z
 ·rcases LoL.cx hb with hb|⟨i,r,hr,hb⟩|hb
  ·exact c.gn b (LoL.dP hb)
  ·exact c.gn b (LoL.dS hr hb)
  ·exact d'.gn b hb
theorem LoC.oj (c:LoC K t G H L A) {D':DiA}(bt:But (L.D.own A.A) H H') (d':Di G H' L.D D'):LoC K t G H' L { A with A:=D' }:=
 c.uR (bt.mono λ b hb=>CH _ hb) (bt _ _ (c.nd1 (by simp)) c.self) d'
theorem LoC.qV (c:LoC K t G H L A) {lg:Addr}{ys:List V}(bt:But [L.p,L.lg] H H') (hp:H' L.p=some (.ins t.c_Loom L.dx (loF L.dz A.many A.ord L.lt lg L.D))) (h:H' lg=some (.lst ys)) (e:lg=L.lg\/H lg=none):LoC K t G H' { L with lg:=lg } A:=by
 have gp:=c.gn _ (LoL.dP (L:=L) (A:=A) (b:=L.p) (by simp))
 have gl:=c.gn _ (LoL.dP (L:=L) (A:=A) (b:=L.lg) (by simp))
 have held:aM G H':=bt.same c.held λ b hb=>by
  simp only[Cz,CC,C2] at hb
  rcases hb with rfl|rfl
  ·exact gp
  ·exact gl
 have nn:∀ b,b∈L.own A->b≠L.p->b≠L.lg->b∉[L.p,L.lg]:=λ b _ n1 n2 z=>by
  simp only[Cz,CC,C2] at z
  exact z.elim n1 n2
 have np:∀ b xs,H b=some (.lst xs)->b≠L.p:=λ b xs e z=>by rw[z,c.self] at e;cases e
 have nl:∀ {b:Addr},b∈L.own A->b≠L.lg->b≠lg:=λ hb n z=>by
  rcases e with e|e
  ·exact n (z.trans e)
  ·exact c.eS _ hb (by rw[z];exact e)
 refine⟨hp,bt _ _ (nn _ (LoL.dP (by simp)) (np _ _ c.tl) c.ll) c.tl,λ i q T hq hT=>?_,c.len1,c.len2,⟨ys,h⟩,?_,c.clo,held,λ b hb=>?_,c.td,λ i q hq x hx hy=>?_,nl (LoL.dP (by simp)) c.ll⟩
 ·refine(c.th i q T hq hT).keep (.refl _) held (λ b o hb e=>bt b o (λ z=>c.tb i q hq b hb ?_) e) λ b hb=>c.gn b (LoL.dS hq hb)
  simp only[Cz,CC,C2] at z ⊢
  exact z.elim .inl λ z=>.inr (.inr z)
 ·refine c.di.frame (λ b o hb e=>bt b o (λ z=>?_) e) held
  simp only[Cz,CC,C2] at z
  rcases z with rfl|rfl
  ·exact c.nd1 (by simp) hb
  ·exact c.nd1 (by simp) hb
 ·rcases LoL.cx hb with hb|⟨i,r,hr,hb⟩|hb
  ·have hb':b∈[L.p,L.lt,lg]:=hb
   simp only[Cz,CC,C2] at hb'
   rcases hb' with rfl|rfl|rfl
   ·exact gp
   ·exact c.gn _ (LoL.dP (by simp))
   ·rcases e with rfl|e
    ·exact gl
    ·exact c.held.free e
  ·exact c.gn b (LoL.dS hr hb)
  ·exact c.gn b (LoL.gz hb)
 ·have hy':x∈[L.p,L.lt,lg]:=hy
  have:=c.tb i q hq x hx
  simp only[Cz,CC,C2,EU] at hy' this
  rcases hy' with z|z|z
  ·exact this.1 z
  ·exact this.2.1 z
  ·exact nl (LoL.dS hq hx) this.2.2 z
end
noncomputable def nj (ths:List ThA) (h p k:Nat) (x:Int×Int):Prop:=∃ T E,ths[h]? = some T/\T.evs[p]? = some E/\E.se[k]? = some x
noncomputable def Used (ths:List ThA) (h p:Nat) (n:Nm3):Prop:=∃ T E,ths[h]? = some T/\T.evs[p]? = some E/\E.u=some n
noncomputable def nm3 (h p k:Nat):Nm3:=((h:Int),(p:Int)+1,(k:Int))
structure Lk (ths:List ThA) (A:DiA):Prop where
 s1:∀ l∈A.po,∃ h p k:Nat,l.nm=nm3 h p k/\nj ths h p k (l.to,l.wd)
 s2:∀ h p k x,nj ths h p k x->∃ l∈A.po,l.nm=nm3 h p k/\(l.to,l.wd)=x
 u1:∀ e∈A.ta,∃ h p:Nat,e.2=(p:Int)+1/\Used ths h p e.1
 u2:∀ h p n,Used ths h p n->(n,(p:Int)+1)∈A.ta/\∃ l∈A.po,l.nm=n/\l.to=h
theorem kL {q:List ThA}{j:Nat}{T:ThA}(h:q[j]? = some T):cnt q j=T.evs.length:=by
 unfold cnt
 rw[Dm,h]
theorem qS (h:ths[j]? = some T) (F:T.evs.length<=T'.evs.length) (x):cnt ths x<=cnt (ths.set j T') x:=by
 have q:j<ths.length:=(Cr.mp h).1
 unfold cnt
 by_cases e:x.toNat=j
 ·rw[e,h,CU q]
  dsimp only
  lia
 ·rw[C6 (Ne.symm e)]
  exact Dk _
theorem dE {q:Type}{l:List q}{j i:Nat}{a b:q}(F:j<l.length) (h:(l.set j a)[i]? = some b):(i=j/\b=a)\/(i≠j/\l[i]? = some b):=by
 by_cases e:i=j
 ·subst e
  rw[CU F] at h;cases h
  exact .inl ⟨rfl,rfl⟩
 ·rw[C6 (Ne.symm e)] at h
  exact .inr ⟨e,h⟩
theorem fk (h:(l++[a])[i]? = some b):l[i]? = some b\/(i=l.length/\b=a):=by
 by_cases e:i<l.length
 ·rw[Dv e] at h;exact .inl h
 ·rw[C3 (by lia)] at h
  have:=(Cr.mp h).1
  rw[CY] at this
  have j:i-l.length=0:=by lia
  rw[j] at h;cases h
  exact .inr ⟨by lia,rfl⟩
theorem qA {j:Type}{l:List j}{i:Nat}{a b:j}(h:l[i]? = some b):(l++[a])[i]? = some b:=by
 rw[Dv (Cr.mp h).1];exact h
section
variable {ths:List ThA}{j:Nat}{T T':ThA}
theorem me {E:EvA}(hT:ths[j]? = some T) (he:T'.evs=T.evs++[E]) {h p:Nat}{Th E':_}(h1:(ths.set j T')[h]? = some Th) (h2:Th.evs[p]? = some E'):(∃ T0,ths[h]? = some T0/\T0.evs[p]? = some E')\/(h=j/\p=T.evs.length/\E'=E):=by
 rcases dE (Cr.mp hT).1 h1 with ⟨rfl,rfl⟩|⟨_,z⟩
 ·rw[he] at h2
  rcases fk h2 with z|⟨z,rfl⟩
  ·exact .inl ⟨_,hT,z⟩
  ·exact .inr ⟨rfl,z,rfl⟩
 ·exact .inl ⟨_,z,h2⟩
theorem qm {E:EvA}(J:ths[j]? = some T) (O:T'.evs=T.evs++[E]) {h p:Nat}{q:ThA}{E':EvA}(h1:ths[h]? = some q) (h2:q.evs[p]? = some E'):∃ F,(ths.set j T')[h]? = some F/\F.evs[p]? = some E':=by
 by_cases e:h=j
 ·subst e
  rw[J] at h1;cases h1
  exact⟨T',CU (Cr.mp J).1,by rw[O];exact qA h2⟩
 ·exact⟨q,by rw[C6 (Ne.symm e)];exact h1,h2⟩
theorem ux (q:ths[j]? = some T) (F:T'.evs=T.evs++[E]):(ths.set j T')[j]? = some T'/\T'.evs[T.evs.length]? = some E:=⟨CU (Cr.mp q).1,by rw[F,C3 (Nat.le_refl _),Eb];rfl⟩
theorem Lk.gv {E:EvA}{A A':DiA}{xs:List (Addr×Int×Int)}(lk:Lk ths A) (W:ths[j]? = some T) (Y:T'.evs=T.evs++[E]) (hx:E.se=xs.map (·.2)) (hp:A'.po=A.po++lets j (T.evs.length+1) xs)
  (ht:(E.u=none/\A'.ta=A.ta)\/∃ l∈A.po,E.u=some l.nm/\l.to=j/\A'.ta=A.ta++[(l.nm,(T.evs.length:Int)+1)]):Lk (ths.set j T') A':=by
 have hm:∀ e,e∈A.ta->e∈A'.ta:=λ e h=>by
  rcases ht with ⟨_,z⟩|⟨l,_,_,_,z⟩
  ·rw[z];exact h
  ·rw[z];exact Dd _ h
 have pm:∀ l,l∈A.po->l∈A'.po:=λ l h=>by rw[hp];exact Dd _ h
 obtain⟨la,lb⟩:=ux W Y
 refine⟨λ l J=>?_,λ h p k x hs=>?_,λ e O=>?_,λ h p n Z=>?_⟩
 ·rw[hp] at J
  rcases CF.mp J with J|J
  ·obtain⟨h,p,k,z,U,E0,h1,h2,F⟩:=lk.s1 l J
   obtain⟨V,y1,y2⟩:=qm W Y h1 h2
   exact⟨h,p,k,z,V,E0,y1,y2,F⟩
  ·obtain⟨k,x,z,rfl⟩:=fz.mp J
   exact⟨j,T.evs.length,k,rfl,T',E,la,lb,by rw[hx,Cw,z];rfl⟩
 ·obtain⟨V,E1,h1,h2,F⟩:=hs
  rcases me W Y h1 h2 with ⟨U,z1,z2⟩|⟨rfl,rfl,rfl⟩
  ·obtain⟨l,J,y⟩:=lk.s2 h p k x ⟨U,E1,z1,z2,F⟩
   exact⟨l,pm l J,y⟩
  ·rw[hx,Cw] at F
   obtain⟨x',e,rfl⟩:=Df.mp F
   exact⟨_,by rw[hp];exact CW _ (fz.mpr ⟨k,x',e,rfl⟩),rfl,rfl⟩
 ·have a1:e∈A.ta->∃ h p:Nat,e.2=(p:Int)+1/\Used (ths.set j T') h p e.1:=λ q=>by
   obtain⟨h,p,z,U,E0,h1,h2,F⟩:=lk.u1 e q
   obtain⟨V,y1,y2⟩:=qm W Y h1 h2
   exact⟨h,p,z,V,E0,y1,y2,F⟩
  rcases ht with ⟨_,z⟩|⟨l,_,Z,_,z⟩
  ·rw[z] at O;exact a1 O
  ·rw[z] at O
   rcases CF.mp O with q|q
   ·exact a1 q
   ·rw[Cv] at q
    subst q
    exact⟨j,T.evs.length,rfl,T',E,la,lb,Z⟩
 ·obtain⟨V,E1,h1,h2,F⟩:=Z
  rcases me W Y h1 h2 with ⟨U,z1,z2⟩|⟨rfl,rfl,rfl⟩
  ·obtain⟨y1,l,J,y2⟩:=lk.u2 h p n ⟨U,E1,z1,z2,F⟩
   exact⟨hm _ y1,l,pm l J,y2⟩
  ·rcases ht with ⟨z,_⟩|⟨l,J,Z,to,z⟩
   ·rw[z] at F;cases F
   ·rw[Z] at F;cases F
    exact⟨by rw[z];exact CW _ (Cv.mpr rfl),l,pm l J,rfl,to⟩
theorem Lk.evs (W:Lk ths A) (h:∀ i:Nat,(ths'[i]?).map (·.evs)=(ths[i]?).map (·.evs)):Lk ths' A:=by
 have F:∀ {a b:List ThA},(∀ i:Nat,(a[i]?).map (·.evs)=(b[i]?).map (·.evs))->∀ {i:Nat} {T:ThA},a[i]? = some T->∃ q,b[i]? = some q/\q.evs=T.evs:=λ{a b} h {i T} e=>by
  have:=h i
  rw[e] at this
  obtain⟨q,y,z⟩:=Df.mp this.symm
  exact⟨q,y,z⟩
 refine⟨λ l Z=>?_,λ h' p k x hs=>?_,λ e hm=>?_,λ h' p n hu=>?_⟩
 ·obtain⟨h',p,k,z,Y,J,h1,h2,O⟩:=W.s1 l Z
  obtain⟨q,U,V⟩:=F (λ i=>(h i).symm) h1
  exact⟨h',p,k,z,q,J,U,by rw[V];exact h2,O⟩
 ·obtain⟨Y,J,h1,h2,O⟩:=hs
  obtain⟨q,U,V⟩:=F h h1
  exact W.s2 h' p k x ⟨q,J,U,by rw[V];exact h2,O⟩
 ·obtain⟨h',p,z,Y,J,h1,h2,O⟩:=W.u1 e hm
  obtain⟨q,U,V⟩:=F (λ i=>(h i).symm) h1
  exact⟨h',p,z,q,J,U,by rw[V];exact h2,O⟩
 ·obtain⟨Y,J,h1,h2,O⟩:=hu
  obtain⟨q,U,V⟩:=F h h1
  exact W.u2 h' p n ⟨q,J,U,by rw[V];exact h2,O⟩
end
theorem sR {ths:List ThA}{j:Nat}{T T':ThA}(h:ths[j]? = some T) (e:T'.evs=T.evs) (i:Nat):((ths.set j T')[i]?).map (·.evs)=(ths[i]?).map (·.evs):=by
 by_cases z:i=j
 ·subst z
  rw[CU (Cr.mp h).1,h];exact congrArg some e
 ·rw[C6 (Ne.symm z)]
theorem Lk.tp (F:Lk ths A):∀ e∈A.ta,∃ l∈A.po,l.nm=e.1/\1<=e.2/\e.2<=cnt ths l.to:=λ e J=>by
 obtain⟨h,p,z,q⟩:=F.u1 e J
 obtain⟨_,l,O,U,V⟩:=F.u2 h p e.1 q
 obtain⟨Y,W,h1,h2,Z⟩:=q
 have:=(Cr.mp h2).1
 exact⟨l,O,U,by lia,by rw[V,kL h1];lia⟩
theorem TWf.hd (w:TWf n T):∃ q F,T.ws=q::F/\∀ z∈q::F,q<=z:=by
 obtain⟨q,F,e⟩:=List.exists_cons_of_ne_nil w.ne
 have J:=w.so
 rw[e] at J
 refine⟨q,F,e,λ z U=>?_⟩
 rcases Cz.mp U with O|O
 ·lia
 ·exact Int.le_of_lt ((Fs.mp J).1 z O)
theorem TWf.pt (w:TWf n T) (h:T.pt y):0<=y/\y<=T.evs.length:=by
 obtain⟨x,q,z⟩:=h
 have:=w.rg x q
 have:=w.dn
 lia
theorem TWf.more (w:TWf n T):TWf (n+1) T:=⟨w.ne,w.so,w.rg,w.dn,w.d0,by have:=w.en;lia,by have:=w.wn;lia⟩
theorem mq {h:fZ}{d l:Int}(dl:d<=l):d<=h.gv d (l+1)/\h.gv d (l+1)<=l+1:=by
 cases h with
 | never=>exact⟨Dk _,by show d<=_;omega⟩
 | each=>exact⟨by show d<=l+1;omega,Dk _⟩
 | bundle m=>
  show d<=(if l+1-d >= m then l+1 else d)/\(if l+1-d >= m then l+1 else d)<=l+1
  split<;>omega
theorem rJ {h:fZ}{d l:Int}(dl:d<=l):d<=h.dc d l/\h.dc d l<=l:=by
 cases h with
 | never=>exact⟨Dk _,dl⟩
 | each=>exact⟨Dk _,dl⟩
 | bundle m=>exact⟨dl,Dk _⟩
theorem yK {T T':ThA}(J:∀ w∈T.ws,w∈T'.ws) (F:T.down<=T'.down) {y:Int}(h:T.pt y):T'.pt y:=let ⟨w,a,z⟩:=h;⟨w,J w a,z.imp id λ q=>⟨q.1,Fo q.2 F⟩⟩
theorem uq {T:ThA}{Ew:EvA}{y:Int}(dn:T.down<=T.evs.length) (h:T.pt y):({ T with evs:=T.evs++[Ew],down:=T.hab.gv T.down (T.evs.length+1) }:ThA).pt y:=let ⟨w,a,z⟩:=h;⟨w,a,z.imp id λ q=>⟨q.1,Fo q.2 (mq dn).1⟩⟩
theorem TWf.gv {n:Nat}{T:ThA}{Ew:EvA}(w:TWf n T):TWf (n+1) { T with evs:=T.evs++[Ew],down:=T.hab.gv T.down (T.evs.length+1) }:=by
 have d0:=w.d0
 have en:=w.en
 obtain⟨h1,h2⟩:=mq (h:=T.hab) w.dn
 have len:((T.evs++[Ew]).length:Int)=T.evs.length+1:=by rw[CA,CY];rfl
 refine⟨w.ne,w.so,λ z hz=>?_,?_,?_,?_,by have:=w.wn;show T.ws.length<=_;omega⟩
 ·have:=w.rg z hz
  show 0<=z/\z<=((T.evs++[Ew]).length:Int)
  omega
 ·show T.hab.gv T.down (T.evs.length+1)<=((T.evs++[Ew]).length:Int)
  omega
 ·show 0<=T.hab.gv T.down (T.evs.length+1)
  omega
 ·show (T.evs++[Ew]).length<=n+1
  omega
theorem TWf.wrote {n:Nat}{T:ThA}(w:TWf n T):TWf (n+1) T.wrote/\T.wrote.evs=T.evs/\∀ y,T.pt y->T.wrote.pt y:=by
 unfold ThA.wrote
 by_cases h:(T.evs.length:Int)∈T.ws
 ·rw[CG h];exact⟨w.more,rfl,λ _=>id⟩
 ·rw[CD h]
  have d0:=w.d0
  obtain⟨h1,h2⟩:=rJ (h:=T.hab) w.dn
  have mem:∀ z,z∈T.ws++[(T.evs.length:Int)]->z∈T.ws\/z=T.evs.length:=λ z hz=>(CF.mp hz).imp id Cv.mp
  refine⟨⟨by show T.ws++_≠[];simp,?_,λ z hz=>?_,h2,by show 0<=T.hab.dc T.down T.evs.length;omega,by have:=w.en;show T.evs.length<=_;omega,?_⟩,rfl,λ y hy=>yK (λ w hw=>Dd _ hw) h1 hy⟩
  ·show (T.ws++[(T.evs.length:Int)]).Pairwise (· < ·)
   refine DL.mpr ⟨w.so,FI _ _,λ a ha b hb=>?_⟩
   rw[Cv] at hb
   subst hb
   have:=w.rg a ha
   have:a≠T.evs.length:=λ z=>h (by rw[<- z];exact ha)
   omega
  ·rcases mem z hz with y|y
   ·exact w.rg z y
   ·subst y;exact⟨by omega,Dk _⟩
  ·show (T.ws++[(T.evs.length:Int)]).length<=_
   have:=w.wn
   rw[CA,CY];omega
theorem TWf.cut (w:TWf n T) (h:T.pt y):TWf n (T.cutAt y)/\∀ x,T.pt x->x<=y->(T.cutAt y).pt x:=by
 obtain⟨y0,y1⟩:=w.pt h
 have en:=w.en
 have dn:=w.dn
 have Z:=w.d0
 have Y:((T.evs.take y.toNat).length:Int)=y:=by rw[Dg];lia
 have F:∀ z,z∈T.ws.filter (λ z=>decide (z<=y))↔z∈T.ws/\z<=y:=λ z=>by rw[Dj,C9]
 have J:∀ x,T.pt x->x<=y->∃ w∈T.ws,w<=y/\(x=w\/(w<x/\x<=T.down)):=λ x ⟨w,a,z⟩ U=>⟨w,a,by lia,z⟩
 refine⟨⟨?_,w.so.filter _,λ z W=>?_,?_,?_,?_,?_⟩,λ x V U=>?_⟩
 ·obtain⟨O,a,b,_⟩:=J y h (Dk _)
  exact EC ((F O).mpr ⟨a,b⟩)
 ·obtain⟨a,b⟩:=(F z).mp W
  have:=w.rg z a
  show 0<=z/\z<=((T.evs.take y.toNat).length:Int)
  lia
 ·show min T.down y<=((T.evs.take y.toNat).length:Int)
  lia
 ·show 0<=min T.down y
  lia
 ·show (T.evs.take y.toNat).length<=n
  lia
 ·exact CV (DI _ _) w.wn
 ·obtain⟨O,a,b,c⟩:=J x V U
  exact⟨O,(F O).mpr ⟨a,b⟩,c.imp id λ q=>⟨q.1,by show x<=min T.down y;lia⟩⟩
theorem TWf.throw (w:TWf n T) (h:T.pt y) (V:mZ T.ws y kp):TWf n { T with ws:=T.ws.filter (λ z=>decide (z >= kp)) }/\({ T with ws:=T.ws.filter (λ z=>decide (z >= kp)) }:ThA).pt y:=by
 have J:∀ z,z∈T.ws.filter (λ z=>decide (z >= kp))↔z∈T.ws/\z >= kp:=λ z=>by rw[Dj,C9]
 obtain⟨x,O,z⟩:=h
 have F:kp∈T.ws/\kp<=y/\∀ w∈T.ws,w<=y->w<=kp:=by
  rcases V with ⟨_,q⟩|q
  ·have:=q x O;lia
  ·exact q
 have U:=(J kp).mpr ⟨F.1,Dk _⟩
 refine⟨⟨EC U,w.so.filter _,λ z W=>w.rg z ((J z).mp W).1,w.dn,w.d0,w.en,CV (DI _ _) w.wn⟩,kp,U,?_⟩
 have:=F.2.2 x O
 show y=kp\/(kp<y/\y<=T.down)
 lia
noncomputable def ky (b:Int->Int) (A:DiA):Prop:=∀ l∈A.po,∀ e∈A.ta,e.1=l.nm->e.2<=b l.to->l.nm.2.1<=b l.nm.1
structure Lo (K:W.Frag) (t:Adr) (G H:Hp) (L:LoL) (A:LoA) (n:Nat):Prop where
 c:LoC K t G H L A
 wf:WfD A.many (cnt A.ths) A.A
 lk:Lk A.ths A.A
 lg:∃ xs,H L.lg=some (.lst xs)/\xs.length<=n/\∀ x∈xs,qH A.many H x
 tw:∀ T∈A.ths,TWf n T
 bn:A.A.po.length<=2*n/\A.A.wy.length<=A.A.po.length
 m2:2<=A.many/\A.many<=5
 fr:∃ a b m c:Int,A.fr=[.int A.many,.int c,.int a,.int b,.int m]/\0<m/\(-(2 ^ 64)<a/\a<2 ^ 64)/\(-(2 ^ 64)<b/\b<2 ^ 64)
 pts:∀ (j:Nat) T,A.ths[j]? = some T->T.pt (A.b j)
 snd:ky A.b A.A
structure Stp (H H':Hp) (L:LoL) (A:LoA) (L':LoL) (A':LoA):Prop where
 p:L'.p=L.p
 bt:But (L.own A) H H'
 em:A'.many=A.many
 eo:A'.ord=A.ord
 eb:∀ i:Nat,i<A.many->A.b i<=A'.b i
 fr:∀ b∈L'.own A',b∈L.own A\/H b=none
theorem Stp.trans (a:Stp H H' L A L' A') (b:Stp H' H'' L' A' L'' A''):Stp H H'' L A L'' A'':=by
 refine⟨b.p.trans a.p,λ x o n e=>b.bt x o (λ z=>?_) (a.bt x o n e),b.em.trans a.em,b.eo.trans a.eo,λ i h=>Fo (a.eb i h) (b.eb i (by rw[a.em];exact h)),λ x F=>?_⟩
 ·rcases a.fr x z with y|y
  ·exact n y
  ·rw[y] at e;cases e
 ·rcases b.fr x F with y|y
  ·exact a.fr x y
  ·by_cases z:x∈L.own A
   ·exact .inl z
   ·cases q:H x with
    | none=>exact .inr rfl
    | some o=>rw[a.bt x o z q] at y;cases y
theorem Stp.of (s:aM H H'):Stp H H' L A L A:=⟨rfl,But.of s,rfl,rfl,λ _ _=>Dk _,λ _ h=>.inl h⟩
theorem LoC.stp {G H H':Hp}{L:LoL}{A:LoA}(c:LoC K t G H L A) {j:Nat}{q q':ThL}{T':ThA}(hq:L.ths[j]? = some q) (bt:But q.ad H H') (fr:∀ b∈q'.ad,b∈q.ad\/H b=none):Stp H H' L A { L with ths:=L.ths.set j q' } { A with ths:=A.ths.set j T' }:=by
 refine⟨rfl,bt.mono λ b hb=>LoL.dS hq hb,rfl,rfl,λ _ _=>Dk _,λ b hb=>?_⟩
 rcases LoL.cx hb with y|⟨i,r,hr,y⟩|y
 ·exact .inl (LoL.dP y)
 ·rcases dE (Cr.mp hq).1 hr with ⟨rfl,rfl⟩|⟨_,hr⟩
  ·exact(fr b y).imp (λ z=>LoL.dS hq z) id
  ·exact .inl (LoL.dS hr y)
 ·exact .inl (LoL.gz y)
theorem Lo.same (lo:Lo K t G H L A n) (s:aM H H'):Lo K t G H' L A n:=
 let ⟨xs,h,F,r⟩:=lo.lg
 ⟨lo.c.frame (.refl _) (lo.c.held.trans s) (λ b o _ e=>s _ _ e) lo.c.gn,lo.wf,lo.lk,⟨xs,s _ _ h,F,λ x q=>(r x q).keep λ b xs e=>s _ _ e⟩,lo.tw,lo.bn,lo.m2,lo.fr,lo.pts,lo.snd⟩
theorem ki (h:∀ T∈ths,TWf n T) (x):cnt ths x<=n:=by
 unfold cnt
 cases e:ths[x.toNat]? with
 | none=>dsimp only;lia
 | some T=>
  have:=(h T (CB e)).en
  dsimp only;lia
theorem Lo.at (lo:Lo K t G H L A n) (F:j<A.many):∃ q T,L.ths[j]? = some q/\A.ths[j]? = some T/\Th K t G H q T/\TWf n T/\(L.ths.map λ q=>V.ref q.p)[j]? = some (.ref q.p):=by
 have h1:=Cs (l:=L.ths) (i:=j) (by rw[lo.c.len1];exact F)
 have h2:=Cs (l:=A.ths) (i:=j) (by rw[lo.c.len2];exact F)
 exact⟨_,_,h1,h2,lo.c.th j _ _ h1 h2,lo.tw _ (CB h2),by rw[Cw,h1];rfl⟩
inductive How (H:Hp) (A:LoA) (h:Int):V->V->Option Nm3->Prop
 | own:How H A h .non .non none
 | use {b:Addr} {l:cF}:H b=some (.tup (nV l.nm))->l∈A.A.po->l.nm∉A.A.ta.map (·.1)->l.to=h->How H A h (.ref b) (.int l.wd) (some l.nm)
section
variable {G H H':Hp}{q:ThL}{T0:ThA}{Q:VK}{E:XK}{L:LoL}{A:LoA}{n j:Nat}
theorem iC (th:Th K t G H q T0) (k:Q (.int T0.evs.length) H):ve t K [.ref q.p] H Q E:=by
 obtain⟨es,J,F⟩:=th.done
 rw[<- F.1] at k
 exact⟨q.p,q.dx,_,q.ha,q.dn,q.wr,_,es,rfl,th.self,SqL.of J,k⟩
theorem qG (th:Th K t G H q T0) (J:TWf n T0) (k:∀ st:Int,Q (.int st) H):vm K t [.ref q.p,.int T0.evs.length] H Q E:=by
 obtain⟨es,V,O⟩:=th.done
 obtain⟨Y,Z,U,_⟩:=J.hd
 have F:(es.length:Int)=T0.evs.length:=by rw[O.1]
 refine⟨G,q.p,q.dx,_,q.ha,q.dn,q.wr,_,Y,Z,es,T0.evs,T0.evs.length,rfl,th.held,th.self,by rw[<- U];exact th.dc,V,O,λ z W=>by rw[F];exact J.rg z (by rw[U];exact W),by rw[F];exact J.dn,λ _=>k _,λ z=>absurd (.inl F.symm) z⟩
theorem zb {e:Addr}{Ew:EvA}(th:Th K t G H q T0) (ev:EvO K t G e Ew) (few:T0.evs.length<=900) (k:∀ G' H',cL H G G' H'->But [q.p,q.dn] H H'->Th K t G' H' q { T0 with evs:=T0.evs++[Ew],down:=T0.hab.gv T0.down (T0.evs.length+1) }->Q .non H'):vt K t [.ref q.p,.ref e] H Q E:=⟨G,q,T0,e,Ew,rfl,th,ev,few,k⟩
theorem fE (T:Txt K mg t) (c:LoC K t G H L A) (h0:σ[0]? = some (some (.ref L.p))) (h1:σ[1]? = some (some (.int j))) (F:(L.ths.map λ q=>V.ref q.p)[j]? = some (.ref q.p)):Ev (tOp (rR K) (lS K (cM 0) "threads") (cM 1)) σ H (.ref q.p):=
 λ _ k=>⟨_,h0,L.p,_,L.dx,_,_,rfl,c.self,T.cl_Loom,T.na_bv,rfl,_,h1,L.lt,_,j,.ref q.p,rfl,rfl,SqL.of c.tl,cR F,k⟩
theorem gs (c:LoC K t G H L A) (F:j<A.many) (k:Q .non H):vv t [.ref L.p,.int j] H Q E:=⟨L.p,L.dx,L.dz,A.many,A.ord,L.lt,L.lg,L.D,j,rfl,c.self,by lia,by lia,k⟩
theorem lD (s:aM G H) (S:List Addr) (O:∀ b∈S,∃ xs,H b=some (.tup xs)):∃ F,aM G F/\aM F H/\(∀ b∈S,F b=H b)/\∀ b,G b=none->(∀ xs,H b≠some (.tup xs))->F b=none:=by
 classical
 refine⟨λ b=>if b∈S then H b else G b,λ b o e=>?_,λ b o e=>?_,λ b U=>CG U,λ b e n=>?_⟩
 ·show (if b∈S then H b else G b)=_
  split
  ·exact s _ _ e
  ·exact e
 ·have J:(if b∈S then H b else G b)=some o:=e
  split at J
  ·exact J
  ·exact s _ _ J
 ·show (if b∈S then H b else G b)=_
  split
  ·next h=>
   obtain⟨xs,z⟩:=O b h
   exact absurd z (n xs)
  ·exact e
theorem jD {G7 H7:Hp}{T':ThA}{Ew:EvA}{A1:DiA}{m1:Addr}{ls:List (Addr×Int×Int)}(lo:Lo K t G H L A n) (nn:n<30) (hT:A.ths[j]? = some T0) (he:T'.evs=T0.evs++[Ew]) (tw':TWf (n+1) T') (pt':∀ y,T0.pt y->T'.pt y)
  (c7:LoC K t G7 H7 L { A with ths:=A.ths.set j T',A:=A1 }) (wf7:WfD A.many (cnt (A.ths.set j T')) A1) (po7:A1.po=A.A.po) (wl7:A1.wy.length=A.A.wy.length) (ow7:L.D.own A1=L.D.own A.A)
  (ht:(Ew.u=none/\A1.ta=A.A.ta)\/∃ l∈A.A.po,Ew.u=some l.nm/\l.to=j/\A1.ta=A.A.ta++[(l.nm,(T0.evs.length:Int)+1)]) (bt7:But (L.own A) H H7) (lg7:∀ xs,H L.lg=some (.lst xs)->H7 L.lg=some (.lst xs))
  (hm7:H7 m1=some (.lst (ls.map λ x=>V.ref x.1))) (few:ls.length<=2) (hls:∀ x∈ls,G7 x.1=some (.tup [.int x.2.1,.int x.2.2])/\0<=x.2.1/\x.2.1<A.many) (hx:Ew.se=ls.map (·.2))
  (k:∀ G' H' A',Stp H H' L A L A'->Lo K t G' H' L A' (n+1)->(∃ xs,H' L.lg=some (.lst xs)/\xs.length<=n)->Q .non H'):vC K t [.ref L.p,.int j,.int ((T'.evs.length:Nat):Int),.ref m1] H7 Q E:=by
 have hj:j<A.many:=by rw[<- lo.c.len2];exact(Cr.mp hT).1
 have hlen:T'.evs.length=T0.evs.length+1:=by rw[he];simp
 have hTj:(A.ths.set j T')[j]? = some T':=CU (by rw[lo.c.len2];exact hj)
 have bn:=lo.bn
 refine⟨G7,L.p,L.dx,L.dz,A.many,A.ord,L.lt,L.lg,L.D,A1,m1,j,T'.evs.length,ls,A.many,cnt (A.ths.set j T'),rfl,c7.self,c7.di,wf7,c7.nd1 (by simp),λ z=>?_,SqL.of hm7,by omega,hls,by omega,by omega,by omega,by rw[kL hTj];exact Dk _,λ l' hl' el'=>?_,by rw[po7];omega,by rw[wl7];omega,λ H8 A8 b8 d8 w8 e1 e2 e3 fr8=>?_⟩
 ·obtain⟨kvs,y⟩:=c7.di.isd z
  rw[hm7] at y;cases y
 ·rw[po7] at hl'
  have:=(lo.wf.rg l' hl').2.2.2.1
  rw[el',kL hT] at this
  omega
 have bt8:But (L.own A) H H8:=λ b o nb z=>b8 b o (λ y=>nb (LoL.gz (by rw[ow7] at y;exact y))) (bt7 b o nb z)
 obtain⟨lx,lgx,lln,lrr⟩:=lo.lg
 have lg8:H8 L.lg=some (.lst lx):=b8 _ _ (c7.nd1 (L:=L) (b:=L.lg) (by simp)) (lg7 _ lgx)
 have e2':A8.po=A.A.po++lets j (T0.evs.length+1) ls:=by rw[e2,po7,hlen];rfl
 have lk8:Lk (A.ths.set j T') A8:=lo.lk.gv hT he hx e2' (by rw[e1];exact ht)
 have len8:A8.po.length=A.A.po.length+ls.length:=by rw[e2',CA];unfold lets;rw[Ft]
 refine k G7 H8 { A with ths:=A.ths.set j T',A:=A8 } ⟨rfl,bt8,rfl,rfl,λ _ _=>Dk _,λ b hb=>?_⟩ ⟨c7.oj b8 d8,w8,lk8,⟨lx,lg8,by omega,λ x hx=>(lrr x hx).keep λ b xs e=>bt8 _ _ (lo.c.tU e) e⟩,λ T1 hT1=>?_,⟨by show A8.po.length<=_;omega,by show A8.wy.length<=A8.po.length;omega⟩,lo.m2,lo.fr,λ i T1 h1=>?_,λ l hl e hm ee le=>?_⟩ ⟨lx,lg8,lln⟩
 ·rcases LoL.cx hb with y|⟨i,r,hr,y⟩|y
  ·exact .inl (LoL.dP y)
  ·exact .inl (LoL.dS hr y)
  ·rcases fr8 b y with y|y
   ·exact .inl (LoL.gz (by rw[ow7] at y;exact y))
   ·by_cases nb:b∈L.own A
    ·exact .inl nb
    ·cases hb':H b with
     | none=>exact .inr rfl
     | some o=>rw[bt7 b o nb hb'] at y;cases y
 ·rcases List.mem_or_eq_of_mem_set hT1 with y|y
  ·exact(lo.tw T1 y).more
  ·rw[y];exact tw'
 ·rcases dE (by rw[lo.c.len2];exact hj) h1 with ⟨rfl,rfl⟩|⟨_,z⟩
  ·exact pt' _ (lo.pts i T0 hT)
  ·exact lo.pts i T1 z
 ·have old:∀ l'∈A.A.po,e.1=l'.nm->l=l':=λ l' hl' e'=>dj w8.nd hl (by rw[e2'];exact Dd _ hl') (ee.symm.trans e')
  have hm':e∈A8.ta:=hm
  rw[e1] at hm'
  have go:e∈A.A.ta->l.nm.2.1<=A.b l.nm.1:=λ q=>by
   obtain⟨l',hl',y,_⟩:=lo.lk.tp e q
   have:=old l' hl' y.symm
   subst this
   exact lo.snd l hl' e q ee le
  rcases ht with ⟨_,z⟩|⟨l',hl',_,to,z⟩
  ·rw[z] at hm';exact go hm'
  ·rw[z] at hm'
   rcases CF.mp hm' with q|q
   ·exact go q
   ·rw[Cv] at q
    subst q
    have:=old l' hl' rfl
    subst this
    have:=((lo.tw T0 (CB hT)).pt (lo.pts j T0 hT)).2
    rw[to] at le
    have le':(T0.evs.length:Int)+1<=A.b j:=le
    omega
end
noncomputable def Bw (K:W.Frag) (t:Adr):Sp:=λ vs H Q _=>∃ G L A n,∃ j:Nat,∃ v w u,vs=[.ref L.p,.int j,v,w]/\Lo K t G H L A n/\n<30/\j<A.many/\How H A j v w u /\
 ∀ G' H' A',Stp H H' L A L A'->Lo K t G' H' L A' (n+1)->(∃ xs,H' L.lg=some (.lst xs)/\xs.length<=n)->Q .non H'
theorem uQ (T:Txt K mg t):bq P w K mg base (CXr P w) 5 t.f_bn t.fd_bn ["self","hand","name","word"] (Bw K t):=by
 refine T.F_bn.okN oK (λ vs H Q E h=>?_) (λ cdv A outer s H vs Q E hr h=>?_)
 ·obtain⟨G,L,A,n,j,v,w,u,rfl,_⟩:=h;rfl
 ·obtain⟨G,L,A,n,j,v,w',u,rfl,lo,nn,hj,how,k⟩:=h
  refine⟨_,(aH (aY (i:=4) oK.nd rfl (Or.inl rfl) (bo (br (K:=K)) (aO (K:=K) (pv 0) rfl) (pv 1) (λ _ _=>rfl)))
   (aH (aY (i:=5) oK.nd rfl (Or.inl rfl) (pI (xP (K:=K) T) (hr.mono (by decide)) (pv 0) T.cl_Loom T.na_dd aL (aJ (pv 1) (aJ (aX (pv 4) T.cl_Thread T.me_aq (AX (K:=K) T) (hr.mono (by decide)) T.b_aq .nil aL (aJ (bc (pv 4) T.cl_Thread T.me_cb (dF (K:=K) T) (hr.mono (by decide)) T.b_cb .nil aL) aG)) (aJ (pv 3) aG)))))
   (aH (aY (i:=6) oK.nd rfl (Or.inl rfl) (dI T.mk_Event (va (K:=K) T) (hr.mono (by decide)) rfl T.mg_Event T.b_co .nil aL (aJ (pv 2) (aJ (bo (bz (K:=K)) (pv 5) aN (λ _ _=>rfl)) (aJ (bo (bz (K:=K)) (pv 5) aN (λ _ _=>rfl)) (aJ (bo (bz (K:=K)) (pv 5) aN (λ _ _=>rfl)) aG))))))
   (aH (aZ (aX (pv 4) T.cl_Thread T.me_cx (z8 (K:=K) T) (hr.mono (by decide)) T.b_cx .nil aL (aJ (pv 6) aG)))
   (aH (bH (bj j8 (pv 2) fV (bx _))
    (aH (iw (cm hr) (aO (K:=K) (pv 0) rfl) (pv 2) (bc (pv 4) T.cl_Thread T.me_cb (dF (K:=K) T) (hr.mono (by decide)) T.b_cb .nil aL) rfl)
   (aI (aZ (cW (K:=K) FF PySem.F.slot_dict_pop PySem.F.type_dict_pop (ti (cm hr)) (cP (cm hr) (aO (K:=K) (pv 0) rfl) (cB (aJ (bo (bz (K:=K)) (pv 2) aN (λ _ _=>rfl)) (aJ (pv 1) aG))) (λ _ _=>rfl)) (aJ (pv 2) aG)))))
    bp)
   (aI (aZ (aX (pv 0) T.cl_Loom T.me_cy (uE (K:=K) T) (hr.mono (by decide)) T.b_cy .nil aL (aJ (pv 1) (aJ (bc (pv 4) T.cl_Thread T.me_cb (dF (K:=K) T) (hr.mono (by decide)) T.b_cb .nil aL) (aJ (aO (K:=K) (pv 6) rfl) aG))))))))))),?_⟩
  refine sq λ rr1 ee1=>?_
  obtain⟨q,T0,hq,hT,th,tw,hqs⟩:=lo.at hj
  have m2:=lo.m2
  refine fE T lo.c rfl rfl hqs _ ?_
  refine(sn ee1 λ rr2 ee2=>?_:rr1 _ _ _)
  refine⟨_,rfl,L.p,L.dx,_,L.dz,_,rfl,lo.c.self,rfl,lo.c.clo.same (λ b o u e=>lo.c.held _ _ e),?_⟩
  refine⟨_,rfl,tm (.n rfl) th.self rfl (vs:=[.int T0.evs.length]) (λ Q' q'=>tm (.n rfl) th.self rfl .nil (iC th q')) (qG th tw λ st=>?_)⟩
  obtain⟨fa,fb,fm,fc,fe,f1,f2,f3⟩:=lo.fr
  rw[fe]
  refine⟨_,rfl,.refl _,fa,fb,fm,fc,A.many,j,st,w',rfl,rfl,by cases how with|own=>exact .inl rfl|use _ _ _ _=>exact .inr ⟨_,rfl⟩,by omega,by omega,by omega,by omega,f1,f2,f3,λ H1 r st' l1 l2 ls zs s1 hr1 h1 few hls h2 lw=>?_⟩
  refine(sn ee2 λ rr3 ee3=>?_:rr2 _ _ _)
  refine⟨_,rfl,_,rfl,r,_,0,_,rfl,rfl,SqT.of hr1,rfl,_,rfl,r,_,1,_,rfl,rfl,SqT.of hr1,rfl,_,rfl,r,_,2,_,rfl,rfl,SqT.of hr1,rfl,λ e dxe ne nde nd=>?_⟩
  obtain⟨Sn,hSn,rpu⟩:∃ Sn:List Addr,(∀ b∈Sn,∃ xs,H b=some (.tup xs))/\∀ G1:Hp,(∀ b∈Sn,G1 b=H b)->UsO G1 v u:=by
   cases how with
   | own=>exact⟨[],(λ b hb=>by cases hb),λ _ _=>rfl⟩
   | @use b l hb _ _ _=>exact⟨[b],(λ c hc=>by rw[Cv] at hc;rw[hc];exact⟨_,hb⟩),λ G1 h=>⟨b,rfl,by rw[h b (by simp)];exact hb⟩⟩
  obtain⟨G1,z1,z2,z3,z4⟩:=lD (lo.c.held.trans s1) (Sn++ls.map (·.1)) λ b hb=>by
   rcases CF.mp hb with hb|hb
   ·obtain⟨xs,y⟩:=hSn b hb
    exact⟨xs,s1 _ _ y⟩
   ·obtain⟨x,hx,rfl⟩:=CL.mp hb
    exact⟨_,(hls x hx).1⟩
  have hlsG:∀ x∈ls,G1 x.1=some (.tup [.int x.2.1,.int x.2.2]):=λ x hx=>by rw[z3 x.1 (CW _ (CN hx))];exact(hls x hx).1
  have c1:LoC K t G1 H1 L A:=lo.c.frame z1 z2 (λ b o _ y=>s1 _ _ y) λ b hb=>z4 b (lo.c.gn b hb) λ xs y=>by
   obtain⟨o,e,g⟩:=lo.c.big hb
   rw[s1 _ _ e] at y
   cases y;exact g
  refine⟨e,dxe,v,st',l1,l2,_,_,rfl,aD,SqL.of (aM.ins ne nde _ _ h1),by rw[Cy];omega,λ x hx=>?_,SqL.of (aM.ins ne nde _ _ h2),λ m1 m2 H5 nm1 nm2 nm12 hH5=>⟨rfl,?_⟩⟩
  ·obtain⟨y,hy,rfl⟩:=CL.mp hx
   exact⟨y.1,_,rfl,SqT.of (aM.ins ne nde _ _ (hls y hy).1)⟩
  refine(sn ee3 λ rr4 ee4=>?_:rr3 _ _ _)
  obtain⟨G2,g2,s5,evo,ge2,gm2⟩:=rK (K:=K) (Ew:=⟨u,st',ls.map (λ x:Addr×Int×Int=>x.2)⟩) z2 ne nde nm1 nm2 nm12 hH5 (rpu G1 λ b hb=>by
   rw[z3 b (Dd _ hb)]
   obtain⟨xs,y⟩:=hSn b hb
   rw[y,s1 _ _ y]) ⟨ls,rfl,rfl,hlsG⟩ (by rw[Cy];omega)
  have c2:LoC K t G2 H5 L A:=c1.frame g2.sub g2.held (λ b o _ y=>s5 _ _ y) λ b hb=>g2.free (c1.eS b hb) (c1.gn b hb)
  refine tm (.n rfl) (c2.th j q T0 hq hT).self rfl (.cons (.n rfl) .nil) (zb (c2.th j q T0 hq hT) evo (by have:=tw.en;omega) λ G3 H6 g3 b3 th3=>?_)
  refine(sn ee4 λ rr5 ee5=>?_:rr4 _ _ _)
  have c3:=c2.jM hq g3 (b3.mono λ b hb=>by unfold ThL.ad;simp only[Cz,CC,C2] at hb ⊢;exact hb.imp id .inl) th3 rfl λ b hb=>.inl hb
  have hset:L.ths.set j q=L.ths:=by
   obtain⟨lt,rfl⟩:=Cr.mp hq
   exact List.set_getElem_self lt
  rw[hset] at c3
  obtain⟨T',hT'⟩:∃ T',T'={ T0 with evs:=T0.evs++[(⟨u,st',ls.map (λ x:Addr×Int×Int=>x.2)⟩:EvA)],down:=T0.hab.gv T0.down (T0.evs.length+1) }:=⟨_,rfl⟩
  rw[<- hT'] at th3 c3
  have c3:LoC K t G3 H6 L { A with ths:=A.ths.set j T' }:=c3
  have he':T'.evs=T0.evs++[⟨u,st',ls.map (λ x:Addr×Int×Int=>x.2)⟩]:=by rw[hT']
  have el':T'.evs.length=T0.evs.length+1:=by rw[he'];simp
  have tw':TWf (n+1) T':=by rw[hT'];exact tw.gv
  have pt':∀ y,T0.pt y->T'.pt y:=λ y h=>by rw[hT'];exact uq tw.dn h
  have wf3:WfD A.many (cnt (A.ths.set j T')) A.A:=lo.wf.mono λ x=>qS hT (by omega) x
  have qI:∀ b∈[q.p,q.dn],b∈q.ad:=λ b hb=>by
   unfold ThL.ad
   simp only[Cz,CC,C2] at hb ⊢
   exact hb.imp id .inl
  have bt6:But (L.own A) H H6:=λ b o nb y=>b3 b o (λ z=>nb (LoL.dS hq (qI b z))) (s5 _ _ (s1 _ _ y))
  have lg6:∀ xs,H L.lg=some (.lst xs)->H6 L.lg=some (.lst xs):=λ xs y=>b3 _ _ (λ z=>lo.c.tb j q hq _ (qI _ z) (by simp)) (s5 _ _ (s1 _ _ y))
  have gl3:∀ x∈ls,G3 x.1=some (.tup [.int x.2.1,.int x.2.2])/\0<=x.2.1/\x.2.1<A.many:=λ x hx=>⟨g3.sub _ _ (g2.sub _ _ (hlsG x hx)),(hls x hx).2⟩
  have ge3:=g3.sub _ _ ge2
  have gm3:=g3.sub _ _ gm2
  have hTj:(A.ths.set j T')[j]? = some T':=CU (by rw[lo.c.len2];exact hj)
  cases how with
  | own=>
   refine⟨_,rfl,rfl,_,rfl,bT rfl ?_⟩
   subst ee5
   refine tm (.n rfl) c3.self rfl (vs:=[.int j,.int T'.evs.length,.ref m1]) (.cons (.n rfl) (.cons (λ Q' q'=>tm (.n rfl) (c3.th j q T' hq hTj).self rfl .nil (iC (c3.th j q T' hq hTj) q')) (.cons (.f (.n rfl) (c3.held _ _ ge3) T.cl_Event T.na_cu gj) .nil))) ?_
   exact jD lo nn hT he' tw' pt' c3 wf3 rfl rfl rfl (.inl ⟨rfl,rfl⟩) bt6 lg6 (c3.held _ _ gm3) few gl3 rfl k
  | @use b l hb hl nt to=>
   refine⟨_,rfl,rfl,_,rfl,du rfl ?_⟩
   have th6:=c3.th j q T' hq hTj
   have nbo:∀ c∈L.own A,b≠c:=λ c hc y=>lo.c.tU hb (by rw[y];exact hc)
   have hb6:H6 b=some (.tup ((nk l.nm).map kV)):=bt6 _ _ (λ y=>nbo b y rfl) hb
   have v1:bV (A.A.ta.map λ e=>(nk e.1,V.int e.2)) (nk l.nm)=none:=dZ (λ e:Nm3×Int=>nk e.1) (λ e=>V.int e.2) λ e he y=>nt (by rw[<- cC _ _ y];exact CN he)
   have bn:=lo.bn
   have lta:A.A.ta.length<=A.A.po.length:=by
    have:=jf (b:=A.A.po.map (·.nm)) lo.wf.nt λ z hz=>by
     obtain⟨e,he,rfl⟩:=CL.mp hz
     obtain⟨l',hl',y,_⟩:=lo.lk.tp e he
     rw[<- y];exact CN hl'
    rwa [Cy,Cy] at this
   refine tm (.n rfl) th6.self rfl .nil (iC th6 ?_)
   refine⟨_,rfl,L.p,_,L.dx,_,_,rfl,c3.self,T.cl_Loom,T.na_cw,rfl,_,rfl,L.D.ta,_,rfl,.inr ⟨_,nk l.nm,b,c3.di.ta,rfl,hb6,bh (by rw[Cy];show A.A.ta.length<=1000;omega),rfl⟩,?_⟩
   rw[eT _ v1]
   obtain⟨e0,he0,k0⟩:=lo.wf.wa l hl nt
   have taI:L.D.ta∈L.D.own A.A:=by unfold DiL.own;simp
   have wyI:L.D.wy∈L.D.own A.A:=by unfold DiL.own;simp
   have e0I:e0.2.1∈L.D.own A.A:=DiL.eF he0
   obtain⟨x1,x2,x3,x4,x5⟩:=c3.di.nes
   have pta:L.p≠L.D.ta:=λ y=>c3.nd1 (b:=L.p) (by simp) (by rw[y];exact taI)
   have wta:L.D.wy≠L.D.ta:=Ne.symm x3
   have eta:e0.2.1≠L.D.ta:=(x4 e0 he0).2.1
   have bta:b≠L.D.ta:=nbo _ (LoL.gz taI)
   refine⟨_,rfl,L.p,_,L.dx,_,_,rfl,by rw[aE pta];exact c3.self,T.cl_Loom,T.na_df,rfl,_,rfl,b,nV l.nm,0,.int l.nm.1,rfl,rfl,SqT.of (by rw[aE bta];exact hb6),bM,_,rfl,by show 2<=sizeLine;decide,λ kb hkb=>?_⟩
   have v2:bV (A.A.wy.map λ e=>(wk e.1,V.ref e.2.1)) (wk (l.nm.1,(j:Int)))=some (.ref e0.2.1):=by
    rw[<- to,<- k0]
    exact cG (λ e=>wk e.1) (λ e=>V.ref e.2.1) (dD (f:=λ x:(Int×Int)×Addr×List Nm3=>x.1) mY lo.wf.wn) he0
   have v3:bV (e0.2.2.map λ n=>(nk n,V.bl true)) (nk l.nm)=some (.bl true):=cG nk (λ _=>V.bl true) (vr cC (lo.wf.wd e0 he0)) ((lo.wf.wi e0 he0 l.nm).mpr ⟨l,hl,rfl,by rw[k0],by rw[k0],nt⟩)
   obtain⟨ot,hot⟩:∃ ot,ot=HO.dT ((A.A.ta.map λ e=>(nk e.1,V.int e.2))++[(nk l.nm,V.int T'.evs.length)]):=⟨_,rfl⟩
   rw[<- hot] at hkb ⊢
   have up:∀ c o,c≠L.D.ta->H6 c=some o->upd (upd H6 L.D.ta ot) kb (.tup [.int l.nm.1,.int j]) c=some o:=λ c o nc y=>by
    rw[aE (aF (o:=o) (by rw[aE nc];exact y) hkb),aE nc];exact y
   have way6:=up _ _ eta (c3.di.ways e0 he0)
   have ta6:upd (upd H6 L.D.ta ot) kb (.tup [.int l.nm.1,.int j]) L.D.ta=some ot:=by rw[aE (aF aD hkb),aD]
   refine⟨L.D.wy,.ref e0.2.1,rfl,.inr ⟨_,wk (l.nm.1,(j:Int)),kb,.inl (up _ _ wta c3.di.wy),rfl,aD,v2.symm⟩,.inr (.inr (.inl ⟨rfl,.inr ⟨_,way6⟩⟩)),_,rfl,e0.2.1,b,_,nk l.nm,.bl true,rfl,rfl,way6,up _ _ bta hb6,v3,?_⟩
   rw[mB]
   generalize upd (upd H6 L.D.ta ot) kb (.tup [.int l.nm.1,.int j])=H7 at up ta6 way6 ⊢
   obtain⟨d7,own7⟩:=c3.di.take (l:=l) (pl:=T'.evs.length) (e0:=e0) (H':=upd H7 e0.2.1 (.dT ((e0.2.2.filter λ x=>decide (x≠l.nm)).map λ n=>(nk n,V.bl true)))) lo.wf.wn he0 k0 (by rw[aE (Ne.symm eta),ta6,hot]) aD (λ c o n1 n2 _ y=>by rw[aE n2];exact up c o n1 y) (λ c o y=>by rw[aE (aF y (c3.di.gn _ e0I))];exact up c o (aF y (c3.di.gn _ taI)) (c3.di.held _ _ y))
   have b67:But (L.D.own A.A) H6 (upd H7 e0.2.1 (.dT ((e0.2.2.filter λ x=>decide (x≠l.nm)).map λ n=>(nk n,V.bl true)))):=λ c o nc y=>by
    rw[aE (λ z=>nc (by rw[z];exact e0I))];exact up c o (λ z=>nc (by rw[z];exact taI)) y
   generalize upd H7 e0.2.1 (.dT ((e0.2.2.filter λ x=>decide (x≠l.nm)).map λ n=>(nk n,V.bl true)))=H8 at d7 b67 ⊢
   have c7:LoC K t G3 H8 L { A with ths:=A.ths.set j T',A:=A.A.take l T'.evs.length }:=c3.oj b67 d7
   subst ee5
   refine tm (.n rfl) c7.self rfl (vs:=[.int j,.int T'.evs.length,.ref m1]) (.cons (.n rfl) (.cons (λ Q' q'=>tm (.n rfl) (c7.th j q T' hq hTj).self rfl .nil (iC (c7.th j q T' hq hTj) q')) (.cons (.f (.n rfl) (c7.held _ _ ge3) T.cl_Event T.na_cu gj) .nil))) ?_
   exact jD lo nn hT he' tw' pt' c7 (wf3.take hl nt (by omega)) rfl (by show (fR _ _ _).length=_;unfold fR;rw[Cy]) own7 (.inr ⟨l,hl,rfl,to,by rw[show (T0.evs.length:Int)+1=(T'.evs.length:Int) from by omega];rfl⟩) (λ c o nc y=>b67 c o (λ z=>nc (LoL.gz z)) (bt6 c o nc y)) (λ xs y=>b67 _ _ (c3.nd1 (b:=L.lg) (by simp)) (lg6 xs y)) (c7.held _ _ gm3) few gl3 rfl k
section
variable {G H H':Hp}{L:LoL}{A:LoA}
theorem t7 (lo:Lo K t G H L A (n+1)) (hn:n<30) (U:j<A.many) (J:H L.lg=some (.lst lx)) (le:lx.length<=n) (hr:H r=some (.tup (.str s :: .int j::zs))) (k:∀ H',But [L.lg] H H'->Lo K t G H' L A (n+1)->Q .non H') :
  qx t [.ref L.p,.int j,.ref r] H Q E:=by
 obtain⟨q,T0,hq,hT,th,tw,O⟩:=lo.at U
 obtain⟨es,Y,W⟩:=th.done
 refine⟨L.p,L.dx,L.dz,A.many,A.ord,L.lt,L.lg,L.D,j,r,q.p,_,lx,q.dx,_,q.ha,q.dn,q.wr,_,es,rfl,lo.c.self,lo.c.tl,J,by lia,O,th.self,Y,λ e pl H' b h Z=>k H' b ?_⟩
 have tk:∀ c xs,H c=some (.tup xs)->H' c=some (.tup xs):=λ c xs z=>b _ _ (by rw[Cv];exact cU z J (by simp)) z
 have V:But [L.p,L.lg] H H':=b.mono λ x F=>CH _ F
 have hp:=b _ _ (by rw[Cv];exact cU lo.c.self J (by simp)) lo.c.self
 refine⟨lo.c.qV V hp h (.inl rfl),lo.wf,lo.lk,⟨_,h,by rw[CA,CY];lia,λ x F=>?_⟩,lo.tw,lo.bn,lo.m2,lo.fr,lo.pts,lo.snd⟩
 rcases CF.mp F with F|F
 ·obtain⟨xs,h',_,r'⟩:=lo.lg
  rw[J] at h';cases h'
  exact(r' x F).keep tk
 ·rw[Cv] at F
  exact⟨e,r,pl,s,j,zs,F,Z,tk _ _ hr,U⟩
theorem qv (hn:n<30) (hj:j<A.many) (st:Stp H H1 L A L A1) (O:Lo K t G1 H1 L A1 (n+1)) (J:∃ xs,H1 L.lg=some (.lst xs)/\xs.length<=n) (hr:H1 r=none) (k:∀ G' H' W A',Stp H H' L A W A'->Lo K t G' H' W A' (n+1)->Q .non H') :
  qx t [.ref L.p,.int j,.ref r] (upd H1 r (.tup (.str s :: .int j::zs))) Q E:=by
 obtain⟨xs,h1,h2⟩:=J
 have V:aM H1 (upd H1 r (.tup (.str s :: .int j::zs))):=aM.new hr
 refine t7 (O.same V) hn (by rw[st.em];exact hj) (V _ _ h1) h2 aD λ Y Z U=>k G1 Y L A1 (st.trans ((Stp.of V).trans ⟨rfl,Z.mono λ b F=>?_,rfl,rfl,λ _ _=>Dk _,λ b F=>.inl F⟩)) U
 rw[Cv] at F
 exact LoL.dP (by rw[F];simp)
end
noncomputable def AF (K:W.Frag) (t:Adr):Sp:=λ vs H Q _=>∃ G L A n,∃ j:Nat,vs=[.ref L.p,.int j]/\Lo K t G H L A n/\n<30/\j<A.many/\∀ G' H' L' A',Stp H H' L A L' A'->Lo K t G' H' L' A' (n+1)->Q .non H'
theorem BQ (T:Txt K mg t):bq P w K mg base (CXr P w) 6 t.f_dh t.fd_dh ["self","hand"] (AF K t):=by
 refine T.F_dh.okN AG (λ vs H Q E h=>?_) (λ W A outer s H vs Q E F h=>?_)
 ·obtain⟨G,L,A,n,j,rfl,_⟩:=h;rfl
 ·obtain⟨G,L,A,n,j,rfl,lo,V,O,k⟩:=h
  refine⟨_,(aH (aZ (aX (pv 0) T.cl_Loom T.me_ar (lO (K:=K) T) (F.mono (by decide)) T.b_ar .nil aL (aJ (pv 1) aG)))
   (aH (aZ (aX (pv 0) T.cl_Loom T.me_bn (uQ (K:=K) T) (F.mono (by decide)) T.b_bn .nil aL (aJ (pv 1) (aJ fV (aJ fV aG)))))
   (aI (aZ (aX (pv 0) T.cl_Loom T.me_bf (rH (K:=K) T) (F.mono (by decide)) T.b_bf .nil aL (aJ (pv 1) (aJ (cB (aJ dk (aJ (pv 1) aG))) aG))))))),?_⟩
  refine tm (.n rfl) lo.c.self rfl (.cons (.n rfl) .nil) (gs lo.c O ?_)
  refine tm (.n rfl) lo.c.self rfl (.cons (.n rfl) (.cons .c (.cons .c .nil))) ⟨G,L,A,n,j,.non,.non,none,rfl,lo,V,O,.own,λ G' H' Y st J U=>?_⟩
  refine⟨_,rfl,L.p,L.dx,_,rfl,J.c.self,rfl,_,rfl,_,rfl,by show 2<=sizeLine;decide,λ r F=>?_⟩
  exact qv (E:=λ _ _ _=>False) V O st J U F k
noncomputable def zR (K:W.Frag) (t:Adr):Sp:=λ vs H Q _=>∃ G L A n,∃ j:Nat,∃ b l,vs=[.ref L.p,.int j,.ref b]/\Lo K t G H L A n/\n<30/\j<A.many/\H b=some (.tup (nV l.nm))/\l∈A.A.po/\l.nm∉A.A.ta.map (·.1)/\l.to=j/\(A.ord=true->∀ l'∈A.A.po,l'.nm∉A.A.ta.map (·.1)->l'.nm.1=l.nm.1->l'.to=l.to->cd3 l.nm<=cd3 l'.nm) /\
 ∀ G' H' L' A',Stp H H' L A L' A'->Lo K t G' H' L' A' (n+1)->Q .non H'
theorem yn (T:Txt K mg t):bq P w K mg base (CXr P w) 6 t.f_dj t.fd_dj ["self","hand","name"] (zR K t):=by
 refine T.F_dj.okN xB (λ vs H Q E h=>?_) (λ cdv A outer s H vs Q E hr h=>?_)
 ·obtain⟨G,L,A,n,j,b,l,rfl,_⟩:=h;rfl
 ·obtain⟨G,L,A,n,j,b,l,rfl,lo,nn,hj,hb,hl,nt,to,od,k⟩:=h
  refine⟨_,(aH (aZ (aX (pv 0) T.cl_Loom T.me_ar (lO (K:=K) T) (hr.mono (by decide)) T.b_ar .nil aL (aJ (pv 1) aG)))
   (aH (bH (b9 (bO (aX (pv 0) T.cl_Loom T.me_bk (yq (K:=K) T) (hr.mono (by decide)) T.b_bk .nil aL (aJ (pv 1) (aJ (pv 2) aG)))))
    (aI gG)
    bp)
   (aH (aZ (aX (pv 0) T.cl_Loom T.me_bn (uQ (K:=K) T) (hr.mono (by decide)) T.b_bn .nil aL (aJ (pv 1) (aJ (pv 2) (aJ (bo (bz (K:=K)) (cP (cm hr) (aO (K:=K) (pv 0) rfl) (pv 2) (λ _ _=>rfl)) aN (λ _ _=>rfl)) aG)))))
   (aI (aZ (aX (pv 0) T.cl_Loom T.me_bf (rH (K:=K) T) (hr.mono (by decide)) T.b_bf .nil aL (aJ (pv 1) (aJ (cB (aJ dk (aJ (pv 1) (aJ (pv 2) aG)))) aG)))))))),?_⟩
  obtain⟨e0,he0,k0⟩:=lo.wf.wa l hl nt
  have small:∀ l∈A.A.po,Small l.nm:=λ l hl=>by
   obtain⟨r1,r2,r3,r4,r5,r6,_⟩:=lo.wf.rg l hl
   have:=ki lo.tw l.nm.1
   exact⟨by lia,by lia,by lia,by lia⟩
  refine tm (.n rfl) lo.c.self rfl (.cons (.n rfl) .nil) (gs lo.c hj ?_)
  refine tm (.n rfl) lo.c.self rfl (.cons (.n rfl) (.cons (.n rfl) .nil)) ⟨G,L.p,L.dx,L.dz,A.many,A.ord,L.lt,L.lg,L.D,A.A,j,b,l.nm,e0,rfl,lo.c.self,lo.c.di,hb,he0,lo.wf.wn,by rw[k0,to],(lo.wf.wi e0 he0 l.nm).mpr ⟨l,hl,rfl,by rw[k0],by rw[k0],nt⟩,lo.wf.wd e0 he0,λ m hm=>?_,λ ot m hm=>?_,λ H1 s1=>⟨true,rfl,dQ ?_⟩⟩
  ·obtain⟨l',hl',rfl,_⟩:=(lo.wf.wi e0 he0 m).mp hm
   exact small l' hl'
  ·obtain⟨l',hl',rfl,z1,z2,z3⟩:=(lo.wf.wi e0 he0 m).mp hm
   exact od ot l' hl' z3 (by rw[z1,k0]) (by rw[z2,k0])
  have lo1:=lo.same s1
  have v1:bV (A.A.po.map λ l=>(nk l.nm,V.ref l.adr)) (nk l.nm)=some (.ref l.adr):=cG (λ l:cF=>nk l.nm) (λ l=>V.ref l.adr) (dD (f:=cF.nm) cC lo.wf.nd) hl
  refine tm (.n rfl) lo1.c.self rfl (vs:=[.int j,.ref b,.int l.wd]) (.cons (.n rfl) (.cons (.n rfl) (.cons (λ Q' q'=>⟨_,rfl,L.p,_,L.dx,_,_,rfl,lo1.c.self,T.cl_Loom,T.na_cl,rfl,_,rfl,L.D.po,.ref l.adr,rfl,.inr ⟨_,nk l.nm,b,.inl lo1.c.di.po,rfl,s1 _ _ hb,v1.symm⟩,l.adr,_,1,.int l.wd,rfl,rfl,SqT.of (lo1.c.held _ _ (lo1.c.di.lets l hl)),rfl,q'⟩) .nil))) ?_
  refine⟨G,L,A,n,j,.ref b,.int l.wd,some l.nm,rfl,lo1,nn,hj,.use (s1 _ _ hb) hl nt to,λ G' H' A' st lo' lg'=>?_⟩
  refine⟨_,rfl,L.p,L.dx,_,rfl,lo'.c.self,rfl,_,rfl,_,rfl,_,rfl,by show 3<=sizeLine;decide,λ r hr=>?_⟩
  exact qv (E:=λ _ _ _=>False) nn hj ((Stp.of s1).trans st) lo' lg' hr k
noncomputable def yt (K:W.Frag) (t:Adr):Sp:=λ vs H Q _=>∃ G L A n,∃ j:Nat,vs=[.ref L.p,.int j]/\Lo K t G H L A n/\n<30/\j<A.many/\∀ G' H' L' A',Stp H H' L A L' A'->Lo K t G' H' L' A' (n+1)->Q .non H'
theorem Lo.jM {G H H':Hp}{L:LoL}{A:LoA}{n j m:Nat}{q q':ThL}{T0 T':ThA}(lo:Lo K t G H L A n) (hq:L.ths[j]? = some q) (hT:A.ths[j]? = some T0) (b1:But q.ad H H') (th1:Th K t G H' q' T') (pe:q'.p=q.p) (fr:∀ b∈q'.ad,b∈q.ad\/H b=none) (nm:n<=m) (tw:∀ T,TWf n T->TWf m T) (tw1:TWf m T') (ev1:T'.evs=T0.evs) (pt1:T'.pt (A.b j)) :
  Lo K t G H' { L with ths:=L.ths.set j q' } { A with ths:=A.ths.set j T' } m/\Stp H H' L A { L with ths:=L.ths.set j q' } { A with ths:=A.ths.set j T' }:=by
 have hj:=(Cr.mp hT).1
 have bn:=lo.bn
 obtain⟨lx,lgx,ll,lr⟩:=lo.lg
 refine⟨⟨lo.c.jM hq ⟨.refl _,th1.held,λ _ _ e=>.inl e⟩ b1 th1 pe fr,lo.wf.mono λ x=>qS hT (by rw[ev1];exact Nat.le_refl _) x,lo.lk.evs (sR hT ev1),⟨lx,b1 _ _ (λ z=>lo.c.tb j q hq _ z (by simp)) lgx,by omega,λ x hx=>(lr x hx).keep λ b xs e=>b1 _ _ (λ z=>lo.c.tU e (LoL.dS hq z)) e⟩,λ T1 hT1=>?_,⟨by show A.A.po.length<=_;omega,bn.2⟩,lo.m2,lo.fr,λ i T1 h1=>?_,lo.snd⟩,lo.c.stp hq b1 fr⟩
 ·rcases List.mem_or_eq_of_mem_set hT1 with y|y
  ·exact tw _ (lo.tw T1 y)
  ·rw[y];exact tw1
 ·rcases dE hj h1 with ⟨rfl,rfl⟩|⟨_,z⟩
  ·exact pt1
  ·exact lo.pts i T1 z
theorem yD (T:Txt K mg t):bq P w K mg base (CXr P w) 3 t.f_cr t.fd_cr ["self","hand"] (yt K t):=by
 refine T.F_cr.okN zX (λ vs H Q E h=>?_) (λ cdv A outer s H vs Q E hr h=>?_)
 ·obtain⟨G,L,A,n,j,rfl,_⟩:=h;rfl
 ·obtain⟨G,L,A,n,j,rfl,lo,nn,hj,k⟩:=h
  refine⟨_,(aH (aZ (aX (pv 0) T.cl_Loom T.me_ar (lO (K:=K) T) (hr.mono (by decide)) T.b_ar .nil aL (aJ (pv 1) aG)))
   (aH (aZ (bc (bo (br (K:=K)) (aO (K:=K) (pv 0) rfl) (pv 1) (λ _ _=>rfl)) T.cl_Thread T.me_bi (Az (K:=K) T) (hr.mono (by decide)) T.b_bi .nil aL))
   (aI (aZ (aX (pv 0) T.cl_Loom T.me_bf (rH (K:=K) T) (hr.mono (by decide)) T.b_bf .nil aL (aJ (pv 1) (aJ (cB (aJ dk (aJ (pv 1) aG))) aG))))))),?_⟩
  obtain⟨q,T0,hq,hT,th,tw,hqs⟩:=lo.at hj
  refine tm (.n rfl) lo.c.self rfl (.cons (.n rfl) .nil) (gs lo.c hj ?_)
  refine tm (fE T lo.c rfl rfl hqs) th.self rfl .nil ⟨G,q,T0,rfl,th,by have:=tw.wn;omega,λ H1 b1 th1=>?_⟩
  obtain⟨tw1,ev1,pt1⟩:=tw.wrote
  obtain⟨lo1,st⟩:=lo.jM hq hT (b1.mono λ b hb=>by unfold ThL.ad;simp only[Cz,CC,C2] at hb ⊢;exact hb.imp id .inr) th1 rfl (λ b hb=>.inl hb) (Ex n) (λ T h=>h.more) tw1 ev1 (pt1 _ (lo.pts j T0 hT))
  have hset:L.ths.set j q=L.ths:=by
   obtain⟨lt,rfl⟩:=Cr.mp hq
   exact List.set_getElem_self lt
  rw[hset] at lo1 st
  obtain⟨lx,lgx,ll,_⟩:=lo.lg
  have lg1:H1 L.lg=some (.lst lx):=b1 _ _ (λ z=>lo.c.tb j q hq L.lg (by unfold ThL.ad;simp only[Cz,CC,C2] at z ⊢;exact z.imp id .inr) (by simp)) lgx
  refine⟨_,rfl,L.p,L.dx,_,rfl,lo1.c.self,rfl,_,rfl,_,rfl,by show 2<=sizeLine;decide,λ r hr=>?_⟩
  exact qv (E:=λ _ _ _=>False) nn hj st lo1 ⟨lx,lg1,ll⟩ hr k
noncomputable def yz (K:W.Frag) (t:Adr):Sp:=λ vs H Q _=>∃ G L A n,vs=[.ref L.p]/\Lo K t G H L A n/\∀ l H',aM H H'->H l=none->H' l=some (.lst (iV (A.ths.map λ T=>(T.evs.length:Int))))->Q (.ref l) H'
theorem BZ (T:Txt K mg t):bq P w K mg base (CXr P w) 2 t.f_cc t.fd_cc ["self"] (yz K t):=by
 refine T.F_cc.okN yU (λ vs H Q E h=>?_) (λ a1 A outer s H vs Q E hr h=>?_)
 ·obtain⟨G,L,A,n,rfl,_⟩:=h;rfl
 ·obtain⟨G,L,A,n,rfl,lo,k⟩:=h
  refine⟨_,(aI (aW (bR ["self","thread"] 1 rfl (bP (K:=K) (aO (K:=K) (pv 0) rfl)) (λ _ _ _ _ _=>⟨(aR (i:=1) (show List.Nodup (["self","thread"]:List Str) from by decide +kernel) rfl (Or.inl rfl)),bX,(bc (pv 1) T.cl_Thread T.me_cb (dF (K:=K) T) (hr.mono (by decide)) T.b_cb .nil aL)⟩)))),?_⟩
  have m2:=lo.m2
  have Z:(L.ths.map λ q=>V.ref q.p).length=A.many:=by rw[Cy,lo.c.len1]
  refine⟨_,rfl,L.p,_,L.dx,_,_,rfl,lo.c.self,T.cl_Loom,T.na_bv,rfl,L.lt,rfl,⟨_,SqL.of lo.c.tl⟩,cj (xs:=L.ths.map λ q=>V.ref q.p) (by lia) λ acc F=>⟨λ i J ys H2=>ys=iV ((A.ths.take i).map λ T=>(T.evs.length:Int))/\H2 acc=some (.lst ys)/\aM H H2/\∃ o,J=[some (.ref L.p),o],⟨rfl,aD,aM.new F,_,rfl⟩,?_,?_,?_⟩⟩
  ·rintro i J ys H2 hi ⟨rfl,_,O,_⟩
   refine⟨SqL.of (O _ _ lo.c.tl),?_⟩
   unfold iV
   rw[Cy,Cy,Dg];lia
  ·rintro i v J ys H2 hi U ⟨rfl,W,O,o,rfl⟩
   obtain⟨q,hq,rfl⟩:∃ q,L.ths[i]? = some q/\v=.ref q.p:=by
    rw[Cw] at U
    cases e:L.ths[i]? with
    | none=>rw[e] at U;cases U
    | some q=>rw[e] at U;cases U;exact⟨q,rfl,rfl⟩
   obtain⟨T0,hT⟩:∃ T0,A.ths[i]? = some T0:=⟨_,Cs (by rw[lo.c.len2];lia)⟩
   have th:=lo.c.th i q T0 hq hT
   obtain⟨es,hd,Y⟩:=th.done
   dsimp only[ck,fO]
   refine cX ⟨_,rfl,q.p,q.dx,_,rfl,O _ _ th.self,rfl,q.p,q.dx,_,q.ha,q.dn,q.wr,_,es,rfl,O _ _ th.self,SqL.of (O _ _ hd),W,Nx.mk hi ⟨?_,aD,λ b u e=>?_,_,rfl⟩⟩
   ·rw[D7,hT,Y.1]
    unfold iV
    simp
   ·rw[aE (aF e F)];exact O _ _ e
  ·rintro J ys H2 ⟨rfl,W,O,o,rfl⟩
   rw[FN (by rw[Z,lo.c.len2];exact Nat.le_refl _)] at W
   exact k acc H2 O F W
noncomputable def fU (H:Hp) (v:V):Nm3:=match v with
 | .ref b=>match H b with
  | some (.tup [.int x,.int y,.int z])=>(x,y,z)
  | _=>(0,0,0)
 | _=>(0,0,0)
noncomputable def fY (H:Hp) (v:V) (n:Nm3):Prop:=∃ b,v=.ref b/\H b=some (.tup (nV n))
theorem fY.of (h:fY H v n):fU H v=n:=by
 obtain⟨b,rfl,e⟩:=h
 unfold fU nV at *
 simp only[e]
theorem fY.same (s:aM H H') (h:fY H v n):fY H' v n:=let ⟨b,e,z⟩:=h;⟨b,e,s _ _ z⟩
theorem fY.rk (h:fY H v n):rk3 H v=cd3 n:=by
 obtain⟨b,rfl,e⟩:=h
 unfold rk3
 unfold nV at e
 simp only[e]
 rfl
structure NmL (H:Hp) (ls:List V) (ns:List Nm3):Prop where
 eq:ls.map (fU H)=ns
 all:∀ v∈ls,fY H v (fU H v)
theorem NmL.nil:NmL H [] []:=⟨rfl,λ v F=>by cases F⟩
theorem NmL.len (h:NmL H ls ns):ls.length=ns.length:=by rw[<- h.eq,Cy]
theorem NmL.same {H H':Hp}{J:List V}{ns:List Nm3}(s:aM H H') (h:NmL H J ns):NmL H' J ns:=by
 have e:∀ v∈J,fU H' v=fU H v:=λ v F=>((h.all v F).same s).of
 exact⟨by rw[<- h.eq];exact Dn e,λ v F=>by rw[e v F];exact(h.all v F).same s⟩
theorem NmL.keep (s:∀ b xs,H b=some (.tup xs)->H' b=some (.tup xs)) (h:NmL H J ns):NmL H' J ns:=by
 have z:∀ v∈J,fY H' v (fU H v):=λ v F=>let ⟨b,e,z⟩:=h.all v F;⟨b,e,s _ _ z⟩
 have e:∀ v∈J,fU H' v=fU H v:=λ v F=>(z v F).of
 exact⟨by rw[<- h.eq];exact Dn e,λ v F=>by rw[e v F];exact z v F⟩
theorem NmL.snoc (h:NmL H ls ns) (i:fY H v n):NmL H (ls++[v]) (ns++[n]):=by
 refine⟨by rw[CP,h.eq,ED,i.of],λ u F=>?_⟩
 rcases CF.mp F with F|F
 ·exact h.all u F
 ·rw[Cv] at F
  rw[F,i.of];exact i
theorem NmL.perm (h:NmL H ls ns) (p:ls'.Perm ls):NmL H ls' (ls'.map (fU H))/\(ls'.map (fU H)).Perm ns:=⟨⟨rfl,λ v F=>h.all v (p.mem_iff.mp F)⟩,by rw[<- h.eq];exact p.map _⟩
theorem NmL.small (h:NmL H J ns) (O:∀ n∈ns,Small n):∀ v∈J,Nm H v:=λ v F=>by
 obtain⟨b,e,z⟩:=h.all v F
 have:=O (fU H v) (by rw[<- h.eq];exact CN F)
 exact⟨b,_,_,_,e,z,this⟩
theorem NmL.vD (h:NmL H ls ns):ls.map (rk3 H)=ns.map cd3:=by
 rw[<- h.eq,Ds]
 exact Dn λ v F=>(h.all v F).rk
theorem NmL.sorted (h:NmL H ls ns) (p:ls'.Perm ls) (V:ls'.Pairwise λ u v=>rk3 H u<rk3 H v):∃ F,NmL H ls' F/\F.Perm ns/\pN F:=by
 obtain⟨h1,h2⟩:=h.perm p
 refine⟨_,h1,h2,?_⟩
 unfold pN
 rw[DR]
 refine V.imp_of_mem λ{a b} J O U=>?_
 rw[<- (h1.all a J).rk,<- (h1.all b O).rk];exact U
theorem ie {ns:List Nm3}(F:ns.Nodup) (J:∀ n∈ns,Small n):(ns.map cd3).Nodup:=by
 unfold List.Nodup at F ⊢
 rw[DR]
 exact F.imp_of_mem λ{a b} O U V e=>V (oZ (J a O) (J b U) e)
noncomputable def DiA.free (A:DiA):List cF:=A.po.filter λ l=>decide (l.nm∉A.ta.map (·.1))
theorem Lo.small (lo:Lo K t G H L A n) (J:n<=30):∀ l∈A.A.po,Small l.nm:=λ l F=>by
 obtain⟨O,U,V,W,Y,Z,_⟩:=lo.wf.rg l F
 have:=ki lo.tw l.nm.1
 exact⟨by lia,by lia,by lia,by lia⟩
theorem pK {ta:List (Nm3×Int)}{n:Nm3}(nt:(ta.map (·.1)).Nodup):(bV (ta.map λ e=>(nk e.1,V.int e.2)) (nk n)).isSome=decide (n∈ta.map (·.1)):=by
 by_cases h:n∈ta.map (·.1)
 ·obtain⟨e,he,rfl⟩:=CL.mp h
  rw[cG (λ e:Nm3×Int=>nk e.1) (λ e=>V.int e.2) (dD (f:=λ x:Nm3×Int=>x.1) cC nt) he]
  simp[h]
 ·rw[dZ (λ e:Nm3×Int=>nk e.1) (λ e=>V.int e.2) λ e he z=>h (by rw[<- cC _ _ z];exact CN he)]
  simp[h]
noncomputable def qQ (n:Nat×Nat×Nat):Int:=reduceHash (Builtin.Tuple.tupleHashOf [hashInt (n.1:Int),hashInt (n.2.1:Int),hashInt (n.2.2:Int)])
noncomputable def L3:List (Nat×Nat×Nat):=(List.range 5).flatMap λ h=>(List.range 31).flatMap λ p=>(List.range 3).map λ k=>(h,p,k)
noncomputable def ou (x:Int):List Int->Bool
 | []=>true
 | y::l=>!(x == y) && ou x l
noncomputable def kM:List Int->Bool
 | []=>true
 | x::l=>ou x l && kM l
theorem qt:kM (L3.map qQ)=true:=by decide +kernel
theorem l7:∀ {l:List Int},ou x l=true->x∉l
 | [],_,h=>by cases h
 | y::l,h,m=>by
  unfold ou at h
  rw[Dt] at h
  rcases Cz.mp m with e|m
  ·rw[e] at h;simp at h
  ·exact l7 h.2 m
theorem jK:∀ {l:List Int},kM l=true->l.Nodup
 | [],_=>.nil
 | x::l,h=>by
  unfold kM at h
  rw[Dt] at h
  exact DM.mpr ⟨l7 h.1,jK h.2⟩
theorem rG (a:h<5) (b:p<31) (c:k<3):(h,p,k)∈L3:=by
 unfold L3
 exact FJ.mpr ⟨h,Eg.mpr a,FJ.mpr ⟨p,Eg.mpr b,CL.mpr ⟨k,Eg.mpr c,rfl⟩⟩⟩
theorem lZ {F W:Type}{f:F->W}{l:List F}(V:(l.map f).Nodup) {a b:F}(J:a∈l) (O:b∈l) (e:f a=f b):a=b:=by
 obtain⟨i,hi,rfl⟩:=C1 J
 obtain⟨j,U,rfl⟩:=C1 O
 have:i=j:=(DZ (l:=l.map f) (by simpa using hi) V).mp (by rw[Cw,Cw,Cs hi,Cs U];exact congrArg some e)
 subst this;rfl
noncomputable def InR (n:Nm3):Prop:=0<=n.1/\n.1<5/\0<=n.2.1/\n.2.1<31/\0<=n.2.2/\n.2.2<3
theorem v5 {w:World}{a b:Nm3}(ha:InR a) (hb:InR b) (e:hT w (nk a)=hT w (nk b)):a=b:=by
 obtain⟨x,y,z⟩:=a
 obtain⟨Y,Z,z'⟩:=b
 obtain⟨F,a2,J,a4,O,a6⟩:=ha
 obtain⟨U,b2,V,b4,W,b6⟩:=hb
 dsimp only at F a2 J a4 O a6 U b2 V b4 W b6
 obtain⟨x,rfl⟩:=C5 F
 obtain⟨y,rfl⟩:=C5 J
 obtain⟨z,rfl⟩:=C5 O
 obtain⟨Y,rfl⟩:=C5 U
 obtain⟨Z,rfl⟩:=C5 V
 obtain⟨z',rfl⟩:=C5 W
 have e':qQ (x,y,z)=qQ (Y,Z,z'):=e
 have:=lZ (jK qt) (rG (by lia) (by lia) (by lia)) (rG (by lia) (by lia) (by lia)) e'
 cases this
 rfl
theorem gE {w:World}{ns:List Nm3}(F:ns.Nodup) (h:∀ n∈ns,InR n):(ns.map λ n=>hT w (nk n)).Nodup:=by
 unfold List.Nodup at F ⊢
 rw[DR]
 exact F.imp_of_mem λ{a b} J O U e=>U (v5 (h a J) (h b O) e)
theorem Lo.inR (lo:Lo K t G H L A n) (J:n<=30):∀ l∈A.A.po,InR l.nm:=λ l F=>by
 obtain⟨O,U,V,W,Y,Z,_⟩:=lo.wf.rg l F
 have:=ki lo.tw l.nm.1
 have:=lo.m2
 exact⟨by lia,by lia,by lia,by lia,by lia,by lia⟩
noncomputable def BN (K:W.Frag) (t:Adr):Sp:=λ vs H Q _=>∃ G L A n,vs=[.ref L.p]/\Lo K t G H L A n/\n<=30/\∀ l ls ns H',aM H H'->H l=none->H' l=some (.lst ls)->NmL H' ls ns->pN ns->ns.Perm (A.A.free.map (·.nm))->Q (.ref l) H'
theorem Ar (T:Txt K mg t):bq P w K mg base (CXr P w) 1 t.f_cz t.fd_cz ["self"] (BN K t):=by
 refine T.F_cz.okN AL (λ vs H Q E h=>?_) (λ cdv A outer s H vs Q E hr h=>?_)
 ·obtain⟨G,L,A,n,rfl,_⟩:=h;rfl
 ·obtain⟨G,L,A,n,rfl,lo,hn,k⟩:=h
  refine⟨_,(aI (aW (bI (nO (K:=K)) rfl T.no_sorted je (aJ (uc (H₀:=H) (bR ["self","name"] 1 rfl (t9 (aO (K:=K) (pv 0) rfl)) (λ _ _ _ _ _=>⟨(aR (i:=1) (show List.Nodup (["self","name"]:List Str) from by decide +kernel) rfl (Or.inl rfl)),(fH (j7 (fK (cm hr) (pv 1) (aO (K:=K) (pv 0) rfl)))),(pv 1)⟩))) aG)))),?_⟩
  have bn:=lo.bn
  refine⟨_,rfl,L.p,_,L.dx,_,_,rfl,lo.c.self,T.cl_Loom,T.na_cl,rfl,L.D.po,_,rfl,.inl ⟨lo.c.di.po,λ o=>?_⟩⟩
  obtain⟨x1,x2,x3,x4,x5⟩:=lo.c.di.nes
  have poI:L.D.po∈L.D.own A.A:=by unfold DiL.own;simp
  have pne:L.p≠L.D.po:=λ y=>lo.c.nd1 (b:=L.p) (by simp) (by rw[y];exact poI)
  refine o8 (by rw[Cy];lia) λ acc hacc=>⟨λ i σ2 ys H2=>(∃ ns,NmL H2 ys ns/\ns=((A.A.po.take i).filter λ l=>decide (l.nm∉A.A.ta.map (·.1))).map (·.nm))/\H2 acc=some (.lst ys)/\(∀ b u,b≠L.D.po->H b=some u->H2 b=some u)/\H2 L.D.po=some (.frz o (.dT (A.A.po.map λ l=>(nk l.nm,V.ref l.adr))))/\∃ ov,σ2=[some (.ref L.p),ov],?_,?_,?_,?_⟩
  ·have na:acc≠L.D.po:=λ y=>by rw[y,aD] at hacc;cases hacc
   refine⟨⟨[],.nil,rfl⟩,aD,λ b u nb e=>?_,by rw[aE (Ne.symm na),aD],_,rfl⟩
   rw[aE (aF (o:=u) (by rw[aE nb];exact e) hacc),aE nb];exact e
  ·rintro i σ2 ys H2 hi ⟨⟨ns,nl,en⟩,e2,kp,hp2,_⟩
   refine⟨hp2,?_⟩
   rw[nl.len,en,Cy]
   exact CV (DI _ _) (by rw[Dg];lia)
  ·rintro i b kk v σ2 ys H2 hi hx hb ⟨⟨ns,nl,en⟩,e2,kp,hp2,ov,rfl⟩
   obtain⟨l,hl,rfl⟩:∃ l,A.A.po[i]? = some l/\kk=nk l.nm:=by
    rw[Cw] at hx
    cases e:A.A.po[i]? with
    | none=>rw[e] at hx;cases hx
    | some l=>rw[e] at hx;cases hx;exact⟨l,rfl,rfl⟩
   have isn:fY H2 (.ref b) l.nm:=⟨b,rfl,hb⟩
   refine⟨_,rfl,_,rfl,L.p,_,L.dx,_,_,rfl,kp _ _ pne lo.c.self,T.cl_Loom,T.na_cw,rfl,L.D.ta,_,rfl,.inr ⟨_,nk l.nm,b,.inl (kp _ _ (Ne.symm x1) lo.c.di.ta),rfl,hb,rfl⟩,_,rfl,?_⟩
   rw[pK lo.wf.nt]
   have stepE:((A.A.po.take (i+1)).filter λ l=>decide (l.nm∉A.A.ta.map (·.1))).map (·.nm)=ns++(if l.nm∈A.A.ta.map (·.1) then [] else [l.nm]):=by
    rw[D7,hl,Ei,CP,<- en]
    congr 1
    by_cases z:l.nm∈A.A.ta.map (·.1)
    ·rw[CG z]
     simp[Fe,z]
    ·rw[CD z]
     have z':decide (l.nm∉A.A.ta.map (·.1))=true:=by simpa using z
     show List.map _ (List.filter _ [l])=_
     rw[Fe,CG z']
     rfl
   by_cases z:l.nm∈A.A.ta.map (·.1)
   ·refine bT (by simpa using z) (Nx.mk hi ⟨⟨ns,nl,by rw[stepE,CG z,D2]⟩,e2,kp,hp2,_,rfl⟩)
   ·refine du (by simpa using z) ⟨_,rfl,e2,Nx.mk hi ⟨⟨ns++[l.nm],?_,by rw[stepE,CD z]⟩,aD,λ c u nc e=>?_,?_,_,rfl⟩⟩
    ·exact(nl.snoc isn).keep λ c xs e=>by rw[aE (λ y=>by rw[y,e2] at e;cases e)];exact e
    ·have na:c≠acc:=λ y=>by
      rw[y] at e nc
      rw[aE nc] at hacc
      rw[e] at hacc;cases hacc
     rw[aE na];exact kp c u nc e
    ·rw[aE (λ y=>by rw[y,e2] at hp2;cases hp2)];exact hp2
  ·rintro σ2 ys H2 ⟨⟨ns,nl,en⟩,e2,kp,hp2,_⟩
   rw[Cy,ES] at en
   have na:acc≠L.D.po:=λ y=>by rw[y,aD] at hacc;cases hacc
   have s3:aM H (upd H2 L.D.po (.dT (A.A.po.map λ l=>(nk l.nm,V.ref l.adr)))):=λ b u e=>by
    by_cases y:b=L.D.po
    ·rw[y,aD]
     rw[y,lo.c.di.po] at e;exact e
    ·rw[aE y];exact kp b u y e
   have nl3:NmL (upd H2 L.D.po (.dT (A.A.po.map λ l=>(nk l.nm,V.ref l.adr)))) ys ns:=nl.keep λ c xs e=>by rw[aE (λ y=>by rw[y,hp2] at e;cases e)];exact e
   have sub:∀ n∈ns,Small n:=λ n hn'=>by
    rw[en] at hn'
    obtain⟨l,hl,rfl⟩:=CL.mp hn'
    exact lo.small hn l (Dj.mp hl).1
   have ndn:ns.Nodup:=by
    rw[en]
    exact lo.wf.nd.sublist ((List.filter_sublist).map _)
   refine⟨L.D.po,o,_,hp2,(λ o' v' y=>by rw[lo.c.di.po] at y;cases y),acc,ys,rfl,SqL.of (by rw[aE na];exact e2),?_,nl3.small sub,by rw[nl3.vD];exact ie ndn sub,λ l ls' hl p so=>?_⟩
   ·rw[nl.len,en,Cy]
    have:=DI (λ l:cF=>decide (l.nm∉A.A.ta.map (·.1))) A.A.po
    lia
   ·obtain⟨ns',n1,n2,n3⟩:=nl3.sorted p so
    have sl:=aM.new (o:=.lst ls') hl
    exact k l ls' ns' _ (s3.trans sl) (s3.free hl) aD (n1.same sl) n3 (by rw[en] at n2;exact n2)
noncomputable def x9 (K:W.Frag) (t:Adr):Sp:=λ vs H Q _=>∃ G L A n,vs=[.ref L.p]/\Lo K t G H L A n/\n<=30/\∀ l H',aM H H'->H l=none->H' l=some (.dT (A.A.po.map λ l=>(nk l.nm,V.ref l.adr)))->Q (.ref l) H'
theorem uI (T:Txt K mg t):bq P w K mg base (CXr P w) 1 t.f_aj t.fd_aj ["self"] (x9 K t):=by
 refine T.F_aj.okN zg (λ vs H Q E h=>?_) (λ O A outer s H vs Q E V h=>?_)
 ·obtain⟨G,L,A,n,rfl,_⟩:=h;rfl
 ·obtain⟨G,L,A,n,rfl,lo,U,k⟩:=h
  refine⟨_,(aI (aW (bJ jm rfl T.no_dict sA (aJ (aO (K:=K) (pv 0) rfl) aG)))),?_⟩
  refine⟨_,rfl,L.p,_,L.dx,_,_,rfl,lo.c.self,T.cl_Loom,T.na_cl,rfl,L.D.po,_,rfl,.inl lo.c.di.po,?_,λ l F=>k l _ (aM.new F) F aD⟩
  rw[Ds]
  have:=gE (w:=w) lo.wf.nd λ n J=>by
   obtain⟨l,F,rfl⟩:=CL.mp J
   exact lo.inR U l F
  rw[Ds] at this
  exact this
noncomputable def BH (K:W.Frag) (t:Adr):Sp:=λ vs H Q _=>∃ G L A n,vs=[.ref L.p]/\Lo K t G H L A n/\n<=30/\∀ l H',aM H H'->H l=none->H' l=some (.dT (A.A.ta.map λ e=>(nk e.1,V.int e.2)))->Q (.ref l) H'
theorem vB (T:Txt K mg t):bq P w K mg base (CXr P w) 1 t.f_ak t.fd_ak ["self"] (BH K t):=by
 refine T.F_ak.okN B0 (λ vs H Q E h=>?_) (λ O A outer s H vs Q E W h=>?_)
 ·obtain⟨G,L,A,n,rfl,_⟩:=h;rfl
 ·obtain⟨G,L,A,n,rfl,lo,V,k⟩:=h
  refine⟨_,(aI (aW (bJ jm rfl T.no_dict sA (aJ (aO (K:=K) (pv 0) rfl) aG)))),?_⟩
  refine⟨_,rfl,L.p,_,L.dx,_,_,rfl,lo.c.self,T.cl_Loom,T.na_cw,rfl,L.D.ta,_,rfl,.inl lo.c.di.ta,?_,λ l F=>k l _ (aM.new F) F aD⟩
  rw[Ds]
  have:=gE (w:=w) lo.wf.nt λ n J=>by
   obtain⟨e,U,rfl⟩:=CL.mp J
   obtain⟨l,F,z,_⟩:=lo.lk.tp e U
   rw[<- z];exact lo.inR V l F
  rw[Ds] at this
  exact this
noncomputable def ThN (t:Adr) (H:Hp) (q:ThL) (s:Option Int):Prop:=∃ s',s=some s'/\H q.p=some (.ins t.c_Thread q.dx (thF s' q.ha q.dn q.wr 0))/\H q.dn=some (.lst [])/\H q.wr=some (.lst [.int 0])/\q.dn≠q.wr
theorem ThN.keep (h:ThN t H q s) (k:∀ c u,c∈q.ad->H c=some u->H' c=some u):ThN t H' q s:=
 let ⟨s',e,h1,h2,F,n⟩:=h
 ⟨s',e,k _ _ (by unfold ThL.ad;simp) h1,k _ _ (by unfold ThL.ad;simp) h2,k _ _ (by unfold ThL.ad;simp) F,n⟩
theorem ThN.some (h:ThN t H q s) (F:c∈q.ad):H c≠none:=by
 obtain⟨s',e,h1,h2,J,n⟩:=h
 unfold ThL.ad at F
 simp only[Cz,CC,C2] at F
 rcases F with rfl|rfl|rfl
 ·rw[h1];simp
 ·rw[h2];simp
 ·rw[J];simp
theorem fW (J:H p=some z) (F:H l=none):(∀ c u,c≠p->H c=some u->upd (upd H l o) p o' c=some u)/\upd (upd H l o) p o' l=some o/\l≠p:=by
 have n:l≠p:=λ e=>by rw[e,J] at F;cases F
 exact⟨λ c u O e=>by rw[aE O,aE (aF e F)];exact e,by rw[aE n,aD],n⟩
noncomputable def qJ (m:Nat) (o:Bool) (fr:List V) (sts:List Int) (hbs:List fZ):LoA:=⟨m,o,fr,(sts.zip hbs).map λ x=>⟨x.1,x.2,[],[0],0⟩,⟨[],[],[]⟩,λ _=>0⟩
noncomputable def Bd (K:W.Frag) (t:Adr):Sp:=λ vs H Q _=>∃ (G:Hp) (p dx dz a b:Addr) (m:Nat) (has:List Addr) (hbs:List fZ) (o:Bool) (sts:List Int) (a' b' m' c':Int),vs=[.ref p,.ref dz,.ref a,.ref b,.bl o]/\H p=some (.ins t.c_Loom dx [])/\aM G H/\G p=none/\SqL K H a (iV sts)/\sts.length=m/\SqL K H b (has.map V.ref)/\has.length=m/\hbs.length=m /\
 (∀ (i:Nat) ha hb,has[i]? = some ha->hbs[i]? = some hb->gU t G ha hb)/\Clo G "_law_does" "_law_program.<locals>._law_does" mI ["_law_many","_law_cell","_law_a","_law_b","_law_m"] dz [.int m,.int c',.int a',.int b',.int m']/\0<m'/\(-(2 ^ 64)<a'/\a'<2 ^ 64)/\(-(2 ^ 64)<b'/\b'<2 ^ 64)/\2<=m/\m<=5 /\
 ∀ (H':Hp) (L:LoL),L.p=p->(∀ c∈L.own (qJ m o [.int m,.int c',.int a',.int b',.int m'] sts hbs),c=p\/H c=none)->(∀ c u,c≠p->H c=some u->H' c=some u)->Lo K t G H' L (qJ m o [.int m,.int c',.int a',.int b',.int m'] sts hbs) 0->Q .non H'
theorem xm (T:Txt K mg t):bq P w K mg base (CXr P w) 3 t.f_da t.fd_da ["self","does","starts","habits","ordered"] (Bd K t):=by
 refine T.F_da.okN ze (λ vs H Q E h=>?_) (λ cdv A outer s H vs Q E hr h=>?_)
 ·obtain⟨G,p,dx,dz,a,b,m,has,hbs,o,sts,a',b',m',c',rfl,_⟩:=h;rfl
 ·obtain⟨G,p,dx,dz,a,b,m,has,hbs,o,sts,a',b',m',c',rfl,hp,sG,gp,ha,l0,hb,l1,l2,hab,clo,f1,f2,f3,m0,m1,k⟩:=h
  refine⟨_,(aH (bg (K:=K) (pv 0) (pv 1) rfl)
   (aH (bg (K:=K) (pv 0) (bI (dh (K:=K)) rfl T.no_len jJ (aJ (pv 2) aG)) rfl)
   (aH (bg (K:=K) (pv 0) (pv 4) rfl)
   (aH (bg (K:=K) (pv 0) (bR ["self","does","starts","habits","ordered","start","habit"] 2 rfl (qF (K:=K) rfl T.no_zip (aJ (pv 2) (aJ (pv 3) aG))) (λ _ _ _ _ _=>⟨(cK (K:=K) (n:=2) rfl (bB (aR (i:=5) (show List.Nodup (["self","does","starts","habits","ordered","start","habit"]:List Str) from by decide +kernel) rfl (Or.inl rfl)) (bB (aR (i:=6) (show List.Nodup (["self","does","starts","habits","ordered","start","habit"]:List Str) from by decide +kernel) rfl (Or.inl rfl)) cJ))),bX,(dI T.mk_Thread (xN (K:=K) T) (hr.mono (by decide)) rfl T.mg_Thread T.b_ca .nil aL (aJ (pv 5) (aJ (pv 6) aG)))⟩)) rfl)
   (aH (bg (K:=K) (pv 0) (cV aG) rfl)
   (aH (bg (K:=K) (pv 0) dm rfl)
   (aH (bg (K:=K) (pv 0) dm rfl)
   (aI (bg (K:=K) (pv 0) dm rfl))))))))),?_⟩
  refine⟨_,rfl,_,rfl,p,_,dx,_,rfl,hp,T.cl_Loom,T.na_dd,by decide,?_⟩
  refine⟨_,rfl,a,_,rfl,.inl (fM hp ha),_,rfl,p,_,dx,_,rfl,aD,T.cl_Loom,T.na_de,by show 1<1000;decide,?_⟩
  rw[dH,cz,l0]
  refine⟨_,rfl,_,rfl,p,_,dx,_,rfl,aD,T.cl_Loom,T.na_bu,by show 2<1000;decide,?_⟩
  rw[dH]
  have hp3:upd H p (HO.ins t.c_Loom dx (aP "ordered" (.bl o) (aP "many" (.int m) (aP "does" (.ref dz) [])))) p=some (HO.ins t.c_Loom dx (aP "ordered" (.bl o) (aP "many" (.int m) (aP "does" (.ref dz) [])))):=aD
  have ha3:=fM (fs':=aP "ordered" (.bl o) (aP "many" (.int m) (aP "does" (.ref dz) []))) hp ha
  have hb3:=fM (fs':=aP "ordered" (.bl o) (aP "many" (.int m) (aP "does" (.ref dz) []))) hp hb
  have k3:∀ c u,c≠p->H c=some u->upd H p (HO.ins t.c_Loom dx (aP "ordered" (.bl o) (aP "many" (.int m) (aP "does" (.ref dz) [])))) c=some u:=λ c u nc e=>by rw[aE nc];exact e
  have f3':∀ c,upd H p (HO.ins t.c_Loom dx (aP "ordered" (.bl o) (aP "many" (.int m) (aP "does" (.ref dz) [])))) c=none->H c=none:=λ c e=>by
   by_cases y:c=p
   ·rw[y,aD] at e;cases e
   ·rw[aE y] at e;exact e
  generalize upd H p (HO.ins t.c_Loom dx (aP "ordered" (.bl o) (aP "many" (.int m) (aP "does" (.ref dz) []))))=H3 at hp3 ha3 hb3 k3 f3' ⊢
  refine⟨_,rfl,_,rfl,a,b,_,_,rfl,ha3,hb3,lA (xs:=iV sts) (ys:=has.map V.ref) (by rw[cz];lia) (by rw[cz,Cy,l1,l0]) λ acc hacc=>⟨λ i σ2 zs H2=>(∃ Ls:List ThL,Ls.length=i/\zs=Ls.map (λ q=>V.ref q.p)/\H2 acc=some (.lst zs)/\aM H3 H2/\(∀ (j:Nat) q,Ls[j]? = some q->ThN t H2 q sts[j]? /\ has[j]? = some q.ha/\∀ c∈q.ad,H3 c=none/\c≠acc)/\∀ (j l:Nat) q r,Ls[j]? = some q->Ls[l]? = some r->j≠l->∀ x∈q.ad,x∉r.ad)/\∃ o1 o2,σ2=[some (.ref p),some (.ref dz),some (.ref a),some (.ref b),some (.bl o),o1,o2],?_,?_,?_,?_⟩⟩
  ·exact⟨⟨[],rfl,rfl,aD,aM.new hacc,(λ j q e=>by simp at e),(λ j l q r e=>by simp at e)⟩,_,_,rfl⟩
  ·rintro i σ2 zs H2 hi ⟨⟨Ls,len,rfl,_,s2,_⟩,_⟩
   exact⟨s2.seq ha3,s2.seq hb3,by rw[Cy];lia⟩
  ·rintro i x y pz σ2 zs H2 hi hx hy npz ⟨⟨Ls,len,rfl,e2,s2,hth,td⟩,o1,o2,rfl⟩
   obtain⟨s0,rfl,hs0⟩:=g9 hx
   obtain⟨hx',hax,rfl⟩:∃ h',has[i]? = some h'/\y=.ref h':=by
    rw[Cw] at hy
    cases e:has[i]? with
    | none=>rw[e] at hy;cases hy
    | some h'=>rw[e] at hy;cases hy;exact⟨h',rfl,rfl⟩
   refine⟨pz,_,rfl,SqT.of aD,rfl,_,_,rfl,_,_,rfl,rfl,?_⟩
   dsimp only[fO]
   refine cX ⟨_,rfl,_,rfl,λ x dxx nx ndx ndd=>⟨x,dxx,s0,hx',rfl,aD,λ dn wr H5 hdn hwr ndw hH5=>⟨rfl,?_⟩⟩⟩
   have sz:aM H2 (upd H2 pz (.tup [.int s0,.ref hx'])):=aM.new npz
   have si:aM (upd H2 pz (.tup [.int s0,.ref hx'])) (upd (upd (upd H2 pz (.tup [.int s0,.ref hx'])) dxx (.own x)) x (.ins t.c_Thread dxx [])):=aM.ins nx ndx
   have x0:H2 x=none:=sz.free nx
   have dn0:H2 dn=none:=sz.free (si.free hdn)
   have wr0:H2 wr=none:=sz.free (si.free hwr)
   have ndx':dn≠x:=λ e=>by rw[e,aD] at hdn;cases hdn
   have nwx':wr≠x:=λ e=>by rw[e,aD] at hwr;cases hwr
   have s5:aM H2 H5:=λ c u e=>by
    rw[hH5 c,CD (aF e x0),CD (aF e dn0),CD (aF e wr0)]
    exact si _ _ (sz _ _ e)
   have nacc:∀ c,H2 c=none->c≠acc:=λ c e y=>by rw[y,e2] at e;cases e
   have newF:∀ c∈ThL.ad ⟨x,dxx,hx',dn,wr⟩,H2 c=none:=λ c hc=>by
    unfold ThL.ad at hc
    simp only[Cz,CC,C2] at hc
    rcases hc with rfl|rfl|rfl
    ·exact x0
    ·exact dn0
    ·exact wr0
   refine⟨s5 _ _ e2,Nx.mk hi ⟨⟨Ls++[⟨x,dxx,hx',dn,wr⟩],by rw[CA,len];rfl,by rw[CP];rfl,aD,λ c u e=>?_,λ j q hq=>?_,λ j l q r hq hr jl y hy hz=>?_⟩,_,_,rfl⟩⟩
   ·rw[aE (aF e hacc)];exact s5 _ _ (s2 _ _ e)
   ·rcases fk hq with hq|⟨rfl,rfl⟩
    ·obtain⟨t1,t4,t5⟩:=hth j q hq
     exact⟨t1.keep λ c u hc e=>by rw[aE (t5 c hc).2];exact s5 _ _ e,t4,t5⟩
    ·refine⟨⟨s0,by rw[len];exact hs0,?_,?_,?_,ndw⟩,by rw[len];exact hax,λ c hc=>⟨s2.free (newF c hc),nacc c (newF c hc)⟩⟩
     ·rw[aE (nacc _ x0),hH5,CG rfl]
     ·rw[aE (nacc _ dn0),hH5,CD ndx',CG rfl]
     ·rw[aE (nacc _ wr0),hH5,CD nwx',CD (Ne.symm ndw),CG rfl]
   ·rcases fk hq with hq|⟨e1,rfl⟩<;>rcases fk hr with hr|⟨e2',rfl⟩
    ·exact td j l q r hq hr jl y hy hz
    ·exact(hth j q hq).1.some hy (newF y hz)
    ·exact(hth l r hr).1.some hz (newF y hy)
    ·exact jl (e1.trans e2'.symm)
  ·rintro σ2 zs H2 ⟨⟨Ls,len,rfl,e2,s2,hth,td⟩,_⟩
   rw[cz,l0] at len
   have hp4:=s2 _ _ hp3
   refine⟨_,rfl,p,_,dx,_,rfl,hp4,T.cl_Loom,T.na_bv,by show 3<1000;decide,?_⟩
   have hp4':upd H2 p (.ins t.c_Loom dx (aP "threads" (.ref acc) (aP "ordered" (.bl o) (aP "many" (.int m) (aP "does" (.ref dz) []))))) p=some (.ins t.c_Loom dx (aP "threads" (.ref acc) (aP "ordered" (.bl o) (aP "many" (.int m) (aP "does" (.ref dz) []))))):=aD
   have k4:∀ c u,c≠p->H2 c=some u->upd H2 p (.ins t.c_Loom dx (aP "threads" (.ref acc) (aP "ordered" (.bl o) (aP "many" (.int m) (aP "does" (.ref dz) []))))) c=some u:=λ c u nc e=>by rw[aE nc];exact e
   generalize upd H2 p (.ins t.c_Loom dx (aP "threads" (.ref acc) (aP "ordered" (.bl o) (aP "many" (.int m) (aP "does" (.ref dz) [])))))=H4 at hp4' k4 ⊢
   refine⟨by decide,λ lg hlg=>⟨_,rfl,p,_,dx,_,rfl,by rw[aE (aF hp4' hlg)];exact hp4',T.cl_Loom,T.na_dl,by show 4<1000;decide,?_⟩⟩
   obtain⟨k5,e5,ne5⟩:=fW (o:=.lst []) (o':=.ins t.c_Loom dx (aP "log" (.ref lg) (aP "threads" (.ref acc) (aP "ordered" (.bl o) (aP "many" (.int m) (aP "does" (.ref dz) [])))))) hp4' hlg
   have hp5:upd (upd H4 lg (.lst [])) p (.ins t.c_Loom dx (aP "log" (.ref lg) (aP "threads" (.ref acc) (aP "ordered" (.bl o) (aP "many" (.int m) (aP "does" (.ref dz) [])))))) p=some _:=aD
   generalize upd (upd H4 lg (.lst [])) p (.ins t.c_Loom dx (aP "log" (.ref lg) (aP "threads" (.ref acc) (aP "ordered" (.bl o) (aP "many" (.int m) (aP "does" (.ref dz) []))))))=H5 at k5 e5 hp5 ⊢
   refine λ po hpo=>⟨_,rfl,p,_,dx,_,rfl,by rw[aE (aF hp5 hpo)];exact hp5,T.cl_Loom,T.na_cl,by show 5<1000;decide,?_⟩
   obtain⟨k6,e6,ne6⟩:=fW (o:=.dT []) (o':=.ins t.c_Loom dx (aP "posted" (.ref po) (aP "log" (.ref lg) (aP "threads" (.ref acc) (aP "ordered" (.bl o) (aP "many" (.int m) (aP "does" (.ref dz) []))))))) hp5 hpo
   have hp6:upd (upd H5 po (.dT [])) p (.ins t.c_Loom dx (aP "posted" (.ref po) (aP "log" (.ref lg) (aP "threads" (.ref acc) (aP "ordered" (.bl o) (aP "many" (.int m) (aP "does" (.ref dz) []))))))) p=some _:=aD
   generalize upd (upd H5 po (.dT [])) p (.ins t.c_Loom dx (aP "posted" (.ref po) (aP "log" (.ref lg) (aP "threads" (.ref acc) (aP "ordered" (.bl o) (aP "many" (.int m) (aP "does" (.ref dz) [])))))))=H6 at k6 e6 hp6 ⊢
   refine λ ta hta=>⟨_,rfl,p,_,dx,_,rfl,by rw[aE (aF hp6 hta)];exact hp6,T.cl_Loom,T.na_cw,by show 6<1000;decide,?_⟩
   obtain⟨k7,e7,ne7⟩:=fW (o:=.dT []) (o':=.ins t.c_Loom dx (aP "taken" (.ref ta) (aP "posted" (.ref po) (aP "log" (.ref lg) (aP "threads" (.ref acc) (aP "ordered" (.bl o) (aP "many" (.int m) (aP "does" (.ref dz) [])))))))) hp6 hta
   have hp7:upd (upd H6 ta (.dT [])) p (.ins t.c_Loom dx (aP "taken" (.ref ta) (aP "posted" (.ref po) (aP "log" (.ref lg) (aP "threads" (.ref acc) (aP "ordered" (.bl o) (aP "many" (.int m) (aP "does" (.ref dz) [])))))))) p=some _:=aD
   generalize upd (upd H6 ta (.dT [])) p (.ins t.c_Loom dx (aP "taken" (.ref ta) (aP "posted" (.ref po) (aP "log" (.ref lg) (aP "threads" (.ref acc) (aP "ordered" (.bl o) (aP "many" (.int m) (aP "does" (.ref dz) []))))))))=H7 at k7 e7 hp7 ⊢
   refine λ wy hwy=>⟨_,rfl,p,_,dx,_,rfl,by rw[aE (aF hp7 hwy)];exact hp7,T.cl_Loom,T.na_df,by show 7<1000;decide,?_⟩
   obtain⟨k8,e8,ne8⟩:=fW (o:=.dT []) (o':=.ins t.c_Loom dx (aP "ways" (.ref wy) (aP "taken" (.ref ta) (aP "posted" (.ref po) (aP "log" (.ref lg) (aP "threads" (.ref acc) (aP "ordered" (.bl o) (aP "many" (.int m) (aP "does" (.ref dz) []))))))))) hp7 hwy
   have hp8:upd (upd H7 wy (.dT [])) p (.ins t.c_Loom dx (aP "ways" (.ref wy) (aP "taken" (.ref ta) (aP "posted" (.ref po) (aP "log" (.ref lg) (aP "threads" (.ref acc) (aP "ordered" (.bl o) (aP "many" (.int m) (aP "does" (.ref dz) []))))))))) p=some (.ins t.c_Loom dx (loF dz m o acc lg ⟨po,ta,wy⟩)):=aD
   generalize upd (upd H7 wy (.dT [])) p (.ins t.c_Loom dx (aP "ways" (.ref wy) (aP "taken" (.ref ta) (aP "posted" (.ref po) (aP "log" (.ref lg) (aP "threads" (.ref acc) (aP "ordered" (.bl o) (aP "many" (.int m) (aP "does" (.ref dz) [])))))))))=H8 at k8 e8 hp8 ⊢
   have u78:=k8
   have u68:∀ c u,c≠p->H6 c=some u->H8 c=some u:=λ c u n e=>k8 c u n (k7 c u n e)
   have u58:∀ c u,c≠p->H5 c=some u->H8 c=some u:=λ c u n e=>u68 c u n (k6 c u n e)
   have u48:∀ c u,c≠p->H4 c=some u->H8 c=some u:=λ c u n e=>u58 c u n (k5 c u n e)
   have u28:∀ c u,c≠p->H2 c=some u->H8 c=some u:=λ c u n e=>u48 c u n (k4 c u n e)
   have uH8:∀ c u,c≠p->H c=some u->H8 c=some u:=λ c u n e=>u28 c u n (s2 _ _ (k3 c u n e))
   have none2:∀ c,c≠p->(H4 c=none\/H5 c=none\/H6 c=none\/H7 c=none)->H2 c=none:=λ c n z=>by
    cases e:H2 c with
    | none=>rfl
    | some u=>
     have z4:=k4 c u n e
     have z5:=k5 c u n z4
     have z6:=k6 c u n z5
     have z7:=k7 c u n z6
     rcases z with z|z|z|z
     ·rw[z4] at z;cases z
     ·rw[z5] at z;cases z
     ·rw[z6] at z;cases z
     ·rw[z7] at z;cases z
   have lg2:=none2 lg ne5 (.inl hlg)
   have po2:=none2 po ne6 (.inr (.inl hpo))
   have ta2:=none2 ta ne7 (.inr (.inr (.inl hta)))
   have wy2:=none2 wy ne8 (.inr (.inr (.inr hwy)))
   have toH:∀ c,H2 c=none->H c=none:=λ c e=>f3' c (s2.free e)
   have accP:acc≠p:=λ y=>by rw[y,hp3] at hacc;cases hacc
   have thP:∀ {j:Nat} {q:ThL},Ls[j]? = some q->∀ c∈q.ad,c≠p/\H2 c≠none:=λ hq c hc=>⟨(λ y=>by
    have:=((hth _ _ hq).2.2 c hc).1
    rw[y,hp3] at this
    cases this),(hth _ _ hq).1.some hc⟩
   have acc2:H2 acc≠none:=by rw[e2];simp
   have pt:po≠ta:=λ y=>by rw[y] at e6;rw[hta] at e6;cases e6
   have pw:po≠wy:=λ y=>by have:=k7 _ _ ne6 e6;rw[y,hwy] at this;cases this
   have tw':ta≠wy:=λ y=>by rw[y] at e7;rw[hwy] at e7;cases e7
   have nn2:∀ c,H2 c≠none->c≠lg/\c≠po/\c≠ta/\c≠wy:=λ c e=>⟨λ y=>e (by rw[y];exact lg2),λ y=>e (by rw[y];exact po2),λ y=>e (by rw[y];exact ta2),λ y=>e (by rw[y];exact wy2)⟩
   have ownI:∀ c∈LoL.own ⟨p,dx,dz,acc,lg,⟨po,ta,wy⟩,Ls⟩ (qJ m o [.int m,.int c',.int a',.int b',.int m'] sts hbs),c=p\/H c=none:=λ c hc=>by
    rcases LoL.cx hc with hc|⟨j,q,hq,hc⟩|hc
    ·have hc':c∈[p,acc,lg]:=hc
     simp only[Cz,CC,C2] at hc'
     rcases hc' with h|h|h
     ·exact .inl h
     ·rw[h];exact .inr (f3' _ hacc)
     ·rw[h];exact .inr (toH _ lg2)
    ·exact .inr (f3' _ ((hth j q hq).2.2 c hc).1)
    ·have hc':c∈[po,ta,wy]++([]:List Addr):=hc
     simp only[D2,Cz,CC,C2] at hc'
     rcases hc' with h|h|h
     ·rw[h];exact .inr (toH _ po2)
     ·rw[h];exact .inr (toH _ ta2)
     ·rw[h];exact .inr (toH _ wy2)
   have gnI:∀ c∈LoL.own ⟨p,dx,dz,acc,lg,⟨po,ta,wy⟩,Ls⟩ (qJ m o [.int m,.int c',.int a',.int b',.int m'] sts hbs),G c=none:=λ c hc=>by
    rcases ownI c hc with h|h
    ·rw[h];exact gp
    ·exact sG.free h
   have held:aM G H8:=λ c u e=>uH8 c u (aF e gp) (sG _ _ e)
   have evs0:∀ (i:Nat) (T:ThA),((sts.zip hbs).map λ x=>(⟨x.1,x.2,[],[0],0⟩:ThA))[i]? = some T->∃ s h,sts[i]? = some s/\hbs[i]? = some h/\T=⟨s,h,[],[0],0⟩:=λ i T hT=>by
    rw[Cw] at hT
    obtain⟨x,hx,rfl⟩:=Df.mp hT
    obtain⟨h1,h2⟩:=List.getElem?_zip_eq_some.mp hx
    exact⟨_,_,h1,h2,rfl⟩
   have noev:∀ {h q:Nat} {T:ThA} {E:EvA},((sts.zip hbs).map λ x=>(⟨x.1,x.2,[],[0],0⟩:ThA))[h]? = some T->T.evs[q]? = some E->False:=λ hT hE=>by
    obtain⟨_,_,_,_,rfl⟩:=evs0 _ _ hT
    simp at hE
   refine k H8 ⟨p,dx,dz,acc,lg,⟨po,ta,wy⟩,Ls⟩ rfl ownI uH8 ⟨⟨hp8,u28 _ _ accP e2,λ i q T hq hT=>?_,len,by show ((sts.zip hbs).map _).length=m;rw[Cy,List.length_zip,l0,l2,Nat.min_self],⟨[],u58 _ _ ne5 e5⟩,⟨u68 _ _ ne6 e6,u78 _ _ ne7 e7,e8,(λ e he=>by cases he),(λ l hl=>by cases hl),held,?_,λ c hc=>gnI c (LoL.gz hc)⟩,clo,held,gnI,td,λ j q hq x hx hy=>?_,(nn2 acc acc2).1⟩,⟨.nil,.nil,(λ l hl=>by cases hl),.nil,(λ e he=>by cases he),(λ e he=>by cases he),(λ l hl=>by cases hl),(λ e he=>by cases he)⟩,⟨(λ l hl=>by cases hl),λ _ _ _ _ ⟨T,E,h1,h2,_⟩=>(noev h1 h2).elim,(λ e he=>by cases he),λ _ _ _ ⟨T,E,h1,h2,_⟩=>(noev h1 h2).elim⟩,⟨[],u58 _ _ ne5 e5,Nat.le_refl _,(λ x hx=>by cases hx)⟩,λ T hT=>?_,⟨Nat.le_refl _,Nat.le_refl _⟩,⟨m0,m1⟩,⟨a',b',m',c',rfl,f1,f2,f3⟩,λ j T hT=>?_,(λ l hl=>by cases hl)⟩
   ·obtain⟨⟨s,t0,t1,t2,t3,t6⟩,t4,_⟩:=hth i q hq
    obtain⟨s',h,hs,hb',rfl⟩:=evs0 i T hT
    rw[hs] at t0;cases t0
    have gth:∀ c∈q.ad,G c=none:=λ c hc=>gnI c (LoL.dS (L:=⟨p,dx,dz,acc,lg,⟨po,ta,wy⟩,Ls⟩) hq hc)
    have pn:=λ c hc=>(thP hq c hc).1
    unfold ThL.ad at gth pn
    exact⟨u28 _ _ (pn _ (by simp)) t1,hab i q.ha h t4 hb',⟨[],u28 _ _ (pn _ (by simp)) t2,rfl,(λ j e A he=>by simp at he)⟩,u28 _ _ (pn _ (by simp)) t3,held,gth _ (by simp),gth _ (by simp),gth _ (by simp),t6⟩
   ·show ([po,ta,wy]++([]:List Addr)).Nodup
    simp only[D2,DM,Cz,CC,C2,EU,not_false_eq_true,F1,and_true]
    exact⟨⟨pt,pw⟩,tw'⟩
   ·have hy':x∈[p,acc,lg]:=hy
    simp only[Cz,CC,C2] at hy'
    rcases hy' with h|h|h
    ·exact(thP hq x hx).1 h
    ·exact((hth j q hq).2.2 x hx).2 h
    ·exact(thP hq x hx).2 (by rw[h];exact lg2)
   ·obtain⟨i,hi⟩:=Eo (show T∈(sts.zip hbs).map _ from hT)
    obtain⟨s,h,_,_,rfl⟩:=evs0 i T hi
    refine⟨by simp,FI _ _,λ z hz=>?_,Dk _,Dk _,Nat.le_refl _,Nat.le_refl _⟩
    rw[Cv] at hz
    rw[hz];exact⟨Dk _,Dk _⟩
   ·obtain⟨s,h,_,_,rfl⟩:=evs0 j T hT
    exact⟨0,Cv.mpr rfl,.inl rfl⟩
noncomputable def bE (ln:List Int) (h:Int):Int:=(ln[h.toNat]?).getD 0
theorem iu (h0:0<=h) (h1:h<ln.length):atI (iV ln) h=some (.int (bE ln h)):=by
 obtain⟨i,rfl⟩:=C5 h0
 have hi:i<ln.length:=by lia
 have e:(iV ln)[i]? = some (.int (bE ln i)):=by
  unfold iV bE
  rw[Cw,Dm,Cs hi];rfl
 exact cR e
noncomputable def Ae (K:W.Frag):Sp:=λ vs H Q _=>∃ a b ln n,vs=[.ref a,.ref b]/\SqL K H a (iV ln)/\H b=some (.tup (nV n))/\0<=n.1/\n.1<ln.length/\Q (.bl (decide (n.2.1<=bE ln n.1))) H
theorem vG (T:Txt K mg t):bq P w K mg base (CXr P w) 1 t.f_az t.fd_az ["line","name"] (Ae K):=by
 refine T.F_az.okN Ak (λ vs H Q E h=>?_) (λ J A outer s H vs Q E V h=>?_)
 ·obtain⟨a,b,U,n,rfl,_⟩:=h;rfl
 ·obtain⟨a,b,U,n,rfl,O,F,h0,h1,k⟩:=h
  refine⟨_,(aI (aW (cI jP (bo (bz (K:=K)) (pv 1) aN (λ _ _=>rfl)) (bo (br (K:=K)) (pv 0) (bo (bz (K:=K)) (pv 1) aN (λ _ _=>rfl)) (λ _ _=>rfl)) (bx _)))),?_⟩
  exact⟨_,rfl,b,nV n,1,.int n.2.1,rfl,rfl,SqT.of F,rfl,_,rfl,_,rfl,b,nV n,0,.int n.1,rfl,rfl,SqT.of F,rfl,a,_,n.1,_,rfl,rfl,O,iu h0 h1,_,_,rfl,rfl,k⟩
noncomputable def zL (K:W.Frag):Sp:=λ vs H Q _=>∃ a ln u pl,vs=[.ref a,.int u,.int pl]/\SqL K H a (iV ln)/\0<=u/\u<ln.length/\Q (.bl (decide (pl<=bE ln u))) H
theorem zk (T:Txt K mg t):bq P w K mg base (CXr P w) 1 t.f_ba t.fd_ba ["line","user","place"] (zL K):=by
 refine T.F_ba.okN BM (λ vs H Q E h=>?_) (λ F A outer s H vs Q E V h=>?_)
 ·obtain⟨a,O,u,U,rfl,_⟩:=h;rfl
 ·obtain⟨a,O,u,U,rfl,J,h0,h1,k⟩:=h
  refine⟨_,(aI (aW (cI jP (pv 2) (bo (br (K:=K)) (pv 0) (pv 1) (λ _ _=>rfl)) (bx _)))),?_⟩
  exact⟨_,rfl,_,rfl,_,rfl,a,_,u,_,rfl,rfl,J,iu h0 h1,_,_,rfl,rfl,k⟩
theorem Lo.ta (lo:Lo K t G H L A n) (V:n<=30):A.A.ta.length<=60/\∀ e∈A.A.ta,Small e.1:=by
 have:=lo.bn
 have O:=jf (b:=A.A.po.map (·.nm)) lo.wf.nt λ z W=>by
  obtain⟨e,F,rfl⟩:=CL.mp W
  obtain⟨Y,J,y,_⟩:=lo.lk.tp e F
  rw[<- y];exact CN J
 rw[Cy,Cy] at O
 refine⟨by lia,λ e F=>?_⟩
 obtain⟨l,U,y,_⟩:=lo.lk.tp e F
 rw[<- y];exact lo.small V l U
noncomputable def y6 (T:ThA) (ns:List Int):Prop:=ns.Pairwise (· < ·)/\∀ y,y∈ns↔T.pt y
noncomputable def BI (K:W.Frag) (t:Adr):Sp:=λ vs H Q _=>∃ G L A n,∃ j:Nat,∃ T,vs=[.ref L.p,.int j]/\Lo K t G H L A n/\n<=30/\A.ths[j]? = some T/\∀ l ns H',aM H H'->H l=none->H' l=some (.lst (iV ns))->y6 T ns->Q (.ref l) H'
theorem vb (T:Txt K mg t):bq P w K mg base (CXr P w) 3 t.f_cd t.fd_cd ["self","hand"] (BI K t):=by
 refine T.F_cd.okN yY (λ vs H Q E h=>?_) (λ a1 A outer s H vs Q E Z h=>?_)
 ·obtain⟨G,L,A,n,j,T0,rfl,_⟩:=h;rfl
 ·obtain⟨G,L,A,n,j,T0,rfl,lo,hn,W,k⟩:=h
  refine⟨_,(aH (aZ (aX (pv 0) T.cl_Loom T.me_ar (lO (K:=K) T) (Z.mono (by decide)) T.b_ar .nil aL (aJ (pv 1) aG)))
   (aI (aW (bc (bo (br (K:=K)) (aO (K:=K) (pv 0) rfl) (pv 1) (λ _ _=>rfl)) T.cl_Thread T.me_be (yi (K:=K) T) (Z.mono (by decide)) T.b_be .nil aL)))),?_⟩
  have Y:j<A.many:=by have:=(Cr.mp W).1;rw[lo.c.len2] at this;exact this
  obtain⟨q,T1,hq,J,th,F,U⟩:=lo.at Y
  rw[W] at J;cases J
  obtain⟨w0,ws,O,hw⟩:=F.hd
  have en:=F.en
  have dn:=F.dn
  have wn:=F.wn
  rw[O] at wn
  refine tm (.n rfl) lo.c.self rfl (.cons (.n rfl) .nil) (gs lo.c Y ?_)
  refine tm (fE T lo.c rfl rfl U) th.self rfl .nil ⟨q.p,q.dx,_,q.ha,q.dn,q.wr,_,w0,ws,rfl,th.self,by rw[<- O];exact th.dc,λ y hy=>?_,by lia,F.d0,by lia,λ l ns H' s nl el pw nd V=>k l ns H' s nl el ⟨(pw.and nd).imp λ h=>by lia,λ y=>?_⟩⟩
  ·have:=F.rg y (by rw[O];exact hy)
   lia
  ·rw[V,ThA.kx O hw];exact or_comm
noncomputable def AlO (T:ThA) (st:Bool) (ns:List Int):Prop:=ns.Pairwise (· < ·)/\∀ y,y∈ns↔T.pt y\/(st=true/\y=T.evs.length)
structure Lls (H:Hp) (l:Addr) (qs:List Addr) (xss:List (List Int)):Prop where
 self:H l=some (.lst (qs.map V.ref))
 len:qs.length=xss.length
 nd:qs.Nodup
 ne:l∉qs
 at':∀ (i:Nat) q xs,qs[i]? = some q->xss[i]? = some xs->H q=some (.lst (iV xs))
theorem fi:atI (xs++[x]) (-1)=some x:=by
 unfold atI ixN
 rw[CD (by decide),CG (by rw[CA,CY];lia)]
 show (xs++[x])[((-1:Int)+((xs++[x]).length:Int)).toNat]? = some x
 rw[show ((-1:Int)+((xs++[x]).length:Int)).toNat=xs.length by rw[CA,CY];lia]
 rw[C3 (Nat.le_refl _),Eb];rfl
theorem ib:iV (xs++[x])=iV xs++[.int x]:=iD.symm
theorem cY (h:xs≠[]):∃ ys y,xs=ys++[y]:=⟨_,_,(List.dropLast_concat_getLast h).symm⟩
theorem nQ:∀ {ns:List Int}{a b:Int},ns.Pairwise (· < ·)->(∀ z∈ns,a<=z/\z<b)->(ns.length:Int)<=max 0 (b-a)
 | [],_,_,_,_=>by simp;lia
 | x::ns,a,b,p,h=>by
  have J:=Fs.mp p
  have O:=h x CJ
  have:=nQ (a:=x+1) (b:=b) J.2 λ z F=>⟨by have:=J.1 z F;lia,(h z (CH _ F)).2⟩
  rw[Dh];lia
theorem Lls.snoc (h:Lls H l F xss) (hs:H' l=some (.lst ((F++[q]).map V.ref))) (U:H' q=some (.lst (iV xs))) (Z:q∉F) (Y:l≠q) (W:∀ c∈F,∀ u,H c=some u->H' c=some u):Lls H' l (F++[q]) (xss++[xs]):=by
 refine⟨hs,by rw[CA,CA,h.len];rfl,DD.mpr ⟨h.nd,(by simp),λ a O b J z=>?_⟩,λ z=>?_,λ i c ys h1 h2=>?_⟩
 ·rw[Cv] at J
  exact Z (by rw[<- J,<- z];exact O)
 ·rcases CF.mp z with z|z
  ·exact h.ne z
  ·exact Y (Cv.mp z)
 ·rcases Fy i F.length with g|g|g
  ·rw[Dv g] at h1
   rw[Dv (by rw[<- h.len];exact g)] at h2
   exact W c (CB h1) _ (h.at' i c ys h1 h2)
  ·rw[C3 (by lia),g,Eb] at h1
   rw[C3 (by rw[<- h.len];lia),<- h.len,g,Eb] at h2
   cases h1;cases h2;exact U
  ·rw[D3 (by rw[CA,CY];lia)] at h1;cases h1
theorem AlO.top (F:TWf n T) (p:y6 T ns):∃ (ys:List Int) (y:Int),ns=ys++[y]/\y<=T.evs.length/\(∀ z∈ys,z<y):=by
 obtain⟨J,V,O,_⟩:=F.hd
 obtain⟨ys,y,rfl⟩:=cY (EC ((p.2 J).mpr ⟨J,by rw[O];exact CJ,.inl rfl⟩))
 exact⟨ys,y,rfl,(F.pt ((p.2 y).mp (by simp))).2,λ z U=>(DL.mp p.1).2.2 z U y (by simp)⟩
noncomputable def AB (K:W.Frag) (t:Adr):Sp:=λ vs H Q _=>∃ G L A n f fs,vs=[.ref L.p,.ref f]/\Lo K t G H L A n/\n<=30/\SqL K H f (iV fs) /\
 ∀ l qs xss H',aM H H'->H l=none->(∀ q∈qs,H q=none)->Lls H' l qs xss->xss.length=A.many->(∀ (i:Nat) T xs,A.ths[i]? = some T->xss[i]? = some xs->AlO T (decide ((i:Int)∉fs)) xs)->Q (.ref l) H'
theorem xY (T:Txt K mg t):bq P w K mg base (CXr P w) 4 t.f_bb t.fd_bb ["loom","fallen"] (AB K t):=by
 refine T.F_bb.okN lG (λ vs H Q E h=>?_) (λ ar A outer s H vs Q E hr h=>?_)
 ·obtain⟨G,L,A,n,f,fs,rfl,_⟩:=h;rfl
 ·obtain⟨G,L,A,n,f,fs,rfl,lo,hn,hf,k⟩:=h
  refine⟨_,(aH (aY (i:=2) lG.nd rfl (Or.inl rfl) (cV aG))
   (aH (cy PassesOwn.never rfl (d6 (K:=K) rfl T.no_enumerate (aJ (bc (pv 0) T.cl_Loom T.me_cc (BZ (K:=K) T) (hr.mono (by decide)) T.b_cc .nil aL) aG)) (cK (K:=K) rfl (bB (aR (i:=3) lG.nd rfl (Or.inl rfl)) (bB (aR (i:=4) lG.nd rfl (Or.inl rfl)) cJ)))
    (aH (aY (i:=5) lG.nd rfl (Or.inl rfl) (aX (pv 0) T.cl_Loom T.me_cd (vb (K:=K) T) (hr.mono (by decide)) T.b_cd .nil aL (aJ (pv 3) aG)))
   (aH (bH (PW.pt (iL (bj (fJ (K:=K)) (pv 3) (pv 1) (by with_unfolding_all rfl)) (gK (bj qO (bo (br (K:=K)) (pv 5) (oB kI aN) (λ _ _=>rfl)) (pv 4) (bx _)))))
    (aI (aZ (cW (K:=K) Dl Dy Dx bU (pv 5) (aJ (pv 4) aG))))
    bp)
   (aI (aZ (cW (K:=K) Dl Dy Dx bU (pv 2) (aJ (pv 5) aG)))))))
   (aI (aW (pv 2))))),?_⟩
  refine sq λ ao ak=>?_
  have m2:=lo.m2
  refine⟨by decide,λ Z aa=>?_⟩
  have s1:=aM.new (o:=.lst []) aa
  have e1:=aD (H:=H) (a:=Z) (o:=.lst [])
  generalize upd H Z (.lst [])=H1 at s1 e1 ⊢
  refine(sn ak λ au am=>?_:ao _ _ _)
  refine⟨_,rfl,L.p,L.dx,_,rfl,(lo.same s1).c.self,rfl,G,L,A,n,rfl,lo.same s1,λ lp H2 s2 af ab=>?_⟩
  have an:Z≠lp:=λ z=>by rw[<- z,e1] at af;cases af
  have a6:(iV (A.ths.map λ T=>(T.evs.length:Int))).length=A.many:=by unfold iV;rw[Cy,Cy,lo.c.len2]
  refine⟨lp,_,rfl,SqL.of ab,dv (xs:=iV (A.ths.map λ T=>(T.evs.length:Int)))
   (λ i σ H'=>∃ U F,U.length=i/\Lls H' Z U F/\aM H H'/\H' lp=some (.lst (iV (A.ths.map λ T=>(T.evs.length:Int))))/\(∀ q∈U,H q=none/\q≠lp)/\(∀ (j:Nat) T xs,A.ths[j]? = some T->F[j]? = some xs->AlO T (decide ((j:Int)∉fs)) xs)/\∃ o3 o4 o5,σ=[some (.ref L.p),some (.ref f),some (.ref Z),o3,o4,o5])
   ⟨[],[],rfl,⟨s2 _ _ e1,rfl,.nil,(by simp),(λ i q xs e=>by simp at e)⟩,s1.trans s2,ab,(λ q hq=>by cases hq),(λ j T xs _ e=>by simp at e),_,_,_,rfl⟩ ?_ ?_ ?_⟩
  ·rintro i σ H' _ ⟨U,F,_,_,_,e,_⟩
   exact SqL.of e
  ·rintro i x p σ H3 hx np ⟨U,F,a3,ls,s3,a2,fr,a7,o3,o4,o5,rfl⟩
   have hi:i<A.many:=by have:=(Cr.mp hx).1;rw[a6] at this;exact this
   obtain⟨T0,hT⟩:∃ T0,A.ths[i]? = some T0:=⟨_,Cs (by rw[lo.c.len2];exact hi)⟩
   obtain rfl:x=.int T0.evs.length:=by
    unfold iV at hx
    rw[Cw,Cw,hT] at hx
    exact(Option.some.inj hx).symm
   have tw:=lo.tw T0 (CB hT)
   have s4:=aM.new (o:=.tup [.int i,.int T0.evs.length]) np
   have a4:=s3.trans s4
   refine⟨p,_,rfl,SqT.of aD,rfl,_,_,rfl,_,_,rfl,rfl,?_⟩
   generalize upd H3 p (.tup [.int i,.int T0.evs.length])=H4 at s4 a4 ⊢
   have ad:=lo.same a4
   refine⟨_,rfl,L.p,L.dx,_,rfl,ad.c.self,rfl,_,rfl,G,L,A,n,i,T0,rfl,ad,hn,hT,λ O ns H5 s5 ag a1 po=>?_⟩
   have aj:=s4.trans s5
   have ai:=a4.trans s5
   obtain⟨ys,y,ey,av,ap⟩:=AlO.top tw po
   have ae:H O=none:=a4.free ag
   have J:H3 O=none:=s4.free ag
   have ah:O∉U:=λ z=>by
    obtain⟨j,hj,e⟩:=C1 z
    have:=ls.at' j O _ (by rw[<- e];exact Cs hj) (Cs (by rw[<- ls.len];exact hj))
    rw[J] at this;cases this
   have Y:Z≠O:=λ z=>by rw[<- z,ls.self] at J;cases J
   have a5:O≠lp:=λ z=>by rw[z,a2] at J;cases J
   have a9:∀ (H6:Hp) (xs:List Int),(∀ c u,c≠O->H5 c=some u->H6 c=some u)->H6 O=some (.lst (iV xs))->AlO T0 (decide ((i:Int)∉fs)) xs ->
     ∃ l W y',V.ref Z=.ref l/\[V.ref O]=[y']/\H6 l=some (.lst W)/\W.length<sizeLine /\
      ∃ U F,U.length=i+1/\Lls (upd H6 l (.lst (W++[y']))) Z U F/\aM H (upd H6 l (.lst (W++[y'])))/\upd H6 l (.lst (W++[y'])) lp=some (.lst (iV (A.ths.map λ T=>(T.evs.length:Int))))/\(∀ q∈U,H q=none/\q≠lp)/\(∀ (j:Nat) T xs,A.ths[j]? = some T->F[j]? = some xs->AlO T (decide ((j:Int)∉fs)) xs) /\
       ∃ o3 o4 o5,([some (.ref L.p),some (.ref f),some (.ref Z),some (.int i),some (.int T0.evs.length),some (.ref O)]:St)=[some (.ref L.p),some (.ref f),some (.ref Z),o3,o4,o5]:=λ H6 xs kp e6 ok=>by
    have k6:∀ c u,c≠O->H3 c=some u->H6 c=some u:=λ c u nc e=>kp c u nc (aj _ _ e)
    refine⟨Z,U.map V.ref,.ref O,rfl,rfl,k6 _ _ Y ls.self,DK (show (U.map V.ref).length<=5 by rw[Cy];lia) (by decide),U++[O],F++[xs],by rw[CA,a3];rfl,?_,λ c u e=>?_,?_,λ q hq=>?_,λ j T W h1 h2=>?_,_,_,_,rfl⟩
    ·refine ls.snoc (by rw[aD,CP];rfl) (by rw[aE (Ne.symm Y)];exact e6) ah Y λ c hc u e=>?_
     rw[aE (λ z=>ls.ne (by rw[<- z];exact hc))]
     exact k6 c u (λ z=>ah (by rw[<- z];exact hc)) e
    ·rw[aE (aF e aa)]
     exact kp c u (aF e ae) (ai _ _ e)
    ·rw[aE (Ne.symm an)]
     exact k6 _ _ (Ne.symm a5) a2
    ·rcases CF.mp hq with hq|hq
     ·exact fr q hq
     ·rw[Cv] at hq
      rw[hq];exact⟨ae,a5⟩
    ·have lx:F.length=i:=by rw[<- ls.len,a3]
     rcases Fy j i with g|g|g
     ·rw[Dv (by lia)] at h2
      exact a7 j T W h1 h2
     ·rw[C3 (by lia),g,lx,Eb] at h2
      cases h2
      rw[g,hT] at h1;cases h1
      rw[g];exact ok
     ·rw[D3 (by rw[CA,CY];lia)] at h2;cases h2
   have fl:(iV fs).all dN=true:=by unfold iV;rw[Fn];exact D6.mpr λ _ _=>rfl
   have a8:∀ H6:Hp,(∀ c u,c≠O->H5 c=some u->H6 c=some u)->SqL K H6 Z (U.map V.ref):=λ H6 kp=>SqL.of (kp _ _ Y (aj _ _ ls.self))
   have aq:ns.length<=900:=by
    have:∀ z∈ns,0<=z/\z<31:=λ z hz=>by
     have en:=tw.en
     have:=tw.pt ((po.2 z).mp hz)
     lia
    have:=nQ po.1 this
    lia
   rw[ey] at a1
   refine⟨_,rfl,_,rfl,f,iV fs,rfl,.inl (ai.seq hf),rfl,fl,_,rfl,dy (λ z=>?_) λ z=>?_⟩
   ·rw[CG rfl,gh] at z
    have z':(i:Int)∉fs:=by simpa using z
    refine⟨_,rfl,1,rfl,O,_,-1,.int y,rfl,rfl,SqL.of a1,by rw[ib];exact fi,_,rfl,rfl,_,rfl,dy (λ z2=>?_) λ z2=>?_⟩
    ·have z3:y≠T0.evs.length:=by simpa using z2
     refine⟨_,rfl,.inl ⟨rfl,_,SqL.of a1⟩,_,rfl,O,_,.int T0.evs.length,rfl,rfl,a1,bh (by rw[<- ey];unfold iV;rw[Cy];lia),?_⟩
     refine⟨_,rfl,.inl ⟨rfl,_,a8 _ λ c u nc e=>by rw[aE nc];exact e⟩,_,rfl,a9 _ (ns++[(T0.evs.length:Int)]) (λ c u nc e=>by rw[aE nc];exact e) (by rw[aD,ib (xs:=ns),ey]) ⟨?_,λ v=>?_⟩⟩
     ·refine DL.mpr ⟨po.1,by simp,λ a ha b hb=>?_⟩
      rw[Cv] at hb
      rw[ey] at ha
      rcases CF.mp ha with ha|ha
      ·have:=ap a ha;lia
      ·rw[Cv] at ha;lia
     ·rw[CF,Cv,po.2,CZ z'];simp
    ·have z3:y=T0.evs.length:=by simpa using z2
     refine⟨_,rfl,.inl ⟨rfl,_,a8 _ λ c u nc e=>e⟩,_,rfl,a9 _ ns (λ c u nc e=>e) (by rw[ey];exact a1) ⟨po.1,λ v=>?_⟩⟩
     rw[CZ z']
     constructor
     ·exact λ h=>.inl ((po.2 v).mp h)
     ·rintro(h|⟨_,h⟩)
      ·exact(po.2 v).mpr h
      ·rw[h,<- z3,ey];simp
   ·rw[CG rfl,gh] at z
    have z':¬ (i:Int)∉fs:=by simpa using z
    refine bT rfl ⟨_,rfl,.inl ⟨rfl,_,a8 _ λ c u nc e=>e⟩,_,rfl,a9 _ ns (λ c u nc e=>e) (by rw[ey];exact a1) ⟨po.1,λ v=>?_⟩⟩
    rw[DB z',po.2];simp
  ·rintro σ H3 ⟨U,F,a3,ls,s3,a2,fr,a7,o3,o4,o5,rfl⟩
   subst am
   exact⟨_,rfl,k Z U F H3 s3 aa (λ q hq=>(fr q hq).1) ls (by rw[<- ls.len,a3,a6]) a7⟩
structure DeL where
 (d dx po ta al:Addr)
 qs:List Addr
noncomputable def deF (po ta al:Addr):List (Str×V):=[("posted",.ref po),("taken",.ref ta),("allowed",.ref al)]
structure De (t:Adr) (H:Hp) (D:DeL) (A:DiA) (xss:List (List Int)):Prop where
 self:H D.d=some (.ins t.c_Descent D.dx (deF D.po D.ta D.al))
 po:H D.po=some (.dT (A.po.map λ l=>(nk l.nm,V.ref l.adr)))
 ta:H D.ta=some (.dT (A.ta.map λ e=>(nk e.1,V.int e.2)))
 lls:Lls H D.al D.qs xss
 lets:∀ l∈A.po,H l.adr=some (.tup [.int l.to,.int l.wd])
theorem Lls.same (h:Lls H l qs xss) (s:aM H H'):Lls H' l qs xss:=⟨s _ _ h.self,h.len,h.nd,h.ne,λ i q xs a b=>s _ _ (h.at' i q xs a b)⟩
theorem De.same (h:De t H D A xss) (s:aM H H'):De t H' D A xss:=⟨s _ _ h.self,s _ _ h.po,s _ _ h.ta,h.lls.same s,λ l F=>s _ _ (h.lets l F)⟩
noncomputable def AV (K:W.Frag) (t:Adr):Sp:=λ vs H Q _=>∃ H0 G L A n f fs d dx,vs=[.ref d,.ref L.p,.ref f]/\aM H0 H/\H0 d=none/\H d=some (.ins t.c_Descent dx [])/\Lo K t G H0 L A n/\n<=30/\SqL K H0 f (iV fs) /\
 ∀ D xss H',D.d=d->aM H0 H'->(∀ b∈D.qs,H0 b=none)->De t H' D A.A xss->xss.length=A.many->(∀ (i:Nat) T xs,A.ths[i]? = some T->xss[i]? = some xs->AlO T (decide ((i:Int)∉fs)) xs)->Q .non H'
theorem AJ (T:Txt K mg t):bq P w K mg base (CXr P w) 5 t.f_bo t.fd_bo ["self","loom","fallen"] (AV K t):=by
 refine T.F_bo.okN Bj (λ vs H Q E h=>?_) (λ ab A outer s H vs Q E hr h=>?_)
 ·obtain⟨H0,G,L,A,n,f,fs,d,dx,rfl,_⟩:=h;rfl
 ·obtain⟨H0,G,L,A,n,f,fs,d,dx,rfl,s0,nd,hd,lo,hn,hf,k⟩:=h
  refine⟨_,(aH (bg (K:=K) (pv 0) (bc (pv 1) T.cl_Loom T.me_aj (uI (K:=K) T) (hr.mono (by decide)) T.b_aj .nil aL) rfl)
   (aH (bg (K:=K) (pv 0) (bc (pv 1) T.cl_Loom T.me_ak (vB (K:=K) T) (hr.mono (by decide)) T.b_ak .nil aL) rfl)
   (aI (bg (K:=K) (pv 0) (aV (xY (K:=K) T) (hr.mono (by decide)) rfl T.mg_bb T.kp_bb T.b_bb .nil aL (aJ (pv 1) (aJ (pv 2) aG))) rfl)))),?_⟩
  refine⟨_,rfl,L.p,L.dx,_,rfl,(lo.same s0).c.self,rfl,G,L,A,n,rfl,lo.same s0,hn,λ F H1 s1 a2 a5=>?_⟩
  have a7:=s1 _ _ hd
  have Z:F≠d:=λ z=>by rw[z,hd] at a2;cases a2
  refine⟨_,rfl,d,_,dx,_,rfl,a7,T.cl_Descent,T.na_bc,by decide,?_⟩
  have s2:aM H0 (upd H1 d (.ins t.c_Descent dx (aP "posted" (.ref F) []))):=λ c u e=>by
   rw[aE (aF e nd)];exact s1 _ _ (s0 _ _ e)
  have Y:=aD (H:=H1) (a:=d) (o:=.ins t.c_Descent dx (aP "posted" (.ref F) []))
  have O:upd H1 d (.ins t.c_Descent dx (aP "posted" (.ref F) [])) F=some (.dT (A.A.po.map λ l=>(nk l.nm,V.ref l.adr))):=by rw[aE Z];exact a5
  generalize upd H1 d (.ins t.c_Descent dx (aP "posted" (.ref F) []))=H2 at s2 Y O ⊢
  refine⟨_,rfl,L.p,L.dx,_,rfl,(lo.same s2).c.self,rfl,G,L,A,n,rfl,lo.same s2,hn,λ ta H3 s3 a3 a6=>?_⟩
  have a4:ta≠d:=λ z=>by rw[z,Y] at a3;cases a3
  refine⟨_,rfl,d,_,dx,_,rfl,s3 _ _ Y,T.cl_Descent,T.na_bh,by show 1<1000;decide,?_⟩
  have s4:aM H0 (upd H3 d (.ins t.c_Descent dx (aP "taken" (.ref ta) (aP "posted" (.ref F) [])))):=λ c u e=>by
   rw[aE (aF e nd)];exact s3 _ _ (s2 _ _ e)
  have J:=aD (H:=H3) (a:=d) (o:=.ins t.c_Descent dx (aP "taken" (.ref ta) (aP "posted" (.ref F) [])))
  have U:upd H3 d (.ins t.c_Descent dx (aP "taken" (.ref ta) (aP "posted" (.ref F) []))) F=some (.dT (A.A.po.map λ l=>(nk l.nm,V.ref l.adr))):=by rw[aE Z];exact s3 _ _ O
  have W:upd H3 d (.ins t.c_Descent dx (aP "taken" (.ref ta) (aP "posted" (.ref F) []))) ta=some (.dT (A.A.ta.map λ e=>(nk e.1,V.int e.2))):=by rw[aE a4];exact a6
  generalize upd H3 d (.ins t.c_Descent dx (aP "taken" (.ref ta) (aP "posted" (.ref F) [])))=H4 at s4 J U W ⊢
  refine⟨_,rfl,_,rfl,G,L,A,n,f,fs,rfl,lo.same s4,hn,s4.seq hf,λ al qs aa H5 s5 a1 fr ls lx ok=>?_⟩
  have a8:al≠d:=λ z=>by rw[z,J] at a1;cases a1
  have a9:∀ q∈qs,q≠d:=λ q hq z=>by have:=fr q hq;rw[z,J] at this;cases this
  refine⟨_,rfl,d,_,dx,_,rfl,s5 _ _ J,T.cl_Descent,T.na_av,by show 2<1000;decide,?_⟩
  have s6:aM H0 (upd H5 d (.ins t.c_Descent dx (aP "allowed" (.ref al) (aP "taken" (.ref ta) (aP "posted" (.ref F) []))))):=λ c u e=>by
   rw[aE (aF e nd)];exact s5 _ _ (s4 _ _ e)
  refine k ⟨d,dx,F,ta,al,qs⟩ aa _ rfl s6 (λ b hb=>s4.free (fr b hb)) ⟨aD,?_,?_,⟨?_,ls.len,ls.nd,ls.ne,λ i q xs h1 h2=>?_⟩,λ l hl=>s6 _ _ (lo.c.held _ _ (lo.c.di.lets l hl))⟩ lx ok
  ·rw[aE Z];exact s5 _ _ U
  ·rw[aE a4];exact s5 _ _ W
  ·rw[aE a8];exact ls.self
  ·rw[aE (a9 q (CB h1))];exact ls.at' i q xs h1 h2
noncomputable def cD (xs:List Int):Int:=(xs.getLast?).getD 0
theorem gX:cD (ys++[y])=y:=by unfold cD;simp
noncomputable def xH (K:W.Frag) (t:Adr):Sp:=λ vs H Q _=>∃ D A xss,vs=[.ref D.d]/\De t H D A xss/\xss.length<=5/\(∀ xs∈xss,xs≠[])/\∀ l H',aM H H'->H l=none->H' l=some (.lst (iV (xss.map cD)))->Q (.ref l) H'
theorem oT (T:Txt K mg t):bq P w K mg base (CXr P w) 1 t.f_as t.fd_as ["self"] (xH K t):=by
 refine T.F_as.okN xS (λ vs H Q E h=>?_) (λ a1 A outer s H vs Q E hr h=>?_)
 ·obtain⟨D,A,J,rfl,_⟩:=h;rfl
 ·obtain⟨D,A,J,rfl,de,a2,ne,k⟩:=h
  refine⟨_,(aI (aW (bR ["self","points"] 1 rfl (bP (K:=K) (aO (K:=K) (pv 0) rfl)) (λ _ _ _ _ _=>⟨(aR (i:=1) (show List.Nodup (["self","points"]:List Str) from by decide +kernel) rfl (Or.inl rfl)),bX,(bo (br (K:=K)) (pv 1) (oB kI aN) (λ _ _=>rfl))⟩)))),?_⟩
  have ll:=de.lls
  have lq:(D.qs.map V.ref).length=J.length:=by rw[Cy,ll.len]
  refine⟨_,rfl,D.d,_,D.dx,_,_,rfl,de.self,T.cl_Descent,T.na_av,rfl,D.al,rfl,⟨_,SqL.of ll.self⟩,cj (xs:=D.qs.map V.ref) (by lia) λ acc F=>⟨λ i O ys H2=>ys=iV ((J.take i).map cD)/\H2 acc=some (.lst ys)/\aM H H2/\∃ o,O=[some (.ref D.d),o],⟨rfl,aD,aM.new F,_,rfl⟩,?_,?_,?_⟩⟩
  ·rintro i O ys H2 hi ⟨rfl,_,W,_⟩
   refine⟨SqL.of (W _ _ ll.self),?_⟩
   unfold iV
   rw[Cy,Cy,Dg];lia
  ·rintro i v O ys H2 hi Z ⟨rfl,e2,W,o,rfl⟩
   obtain⟨q,hq,rfl⟩:∃ q,D.qs[i]? = some q/\v=.ref q:=by
    rw[Cw] at Z
    cases e:D.qs[i]? with
    | none=>rw[e] at Z;cases Z
    | some q=>rw[e] at Z;cases Z;exact⟨q,rfl,rfl⟩
   obtain⟨xs,U⟩:∃ xs,J[i]? = some xs:=⟨_,Cs (by lia)⟩
   obtain⟨zs,z,ez⟩:=cY (ne xs (CB U))
   have Y:=W _ _ (ll.at' i q xs hq U)
   rw[ez,ib] at Y
   dsimp only[ck,fO]
   refine cX ⟨_,rfl,1,rfl,q,_,-1,.int z,rfl,rfl,SqL.of Y,fi,e2,Nx.mk hi ⟨?_,aD,λ b u e=>?_,_,rfl⟩⟩
   ·rw[D7,U,ez]
    show _=iV (((J.take i)++[zs++[z]]).map cD)
    rw[CP,ED,gX,ib]
   ·rw[aE (aF e F)];exact W _ _ e
  ·rintro O ys H2 ⟨rfl,e2,W,o,rfl⟩
   rw[FN (by lia)] at e2
   exact k acc H2 W F e2
structure DeB (t:Adr) (H:Hp) (D:DeL) (A:DiA) (xss:List (List Int)) (m:Nat) (b:Addr) (e:Nm3×Int) (l:cF):Prop where
 de:De t H D A xss
 nd:(A.po.map (·.nm)).Nodup
 nt:(A.ta.map (·.1)).Nodup
 lx:xss.length=m
 m5:m<=5
 ne:∀ xs∈xss,xs≠[]
 he:e∈A.ta
 hl:l∈A.po
 el:l.nm=e.1
 r1:0<=e.1.1/\e.1.1<m
 r2:0<=l.to/\l.to<m
 hb:H b=some (.tup (nV e.1))
section
variable {H H':Hp}{D:DeL}{A:DiA}{xss:List (List Int)}{m:Nat}{b:Addr}{e:Nm3×Int}{l:cF}
theorem DeB.same (d:DeB t H D A xss m b e l) (s:aM H H'):DeB t H' D A xss m b e l:=⟨d.de.same s,d.nd,d.nt,d.lx,d.m5,d.ne,d.he,d.hl,d.el,d.r1,d.r2,s _ _ d.hb⟩
theorem DeB.v1 (d:DeB t H D A xss m b e l):bV (A.po.map λ l=>(nk l.nm,V.ref l.adr)) (nk e.1)=some (.ref l.adr):=by rw[<- d.el];exact cG (λ l:cF=>nk l.nm) (λ l=>V.ref l.adr) (dD (f:=cF.nm) cC d.nd) d.hl
theorem DeB.v2 (d:DeB t H D A xss m b e l):bV (A.ta.map λ e=>(nk e.1,V.int e.2)) (nk e.1)=some (.int e.2):=cG (λ e:Nm3×Int=>nk e.1) (λ e=>V.int e.2) (dD (f:=Prod.fst) cC d.nt) d.he
theorem DeB.atq (d:DeB t H D A xss m b e l) (F:D.qs[l.to.toNat]? = some q):atI (D.qs.map V.ref) l.to=some (.ref q):=by
 obtain⟨i,hi⟩:=C5 d.r2.1
 rw[hi,Dm] at F
 rw[hi]
 refine cR ?_
 rw[Cw,F];rfl
end
noncomputable def BV (K:W.Frag) (t:Adr):Sp:=λ vs H Q _=>∃ D A xss m b e l,vs=[.ref D.d,.ref b]/\DeB t H D A xss m b e l /\
 ∀ H',aM H H'->Q (.bl (decide (e.2<=bE (xss.map cD) l.to) && !decide (e.1.2.1<=bE (xss.map cD) e.1.1))) H'
theorem AE (T:Txt K mg t):bq P w K mg base (CXr P w) 3 t.f_ad t.fd_ad ["self","name"] (BV K t):=by
 refine T.F_ad.okN uH (λ vs H Q E h=>?_) (λ cdv A outer s H vs Q E hr h=>?_)
 ·obtain⟨D,A,xss,m,b,e,l,rfl,_⟩:=h;rfl
 ·obtain⟨D,A,xss,m,b,e,l,rfl,d,k⟩:=h
  refine⟨_,(aH (bH (PW.pt (eX (b9 (bO (aV (uP (K:=K) T) (hr.mono (by decide)) rfl T.mg_dn T.kp_dn T.b_dn .nil aL (aJ (pv 1) aG)))) (fD (j7 (fK (cm hr) (pv 1) (aO (K:=K) (pv 0) rfl))))))
    (aI (aW eI))
    bp)
   (aH (aY (i:=2) uH.nd rfl (Or.inl rfl) (bc (pv 0) T.cl_Descent T.me_as (oT (K:=K) T) (hr.mono (by decide)) T.b_as .nil aL))
   (aI (aW (ko (aV (zk (K:=K) T) (hr.mono (by decide)) rfl T.mg_ba T.kp_ba T.b_ba .nil aL (aJ (pv 2) (aJ (bo (bz (K:=K)) (cP (cm hr) (aO (K:=K) (pv 0) rfl) (pv 1) (λ _ _=>rfl)) aN (λ _ _=>rfl)) (aJ (cP (cm hr) (aO (K:=K) (pv 0) rfl) (pv 1) (λ _ _=>rfl)) aG)))) (jc (mQ (aV (vG (K:=K) T) (hr.mono (by decide)) rfl T.mg_az T.kp_az T.b_az .nil aL (aJ (pv 2) (aJ (pv 1) aG)))))))))),?_⟩
  refine⟨_,rfl,b,e.1.1,e.1.2.1,e.1.2.2,rfl,d.hb,λ H1 s1=>⟨_,rfl,bT rfl ?_⟩⟩
  have d1:=d.same s1
  refine⟨_,rfl,_,rfl,D.d,_,D.dx,_,_,rfl,d1.de.self,T.cl_Descent,T.na_bh,rfl,D.ta,_,rfl,.inr ⟨_,nk e.1,b,.inl d1.de.ta,rfl,d1.hb,d.v2.symm⟩,_,rfl,bT rfl ?_⟩
  have few:xss.length<=5:=by rw[d.lx];exact d.m5
  refine tm (.n rfl) d1.de.self rfl .nil ⟨D,A,xss,rfl,d1.de,few,d.ne,λ ln H2 s2 nl el2=>?_⟩
  have d2:=d1.same s2
  have ll:((xss.map cD).length:Int)=m:=by rw[Cy,d.lx]
  have r1:=d.r1
  have r2:=d.r2
  have kk:=k H2 (s1.trans s2)
  refine⟨_,rfl,_,rfl,D.d,_,D.dx,_,_,rfl,d2.de.self,T.cl_Descent,T.na_bc,rfl,_,rfl,D.po,.ref l.adr,rfl,.inr ⟨_,nk e.1,b,.inl d2.de.po,rfl,d2.hb,d.v1.symm⟩,l.adr,_,0,.int l.to,rfl,rfl,SqT.of (d2.de.lets l d.hl),rfl,_,rfl,D.d,_,D.dx,_,_,rfl,d2.de.self,T.cl_Descent,T.na_bh,rfl,_,rfl,D.ta,_,rfl,.inr ⟨_,nk e.1,b,.inl d2.de.ta,rfl,d2.hb,d.v2.symm⟩,ln,xss.map cD,l.to,e.2,rfl,SqL.of el2,r2.1,by lia,_,rfl,dy (λ z=>⟨_,rfl,_,rfl,ln,b,xss.map cD,e.1,rfl,SqL.of el2,d2.hb,r1.1,by lia,_,rfl,?_⟩) λ z=>?_⟩
  ·rw[z,Bool.true_and] at kk
   exact kk
  ·rw[show decide (e.2<=bE (xss.map cD) l.to)=false by simpa using z,Bool.false_and] at kk
   exact kk
noncomputable def Bp (K:W.Frag) (t:Adr):Sp:=λ vs H Q _=>∃ D A xss m b e l x0 xs,vs=[.ref D.d,.ref b]/\DeB t H D A xss m b e l/\xss[l.to.toNat]? = some (x0::xs)/\Q (.bl (decide (x0<e.2))) H
theorem xt (T:Txt K mg t):bq P w K mg base (CXr P w) 1 t.f_am t.fd_am ["self","name"] (Bp K t):=by
 refine T.F_am.okN xG (λ vs H Q E h=>?_) (λ cdv A outer s H vs Q E hr h=>?_)
 ·obtain⟨D,A,xss,m,b,e,l,x0,xs,rfl,_⟩:=h;rfl
 ·obtain⟨D,A,xss,m,b,e,l,x0,xs,rfl,d,hx,k⟩:=h
  refine⟨_,(aI (aW (cI n6 (bo (br (K:=K)) (bo (br (K:=K)) (aO (K:=K) (pv 0) rfl) (bo (bz (K:=K)) (cP (cm hr) (aO (K:=K) (pv 0) rfl) (pv 1) (λ _ _=>rfl)) aN (λ _ _=>rfl)) (λ _ _=>rfl)) aN (λ _ _=>rfl)) (cP (cm hr) (aO (K:=K) (pv 0) rfl) (pv 1) (λ _ _=>rfl)) (bx _)))),?_⟩
  obtain⟨q,hq⟩:∃ q,D.qs[l.to.toNat]? = some q:=⟨_,Cs (by rw[d.de.lls.len];exact(Cr.mp hx).1)⟩
  exact⟨_,rfl,D.d,_,D.dx,_,_,rfl,d.de.self,T.cl_Descent,T.na_av,rfl,_,rfl,D.d,_,D.dx,_,_,rfl,d.de.self,T.cl_Descent,T.na_bc,rfl,_,rfl,D.po,.ref l.adr,rfl,.inr ⟨_,nk e.1,b,.inl d.de.po,rfl,d.hb,d.v1.symm⟩,l.adr,_,0,.int l.to,rfl,rfl,SqT.of (d.de.lets l d.hl),rfl,D.al,_,_,_,rfl,rfl,SqL.of d.de.lls.self,d.atq hq,q,_,0,.int x0,rfl,rfl,SqL.of (d.de.lls.at' _ q _ hq hx),bM,_,rfl,D.d,_,D.dx,_,_,rfl,d.de.self,T.cl_Descent,T.na_bh,rfl,_,rfl,D.ta,_,rfl,.inr ⟨_,nk e.1,b,.inl d.de.ta,rfl,d.hb,d.v2.symm⟩,_,_,rfl,rfl,k⟩
noncomputable def yf (K:W.Frag) (t:Adr):Sp:=λ vs H Q _=>∃ D A xss m b e l x0 xs q,vs=[.ref D.d,.ref b]/\DeB t H D A xss m b e l/\xss[l.to.toNat]? = some (x0::xs)/\D.qs[l.to.toNat]? = some q/\(x0::xs).Pairwise (· < ·)/\x0<e.2 /\
 ∀ H',But [q] H H'->H' q=some (.lst (iV ((x0::xs).filter λ y=>decide (y<e.2))))->Q .non H'
theorem BS (T:Txt K mg t):bq P w K mg base (CXr P w) 1 t.f_bp t.fd_bp ["self","name"] (yf K t):=by
 refine T.F_bp.okN vx (λ vs H Q E h=>?_) (λ cdv A outer s H vs Q E hr h=>?_)
 ·obtain⟨D,A,xss,m,b,e,l,x0,xs,q,rfl,_⟩:=h;rfl
 ·obtain⟨D,A,xss,m,b,e,l,x0,xs,q,rfl,d,hx,hq,asc,lt,k⟩:=h
  refine⟨_,(aH (aY (i:=2) vx.nd rfl (Or.inl rfl) (bo (br (K:=K)) (aO (K:=K) (pv 0) rfl) (bo (bz (K:=K)) (cP (cm hr) (aO (K:=K) (pv 0) rfl) (pv 1) (λ _ _=>rfl)) aN (λ _ _=>rfl)) (λ _ _=>rfl)))
   (aI (lM PassesOwn.never (bj jz (bo (br (K:=K)) (pv 2) (oB kI aN) (λ _ _=>rfl)) (cP (cm hr) (aO (K:=K) (pv 0) rfl) (pv 1) (λ _ _=>rfl)) (bx _))
    (aI (aZ (oW (K:=K) Dl PySem.F.slot_list_pop PySem.F.type_list_pop rF (pv 2))))))),?_⟩
  have hq':=d.de.lls.at' _ q _ hq hx
  refine⟨_,rfl,D.d,_,D.dx,_,_,rfl,d.de.self,T.cl_Descent,T.na_av,rfl,_,rfl,D.d,_,D.dx,_,_,rfl,d.de.self,T.cl_Descent,T.na_bc,rfl,_,rfl,D.po,.ref l.adr,rfl,.inr ⟨_,nk e.1,b,.inl d.de.po,rfl,d.hb,d.v1.symm⟩,l.adr,_,0,.int l.to,rfl,rfl,SqT.of (d.de.lets l d.hl),rfl,D.al,_,_,_,rfl,rfl,SqL.of d.de.lls.self,d.atq hq,?_⟩
  refine⟨λ m σ H'=>∃ ys zs,x0::xs=ys++zs/\(∀ z∈zs,e.2<=z)/\m=ys.length/\But [q] H H'/\H' q=some (.lst (iV ys))/\σ=[some (.ref D.d),some (.ref b),some (.ref q)],⟨_,x0::xs,[],by simp,(λ z hz=>by cases hz),rfl,(λ c u _ e=>e),hq',rfl⟩,?_⟩
  rintro m σ H' ⟨ys,zs,e1,big,rfl,bt,eq',rfl⟩
  have ny:ys≠[]:=λ z=>by
   rw[z,List.nil_append] at e1
   have:=big x0 (by rw[<- e1];exact CJ)
   lia
  obtain⟨us,u,rfl⟩:=cY ny
  have kd:∀ c o,H c=some o->(∀ ys,o≠.lst ys)->H' c=some o:=λ c o h n=>bt c o (by rw[Cv];exact λ z=>by rw[z,hq'] at h;exact n _ (Option.some.inj h).symm) h
  have sf:=kd _ _ d.de.self (λ _ z=>by cases z)
  have hb':=kd _ _ d.hb (λ _ z=>by cases z)
  have tk:=kd _ _ d.de.ta (λ _ z=>by cases z)
  refine⟨_,rfl,1,rfl,q,_,-1,.int u,rfl,rfl,SqL.of eq',by rw[ib];exact fi,_,rfl,D.d,_,D.dx,_,_,rfl,sf,T.cl_Descent,T.na_bh,rfl,_,rfl,D.ta,_,rfl,.inr ⟨_,nk e.1,b,.inl tk,rfl,hb',d.v2.symm⟩,_,_,rfl,rfl,_,rfl,dy (λ z=>?_) λ z=>?_⟩
  ·have z':e.2<=u:=Dr z
   refine⟨λ σ2 H2=>∃ m',m'<(us++[u]).length/\∃ ys zs,x0::xs=ys++zs/\(∀ z∈zs,e.2<=z)/\m'=ys.length/\But [q] H H2/\H2 q=some (.lst (iV ys))/\σ2=[some (.ref D.d),some (.ref b),some (.ref q)],λ _ _ h=>h,?_⟩
   refine⟨_,rfl,.inl ⟨rfl,_,SqL.of eq'⟩,q,_,.int u,rfl,rfl,eq',?_,us.length,by rw[CA,CY];lia,us,u::zs,by rw[e1,EL];rfl,λ z hz=>?_,rfl,λ c o n h=>?_,?_,rfl⟩
   ·rw[ib,CA,CY,Nat.add_sub_cancel,C3 (Nat.le_refl _),Eb];rfl
   ·rcases Cz.mp hz with h|h
    ·rw[h];exact z'
    ·exact big z h
   ·rw[aE (by simpa using n)];exact bt c o n h
   ·rw[aD,ib,List.dropLast_concat]
  ·have z':u<e.2:=by have:¬ e.2<=u:=λ y=>z (CZ y);lia
   refine k H' bt ?_
   rw[eq',e1,Ei]
   rw[e1] at asc
   have a1:=(DL.mp asc).1
   have f1:(us++[u]).filter (λ y=>decide (y<e.2))=us++[u]:=List.filter_eq_self.mpr λ y hy=>by
    rw[Em]
    rcases CF.mp hy with h|h
    ·have:=(DL.mp a1).2.2 y h u (by simp);lia
    ·rw[Cv.mp h];exact z'
   have f2:zs.filter (λ y=>decide (y<e.2))=[]:=FO.mpr λ y hy=>by
    have:=big y hy
    rw[Em];lia
   rw[f1,f2,D2]
structure Lnm (H:Hp) (l:Addr) (qs:List Addr) (nss:List (List Nm3)):Prop where
 self:H l=some (.lst (qs.map V.ref))
 len:qs.length=nss.length
 nd:qs.Nodup
 ne:l∉qs
 at':∀ (i:Nat) q ns,qs[i]? = some q->nss[i]? = some ns->∃ ls,H q=some (.lst ls)/\NmL H ls ns
theorem Lnm.same (h:Lnm H l qs nss) (s:aM H H'):Lnm H' l qs nss:=⟨s _ _ h.self,h.len,h.nd,h.ne,λ i q xs a b=>let ⟨F,e,n⟩:=h.at' i q xs a b;⟨F,s _ _ e,n.same s⟩⟩
theorem um {H:Hp}{es:List (Nm3×Int)}{bs:List Addr}(h:m8 H (es.map λ e=>(nk e.1,V.int e.2)) bs):NmL H (bs.map V.ref) (es.map (·.1)):=by
 have F:∀ (i:Nat) b e,bs[i]? = some b->es[i]? = some e->fY H (.ref b) e.1:=λ i b e J O=>⟨b,rfl,h.2 i b (nk e.1) (V.int e.2) J (by rw[Cw,O];rfl)⟩
 have Y:bs.length=es.length:=by rw[h.1,Cy]
 refine⟨Ep λ i=>?_,λ v U=>?_⟩
 ·rw[Ds,Cw,Cw]
  by_cases W:i<bs.length
  ·have O:=Cs (l:=es) (i:=i) (by lia)
   have J:=Cs W
   rw[O,J]
   exact congrArg some (F i _ _ J O).of
  ·rw[D3 (by lia),D3 (by lia)];rfl
 ·obtain⟨b,J,rfl⟩:=CL.mp U
  obtain⟨i,hi,rfl⟩:=C1 J
  have:=F i _ _ (Cs hi) (Cs (l:=es) (i:=i) (by lia))
  rw[this.of];exact this
noncomputable def cE (m:Nat) (ns:List Nm3):List (List Nm3):=(List.range m).map λ h:Nat=>ns.filter λ n=>decide (n.1=(h:Int))
noncomputable def zz (K:W.Frag) (t:Adr):Sp:=λ vs H Q _=>∃ G L A n,vs=[.ref L.p]/\Lo K t G H L A n/\n<=30/\∀ u us ns H',aM H H'->H u=none->(∀ q∈us,H q=none)->Lnm H' u us (cE A.many ns)->pN ns->ns.Perm (A.A.ta.map (·.1))->Q (.ref u) H'
theorem zq (T:Txt K mg t):bq P w K mg base (CXr P w) 2 t.f_bq t.fd_bq ["loom"] (zz K t):=by
 refine T.F_bq.okN qC (λ vs H Q E h=>?_) (λ an A outer s H vs Q E hr h=>?_)
 ·obtain⟨G,L,A,n,rfl,_⟩:=h;rfl
 ·obtain⟨G,L,A,n,rfl,lo,hn,k⟩:=h
  refine⟨_,(aH (dA ["loom","used","name","hand"] 1 (i:=1) rfl qC.nd rfl (Or.inl rfl) (cf rfl T.no_range (aJ (aO (K:=K) (pv 0) rfl) aG)) (λ _ _ _ _ _=>⟨(aR (i:=3) (show List.Nodup (["loom","used","name","hand"]:List Str) from by decide +kernel) rfl (Or.inl rfl)),bX,(cV aG)⟩))
   (aH (cy PassesOwn.never rfl (bP (K:=K) (bI (nM rfl) rfl T.no_sorted je (aJ (bc (pv 0) T.cl_Loom T.me_ak (vB (K:=K) T) (hr.mono (by decide)) T.b_ak .nil aL) aG))) (aR (i:=2) qC.nd rfl (Or.inl rfl))
    (aI (aZ (cW (K:=K) Dl Dy Dx bU (bo (br (K:=K)) (pv 1) (bo (bz (K:=K)) (pv 2) aN (λ _ _=>rfl)) (λ _ _=>rfl)) (aJ (pv 2) aG)))))
   (aI (aW (pv 1))))),?_⟩
  refine sq λ am af=>?_
  have m2:=lo.m2
  refine⟨_,rfl,L.p,_,L.dx,_,_,rfl,lo.c.self,T.cl_Loom,T.na_de,rfl,(A.many:Int),rfl,by lia,by lia,cN (n:=A.many) (by lia) λ u hu=>⟨λ i a6 ys H2=>∃ F:List Addr,ys=F.map V.ref/\F.length=i/\F.Nodup/\(∀ q∈F,H q=none/\q≠u/\H2 q=some (.lst []))/\H2 u=some (.lst ys)/\aM H H2,⟨[],rfl,rfl,.nil,(λ q O=>by cases O),aD,aM.new hu⟩,?_,?_,?_⟩⟩
  ·rintro i a6 ys H2 hi ⟨F,rfl,lu,_⟩
   rw[Cy];lia
  ·rintro i a6 ys H2 hi ⟨F,rfl,lu,nd,fr,e2,s2⟩
   dsimp only[ck,fO]
   refine cX ⟨by decide,λ q Z=>?_⟩
   have a5:q≠u:=λ z=>by rw[z,e2] at Z;cases Z
   have ab:q∉F:=λ z=>by rw[(fr q z).2.2] at Z;cases Z
   refine⟨by rw[aE (Ne.symm a5)];exact e2,Nx.mk hi ⟨F++[q],by rw[CP];rfl,by rw[CA,lu];rfl,DD.mpr ⟨nd,by simp,λ a ha b hb z=>ab (by rw[Cv] at hb;rw[<- hb,<- z];exact ha)⟩,λ c hc=>?_,aD,λ c o e=>?_⟩⟩
   ·rcases CF.mp hc with hc|hc
    ·obtain⟨f1,f2,f3⟩:=fr c hc
     exact⟨f1,f2,by rw[aE f2,aE (λ z=>ab (by rw[<- z];exact hc))];exact f3⟩
    ·rw[Cv] at hc
     rw[hc]
     exact⟨s2.free Z,a5,by rw[aE a5,aD]⟩
   ·rw[aE (aF e hu),aE (aF (s2 _ _ e) Z)];exact s2 _ _ e
  rintro a6 ys H2 ⟨F,rfl,lu,nd,fr,e2,s2⟩
  have a8:=lo.same s2
  refine(sn af λ au ag=>?_:am _ _ _)
  refine⟨_,rfl,L.p,L.dx,_,rfl,a8.c.self,rfl,G,L,A,n,rfl,a8,hn,λ td H3 s3 ar ah=>?_⟩
  have tb:=lo.ta hn
  refine⟨td,_,rfl,ah,by rw[Cy];lia,λ bs ks=>?_⟩
  have nm:=um ks
  have sm:∀ x∈A.A.ta.map (·.1),Small x:=λ x hx=>by
   obtain⟨e,he,rfl⟩:=CL.mp hx
   exact tb.2 e he
  refine⟨nm.small sm,by rw[nm.vD];exact ie lo.wf.nt sm,λ l J nl p so=>?_⟩
  obtain⟨ns,n1,n2,n3⟩:=nm.sorted p so
  have s4:=aM.new (o:=.lst J) nl
  have el:=aD (H:=H3) (a:=l) (o:=.lst J)
  have a9:=n1.same s4
  have a3:=s3.trans s4
  generalize upd H3 l (.lst J)=H4 at s4 el a9 a3 ⊢
  have ae:=a3 _ _ e2
  have aq:l≠u:=λ z=>by rw[z,s3 _ _ e2] at nl;cases nl
  have aa:l∉F:=λ z=>by rw[s3 _ _ (fr l z).2.2] at nl;cases nl
  have rg:∀ x∈ns,0<=x.1/\x.1<A.many:=λ x hx=>by
   obtain⟨e,he,rfl⟩:=CL.mp (n2.mem_iff.mp hx)
   obtain⟨y,hy,ey,_⟩:=lo.lk.tp e he
   have:=lo.wf.rg y hy
   rw[<- ey];exact⟨this.1,this.2.1⟩
  have gt:∀ (i:Nat) (xs:List Nm3),i<A.many->(cE A.many xs)[i]? = some (xs.filter λ n=>decide (n.1=(i:Int))):=λ i xs hi=>by
   unfold cE
   rw[Cw,F2 hi];rfl
  have bl:∀ xs,(cE A.many xs).length=A.many:=λ xs=>by unfold cE;rw[Cy,EK]
  refine⟨l,rfl,⟨_,SqL.of el⟩,iE (xs:=J) (λ i σ H'=>Lnm H' u F (cE A.many (ns.take i))/\aM H H'/\H' l=some (.lst J)/\NmL H' J ns/\∃ o,σ=[some (.ref L.p),some (.ref u),o]) ⟨⟨ae,by rw[bl];exact lu,nd,(λ z=>(fr u z).2.1 rfl),λ i q xs h1 h2=>?_⟩,s2.trans a3,el,a9,_,rfl⟩ ?_ ?_ ?_⟩
  ·have hi:i<A.many:=by have:=(Cr.mp h2).1;rw[bl] at this;exact this
   rw[gt i _ hi] at h2
   cases h2
   exact⟨[],a3 _ _ (fr q (CB h1)).2.2,.nil⟩
  ·rintro i σ H' _ ⟨_,_,e,_⟩
   exact SqL.of e
  ·rintro i x σ H' hx ⟨Y,s',a7,U,o,rfl⟩
   have hi:i<ns.length:=by have:=(Cr.mp hx).1;rw[U.len] at this;exact this
   have W:=Cs hi
   obtain⟨b,rfl,hb⟩:=U.all x (CB hx)
   have ex:fU H' (.ref b)=ns[i]:=by
    have:=congrArg (λ z=>z[i]?) U.eq
    simp only[Cw,hx,W] at this
    exact Option.some.inj this
   rw[ex] at hb
   generalize ao:ns[i]=x0 at W hb ex
   obtain⟨g0,g1⟩:=rg x0 (CB W)
   obtain⟨h,hh⟩:=C5 g0
   have ai:h<A.many:=by lia
   obtain⟨q,O⟩:∃ q,F[h]? = some q:=⟨_,Cs (by lia)⟩
   obtain⟨ls,a4,Z⟩:=Y.at' h q _ O (gt h _ ai)
   have ad:atI (F.map V.ref) x0.1=some (.ref q):=by
    rw[hh];exact cR (by rw[Cw,O];rfl)
   have ap:ls.length<=60:=by
    rw[Z.len]
    refine CV (DI _ _) (CV (by rw[Dg];exact Nat.min_le_right _ _) ?_)
    rw[n2.length_eq,Cy];exact tb.1
   refine⟨_,rfl,_,rfl,b,_,0,.int x0.1,rfl,rfl,SqT.of hb,rfl,u,_,_,_,rfl,rfl,SqL.of Y.self,ad,.inl ⟨rfl,_,SqL.of a4⟩,_,rfl,q,ls,.ref b,rfl,rfl,a4,bh (by lia),?_⟩
   have al:u≠q:=λ z=>Y.ne (by rw[z];exact CB O)
   have tk:∀ c xs,H' c=some (.tup xs)->upd H' q (.lst (ls++[.ref b])) c=some (.tup xs):=λ c xs e=>by rw[aE (λ z=>by rw[z,a4] at e;cases e)];exact e
   refine⟨⟨by rw[aE al];exact Y.self,by rw[bl];exact lu,nd,Y.ne,λ j c xs h1 h2=>?_⟩,λ c o e=>?_,?_,U.keep tk,_,rfl⟩
   ·have hj:j<A.many:=by have:=(Cr.mp h2).1;rw[bl] at this;exact this
    rw[gt j _ hj,D7,W,Ei] at h2
    cases h2
    by_cases z:j=h
    ·subst z
     rw[O] at h1;cases h1
     refine⟨_,aD,?_⟩
     have:([x0].filter λ n=>decide (n.1=(j:Int)))=[x0]:=by rw[Fe,CG (by rw[hh];simp)];rfl
     show NmL _ _ (_++[x0].filter _)
     rw[this]
     exact(Z.snoc ⟨b,rfl,hb⟩).keep tk
    ·have:([x0].filter λ n=>decide (n.1=(j:Int)))=[]:=by rw[Fe,CD (by rw[hh];simp;lia)];rfl
     show ∃ ls,_/\NmL _ ls (_++[x0].filter _)
     rw[this,D2]
     obtain⟨aj,a1,a2⟩:=Y.at' j c _ h1 (gt j _ hj)
     have ak:c≠q:=λ y=>z ((DZ (l:=F) (by lia) nd).mp (by rw[h1,O,y]))
     exact⟨aj,by rw[aE ak];exact a1,a2.keep tk⟩
   ·rw[aE (aF e (fr q (CB O)).1)];exact s' _ _ e
   ·rw[aE (λ z=>aa (by rw[z];exact CB O))];exact a7
  ·rintro σ H' ⟨Y,s',a7,U,o,rfl⟩
   rw[n1.len,ES] at Y
   subst ag
   exact⟨_,rfl,k u F ns H' s' hu (λ q O=>(fr q O).1) Y n3 n2⟩
noncomputable def SgO (nss:List (List Nm3)) (ln:List Int) (v:V):Prop:=(∃ (h:Nat) (ns:List Nm3) (n:Nm3),v=.int h/\nss[h]? = some (ns++[n])/\bE ln h<n.2.1)\/(v=.non/\∀ (h:Nat) ns n,nss[h]? = some (ns++[n])->n.2.1<=bE ln h)
noncomputable def A0 (K:W.Frag):Sp:=λ vs H Q _=>∃ u us nss l ln,vs=[.ref u,.ref l]/\Lnm H u us nss/\SqL K H l (iV ln)/\ln.length=nss.length/\nss.length<=5/\(∀ (h:Nat) ns,nss[h]? = some ns->∀ n∈ns,n.1=(h:Int)) /\
 ∀ v H',aM H H'->SgO nss ln v->Q v H'
theorem uM (T:Txt K mg t):bq P w K mg base (CXr P w) 2 t.f_an t.fd_an ["used","line"] (A0 K):=by
 refine T.F_an.okN qB (λ vs H Q E h=>?_) (λ a4 A outer s H vs Q E hr h=>?_)
 ·obtain⟨u,us,O,l,ln,rfl,_⟩:=h;rfl
 ·obtain⟨u,us,O,l,ln,rfl,ll,hl,a6,a5,a3,k⟩:=h
  refine⟨_,(aH (cy PassesOwn.never rfl (d6 (K:=K) rfl T.no_enumerate (aJ (pv 0) aG)) (cK (K:=K) rfl (bB (aR (i:=2) qB.nd rfl (Or.inl rfl)) (bB (aR (i:=3) qB.nd rfl (Or.inl rfl)) cJ)))
    (aI (bH (PW.pt (iL (pX (K:=K) (pv 3) (λ _=>rfl)) (gK (b9 (bO (aV (vG (K:=K) T) (hr.mono (by decide)) rfl T.mg_az T.kp_az T.b_az .nil aL (aJ (pv 1) (aJ (bo (br (K:=K)) (pv 3) (oB kI aN) (λ _ _=>rfl)) aG))))))))
    (aI (aW (pv 2)))
    bp)))
   (aI (aW fV))),?_⟩
  have lu:(us.map V.ref).length=O.length:=by rw[Cy,ll.len]
  refine⟨_,rfl,u,_,rfl,SqL.of ll.self,dv (xs:=us.map V.ref) (λ i σ H'=>aM H H'/\(∀ (h:Nat) Y n,h<i->O[h]? = some (Y++[n])->n.2.1<=bE ln h)/\∃ o1 o2,σ=[some (.ref u),some (.ref l),o1,o2]) ⟨.refl _,(λ h Y n lt=>absurd lt (Nat.not_lt_zero _)),_,_,rfl⟩ ?_ ?_ ?_⟩
  ·rintro i σ H' _ ⟨s',_⟩
   exact SqL.of (s' _ _ ll.self)
  ·rintro i x p σ H1 hx np ⟨s1,Z,o1,o2,rfl⟩
   have hi:i<O.length:=by have:=(Cr.mp hx).1;rw[lu] at this;exact this
   obtain⟨q,hq,rfl⟩:∃ q,us[i]? = some q/\x=.ref q:=by
    rw[Cw] at hx
    cases e:us[i]? with
    | none=>rw[e] at hx;cases hx
    | some q=>rw[e] at hx;cases hx;exact⟨q,rfl,rfl⟩
   obtain⟨Y,J⟩:∃ Y,O[i]? = some Y:=⟨_,Cs hi⟩
   obtain⟨ls,el,nm⟩:=ll.at' i q Y hq J
   have s2:=aM.new (o:=.tup [.int i,.ref q]) np
   have F:=s1.trans s2
   refine⟨p,_,rfl,SqT.of aD,rfl,_,_,rfl,_,_,rfl,rfl,?_⟩
   generalize upd H1 p (.tup [.int i,.ref q])=H2 at s2 F ⊢
   have a2:=F _ _ el
   have W:=nm.same F
   refine⟨_,rfl,_,.inl ⟨ls,SqL.of a2,rfl⟩,dy (λ z=>?_) λ z=>?_⟩
   ·have nl:ls≠[]:=λ y=>by rw[y] at z;cases z
    obtain⟨ks,v,rfl⟩:=cY nl
    have nn:Y≠[]:=λ y=>by have:=W.len;rw[y] at this;simp at this
    obtain⟨ms,x0,rfl⟩:=cY nn
    obtain⟨b,rfl,hb⟩:=W.all v (by simp)
    have ex:fU H2 (.ref b)=x0:=by
     have:=W.eq
     rw[CP,ED] at this
     exact(Gn this rfl).2 |> λ h=>by cases h;rfl
    rw[ex] at hb
    have s0:x0.1=(i:Int):=a3 i _ J x0 (by simp)
    refine⟨_,rfl,_,rfl,1,rfl,q,_,-1,.ref b,rfl,rfl,SqL.of a2,fi,l,b,ln,x0,rfl,F.seq hl,hb,by lia,by lia,_,rfl,dy (λ y=>?_) λ y=>?_⟩
    ·have y':bE ln (i:Int)<x0.2.1:=by
      rw[s0] at y
      simpa using y
     exact⟨_,rfl,k _ H2 F (.inl ⟨i,ms,x0,rfl,J,y'⟩)⟩
    ·refine⟨F,λ h a1 n' lt U=>?_,_,_,rfl⟩
     by_cases e:h=i
     ·subst e
      rw[J] at U
      have:=Gn (Option.some.inj U) rfl
      have e2:x0=n':=by have:=this.2;cases this;rfl
      rw[<- e2]
      rw[s0] at y
      simpa using y
     ·exact Z h a1 n' (by lia) U
   ·refine bT rfl ⟨F,λ h a1 n' lt U=>?_,_,_,rfl⟩
    by_cases e:h=i
    ·subst e
     rw[J] at U
     have e1:=Option.some.inj U
     have:=W.len
     rw[e1] at this
     have:ls≠[]:=λ y=>by rw[y] at this;simp at this
     exact absurd (by cases ls with|nil=>exact absurd rfl this|cons _ _=>rfl) z
    ·exact Z h a1 n' (by lia) U
  ·rintro σ H' ⟨s',Z,o1,o2,rfl⟩
   exact k _ H' s' (.inr ⟨rfl,λ h Y n U=>Z h Y n (by rw[lu];exact(Cr.mp U).1) U⟩)
noncomputable def AlY (T:ThA) (st:Prop) (y:Int):Prop:=T.pt y\/(st/\y=T.evs.length)
noncomputable def AlW (A:LoA) (fs:List Int) (s:List Int):Prop:=s.length=A.many/\∀ (i:Nat) T y,A.ths[i]? = some T->s[i]? = some y->AlY T ((i:Int)∉fs) y
noncomputable def Gl (A:LoA) (fs:List Int) (ln:List Int):Prop:=AlW A fs ln/\ky (bE ln) A.A/\∀ s,AlW A fs s->ky (bE s) A.A->∀ i:Nat,i<A.many->bE s i<=bE ln i
theorem hU {ta:List (Nm3×Int)}(J:(ta.map (·.1)).Nodup) {l F:Nm3×Int}(h:l∈ta) (h':F∈ta) (e:l.1=F.1):l=F:=lZ J h h' e
structure Iv (A:LoA) (fs:List Int) (xss:List (List Int)) (nss:List (List Nm3)):Prop where
 lx:xss.length=A.many
 ln:nss.length=A.many
 p1:∀ (i:Nat) xs,xss[i]? = some xs->xs≠[]/\xs.Pairwise (· < ·)
 pa:∀ (i:Nat) T xs,A.ths[i]? = some T->xss[i]? = some xs->∀ y∈xs,AlY T ((i:Int)∉fs) y
 p2:∀ s,AlW A fs s->ky (bE s) A.A->∀ (i:Nat) xs,xss[i]? = some xs->bE s i∈xs
 n1:∀ (h:Nat) ns,nss[h]? = some ns->pN ns/\∀ n∈ns,n.1=(h:Int)/\n∈A.A.ta.map (·.1)
 n2:∀ e∈A.A.ta,(∃ ns,nss[e.1.1.toNat]? = some ns/\e.1∈ns)\/∀ l∈A.A.po,l.nm=e.1->bE (xss.map cD) l.to<e.2
theorem oh (h:xs≠[]):cD xs∈xs:=by
 obtain⟨ys,y,rfl⟩:=cY h
 rw[gX];simp
theorem kr (p:xs.Pairwise (· < ·)) (h:y∈xs):y<=cD xs:=by
 obtain⟨ys,z,rfl⟩:=cY (xs:=xs) (λ e=>by rw[e] at h;cases h)
 rw[gX]
 rcases CF.mp h with h|h
 ·have:=(DL.mp p).2.2 y h z (by simp);lia
 ·rw[Cv] at h;lia
theorem bZ {F:List Int}{i:Nat}{y:Int}(h:F[i]? = some y):bE F i=y:=by
 unfold bE;rw[Dm,h];rfl
theorem iM {xss:List (List Int)}{i:Nat}{xs:List Int}(h:xss[i]? = some xs):bE (xss.map cD) i=cD xs:=bZ (by rw[Cw,h];rfl)
section
variable {A:LoA}{fs:List Int}{xss:List (List Int)}{nss:List (List Nm3)}
theorem Iv.done (v:Iv A fs xss nss) (wf:WfD A.many (cnt A.ths) A.A) (sm:∀ e∈A.A.ta,Small e.1) (h:∀ (h:Nat) ns n,nss[h]? = some (ns++[n])->n.2.1<=bE (xss.map cD) h):Gl A fs (xss.map cD):=by
 refine⟨⟨by rw[Cy];exact v.lx,λ i T y hT hy=>?_⟩,λ l hl e Z Y hu=>?_,λ s aw sd i hi=>?_⟩
 ·rw[Cw] at hy
  obtain⟨xs,e,rfl⟩:=Df.mp hy
  exact v.pa i T _ hT e _ (oh (v.p1 i xs e).1)
 ·rcases v.n2 e Z with ⟨ns,F,J⟩|V
  ·have r:=wf.rg l hl
   rw[<- Y] at r ⊢
   obtain⟨k,hk⟩:=C5 r.1
   rw[hk,Dm] at F
   obtain⟨a1,W⟩:=v.n1 k ns F
   obtain⟨ms,m,rfl⟩:=cY (xs:=ns) (λ z=>by rw[z] at J;cases J)
   have h1:=h k ms m F
   rw[hk]
   rcases CF.mp J with q|q
   ·have V:=(DL.mp a1).2.2 e.1 q m (by simp)
    have s1:=(W e.1 J).1
    have s2:=W m (by simp)
    obtain⟨e',O,em⟩:=CL.mp s2.2
    have q1:=sm e Z
    have q2:=sm e' O
    rw[em] at q2
    have s3:=s2.1
    unfold cd3 at V
    unfold Small at q1 q2
    lia
   ·rw[Cv] at q
    rw[q];exact h1
  ·have:=V l hl Y.symm
   lia
 ·obtain⟨xs,U⟩:∃ xs,xss[i]? = some xs:=⟨_,Cs (by rw[v.lx];exact hi)⟩
  rw[iM U]
  exact kr (v.p1 i xs U).2 (v.p2 s aw sd i xs U)
theorem Iv.pop (v:Iv A fs xss nss) (W:nss[h]? = some (ns++[n])) (no:∀ e∈A.A.ta,e.1=n->∀ l∈A.A.po,l.nm=n->bE (xss.map cD) l.to<e.2):Iv A fs xss (nss.set h ns):=by
 have F:=(Cr.mp W).1
 obtain⟨a1,a2⟩:=v.n1 h _ W
 refine⟨v.lx,by rw[EG];exact v.ln,v.p1,v.pa,v.p2,λ k Y V=>?_,λ e Z=>?_⟩
 ·rcases dE F V with ⟨rfl,rfl⟩|⟨_,V⟩
  ·exact⟨(DL.mp a1).1,λ m J=>a2 m (Dd _ J)⟩
  ·exact v.n1 k Y V
 ·by_cases U:e.1=n
  ·exact .inr (by rw[U];exact no e Z U)
  ·rcases v.n2 e Z with ⟨Y,J,O⟩|lt
   ·refine .inl ?_
    by_cases z:h=e.1.1.toNat
    ·rw[<- z,W] at J
     cases J
     refine⟨ns,by rw[<- z];exact CU F,?_⟩
     rcases CF.mp O with q|q
     ·exact q
     ·exact absurd (Cv.mp q) U
    ·exact⟨Y,by rw[C6 z];exact J,O⟩
   ·exact .inr lt
theorem Iv.ahead {e:Nm3×Int}{l:cF}{k:Nat}{xs:List Int}(v:Iv A fs xss nss) (wf:WfD A.many (cnt A.ths) A.A) (he:e∈A.A.ta) (Y:l∈A.A.po) (V:l.nm=e.1)
  (hk:l.to=(k:Int)) (hx:xss[k]? = some xs) (J:¬ e.1.2.1<=bE (xss.map cD) e.1.1) {s:List Int} (U:AlW A fs s) (O:ky (bE s) A.A):bE s k∈xs.filter λ y=>decide (y<e.2):=by
 refine Dj.mpr ⟨v.p2 s U O k _ hx,?_⟩
 rw[Em]
 refine Int.lt_of_not_ge λ ge=>?_
 have s1:=O l Y e he V.symm (by rw[hk];exact ge)
 have Z:=wf.rg l Y
 rw[V] at Z s1
 obtain⟨j,W⟩:=C5 Z.1
 obtain⟨zs,F⟩:∃ zs,xss[j]? = some zs:=⟨_,Cs (by rw[v.lx];omega)⟩
 have:=kr (v.p1 j zs F).2 (v.p2 s U O j zs F)
 rw[W,iM F] at J
 rw[W] at s1
 omega
theorem Iv.step {h:Nat}{ns:List Nm3}{e:Nm3×Int}{l:cF}{k:Nat}{xs:List Int}(v:Iv A fs xss nss) (wf:WfD A.many (cnt A.ths) A.A) (he:e∈A.A.ta) (hl:l∈A.A.po) (el:l.nm=e.1) (hn:nss[h]? = some (ns++[e.1]))
  (hk:l.to=(k:Int)) (hx:xss[k]? = some xs) (nsn:¬ e.1.2.1<=bE (xss.map cD) e.1.1) {s0:List Int} (aw0:AlW A fs s0) (sd0:ky (bE s0) A.A):Iv A fs (xss.set k (xs.filter λ y=>decide (y<e.2))) (nss.set h ns):=by
 have klt:=(Cr.mp hx).1
 obtain⟨_,asc⟩:=v.p1 k xs hx
 have ne':xs.filter (λ y=>decide (y<e.2))≠[]:=EC (v.ahead wf he hl el hk hx nsn aw0 sd0)
 have tm':=Dj.mp (oh ne')
 have tle:∀ (x:Int),bE ((xss.set k (xs.filter λ y=>decide (y<e.2))).map cD) x<=bE (xss.map cD) x:=λ x=>by
  by_cases z:x.toNat=k
  ·unfold bE
   rw[z,Cw,Cw,CU klt,hx]
   simp only[Fj,Option.getD_some]
   exact kr asc tm'.1
  ·unfold bE
   rw[Cw,Cw,C6 (Ne.symm z)]
   exact Dk _
 have v':Iv A fs (xss.set k (xs.filter λ y=>decide (y<e.2))) nss:=by
  refine⟨by rw[EG];exact v.lx,v.ln,λ i ys hi=>?_,λ i T ys hT hi y hy=>?_,λ s aw sd i ys hi=>?_,v.n1,λ d hd=>?_⟩
  ·rcases dE klt hi with ⟨rfl,rfl⟩|⟨_,hi⟩
   ·exact⟨ne',asc.filter _⟩
   ·exact v.p1 i ys hi
  ·rcases dE klt hi with ⟨rfl,rfl⟩|⟨_,hi⟩
   ·exact v.pa i T _ hT hx y (Dj.mp hy).1
   ·exact v.pa i T ys hT hi y hy
  ·rcases dE klt hi with ⟨rfl,rfl⟩|⟨_,hi⟩
   ·exact v.ahead wf he hl el hk hx nsn aw sd
   ·exact v.p2 s aw sd i ys hi
  ·exact(v.n2 d hd).imp id λ lt l' hl' el'=>Int.lt_of_le_of_lt (tle _) (lt l' hl' el')
 refine v'.pop hn λ d hd en l' hl' el'=>?_
 have:d=e:=hU wf.nt hd he en
 have e2:l'=l:=dj wf.nd hl' hl (el'.trans el.symm)
 rw[this,e2,hk,iM (CU klt)]
 exact Dr tm'.2
theorem sum_set:∀ {nss:List (List Nm3)}{h:Nat}{ns:List Nm3}{n:Nm3},nss[h]? = some (ns++[n])->((nss.set h ns).map List.length).sum<(nss.map List.length).sum
 | [],h,_,_,e=>by simp at e
 | x::r,0,ns,n,e=>by
  have F:x=ns++[n]:=by simpa using e
  rw[F]
  simp
 | x::r,h+1,ns,n,e=>by
  have:=sum_set (nss:=r) (h:=h) (by simpa using e)
  simp at this ⊢
  exact this
theorem AlO.iff {T:ThA}{fs xs:List Int}{i:Nat}(h:AlO T (decide ((i:Int)∉fs)) xs) (y:Int):y∈xs↔AlY T ((i:Int)∉fs) y:=by
 rw[h.2 y];unfold AlY;simp
theorem Iv.start {ns:List Nm3}{n:Nat}(lt:A.ths.length=A.many) (tw:∀ T∈A.ths,TWf n T) (wf:WfD A.many (cnt A.ths) A.A) (lk:Lk A.ths A.A) (lx:xss.length=A.many) (O:∀ (i:Nat) T xs,A.ths[i]? = some T->xss[i]? = some xs->AlO T (decide ((i:Int)∉fs)) xs) (as:pN ns) (pm:ns.Perm (A.A.ta.map (·.1))) :
  Iv A fs xss (cE A.many ns):=by
 have th:∀ {i:Nat} {xs},xss[i]? = some xs->∃ T,A.ths[i]? = some T/\TWf n T/\AlO T (decide ((i:Int)∉fs)) xs:=λ{i xs} h=>by
  have hi:=(Cr.mp h).1
  have e:=Cs (l:=A.ths) (i:=i) (by lia)
  exact⟨_,e,tw _ (CB e),O i _ xs e h⟩
 have W:∀ (i:Nat),i<A.many->(cE A.many ns)[i]? = some (ns.filter λ n=>decide (n.1=(i:Int))):=λ i hi=>by
  unfold cE
  rw[Cw,F2 hi];rfl
 have V:(cE A.many ns).length=A.many:=by unfold cE;rw[Cy,EK]
 refine⟨lx,V,λ i xs h=>?_,λ i T xs J h y hy=>((O i T xs J h).iff y).mp hy,λ s U _ i xs h=>?_,λ k ms h=>?_,λ e Y=>.inl ?_⟩
 ·obtain⟨T,J,w,a⟩:=th h
  obtain⟨w0,ws,ew,_⟩:=w.hd
  exact⟨EC ((a.2 w0).mpr (.inl ⟨w0,by rw[ew];exact CJ,.inl rfl⟩)),a.1⟩
 ·obtain⟨T,J,w,a⟩:=th h
  have hi:=(Cr.mp h).1
  have e:=Cs (l:=s) (i:=i) (by rw[U.1];lia)
  rw[bZ e]
  exact(a.iff _).mpr (U.2 i T _ J e)
 ·have F:=(Cr.mp h).1
  rw[V] at F
  rw[W k F] at h
  cases h
  exact⟨List.Pairwise.filter _ as,λ m Z=>⟨Dr (Dj.mp Z).2,pm.mem_iff.mp (Dj.mp Z).1⟩⟩
 ·obtain⟨l,hl,el,_⟩:=lk.tp e Y
  have r:=wf.rg l hl
  rw[el] at r
  obtain⟨k,F⟩:=C5 r.1
  refine⟨_,by rw[F,Dm];exact W k (by lia),Dj.mpr ⟨pm.mem_iff.mpr (CN Y),by rw[F];simp⟩⟩
end
theorem vL:∀ (ns:List Nm3) {k:Nat},ns.length<=k->((cE m ns).map List.length).sum<=k:=λ ns k h=>by
 refine CV ?_ h
 unfold cE
 rw[Ds]
 clear h
 induction ns with
 | nil=>
  have:∀ j:Nat,((List.range j).map (List.length ∘ λ h:Nat=>([]:List Nm3).filter λ n=>decide (n.1=(h:Int)))).sum=0:=λ j=>by
   induction j with
   | zero=>rfl
   | succ j O=>rw[Gs,CP,Gr,O];rfl
  rw[this m];exact Dq _
 | cons x r O=>
  have J:∀ j:Nat,((List.range j).map (List.length ∘ λ h:Nat=>(x::r).filter λ n=>decide (n.1=(h:Int)))).sum<=((List.range j).map (List.length ∘ λ h:Nat=>r.filter λ n=>decide (n.1=(h:Int)))).sum+(if 0<=x.1/\x.1<j then 1 else 0):=λ j=>by
   induction j with
   | zero=>simp
   | succ j F=>
    rw[Gs,CP,CP,Gr,Gr]
    simp only[Dc,Gh,List.sum_cons,List.sum_nil,Function.comp,Nat.add_zero]
    rw[Fe]
    by_cases e:x.1=(j:Int)
    ·rw[CG (by rw[Em];exact e),Dh,CG (by lia)]
     rw[CD (by lia)] at F
     lia
    ·rw[CD (by rw[Em];exact e)]
     by_cases q:0<=x.1/\x.1<j
     ·rw[CG q] at F
      rw[CG (by lia)]
      lia
     ·rw[CD q] at F
      rw[CD (by lia)]
      lia
  refine CV (J m) ?_
  rw[Dh]
  split<;>lia
theorem kept (J:H x=some (.lst ys)) (F:But [x] H H'):∀ c o,H c=some o->(∀ zs,o≠.lst zs)->H' c=some o:=λ c o h n=>F c o (by rw[Cv];exact λ z=>by rw[z,J] at h;exact n _ (Option.some.inj h).symm) h
theorem De.but (h:De t H D A xss) (V:H x=some (.lst ys)) (J:But [x] H H') (W:x≠D.al) (Y:x∉D.qs):De t H' D A xss:=by
 have F:=kept V J
 have O:∀ c,c≠x->c∉[x]:=λ c n=>by rw[Cv];exact n
 exact⟨F _ _ h.self (λ _ z=>by cases z),F _ _ h.po (λ _ z=>by cases z),F _ _ h.ta (λ _ z=>by cases z),⟨J _ _ (O _ (Ne.symm W)) h.lls.self,h.lls.len,h.lls.nd,h.lls.ne,λ i q xs a b=>J _ _ (O _ (λ z=>Y (by rw[<- z];exact CB a))) (h.lls.at' i q xs a b)⟩,λ l U=>F _ _ (h.lets l U) (λ _ z=>by cases z)⟩
theorem De.set (h:De t H D A xss) (F:D.qs[k]? = some q) (U:xss[k]? = some xs) (O:But [q] H H') (e:H' q=some (.lst (iV xs'))):De t H' D A (xss.set k xs'):=by
 have J:=kept (h.lls.at' k q xs F U) O
 have V:∀ c,c≠q->c∉[q]:=λ c n=>by rw[Cv];exact n
 refine⟨J _ _ h.self (λ _ z=>by cases z),J _ _ h.po (λ _ z=>by cases z),J _ _ h.ta (λ _ z=>by cases z),⟨O _ _ (V _ (λ z=>h.lls.ne (by rw[z];exact CB F))) h.lls.self,by rw[EG];exact h.lls.len,h.lls.nd,h.lls.ne,λ i c ys a b=>?_⟩,λ l W=>J _ _ (h.lets l W) (λ _ z=>by cases z)⟩
 by_cases z:k=i
 ·subst z
  rw[CU (Cr.mp U).1] at b
  cases b
  rw[F] at a;cases a
  exact e
 ·rw[C6 z] at b
  refine O _ _ (V _ λ y=>z ?_) (h.lls.at' i c ys a b)
  exact(DZ (l:=D.qs) (Cr.mp F).1 h.lls.nd).mp (by rw[F,a,y])
theorem Lnm.but (h:Lnm H l qs nss) (O:H x=some (.lst ys)) (F:But [x] H H') (W:x≠l) (Y:x∉qs):Lnm H' l qs nss:=by
 have U:=kept O F
 have J:∀ c,c≠x->c∉[x]:=λ c n=>by rw[Cv];exact n
 refine⟨F _ _ (J _ (Ne.symm W)) h.self,h.len,h.nd,h.ne,λ i q Z a b=>?_⟩
 obtain⟨V,e,nm⟩:=h.at' i q Z a b
 exact⟨V,F _ _ (J _ (λ z=>Y (by rw[<- z];exact CB a))) e,nm.keep λ c xs e=>U _ _ e (λ _ z=>by cases z)⟩
theorem NmL.last (h:NmL H (ls++[v]) (ns++[n])):NmL H ls ns/\fY H v n:=by
 have e:=h.eq
 rw[CP,ED] at e
 have F:=Gn e rfl
 have J:fU H v=n:=by have:=F.2;cases this;rfl
 exact⟨⟨F.1,λ u O=>h.all u (Dd _ O)⟩,by rw[<- J];exact h.all v (by simp)⟩
theorem Lnm.pop (h:Lnm H l qs nss) (F:qs[k]? = some q) (Y:nss[k]? = some (ns++[n])) (Z:H q=some (.lst (ls++[v]))) (nm:NmL H (ls++[v]) (ns++[n])) (J:But [q] H H') (e:H' q=some (.lst ls)):Lnm H' l qs (nss.set k ns):=by
 have kd:=kept Z J
 have U:∀ c,c≠q->c∉[q]:=λ c n=>by rw[Cv];exact n
 have tk:∀ c xs,H c=some (.tup xs)->H' c=some (.tup xs):=λ c xs e=>kd _ _ e (λ _ z=>by cases z)
 refine⟨J _ _ (U _ (λ z=>h.ne (by rw[z];exact CB F))) h.self,by rw[EG];exact h.len,h.nd,h.ne,λ i c ms a b=>?_⟩
 by_cases z:k=i
 ·subst z
  rw[CU (Cr.mp Y).1] at b
  cases b
  rw[F] at a;cases a
  exact⟨ls,e,nm.last.1.keep tk⟩
 ·rw[C6 z] at b
  obtain⟨O,V,W⟩:=h.at' i c ms a b
  refine⟨O,J _ _ (U _ λ y=>z ?_) V,W.keep tk⟩
  exact(DZ (l:=qs) (Cr.mp F).1 h.nd).mp (by rw[F,a,y])
noncomputable def bsL (A:LoA):List Int:=(List.range A.many).map λ i:Nat=>A.b i
theorem mV {A:LoA}{i:Nat}(h:i<A.many):(bsL A)[i]? = some (A.b i):=by
 unfold bsL
 rw[Cw,F2 h];rfl
theorem Lo.bsl {G H:Hp}{L:LoL}{A:LoA}{n:Nat}(lo:Lo K t G H L A n) (fs:List Int):AlW A fs (bsL A)/\ky (bE (bsL A)) A.A:=by
 have F:∀ x:Int,0<=x->x<A.many->bE (bsL A) x=A.b x:=λ x h0 h1=>by
  obtain⟨i,rfl⟩:=C5 h0
  exact bZ (mV (by omega))
 refine⟨⟨by unfold bsL;rw[Cy,EK],λ i T y J U=>?_⟩,λ l O e Y W V=>?_⟩
 ·have hi:=(Cr.mp J).1
  rw[lo.c.len2] at hi
  rw[mV hi] at U;cases U
  exact .inl (lo.pts i T J)
 ·have r:=lo.wf.rg l O
  rw[F _ r.2.2.2.2.2.2.1 r.2.2.2.2.2.2.2] at V
  rw[F _ r.1 r.2.1]
  exact lo.snd l O e Y W V
noncomputable def A9 (K:W.Frag) (t:Adr):Sp:=λ vs H Q _=>∃ G L A n f fs,vs=[.ref L.p,.ref f]/\Lo K t G H L A n/\n<=30/\SqL K H f (iV fs) /\
 ∀ p l pa ln ls ns H',aM H H'->H l=none->H' p=some (.tup [.ref l,.ref pa])->H' l=some (.lst (iV ln))->H' pa=some (.lst ls)->NmL H' ls ns->Gl A fs ln->Q (.ref p) H'
theorem oM (T:Txt K mg t):bq P w K mg base (CXr P w) 7 t.f_bg t.fd_bg ["loom","fallen"] (A9 K t):=by
 refine T.F_bg.okN i7 (λ vs H Q E h=>?_) (λ cdv A outer s H vs Q E hr h=>?_)
 ·obtain⟨G,L,A,n,f,fs,rfl,_⟩:=h;rfl
 ·obtain⟨G,L,A,n,f,fs,rfl,lo,hn,hf,k⟩:=h
  refine⟨_,(aH (aY (i:=2) i7.nd rfl (Or.inl rfl) (dI T.mk_Descent (AJ (K:=K) T) (hr.mono (by decide)) rfl T.mg_Descent T.b_bo .nil aL (aJ (pv 0) (aJ (pv 1) aG))))
   (aH (aY (i:=3) i7.nd rfl (Or.inl rfl) (aV (zq (K:=K) T) (hr.mono (by decide)) rfl T.mg_bq T.kp_bq T.b_bq .nil aL (aJ (pv 0) aG)))
   (aH (aY (i:=4) i7.nd rfl (Or.inl rfl) (cV aG))
   (aH (aY (i:=5) i7.nd rfl (Or.inl rfl) (aV (uM (K:=K) T) (hr.mono (by decide)) rfl T.mg_an T.kp_an T.b_an .nil aL (aJ (pv 3) (aJ (bc (pv 2) T.cl_Descent T.me_as (oT (K:=K) T) (hr.mono (by decide)) T.b_as .nil aL) aG))))
   (aH (lM PassesOwn.never (bj j8 (pv 5) fV (bx _))
    (aH (aY (i:=6) i7.nd rfl (Or.inl rfl) (oW (K:=K) Dl PySem.F.slot_list_pop PySem.F.type_list_pop rF (bo (br (K:=K)) (pv 3) (pv 5) (λ _ _=>rfl))))
   (aH (bH (bO (aX (pv 2) T.cl_Descent T.me_ad (AE (K:=K) T) (hr.mono (by decide)) T.b_ad .nil aL (aJ (pv 6) aG)))
    (aH (bH (b9 (bO (aX (pv 2) T.cl_Descent T.me_am (xt (K:=K) T) (hr.mono (by decide)) T.b_am .nil aL (aJ (pv 6) aG))))
    (aI gG)
    bp)
   (aH (aZ (aX (pv 2) T.cl_Descent T.me_bp (BS (K:=K) T) (hr.mono (by decide)) T.b_bp .nil aL (aJ (pv 6) aG)))
   (aI (aZ (cW (K:=K) Dl Dy Dx bU (pv 4) (aJ (pv 6) aG))))))
    bp)
   (aI (aY (i:=5) i7.nd rfl (Or.inl rfl) (aV (uM (K:=K) T) (hr.mono (by decide)) rfl T.mg_an T.kp_an T.b_an .nil aL (aJ (pv 3) (aJ (bc (pv 2) T.cl_Descent T.me_as (oT (K:=K) T) (hr.mono (by decide)) T.b_as .nil aL) aG))))))))
   (aI (aW (cB (aJ (bc (pv 2) T.cl_Descent T.me_as (oT (K:=K) T) (hr.mono (by decide)) T.b_as .nil aL) (aJ (pv 4) aG)))))))))),?_⟩
  refine sq λ rr1 ee1=>?_
  have m2:=lo.m2
  have tb:=lo.ta hn
  have sm:=tb.2
  obtain⟨aw0,sd0⟩:=lo.bsl fs
  refine⟨_,rfl,_,rfl,λ d dx nd ndx nex=>?_⟩
  have s1:=aM.ins (o:=.ins t.c_Descent dx []) nd ndx
  refine⟨H,G,L,A,n,f,fs,d,dx,rfl,s1,nd,aD,lo,hn,hf,λ D xss H2 ed s2 fq de lx al=>⟨rfl,?_⟩⟩
  refine(sn ee1 λ rr2 ee2=>?_:rr1 _ _ _)
  subst ed
  refine⟨_,rfl,G,L,A,n,rfl,lo.same s2,hn,λ u us ns H3 s3 nu fus ll as pm=>?_⟩
  refine(sn ee2 λ rr3 ee3=>?_:rr2 _ _ _)
  have iv:=Iv.start lo.c.len2 lo.tw lo.wf lo.lk lx al as pm
  have l90:((cE A.many ns).map List.length).sum<=90:=vL ns (by rw[pm.length_eq,Cy];have:=tb.1;omega)
  have de3:=de.same s3
  refine⟨by decide,λ pa npa=>?_⟩
  have s4:=aM.new (o:=.lst []) npa
  have epa:=aD (H:=H3) (a:=pa) (o:=.lst [])
  generalize upd H3 pa (.lst [])=H4 at s4 epa ⊢
  have de4:=de3.same s4
  have ll4:=ll.same s4
  have s04:=(s2.trans s3).trans s4
  have npa0:H pa=none:=(s2.trans s3).free npa
  have nus:∀ q∈us,q∉D.qs/\q≠D.al/\H q=none:=λ q hq=>by
   have h:=fus q hq
   refine⟨λ z=>?_,λ z=>?_,s2.free h⟩
   ·obtain⟨j,hj,e⟩:=C1 z
    have:=de.lls.at' j q _ (by rw[<- e];exact Cs hj) (Cs (by rw[<- de.lls.len];exact hj))
    rw[h] at this;cases this
   ·rw[z,de.lls.self] at h;cases h
  have uqs:u∉D.qs/\u≠D.al:=by
   refine⟨λ z=>?_,λ z=>?_⟩
   ·obtain⟨j,hj,e⟩:=C1 z
    have:=de.lls.at' j u _ (by rw[<- e];exact Cs hj) (Cs (by rw[<- de.lls.len];exact hj))
    rw[nu] at this;cases this
   ·rw[z,de.lls.self] at nu;cases nu
  have paq:pa∉D.qs/\pa≠D.al/\pa∉us/\pa≠u:=by
   refine⟨λ z=>?_,λ z=>?_,λ z=>?_,λ z=>?_⟩
   ·obtain⟨j,hj,e⟩:=C1 z
    have:=de3.lls.at' j pa _ (by rw[<- e];exact Cs hj) (Cs (by rw[<- de.lls.len];exact hj))
    rw[npa] at this;cases this
   ·rw[z,de3.lls.self] at npa;cases npa
   ·obtain⟨j,hj,e⟩:=C1 z
    obtain⟨ls,this,_⟩:=ll.at' j pa _ (by rw[<- e];exact Cs hj) (Cs (by rw[<- ll.len];exact hj))
    rw[npa] at this;cases this
   ·rw[z,ll.self] at npa;cases npa
  have nex':∀ {xss:List (List Int)} {nss:List (List Nm3)},Iv A fs xss nss->∀ xs∈xss,xs≠[]:=λ{xss nss} v xs hx=>by
   obtain⟨i,hi,e⟩:=C1 hx
   exact(v.p1 i xs (by rw[<- e];exact Cs hi)).1
  have snd:∀ {xss:List (List Int)} {nss:List (List Nm3)},Iv A fs xss nss->∀ (h:Nat) ns,nss[h]? = some ns->∀ n∈ns,n.1=(h:Int):=λ{xss nss} v h ns e n hn=>((v.n1 h ns e).2 n hn).1
  refine(sn ee3 λ rr4 ee4=>?_:rr3 _ _ _)
  refine⟨_,rfl,_,rfl,D.d,D.dx,_,rfl,de4.self,rfl,D,A.A,xss,rfl,de4,by omega,nex' iv,λ l5 H5 s5 nl5 el5=>?_⟩
  refine⟨u,us,_,l5,xss.map cD,rfl,ll4.same s5,SqL.of el5,by rw[Cy,iv.lx,iv.ln],by rw[iv.ln];omega,snd iv,λ sv H6 s6 sg=>?_⟩
  have s46:=s5.trans s6
  refine(sn ee4 λ rr5 ee5=>?_:rr4 _ _ _)
  refine⟨λ m σ H'=>∃ xss nss ls ns' v o,m=(nss.map List.length).sum/\Iv A fs xss nss/\De t H' D A.A xss/\Lnm H' u us nss/\H' pa=some (.lst ls)/\NmL H' ls ns'/\ls.length+(nss.map List.length).sum<=90/\aM H H'/\SgO nss (xss.map cD) v/\σ=[some (.ref L.p),some (.ref f),some (.ref D.d),some (.ref u),some (.ref pa),some v,o],⟨_,xss,_,[],[],sv,_,rfl,iv,de4.same s46,ll4.same s46,s46 _ _ epa,.nil,by simpa using l90,s04.trans s46,sg,rfl⟩,?_⟩
  rintro m σ H7 ⟨xss,nss,ls,ns',v,o,rfl,iv,de,ll,hpa,nmp,l90,s7,sg,rfl⟩
  refine⟨_,rfl,rfl,_,rfl,dy (λ z=>?_) λ z=>?_⟩
  ·rcases sg with ⟨h,ms,x,rfl,hh,lt⟩|⟨rfl,_⟩
   rotate_left
   ·exact absurd z (by decide)
   have hlt:h<A.many:=by have:=(Cr.mp hh).1;rw[iv.ln] at this;exact this
   obtain⟨q,hq⟩:∃ q,us[h]? = some q:=⟨_,Cs (by rw[ll.len,iv.ln];exact hlt)⟩
   obtain⟨ls1,eq1,nm1⟩:=ll.at' h q _ hq hh
   have nl1:ls1≠[]:=λ y=>by have:=nm1.len;rw[y] at this;simp at this
   obtain⟨ks,w0,rfl⟩:=cY nl1
   obtain⟨b,rfl,hb⟩:=nm1.last.2
   obtain⟨e,he,ee⟩:=CL.mp ((iv.n1 h _ hh).2 x (by simp)).2
   have xh:x.1=(h:Int):=snd iv h _ hh x (by simp)
   have qin:=CB hq
   have atq:atI (us.map V.ref) (h:Int)=some (.ref q):=cR (by rw[Cw,hq];rfl)
   refine⟨λ σ2 H2=>∃ m',m'<(nss.map List.length).sum/\∃ xss nss ls ns' v o,m'=(nss.map List.length).sum/\Iv A fs xss nss/\De t H2 D A.A xss/\Lnm H2 u us nss/\H2 pa=some (.lst ls)/\NmL H2 ls ns'/\ls.length+(nss.map List.length).sum<=90/\aM H H2/\SgO nss (xss.map cD) v/\σ2=[some (.ref L.p),some (.ref f),some (.ref D.d),some (.ref u),some (.ref pa),some v,o],λ _ _ h=>h,?_⟩
   refine⟨_,rfl,_,rfl,u,_,_,_,rfl,rfl,SqL.of ll.self,atq,.inl ⟨rfl,_,SqL.of eq1⟩,q,_,.ref b,rfl,rfl,eq1,by rw[CA,CY,Nat.add_sub_cancel,C3 (Nat.le_refl _),Eb];rfl,?_⟩
   rw[List.dropLast_concat]
   have b8:But [q] H7 (upd H7 q (.lst ks)):=λ c o n e=>by rw[aE (by simpa using n)];exact e
   have eq8:=aD (H:=H7) (a:=q) (o:=.lst ks)
   generalize upd H7 q (.lst ks)=H8 at b8 eq8 ⊢
   have kd8:=kept eq1 b8
   have tk8:∀ c xs,H7 c=some (.tup xs)->H8 c=some (.tup xs):=λ c xs e=>kd8 _ _ e (λ _ z=>by cases z)
   have de8:=de.but eq1 b8 (nus q qin).2.1 (nus q qin).1
   have ll8:=ll.pop hq hh eq1 nm1 b8 eq8
   have hpa8:H8 pa=some (.lst ls):=b8 _ _ (by rw[Cv];exact λ z=>paq.2.2.1 (by rw[z];exact qin)) hpa
   have nmp8:=nmp.keep tk8
   have hb8:=tk8 _ _ hb
   have s8:aM H H8:=λ c o e=>b8 _ _ (by rw[Cv];exact aF e (nus q qin).2.2) (s7 _ _ e)
   have sms:=sum_set hh
   rw[<- ee] at hb8
   have few:xss.length<=5:=by rw[iv.lx];omega
   obtain⟨l,hl,el,_⟩:=lo.lk.tp e he
   have r:=lo.wf.rg l hl
   have db8:DeB t H8 D A.A xss A.many b e l:=⟨de8,lo.wf.nd,lo.wf.nt,iv.lx,m2.2,nex' iv,he,hl,el,by rw[<- el];exact⟨r.1,r.2.1⟩,r.2.2.2.2.2.2,hb8⟩
   refine tm (.n rfl) de8.self rfl (.cons (.n rfl) .nil) ⟨D,A.A,xss,A.many,b,e,l,rfl,db8,λ H9 s9=>⟨_,rfl,dy (λ z2=>?_) λ z2=>?_⟩⟩
   ·have us':e.2<=bE (xss.map cD) l.to/\¬ e.1.2.1<=bE (xss.map cD) e.1.1:=by
     rw[Dt,Bool.not_eq_true',C9,FD] at z2;exact z2
    obtain⟨j,hj⟩:=C5 r.2.2.2.2.2.2.1
    have jlt:j<A.many:=by omega
    obtain⟨xs,hx⟩:∃ xs,xss[j]? = some xs:=⟨_,Cs (by rw[iv.lx];exact jlt)⟩
    obtain⟨ne0,asc⟩:=iv.p1 j xs hx
    have ah:=iv.ahead lo.wf he hl el hj hx us'.2 aw0 sd0
    have iv11:=iv.step lo.wf he hl el (by rw[ee];exact hh) hj hx us'.2 aw0 sd0
    obtain⟨x0,r0,rfl⟩:=List.exists_cons_of_ne_nil ne0
    have x0lt:x0<e.2:=by
     have h1:=(Dj.mp ah)
     have h2:=Dr h1.2
     rcases Cz.mp h1.1 with y|y
     ·omega
     ·have:=(Fs.mp asc).1 _ y;omega
    obtain⟨qk,hqk⟩:∃ q,D.qs[j]? = some q:=⟨_,Cs (by rw[de8.lls.len,iv.lx];exact jlt)⟩
    have tj:l.to.toNat=j:=by rw[hj,Dm]
    have db9:=db8.same s9
    have de9:=db9.de
    have hb9:=db9.hb
    have qkin:=CB hqk
    refine tm (.n rfl) de9.self rfl (.cons (.n rfl) .nil) ⟨D,A.A,xss,A.many,b,e,l,x0,r0,rfl,db9,by rw[tj];exact hx,_,rfl,bT (by rw[CZ x0lt];rfl) ?_⟩
    refine tm (.n rfl) de9.self rfl (.cons (.n rfl) .nil) ⟨D,A.A,xss,A.many,b,e,l,x0,r0,qk,rfl,db9,by rw[tj];exact hx,by rw[tj];exact hqk,asc,x0lt,λ H10 b10 e10=>?_⟩
    have hqk9:=de9.lls.at' j qk _ hqk hx
    have kd10:=kept hqk9 b10
    have tk10:∀ c xs,H9 c=some (.tup xs)->H10 c=some (.tup xs):=λ c xs e=>kd10 _ _ e (λ _ z=>by cases z)
    have de10:=de9.set hqk hx b10 e10
    have ll10:=(ll8.same s9).but hqk9 b10 (λ z=>uqs.1 (by rw[<- z];exact qkin)) (λ z=>(nus qk z).1 qkin)
    have hpa10:H10 pa=some (.lst ls):=b10 _ _ (by rw[Cv];exact λ z=>paq.1 (by rw[z];exact qkin)) (s9 _ _ hpa8)
    have nmp10:=(nmp8.same s9).keep tk10
    have s10:aM H H10:=λ c o e=>b10 _ _ (by rw[Cv];exact aF e (fq qk qkin)) (s9 _ _ (s8 _ _ e))
    refine⟨_,rfl,.inl ⟨rfl,_,SqL.of hpa10⟩,_,rfl,pa,ls,.ref b,rfl,rfl,hpa10,bh (by omega),?_⟩
    have b11:But [pa] H10 (upd H10 pa (.lst (ls++[.ref b]))):=λ c o n e=>by rw[aE (by simpa using n)];exact e
    have epa11:=aD (H:=H10) (a:=pa) (o:=.lst (ls++[.ref b]))
    generalize upd H10 pa (.lst (ls++[.ref b]))=H11 at b11 epa11 ⊢
    have kd11:=kept hpa10 b11
    have tk11:∀ c xs,H10 c=some (.tup xs)->H11 c=some (.tup xs):=λ c xs e=>kd11 _ _ e (λ _ z=>by cases z)
    have de11:=de10.but hpa10 b11 paq.2.1 paq.1
    have ll11:=ll10.but hpa10 b11 paq.2.2.2 paq.2.2.1
    have nmp11:=(nmp10.snoc ⟨b,rfl,tk10 _ _ hb9⟩).keep tk11
    have s11:aM H H11:=λ c o e=>b11 _ _ (by rw[Cv];exact aF e npa0) (s10 _ _ e)
    refine⟨_,rfl,_,rfl,D.d,D.dx,_,rfl,de11.self,rfl,D,A.A,_,rfl,de11,by rw[EG];exact few,nex' iv11,λ l12 H12 s12 nl12 el12=>?_⟩
    refine⟨u,us,_,l12,_,rfl,ll11.same s12,SqL.of el12,by rw[Cy,iv11.lx,iv11.ln],by rw[iv11.ln];omega,snd iv11,λ sv H13 s13 sg=>?_⟩
    have s1113:=s12.trans s13
    exact⟨_,sms,_,_,_,_,_,_,rfl,iv11,de11.same s1113,ll11.same s1113,s1113 _ _ epa11,nmp11.same s1113,by rw[CA,CY];omega,s11.trans s1113,sg,rfl⟩
   ·have sf:¬ e.1.2.1<=bE (xss.map cD) e.1.1:=by
     rw[ee,xh]
     omega
    have uf:bE (xss.map cD) l.to<e.2:=by
     rw[Dt,Bool.not_eq_true',C9,FD] at z2
     exact Int.lt_of_not_ge λ y=>z2 ⟨y,sf⟩
    have iv9:=iv.pop hh λ d hd ed l' hl' el'=>by
     have:d=e:=hU lo.wf.nt hd he (ed.trans ee.symm)
     have e2:l'=l:=dj lo.wf.nd hl' hl (el'.trans (ee.symm.trans el.symm))
     rw[this,e2];exact uf
    have de9:=de8.same s9
    refine⟨_,rfl,_,rfl,D.d,D.dx,_,rfl,de9.self,rfl,D,A.A,_,rfl,de9,few,nex' iv9,λ l12 H12 s12 nl12 el12=>?_⟩
    refine⟨u,us,_,l12,_,rfl,(ll8.same s9).same s12,SqL.of el12,by rw[Cy,iv9.lx,iv9.ln],by rw[iv9.ln];omega,snd iv9,λ sv H13 s13 sg=>?_⟩
    have s913:=s12.trans s13
    have s813:=s9.trans s913
    exact⟨_,sms,_,_,_,_,_,_,rfl,iv9,de9.same s913,ll8.same s813,s813 _ _ hpa8,nmp8.same s813,by omega,s8.trans s813,sg,rfl⟩
  ·rcases sg with ⟨h,ms,x,rfl,hh,lt⟩|⟨rfl,nn⟩
   ·exact absurd (by simp) z
   subst ee5
   refine⟨_,rfl,D.d,D.dx,_,rfl,de.self,rfl,D,A.A,xss,rfl,de,by rw[iv.lx];omega,nex' iv,λ l8 H8 s8 nl8 el8=>⟨_,rfl,by show 2<=sizeLine;decide,λ p np=>?_⟩⟩
   have s9:=aM.new (o:=.tup [.ref l8,.ref pa]) np
   exact k p l8 pa _ ls ns' _ ((s7.trans s8).trans s9) (s7.free nl8) aD (s9 _ _ el8) (s9 _ _ (s8 _ _ hpa)) (nmp.same (s8.trans s9)) (iv.done lo.wf sm nn)
theorem cL.trans' (a:cL H G G1 H1) (s:aM H H1) (b:cL H1 G1 G2 H2):cL H G G2 H2:=⟨a.sub.trans b.sub,b.held,λ c o e=>(b.new c o e).elim (a.new c o) λ z=>.inr (s.free z)⟩
theorem cL.put (a:cL H G G1 H1) (n:G1 c=none):cL H G G1 (upd H1 c o):=⟨a.sub,λ b u e=>by rw[aE (aF e n)];exact a.held _ _ e,a.new⟩
theorem Di.BJ {G H H':Hp}{L:DiL}{A:DiA}{n:Nm3}{pl:Int}(d:Di G H L A) (h1:H' L.ta=some (.dT ((A.ta.map λ e=>(nk e.1,V.int e.2))++[(nk n,V.int pl)]))) (bt:But [L.ta] H H'):Di G H' L { A with ta:=A.ta++[(n,pl)] }:=by
 obtain⟨n1,n2,n3,n4,_⟩:=d.nes
 have nn:∀ b,b≠L.ta->b∉[L.ta]:=λ b h=>by rw[Cv];exact h
 exact⟨bt _ _ (nn _ n1) d.po,by rw[h1,CP];rfl,bt _ _ (nn _ (Ne.symm n3)) d.wy,λ e he=>bt _ _ (nn _ (n4 e he).2.1) (d.ways e he),d.lets,bt.same d.held λ b hb=>by rw[Cv] at hb;rw[hb];exact d.gn _ (by unfold DiL.own;simp),d.nd,d.gn⟩
noncomputable def Bef (i k h p:Nat):Prop:=h<i\/(h=i/\p<k)
structure TaI (ths:List ThA) (i k:Nat) (ta:List (Nm3×Int)):Prop where
 nd:(ta.map (·.1)).Nodup
 u1:∀ e∈ta,∃ h p:Nat,Bef i k h p/\e.2=(p:Int)+1/\Used ths h p e.1
 u2:∀ h p n,Bef i k h p->Used ths h p n->(n,(p:Int)+1)∈ta
 few:ta.length<=30*i+k
structure PoI (ths:List ThA) (i k:Nat) (po:List cF):Prop where
 s1:∀ l∈po,∃ h p q:Nat,Bef i k h p/\l.nm=nm3 h p q/\nj ths h p q (l.to,l.wd)
 s2:∀ h p q x,Bef i k h p->nj ths h p q x->∃ l∈po,l.nm=nm3 h p q/\(l.to,l.wd)=x
 few:po.length<=90*i+3*k
structure RkO (m:Nat) (ths:List ThA):Prop where
 m5:m<=5
 en:∀ T∈ths,T.evs.length<=30
 fn:∀ h p h' p' n,Used ths h p n->Used ths h' p' n->h=h'/\p=p'
 rg:∀ h p q x,nj ths h p q x->0<=x.1/\x.1<m
section
variable {ths:List ThA}{i k:Nat}{T:ThA}{E:EvA}
theorem cS:Bef i (k+1) h p↔Bef i k h p\/(h=i/\p=k):=by unfold Bef;lia
theorem TaI.skip (v:TaI ths i k ta) (O:ths[i]? = some T) (J:T.evs[k]? = some E) (V:E.u=none):TaI ths i (k+1) ta:=by
 refine⟨v.nd,λ e U=>?_,λ h p n b u=>?_,by have:=v.few;lia⟩
 ·obtain⟨h,p,b,z⟩:=v.u1 e U
  exact⟨h,p,cS.mpr (.inl b),z⟩
 ·rcases cS.mp b with b|⟨rfl,rfl⟩
  ·exact v.u2 h p n b u
  ·obtain⟨T',W,h1,h2,F⟩:=u
   rw[O] at h1;cases h1
   rw[J] at h2;cases h2
   rw[V] at F;cases F
theorem TaI.add (v:TaI ths i k ta) (rk:RkO m ths) (Y:ths[i]? = some T) (W:T.evs[k]? = some E) (Z:E.u=some n):n∉ta.map (·.1)/\TaI ths i (k+1) (ta++[(n,(k:Int)+1)]):=by
 have J:Used ths i k n:=⟨T,E,Y,W,Z⟩
 have O:n∉ta.map (·.1):=λ z=>by
  obtain⟨e,F,rfl⟩:=CL.mp z
  obtain⟨h,p,b,_,u⟩:=v.u1 e F
  obtain⟨rfl,rfl⟩:=rk.fn _ _ _ _ _ u J
  unfold Bef at b;lia
 refine⟨O,?_,λ e F=>?_,λ h p n' b u=>?_,by have:=v.few;rw[CA,CY];lia⟩
 ·rw[CP]
  refine DD.mpr ⟨v.nd,by simp,λ a ha b hb z=>O ?_⟩
  have U:b=n:=by simpa using hb
  rw[<- U,<- z];exact ha
 ·rcases CF.mp F with F|F
  ·obtain⟨h,p,b,z⟩:=v.u1 e F
   exact⟨h,p,cS.mpr (.inl b),z⟩
  ·rw[Cv] at F
   subst F
   exact⟨i,k,cS.mpr (.inr ⟨rfl,rfl⟩),rfl,J⟩
 ·rcases cS.mp b with b|⟨rfl,rfl⟩
  ·exact Dd _ (v.u2 h p n' b u)
  ·obtain⟨T',E',h1,h2,V⟩:=u
   rw[Y] at h1;cases h1
   rw[W] at h2;cases h2
   rw[Z] at V;cases V
   exact CW _ (Cv.mpr rfl)
theorem gu (rk:RkO m ths) (F:ths[i]? = some T) (h1:ths[h]? = some T') (h2:T'.evs[p]? = some E'):Bef i T.evs.length h p↔Bef (i+1) 0 h p:=by
 have:=(Cr.mp h2).1
 constructor
 ·unfold Bef;lia
 ·intro b
  unfold Bef at b ⊢
  by_cases z:h=i
  ·subst z
   rw[F] at h1;cases h1
   lia
  ·lia
theorem TaI.hand (v:TaI ths i T.evs.length ta) (rk:RkO m ths) (O:ths[i]? = some T):TaI ths (i+1) 0 ta:=by
 have:=rk.en T (CB O)
 have f:=v.few
 refine⟨v.nd,λ e U=>?_,λ h p n b u=>?_,by lia⟩
 ·obtain⟨h,p,b,z,T',F,h1,h2,J⟩:=v.u1 e U
  exact⟨h,p,(gu rk O h1 h2).mp b,z,T',F,h1,h2,J⟩
 ·obtain⟨T',F,h1,h2,J⟩:=u
  exact v.u2 h p n ((gu rk O h1 h2).mpr b) ⟨T',F,h1,h2,J⟩
theorem PoI.hand (v:PoI ths i T.evs.length po) (rk:RkO m ths) (O:ths[i]? = some T):PoI ths (i+1) 0 po:=by
 have:=rk.en T (CB O)
 have f:=v.few
 refine⟨λ l U=>?_,λ h p q x b s=>?_,by lia⟩
 ·obtain⟨h,p,q,b,z,T',F,h1,h2,J⟩:=v.s1 l U
  exact⟨h,p,q,(gu rk O h1 h2).mp b,z,T',F,h1,h2,J⟩
 ·obtain⟨T',F,h1,h2,J⟩:=s
  exact v.s2 h p q x ((gu rk O h1 h2).mpr b) ⟨T',F,h1,h2,J⟩
theorem PoI.add (v:PoI ths i k po) (U:ths[i]? = some T) (O:T.evs[k]? = some E) (V:E.se=xs.map (·.2)) (W:xs.length<=3):PoI ths i (k+1) (po++lets i ((k:Int)+1) xs):=by
 refine⟨λ l F=>?_,λ h p q x b s=>?_,?_⟩
 ·rcases CF.mp F with F|F
  ·obtain⟨h,p,q,b,z⟩:=v.s1 l F
   exact⟨h,p,q,cS.mpr (.inl b),z⟩
  ·obtain⟨q,x,z,rfl⟩:=fz.mp F
   exact⟨i,k,q,cS.mpr (.inr ⟨rfl,rfl⟩),rfl,T,E,U,O,by rw[V,Cw,z];rfl⟩
 ·rcases cS.mp b with b|⟨rfl,rfl⟩
  ·obtain⟨l,F,y⟩:=v.s2 h p q x b s
   exact⟨l,Dd _ F,y⟩
  ·obtain⟨T',Z,h1,h2,J⟩:=s
   rw[U] at h1;cases h1
   rw[O] at h2;cases h2
   rw[V,Cw] at J
   obtain⟨Y,e,rfl⟩:=Df.mp J
   exact⟨_,CW _ (fz.mpr ⟨q,Y,e,rfl⟩),rfl,rfl⟩
 ·have:=v.few
  rw[CA]
  unfold lets
  rw[Ft];lia
end
noncomputable def nR (K:W.Frag) (t:Adr) (G:Hp) (ls:List Addr) (ths:List ThA):Prop:=∀ (j:Nat) l T,ls[j]? = some l->ths[j]? = some T->∃ es,G l=some (.lst es)/\ip K t G es T.evs
theorem nR.same (h:nR K t G ls ths) (s:aM G G'):nR K t G' ls ths:=λ j l T a b=>let ⟨es,e,v⟩:=h j l T a b;⟨es,s _ _ e,v.same s⟩
noncomputable def yT (K:W.Frag) (t:Adr):Sp:=λ vs H Q _=>∃ G L A,vs=[.ref L.p]/\LoC K t G H L A/\RkO A.many A.ths /\
 ∀ G' H' D ta po A',But [L.p] H H'->(∀ b∈D.own A',H b=none)->LoC K t G' H' { L with D:=D } { A with A:=A' }->WfD A.many (cnt A.ths) A'->A'.ta=ta->A'.po=po->TaI A.ths A.many 0 ta->PoI A.ths A.many 0 po->A'.wy.length<=po.length->Q .non H'
theorem zp (T:Txt K mg t):bq P w K mg base (CXr P w) 5 t.f_af t.fd_af ["self"] (yT K t):=by
 refine T.F_af.okN gy (λ vs H Q E h=>?_) (λ cdv A outer s H vs Q E hr h=>?_)
 ·obtain⟨G,L,A,rfl,_⟩:=h;rfl
 ·obtain⟨G,L,A,rfl,c,rk,k⟩:=h
  refine⟨_,(aH (bg (K:=K) (pv 0) dm rfl)
   (aH (bg (K:=K) (pv 0) dm rfl)
   (aH (bg (K:=K) (pv 0) dm rfl)
   (aH (dA ["self","told","events","place","event","hand","thread"] 1 (i:=1) rfl gy.nd rfl (Or.inl rfl) (bP (K:=K) (aO (K:=K) (pv 0) rfl)) (λ _ _ _ _ _=>⟨(aR (i:=6) (show List.Nodup (["self","told","events","place","event","hand","thread"]:List Str) from by decide +kernel) rfl (Or.inl rfl)),bX,(bc (pv 6) T.cl_Thread T.me_bd (Ag (K:=K) T) (hr.mono (by decide)) T.b_bd .nil aL)⟩))
   (aH (cy PassesOwn.never rfl (bP (K:=K) (pv 1)) (aR (i:=2) gy.nd rfl (Or.inl rfl))
    (aI (cy PassesOwn.never rfl (kT (K:=K) rfl T.no_enumerate (aJ (pv 2) aG)) (cK (K:=K) rfl (bB (aR (i:=3) gy.nd rfl (Or.inl rfl)) (bB (aR (i:=4) gy.nd rfl (Or.inl rfl)) cJ)))
    (aI (bH (bj j8 (aO (K:=K) (pv 4) rfl) fV (bx _))
    (aI (iw (cm hr) (aO (K:=K) (pv 0) rfl) (aO (K:=K) (pv 4) rfl) (pv 3) rfl))
    bp)))))
   (aI (cy PassesOwn.never rfl (d6 (K:=K) rfl T.no_enumerate (aJ (pv 1) aG)) (cK (K:=K) rfl (bB (aR (i:=5) gy.nd rfl (Or.inl rfl)) (bB (aR (i:=2) gy.nd rfl (Or.inl rfl)) cJ)))
    (aI (cy PassesOwn.never rfl (kT (K:=K) rfl T.no_enumerate (aJ (pv 2) aG)) (cK (K:=K) rfl (bB (aR (i:=3) gy.nd rfl (Or.inl rfl)) (bB (aR (i:=4) gy.nd rfl (Or.inl rfl)) cJ)))
    (aI (aZ (aX (pv 0) T.cl_Loom T.me_cy (uE (K:=K) T) (hr.mono (by decide)) T.b_cy .nil aL (aJ (pv 5) (aJ (pv 3) (aJ (aO (K:=K) (pv 4) rfl) aG))))))))))))))),?_⟩
  refine sq λ rr1 ee1=>?_
  have m5:=rk.m5
  refine λ po hpo=>⟨_,rfl,L.p,_,L.dx,_,rfl,by rw[aE (aF c.self hpo)];exact c.self,T.cl_Loom,T.na_cl,by show 8<1000;decide,?_⟩
  obtain⟨k1,e1,ne1⟩:=fW (o:=.dT []) (o':=.ins t.c_Loom L.dx (aP "posted" (.ref po) (loF L.dz A.many A.ord L.lt L.lg L.D))) c.self hpo
  have hp1:upd (upd H po (.dT [])) L.p (.ins t.c_Loom L.dx (aP "posted" (.ref po) (loF L.dz A.many A.ord L.lt L.lg L.D))) L.p=some (.ins t.c_Loom L.dx (loF L.dz A.many A.ord L.lt L.lg ⟨po,L.D.ta,L.D.wy⟩)):=aD
  generalize upd (upd H po (.dT [])) L.p (.ins t.c_Loom L.dx (aP "posted" (.ref po) (loF L.dz A.many A.ord L.lt L.lg L.D)))=H1 at k1 e1 hp1 ⊢
  refine(sn ee1 λ rr2 ee2=>?_:rr1 _ _ _)
  refine λ ta hta=>⟨_,rfl,L.p,_,L.dx,_,rfl,by rw[aE (aF hp1 hta)];exact hp1,T.cl_Loom,T.na_cw,by show 8<1000;decide,?_⟩
  obtain⟨k2,e2,ne2⟩:=fW (o:=.dT []) (o':=.ins t.c_Loom L.dx (aP "taken" (.ref ta) (loF L.dz A.many A.ord L.lt L.lg ⟨po,L.D.ta,L.D.wy⟩))) hp1 hta
  have hp2:upd (upd H1 ta (.dT [])) L.p (.ins t.c_Loom L.dx (aP "taken" (.ref ta) (loF L.dz A.many A.ord L.lt L.lg ⟨po,L.D.ta,L.D.wy⟩))) L.p=some (.ins t.c_Loom L.dx (loF L.dz A.many A.ord L.lt L.lg ⟨po,ta,L.D.wy⟩)):=aD
  generalize upd (upd H1 ta (.dT [])) L.p (.ins t.c_Loom L.dx (aP "taken" (.ref ta) (loF L.dz A.many A.ord L.lt L.lg ⟨po,L.D.ta,L.D.wy⟩)))=H2 at k2 e2 hp2 ⊢
  refine(sn ee2 λ rr3 ee3=>?_:rr2 _ _ _)
  refine λ wy hwy=>⟨_,rfl,L.p,_,L.dx,_,rfl,by rw[aE (aF hp2 hwy)];exact hp2,T.cl_Loom,T.na_df,by show 8<1000;decide,?_⟩
  obtain⟨k3,e3,ne3⟩:=fW (o:=.dT []) (o':=.ins t.c_Loom L.dx (aP "ways" (.ref wy) (loF L.dz A.many A.ord L.lt L.lg ⟨po,ta,L.D.wy⟩))) hp2 hwy
  have hp3:upd (upd H2 wy (.dT [])) L.p (.ins t.c_Loom L.dx (aP "ways" (.ref wy) (loF L.dz A.many A.ord L.lt L.lg ⟨po,ta,L.D.wy⟩))) L.p=some (.ins t.c_Loom L.dx (loF L.dz A.many A.ord L.lt L.lg ⟨po,ta,wy⟩)):=aD
  generalize upd (upd H2 wy (.dT [])) L.p (.ins t.c_Loom L.dx (aP "ways" (.ref wy) (loF L.dz A.many A.ord L.lt L.lg ⟨po,ta,L.D.wy⟩)))=H3 at k3 e3 hp3 ⊢
  refine(sn ee3 λ rr4 ee4=>?_:rr3 _ _ _)
  have up:∀ b o,b≠L.p->H b=some o->H3 b=some o:=λ b o n e=>k3 b o n (k2 b o n (k1 b o n e))
  have ta0:H ta=none:=by
   cases e:H ta with
   | none=>rfl
   | some o=>rw[k1 _ _ ne2 e] at hta;cases hta
  have wy0:H wy=none:=by
   cases e:H wy with
   | none=>rfl
   | some o=>rw[k2 _ _ ne3 (k1 _ _ ne3 e)] at hwy;cases hwy
  have fr0:∀ b∈[po,ta,wy],H b=none:=λ b hb=>by
   simp only[Cz,CC,C2] at hb
   rcases hb with rfl|rfl|rfl
   ·exact hpo
   ·exact ta0
   ·exact wy0
  have pt:po≠ta:=λ y=>by rw[y] at e1;rw[hta] at e1;cases e1
  have pw:po≠wy:=λ y=>by have:=k2 _ _ ne1 e1;rw[y,hwy] at this;cases this
  have tw':ta≠wy:=λ y=>by rw[y] at e2;rw[hwy] at e2;cases e2
  have gp:=c.gn _ (LoL.dP (L:=L) (A:=A) (b:=L.p) (by simp))
  have held3:aM G H3:=λ b o e=>up b o (aF e gp) (c.held _ _ e)
  have c3:LoC K t G H3 { L with D:=⟨po,ta,wy⟩ } { A with A:=⟨[],[],[]⟩ }:=by
   refine c.uR (λ b o n e=>up b o (λ z=>n (by rw[z];exact CJ)) e) hp3 ⟨k3 _ _ ne1 (k2 _ _ ne1 e1),k3 _ _ ne2 e2,e3,(λ e he=>by cases he),(λ l hl=>by cases hl),held3,?_,λ b hb=>c.held.free (fr0 b (by simpa [DiL.own] using hb))⟩
   show ([po,ta,wy]++([]:List Addr)).Nodup
   simp only[D2,DM,Cz,CC,C2,EU,not_false_eq_true,F1,and_true]
   exact⟨⟨pt,pw⟩,tw'⟩
  have lts:(L.ths.map λ q=>V.ref q.p).length=A.many:=by rw[Cy,c.len1]
  refine⟨_,rfl,L.p,_,L.dx,_,_,rfl,hp3,T.cl_Loom,T.na_bv,rfl,L.lt,rfl,⟨_,SqL.of c3.tl⟩,cj (xs:=L.ths.map λ q=>V.ref q.p) (by omega) λ acc hacc=>⟨λ i σ2 ys H2=>(∃ G2,∃ ls:List Addr,ls.length=i/\ys=ls.map V.ref/\H2 acc=some (.lst ys)/\aM H3 H2/\cL H3 G G2 H2/\G2 acc=none/\nR K t G2 ls A.ths)/\∃ o,σ2=[some (.ref L.p),none,none,none,none,none,o],⟨⟨G,[],rfl,rfl,aD,aM.new hacc,⟨.refl _,held3.trans (aM.new hacc),λ _ _ e=>.inl e⟩,held3.free hacc,(λ j l T e=>by simp at e)⟩,_,rfl⟩,?_,?_,?_⟩⟩
  ·rintro i σ2 ys H4 hi ⟨⟨G2,ls,len,rfl,e4,s4,_⟩,_⟩
   exact⟨SqL.of (s4 _ _ c3.tl),by rw[Cy];omega⟩
  ·rintro i v σ2 ys H4 hi hx ⟨⟨G2,ls,len,rfl,e4,s4,g4,ga,tol⟩,o,rfl⟩
   rw[Cw] at hx
   obtain⟨q,hq,rfl⟩:=Df.mp hx
   obtain⟨T0,hT,th⟩:=c3.wm hq
   have hT:A.ths[i]? = some T0:=hT
   obtain⟨es,hd,evs⟩:=th.done
   dsimp only[ck,fO]
   refine cX (tm (.n rfl) (s4 _ _ th.self) rfl .nil ⟨G2,q.p,q.dx,_,q.ha,q.dn,q.wr,_,es,T0.evs,rfl,g4.held,s4 _ _ th.self,s4 _ _ hd,evs.same g4.sub,by rw[evs.1];have:=rk.en T0 (CB hT);omega,λ G' H' l es' g5 s5 nl el gl ev'=>?_⟩)
   have nacc:l≠acc:=λ z=>by rw[z,e4] at nl;cases nl
   have ga':G' acc=none:=g5.free (by rw[e4];simp) ga
   refine⟨s5 _ _ e4,Nx.mk hi ⟨⟨upd G' l (.lst es'),ls++[l],by rw[CA,len];rfl,by rw[CP];rfl,aD,λ b u z=>by rw[aE (aF z hacc)];exact s5 _ _ (s4 _ _ z),cL.put ((cL.trans' g4 s4 g5).freeze (s4.free nl) el) (by rw[aE (Ne.symm nacc)];exact ga'),by rw[aE (Ne.symm nacc)];exact ga',λ j l' T' h1 h2=>?_⟩,_,rfl⟩⟩
   rcases fk h1 with h1|⟨e,rfl⟩
   ·exact(tol.same (g5.sub.trans (aM.new gl))) j l' T' h1 h2
   ·rw[e,len,hT] at h2;cases h2
    exact⟨es',aD,ev'.same (aM.new gl)⟩
  rintro σ2 ys H4 ⟨⟨G4,ls,len,rfl,e4,s4,g4,ga,tol⟩,o,rfl⟩
  rw[lts] at len
  have g5:=g4.freeze hacc e4
  have tol5:=tol.same (aM.new (o:=.lst (ls.map V.ref)) ga)
  have gacc:upd G4 acc (.lst (ls.map V.ref)) acc=some (.lst (ls.map V.ref)):=aD
  generalize upd G4 acc (.lst (ls.map V.ref))=G5 at g5 tol5 gacc
  have c5:LoC K t G5 H4 { L with D:=⟨po,ta,wy⟩ } { A with A:=⟨[],[],[]⟩ }:=c3.frame g5.sub g5.held (λ b o _ e=>s4 _ _ e) λ b hb=>g5.free (c3.eS b hb) (c3.gn b hb)
  have lsl:(ls.map V.ref).length=A.many:=by rw[Cy,len]
  have hand:∀ {i:Nat} {x:V},(ls.map V.ref)[i]? = some x->∃ l T0 es,x=.ref l/\A.ths[i]? = some T0/\i<A.many/\G5 l=some (.lst es)/\ip K t G5 es T0.evs:=λ{i x} hx=>by
   have hi:=(Cr.mp hx).1
   rw[lsl] at hi
   rw[Cw] at hx
   obtain⟨l,hl,rfl⟩:=Df.mp hx
   have e:=Cs (l:=A.ths) (i:=i) (by rw[c.len2];exact hi)
   obtain⟨es,z,ev⟩:=tol5 i l _ hl e
   exact⟨l,_,es,rfl,e,hi,z,ev⟩
  refine(sn ee4 λ rr5 ee5=>?_:rr4 _ _ _)
  refine⟨_,rfl,acc,rfl,⟨_,SqL.of e4⟩,iE (xs:=ls.map V.ref) (λ i σ H'=>(∃ ta2,LoC K t G5 H' { L with D:=⟨po,ta,wy⟩ } { A with A:=⟨[],ta2,[]⟩ }/\TaI A.ths i 0 ta2/\But [po,ta,wy] H4 H')/\∃ a b c d,σ=[some (.ref L.p),some (.ref acc),a,b,c,d]) ⟨⟨[],c5,⟨.nil,(λ e he=>by cases he),(λ h p n b=>by unfold Bef at b;omega),Nat.le_refl _⟩,λ _ _ _ e=>e⟩,_,_,_,_,rfl⟩ ?_ ?_ ?_⟩
  ·rintro i σ H' _ ⟨⟨_,c6,_⟩,_⟩
   exact SqL.of (c6.held _ _ gacc)
  ·rintro i x σ H' hx ⟨⟨ta2,c6,tai,bt⟩,a0,b0,c0,d0,rfl⟩
   obtain⟨l,T0,es,rfl,hT,hi,gl,evs⟩:=hand hx
   have tn:=rk.en T0 (CB hT)
   refine⟨_,rfl,l,_,rfl,SqL.of (c6.held _ _ gl),jX (c:=1) (xs:=es) (λ k σ H'=>(∃ ta2,LoC K t G5 H' { L with D:=⟨po,ta,wy⟩ } { A with A:=⟨[],ta2,[]⟩ }/\TaI A.ths i k ta2/\But [po,ta,wy] H4 H')/\∃ b c d,σ=[some (.ref L.p),some (.ref acc),some (.ref l),b,c,d]) ⟨⟨ta2,c6,tai,bt⟩,_,_,_,rfl⟩ ?_ ?_ ?_⟩
   ·rintro k σ H' _ ⟨⟨_,c6,_⟩,_⟩
    exact SqL.of (c6.held _ _ gl)
   ·rintro k x p σ H5 hx np ⟨⟨ta2,c6,tai,bt⟩,b0,c0,d0,rfl⟩
    rw[show ((1+k:Nat):Int)=(k:Int)+1 by omega]
    have hk:=(Cr.mp hx).1
    obtain⟨E,hE⟩:∃ E,T0.evs[k]? = some E:=⟨_,Cs (by rw[<- evs.1];exact hk)⟩
    obtain⟨q,rfl,dxe,v,l1,l2,xs,ys,h1,h2,h3,h4,h5,h6⟩:=evs.2 k _ _ hx hE
    have s6:=aM.new (o:=.tup [.int ((k:Int)+1),.ref q]) np
    refine⟨p,_,rfl,SqT.of aD,rfl,_,_,rfl,_,_,rfl,rfl,?_⟩
    generalize upd H5 p (.tup [.int ((k:Int)+1),.ref q])=H6 at s6 ⊢
    have c7:=c6.same s6
    have bt7:But [po,ta,wy] H4 H6:=λ b o n e=>s6 _ _ (bt b o n e)
    refine⟨_,rfl,q,_,dxe,_,_,rfl,c7.held _ _ h1,T.cl_Event,T.na_cv,iK,rfl,_,rfl,?_⟩
    cases hu:E.u with
    | none=>
     rw[hu] at h2
     obtain rfl:v=.non:=h2
     exact bT rfl ⟨⟨ta2,c7,tai.skip hT hE hu,bt7⟩,_,_,_,rfl⟩
    | some n=>
     rw[hu] at h2
     obtain⟨b,rfl,hb⟩:=h2
     obtain⟨nin,tai'⟩:=tai.add rk hT hE hu
     have few:=tai.few
     have el:=evs.1
     have v1:bV (ta2.map λ e=>(nk e.1,V.int e.2)) (nk n)=none:=dZ (λ e:Nm3×Int=>nk e.1) (λ e=>V.int e.2) λ e he y=>nin (by rw[<- cC _ _ y];exact CN he)
     refine du rfl ⟨_,rfl,_,rfl,L.p,_,L.dx,_,_,rfl,c7.self,T.cl_Loom,T.na_cw,rfl,_,rfl,q,_,dxe,_,_,rfl,c7.held _ _ h1,T.cl_Event,T.na_cv,iK,ta,_,rfl,.inr ⟨_,nk n,b,c7.di.ta,rfl,c7.held _ _ hb,bh (by rw[Cy];show ta2.length<=1000;omega),rfl⟩,?_⟩
     rw[eT _ v1]
     refine⟨⟨_,c7.oj (D':=⟨[],ta2++[(n,(k:Int)+1)],[]⟩) (But.upd.mono λ b hb=>by rw[Cv] at hb;rw[hb];unfold DiL.own;simp) (c7.di.BJ aD But.upd),tai',λ b o nn e=>?_⟩,_,_,_,rfl⟩
     rw[aE (λ z=>nn (by rw[z];simp))];exact bt7 b o nn e
   ·rintro σ H5 ⟨⟨ta2,c6,tai,bt⟩,b0,c0,d0,rfl⟩
    rw[evs.1] at tai
    exact⟨⟨ta2,c6,tai.hand rk hT,bt⟩,_,_,_,_,rfl⟩
  rintro σ H5 ⟨⟨ta2,c6,tai,bt⟩,a0,b0,c0,d0,rfl⟩
  rw[lsl] at tai
  subst ee5
  have own0:∀ b∈DiL.own ⟨po,ta,wy⟩ ⟨[],ta2,[]⟩,b∈[po,ta,wy]:=λ b hb=>by simpa [DiL.own] using hb
  refine⟨_,rfl,acc,_,rfl,SqL.of (c6.held _ _ gacc),dv (xs:=ls.map V.ref) (λ i σ H'=>(∃ A2,LoC K t G5 H' { L with D:=⟨po,ta,wy⟩ } { A with A:=A2 }/\A2.ta=ta2/\WfD A.many (cnt A.ths) A2/\PoI A.ths i 0 A2.po/\A2.wy.length<=A2.po.length/\But [po,ta,wy] H4 H'/\∀ b∈DiL.own ⟨po,ta,wy⟩ A2,b∈[po,ta,wy]\/H4 b=none)/\∃ a b c d,σ=[some (.ref L.p),some (.ref acc),a,b,c,d])
   ⟨⟨_,c6,rfl,⟨.nil,tai.nd,(λ l hl=>by cases hl),.nil,(λ e he=>by cases he),(λ e he=>by cases he),(λ l hl=>by cases hl),λ e he=>?_⟩,⟨(λ l hl=>by cases hl),(λ h p q x b=>by unfold Bef at b;omega),Nat.le_refl _⟩,Nat.le_refl _,bt,λ b hb=>.inl (own0 b hb)⟩,_,_,_,_,rfl⟩ ?_ ?_ ?_⟩
  ·obtain⟨h,p,_,z,_⟩:=tai.u1 e he
   omega
  ·rintro i σ H' _ ⟨⟨_,c6,_⟩,_⟩
   exact SqL.of (c6.held _ _ gacc)
  ·rintro i x p σ H6 hx np ⟨⟨A2,c7,et,wf,poi,lw,bt7,fr7⟩,a0,b0,c0,d0,rfl⟩
   obtain⟨l,T0,es,rfl,hT,hi,gl,evs⟩:=hand hx
   have tn:=rk.en T0 (CB hT)
   have s8:=aM.new (o:=.tup [.int i,.ref l]) np
   refine⟨p,_,rfl,SqT.of aD,rfl,_,_,rfl,_,_,rfl,rfl,?_⟩
   generalize upd H6 p (.tup [.int i,.ref l])=H7 at s8 ⊢
   have c8:=c7.same s8
   refine⟨_,rfl,l,_,rfl,SqL.of (c8.held _ _ gl),jX (c:=1) (xs:=es) (λ k σ H'=>(∃ A2,LoC K t G5 H' { L with D:=⟨po,ta,wy⟩ } { A with A:=A2 }/\A2.ta=ta2/\WfD A.many (cnt A.ths) A2/\PoI A.ths i k A2.po/\A2.wy.length<=A2.po.length/\But [po,ta,wy] H4 H'/\∀ b∈DiL.own ⟨po,ta,wy⟩ A2,b∈[po,ta,wy]\/H4 b=none)/\∃ b c,σ=[some (.ref L.p),some (.ref acc),some (.ref l),b,c,some (.int i)]) ⟨⟨A2,c8,et,wf,poi,lw,λ b o n e=>s8 _ _ (bt7 b o n e),fr7⟩,_,_,rfl⟩ ?_ ?_ ?_⟩
   ·rintro k σ H' _ ⟨⟨_,c6,_⟩,_⟩
    exact SqL.of (c6.held _ _ gl)
   ·rintro k x p σ H8 hx np ⟨⟨A2,c9,et,wf,poi,lw,bt9,fr9⟩,b0,c0,rfl⟩
    rw[show ((1+k:Nat):Int)=(k:Int)+1 by omega]
    have hk:=(Cr.mp hx).1
    rw[evs.1] at hk
    obtain⟨E,hE⟩:∃ E,T0.evs[k]? = some E:=⟨_,Cs hk⟩
    obtain⟨q,rfl,dxe,v,l1,l2,xs,ys,h1,h2,h3,⟨us,rfl,hse,hus⟩,h5,h6⟩:=evs.2 k _ _ hx hE
    have s9:=aM.new (o:=.tup [.int ((k:Int)+1),.ref q]) np
    refine⟨p,_,rfl,SqT.of aD,rfl,_,_,rfl,_,_,rfl,rfl,?_⟩
    generalize upd H8 p (.tup [.int ((k:Int)+1),.ref q])=H9 at s9 ⊢
    have c10:=c9.same s9
    have few:=poi.few
    rw[Cy] at h5
    refine tm (.n rfl) c10.self rfl (.cons (.n rfl) (.cons (.n rfl) (.cons (.f (.n rfl) (c10.held _ _ h1) T.cl_Event T.na_cu gj) .nil))) ⟨G5,L.p,L.dx,L.dz,A.many,A.ord,L.lt,L.lg,⟨po,ta,wy⟩,A2,l1,i,(k:Int)+1,us,A.many,cnt A.ths,rfl,c10.self,c10.di,wf,c10.nd1 (L:={ L with D:=⟨po,ta,wy⟩ }) (b:=L.p) (by simp),λ z=>?_,SqL.of (c10.held _ _ h3),h5,λ x hx=>⟨hus x hx,?_⟩,by omega,by omega,by omega,by rw[kL hT];omega,λ e he ez=>?_,by omega,by omega,λ H2 A3 b3 d3 w3 f1 f2 f3 fr3=>?_⟩
    ·obtain⟨kvs,y⟩:=c10.di.isd z
     rw[c10.held _ _ h3] at y;cases y
    ·obtain⟨r,hr⟩:=Eo hx
     exact rk.rg i k r _ ⟨T0,E,hT,hE,by rw[hse,Cw,hr];rfl⟩
    ·obtain⟨h,p',q',bf,en,_⟩:=poi.s1 e he
     rw[en] at ez ⊢
     unfold nm3 at ez ⊢
     unfold Bef at bf
     dsimp only at ez ⊢
     omega
    ·have gz:∀ b,b∈DiL.own ⟨po,ta,wy⟩ A2->∀ o,H4 b=some o->b∈[po,ta,wy]:=λ b hb o e=>(fr9 b hb).elim id λ z=>by rw[z] at e;cases e
     refine⟨⟨A3,c10.oj b3 d3,f1.trans et,w3,by rw[f2];exact poi.add hT hE hse h5,by rw[f2,CA];unfold lets;rw[Ft];omega,λ b o n e=>b3 b o (λ z=>n (gz b z o e)) (s9 _ _ (bt9 b o n e)),λ b hb=>?_⟩,_,_,rfl⟩
     rcases fr3 b hb with z|z
     ·exact fr9 b z
     ·by_cases y:b∈[po,ta,wy]
      ·exact .inl y
      ·cases e:H4 b with
       | none=>exact .inr rfl
       | some o=>rw[s9 _ _ (bt9 b o y e)] at z;cases z
   ·rintro σ H8 ⟨⟨A2,c9,et,wf,poi,lw,bt9,fr9⟩,b0,c0,rfl⟩
    rw[evs.1] at poi
    exact⟨⟨A2,c9,et,wf,poi.hand rk hT,lw,bt9,fr9⟩,_,_,_,_,rfl⟩
  ·rintro σ H6 ⟨⟨A2,c7,et,wf,poi,lw,bt7,fr7⟩,a0,b0,c0,d0,rfl⟩
   rw[lsl] at poi
   refine k G5 H6 ⟨po,ta,wy⟩ ta2 A2.po A2 (λ b o n e=>?_) (λ b hb=>?_) c7 wf et rfl tai poi lw
   ·have np:b≠L.p:=λ z=>n (by rw[z];simp)
    exact bt7 b o (λ z=>by rw[fr0 b z] at e;cases e) (s4 _ _ (up b o np e))
   ·rcases fr7 b hb with z|z
    ·exact fr0 b z
    ·cases e:H b with
     | none=>rfl
     | some o=>
      have np:b≠L.p:=λ y=>by rw[y,s4 _ _ hp3] at z;cases z
      rw[s4 _ _ (up b o np e)] at z;cases z
noncomputable def jq (T:ThA) (y:Int) (st:Bool):ThA:=if st=true/\y=T.evs.length then T else T.cutAt y
theorem tI (w:TWf n T) (h:T.pt y\/(st=true/\y=T.evs.length)):TWf n (jq T y st)/\(∀ x,T.pt x->x<=y->(jq T y st).pt x)/\(∀ (p:Nat) E,(jq T y st).evs[p]? = some E↔T.evs[p]? = some E/\(p:Int)+1<=y):=by
 unfold jq
 by_cases c:st=true/\y=T.evs.length
 ·rw[CG c]
  refine⟨w,λ x J _=>J,λ p E=>⟨λ e=>⟨e,?_⟩,λ e=>e.1⟩⟩
  have:=(Cr.mp e).1
  lia
 ·rw[CD c]
  have F:T.pt y:=h.elim id λ z=>absurd z c
  obtain⟨O,U⟩:=w.pt F
  obtain⟨h1,h2⟩:=w.cut F
  refine⟨h1,h2,λ p E=>?_⟩
  show (T.evs.take y.toNat)[p]? = some E↔_
  rw[List.getElem?_take]
  by_cases q:p<y.toNat
  ·rw[CG q];exact⟨λ e=>⟨e,by lia⟩,λ e=>e.1⟩
  ·rw[CD q];exact⟨(λ e=>by cases e),λ e=>by lia⟩
structure g8 (A:LoA) (fs ln:List Int) (t2:List ThA):Prop where
 len:t2.length=A.ths.length
 at':∀ (j:Nat) T,A.ths[j]? = some T->t2[j]? = some (jq T (bE ln j) (decide ((j:Int)∉fs)))
section
variable {G H:Hp}{L:LoL}{A:LoA}{n:Nat}{fs ln:List Int}{t2:List ThA}
theorem AlW.at (lo:Lo K t G H L A n) (F:AlW A fs ln) {j:Nat}{T:ThA}(h:A.ths[j]? = some T):T.pt (bE ln j)\/(decide ((j:Int)∉fs)=true/\bE ln j=T.evs.length):=by
 have J:=(Cr.mp h).1
 rw[lo.c.len2,<- F.1] at J
 have e:=Cs J
 rw[bZ e,C9]
 exact F.2 j T _ h e
theorem g8.ok (c:g8 A fs ln t2) (lo:Lo K t G H L A n) (O:AlW A fs ln) {j:Nat}{F:ThA}(h:t2[j]? = some F):∃ T,A.ths[j]? = some T/\TWf n F/\(∀ x,T.pt x->x<=bE ln j->F.pt x)/\∀ (p:Nat) E,F.evs[p]? = some E↔T.evs[p]? = some E/\(p:Int)+1<=bE ln j:=by
 have J:=(Cr.mp h).1
 rw[c.len] at J
 have e:=Cs J
 rw[c.at' j _ e] at h;cases h
 exact⟨_,e,tI (lo.tw _ (CB e)) (O.at lo e)⟩
theorem g8.wH (c:g8 A fs ln t2) (lo:Lo K t G H L A n) (U:AlW A fs ln) {h p k:Nat}{x:Int×Int}:nj t2 h p k x↔nj A.ths h p k x/\(p:Int)+1<=bE ln h:=by
 constructor
 ·rintro⟨T2,E,h1,h2,O⟩
  obtain⟨T,Z,_,_,J⟩:=c.ok lo U h1
  obtain⟨W,Y⟩:=(J p E).mp h2
  exact⟨⟨T,E,Z,W,O⟩,Y⟩
 ·rintro⟨⟨T,E,h1,h2,O⟩,le⟩
  have V:=c.at' h T h1
  obtain⟨T',F,_,_,J⟩:=c.ok lo U V
  rw[h1] at F;cases F
  exact⟨_,E,V,(J p E).mpr ⟨h2,le⟩,O⟩
theorem g8.used (c:g8 A fs ln t2) (lo:Lo K t G H L A n) (F:AlW A fs ln) {h p:Nat}{m:Nm3}(u:Used t2 h p m):Used A.ths h p m/\(p:Int)+1<=bE ln h:=by
 obtain⟨Y,E,h1,h2,V⟩:=u
 obtain⟨T,W,_,_,U⟩:=c.ok lo F h1
 obtain⟨J,O⟩:=(U p E).mp h2
 exact⟨⟨T,E,W,J,V⟩,O⟩
theorem g8.rk (c:g8 A fs ln t2) (lo:Lo K t G H L A n) (hn:n<=30) (F:AlW A fs ln):RkO A.many t2:=by
 refine⟨lo.m2.2,λ T2 hT=>?_,λ h p h' U m u u'=>?_,λ h p q x s=>?_⟩
 ·obtain⟨j,hj⟩:=Eo hT
  obtain⟨_,_,w,_⟩:=c.ok lo F hj
  have:=w.en
  omega
 ·obtain⟨V,l,J,W,Y⟩:=lo.lk.u2 h p m (c.used lo F u).1
  obtain⟨Z,l',O,b2,b3⟩:=lo.lk.u2 h' U m (c.used lo F u').1
  have e1:=dj lo.wf.nd J O (W.trans b2.symm)
  have e2:=hU lo.wf.nt V Z rfl
  have e3:(p:Int)+1=(U:Int)+1:=congrArg Prod.snd e2
  rw[e1] at Y
  exact⟨by omega,by omega⟩
 ·obtain⟨l,J,_,e⟩:=lo.lk.s2 h p q x ((c.wH lo F).mp s).1
  have:=lo.wf.rg l J
  rw[<- e];exact this.2.2.2.2.2.2
theorem g8.old (c:g8 A fs ln t2) (lo:Lo K t G H L A n) (J:AlW A fs ln) (F:PoI t2 A.many 0 po) (h:l'∈po):∃ l∈A.A.po,l.nm=l'.nm/\l.to=l'.to:=by
 obtain⟨h,p,q,_,e,s⟩:=F.s1 l' h
 obtain⟨l,V,O,U⟩:=lo.lk.s2 h p q _ ((c.wH lo J).mp s).1
 exact⟨l,V,O.trans e.symm,congrArg Prod.fst U⟩
theorem g8.lk (c:g8 A fs ln t2) (lo:Lo K t G H L A n) (Z:AlW A fs ln) (sd:ky (bE ln) A.A) (O:TaI t2 A.many 0 A'.ta) (J:PoI t2 A.many 0 A'.po):Lk t2 A':=by
 have F:∀ {h:Nat} {T:ThA} (p:Nat),t2[h]? = some T->Bef A.many 0 h p:=λ p e=>by
  have:=(Cr.mp e).1
  rw[c.len,lo.c.len2] at this
  exact .inl this
 refine⟨λ l U=>?_,λ h p k x s=>?_,λ e he=>?_,λ h p m u=>?_⟩
 ·obtain⟨h,p,q,_,z⟩:=J.s1 l U
  exact⟨h,p,q,z⟩
 ·exact J.s2 h p k x (let ⟨_,_,h1,_⟩:=s;F p h1) s
 ·obtain⟨h,p,_,z⟩:=O.u1 e he
  exact⟨h,p,z⟩
 ·have b:Bef A.many 0 h p:=let ⟨_,_,h1,_⟩:=u;F p h1
  refine⟨O.u2 h p m b u,?_⟩
  obtain⟨u1,le⟩:=c.used lo Z u
  obtain⟨a1,l,U,W,Y⟩:=lo.lk.u2 h p m u1
  have s1:=sd l U _ a1 W.symm (by rw[Y];exact le)
  obtain⟨h',p',k',e',s'⟩:=lo.lk.s1 l U
  rw[e'] at s1
  have s2:=(c.wH lo Z).mpr ⟨s',s1⟩
  obtain⟨l',V,e1,e2⟩:=J.s2 h' p' k' _ (let ⟨_,_,h1,_⟩:=s2;F p' h1) s2
  exact⟨l',V,by rw[e1,<- e',W],by rw[show l'.to=l.to from congrArg Prod.fst e2];exact Y⟩
end
section
variable {G H H':Hp}{q:ThL}{T0:ThA}{Q:VK}{E:XK}{L:LoL}{A:LoA}{n:Nat}
theorem vT (th:Th K t G H q T0) (Z:TWf n T0) (Y:T0.pt y\/(b=true/\y=T0.evs.length)) (k:Q (.bl true) H):uW K t [.ref q.p,.int y,.bl b] H Q E:=by
 obtain⟨es,V,U⟩:=th.done
 obtain⟨F,O,J,W⟩:=Z.hd
 rw[<- CZ (p:=(b=true/\y=es.length)\/y∈F::O\/(F<=y/\y<=T0.down)) (by rw[U.1];exact Y.elim (λ z=>.inr ((ThA.kx J W).mp z)) .inl)] at k
 exact⟨q.p,q.dx,_,q.ha,q.dn,q.wr,_,F,O,es,y,b,rfl,th.self,by rw[<- J];exact th.dc,SqL.of V,k⟩
theorem wx {y:Int}{b:Bool}(th:Th K t G H q T0) (tw:TWf n T0) (hn:n<=30) (ok:T0.pt y\/(b=true/\y=T0.evs.length)) (k:∀ H' q',But q.ad H H'->q'.p=q.p->(∀ c∈q'.ad,c∈q.ad\/H c=none)->Th K t G H' q' (jq T0 y b)->Q .non H'):uX K t [.ref q.p,.int y,.bl b] H Q E:=by
 obtain⟨w0,ws,ew,hw⟩:=tw.hd
 have wn:=tw.wn
 refine⟨G,q,T0,w0,ws,y,b,rfl,th,ew,hw,(tw.rg w0 (by rw[ew];exact CJ)).1,by omega,λ c=>?_,λ c p H' dn wr bt f1 f2 th'=>?_,λ c p=>absurd (ok.elim p c) id⟩
 ·exact k H q (λ _ _ _ e=>e) rfl (λ _ h=>.inl h) (by unfold jq;rw[CG c];exact th)
 ·refine k H' { q with dn:=dn,wr:=wr } (bt.mono λ x hx=>?_) rfl (λ x hx=>?_) (by unfold jq;rw[CD c];exact th')
  ·rw[Cv] at hx
   rw[hx];unfold ThL.ad;simp
  ·unfold ThL.ad at hx
   simp only[Cz,CC,C2] at hx
   rcases hx with rfl|rfl|rfl
   ·exact .inl (by unfold ThL.ad;simp)
   ·exact .inr f1
   ·exact .inr f2
theorem kj (h1:σ[i1]? = some (some (.ref l))) (h2:σ[i2]? = some (some (.int h))) (F:SqL K H l (iV ln)) (J:h<ln.length):Ev (tOp (rR K) (cM i1) (cM i2)) σ H (.int (bE ln h)):=
 λ _ k=>⟨_,h1,_,h2,l,_,h,_,rfl,rfl,F,iu (by lia) (by lia),k⟩
end
noncomputable def yL (K:W.Frag) (t:Adr):Sp:=λ vs H Q _=>∃ G L A n l ln f fs,vs=[.ref L.p,.ref l,.ref f]/\Lo K t G H L A n/\n<=30/\SqL K H l (iV ln)/\l∉L.own A/\SqL K H f (iV fs)/\f∉L.own A/\AlW A fs ln/\ky (bE ln) A.A/\(∀ i:Nat,i<A.many->A.b i<=bE ln i) /\
 ∀ G' H' L' A',Stp H H' L A L' A'->Lo K t G' H' L' A' n->Q .non H'
theorem yc (T:Txt K mg t):bq P w K mg base (CXr P w) 6 t.f_cs t.fd_cs ["self","line","fallen"] (yL K t):=by
 refine T.F_cs.okN md (λ vs H Q E h=>?_) (λ cdv A outer s H vs Q E hr h=>?_)
 ·obtain⟨G,L,A,n,l,ln,f,fs,rfl,_⟩:=h;rfl
 ·obtain⟨G,L,A,n,l,ln,f,fs,rfl,lo,hn,hl,nl,hf,nf,aw,sd,bb,k⟩:=h
  refine⟨_,(aH (cy PassesOwn.never rfl (d6 (K:=K) rfl T.no_enumerate (aJ (aO (K:=K) (pv 0) rfl) aG)) (cK (K:=K) rfl (bB (aR (i:=3) md.nd rfl (Or.inl rfl)) (bB (aR (i:=4) md.nd rfl (Or.inl rfl)) cJ)))
    (aI (bH (b9 (bO (aX (pv 4) T.cl_Thread T.me_ay (uL (K:=K) T) (hr.mono (by decide)) T.b_ay .nil aL (aJ (bo (br (K:=K)) (pv 1) (pv 3) (λ _ _=>rfl)) (aJ (cI (fJ (K:=K)) (pv 3) (pv 2) (by with_unfolding_all rfl)) aG)))))
    (aI gG)
    bp)))
   (aH (cy PassesOwn.never rfl (d6 (K:=K) rfl T.no_enumerate (aJ (aO (K:=K) (pv 0) rfl) aG)) (cK (K:=K) rfl (bB (aR (i:=3) md.nd rfl (Or.inl rfl)) (bB (aR (i:=4) md.nd rfl (Or.inl rfl)) cJ)))
    (aI (aZ (aX (pv 4) T.cl_Thread T.me_cp (yO (K:=K) T) (hr.mono (by decide)) T.b_cp .nil aL (aJ (bo (br (K:=K)) (pv 1) (pv 3) (λ _ _=>rfl)) (aJ (cI (fJ (K:=K)) (pv 3) (pv 2) (by with_unfolding_all rfl)) aG))))))
   (aH (bg (K:=K) (pv 0) (bR ["self","line","fallen","hand","thread","entry"] 1 rfl (bP (K:=K) (aO (K:=K) (pv 0) rfl)) (λ _ _ _ _ _=>⟨(aR (i:=5) (show List.Nodup (["self","line","fallen","hand","thread","entry"]:List Str) from by decide +kernel) rfl (Or.inl rfl)),(fH (bj jP (bo (bz (K:=K)) (pv 5) aN (λ _ _=>rfl)) (bo (br (K:=K)) (pv 1) (bo (bz (K:=K)) (bo (bz (K:=K)) (pv 5) aN (λ _ _=>rfl)) aN (λ _ _=>rfl)) (λ _ _=>rfl)) (bx _))),(pv 5)⟩)) rfl)
   (aI (aZ (bc (pv 0) T.cl_Loom T.me_af (zp (K:=K) T) (hr.mono (by decide)) T.b_af .nil aL)))))),?_⟩
  refine sq λ rr1 ee1=>?_
  have m2:=lo.m2
  have lts:(L.ths.map λ q=>V.ref q.p).length=A.many:=by rw[Cy,lo.c.len1]
  have fl:(iV fs).all dN=true:=by unfold iV;rw[Fn];exact D6.mpr λ _ _=>rfl
  have evf:∀ {σ:St} {H':Hp} {i:Nat},σ[3]? = some (some (.int i))->σ[2]? = some (some (.ref f))->SqL K H' f (iV fs)->Ev (tOp (rIn K true) (cM 3) (cM 2)) σ H' (.bl (decide ((i:Int)∉fs))):=λ{σ H' i} h3 h2 hf Q q=>⟨_,h3,_,h2,f,iV fs,rfl,.inl hf,rfl,fl,by rw[CG rfl,gh,<- decide_not];exact q⟩
  refine⟨_,rfl,L.p,_,L.dx,_,_,rfl,lo.c.self,T.cl_Loom,T.na_bv,rfl,L.lt,_,rfl,SqL.of lo.c.tl,dv (xs:=L.ths.map λ q=>V.ref q.p) (λ i σ H'=>aM H H'/\∃ a b,σ=[some (.ref L.p),some (.ref l),some (.ref f),a,b]) ⟨.refl _,_,_,rfl⟩ ?_ ?_ ?_⟩
  ·rintro i σ H' _ ⟨s',_⟩
   exact SqL.of (s' _ _ lo.c.tl)
  ·rintro i x p σ H1 hx np ⟨s1,a0,b0,rfl⟩
   have hi:=(Cr.mp hx).1
   rw[lts] at hi
   obtain⟨q,T0,hq,hT,th,tw,hqs⟩:=lo.at hi
   rw[hqs] at hx;cases hx
   have s2:=aM.new (o:=.tup [.int i,.ref q.p]) np
   have s02:=s1.trans s2
   refine⟨p,_,rfl,SqT.of aD,rfl,_,_,rfl,_,_,rfl,rfl,?_⟩
   generalize upd H1 p (.tup [.int i,.ref q.p])=H2 at s2 s02 ⊢
   have th2:=(lo.same s02).c.th i q T0 hq hT
   refine tm (.n rfl) th2.self rfl (.cons (kj rfl rfl (s02.seq hl) (by rw[aw.1];exact hi)) (.cons (evf rfl rfl (s02.seq hf)) .nil)) (vT th2 tw (aw.at lo hT) ⟨true,rfl,dQ ⟨s02,_,_,rfl⟩⟩)
  rintro σ H1 ⟨s1,a0,b0,rfl⟩
  refine(sn ee1 λ rr2 ee2=>?_:rr1 _ _ _)
  have lo1:=lo.same s1
  refine⟨_,rfl,L.p,_,L.dx,_,_,rfl,lo1.c.self,T.cl_Loom,T.na_bv,rfl,L.lt,_,rfl,SqL.of lo1.c.tl,dv (xs:=L.ths.map λ q=>V.ref q.p) (λ i σ H'=>(∃ q2 t2,q2.map (λ q=>V.ref q.p)=L.ths.map (λ q=>V.ref q.p)/\LoC K t G H' { L with ths:=q2 } { A with ths:=t2 }/\(∀ (j:Nat) T,A.ths[j]? = some T->t2[j]? = some (if j<i then jq T (bE ln j) (decide ((j:Int)∉fs)) else T))/\Stp H H' L A { L with ths:=q2 } { A with ths:=t2 }/\∀ xs,H L.lg=some (.lst xs)->H' L.lg=some (.lst xs))/\∃ a b,σ=[some (.ref L.p),some (.ref l),some (.ref f),a,b]) ⟨⟨L.ths,A.ths,rfl,lo1.c,λ j T h=>h,Stp.of s1,λ xs h=>s1 _ _ h⟩,_,_,rfl⟩ ?_ ?_ ?_⟩
  ·rintro i σ H' _ ⟨⟨q2,t2,eq,c,_⟩,_⟩
   have:=c.tl
   rw[show (({ L with ths:=q2 }:LoL).ths.map λ q=>V.ref q.p)=L.ths.map λ q=>V.ref q.p from eq] at this
   exact SqL.of this
  ·rintro i x p σ H2 hx np ⟨⟨q2,t2,eq,c,ct,st,lgk⟩,a0,b0,rfl⟩
   have hi:=(Cr.mp hx).1
   rw[lts] at hi
   rw[<- eq,Cw] at hx
   obtain⟨q,hq,rfl⟩:=Df.mp hx
   obtain⟨T0,e⟩:∃ T0,A.ths[i]? = some T0:=⟨_,Cs (by rw[lo.c.len2];exact hi)⟩
   have hT:=ct i T0 e
   rw[CD (DS _)] at hT
   have s3:=aM.new (o:=.tup [.int i,.ref q.p]) np
   refine⟨p,_,rfl,SqT.of aD,rfl,_,_,rfl,_,_,rfl,rfl,?_⟩
   generalize upd H2 p (.tup [.int i,.ref q.p])=H3 at s3 ⊢
   have c3:=c.same s3
   have st3:=st.trans (Stp.of s3)
   have th3:=c3.th i q T0 hq hT
   have tw:=lo.tw T0 (CB e)
   refine tm (.n rfl) th3.self rfl (.cons (kj rfl rfl (iB st3.bt nl hl) (by rw[aw.1];exact hi)) (.cons (evf rfl rfl (iB st3.bt nf hf)) .nil)) (wx th3 tw hn (aw.at lo e) λ H4 q' b4 pe fr4 th4=>?_)
   have g4:cL H3 G G H4:=⟨.refl _,th4.held,λ _ _ e=>.inl e⟩
   refine⟨⟨q2.set i q',t2.set i (jq T0 (bE ln i) (decide ((i:Int)∉fs))),?_,c3.jM hq g4 b4 th4 pe fr4,λ j T hj=>?_,st3.trans (c3.stp hq b4 fr4),λ xs h=>b4 _ _ (λ z=>c3.tb i q hq _ z (by simp)) (s3 _ _ (lgk xs h))⟩,_,_,rfl⟩
   ·rw[<- eq]
    refine Ep λ j=>?_
    rw[Cw,Cw]
    by_cases z:i=j
    ·subst z;rw[CU (Cr.mp hq).1,hq];exact congrArg (λ x=>some (V.ref x)) pe
    ·rw[C6 z]
   ·by_cases z:i=j
    ·subst z
     rw[e] at hj;cases hj
     rw[CU (Cr.mp hT).1,CG (D4 _)]
    ·rw[C6 z,ct j T hj]
     by_cases y:j<i
     ·rw[CG y,CG (by omega)]
     ·rw[CD y,CD (by omega)]
  rintro σ H2 ⟨⟨q2,t2,eq,c,ct,st,lgk⟩,a0,b0,rfl⟩
  refine(sn ee2 λ rr3 ee3=>?_:rr2 _ _ _)
  have cu:g8 A fs ln t2:=⟨by rw[lo.c.len2];exact c.len2,λ j T h=>by
   have hj:=(Cr.mp h).1
   rw[lo.c.len2] at hj
   rw[ct j T h,CG (by rw[lts];exact hj)]⟩
  obtain⟨lx,lgx,ll,lr⟩:=lo.lg
  have lg2:=lgk lx lgx
  have lr2:∀ x∈lx,qH A.many H2 x:=λ x hx=>(lr x hx).keep λ b xs e=>st.bt _ _ (lo.c.tU e) e
  refine⟨_,rfl,L.p,_,L.dx,_,_,rfl,c.self,T.cl_Loom,T.na_dl,rfl,L.lg,rfl,⟨_,SqL.of lg2⟩,cj (xs:=lx) (by omega) λ acc hacc=>⟨λ i σ2 ys H3=>(ys.length<=i/\(∀ y∈ys,y∈lx)/\H3 acc=some (.lst ys)/\aM H2 H3)/\∃ o,σ2=[some (.ref L.p),some (.ref l),some (.ref f),a0,b0,o],⟨⟨Nat.le_refl _,(λ y hy=>by cases hy),aD,aM.new hacc⟩,_,rfl⟩,?_,?_,?_⟩⟩
  ·rintro i σ2 ys H3 hi ⟨⟨le,_,_,s3⟩,_⟩
   exact⟨SqL.of (s3 _ _ lg2),le⟩
  ·rintro i v σ2 ys H3 hi hx ⟨⟨le,sub,e3,s3⟩,o,rfl⟩
   obtain⟨e,r,pl,sx,h,xs,rfl,he,hr,hh⟩:=lr2 v (CB hx)
   dsimp only[ck]
   refine⟨_,rfl,e,_,1,_,rfl,rfl,SqT.of (s3 _ _ he),rfl,_,rfl,_,rfl,e,_,0,_,rfl,rfl,SqT.of (s3 _ _ he),rfl,r,_,1,_,rfl,rfl,SqT.of (s3 _ _ hr),(show atI _ ((1:Nat):Int)=_ from cR rfl),l,_,h,_,rfl,rfl,s3.seq (iB st.bt nl hl),iu (by omega) (by rw[aw.1];omega),_,_,rfl,rfl,_,rfl,dy (λ z=>?_) λ z=>?_⟩
   ·refine⟨_,rfl,e3,Nx.mk hi ⟨⟨by rw[CA,CY];omega,λ y hy=>?_,aD,λ b u z=>?_⟩,_,rfl⟩⟩
    ·rcases CF.mp hy with hy|hy
     ·exact sub y hy
     ·rw[Cv] at hy
      rw[hy];exact CB hx
    ·rw[aE (aF z hacc)];exact s3 _ _ z
   ·exact Nx.mk hi ⟨⟨by omega,sub,e3,s3⟩,_,rfl⟩
  rintro σ2 ys H3 ⟨⟨le,sub,e3,s3⟩,o,rfl⟩
  have c3:=c.same s3
  refine⟨_,rfl,L.p,_,L.dx,_,rfl,c3.self,T.cl_Loom,T.na_dl,by show 8<1000;decide,?_⟩
  have nap:acc≠L.p:=λ z=>by rw[z,c.self] at hacc;cases hacc
  have hp4:upd H3 L.p (.ins t.c_Loom L.dx (aP "log" (.ref acc) (loF L.dz A.many A.ord L.lt L.lg L.D))) L.p=some (.ins t.c_Loom L.dx (loF L.dz A.many A.ord L.lt acc L.D)):=aD
  have e4:upd H3 L.p (.ins t.c_Loom L.dx (aP "log" (.ref acc) (loF L.dz A.many A.ord L.lt L.lg L.D))) acc=some (.lst ys):=by rw[aE nap];exact e3
  have b4:But [L.p] H3 (upd H3 L.p (.ins t.c_Loom L.dx (aP "log" (.ref acc) (loF L.dz A.many A.ord L.lt L.lg L.D)))):=But.upd
  generalize upd H3 L.p (.ins t.c_Loom L.dx (aP "log" (.ref acc) (loF L.dz A.many A.ord L.lt L.lg L.D)))=H4 at hp4 e4 b4 ⊢
  have b24:But [L.p,L.lg] H2 H4:=λ b o n z=>b4 b o (λ y=>n (by rw[Cv] at y;rw[y];simp)) (s3 _ _ z)
  have c4:=c.qV (lg:=acc) b24 hp4 e4 (.inr hacc)
  subst ee3
  refine tm (.n rfl) c4.self rfl .nil ⟨G,{ L with ths:=q2,lg:=acc },{ A with ths:=t2 },rfl,c4,cu.rk lo hn aw,λ G' H' D ta po A' bt fr c' wf et ep tai poi lw=>?_⟩
  subst et;subst ep
  have tai:TaI t2 A.many 0 A'.ta:=tai
  have poi:PoI t2 A.many 0 A'.po:=poi
  have lk:=cu.lk lo aw sd tai poi
  have st24:Stp H2 H4 { L with ths:=q2 } { A with ths:=t2 } { L with ths:=q2,lg:=acc } { A with ths:=t2 }:=by
   refine⟨rfl,b24.mono λ b hb=>LoL.dP ?_,rfl,rfl,λ _ _=>Dk _,λ b hb=>?_⟩
   ·simp only[Cz,CC,C2] at hb ⊢
    exact hb.elim .inl λ z=>.inr (.inr z)
   ·rcases LoL.cx hb with y|⟨i,r,hr,y⟩|y
    ·have y':b∈[L.p,L.lt,acc]:=y
     simp only[Cz,CC,C2] at y'
     rcases y' with rfl|rfl|rfl
     ·exact .inl (LoL.dP (by simp))
     ·exact .inl (LoL.dP (by simp))
     ·exact .inr hacc
    ·exact .inl (LoL.dS (L:={ L with ths:=q2 }) hr y)
    ·exact .inl (LoL.gz (L:={ L with ths:=q2 }) (A:={ A with ths:=t2 }) y)
  have st45:Stp H4 H' { L with ths:=q2,lg:=acc } { A with ths:=t2 } { L with ths:=q2,lg:=acc,D:=D } { A with ths:=t2,A:=A' }:=by
   refine⟨rfl,bt.mono λ b hb=>LoL.dP (by rw[Cv] at hb;rw[hb];simp),rfl,rfl,λ _ _=>Dk _,λ b hb=>?_⟩
   rcases LoL.cx hb with y|⟨i,r,hr,y⟩|y
   ·exact .inl (LoL.dP (L:={ L with ths:=q2,lg:=acc }) y)
   ·exact .inl (LoL.dS (L:={ L with ths:=q2,lg:=acc }) hr y)
   ·exact .inr (fr b y)
  have lg':H' acc=some (.lst ys):=bt _ _ (by rw[Cv];exact nap) e4
  have tk:∀ b xs,H2 b=some (.tup xs)->H' b=some (.tup xs):=λ b xs e=>by
   have np:b∉[L.p]:=by rw[Cv];exact cU e c.self (by simp)
   exact bt _ _ np (b4 _ _ np (s3 _ _ e))
  refine k G' H' _ _ (st.trans (st24.trans st45)) ⟨c',wf,lk,⟨ys,lg',by omega,λ x hx=>(lr2 x (sub x hx)).keep tk⟩,λ T2 hT2=>?_,⟨?_,lw⟩,lo.m2,lo.fr,λ j T2 h2=>?_,λ l' hl' e he ee le=>?_⟩
  ·obtain⟨j,hj⟩:=Eo (show T2∈t2 from hT2)
   obtain⟨_,_,w,_⟩:=cu.ok lo aw hj
   exact w
  ·have:=jf (b:=A.A.po.map (·.nm)) wf.nd λ z hz=>by
    obtain⟨l',hl',rfl⟩:=CL.mp hz
    obtain⟨l0,h0,e0,_⟩:=cu.old lo aw poi hl'
    rw[<- e0];exact CN h0
   rw[Cy,Cy] at this
   have:=lo.bn
   show A'.po.length<=_
   omega
  ·obtain⟨T0,hT,_,pt,_⟩:=cu.ok lo aw h2
   have hj:=(Cr.mp hT).1
   rw[lo.c.len2] at hj
   exact pt _ (lo.pts j T0 hT) (bb j hj)
  ·obtain⟨l0,h0,e0,t0⟩:=cu.old lo aw poi hl'
   obtain⟨h,p,_,z,u⟩:=tai.u1 e he
   have u0:=(lo.lk.u2 h p e.1 (cu.used lo aw u).1).1
   rw[<- z] at u0
   rw[<- e0]
   exact lo.snd l0 h0 e u0 (ee.trans e0.symm) (by rw[t0];exact le)
noncomputable def xf (K:W.Frag) (t:Adr):Sp:=λ vs H Q _=>∃ G L A n,∃ j:Nat,∃ y,vs=[.ref L.p,.int j,.int y]/\Lo K t G H L A n/\n<=30/\j<A.many/\y=A.b j/\∀ H' L' A',Stp H H' L A L' A'->Lo K t G H' L' A' n->A'.b=A.b->Q .non H'
theorem yS (T:Txt K mg t):bq P w K mg base (CXr P w) 3 t.f_ao t.fd_ao ["self","hand","place"] (xf K t):=by
 refine T.F_ao.okN AM (λ vs H Q E h=>?_) (λ cdv A outer s H vs Q E hr h=>?_)
 ·obtain⟨G,L,A,n,j,y,rfl,_⟩:=h;rfl
 ·obtain⟨G,L,A,n,j,y,rfl,lo,hn,hj,rfl,k⟩:=h
  refine⟨_,(aH (aZ (aX (pv 0) T.cl_Loom T.me_ar (lO (K:=K) T) (hr.mono (by decide)) T.b_ar .nil aL (aJ (pv 1) aG)))
   (aI (aZ (aX (bo (br (K:=K)) (aO (K:=K) (pv 0) rfl) (pv 1) (λ _ _=>rfl)) T.cl_Thread T.me_ah (zK (K:=K) T) (hr.mono (by decide)) T.b_ah .nil aL (aJ (pv 2) aG))))),?_⟩
  obtain⟨q,T0,hq,hT,th,tw,hqs⟩:=lo.at hj
  refine tm (.n rfl) lo.c.self rfl (.cons (.n rfl) .nil) (gs lo.c hj ?_)
  refine tm (fE T lo.c rfl rfl hqs) th.self rfl (.cons (.n rfl) .nil) ⟨G,q,T0,_,rfl,th,by have:=tw.wn;omega,λ kp H1 wr kept b1 nwr th1=>?_⟩
  obtain⟨tw1,pt1⟩:=tw.throw (lo.pts j T0 hT) kept
  have fr:∀ b∈ThL.ad { q with wr:=wr },b∈q.ad\/H b=none:=λ b hb=>by
   unfold ThL.ad at hb ⊢
   simp only[Cz,CC,C2] at hb ⊢
   rcases hb with h|h|h
   ·exact .inl (.inl h)
   ·exact .inl (.inr (.inl h))
   ·rw[h];exact .inr nwr
  obtain⟨lo1,st⟩:=lo.jM hq hT (b1.mono λ b hb=>by rw[Cv] at hb;rw[hb];unfold ThL.ad;simp) th1 rfl fr (Nat.le_refl n) (λ T h=>h) tw1 rfl pt1
  exact k H1 _ _ st lo1 rfl
noncomputable def Bse (A:LoA) (ln:List Int):Prop:=Gl A (dC 0 A.many) ln
theorem kW {m:Nat}{i:Nat}(h:i<m):¬ (i:Int)∉dC 0 m:=λ z=>z (dU.mpr (by omega))
theorem Bse.pt {A:LoA}{ln:List Int}(J:A.ths.length=A.many) (b:Bse A ln) {j:Nat}{T:ThA}(O:A.ths[j]? = some T):T.pt (bE ln j):=by
 have F:=(Cr.mp O).1
 rw[J] at F
 have e:=Cs (l:=ln) (i:=j) (by rw[b.1.1];exact F)
 rw[bZ e]
 exact(b.1.2 j T _ O e).elim id λ z=>absurd z.1 (kW F)
theorem Bse.uniq (F:Bse A a) (J:Bse A b):a=b:=by
 refine Ep λ i=>?_
 by_cases h:i<A.many
 ·have O:=Cs (l:=a) (i:=i) (by rw[F.1.1];exact h)
  have U:=Cs (l:=b) (i:=i) (by rw[J.1.1];exact h)
  have x:=F.2.2 b J.1 J.2.1 i h
  have y:=J.2.2 a F.1 F.2.1 i h
  rw[bZ O,bZ U] at x y
  rw[O,U]
  exact congrArg some (Int.le_antisymm y x)
 ·rw[D3 (by rw[F.1.1];lia),D3 (by rw[J.1.1];lia)]
theorem AlW.of {A:LoA}{s:List Int}(fs:List Int) (F:A.ths.length=A.many) (h:AlW A (dC 0 A.many) s):AlW A fs s:=⟨h.1,λ i T y J O=>.inl ((h.2 i T y J O).elim id λ z=>absurd z.1 (kW (by rw[<- F];exact(Cr.mp J).1)))⟩
theorem Bse.le (F:A.ths.length=A.many) (b:Bse A ln) (g:Gl A fs s) (i) (h:i<A.many):bE ln i<=bE s i:=g.2.2 ln (b.1.of fs F) b.2.1 i h
section
variable {G H:Hp}{L:LoL}{A:LoA}{n:Nat}
theorem Lo.rise (lo:Lo K t G H L A n) (b:Gl A fs ln) (h:i<A.many):A.b i<=bE ln i:=by
 have x:=b.2.2 (bsL A) (lo.bsl fs).1 (lo.bsl fs).2 i h
 rwa [bZ (mV h)] at x
theorem Lo.based (lo:Lo K t G H L A n) {ln:List Int}(b:Bse A ln):Lo K t G H L { A with b:=bE ln } n:=
 ⟨⟨lo.c.self,lo.c.tl,lo.c.th,lo.c.len1,lo.c.len2,lo.c.log,lo.c.di,lo.c.clo,lo.c.held,lo.c.gn,lo.c.td,lo.c.tb,lo.c.ll⟩,lo.wf,lo.lk,lo.lg,lo.tw,lo.bn,lo.m2,lo.fr,λ j T F=>b.pt lo.c.len2 F,b.2.1⟩
end
noncomputable def zw (K:W.Frag) (t:Adr):Sp:=λ vs H Q _=>∃ G L A n,vs=[.ref L.p]/\Lo K t G H L A n/\n<=30/\∀ l ln H',aM H H'->H l=none->H' l=some (.lst (iV ln))->Bse A ln->Q (.ref l) H'
theorem vE (T:Txt K mg t):bq P w K mg base (CXr P w) 8 t.f_dp t.fd_dp ["loom"] (zw K t):=by
 refine T.F_dp.okN yC (λ vs H Q E h=>?_) (λ J A outer s H vs Q E W h=>?_)
 ·obtain⟨G,L,A,n,rfl,_⟩:=h;rfl
 ·obtain⟨G,L,A,n,rfl,lo,V,k⟩:=h
  refine⟨_,(aI (aW (bo (bz (K:=K)) (aV (oM (K:=K) T) (W.mono (by decide)) rfl T.mg_bg T.kp_bg T.b_bg .nil aL (aJ (pv 0) (aJ (bJ (dY rfl) rfl T.no_list gO (aJ (bJ gR rfl T.no_range ir (aJ (aO (K:=K) (pv 0) rfl) aG)) aG)) aG))) aN (λ _ _=>rfl)))),?_⟩
  have m2:=lo.m2
  refine⟨_,rfl,_,rfl,L.p,_,L.dx,_,_,rfl,lo.c.self,T.cl_Loom,T.na_de,rfl,A.many,rfl,λ r nr=>?_⟩
  refine⟨r,0,A.many,rfl,aD,⟨by lia,by lia,by lia,by lia⟩,by lia,λ f Y=>?_⟩
  have F:=(aM.new (o:=.rng 0 (A.many:Int)) nr).trans (aM.new (o:=.lst (iV (dC 0 (A.many:Int)))) Y)
  exact⟨G,L,A,n,f,_,rfl,lo.same F,V,SqL.of aD,λ p l pa ln ls ns H' s' Z ep O _ _ U=>⟨p,_,0,.ref l,rfl,rfl,SqT.of ep,rfl,k l ln H' (F.trans s') (F.free Z) O U⟩⟩
noncomputable def kpF (lm td en:Addr):List (Str×V):=[("loom",.ref lm),("told",.ref td),("ends",.ref en)]
noncomputable def Ah (K:W.Frag) (t:Adr):Sp:=λ vs H Q _=>∃ H0 G L A n p dx,vs=[.ref p,.ref L.p]/\aM H0 H/\H0 p=none/\H p=some (.ins t.c_Keeper dx [])/\Lo K t G H0 L A n/\∀ H' td en,aM H0 H'->H' p=some (.ins t.c_Keeper dx (kpF L.p td en))->Q .non H'
theorem xJ (T:Txt K mg t):bq P w K mg base (CXr P w) 1 t.f_ce t.fd_ce ["self","loom"] (Ah K t):=by
 refine T.F_ce.okN Aq (λ vs H Q E h=>?_) (λ a1 A outer s H vs Q E hr h=>?_)
 ·obtain⟨Y,G,L,A,n,p,dx,rfl,_⟩:=h;rfl
 ·obtain⟨Y,G,L,A,n,p,dx,rfl,s0,np,hp,lo,k⟩:=h
  refine⟨_,(aH (bg (K:=K) (pv 0) (pv 1) rfl)
   (aH (bg (K:=K) (pv 0) (cV aG) rfl)
   (aI (bg (K:=K) (pv 0) (bR ["self","loom","hand"] 1 rfl (cf rfl T.no_range (aJ (aO (K:=K) (pv 1) rfl) aG)) (λ _ _ _ _ _=>⟨(aR (i:=2) (show List.Nodup (["self","loom","hand"]:List Str) from by decide +kernel) rfl (Or.inl rfl)),bX,aN⟩)) rfl)))),?_⟩
  have m2:=lo.m2
  have O:∀ {H1:Hp} {o:HO},aM Y H1->aM Y (upd H1 p o):=λ s b u e=>by rw[aE (aF e np)];exact s _ _ e
  refine⟨_,rfl,_,rfl,p,_,dx,_,rfl,hp,T.cl_Keeper,T.na_cj,by decide,?_⟩
  have s1:=O (o:=.ins t.c_Keeper dx (aP "loom" (.ref L.p) [])) s0
  have Z:=aD (H:=H) (a:=p) (o:=.ins t.c_Keeper dx (aP "loom" (.ref L.p) []))
  generalize upd H p (.ins t.c_Keeper dx (aP "loom" (.ref L.p) []))=H1 at s1 Z ⊢
  refine⟨by decide,λ td V=>⟨_,rfl,p,_,dx,_,rfl,(by rw[aE (aF Z V)];exact Z),T.cl_Keeper,T.na_ck,by show 1<1000;decide,?_⟩⟩
  have s2:=O (o:=.ins t.c_Keeper dx (aP "told" (.ref td) (aP "loom" (.ref L.p) []))) (s1.trans (aM.new (o:=.lst []) V))
  have e2:=aD (H:=upd H1 td (.lst [])) (a:=p) (o:=.ins t.c_Keeper dx (aP "told" (.ref td) (aP "loom" (.ref L.p) [])))
  generalize upd (upd H1 td (.lst [])) p (.ins t.c_Keeper dx (aP "told" (.ref td) (aP "loom" (.ref L.p) [])))=H2 at s2 e2 ⊢
  refine⟨_,rfl,L.p,_,L.dx,_,_,rfl,(lo.same s2).c.self,T.cl_Loom,T.na_de,rfl,(A.many:Int),rfl,by lia,by lia,cN (n:=A.many) (by lia) λ u hu=>⟨λ i F ys U=>ys.length=i/\U u=some (.lst ys)/\aM H2 U/\∃ o,F=[some (.ref p),some (.ref L.p),o],⟨rfl,aD,aM.new hu,_,rfl⟩,?_,?_,?_⟩⟩
  ·rintro i F ys U hi ⟨J,_⟩
   lia
  ·rintro i F ys U hi ⟨J,e3,W,o,rfl⟩
   dsimp only[ck,fO]
   refine cX ⟨e3,Nx.mk hi ⟨by rw[CA,J];rfl,aD,λ b v e=>?_,_,rfl⟩⟩
   rw[aE (aF e hu)];exact W _ _ e
  rintro F ys U ⟨J,e3,W,o,rfl⟩
  refine⟨_,rfl,p,_,dx,_,rfl,W _ _ e2,T.cl_Keeper,T.na_ci,by show 2<1000;decide,?_⟩
  exact k _ td u (O (s2.trans W)) aD
noncomputable def zN (K:W.Frag) (t:Adr):Sp:=λ vs H Q _=>∃ G L A n p dx fs,vs=[.ref p]/\H p=some (.ins t.c_Keeper dx fs)/\fs.lookup ("loom" : Str)=some (.ref L.p)/\p∉L.own A/\Lo K t G H L A n/\n<=30/\∀ H' L' A',Stp H H' L A L' A'->Lo K t G H' L' A' n->Q .non H'
theorem ye (T:Txt K mg t):bq P w K mg base (CXr P w) 9 t.f_br t.fd_br ["self"] (zN K t):=by
 refine T.F_br.okN rp (λ vs H Q E h=>?_) (λ a6 A outer s H vs Q E hr h=>?_)
 ·obtain⟨G,L,A,n,p,dx,fs,rfl,_⟩:=h;rfl
 ·obtain⟨G,L,A,n,p,dx,fs,rfl,hp,lk,np,lo,hn,k⟩:=h
  refine⟨_,(aI (cy PassesOwn.never rfl (d6 (K:=K) rfl T.no_enumerate (aJ (aV (vE (K:=K) T) (hr.mono (by decide)) rfl T.mg_dp T.kp_dp T.b_dp .nil aL (aJ (aO (K:=K) (pv 0) rfl) aG)) aG)) (cK (K:=K) rfl (bB (aR (i:=1) rp.nd rfl (Or.inl rfl)) (bB (aR (i:=2) rp.nd rfl (Or.inl rfl)) cJ)))
    (aI (aZ (aX (aO (K:=K) (pv 0) rfl) T.cl_Loom T.me_ao (yS (K:=K) T) (hr.mono (by decide)) T.b_ao .nil aL (aJ (pv 1) (aJ (pv 2) aG))))))),?_⟩
  refine⟨_,rfl,p,_,dx,_,_,rfl,hp,T.cl_Keeper,T.na_cj,lk,G,L,A,n,rfl,lo,hn,λ l ln H1 s1 nl el O=>?_⟩
  have a2:=lo.same s1
  have a4:l∉L.own A:=λ z=>lo.c.eS l z nl
  have a5:Stp H1 H1 L A L { A with b:=bE ln }:=⟨rfl,λ _ _ _ e=>e,rfl,rfl,λ i hi=>lo.rise O hi,λ b hb=>.inl hb⟩
  refine⟨l,_,rfl,SqL.of el,dv (xs:=iV ln) (λ i σ H'=>(∃ V J,Stp H1 H' L A V J/\Lo K t G H' V J n/\J.b=bE ln/\H' l=some (.lst (iV ln)))/\∃ a b,σ=[some (.ref p),a,b]) ⟨⟨L,_,a5,a2.based O,rfl,el⟩,_,_,rfl⟩ ?_ ?_ ?_⟩
  ·rintro i σ H' _ ⟨⟨_,_,_,_,_,e⟩,_⟩
   exact SqL.of e
  ·rintro i x q σ H2 hx nq ⟨⟨V,J,st,U,eb,W⟩,a0,b0,rfl⟩
   obtain⟨y,rfl,hy⟩:=g9 hx
   have hi:=(Cr.mp hy).1
   rw[O.1.1] at hi
   have s3:=aM.new (o:=.tup [.int i,.int y]) nq
   refine⟨q,_,rfl,SqT.of aD,rfl,_,_,rfl,_,_,rfl,rfl,?_⟩
   generalize upd H2 q (.tup [.int i,.int y])=H3 at s3 ⊢
   have Y:=U.same s3
   have F:=st.trans (Stp.of s3)
   refine tm (.f (.n rfl) (F.bt _ _ np (s1 _ _ hp)) T.cl_Keeper T.na_cj lk) (by rw[<- F.p];exact Y.c.self) rfl (.cons (.n rfl) (.cons (.n rfl) .nil)) ?_
   rw[<- F.p]
   refine⟨G,V,J,n,i,y,rfl,Y,hn,by rw[F.em];exact hi,by rw[eb,bZ hy],λ H4 L4 A4 Z a3 a1=>⟨⟨L4,A4,F.trans Z,a3,a1.trans eb,Z.bt _ _ (λ z=>?_) (s3 _ _ W)⟩,_,_,rfl⟩⟩
   exact(F.fr l z).elim a4 λ y=>by rw[el] at y;cases y
  ·rintro σ H2 ⟨⟨V,J,st,U,eb,W⟩,a0,b0,rfl⟩
   exact k H2 V J ((Stp.of s1).trans st) U
noncomputable def x8 (K:W.Frag) (t:Adr):Sp:=λ vs H Q _=>∃ G L A n f fs,vs=[.ref L.p,.ref f]/\Lo K t G H L A n/\n<=30/\SqL K H f (iV fs)/\f∉L.own A/\∀ v G' H' L' A',Stp H H' L A L' A'->Lo K t G' H' L' A' n->Q v H'
theorem Bc (T:Txt K mg t):bq P w K mg base (CXr P w) 8 t.f_dq t.fd_dq ["loom","fallen"] (x8 K t):=by
 refine T.F_dq.okN vy (λ vs H Q E h=>?_) (λ a1 A outer s H vs Q E Y h=>?_)
 ·obtain⟨G,L,A,n,f,fs,rfl,_⟩:=h;rfl
 ·obtain⟨G,L,A,n,f,fs,rfl,lo,W,V,nf,k⟩:=h
  refine⟨_,(aH (aY (i:=2) vy.nd rfl (Or.inl rfl) (aV (oM (K:=K) T) (Y.mono (by decide)) rfl T.mg_bg T.kp_bg T.b_bg .nil aL (aJ (pv 0) (aJ (pv 1) aG))))
   (aH (aZ (aX (pv 0) T.cl_Loom T.me_cs (yc (K:=K) T) (Y.mono (by decide)) T.b_cs .nil aL (aJ (bo (bz (K:=K)) (pv 2) aN (λ _ _=>rfl)) (aJ (pv 1) aG))))
   (aI (aW (pv 2))))),?_⟩
  refine tcl (.cons (.n rfl) (.cons (.n rfl) .nil)) ⟨G,L,A,n,f,fs,rfl,lo,W,V,λ p l pa ln ls ns H1 U nl ep el _ _ J=>?_⟩
  have F:=lo.same U
  refine tm (.n rfl) F.c.self rfl (vs:=[.ref l,.ref f]) (.cons (λ Q' q'=>⟨_,rfl,p,_,0,.ref l,rfl,rfl,SqT.of ep,rfl,q'⟩) (.cons (.n rfl) .nil)) ⟨G,L,A,n,l,ln,f,fs,rfl,F,W,SqL.of el,λ z=>lo.c.eS l z nl,U.seq V,nf,J.1,J.2.1,λ i hi=>lo.rise J hi,λ G' H' L' Z st O=>?_⟩
  exact⟨_,rfl,k _ G' H' L' Z ((Stp.of U).trans st) O⟩
noncomputable def frs (m c a b mm:Int):List V:=[.int m,.int c,.int a,.int b,.int mm]
noncomputable abbrev B9 (H:Hp) (f:Addr) (ws:List V):Prop:=Clo H "_law_does" "_law_program.<locals>._law_does" mI ["_law_many","_law_cell","_law_a","_law_b","_law_m"] f ws
noncomputable abbrev rS (t:Adr) (H:Hp):Prop:=ju H t.tb_bs (posOf mI) "_law_program.<locals>._law_does"
noncomputable def zW (t:Adr):Sp:=λ vs H Q _=>∃ m c:Int,vs=[.int m,.int c]/\rS t H /\
 ∀ f H' a b mm,H f=none->lK t.tb_bs H H'->rS t H'->B9 H' f (frs m c a b mm)->0<mm->(-(2 ^ 64)<a/\a<2 ^ 64)->(-(2 ^ 64)<b/\b<2 ^ 64)->Q (.ref f) H'
theorem nz (x) (h:0<=y):0<=Builtin.bitAnd x y/\Builtin.bitAnd x y<=y:=by
 unfold Builtin.bitAnd
 rw[CZ h]
 cases decide (0<=x) with
 | true=>
  have:=Nat.and_le_right (n:=x.toNat) (m:=y.toNat)
  show 0<=((x.toNat &&& y.toNat:Nat):Int)/\((x.toNat &&& y.toNat:Nat):Int)<=y
  lia
 | false=>
  have:=Nat.and_le_left (n:=y.toNat) (m:=(Builtin.bitNot x).toNat)
  show 0<=y-((y.toNat &&& (Builtin.bitNot x).toNat:Nat):Int)/\y-((y.toNat &&& (Builtin.bitNot x).toNat:Nat):Int)<=y
  lia
theorem zt (T:Txt K mg t) (V:vK mg base t):bq P w K mg base (CXr P w) 1 t.f_bs t.fd_bs ["_law_many","_law_cell"] (zW t):=by
 refine T.F_bs.okM T.cde_bs mv (λ vs H Q E h=>?_) (λ A outer s H vs Q E Y h=>?_)
 ·obtain⟨m,c,rfl,_⟩:=h;rfl
 ·obtain⟨m,c,rfl,U,k⟩:=h
  refine⟨_,(kH (aY (i:=2) mv.nd rfl (Or.inr rfl) (aU bN aN (aU gg (aU jk (pv 1) aN) aN)))
   (kH (aY (i:=3) mv.nd rfl (Or.inr rfl) (aU bN aN (aU gg (aU jk (pv 1) aN) aN)))
   (kH (aY (i:=4) mv.nd rfl (Or.inr rfl) (aU bN aN (aU gg (aU jk (pv 1) aN) aN)))
   (tK mI rfl (F:=["_law_many","_law_cell","_law_a","_law_b","_law_m"]) (ix:=[0,1,2,3,4]) (i:=5) (qual:="_law_program.<locals>._law_does") V.tb_bs rfl mv.nd rfl rfl (λ _=>rfl) (wu rfl) (by decide) yN fQ.fre fQ.isf)))),?_⟩
  refine⟨_,rfl,_,_,rfl,rfl,by show (0:Int)<=1;decide,_,_,rfl,rfl,_,_,rfl,rfl,?_⟩
  refine⟨_,rfl,_,_,rfl,rfl,by show (0:Int)<=8;decide,_,_,rfl,rfl,_,_,rfl,rfl,?_⟩
  refine⟨_,rfl,_,_,rfl,rfl,by show (0:Int)<=15;decide,_,_,rfl,rfl,_,_,rfl,rfl,?_⟩
  have Z:=nz (c/2 ^ (1:Int).toNat) (y:=127) (by decide)
  have r2:=nz (c/2 ^ (8:Int).toNat) (y:=127) (by decide)
  have r3:=nz (c/2 ^ (15:Int).toNat) (y:=1073741823) (by decide)
  refine⟨U,frs m c (1+Builtin.bitAnd (c/2 ^ (1:Int).toNat) 127) (1+Builtin.bitAnd (c/2 ^ (8:Int).toNat) 127) (101+Builtin.bitAnd (c/2 ^ (15:Int).toNat) 1073741823),rfl,λ j i e=>?_,λ f H1 W st J O=>k f H1 _ _ _ W st J O (by lia) (by lia) (by lia)⟩
  match j,e with
  | 0,e=>cases e;exact⟨_,rfl,rfl⟩
  | 1,e=>cases e;exact⟨_,rfl,rfl⟩
  | 2,e=>cases e;exact⟨_,rfl,rfl⟩
  | 3,e=>cases e;exact⟨_,rfl,rfl⟩
  | 4,e=>cases e;exact⟨_,rfl,rfl⟩
  | _+5,e=>cases e
noncomputable def AR (K:W.Frag) (t:Adr):Sp:=λ vs H Q _=>∃ (c:Int) (m:Nat),vs=[.int m,.int c]/\m<=5 /\
 ∀ (l:Addr) (has:List Addr) (hbs:List fZ) (H':Hp),aM H H'->H l=none->H' l=some (.lst (has.map V.ref))->has.length=m->hbs.length=m->(∀ (i:Nat) ha hb,has[i]? = some ha->hbs[i]? = some hb->gU t H' ha hb)->Q (.ref l) H'
theorem Am (T:Txt K mg t):bq P w K mg base (CXr P w) 4 t.f_cf t.fd_cf ["_law_many","_law_cell"] (AR K t):=by
 refine T.F_cf.okN oC (λ vs H Q E h=>?_) (λ cdv A outer s H vs Q E hr h=>?_)
 ·obtain⟨c,m,rfl,_⟩:=h;rfl
 ·obtain⟨c,m,rfl,m1,k⟩:=h
  refine⟨_,(aH (aY (i:=2) oC.nd rfl (Or.inl rfl) (cV aG))
   (aH (cy PassesOwn.never rfl (cf rfl T.no_range (aJ (pv 0) aG)) (aR (i:=3) oC.nd rfl (Or.inl rfl))
    (aH (aY (i:=4) oC.nd rfl (Or.inl rfl) (aV (jj (K:=K) T) (hr.mono (by decide)) rfl T.mg_cq T.kp_cq T.b_cq .nil aL (aJ (pv 1) (aJ (pv 3) aG))))
   (aI (aZ (cW (K:=K) Dl Dy Dx bU (pv 2) (aJ (bo (br (K:=K)) (cV (aJ (kZ T.mk_Never rfl T.mg_Never) (aJ (kZ T.mk_Each rfl T.mg_Each) (aJ (dI T.mk_Bundle (vn (K:=K) T) (hr.mono (by decide)) rfl T.mg_Bundle T.b_bz .nil aL (aJ (aU bN aN (aU bS (aU df (pv 4) aN) aN)) aG)) (aJ (dI T.mk_Bundle (vn (K:=K) T) (hr.mono (by decide)) rfl T.mg_Bundle T.b_bz .nil aL (aJ (aU bN aN (aU bS (aU df (pv 4) aN) aN)) aG)) aG))))) (aU bS (pv 4) aN) (λ _ _=>rfl)) aG))))))
   (aI (aW (pv 2))))),?_⟩
  refine⟨by decide,λ l hl=>?_⟩
  refine⟨_,rfl,(m:Int),rfl,by lia,by lia,gM (lo:=0)
   (λ i σ H2=>(∃ (has:List Addr) (hbs:List fZ),has.length=i/\hbs.length=i/\H2 l=some (.lst (has.map V.ref))/\aM H H2/\∀ (j:Nat) ha hb,has[j]? = some ha->hbs[j]? = some hb->ha≠l/\gU t H2 ha hb)/\∃ o1 o2,σ=[some (.int m),some (.int c),some (.ref l),o1,o2])
   ⟨⟨[],[],rfl,rfl,aD,aM.new hl,(λ j ha hb e=>by simp at e)⟩,_,_,rfl⟩ ?_ ?_⟩
  ·rintro i σ H2 hi ⟨⟨has,hbs,l1,l2,el,s2,hh⟩,o1,o2,rfl⟩
   refine tcl (.cons (.n rfl) (.cons (.n rfl) .nil)) ⟨c,_,rfl,by lia,by lia,λ d=>?_⟩
   refine⟨_,rfl,.inl ⟨rfl,_,SqL.of el⟩,?_⟩
   have fin:∀ (H6:Hp) (q:Addr) (hb:fZ),aM H2 H6->H2 q=none->gU t H6 q hb ->
     ∃ (has':List Addr) (hbs':List fZ),has'.length=i+1/\hbs'.length=i+1/\upd H6 l (.lst (has.map V.ref++[.ref q])) l=some (.lst (has'.map V.ref))/\aM H (upd H6 l (.lst (has.map V.ref++[.ref q]))) /\
      ∀ (j:Nat) ha hb,has'[j]? = some ha->hbs'[j]? = some hb->ha≠l/\gU t (upd H6 l (.lst (has.map V.ref++[.ref q]))) ha hb:=λ H6 q hb s6 nq hq=>by
    have up:∀ {ha:Addr} {hb:fZ},ha≠l->gU t H6 ha hb->gU t (upd H6 l (.lst (has.map V.ref++[.ref q]))) ha hb:=λ{ha hb} n h=>by
     cases hb<;>exact let ⟨dx,z⟩:=h;⟨dx,by rw[aE n];exact z⟩
    refine⟨has++[q],hbs++[hb],by simp[l1],by simp[l2],by rw[aD,CP];rfl,λ c u e=>?_,λ j ha hb' e1 e2=>?_⟩
    ·rw[aE (aF e hl)];exact s6 _ _ (s2 _ _ e)
    ·rcases Fy j i with g|g|g
     ·rw[Dv (by lia)] at e1 e2
      obtain⟨n,h⟩:=hh j ha hb' e1 e2
      exact⟨n,up n (h.same s6)⟩
     ·subst g
      rw[C3 (by lia),l1,Eb] at e1
      rw[C3 (by lia),l2,Eb] at e2
      have n:q≠l:=λ z=>by rw[z,el] at nq;cases nq
      cases e1;cases e2
      exact⟨n,up n hq⟩
     ·rw[D3 (by rw[CA,CY];lia)] at e1;cases e1
   intro q1 x1 n1 m1' w1 q2 x2 n2 m2 w2
   have t0:=DU (d/4) (b:=20) (by decide)
   have t1:=DE (d/4) (b:=20) (by decide)
   have t2:=DU (d/4) (b:=4) (by decide)
   have t3:=DE (d/4) (b:=4) (by decide)
   refine⟨_,rfl,_,_,rfl,rfl,⟨by decide,by decide⟩,_,_,rfl,rfl,by show (0:Int)<20;decide,_,_,rfl,rfl,λ q3 x3 n3 m3 w3=>⟨q3,x3,_,rfl,aD,λ _ _=>⟨rfl,?_⟩,λ z=>absurd ⟨by lia,by lia⟩ z⟩⟩
   refine⟨_,rfl,_,_,rfl,rfl,⟨by decide,by decide⟩,_,_,rfl,rfl,by show (0:Int)<4;decide,_,_,rfl,rfl,λ q4 x4 n4 m4 w4=>⟨q4,x4,_,rfl,aD,λ _ _=>⟨rfl,by show 4<=sizeLine;decide,λ b nb=>?_⟩,λ z=>absurd ⟨by lia,by lia⟩ z⟩⟩
   have s1:=aM.ins (o:=.ins t.c_Never x1 []) n1 m1'
   have s2':=aM.ins (o:=.ins t.c_Each x2 []) n2 m2
   have s3:=aM.ins (o:=.ins t.c_Bundle x3 []) n3 m3
   generalize e1:upd (upd H2 x1 (HO.own q1)) q1 (HO.ins t.c_Never x1 [])=J1 at *
   generalize e2:upd (upd J1 x2 (HO.own q2)) q2 (HO.ins t.c_Each x2 [])=J2 at *
   generalize e3:upd (upd J2 x3 (HO.own q3)) q3 (HO.ins t.c_Bundle x3 [])=J3 at *
   have s4:aM J2 (upd J3 q3 (.ins t.c_Bundle x3 (aP "size" (.int (1+d/4%20)) []))):=λ c u e=>by
    rw[aE (aF e n3)];exact s3 _ _ e
   have h3:=aD (H:=J3) (a:=q3) (o:=.ins t.c_Bundle x3 (aP "size" (.int (1+d/4%20)) []))
   generalize upd J3 q3 (.ins t.c_Bundle x3 (aP "size" (.int (1+d/4%20)) []))=J4 at *
   have s5:=aM.ins (o:=.ins t.c_Bundle x4 []) n4 m4
   have s6:aM J4 (upd (upd (upd J4 x4 (.own q4)) q4 (.ins t.c_Bundle x4 [])) q4 (.ins t.c_Bundle x4 (aP "size" (.int (1+d/4%4)) []))):=λ c u e=>by
    rw[aE (aF e n4)];exact s5 _ _ e
   have h4:=aD (H:=upd (upd J4 x4 (.own q4)) q4 (.ins t.c_Bundle x4 [])) (a:=q4) (o:=.ins t.c_Bundle x4 (aP "size" (.int (1+d/4%4)) []))
   generalize upd (upd (upd J4 x4 (.own q4)) q4 (.ins t.c_Bundle x4 [])) q4 (.ins t.c_Bundle x4 (aP "size" (.int (1+d/4%4)) []))=J5 at *
   have s7:=aM.new (o:=.lst [.ref q1,.ref q2,.ref q3,.ref q4]) nb
   have sa4:=s6.trans s7
   have sa2:=s4.trans sa4
   have sa1:=s2'.trans sa2
   have sa:aM H2 _:=s1.trans sa1
   have cs:d%4=0\/d%4=1\/d%4=2\/d%4=3:=by lia
   have la':(has.map V.ref).length<sizeLine:=by rw[Cy];exact DK (show has.length<=5 by rw[Dm] at hi;lia) (by decide)
   obtain⟨q,hb,i0,e,g,nq,hq⟩:∃ q hb,∃ i0:Nat,d%4=i0/\([V.ref q1,.ref q2,.ref q3,.ref q4]:List V)[i0]? = some (.ref q)/\H2 q=none/\gU t (upd J5 b (.lst [.ref q1,.ref q2,.ref q3,.ref q4])) q hb:=by
    rcases cs with e|e|e|e
    ·exact⟨q1,.never,0,e,rfl,n1,x1,sa1 _ _ (by rw[<- e1];exact aD)⟩
    ·exact⟨q2,.each,1,e,rfl,s1.free n2,x2,sa2 _ _ (by rw[<- e2];exact aD)⟩
    ·exact⟨q3,.bundle (1+d/4%20),2,e,rfl,(s1.trans s2').free n3,x3,sa4 _ _ h3⟩
    ·exact⟨q4,.bundle (1+d/4%4),3,e,rfl,(s1.trans (s2'.trans s4)).free n4,x4,s7 _ _ h4⟩
   exact⟨_,rfl,_,_,rfl,rfl,by show (0:Int)<4;decide,b,_,_,.ref q,rfl,rfl,SqL.of aD,(by rw[e];exact cR g),l,_,.ref q,rfl,rfl,sa _ _ el,la',fin _ q hb sa nq hq,_,_,rfl⟩
  ·rintro σ H2 ⟨⟨has,hbs,l1,l2,el,s2,hh⟩,o1,o2,rfl⟩
   rw[Dm] at l1 l2
   exact⟨_,rfl,k l has hbs H2 s2 hl el l1 l2 λ j ha hb e1 e2=>(hh j ha hb e1 e2).2⟩
noncomputable def zm (K:W.Frag) (t:Adr):Sp:=λ vs H Q _=>∃ a ns,vs=[.ref a]/\SqL K H a (iV ns)/\rS t H /\
 ∀ G H' L A,Lo K t G H' L A 0->SqL K H' a (iV ns)->(a∉L.own A\/∀ H'',SqL K H'' a (iV ns))->(∀ i:Nat,0<=A.b i)->Q (.ref L.p) H'
theorem zE (T:Txt K mg t) (Tb:vK mg base t):bq P w K mg base (CXr P w) 5 t.f_db t.fd_db ["_law_script"] (zm K t):=by
 refine T.F_db.okN lz (λ vs H Q E h=>?_) (λ cdv A outer s H vs Q E hr h=>?_)
 ·obtain⟨a,ns,rfl,_⟩:=h;rfl
 ·obtain⟨a,ns,rfl,ha,tab,k⟩:=h
  refine⟨_,(aH (aY (i:=1) lz.nd rfl (Or.inl rfl) (aV (jG (K:=K) T) (hr.mono (by decide)) rfl T.mg_bj T.kp_bj T.b_bj .nil aL (aJ (pv 0) (aJ aN aG))))
   (aH (aY (i:=2) lz.nd rfl (Or.inl rfl) (aU bN aN (aU bS (aV (jj (K:=K) T) (hr.mono (by decide)) rfl T.mg_cq T.kp_cq T.b_cq .nil aL (aJ (pv 1) (aJ aN aG))) aN)))
   (aH (dA ["_law_script","_law_cell","_law_many","_law_starts","_law_habits_here","_law_hand"] 1 (i:=3) rfl lz.nd rfl (Or.inl rfl) (cf rfl T.no_range (aJ (pv 2) aG)) (λ _ _ _ _ _=>⟨(aR (i:=5) (show List.Nodup (["_law_script","_law_cell","_law_many","_law_starts","_law_habits_here","_law_hand"]:List Str) from by decide +kernel) rfl (Or.inl rfl)),bX,(aV (jj (K:=K) T) (hr.mono (by decide)) rfl T.mg_cq T.kp_cq T.b_cq .nil aL (aJ (aV (jG (K:=K) T) (hr.mono (by decide)) rfl T.mg_bj T.kp_bj T.b_bj .nil aL (aJ (pv 0) (aJ aN aG))) (aJ (pv 5) aG)))⟩))
   (aH (aY (i:=4) lz.nd rfl (Or.inl rfl) (aV (Am (K:=K) T) (hr.mono (by decide)) rfl T.mg_cf T.kp_cf T.b_cf .nil aL (aJ (pv 2) (aJ (aV (jG (K:=K) T) (hr.mono (by decide)) rfl T.mg_bj T.kp_bj T.b_bj .nil aL (aJ (pv 0) (aJ aN aG))) aG))))
   (aI (aW (dI T.mk_Loom (xm (K:=K) T) (hr.mono (by decide)) rfl T.mg_Loom T.b_da .nil aL (aJ (aV (zt (K:=K) T Tb) (hr.mono (by decide)) rfl T.mg_bs T.kp_bs T.b_bs .nil aL (aJ (pv 2) (aJ (aV (jG (K:=K) T) (hr.mono (by decide)) rfl T.mg_bj T.kp_bj T.b_bj .nil aL (aJ (pv 0) (aJ aN aG))) aG))) (aJ (pv 3) (aJ (pv 4) (aJ (cI eY (aU bS (aV (jj (K:=K) T) (hr.mono (by decide)) rfl T.mg_cq T.kp_cq T.b_cq .nil aL (aJ (pv 1) (aJ aN aG))) aN) aN (bx _)) aG))))))))))),?_⟩
  refine tcl (.cons (.n rfl) (.cons .c .nil)) ⟨a,ns,0,rfl,ha,by decide,λ c0=>?_⟩
  refine tcl (.cons (.n rfl) (.cons .c .nil)) ⟨c0,0,rfl,by decide,by decide,λ d=>⟨_,_,rfl,rfl,by show (0:Int)<4;decide,_,_,rfl,rfl,?_⟩⟩
  have x0:=DU d (b:=4) (by decide)
  have x1:=DE d (b:=4) (by decide)
  obtain⟨m,hm⟩:∃ m:Nat,2+d%4=(m:Int):=⟨(2+d%4).toNat,by lia⟩
  dsimp only
  rw[hm]
  refine⟨_,rfl,(m:Int),rfl,by lia,by lia,cN (n:=(m:Int).toNat) (by lia) λ acc hacc=>⟨λ i σ2 ys H3=>(∃ sts,sts.length=i/\ys=iV sts/\H3 acc=some (.lst ys)/\aM H H3)/\∃ o,σ2=[some (.ref a),some (.int c0),some (.int m),none,none,o],⟨⟨[],rfl,rfl,aD,aM.new hacc⟩,_,rfl⟩,?_,?_,?_⟩⟩
  ·rintro i σ2 ys H3 hi ⟨⟨sts,len,rfl,_⟩,_⟩
   rw[cz];lia
  ·rintro i σ2 ys H3 hi ⟨⟨sts,len,rfl,e3,s3⟩,o,rfl⟩
   dsimp only[ck,fO]
   refine cX ⟨_,rfl,a,ns,1,rfl,s3.seq ha,by decide,λ c1=>⟨_,rfl,c1,_,rfl,by lia,by lia,λ e=>⟨e3,Nx.mk hi ⟨⟨sts++[e],by rw[CA,len];rfl,iD,aD,λ c u z=>?_⟩,_,rfl⟩⟩⟩⟩
   rw[aE (aF z hacc)];exact s3 _ _ z
  rintro σ2 ys H3 ⟨⟨sts,len,rfl,e3,s3⟩,o,rfl⟩
  rw[Dm] at len
  refine⟨_,rfl,_,rfl,a,ns,2,rfl,s3.seq ha,by decide,λ c2=>⟨c2,m,rfl,by lia,λ lh has hbs H4 s4 nlh elh len1 len2 hab=>?_⟩⟩
  have s34:=s3.trans s4
  have tab4:rS t H4:=ju.same (λ b o u e=>s34 _ _ e) (by obtain⟨ps,y⟩:=tab.get;rw[y,s34 _ _ y]) tab
  refine⟨_,rfl,_,rfl,a,ns,3,rfl,s34.seq ha,by decide,λ c3=>⟨m,c3,rfl,tab4,λ f H5 fa fb fm nf st tab5 clo p1 p2 p3=>?_⟩⟩
  have keep:∀ b o,H4 b=some o->(∀ ps,o≠.tbl ps)->H5 b=some o:=λ b o e nt=>st b o (λ z=>by
   obtain⟨ps,y⟩:=tab4.get
   rw[z,y] at e;exact nt ps (Option.some.inj e).symm) e
  have ha5:SqL K H5 a (iV ns):=by
   rcases s34.seq ha with (h|⟨o,h⟩)|h
   ·exact .inl (.inl (keep _ _ h λ ps z=>by cases z))
   ·exact .inl (.inr ⟨o,keep _ _ h λ ps z=>by cases z⟩)
   ·exact .inr h
  have e5:=keep _ _ (s4 _ _ e3) (λ ps z=>by cases z)
  have elh5:=keep _ _ elh (λ ps z=>by cases z)
  have hab5:∀ (i:Nat) h hb,has[i]? = some h->hbs[i]? = some hb->gU t H5 h hb:=λ i h hb z1 z2=>by
   have:=hab i h hb z1 z2
   cases hb<;>exact let ⟨dx,z⟩:=this;⟨dx,keep _ _ z λ ps z=>by cases z⟩
  refine⟨_,rfl,_,rfl,_,rfl,c0,1,rfl,by decide,by decide,λ d2=>⟨_,_,rfl,rfl,by show (0:Int)<2;decide,rfl,λ x dx nx ndx nex=>?_⟩⟩
  have s6:=aM.ins (o:=.ins t.c_Loom dx []) nx ndx
  refine⟨H5,x,dx,f,acc,lh,m,has,hbs,_,sts,fa,fb,fm,c3,rfl,aD,s6,nx,SqL.of (s6 _ _ e5),len,SqL.of (s6 _ _ elh5),len1,len2,hab5,clo,p1,p2,p3,by lia,by lia,λ H7 L ep ow kp lo7=>⟨rfl,?_⟩⟩
  subst ep
  have keep7:∀ b o,H5 b=some o->H7 b=some o:=λ b o e=>kp b o (aF e nx) (s6 _ _ e)
  have no:∀ {o:HO},H5 a=some o->a∉L.own (qJ m (decide (V.int (d2%2)=V.int 1)) (frs m c3 fa fb fm) sts hbs):=λ{o} e z=>by
   rcases ow a z with y|y
   ·exact aF e nx y
   ·rw[s6 _ _ e] at y;cases y
  refine k H5 H7 L _ lo7 ?_ ?_ λ _=>Dk _
  ·rcases ha5 with (h|⟨o,h⟩)|h
   ·exact .inl (.inl (keep7 _ _ h))
   ·exact .inl (.inr ⟨o,keep7 _ _ h⟩)
   ·exact .inr h
  ·rcases ha5 with (h|⟨o,h⟩)|h
   ·exact .inl (no h)
   ·exact .inl (no h)
   ·exact .inr λ H''=>.inr h
noncomputable def eG (A:LoA) (H:Hp) (v:V):Prop:=∃ b,v=.ref b/\((∃ (j:Nat),j<A.many/\H b=some (.tup [.str "own",.int j]))\/(∃ (j:Nat),j<A.many/\H b=some (.tup [.str "write",.int j])) \/
 ∃ (j:Nat) (c:Addr) (l:cF),j<A.many/\H b=some (.tup [.str "use",.int j,.ref c])/\H c=some (.tup (nV l.nm))/\l∈A.A.po/\l.nm∉A.A.ta.map (·.1)/\l.to=j/\(A.ord=true->∀ l'∈A.A.po,l'.nm∉A.A.ta.map (·.1)->l'.nm.1=l.nm.1->l'.to=l.to->cd3 l.nm<=cd3 l'.nm))
theorem eG.keep (s:∀ b xs,H b=some (.tup xs)->H' b=some (.tup xs)) (h:eG A H v):eG A H' v:=by
 obtain⟨b,e,h⟩:=h
 refine⟨b,e,?_⟩
 rcases h with ⟨j,h1,h2⟩|⟨j,h1,h2⟩|⟨j,c,l,h1,h2,F,J⟩
 ·exact .inl ⟨j,h1,s _ _ h2⟩
 ·exact .inr (.inl ⟨j,h1,s _ _ h2⟩)
 ·exact .inr (.inr ⟨j,c,l,h1,s _ _ h2,s _ _ F,J⟩)
theorem lY:∀ {F:List (Addr×Int×Int)},(∀ x∈F,H x.1=some (.tup [.int x.2.1,.int x.2.2]))->cp K H (F.map λ x=>V.ref x.1) ((F.map (·.2)).map prD)
 | [],_=>.nil
 | x::F,h=>.cons (.tup (SqT.of (h x CJ)) (.cons (.int _) (.cons (.int _) .nil))) (lY λ y J=>h y (CH _ J))
noncomputable def AU (A:LoA) (L:LoL) (H4:Hp) (fl wl ds:Addr) (ns:List Nm3) (i:Nat) (σ:St) (H:Hp):Prop:=∃ (fs:List V) (qs:List (Addr×Int×Int)) (o4 o5:Option V),H fl=some (.lst fs)/\fs.length<=i/\(∀ v∈fs,eG A H v)/\H wl=some (.lst (qs.map λ x:Addr×Int×Int=>V.ref x.1))/\qs.length<=i/\(∀ x∈qs,H x.1=some (.tup [.int x.2.1,.int x.2.2])) /\
 (∀ j,j<i->∀ x∈A.A.po,ns[j]? = some x.nm->(x.nm.1,x.to)∈qs.map (·.2))/\(∀ c u,c≠fl->c≠wl->H4 c=some u->H c=some u)/\σ=[some (.ref L.p),some (.ref ds),some (.ref fl),some (.ref wl),o4,o5,none]
noncomputable def yy (K:W.Frag) (t:Adr):Sp:=λ vs H Q _=>∃ G L A n,vs=[.ref L.p]/\Lo K t G H L A n/\n<=30/\∀ l ds H',aM H H'->H l=none->H' l=some (.lst ds)->0<ds.length->ds.length<=300->(∀ v∈ds,eG A H' v)->Q (.ref l) H'
theorem lP {A:LoA}{H:Hp}{hl:Addr}{w:Str}{x0 x1 x2 x3 x4 x5:Option V}{Q:VK}(m5:A.many<=5) (hw:w = "own" \/ w = "write") (hh:H hl=some (.lst (iV (dC 0 (A.many:Int)))))
  (k:∀ l ds H',aM H H'->H l=none->H' l=some (.lst ds)->ds.length=A.many->(∀ v∈ds,eG A H' v)->Q (.ref l) H'):nU (oH K (cM 6)) 1 (ck 7) fO (Ad (ic (tC (.str w)) (ic (cM 7) nA))) [x0,x1,x2,x3,x4,x5,some (.ref hl)] H Q:=by
 have rl:(iV (dC 0 (A.many:Int))).length=A.many:=by rw[cz,dG];omega
 refine⟨_,rfl,hl,rfl,⟨_,SqL.of hh⟩,cj (xs:=iV (dC 0 (A.many:Int))) (by omega) λ acc F=>⟨λ i O ys H2=>(ys.length=i/\H2 acc=some (.lst ys)/\aM H H2/\∀ v∈ys,eG A H2 v)/\∃ o,O=[x0,x1,x2,x3,x4,x5,some (.ref hl),o],⟨⟨rfl,aD,aM.new F,(λ v U=>by cases U)⟩,_,rfl⟩,?_,?_,?_⟩⟩
 ·rintro i O ys H2 hi ⟨⟨J,_,W,_⟩,_⟩
  exact⟨SqL.of (W _ _ hh),by omega⟩
 ·rintro i x O ys H2 hi hx ⟨⟨J,Z,W,al⟩,o,rfl⟩
  obtain⟨j,rfl,hj⟩:=g9 hx
  have rg:=dU.mp (CB hj)
  dsimp only[ck,fO]
  refine cX ⟨_,rfl,by show 2<=sizeLine;decide,λ p np=>?_⟩
  have Y:=aM.new (o:=.tup [.str w,.int j]) np
  have e3:=aD (H:=H2) (a:=p) (o:=.tup [.str w,.int j])
  generalize upd H2 p (.tup [.str w,.int j])=H3 at Y e3 ⊢
  have tk:∀ c xs,H3 c=some (.tup xs)->upd H3 acc (.lst (ys++[.ref p])) c=some (.tup xs):=λ c xs e=>by rw[aE (λ z=>by rw[z,Y _ _ Z] at e;cases e)];exact e
  refine⟨Y _ _ Z,Nx.mk hi ⟨⟨by rw[CA,J];rfl,aD,λ c u e=>?_,λ v U=>?_⟩,_,rfl⟩⟩
  ·rw[aE (aF e F)];exact Y _ _ (W _ _ e)
  ·rcases CF.mp U with U|U
   ·exact(al v U).keep λ c xs e=>tk _ _ (Y _ _ e)
   ·rw[Cv] at U
    subst U
    have ej:V.int j=V.int (j.toNat:Int):=by rw[Int.toNat_of_nonneg rg.1]
    rw[ej] at e3
    rcases hw with rfl|rfl
    ·exact⟨p,rfl,.inl ⟨j.toNat,by omega,tk _ _ e3⟩⟩
    ·exact⟨p,rfl,.inr (.inl ⟨j.toNat,by omega,tk _ _ e3⟩)⟩
 ·rintro O ys H2 ⟨⟨J,Z,W,al⟩,o,rfl⟩
  exact k acc ys H2 W F Z (J.trans rl) al
theorem yg (T:Txt K mg t):bq P w K mg base (CXr P w) 2 t.f_bt t.fd_bt ["_law_loom_here"] (yy K t):=by
 refine T.F_bt.okN jn (λ vs H Q E h=>?_) (λ cdv A outer s H vs Q E hr h=>?_)
 ·obtain⟨G,L,A,n,rfl,_⟩:=h;rfl
 ·obtain⟨G,L,A,n,rfl,lo,hn,k⟩:=h
  refine⟨_,(aH (aY (i:=1) jn.nd rfl (Or.inl rfl) (bc (pv 0) T.cl_Loom T.me_aj (uI (K:=K) T) (hr.mono (by decide)) T.b_aj .nil aL))
   (aH (aY (i:=2) jn.nd rfl (Or.inl rfl) (cV aG))
   (aH (aY (i:=3) jn.nd rfl (Or.inl rfl) (cV aG))
   (aH (cy PassesOwn.never rfl (bP (K:=K) (bc (pv 0) T.cl_Loom T.me_cz (Ar (K:=K) T) (hr.mono (by decide)) T.b_cz .nil aL)) (aR (i:=4) jn.nd rfl (Or.inl rfl))
    (aH (aY (i:=5) jn.nd rfl (Or.inl rfl) (cB (aJ (bo (bz (K:=K)) (pv 4) aN (λ _ _=>rfl)) (aJ (bo (bz (K:=K)) (cP (cm hr) (pv 1) (pv 4) (λ _ _=>rfl)) aN (λ _ _=>rfl)) aG))))
   (aH (bH (PW.pt (eX (b9 (bO (aO (K:=K) (pv 0) rfl))) (fD (bj (pD hr.units (K:=K)) (pv 5) (pv 3) (by with_unfolding_all rfl)))))
    (aI (aZ (cW (K:=K) Dl Dy Dx bU (pv 2) (aJ (cB (aJ dk (aJ (bo (bz (K:=K)) (cP (cm hr) (pv 1) (pv 4) (λ _ _=>rfl)) aN (λ _ _=>rfl)) (aJ (pv 4) aG)))) aG))))
    bp)
   (aI (aZ (cW (K:=K) Dl Dy Dx bU (pv 3) (aJ (pv 5) aG)))))))
   (aH (aY (i:=6) jn.nd rfl (Or.inl rfl) (bJ (dY rfl) rfl T.no_list gO (aJ (bJ gR rfl T.no_range ir (aJ (aO (K:=K) (pv 0) rfl) aG)) aG)))
   (aI (aW (aU nH (aU nH (aU nH (pv 2) (pv 2)) (bR ["_law_loom_here","_law_sent","_law_found","_law_ways","_law_name","_law_way","_law_hands","_law_hand"] 1 rfl (bP (K:=K) (pv 6)) (λ _ _ _ _ _=>⟨(aR (i:=7) (show List.Nodup (["_law_loom_here","_law_sent","_law_found","_law_ways","_law_name","_law_way","_law_hands","_law_hand"]:List Str) from by decide +kernel) rfl (Or.inl rfl)),bX,(cB (aJ dk (aJ (pv 7) aG)))⟩))) (bR ["_law_loom_here","_law_sent","_law_found","_law_ways","_law_name","_law_way","_law_hands","_law_hand"] 1 rfl (bP (K:=K) (pv 6)) (λ _ _ _ _ _=>⟨(aR (i:=7) (show List.Nodup (["_law_loom_here","_law_sent","_law_found","_law_ways","_law_name","_law_way","_law_hands","_law_hand"]:List Str) from by decide +kernel) rfl (Or.inl rfl)),bX,(cB (aJ dk (aJ (pv 7) aG)))⟩)))))))))),?_⟩
  refine sq λ rr1 ee1=>?_
  have m2:=lo.m2
  refine tm (.n rfl) lo.c.self rfl .nil ⟨G,L,A,n,rfl,lo,hn,λ ds H1 s1 nds eds=>?_⟩
  refine(sn ee1 λ rr2 ee2=>?_:rr1 _ _ _)
  refine⟨by decide,λ fl nfl=>?_⟩
  have s2:=aM.new (o:=.lst []) nfl
  have e2:=aD (H:=H1) (a:=fl) (o:=.lst [])
  generalize upd H1 fl (.lst [])=H2 at s2 e2 ⊢
  refine(sn ee2 λ rr3 ee3=>?_:rr2 _ _ _)
  refine⟨by decide,λ wl nwl=>?_⟩
  have s3:=aM.new (o:=.lst []) nwl
  have e3:=aD (H:=H2) (a:=wl) (o:=.lst [])
  generalize upd H2 wl (.lst [])=H3 at s3 e3 ⊢
  have s03:=(s1.trans s2).trans s3
  refine(sn ee3 λ rr4 ee4=>?_:rr3 _ _ _)
  refine tm (.n rfl) (lo.same s03).c.self rfl .nil ⟨G,L,A,n,rfl,lo.same s03,hn,λ r ls ns H4 s4 nr er nl as pm=>?_⟩
  have s04:=s03.trans s4
  have el4:=(s3.trans s4) _ _ e2
  have ew4:=s4 _ _ e3
  have ed4:=((s2.trans s3).trans s4) _ _ eds
  have lw:fl≠wl:=λ z=>by rw[<- z,e2] at nwl;cases nwl
  have rl:r≠fl:=λ z=>by rw[z,s3 _ _ e2] at nr;cases nr
  have rw':r≠wl:=λ z=>by rw[z,e3] at nr;cases nr
  have dl:ds≠fl:=λ z=>by rw[z,el4] at ed4;cases ed4
  have dw:ds≠wl:=λ z=>by rw[z,ew4] at ed4;cases ed4
  have nfl0:H fl=none:=s1.free nfl
  have nwl0:H wl=none:=(s1.trans s2).free nwl
  have nsl:ns.length<=90:=by
   rw[pm.length_eq,Cy]
   have:=DI (λ l:cF=>decide (l.nm∉A.A.ta.map (·.1))) A.A.po
   have:=lo.bn
   unfold DiA.free;omega
  have lsl:=nl.len
  have frame:∀ {H5:Hp},(∀ c u,c≠fl->c≠wl->H4 c=some u->H5 c=some u)->aM H H5:=λ{H5} h c u e=>h c u (aF e nfl0) (aF e nwl0) (s04 _ _ e)
  refine⟨r,rfl,⟨_,SqL.of er⟩,iE (xs:=ls) (AU A L H4 fl wl ds ns) ⟨[],[],_,_,el4,Nat.le_refl _,(λ v hv=>by cases hv),ew4,Nat.le_refl _,(λ x hx=>by cases hx),(λ j hj=>absurd hj (Nat.not_lt_zero _)),λ c u _ _ e=>e,rfl⟩ ?_ ?_ ?_⟩
  ·rintro i σ2 H5 _ ⟨fs,qs,o4,o5,_,_,_,_,_,_,_,fr,_⟩
   exact SqL.of (fr _ _ rl rw' er)
  ·rintro i x σ2 H5 hx ⟨fs,qs,o4,o5,f1,f2,f3,f4,f5,f6,f7,fr,rfl⟩
   have i90:i<90:=by have:=(Cr.mp hx).1;omega
   obtain⟨n0,b,rfl,hb⟩:∃ n0,fY H4 x n0:=⟨_,nl.all x (CB hx)⟩
   have hn0:ns[i]? = some n0:=by
    rw[<- nl.eq,Cw,hx]
    exact congrArg some (fY.of ⟨b,rfl,hb⟩)
   obtain⟨l0,hl0,rfl⟩:=CL.mp (pm.mem_iff.mp (CB hn0))
   obtain⟨hp0,ht0⟩:=Dj.mp hl0
   have ht0:l0.nm∉A.A.ta.map (·.1):=Dr ht0
   have v1:bV (A.A.po.map λ l=>(nk l.nm,V.ref l.adr)) (nk l0.nm)=some (.ref l0.adr):=cG (λ l:cF=>nk l.nm) (λ l=>V.ref l.adr) (dD (f:=cF.nm) cC lo.wf.nd) hp0
   have rg:=lo.wf.rg l0 hp0
   have tup5:∀ {c xs},H4 c=some (.tup xs)->H5 c=some (.tup xs):=λ{c xs} e=>fr _ _ (λ z=>by rw[z,el4] at e;cases e) (λ z=>by rw[z,ew4] at e;cases e) e
   have hb5:=tup5 hb
   have ha5:=tup5 (s04 _ _ (lo.c.held _ _ (lo.c.di.lets l0 hp0)))
   have hd5:=fr _ _ dl dw ed4
   refine⟨_,rfl,b,_,0,.int l0.nm.1,rfl,rfl,SqT.of hb5,bM,_,rfl,_,rfl,ds,.ref l0.adr,rfl,.inr ⟨_,nk l0.nm,b,.inl hd5,rfl,hb5,v1.symm⟩,l0.adr,_,0,.int l0.to,rfl,rfl,SqT.of ha5,bM,by show 2<=sizeLine;decide,λ kb hkb=>?_⟩
   have s6:=aM.new (o:=.tup [.int l0.nm.1,.int l0.to]) hkb
   have hb6:=s6 _ _ hb5
   have ha6:=s6 _ _ ha5
   have hd6:=s6 _ _ hd5
   have g1:=s6 _ _ f1
   have g3:∀ v∈fs,eG A _ v:=λ v hv=>(f3 v hv).keep λ c xs e=>s6 _ _ e
   have g4:=s6 _ _ f4
   have g6:∀ x∈qs,_=_:=λ x hx=>s6 _ _ (f6 x hx)
   have gk:=aD (H:=H5) (a:=kb) (o:=.tup [.int l0.nm.1,.int l0.to])
   have g7:∀ c u,c≠fl->c≠wl->H4 c=some u->upd H5 kb (.tup [.int l0.nm.1,.int l0.to]) c=some u:=λ c u n1 n2 e=>s6 _ _ (fr c u n1 n2 e)
   generalize upd H5 kb (.tup [.int l0.nm.1,.int l0.to])=H6 at s6 hb6 ha6 hd6 g1 g3 g4 g6 gk g7 ⊢
   have fin:∀ (H7:Hp) (fs':List V),H7 fl=some (.lst fs')->fs'.length<=i+1->(∀ v∈fs',eG A H7 v)->(∀ c u,c≠fl->H6 c=some u->H7 c=some u) ->
     ∃ l xs y,V.ref wl=.ref l/\[V.ref kb]=[y]/\H7 l=some (.lst xs)/\xs.length<sizeLine/\AU A L H4 fl wl ds ns (i+1) [some (.ref L.p),some (.ref ds),some (.ref fl),some (.ref wl),some (.ref b),some (.ref kb),none] (upd H7 l (.lst (xs++[y]))):=λ H7 fs' a1 a2 a3 a4=>by
    have w7:=a4 _ _ (Ne.symm lw) g4
    have tk:∀ c xs,H7 c=some (.tup xs)->upd H7 wl (.lst ((qs.map λ x:Addr×Int×Int=>V.ref x.1)++[.ref kb])) c=some (.tup xs):=λ c xs e=>by rw[aE (λ z=>by rw[z,w7] at e;cases e)];exact e
    have t6:∀ c xs,H6 c=some (.tup xs)->H7 c=some (.tup xs):=λ c xs e=>a4 _ _ (λ z=>by rw[z,g1] at e;cases e) e
    refine⟨wl,_,.ref kb,rfl,rfl,w7,bh (by rw[Cy];omega),fs',qs++[(kb,l0.nm.1,l0.to)],_,_,by rw[aE lw];exact a1,a2,λ v hv=>(a3 v hv).keep tk,by rw[aD,CP];rfl,by rw[CA,CY];omega,λ x hx=>?_,λ j hj x hx ej=>?_,λ c u n1 n2 e=>by rw[aE n2];exact a4 c u n1 (g7 c u n1 n2 e),rfl⟩
    ·rcases CF.mp hx with hx|hx
     ·exact tk _ _ (t6 _ _ (g6 x hx))
     ·rw[Cv] at hx
      subst hx
      exact tk _ _ (t6 _ _ gk)
    ·rw[CP,CF]
     rcases Nat.lt_succ_iff_lt_or_eq.mp hj with q|q
     ·exact .inl (f7 j q x hx ej)
     ·rw[q,hn0] at ej
      rw[dj lo.wf.nd hx hp0 (Option.some.inj ej).symm]
      exact .inr (Cv.mpr rfl)
   have use:∀ ub,H6 ub=none->(A.ord=true->(l0.nm.1,l0.to)∉qs.map (·.2))->∀ v∈fs++[.ref ub],eG A (upd (upd H6 ub (.tup [.str "use",.int l0.to,.ref b])) fl (.lst (fs++[.ref ub]))) v:=λ ub nub hv v hv'=>by
    have s7:=aM.new (o:=.tup [.str "use",.int l0.to,.ref b]) nub
    have tp:∀ c xs,upd H6 ub (.tup [.str "use",.int l0.to,.ref b]) c=some (.tup xs)->upd (upd H6 ub (.tup [.str "use",.int l0.to,.ref b])) fl (.lst (fs++[.ref ub])) c=some (.tup xs):=λ c xs e=>by
     rw[aE (λ z=>by rw[z,s7 _ _ g1] at e;cases e)];exact e
    rcases CF.mp hv' with z|z
    ·exact(g3 v z).keep λ c xs e=>tp _ _ (s7 _ _ e)
    ·rw[Cv] at z
     subst z
     refine⟨ub,rfl,.inr (.inr ⟨l0.to.toNat,b,l0,by omega,?_,tp _ _ (s7 _ _ hb6),hp0,ht0,by omega,λ ho l' hl' nt' e1 e2=>?_⟩)⟩
     ·rw[Int.toNat_of_nonneg rg.2.2.2.2.2.2.1];exact tp _ _ aD
     ·have hv:=hv ho
      have m':l'.nm∈ns:=pm.mem_iff.mpr (CN (Dj.mpr ⟨hl',by simpa using nt'⟩))
      obtain⟨j,hj⟩:=Eo m'
      rcases Fy j i with q|q|q
      ·have:=f7 j q l' hl' hj
       rw[e1,e2] at this;exact absurd this hv
      ·rw[q,hn0] at hj
       rw[Option.some.inj hj];exact Dk _
      ·obtain⟨b1,c1⟩:=Cr.mp hn0
       obtain⟨b2,c2⟩:=Cr.mp hj
       have:=ET.mp as i j b1 b2 q
       rw[c1,c2] at this
       omega
   have wl6:∀ (H7:Hp),(∀ c u,c≠fl->H6 c=some u->H7 c=some u)->SqL K H7 wl (qs.map λ x:Addr×Int×Int=>V.ref x.1):=λ H7 a=>SqL.of (a _ _ (Ne.symm lw) g4)
   have put:∀ ub,H6 ub=none->∀ c u,c≠fl->H6 c=some u->upd (upd H6 ub (.tup [.str "use",.int l0.to,.ref b])) fl (.lst (fs++[.ref ub])) c=some u:=λ ub nub c u nc e=>by rw[aE nc];exact aM.new nub _ _ e
   refine⟨_,rfl,L.p,_,L.dx,_,_,rfl,s6 _ _ (frame fr _ _ lo.c.self),T.cl_Loom,T.na_bu,rfl,A.ord,rfl,dy (λ z=>cX ?_) λ z=>?_⟩
   ·refine⟨_,rfl,.inl ⟨rfl,_,SqL.of g1⟩,_,rfl,_,rfl,ds,.ref l0.adr,rfl,.inr ⟨_,nk l0.nm,b,.inl hd6,rfl,hb6,v1.symm⟩,l0.adr,_,0,.int l0.to,rfl,rfl,SqT.of ha6,bM,_,rfl,by show 3<=sizeLine;decide,λ ub nub=>⟨fl,fs,.ref ub,rfl,rfl,aM.new nub _ _ g1,bh (by omega),?_⟩⟩
    exact⟨_,rfl,.inl ⟨rfl,_,wl6 _ (put ub nub)⟩,_,rfl,fin _ _ aD (by rw[CA,CY];omega) (use ub nub λ h=>by rw[h] at z;cases z) (put ub nub)⟩
   ·refine⟨_,rfl,_,rfl,kb,wl,(l0.nm.1,l0.to),qs.map (·.2),rfl,rfl,.tup (SqT.of gk) (.cons (.int _) (.cons (.int _) .nil)),.lst (SqL.of g4) (lY g6),_,rfl,dy (λ y=>?_) λ y=>?_⟩
    ·refine⟨_,rfl,.inl ⟨rfl,_,SqL.of g1⟩,_,rfl,_,rfl,ds,.ref l0.adr,rfl,.inr ⟨_,nk l0.nm,b,.inl hd6,rfl,hb6,v1.symm⟩,l0.adr,_,0,.int l0.to,rfl,rfl,SqT.of ha6,bM,_,rfl,by show 3<=sizeLine;decide,λ ub nub=>⟨fl,fs,.ref ub,rfl,rfl,aM.new nub _ _ g1,bh (by omega),?_⟩⟩
     exact⟨_,rfl,.inl ⟨rfl,_,wl6 _ (put ub nub)⟩,_,rfl,fin _ _ aD (by rw[CA,CY];omega) (use ub nub λ _=>Dr y) (put ub nub)⟩
    ·exact⟨_,rfl,.inl ⟨rfl,_,wl6 H6 λ c u _ e=>e⟩,_,rfl,fin H6 fs g1 (by omega) g3 λ c u _ e=>e⟩
  ·rintro σ2 H5 ⟨fs,qs,o4,o5,f1,f2,f3,f4,f5,f6,f7,fr,rfl⟩
   refine(sn ee4 λ rr5 ee5=>?_:rr4 _ _ _)
   have s5:=frame fr
   refine⟨_,rfl,L.p,_,L.dx,_,_,rfl,s5 _ _ lo.c.self,T.cl_Loom,T.na_de,rfl,A.many,rfl,λ r2 nr2=>?_⟩
   refine⟨r2,0,A.many,rfl,aD,⟨by omega,by omega,by omega,by omega⟩,by omega,λ hl nhl=>?_⟩
   have s56:=(aM.new (o:=.rng 0 (A.many:Int)) nr2).trans (aM.new (o:=.lst (iV (dC 0 (A.many:Int)))) nhl)
   have ehl:=aD (H:=upd H5 r2 (.rng 0 (A.many:Int))) (a:=hl) (o:=.lst (iV (dC 0 (A.many:Int))))
   generalize upd (upd H5 r2 (.rng 0 (A.many:Int))) hl (.lst (iV (dC 0 (A.many:Int))))=H6 at s56 ehl ⊢
   subst ee5
   have e6:=s56 _ _ f1
   have t6:∀ v∈fs,eG A H6 v:=λ v hv=>(f3 v hv).keep λ c xs e=>s56 _ _ e
   refine⟨_,rfl,_,rfl,fl,fl,fs,fs,rfl,rfl,e6,e6,EB (bh (by omega)),λ p1 n1=>?_⟩
   have s7:=aM.new (o:=.lst (fs++fs)) n1
   have e7:=aD (H:=H6) (a:=p1) (o:=.lst (fs++fs))
   generalize upd H6 p1 (.lst (fs++fs))=H7 at s7 e7 ⊢
   refine lP m2.2 (.inl rfl) (s7 _ _ ehl) λ a8 d8 H8 s8 n8 e8 l8 al8=>?_
   refine⟨p1,a8,_,d8,rfl,rfl,s8 _ _ e7,e8,EB (bh (by rw[CA];omega)),λ p2 n2=>?_⟩
   have s9:=aM.new (o:=.lst ((fs++fs)++d8)) n2
   have e9:=aD (H:=H8) (a:=p2) (o:=.lst ((fs++fs)++d8))
   generalize upd H8 p2 (.lst ((fs++fs)++d8))=H9 at s9 e9 ⊢
   refine lP m2.2 (.inr rfl) (s9 _ _ (s8 _ _ (s7 _ _ ehl))) λ a10 d10 H10 s10 n10 e10 l10 al10=>?_
   refine⟨p2,a10,_,d10,rfl,rfl,s10 _ _ e9,e10,EB (bh (by rw[CA,CA];omega)),λ p3 n3=>?_⟩
   have s11:=aM.new (o:=.lst (((fs++fs)++d8)++d10)) n3
   have s78:=s7.trans s8
   have s710:=s78.trans (s9.trans s10)
   refine k p3 _ _ ((s5.trans s56).trans (s710.trans s11)) (((s5.trans s56).trans s710).free n3) aD (by rw[CA];omega) (by rw[CA,CA,CA];omega) λ v hv=>?_
   rcases CF.mp hv with hv|hv
   ·rcases CF.mp hv with hv|hv
    ·have:v∈fs:=(CF.mp hv).elim id id
     exact(t6 v this).keep λ c xs e=>s11 _ _ (s710 _ _ e)
    ·exact(al8 v hv).keep λ c xs e=>s11 _ _ (s10 _ _ (s9 _ _ e))
   ·exact(al10 v hv).keep λ c xs e=>s11 _ _ e
noncomputable def yE (K:W.Frag) (t:Adr):Sp:=λ vs H Q _=>∃ G L A n b,vs=[.ref L.p,.ref b]/\Lo K t G H L A n/\n<30/\eG A H (.ref b)/\∀ G' H' L' A',Stp H H' L A L' A'->Lo K t G' H' L' A' (n+1)->Q .non H'
theorem AH (T:Txt K mg t):bq P w K mg base (CXr P w) 7 t.f_dk t.fd_dk ["_law_loom_here","_law_row"] (yE K t):=by
 refine T.F_dk.okN zM (λ vs H Q E h=>?_) (λ cdv A outer s H vs Q E hr h=>?_)
 ·obtain⟨G,L,A,n,b,rfl,_⟩:=h;rfl
 ·obtain⟨G,L,A,n,b,rfl,lo,nn,de,k⟩:=h
  refine⟨_,(aI (bH (bj eY (bo (bz (K:=K)) (pv 1) aN (λ _ _=>rfl)) dk (bx _))
    (aI (aZ (aX (pv 0) T.cl_Loom T.me_dh (BQ (K:=K) T) (hr.mono (by decide)) T.b_dh .nil aL (aJ (bo (bz (K:=K)) (pv 1) aN (λ _ _=>rfl)) aG))))
    (aI (bH (bj eY (bo (bz (K:=K)) (pv 1) aN (λ _ _=>rfl)) dk (bx _))
    (aI (aZ (aX (pv 0) T.cl_Loom T.me_dj (yn (K:=K) T) (hr.mono (by decide)) T.b_dj .nil aL (aJ (bo (bz (K:=K)) (pv 1) aN (λ _ _=>rfl)) (aJ (bo (bz (K:=K)) (pv 1) aN (λ _ _=>rfl)) aG)))))
    (aI (aZ (aX (pv 0) T.cl_Loom T.me_cr (yD (K:=K) T) (hr.mono (by decide)) T.b_cr .nil aL (aJ (bo (bz (K:=K)) (pv 1) aN (λ _ _=>rfl)) aG)))))))),?_⟩
  obtain⟨b',e,de⟩:=de
  cases e
  have ix:∀ {xs:List V} {i:Nat} {v:V},H b=some (.tup xs)->xs[i]? = some v->Ev (tOp (wD K) (cM 1) (tC (.int i))) [some (.ref L.p),some (.ref b)] H v:=λ{xs i v} hb hv Q q=>⟨_,rfl,b,xs,i,v,rfl,rfl,SqT.of hb,cR hv,q⟩
  rcases de with ⟨j,j1,hb⟩|⟨j,j1,hb⟩|⟨j,cc,l0,j1,hb,hc,p1,p2,p3,p4⟩
  ·refine⟨_,rfl,b,_,0,.str "own",rfl,rfl,SqT.of hb,bM,rfl,_,rfl,du (by decide) ?_⟩
   exact tm (.n rfl) lo.c.self rfl (.cons (ix (i:=1) hb rfl) .nil) ⟨G,L,A,n,j,rfl,lo,nn,j1,k⟩
  ·refine⟨_,rfl,b,_,0,.str "write",rfl,rfl,SqT.of hb,bM,rfl,_,rfl,bT (by decide) ⟨_,rfl,b,_,0,.str "write",rfl,rfl,SqT.of hb,bM,rfl,_,rfl,bT (by decide) ?_⟩⟩
   exact tm (.n rfl) lo.c.self rfl (.cons (ix (i:=1) hb rfl) .nil) ⟨G,L,A,n,j,rfl,lo,nn,j1,k⟩
  ·refine⟨_,rfl,b,_,0,.str "use",rfl,rfl,SqT.of hb,bM,rfl,_,rfl,bT (by decide) ⟨_,rfl,b,_,0,.str "use",rfl,rfl,SqT.of hb,bM,rfl,_,rfl,du (by decide) ?_⟩⟩
   exact tm (.n rfl) lo.c.self rfl (.cons (ix (i:=1) hb rfl) (.cons (ix (i:=2) hb rfl) .nil)) ⟨G,L,A,n,j,cc,l0,rfl,lo,nn,j1,hc,p1,p2,p3,p4,k⟩
noncomputable def xw (K:W.Frag):Sp:=λ vs H Q _=>∃ (c:Int) (m:Nat),vs=[.int m,.int c]/\m<=5/\∀ l fs H',aM H H'->H l=none->H' l=some (.lst (iV fs))->Q (.ref l) H'
theorem vg (T:Txt K mg t):bq P w K mg base (CXr P w) 1 t.f_dc t.fd_dc ["_law_many","_law_number"] (xw K):=by
 refine T.F_dc.okN xT (λ vs H Q E h=>?_) (λ Y A outer s H vs Q E Z h=>?_)
 ·obtain⟨c,m,rfl,_⟩:=h;rfl
 ·obtain⟨c,m,rfl,m1,k⟩:=h
  refine⟨_,(aI (aW (bR ["_law_many","_law_number","_law_hand"] 1 rfl (cf rfl T.no_range (aJ (pv 0) aG)) (λ _ _ _ _ _=>⟨(aR (i:=2) (show List.Nodup (["_law_many","_law_number","_law_hand"]:List Str) from by decide +kernel) rfl (Or.inl rfl)),(fH (bj eY (aU gg (aU jk (pv 1) (pv 2)) aN) aN (bx _))),(pv 2)⟩)))),?_⟩
  refine⟨_,rfl,(m:Int),rfl,by lia,by lia,cN (n:=(m:Int).toNat) (by lia) λ acc F=>⟨λ i J ys O=>(∃ fs,fs.length<=i/\ys=iV fs/\O acc=some (.lst ys)/\aM H O)/\∃ o,J=[some (.int m),some (.int c),o],⟨⟨[],Nat.le_refl _,rfl,aD,aM.new F⟩,_,rfl⟩,?_,?_,?_⟩⟩
  ·rintro i J ys O hi ⟨⟨fs,U,rfl,_⟩,_⟩
   rw[cz];lia
  ·rintro i J ys O hi ⟨⟨fs,U,rfl,V,W⟩,o,rfl⟩
   dsimp only[ck]
   refine⟨_,rfl,_,rfl,_,_,rfl,rfl,by lia,_,_,rfl,rfl,rfl,_,rfl,dy (λ z=>⟨_,rfl,V,Nx.mk hi ⟨⟨fs++[0+(i:Int)],by rw[CA,CY];lia,iD,aD,λ b u e=>?_⟩,_,rfl⟩⟩) λ z=>Nx.mk hi ⟨⟨fs,by lia,rfl,V,W⟩,_,rfl⟩⟩
   rw[aE (aF e F)];exact W _ _ e
  ·rintro J ys O ⟨⟨fs,U,rfl,V,W⟩,o,rfl⟩
   exact k acc fs O W F V
noncomputable def y4 (K:W.Frag):Sp:=λ vs H Q _=>∃ a b xs ys,vs=[.ref a,.ref b]/\SqL K H a (iV xs)/\SqL K H b (iV ys)/\xs.length=ys.length/\xs.length<=5/\(∀ i:Nat,i<xs.length->bE ys i<=bE xs i)/\∀ H',aM H H'->Q (.bl true) H'
theorem vc (T:Txt K mg t):bq P w K mg base (CXr P w) 1 t.f_al t.fd_al ["_law_line","_law_base"] (y4 K):=by
 refine T.F_al.okN zQ (λ vs H Q E h=>?_) (λ a2 A outer s H vs Q E hr h=>?_)
 ·obtain⟨a,b,xs,ys,rfl,_⟩:=h;rfl
 ·obtain⟨a,b,xs,ys,rfl,ha,hb,Z,a3,le,k⟩:=h
  refine⟨_,(aI (aW (bI (jB rfl (K:=K)) rfl T.no_all vi (aJ (bR ["_law_line","_law_base","_law_place","_law_least"] 2 rfl (qF (K:=K) rfl T.no_zip (aJ (pv 0) (aJ (pv 1) aG))) (λ _ _ _ _ _=>⟨(cK (K:=K) (n:=2) rfl (bB (aR (i:=2) (show List.Nodup (["_law_line","_law_base","_law_place","_law_least"]:List Str) from by decide +kernel) rfl (Or.inl rfl)) (bB (aR (i:=3) (show List.Nodup (["_law_line","_law_base","_law_place","_law_least"]:List Str) from by decide +kernel) rfl (Or.inl rfl)) cJ))),bX,(cI jz (pv 2) (pv 3) (bx _))⟩)) aG)))),?_⟩
  refine⟨_,rfl,_,rfl,a,b,_,_,rfl,ha,hb,lA (xs:=iV xs) (ys:=iV ys) (by rw[cz];lia) (by rw[cz,cz,Z]) λ acc J=>⟨λ i F zs H2=>(zs=List.replicate i (V.bl true)/\H2 acc=some (.lst zs)/\aM H H2)/\∃ o1 o2,F=[some (.ref a),some (.ref b),o1,o2],⟨⟨rfl,aD,aM.new J⟩,_,_,rfl⟩,?_,?_,?_⟩⟩
  ·rintro i F zs H2 hi ⟨⟨rfl,_,O⟩,_⟩
   exact⟨O.seq ha,O.seq hb,by rw[Ej];exact Nat.le_refl _⟩
  ·rintro i x y pz F zs H2 hi hx hy a1 ⟨⟨rfl,W,O⟩,o1,o2,rfl⟩
   obtain⟨x',rfl,U⟩:=g9 hx
   obtain⟨y',rfl,Y⟩:=g9 hy
   have:=le i (Cr.mp U).1
   rw[bZ U,bZ Y] at this
   refine⟨pz,_,rfl,SqT.of aD,rfl,_,_,rfl,_,_,rfl,rfl,?_⟩
   dsimp only[fO]
   have s3:=aM.new (o:=.tup [.int x',.int y']) a1
   refine cX ⟨_,rfl,_,rfl,_,_,rfl,rfl,s3 _ _ W,Nx.mk hi ⟨⟨?_,aD,λ c u e=>?_⟩,_,_,rfl⟩⟩
   ·show List.replicate i (V.bl true)++[V.bl (decide (y'<=x'))]=_
    rw[CZ this,F0]
   ·rw[aE (aF e J)];exact s3 _ _ (O _ _ e)
  ·rintro F zs H2 ⟨⟨rfl,W,O⟩,_⟩
   refine⟨acc,List.replicate (iV xs).length true,rfl,SqL.of (by rw[W,List.map_replicate]),?_⟩
   have:(List.replicate (iV xs).length true).all id=true:=by simp
   rw[this];exact k H2 O
noncomputable def Aj (K:W.Frag) (t:Adr):Sp:=λ vs H Q _=>∃ G L A n l ln,∃ c:Int,vs=[.ref L.p,.ref l,.int c]/\Lo K t G H L A n/\n<=30/\H l=some (.lst (iV ln))/\Bse A ln/\∀ H',aM H H'->Q (.bl true) H'
theorem Bq (T:Txt K mg t):bq P w K mg base (CXr P w) 8 t.f_au t.fd_au ["_law_loom_here","_law_base","_law_number"] (Aj K t):=by
 refine T.F_au.okN qD (λ vs H Q E h=>?_) (λ ai A outer s H vs Q E hr h=>?_)
 ·obtain⟨G,L,A,n,l,ln,c,rfl,_⟩:=h;rfl
 ·obtain⟨G,L,A,n,l,ln,c,rfl,lo,hn,hl,O,k⟩:=h
  refine⟨_,(aH (aY (i:=3) qD.nd rfl (Or.inl rfl) (bo (bz (K:=K)) (aV (oM (K:=K) T) (hr.mono (by decide)) rfl T.mg_bg T.kp_bg T.b_bg .nil aL (aJ (pv 0) (aJ (bJ (dY rfl) rfl T.no_list gO (aJ (bJ gR rfl T.no_range ir (aJ (aO (K:=K) (pv 0) rfl) aG)) aG)) aG))) aN (λ _ _=>rfl)))
   (aH (bH (PW.pt (eX (b9 (bO (bI (cZ (K:=K)) rfl T.no_isinstance da (aJ (pv 1) (aJ (iz (v:=.ty "list") rfl T.no_list gO rfl) aG))))) (eX (bj (ue (K:=K) hr.units) (pv 1) (pv 3) (bx _)) (fD (bj qO (bI (dh (K:=K)) rfl T.no_len jJ (aJ (pv 1) aG)) (aO (K:=K) (pv 0) rfl) (bx _))))))
    (aI (aW eI))
    bp)
   (aH (cy PassesOwn.never rfl (cf rfl T.no_range (aJ (aO (K:=K) (pv 0) rfl) aG)) (aR (i:=4) qD.nd rfl (Or.inl rfl))
    (aI (bH (bj (fJ (K:=K)) (bo (br (K:=K)) (pv 1) (pv 4) (λ _ _=>rfl)) (aX (pv 0) T.cl_Loom T.me_cd (vb (K:=K) T) (hr.mono (by decide)) T.b_cd .nil aL (aJ (pv 4) aG)) (by with_unfolding_all rfl))
    (aI (aW eI))
    bp)))
   (aI (aW (aV (vc (K:=K) T) (hr.mono (by decide)) rfl T.mg_al T.kp_al T.b_al .nil aL (aJ (bo (bz (K:=K)) (aV (oM (K:=K) T) (hr.mono (by decide)) rfl T.mg_bg T.kp_bg T.b_bg .nil aL (aJ (pv 0) (aJ (aV (vg (K:=K) T) (hr.mono (by decide)) rfl T.mg_dc T.kp_dc T.b_dc .nil aL (aJ (aO (K:=K) (pv 0) rfl) (aJ (pv 2) aG))) aG))) aN (λ _ _=>rfl)) (aJ (pv 1) aG)))))))),?_⟩
  refine sq λ ag a5=>?_
  have m2:=lo.m2
  have V:=O.1.1
  refine⟨_,rfl,_,rfl,L.p,_,L.dx,_,_,rfl,lo.c.self,T.cl_Loom,T.na_de,rfl,A.many,rfl,λ r nr=>?_⟩
  refine⟨r,0,A.many,rfl,aD,⟨by lia,by lia,by lia,by lia⟩,by lia,λ f nf=>?_⟩
  have s2:=(aM.new (o:=.rng 0 (A.many:Int)) nr).trans (aM.new (o:=.lst (iV (dC 0 (A.many:Int)))) nf)
  refine⟨G,L,A,n,f,_,rfl,lo.same s2,hn,SqL.of aD,λ p g pa W ls ns H3 s3 ng ep eg _ _ gl=>⟨p,_,0,.ref g,rfl,rfl,SqT.of ep,rfl,?_⟩⟩
  obtain rfl:W=ln:=Bse.uniq gl O
  have Z:=s2.trans s3
  generalize upd (upd H r (.rng 0 (A.many:Int))) f (.lst (iV (dC 0 (A.many:Int))))=H2 at s2 s3 ng
  have J:=lo.same Z
  have F:=Z _ _ hl
  refine(sn a5 λ ah a6=>?_:ag _ _ _)
  have Y:okD 3 (PyData.list (W.map PyData.int)):=.list (n:=2) sr
  refine⟨_,rfl,_,_,.plain (.lst F),eP _ _,_,rfl,dQ ?_⟩
  refine⟨_,rfl,_,rfl,_,_,.lst (SqL.of F) ku,.lst (SqL.of eg) ku,Y.shaped (by decide),Y.shaped (by decide),_,rfl,bT (by rw[CG rfl];exact congrArg (λ b=>!b) Y.self) ?_⟩
  refine⟨_,rfl,l,_,rfl,.inl (SqL.of F),_,rfl,L.p,_,L.dx,_,_,rfl,J.c.self,T.cl_Loom,T.na_de,rfl,rfl,_,rfl,bT (by rw[cz,V];simp) ?_⟩
  refine(sn a6 λ aq a7=>?_:ah _ _ _)
  refine⟨_,rfl,L.p,_,L.dx,_,_,rfl,J.c.self,T.cl_Loom,T.na_de,rfl,(A.many:Int),rfl,by lia,by lia,gM (lo:=0) (λ i σ H'=>aM H3 H'/\∃ o,σ=[some (.ref L.p),some (.ref l),some (.int c),some (.ref g),o]) ⟨.refl _,_,rfl⟩ ?_ ?_⟩
  ·rintro i σ H4 hi ⟨s4,o,rfl⟩
   have a1:i<A.many:=by lia
   rw[Int.zero_add]
   obtain⟨q,T0,hq,hT,th,tw,aj⟩:=lo.at a1
   refine kj (K:=K) (H:=H4) rfl rfl (SqL.of (s4 _ _ F)) (by rw[V];exact a1) _ ?_
   refine tm (.n rfl) (J.same s4).c.self rfl (.cons (.n rfl) .nil) ⟨G,L,A,n,i,T0,rfl,J.same s4,hn,hT,λ l5 a3 H5 s5 an aa af=>?_⟩
   have fl:(iV a3).all dN=true:=by unfold iV;rw[Fn];exact D6.mpr λ _ _=>rfl
   refine⟨l5,iV a3,rfl,.inl (SqL.of aa),rfl,fl,_,rfl,bT ?_ ⟨s4.trans s5,_,rfl⟩⟩
   rw[CG rfl,gh,CZ ((af.2 _).mpr (O.pt lo.c.len2 hT))];rfl
  ·rintro σ H4 ⟨s4,o,rfl⟩
   subst a7
   have a2:=J.same s4
   refine⟨_,rfl,_,rfl,L.p,_,L.dx,_,_,rfl,a2.c.self,T.cl_Loom,T.na_de,rfl,_,rfl,c,A.many,rfl,m2.2,λ f5 ad H5 s5 al a8=>?_⟩
   refine⟨G,L,A,n,f5,ad,rfl,a2.same s5,hn,SqL.of a8,λ p6 g6 ap ae ak ao H6 s6 am ab a9 _ _ U=>⟨p6,_,0,.ref g6,rfl,rfl,SqT.of ab,rfl,?_⟩⟩
   have a4:=(s4.trans s5).trans s6
   exact⟨_,rfl,g6,l,ae,W,rfl,SqL.of a9,SqL.of (a4 _ _ F),by rw[U.1.1,V],by rw[U.1.1];exact m2.2,λ i hi=>O.le lo.c.len2 U i (by rw[<- U.1.1];exact hi),λ H7 s7=>k H7 ((Z.trans a4).trans s7)⟩
theorem Lo.more (lo:Lo K t G H L A n):Lo K t G H L A (n+1):=
 let ⟨xs,h,J,r⟩:=lo.lg
 ⟨lo.c,lo.wf,lo.lk,⟨xs,h,by lia,r⟩,λ T F=>(lo.tw T F).more,by have:=lo.bn;exact⟨by lia,this.2⟩,lo.m2,lo.fr,lo.pts,lo.snd⟩
theorem Stp.fA (st:Stp H H' L A L' A') (e:H b=some o) (n:b∉L.own A):H' b=some o/\b∉L'.own A':=
 ⟨st.bt _ _ n e,λ z=>(st.fr b z).elim n λ y=>by rw[y] at e;cases e⟩
noncomputable def Scr (K:W.Frag) (H:Hp) (L:LoL) (A:LoA) (a:Addr) (ns:List Int):Prop:=SqL K H a (iV ns)/\(a∉L.own A\/∀ H',SqL K H' a (iV ns))
theorem Scr.next (s:Scr K H L A a ns) (st:Stp H H' L A L' A'):Scr K H' L' A' a ns:=by
 obtain⟨s,h⟩:=s
 rcases h with h|h
 ·rcases s with (e|⟨o,e⟩)|e
  ·exact⟨.inl (.inl (st.fA e h).1),.inl (st.fA e h).2⟩
  ·exact⟨.inl (.inr ⟨o,(st.fA e h).1⟩),.inl (st.fA e h).2⟩
  ·exact⟨.inr e,.inr λ _=>.inr e⟩
 ·exact⟨h H',.inr h⟩
structure nv (K:W.Frag) (t:Adr) (p kp a:Addr) (ns:List Int) (i:Nat) (H:Hp) (la:Addr) (L:LoL) (A:LoA):Prop where
 lo:∃ G,Lo K t G H L A i
 pe:L.p=p
 scr:Scr K H L A a ns
 kpr:∃ dx td en,H kp=some (.ins t.c_Keeper dx (kpF p td en))/\kp∉L.own A
 last:∃ ls,H la=some (.lst (iV ls))/\la∉L.own A/\ls.length=A.many/\∀ j:Nat,j<A.many->bE ls j<=A.b j
theorem nv.next (v:nv K t p kp a ns i H la L A) (st:Stp H H' L A L' A') (lo:∃ G,Lo K t G H' L' A' m):nv K t p kp a ns m H' la L' A':=by
 obtain⟨dx,td,W,J,O⟩:=v.kpr
 obtain⟨ls,U,V,Y,Z⟩:=v.last
 exact⟨lo,st.p.trans v.pe,v.scr.next st,⟨dx,td,W,(st.fA J O).1,(st.fA J O).2⟩,ls,(st.fA U V).1,(st.fA U V).2,by rw[st.em];exact Y,λ j F=>Fo (Z j (by rw[<- st.em];exact F)) (st.eb j (by rw[<- st.em];exact F))⟩
theorem rh {t:TT}{a b:TS}{D:Ends}{σ:St}{H:Hp}(h:∀ F,F=a->sC t F b D σ H):sC t a b D σ H:=h a rfl
noncomputable def u9 (K:W.Frag) (ts:List Addr):Sp:=λ vs H Q _=>∃ a ns,vs=[.ref a]/\SqL K H a (iV ns)/\ns.length<=63/\(∀ P∈ts,H P=some (.tbl #[]))/\∀ H,Q (.bl true) H
theorem xb (T:Txt K mg t) (Tb:vK mg base t):bq P w K mg base (CXr P w) 10 t.f_law t.fd_law ["_law_script"] (u9 K t.ts):=by
 refine T.F_law.okN eB (λ vs H Q E h=>?_) (λ cdv A outer s H vs Q E hr h=>?_)
 ·obtain⟨a,ns,rfl,_⟩:=h;rfl
 ·obtain⟨a,ns,rfl,ha,_,tab,k⟩:=h
  have tab:rS t H:=.inl (tab _ T.tin_bs)
  refine⟨_,(aH (aY (i:=1) eB.nd rfl (Or.inl rfl) (aV (zE (K:=K) T Tb) (hr.mono (by decide)) rfl T.mg_db T.kp_db T.b_db .nil aL (aJ (pv 0) aG)))
   (aH (aY (i:=2) eB.nd rfl (Or.inl rfl) (dI T.mk_Keeper (xJ (K:=K) T) (hr.mono (by decide)) rfl T.mg_Keeper T.b_ce .nil aL (aJ (pv 1) aG)))
   (aH (dA ["_law_script","_law_loom_here","_law_keeper","_law_last","_law_k","_law_number","_law_options_here","_law_base","_law_hand"] 1 (i:=3) rfl eB.nd rfl (Or.inl rfl) (cf rfl T.no_range (aJ (aO (K:=K) (pv 1) rfl) aG)) (λ _ _ _ _ _=>⟨(aR (i:=8) (show List.Nodup (["_law_script","_law_loom_here","_law_keeper","_law_last","_law_k","_law_number","_law_options_here","_law_base","_law_hand"]:List Str) from by decide +kernel) rfl (Or.inl rfl)),bX,aN⟩))
   (aH (cy PassesOwn.never rfl (cf rfl T.no_range (aJ (aU bS (aV (jj (K:=K) T) (hr.mono (by decide)) rfl T.mg_cq T.kp_cq T.b_cq .nil aL (aJ (aV (jG (K:=K) T) (hr.mono (by decide)) rfl T.mg_bj T.kp_bj T.b_bj .nil aL (aJ (pv 0) (aJ aN aG))) (aJ aN aG))) aN) aG)) (aR (i:=4) eB.nd rfl (Or.inl rfl))
    (aH (aY (i:=5) eB.nd rfl (Or.inl rfl) (aV (jj (K:=K) T) (hr.mono (by decide)) rfl T.mg_cq T.kp_cq T.b_cq .nil aL (aJ (aV (jG (K:=K) T) (hr.mono (by decide)) rfl T.mg_bj T.kp_bj T.b_bj .nil aL (aJ (pv 0) (aJ aN aG))) (aJ (pv 4) aG))))
   (aH (bH (bj eY (aU bS (pv 5) aN) aN (bx _))
    (aI (aZ (aV (Bc (K:=K) T) (hr.mono (by decide)) rfl T.mg_dq T.kp_dq T.b_dq .nil aL (aJ (pv 1) (aJ (aV (vg (K:=K) T) (hr.mono (by decide)) rfl T.mg_dc T.kp_dc T.b_dc .nil aL (aJ (aO (K:=K) (pv 1) rfl) (aJ (aU df (pv 5) aN) aG))) aG)))))
    (aI (bH (bj eY (aU bS (pv 5) aN) aN (bx _))
    (aI (aZ (bc (pv 2) T.cl_Keeper T.me_br (ye (K:=K) T) (hr.mono (by decide)) T.b_br .nil aL)))
    (aH (aY (i:=6) eB.nd rfl (Or.inl rfl) (aV (yg (K:=K) T) (hr.mono (by decide)) rfl T.mg_bt T.kp_bt T.b_bt .nil aL (aJ (pv 1) aG)))
   (aI (aZ (aV (AH (K:=K) T) (hr.mono (by decide)) rfl T.mg_dk T.kp_dk T.b_dk .nil aL (aJ (pv 1) (aJ (bo (br (K:=K)) (pv 6) (aU bS (aU df (pv 5) aN) (bI (dh (K:=K)) rfl T.no_len jJ (aJ (pv 6) aG))) (λ _ _=>rfl)) aG)))))))))
   (aI (bH (PW.pt (eX (bj eY (aU bS (pv 4) aN) aN (bx _)) (fD (bj eY (aU bS (pv 5) aN) aN (bx _)))))
    (aH (aY (i:=7) eB.nd rfl (Or.inl rfl) (aV (vE (K:=K) T) (hr.mono (by decide)) rfl T.mg_dp T.kp_dp T.b_dp .nil aL (aJ (pv 1) aG)))
   (aH (bH (PW.pt (eX (b9 (bO (aV (Bq (K:=K) T) (hr.mono (by decide)) rfl T.mg_au T.kp_au T.b_au .nil aL (aJ (pv 1) (aJ (pv 7) (aJ (aU df (pv 5) aN) aG)))))) (fD (b9 (bO (aV (vc (K:=K) T) (hr.mono (by decide)) rfl T.mg_al T.kp_al T.b_al .nil aL (aJ (pv 7) (aJ (pv 3) aG))))))))
    (aI (aW eI))
    bp)
   (aI (aY (i:=3) eB.nd rfl (Or.inl rfl) (pv 7)))))
    bp)))))
   (aI (aW eI)))))),?_⟩
  refine sq λ rr1 ee1=>?_
  refine tcl (.cons (.n rfl) .nil) ⟨a,ns,rfl,ha,tab,λ G H1 L A lo ha1 no1 b0=>?_⟩
  refine(sn ee1 λ rr2 ee2=>?_:rr1 _ _ _)
  have m2:=lo.m2
  refine⟨_,rfl,λ kp dx nk ndx nex=>?_⟩
  have s2:=aM.ins (o:=.ins t.c_Keeper dx []) nk ndx
  refine⟨H1,G,L,A,0,kp,dx,rfl,s2,nk,aD,lo,λ H3 td en s3 e3=>⟨rfl,?_⟩⟩
  refine(sn ee2 λ rr3 ee3=>?_:rr2 _ _ _)
  have lo3:=lo.same s3
  refine⟨_,rfl,L.p,_,L.dx,_,_,rfl,lo3.c.self,T.cl_Loom,T.na_de,rfl,(A.many:Int),rfl,by lia,by lia,cN (n:=A.many) (by lia) λ la hla=>⟨λ i σ2 ys H4=>(ys=iV (List.replicate i 0)/\H4 la=some (.lst ys)/\aM H3 H4)/\∃ o,σ2=[some (.ref a),some (.ref L.p),some (.ref kp),none,none,none,none,none,o],⟨⟨rfl,aD,aM.new hla⟩,_,rfl⟩,?_,?_,?_⟩⟩
  ·rintro i σ2 ys H4 hi ⟨⟨rfl,_⟩,_⟩
   rw[cz,Ej];exact Nat.le_refl _
  ·rintro i σ2 ys H4 hi ⟨⟨rfl,e4,s4⟩,o,rfl⟩
   dsimp only[ck,fO]
   refine cX ⟨e4,Nx.mk hi ⟨⟨?_,aD,λ c u e=>?_⟩,_,rfl⟩⟩
   ·rw[F0,ib]
   ·rw[aE (aF e hla)];exact s4 _ _ e
  rintro σ2 ys H4 ⟨⟨rfl,e4,s4⟩,o,rfl⟩
  have s14:=s3.trans s4
  have v0:nv K t L.p kp a ns 0 H4 la L A:=⟨⟨G,lo.same s14⟩,rfl,⟨s14.seq ha1,no1⟩,⟨dx,td,en,s4 _ _ e3,λ z=>lo.c.eS _ z nk⟩,List.replicate A.many 0,e4,λ z=>lo3.c.eS _ z hla,Ej ..,λ j hj=>by rw[bZ (y:=0) (by rw[E6,CG hj])];exact b0 j⟩
  refine(sn ee3 λ rr4 ee4=>?_:rr3 _ _ _)
  refine⟨_,rfl,a,ns,0,rfl,v0.scr.1,by decide,λ c0=>⟨c0,2,rfl,by decide,by decide,λ d=>⟨_,_,rfl,rfl,by show (0:Int)<25;decide,?_⟩⟩⟩
  have x0:=DU d (b:=25) (by decide)
  have x1:=DE d (b:=25) (by decide)
  refine⟨d%25,rfl,by lia,by lia,gM (lo:=0) (λ i σ H'=>(∃ la L2 A2,nv K t L.p kp a ns i H' la L2 A2/\∃ o4 o5 o6 o7,σ=[some (.ref a),some (.ref L.p),some (.ref kp),some (.ref la),o4,o5,o6,o7])) ⟨la,L,A,v0,_,_,_,_,rfl⟩ ?_ ?_⟩
  ·rintro i σ H5 hi ⟨la,L2,A2,v,o4,o5,o6,o7,rfl⟩
   have hi30:i<30:=by lia
   refine sq λ qq1 ff1=>?_
   refine⟨_,rfl,a,ns,4,rfl,v.scr.1,by decide,λ c4=>⟨_,rfl,c4,_,rfl,by lia,by lia,λ nb=>?_⟩⟩
   refine(sn ff1 λ qq2 ff2=>?_:qq1 _ _ _)
   obtain⟨G2,lo2⟩:=v.lo
   have m2':=lo2.m2
   have body:∀ (D:Ends) (H6:Hp) (L3:LoL) (A3:LoA) (o6:Option V),nv K t L.p kp a ns (i+1) H6 la L3 A3->(∀ H7 la L4 A4 o4 o5 o6 o7,nv K t L.p kp a ns (i+1) H7 la L4 A4->D.nx [some (.ref a),some (.ref L.p),some (.ref kp),some (.ref la),o4,o5,o6,o7] H7)->qq2 D [some (.ref a),some (.ref L.p),some (.ref kp),some (.ref la),some (.int (0+(i:Int))),some (.int nb),o6,o7] H6:=λ D H6 L3 A3 o6 w hD=>by
    subst ff2
    refine rh λ blk eb=>?_
    have bl:blk D [some (.ref a),some (.ref L.p),some (.ref kp),some (.ref la),some (.int (0+(i:Int))),some (.int nb),o6,o7] H6:=by
     subst eb
     obtain⟨G3,lo3⟩:=w.lo
     obtain⟨ls,l1,l2,l3,l4⟩:=w.last
     have m3:=lo3.m2
     refine tcl (.cons (.n rfl) .nil) ⟨G3,L3,A3,i+1,congrArg (λ x=>[V.ref x]) w.pe.symm,lo3,by lia,λ l ln H7 s7 nl el bse=>?_⟩
     refine⟨_,rfl,_,rfl,_,rfl,_,_,rfl,rfl,⟨by decide,by decide⟩,G3,L3,A3,i+1,l,ln,nb/512,congrArg (λ x=>[V.ref x,V.ref l,V.int (nb/512)]) w.pe.symm,lo3.same s7,by lia,el,bse,λ H8 s8=>⟨true,rfl,dQ ?_⟩⟩
     have s78:=s7.trans s8
     refine⟨_,rfl,_,rfl,l,la,ln,ls,rfl,SqL.of (s8 _ _ el),SqL.of (s78 _ _ l1),by rw[bse.1.1,l3],by rw[bse.1.1];exact m3.2,λ j hj=>?_,λ H9 s9=>⟨true,rfl,dQ ⟨_,rfl,?_⟩⟩⟩
     ·rw[bse.1.1] at hj
      exact Fo (l4 j hj) (lo3.rise bse hj)
     have s69:=s78.trans s9
     have v9:=w.next (A':={ A3 with b:=bE ln }) (m:=i+1) ⟨rfl,But.of s69,rfl,rfl,λ j hj=>lo3.rise bse hj,λ b hb=>.inl hb⟩ ⟨G3,(lo3.same s69).based bse⟩
     exact hD H9 l L3 { A3 with b:=bE ln } _ _ _ _ ⟨v9.lo,v9.pe,v9.scr,v9.kpr,ln,(s8.trans s9) _ _ el,λ z=>lo3.c.eS _ z nl,bse.1.1,λ j hj=>Dk _⟩
    refine⟨_,rfl,_,_,rfl,rfl,by show (0:Int)<3;decide,rfl,_,rfl,dy (λ z=>cX bl) λ z=>⟨_,rfl,_,_,rfl,rfl,by show (0:Int)<8;decide,rfl,_,rfl,dy (λ z=>bl) λ z=>hD H6 la L3 A3 _ _ _ _ w⟩⟩
   refine⟨_,rfl,_,_,rfl,rfl,by show (0:Int)<16;decide,rfl,_,rfl,dy (λ z=>?_) λ z=>⟨_,rfl,_,_,rfl,rfl,by show (0:Int)<16;decide,rfl,_,rfl,dy (λ z=>?_) λ z=>?_⟩⟩
   ·refine⟨_,rfl,_,rfl,L.p,_,L2.dx,_,_,rfl,by rw[<- v.pe];exact lo2.c.self,T.cl_Loom,T.na_de,rfl,_,rfl,_,_,rfl,rfl,⟨by decide,by decide⟩,nb/16,A2.many,rfl,m2'.2,λ f fs H6 s6 nf ef=>?_⟩
    exact⟨G2,L2,A2,i,f,fs,congrArg (λ x=>[V.ref x,V.ref f]) v.pe.symm,lo2.same s6,by lia,SqL.of ef,λ z=>lo2.c.eS _ z nf,λ x G' H' L' A' st lo'=>body _ _ _ _ _ (v.next ((Stp.of s6).trans st) ⟨G',lo'.more⟩) λ H7 la L4 A4 o4 o5 o6 o7 w=>⟨la,L4,A4,w,_,_,_,_,rfl⟩⟩
   ·obtain⟨dx,td,en,k1,k3⟩:=v.kpr
    exact tm (.n rfl) k1 rfl .nil ⟨G2,L2,A2,i,kp,dx,_,rfl,k1,by rw[v.pe];rfl,k3,lo2,by lia,λ H' L' A' st lo'=>body _ _ _ _ _ (v.next st ⟨G2,lo'.more⟩) λ H7 la L4 A4 o4 o5 o6 o7 w=>⟨la,L4,A4,w,_,_,_,_,rfl⟩⟩
   ·refine tcl (.cons (.n rfl) .nil) ⟨G2,L2,A2,i,congrArg (λ x=>[V.ref x]) v.pe.symm,lo2,by lia,λ l ds H6 s6 nl el d0 d1 al=>?_⟩
    have q0:(0:Int)<(ds.length:Int):=by lia
    have y0:=DU (nb/16) (b:=(ds.length:Int)) (by lia)
    have y1:=DE (nb/16) q0
    obtain⟨u,hu⟩:∃ u,ds[(nb/16%(ds.length:Int)).toNat]? = some u:=⟨_,Cs (by lia)⟩
    have de:=al u (CB hu)
    obtain⟨b,rfl,_⟩:=id de
    have at0:atI ds (nb/16%(ds.length:Int))=some (.ref b):=by
     have e:nb/16%(ds.length:Int)=(((nb/16%(ds.length:Int)).toNat:Nat):Int):=by lia
     rw[e];exact cR hu
    refine⟨_,rfl,_,rfl,_,rfl,_,_,rfl,rfl,⟨by decide,by decide⟩,_,rfl,l,_,rfl,.inl (SqL.of el),_,_,rfl,rfl,q0,l,_,_,.ref b,rfl,rfl,SqL.of el,at0,?_⟩
    exact⟨G2,L2,A2,i,b,congrArg (λ x=>[V.ref x,V.ref b]) v.pe.symm,lo2.same s6,hi30,de,λ G' H' L' A' st lo'=>body _ _ _ _ _ (v.next ((Stp.of s6).trans st) ⟨G',lo'⟩) λ H7 la L4 A4 o4 o5 o6 o7 w=>⟨la,L4,A4,w,_,_,_,_,rfl⟩⟩
  ·rintro σ H5 ⟨la,L2,A2,v,o4,o5,o6,o7,rfl⟩
   subst ee4
   exact k H5
end
theorem bd1 {K:W.Frag}{fd:FuncData}{a:Str}(h:∀ n,bindArgs fd ⟨[n],[]⟩=pure [(a,n)]):Binds K fd [a] []:=.all λ us hl=>match us,hl with | [n],_=>h n
theorem bd2 {K:W.Frag}{fd:FuncData}{a b:Str}(h:∀ n o,bindArgs fd ⟨[n,o],[]⟩=pure [(a,n),(b,o)]):Binds K fd [a,b] []:=.all λ us hl=>match us,hl with | [n,o],_=>h n o
theorem bd3 {K:W.Frag}{fd:FuncData}{a b c:Str}(h:∀ n o p,bindArgs fd ⟨[n,o,p],[]⟩=pure [(a,n),(b,o),(c,p)]):Binds K fd [a,b,c] []:=.all λ us hl=>match us,hl with | [n,o,p],_=>h n o p
theorem bd4 {K:W.Frag}{fd:FuncData}{a b c d:Str}(h:∀ n o p q,bindArgs fd ⟨[n,o,p,q],[]⟩=pure [(a,n),(b,o),(c,p),(d,q)]):Binds K fd [a,b,c,d] []:=.all λ us hl=>match us,hl with | [n,o,p,q],_=>h n o p q
theorem bd5 {K:W.Frag}{fd:FuncData}{a b c d e:Str}(h:∀ n o p q r,bindArgs fd ⟨[n,o,p,q,r],[]⟩=pure [(a,n),(b,o),(c,p),(d,q),(e,r)]):Binds K fd [a,b,c,d,e] []:=.all λ us hl=>match us,hl with | [n,o,p,q,r],_=>h n o p q r
theorem walk {l:W.OpenLaw}{q:Program}{loose:List Str}{XP:(Str->Option Value)->Heap->Prop}{YP:World->Heap->Prop}{d:DefRec}{K:Params->W.Frag}(ts:List Addr) (hn:l.most=some 63) (hdf:d.params.defaults=[])
  (hY:∀ (w:World) (h:Heap),YP w h->(K w.params).In h) (hT:∀ (w:World) (h:Heap),YP w h->∀ P∈ts,h.get? P=some (W.tabObj #[]))
  (F:∀ (w:World) (mg:Str->Option Value) (fa:Addr) (h:Heap),(K w.params).In h->h.Ns mainGlobals mg->mg d.name=some (.ref fa) ->
   ∃ t:Adr,Txt (K w.params) mg t/\t.f_law=fa/\t.ts=ts/\∀ (s:Shared) (v:Value),BindsTo s t.fd_law ⟨[v],[]⟩ [("_law_script",v)]) :
  W.WalkO q loose XP YP l.row.toRowW d [] (λ f vs=>PySem.call f vs):=
 L2.qX (n:=63) (k:=10) (x:="_law_script") (CX:=λ w=>CXr l.prog w) (sp:=λ w=>u9 (K w.params) ts) ts hn (by decide) hdf ⟨rfl,by decide,by decide⟩ hY hT
  (λ w mg fa h kin G hmg=>by
   obtain⟨t,T,e,e2,b⟩:=F w mg fa h kin G hmg
   subst e;subst e2
   exact⟨t.fd_law,[(t.cd_bs,t.tb_bs)],List.forall_mem_cons.mpr ⟨⟨T.tab_bs,T.tn_bs,T.tin_bs⟩,List.forall_mem_nil _⟩,T.tall,b,λ base _ _ tb=>xb T ⟨tb _ CJ⟩⟩)
  (λ _ H a ns hl hH hS=>⟨a,ns,rfl,hS,hl,hH,λ _=>rfl⟩) λ _ _ _ _ _ z=>by
   obtain⟨_,_,_,_,_,_,z⟩:=z
   exact z
end B
open PySem PySem.W PyProof.Rows
namespace PySem.W.Fast
noncomputable def tw3791620700162032845:=0
noncomputable def tw7591121367047930489:=0
noncomputable def tw10518043607554888860:=0
noncomputable def tw5016201895340214447:=0
noncomputable def tw5862217470046625478:=0
noncomputable def tw5676194464553562952:=0
noncomputable def tw14782172852871006867:=0
noncomputable def tw4177117385343463302:=0
noncomputable def tw10422111308796627935:=0
noncomputable def tw12631479546621212994:=0
noncomputable def tw3471021883983199540:=0
noncomputable def tw3278597700832993980:=0
noncomputable def tw4451468006592739392:=0
noncomputable def tw4193057771873451584:=0
noncomputable def tw12362698744065093098:=0
noncomputable def tw2008117105456300513:=0
noncomputable def tw10100072193701656706:=0
noncomputable def tw14217796715793280617:=0
noncomputable def tw8231302739034184000:=0
noncomputable def tw3668049759089643564:=0
noncomputable def tw3550755187750187771:=0
noncomputable def tw10379550384640534022:=0
noncomputable def tw11397434740116753751:=0
noncomputable def tw9544227317482244720:=0
noncomputable def tw3097970525669742270:=0
noncomputable def tw10571257402860286900:=0
noncomputable def tw14995772128026990842:=0
noncomputable def tw7669260967843715862:=0
noncomputable def tw2055720707254881973:=0
noncomputable def tw11678455384288206387:=0
noncomputable def tw15447605706493100559:=0
noncomputable def tw11214270745463969480:=0
noncomputable def tw4684076389145706555:=0
noncomputable def tw1070521149419452053:=0
noncomputable def tw14198591068529483172:=0
noncomputable def tw8257328159221635888:=0
noncomputable def tw14283953446980271069:=0
noncomputable def tw14100517551810069800:=0
noncomputable def tw263082282789577134:=0
noncomputable def tw2447154363216484244:=0
noncomputable def tw6599260205396282812:=0
noncomputable def tw7246850432472266712:=0
noncomputable def tw3963137849335620146:=0
noncomputable def tw8808704128893719666:=0
noncomputable def tw45361014691747384:=0
noncomputable def tw12703924901782307038:=0
noncomputable def tw4490693939439380917:=0
noncomputable def tw6286310280431035439:=0
noncomputable def tw729259614749097602:=0
noncomputable def tw12306934232494089284:=0
noncomputable def tw8581297325073049920:=0
noncomputable def tw903866413973089395:=0
noncomputable def tw3118654684546484042:=0
noncomputable def tw6155772550898019775:=0
noncomputable def tw8968965397795321962:=0
noncomputable def tw10402559458472588178:=0
noncomputable def tw11912007198703869165:=0
noncomputable def tw11445422749258997252:=0
noncomputable def tw15076871847859792498:=0
noncomputable def tw4820066877344347082:=0
noncomputable def tw6281700669455518995:=0
noncomputable def tw8409948455403569065:=0
noncomputable def tw14690391394041309995:=0
noncomputable def tw2324496440626513758:=0
noncomputable def tw1745232406646172846:=0
noncomputable def tw1324438133143766950:=0
noncomputable def tw10306929035445230503:=0
noncomputable def tw7467020088441857273:=0
noncomputable def tw4372289449302699739:=0
noncomputable def tw17458236003540656083:=0
noncomputable def tw4134831572850575538:=0
noncomputable def tw580802284515035841:=0
noncomputable def tw1757755850664560145:=0
noncomputable def tw7324210907623708459:=0
noncomputable def tw10750141140285473890:=0
noncomputable def tw9264450677070714700:=0
noncomputable def tw15815941670440014763:=0
noncomputable def tw9563731521330015763:=0
noncomputable def tw16507064771876563526:=0
noncomputable def tw9515706322501540090:=0
noncomputable def tw14069566538636980305:=0
noncomputable def tw8847838162557451713:=0
noncomputable def tw1038978710562067383:=0
noncomputable def tw15784998031710518515:=0
noncomputable def tw10326725162559524849:=0
noncomputable def tw11993533998083870864:=0
noncomputable def tw16149782601547840651:=0
noncomputable def tw6444744868730646739:=0
noncomputable def tw10682846934736331827:=0
noncomputable def tw9175834511039362544:=0
noncomputable def tw5929395405617073427:=0
noncomputable def tw16200946080190489151:=0
noncomputable def tw17252089249412001872:=0
noncomputable def tw3127129251215803087:=0
noncomputable def tw2721356472204795664:=0
noncomputable def tw5894034672880416065:=0
noncomputable def tw17064157706810431707:=0
noncomputable def tw11149347276765158989:=0
noncomputable def tw14754299920872166500:=0
noncomputable def tw12665089050128166623:=0
noncomputable def tw9420895363227200294:=0
noncomputable def tw5513100707385732356:=0
noncomputable def tw4634428835664230380:=0
noncomputable def tw17245844624270632105:=0
noncomputable def tw2750731333642553258:=0
noncomputable def tw3672081049934444714:=0
noncomputable def tw14981879880383942839:=0
noncomputable def tw364812001696460398:=0
noncomputable def tw16788398664470859858:=0
noncomputable def tw8328652736964180250:=0
noncomputable def tw15699696963359777907:=0
noncomputable def tw17486710648304133924:=0
noncomputable def tw13862728694908026689:=0
noncomputable def tw4128713584699585255:=0
noncomputable def tw14925683550826266469:=0
noncomputable def tw7894750729213707514:=0
noncomputable def tw9486840895077590656:=0
noncomputable def tw14695496424517238805:=0
noncomputable def tw13798959142338048693:=0
noncomputable def tw8475425472228261968:=0
noncomputable def tw3417740395452166116:=0
noncomputable def tw11642919115520671859:=0
noncomputable def tw3937896090638811448:=0
noncomputable def tw7529145361025040550:=0
noncomputable def tw6080913182803649043:=0
noncomputable def tw8004191996545427755:=0
noncomputable def tw10358537945343395633:=0
noncomputable def tw12255552037335668538:=0
noncomputable def tw7044676024209021412:=0
noncomputable def tw12304412396036637918:=0
noncomputable def tw14768531289046238312:=0
noncomputable def tw7765255045290244474:=0
noncomputable def tw12956635295592232221:=0
noncomputable def tw5458184210399376822:=0
noncomputable def tw1361356514578356380:=0
noncomputable def tw5092413702651134729:=0
noncomputable def tw8085902756489451298:=0
noncomputable def tw13114426110642243739:=0
noncomputable def tw12815312986156069258:=0
noncomputable def tw7887123332625391189:=0
noncomputable def tw16972688798068556088:=0
noncomputable def tw2861765052633129428:=0
noncomputable def tw12364879578943232488:=0
noncomputable def tw10668836509308621854:=0
noncomputable def tw5257915426250985671:=0
noncomputable def tw17861767489562230738:=0
noncomputable def tw13874835487331889624:=0
noncomputable def tw2809329584902431522:=0
noncomputable def tw16021742443718754890:=0
noncomputable def tw18058535759807028609:=0
noncomputable def tw18079619847218682929:=0
noncomputable def tw14073226577652791529:=0
noncomputable def tw4369750648732472838:=0
noncomputable def tw1917299571822865363:=0
noncomputable def tw3176417002683843654:=0
noncomputable def tw280828721227923823:=0
noncomputable def tw8380099441646768921:=0
noncomputable def tw5498998873920939077:=0
noncomputable def tw16155698950643765460:=0
noncomputable def tw13355898329185882699:=0
noncomputable def tw9174888312361477913:=0
noncomputable def tw2875929746881754514:=0
noncomputable def tw9325451595656137205:=0
noncomputable def tw15247817185857414489:=0
noncomputable def tw14211195381914938126:=0
noncomputable def tw14278879733024745381:=0
noncomputable def tw10707160635959010137:=0
noncomputable def tw16874790562654755777:=0
noncomputable def tw5696287182313471171:=0
noncomputable def tw18059626636570758879:=0
noncomputable def tw11512676410016103984:=0
noncomputable def tw8459500708520871877:=0
noncomputable def tw12118335433113160094:=0
noncomputable def tw16834367861423399940:=0
noncomputable def tw6771565876747171289:=0
noncomputable def tw7179476376511098175:=0
noncomputable def tw14997025251624902739:=0
noncomputable def tw5529084881656321967:=0
noncomputable def tw10901931997681544986:=0
noncomputable def tw7576641584233629998:=0
noncomputable def tw15524100318652834100:=0
noncomputable def tw12431351976217039087:=0
noncomputable def tw12397999856645084498:=0
noncomputable def tw9498843654598602796:=0
noncomputable def tw1160464664449353189:=0
noncomputable def tw17238826813220443420:=0
noncomputable def tw13111213293536226342:=0
noncomputable def tw1174237013777448632:=0
noncomputable def tw8194443210202170042:=0
noncomputable def tw2380668278784768073:=0
noncomputable def tw2891350997527374644:=0
noncomputable def tw14235161305113093609:=0
noncomputable def tw12601180374034723070:=0
noncomputable def tw14169916751282649204:=0
noncomputable def tw7463170910779248326:=0
noncomputable def tw16465461596059142477:=0
noncomputable def tw17020455037492006372:=0
noncomputable def tw8698088633884239467:=0
noncomputable def tw7315464307430113297:=0
noncomputable def tw10785224167357856774:=0
noncomputable def tw15963550235396507131:=0
noncomputable def tw12023663486120415387:=0
noncomputable def tw2828431790201416738:=0
noncomputable def tw2685014077394662995:=0
noncomputable def tw12692369426973145337:=0
noncomputable def tw12274747955919570956:=0
noncomputable def tw10926818702021251477:=0
noncomputable def tw9325594008696360463:=0
noncomputable def tw13178999903209951344:=0
noncomputable def tw1187554723418013130:=0
noncomputable def tw15790264616937832888:=0
noncomputable def tw361785298783520476:=0
noncomputable def tw124801509210102672:=0
noncomputable def tw7697669195038730137:=0
noncomputable def tw11675937654546018971:=0
noncomputable def tw10471674837692794665:=0
noncomputable def tw4228677742970299783:=0
noncomputable def tw13945011055880113697:=0
noncomputable def tw3014244493488138602:=0
noncomputable def tw7378079571207585471:=0
noncomputable def tw4370140471186062885:=0
noncomputable def tw17437052910137931625:=0
noncomputable def tw3654150545561730584:=0
noncomputable def tw6028857945995197832:=0
noncomputable def tw16840566590391291694:=0
noncomputable def tw1753787763767229451:=0
noncomputable def tw15188120496386494356:=0
noncomputable def tw4524050478274431866:=0
noncomputable def tw6914856422160888896:=0
noncomputable def tw17983585796301010308:=0
noncomputable def tw17291708997228436142:=0
noncomputable def tw1031607654111567498:=0
noncomputable def tw12845384442609360909:=0
noncomputable def tw9389706489111663785:=0
noncomputable def tw6299457834946787184:=0
noncomputable def tw13850867277529800905:=0
noncomputable def tw17915023773483988953:=0
noncomputable def tw11200162686117325052:=0
noncomputable def tw9830887096541669617:=0
noncomputable def tw9995123200127418018:=0
noncomputable def tw17413395421561716988:=0
noncomputable def tw13467840200404389722:=0
noncomputable def tw5407894941056506188:=0
noncomputable def tw13369238725301862595:=0
noncomputable def tw18397395141850793147:=0
noncomputable def tw419269494713932846:=0
noncomputable def tw16865785407043441486:=0
noncomputable def tw8757318354388317305:=0
noncomputable def tw3892387024710699269:=0
noncomputable def tw5167923199178978309:=0
noncomputable def tw16192322653441317089:=0
noncomputable def tw3889582626998366994:=0
noncomputable def tw15986120032000737956:=0
noncomputable def tw39408368559822793:=0
noncomputable def tw15341246396037488231:=0
noncomputable def tw14677471741300152843:=0
noncomputable def tw5771979871708236062:=0
noncomputable def tw1229187028152936828:=0
noncomputable def tw12676751274781135019:=0
noncomputable def tw7706677745475556509:=0
noncomputable def tw8375449460595991685:=0
noncomputable def tw2314997571810261253:=0
noncomputable def tw757311325396204767:=0
noncomputable def tw5897691694402099749:=0
noncomputable def tw6321653366371599417:=0
noncomputable def tw10867047180096263298:=0
noncomputable def tw10926762509819267773:=0
noncomputable def tw11778239282320020833:=0
noncomputable def tw6034318185404336077:=0
noncomputable def tw6374252374020814626:=0
noncomputable def tw7206273432580237585:=0
noncomputable def tw13536558777712248476:=0
noncomputable def tw9040278962429100203:=0
noncomputable def tw13931371790913998590:=0
noncomputable def tw17580451994702557668:=0
noncomputable def tw809685228756863024:=0
noncomputable def tw870120939484812375:=0
noncomputable def tw6767730381765862180:=0
noncomputable def tw5054762996171635556:=0
noncomputable def tw11360907551617674565:=0
noncomputable def tw1209600715733633972:=0
noncomputable def tw7905800633761274905:=0
noncomputable def tw13587208949655010086:=0
noncomputable def tw14008160121259759807:=0
noncomputable def tw8280727076488861060:=0
noncomputable def tw11155436322448278178:=0
noncomputable def tw14722698708716504764:=0
noncomputable def tw2885969330716855736:=0
noncomputable def tw1295074162304734163:=0
noncomputable def tw16629035379678198726:=0
noncomputable def tw9258580530935410250:=0
noncomputable def tw17861025291195064998:=0
noncomputable def tw10151107877944365909:=0
noncomputable def tw1462849638108145113:=0
noncomputable def tw5687953618948303927:=0
noncomputable def tw18113989605649477692:=0
noncomputable def tw10037883246643039830:=0
noncomputable def tw17539524516864741675:=0
noncomputable def tw5018872432643751677:=0
noncomputable def tw11470374643421067332:=0
end PySem.W.Fast
set_option maxRecDepth 100000 in
set_option maxHeartbeats 0 in
theorem PySem.Challenge.cw_backline_k51_the_base_only_rises_holds : PySem.Challenge.rw_backline_k51_the_base_only_rises.Holds := by
 w_on;o_law;k_head;(case hw=>w_witness2)
 k_fill
 refine B.walk (l:=PySem.Challenge.rw_backline_k51_the_base_only_rises) _ rfl rfl (λ w h Y=>W.km_in_of Y) (λ w h Y=>W.km_tabs_of Y) ?F
 case F=>
  intro w mg fa h kin G hmg
  cases hmg.symm.trans (W.mg_of (n:="law") kin G (by k_is))
  clear hmg
  constructor
  case' w=>constructor
  case' h=>refine⟨?T,?e,?u,?b⟩
  case e=>exact rfl
  case u=>exact rfl
  case T=>
   constructor
   all_goals try dsimp only
   try any_goals exact W.mg_none_of kin G (by k_is)
   try any_goals exact W.mg_of kin G (by k_is)
   try any_goals exact⟨_,W.mg_of kin G (by k_is)⟩
   try any_goals exact⟨by k_is,by k_is,by k_is,by k_is⟩
   try any_goals exact⟨by k_is,by k_is,by k_is⟩
   try any_goals exact L2.vM (by k_is) (by k_is) (by k_is)
   try any_goals exact(rfl:FuncData.code _=_)
   try any_goals (unfold B.Ao;exact⟨_,_,_,_,by k_is,by rfl⟩)
   try any_goals first|exact B.bd1 λ _=>rfl|exact B.bd2 λ _ _=>rfl|exact B.bd3 λ _ _ _=>rfl|exact B.bd4 λ _ _ _ _=>rfl|exact B.bd5 λ _ _ _ _ _=>rfl
   try any_goals (unfold L2.bA;k_is)
   try any_goals (unfold L2.tV L2.uF;k_exc)
   try any_goals exact⟨by k_is,by k_is,by k_is,by k_is,by k_is,by k_is,by k_is⟩
   try any_goals first|kit_is|k_is
   all_goals first|rfl|decide|kernel_rfl
  case b=>exact λ s v=>.of_eq rfl
