import PyProof.Rows.All
import Wide.All
import OpenK.AllK
import Wide.FinOn
import PyProof.EqAt
import PyProof.EqKinds
import PyProof.TupleCall
import KE.BitLaws
import PyProof.InstStoreFacts
import PyProof.ExcInit
import PyProof.InstLoad
import PyProof.ExcAttrAll.Exception
import PyProof.StationsW
import PyProof.ExcClass
import PyProof.RulesAs
import PyProof.NsDelKeeps
import KE.IntTextLaws
import Open.SpecLaws
import KE.OsHead
import KE.OsGo
import PySem.Challenge.RW_frontends_s01_answers
set_option Elab.async false
set_option linter.all false
set_option maxRecDepth 100000
set_option maxHeartbeats 4000000
theorem Z.{u} {a:Sort u}{b:a}:b=b:=rfl
abbrev ac:=@List.length_map
abbrev ae:=@decide_eq_false
abbrev af:=@Option.some.inj
abbrev ag:=@List.length_append
abbrev ai:=@decide_eq_true
abbrev aj:=@List.length_cons
abbrev ak:=@List.getElem?_eq_getElem
abbrev am:=@if_neg
abbrev ao:=@List.map_append
abbrev ap:=@List.getElem?_eq_some_iff
abbrev aq:=@List.mem_singleton
abbrev au:=@List.getElem?_map
abbrev aw:=@if_pos
abbrev ax:=@PySem.F.plainAttrs_list
abbrev ay:=@PySem.wpAny_bind
abbrev az:=@List.mem_cons
abbrev aA:=@Nat.le_refl
abbrev aB:=@List.map_cons
abbrev aC:=@PySem.Heap.get?_push_of_some
abbrev aD:=@List.length_take
abbrev aE:=@List.getD_eq_getElem?_getD
abbrev aF:=@PySem.boot_len
abbrev aG:=@List.mem_append
abbrev aH:=@Bool.and_eq_true
abbrev aI:=@PySem.F.slot_list_append
abbrev aJ:=@decide_eq_true_eq
abbrev aK:=@PySem.Heap.lt_size
abbrev aL:=@PySem.F.type_list_append
abbrev aM:=@List.length_eq_zero_iff
abbrev aN:=@Nat.zero_le
abbrev aO:=@PySem.Heap.get?_push_size
abbrev aP:=@Prod.mk.inj
abbrev aQ:=@Bool.false_ne_true
abbrev aR:=@List.size_toArray
abbrev aS:=@List.mem_of_getElem?
abbrev aT:=@List.take_length
abbrev aU:=@Nat.lt_of_lt_of_le
abbrev aV:=@List.take_of_length_le
abbrev aW:=@List.length_drop
abbrev aX:=@List.mem_cons_of_mem
abbrev aY:=@PySem.wpAny_pure
abbrev aZ:=@List.length_nil
abbrev a0:=@PySem.F.slot_list_extend
abbrev a5:=@PySem.F.type_list_extend
abbrev a6:=@Int.toNat_natCast
abbrev a7:=@List.append_assoc
abbrev a8:=@Nat.le_trans
abbrev a9:=@List.all_eq_true
abbrev ba:=@Nat.ne_of_lt
abbrev bc:=@List.append_nil
abbrev bf:=@PySem.mem_of_lookup
abbrev bg:=@PySem.PassesOwn.never
abbrev bh:=@List.not_mem_nil
abbrev bi:=@List.mem_map
abbrev bj:=@List.nodup_cons
abbrev bn:=@List.mem_append_right
abbrev bo:=@Bool.false_eq_true
abbrev bp:=@List.getElem?_append_left
abbrev bq:=@PySem.Heap.get?_update_other
abbrev br:=@List.flatMap_cons
abbrev bv:=@List.getElem?_append_right
abbrev bw:=@List.drop_drop
abbrev bx:=@List.mem_cons_self
abbrev bz:=@PySem.Heap.size_push
abbrev bA:=@List.getElem?_eq_none
abbrev bB:=@Int.eq_ofNat_of_zero_le
abbrev bC:=@List.take_succ
abbrev bD:=@List.length_singleton
abbrev bE:=@List.map_map
abbrev bF:=@PySem.wpAny_mono
abbrev bG:=@List.drop_eq_nil_of_le
abbrev bH:=@PySem.wpAny_Call_Name_kw
abbrev bI:=@List.foldl_cons
abbrev bJ:=@Bool.eq_iff_iff
abbrev bK:=@List.countP_eq_length_filter
abbrev bL:=@List.cons_append
abbrev bM:=@Nat.lt_irrefl
abbrev bN:=@List.replicate_succ
abbrev bO:=@List.flatMap_append
abbrev bP:=@List.length_replicate
abbrev bQ:=@List.take_append_drop
abbrev bR:=@PySem.wpAny_truthy_bool
abbrev bS:=@List.range_succ_eq_map
abbrev bT:=@Bool.not_eq_true
abbrev bU:=@List.filterMap_cons
abbrev bW:=@List.map_congr_left
abbrev bX:=@List.reverse_cons
abbrev bY:=@List.foldl_append
abbrev bZ:=@PySem.wpAny_loadPart_at
abbrev b5:=@PySem.Heap.get?_update_self
abbrev b6:=@List.getElem?_reverse
abbrev b8:=@List.mem_iff_getElem?
abbrev b9:=@List.map_take
abbrev cf:=@List.length_filterMap_le
abbrev cg:=@List.map_nil
abbrev ci:=@beq_iff_eq
abbrev ck:=@List.mem_filterMap
abbrev cp:=@PyProof.Rows.callWith_type1
abbrev cq:=@List.map_drop
abbrev cu:=@List.flatten_cons
abbrev cv:=@List.length_reverse
abbrev cw:=@PySem.wpAny_loadPart'
abbrev cx:=@Nat.min_eq_left
abbrev cy:=@List.getLast?_eq_getElem?
abbrev cz:=@List.length_filter_le
abbrev cA:=@Nat.le_add_right
abbrev cC:=@Nat.lt_of_le_of_lt
abbrev cD:=@PySem.F.plain_max_loop
abbrev cE:=@List.take_append_of_le_length
abbrev cF:=@of_decide_eq_true
abbrev cG:=@Bool.not_eq_true'
abbrev cH:=@PySem.F.slot_list_count
abbrev cI:=@PySem.F.type_list_count
abbrev cJ:=@Ne.symm
abbrev cK:=@List.head?_drop
abbrev cM:=@List.length_zip
abbrev cN:=@or_false
abbrev cO:=@beq_eq_false_iff_ne
abbrev cP:=@List.length_eq_one_iff
abbrev cQ:=@List.zipWith_cons_cons
abbrev cR:=@List.all_cons
abbrev cS:=@PySem.wpAny_field
abbrev cT:=@List.filter_cons
abbrev cU:=@List.lookup_cons
abbrev cV:=@Bool.false_and
abbrev cW:=@PySem.F.called_enumerate
abbrev cX:=@if_false
abbrev cY:=@Array.getElem?_eq_some_iff
abbrev cZ:=@List.getElem?_drop
abbrev c7:=@PySem.F.slot_tuple_iterator_next
abbrev c9:=@List.singleton_append
abbrev da:=@Classical.byContradiction
abbrev db:=@PySem.wpAny_passesOwn
abbrev dc:=@PySem.codeAny_call_builtin
abbrev dg:=@PySem.wpAny_typeLookup_exc
abbrev dh:=@Nat.testBit_eq_decide_div_mod_eq
abbrev di:=@Nat.pow_le_pow_right
abbrev dj:=@List.nodup_append
abbrev dm:=@List.mem_append_left
abbrev dq:=@List.all_map
abbrev dr:=@List.getElem?_take_of_lt
abbrev du:=@List.filterMap_cons_some
abbrev dv:=@List.any_cons
abbrev dw:=@List.cons.inj
abbrev dz:=@PySem.plainObj_wpAny_Assign_Attribute
abbrev dA:=@if_true
abbrev dB:=@Bool.and_false
abbrev dC:=@List.getElem?_cons_succ
abbrev dE:=@PySem.W.callWith_K
abbrev dF:=@Nat.zero_add
abbrev dG:=@List.getElem?_set_self
abbrev dH:=@PySem.Calls.callWith_builtin
abbrev dI:=@PySem.Obj.data_mapFields
abbrev dJ:=@PySem.wpAny_execs_nil
abbrev dL:=@List.countP_map
abbrev dM:=@PySem.wpAny_holding
abbrev dN:=@Except.ok.inj
abbrev dO:=@PySem.wpAny_standAt
abbrev dP:=@PySem.Paired.length
abbrev dQ:=@Bool.true_and
abbrev dR:=@PySem.wpAny_pyIter_enum
abbrev dS:=@PySem.wpAny_newObj_type
abbrev dU:=@Nat.lt_succ_of_lt
abbrev dW:=@PySem.wpAny_pyIter_list
abbrev dX:=@List.count_eq_countP
abbrev dY:=@PySem.Around.under_plainId
abbrev dZ:=@PySem.F.attrBase_Exception
abbrev d7:=@PySem.wpAny_seqItems
abbrev d8:=@List.getElem?_set_ne
abbrev d9:=@List.mem_range
abbrev eu:=@Nat.succ_mul
abbrev eA:=@List.drop_length
abbrev eB:=@List.getElem?_zip_eq_some
abbrev eE:=@List.flatten_append
abbrev eG:=@List.contains_eq_any_beq
abbrev eI:=@Nat.xor_assoc
abbrev eJ:=@PySem.W.mg_of
abbrev eM:=@List.range_succ
abbrev eO:=@PySem.codeAny_builtin
abbrev eP:=@Nat.testBit_xor
abbrev eQ:=@List.mem_filter
abbrev eU:=@PySem.tupleKind_room_in1
abbrev eV:=@List.filterMap_map
abbrev eW:=@PySem.wpAny_pyIter_tuple
abbrev eX:=@PySem.Calls.spliced_cons
abbrev eY:=@PySem.wpAny_callSpecial?_slot
abbrev eZ:=@PySem.codeAny_mono
abbrev e6:=@List.find?_cons_of_pos
abbrev e8:=@List.length_range
abbrev fg:=@PySem.wpAny_tryCatch
abbrev fh:=@PySem.wpAny_setField
abbrev fi:=@List.any_map
abbrev fj:=@Nat.le_of_succ_le
abbrev fk:=@List.find?_cons_of_neg
abbrev fo:=@PySem.W.methodCall_KW
abbrev fu:=@PySem.F.slot_dict_get
abbrev fz:=@List.contains_iff_mem
abbrev fA:=@PySem.F.entry_max_loop
abbrev fB:=@List.take_add
abbrev fC:=@PyProof.Rows.boot_max
abbrev fD:=@Array.length_toList
abbrev fE:=@List.reverse_append
abbrev fF:=@List.mem_map_of_mem
abbrev fG:=@List.length_zipWith
abbrev fH:=@Int.toNat_of_nonneg
abbrev fJ:=@PySem.W.plainGet_of
abbrev fK:=@List.getElem_of_mem
abbrev fL:=@Nat.ne_of_gt
namespace L2
open PySem PySem.Spec PyProof.Rows
abbrev Key:=Sum Int Str
def sD:Key->Value->Bool
 |.inl k,v=>Value.isInt k v
 |.inr x,v=>Value.isStrOf x v
def Hd(w:World):Key->Int
 |.inl k=>hashInt k
 |.inr x=>hashStr w x
theorem qX:∀{k:Key} {v:Value},sD k v=true->(∃i t,k=Sum.inl i/\v=Value.int i t)\/(∃x t,k=Sum.inr x/\v=Value.str x t)
 |.inl i,v,h=>by
  obtain⟨t,e⟩:=Value.isInt_shape (k:=i) (v:=v) h;exact .inl ⟨i,t,Z,e⟩
 |.inr x,v,h=>by
  obtain⟨t,e⟩:=Value.isStrOf_shape (x:=x) (v:=v) h;exact .inr ⟨x,t,Z,e⟩
theorem Fc(i:Int)(t:Tok):sD (.inl i) (.int i t)=true:=by simp[sD,Value.isInt]
theorem Fd(x:Str)(t:Tok):sD (.inr x) (.str x t)=true:=by simp[sD,Value.isStrOf]
theorem Zc(a b:Int):decide ((Sum.inl a:Key)=Sum.inl b)=(a==b):=by
 by_cases e:a=b
 ·subst e;simp
 ·have h:¬(Sum.inl a:Key)=Sum.inl b:=fun q=>e (Sum.inl.inj q)
  rw[ae h];exact(cO.mpr e).symm
theorem N8(a b:Str):decide ((Sum.inr a:Key)=Sum.inr b)=decide (a=b):=by
 by_cases e:a=b
 ·subst e;simp
 ·have h:¬(Sum.inr a:Key)=Sum.inr b:=fun q=>e (Sum.inr.inj q)
  rw[ae h,ae e]
theorem Zd(a:Int)(b:Str):decide ((Sum.inl a:Key)=Sum.inr b)=false:=ae (fun q=>nomatch q)
theorem Ze(a:Str)(b:Int):decide ((Sum.inr a:Key)=Sum.inl b)=false:=ae (fun q=>nomatch q)
def k9(prog:Program)(w:World):PySem.KeyKind prog w Key where
 is:=sD
 hash:=Hd w
 inj:=fun v a b ha hb=>by
  rcases qX ha with⟨i,t,rfl,rfl⟩|⟨x,t,rfl,rfl⟩
  ·rcases qX hb with⟨j,u,rfl,e⟩|⟨y,u,rfl,e⟩
   ·injection e with e1 _;rw[e1]
   ·exact nomatch e
  ·rcases qX hb with⟨j,u,rfl,e⟩|⟨y,u,rfl,e⟩
   ·exact nomatch e
   ·injection e with e1 _;rw[e1]
 byValue:=fun k v h=>by
  rcases qX h with⟨i,t,rfl,rfl⟩|⟨x,t,rfl,rfl⟩<;>rfl
 pyHash:=fun hv h=>by
  rcases qX hv with⟨i,t,rfl,rfl⟩|⟨x,t,rfl,rfl⟩
  ·exact wpAny_pyHash_int h
  ·exact wpAny_pyHash_str h
 eqBool:=fun hu hv h=>by
  rcases qX hu with⟨i,t,rfl,rfl⟩|⟨x,t,rfl,rfl⟩
  ·rcases qX hv with⟨j,u,rfl,rfl⟩|⟨y,u,rfl,rfl⟩
   ·rw[Zc] at h;exact wpAny_eqBool_int h
   ·rw[Zd] at h;exact SeqAt.EqAt.int_str i t y u _ _ _ _ h
  ·rcases qX hv with⟨j,u,rfl,rfl⟩|⟨y,u,rfl,rfl⟩
   ·rw[Ze] at h;exact SeqAt.EqAt.str_int x t j u _ _ _ _ h
   ·rw[N8] at h;exact wpAny_eqBool_str h
 «strs» :=fun k x t v h=>by
  rcases qX h with⟨i,u,rfl,e⟩|⟨y,u,rfl,e⟩
  ·exact nomatch e
  ·injection e with e1 _
   subst e1;cases v<;>rfl
theorem Uw(prog:Program)(w:World)(i:Int)(t:Tok):(k9 prog w).is (.inl i) (.int i t)=true:=Fc i t
theorem Ux(prog:Program)(w:World)(x:Str)(t:Tok):(k9 prog w).is (.inr x) (.str x t)=true:=Fd x t
inductive V where
 |gT|bl (b:Bool)|int (i:Int)|str (x:Str)|nB (b:Array UInt8)|wL (b:UInt64)|ref (a:Addr)|ty (n:String)
 deriving DecidableEq
def RelV:V->Value->Prop
 |.gT,u=>u=Value.none
 |.bl b,u=>u=Value.bool b
 |.int i,u=>∃t,u=Value.int i t
 |.str x,u=>∃t,u=Value.str x t
 |.nB b,u=>∃t,u=Value.bytes b t
 |.wL b,u=>∃t,u=Value.float b t
 |.ref a,u=>u=Value.ref a
 |.ty n,u=>u=Value.type n
abbrev gG:List V->List Value->Prop:=Paired RelV
theorem gG.length{xs:List V}{us:List Value}(r:gG xs us):xs.length=us.length:=dP r
theorem gG.get:∀{xs:List V} {us:List Value} {i:Nat} {x:V},gG xs us->xs[i]? =some x->∃u,us[i]? =some u/\RelV x u
 |_,_,_,_,.nil,e=>by simp at e
 |_,_,0,_,.cons r _,e=>by simp at e;subst e;exact⟨_,Z,r⟩
 |_,_,i+1,x,.cons _ t,e=>by
  obtain⟨u,h1,h2⟩:=gG.get (i:=i) (x:=x) t (by simpa using e);exact⟨u,by simpa using h1,h2⟩
theorem gG.set{x:V}{u:Value}(r:RelV x u):∀{xs:List V} {us:List Value} (i:Nat),gG xs us->gG (xs.set i x) (us.set i u)
 |_,_,_,.nil=>.nil
 |_,_,0,.cons _ t=>.cons r t
 |_,_,i+1,.cons q t=>.cons q (gG.set r i t)
theorem gG.append:∀{xs ys:List V} {us ws:List Value},gG xs us->gG ys ws->gG (xs++ys) (us++ws)
 |_,_,_,_,.nil,s=>s
 |_,_,_,_,.cons r t,s=>.cons r (gG.append t s)
theorem gG.take:∀{xs:List V} {us:List Value} (n:Nat),gG xs us->gG (xs.take n) (us.take n)
 |_,_,0,_=>.nil
 |_,_,_+1,.nil=>.nil
 |_,_,n+1,.cons r t=>.cons r (gG.take n t)
theorem gG.drop:∀{xs:List V} {us:List Value} (n:Nat),gG xs us->gG (xs.drop n) (us.drop n)
 |_,_,0,r=>r
 |_,_,_+1,.nil=>.nil
 |_,_,n+1,.cons _ t=>gG.drop n t
theorem gG.none_of:∀{xs:List V} {us:List Value} {i:Nat},gG xs us->xs[i]? =none->us[i]? =none:=fun{xs us i} r e=>by
 have h1:=r.length;have h2:xs.length<=i:=List.getElem?_eq_none_iff.mp e;exact List.getElem?_eq_none_iff.mpr (by omega)
def kx:Option V->Option Value->Prop
 |some v,some u=>RelV v u
 |none,none=>True
 |_,_=>False
def KV{κ:Type}:List (κ×V)->List (κ×Value)->Prop:=Paired fun(p:κ×V) (q:κ×Value)=>p.1=q.1/\RelV p.2 q.2
def kV:Key->V
 |.inl i=>.int i
 |.inr x=>.str x
inductive HO where
 |lst (xs:List V)
 |tup (xs:List V)
 |dK (kvs:List (Key×V))|dT (kvs:List (List Key×V))
 |set (S:Int->Bool) (n:Nat)
 |ins (C dx:Addr) (fs:List (Str×V))
 |own (x:Addr)
 |xd (fs:List (Str×V))
 |met (f x:Addr)
 |BI (lo hi:Int)
 |jQ (o:Obj) (u:HO)
 |sT (ps:Array Value)
 |ext (φ:Heap->Prop)
abbrev Hp:=Addr->Option HO
def fN(H:Hp)(a:Addr)(o:HO):Hp:=fun b=>if b=a then some o else H b
theorem fP{H:Hp}{a:Addr}{o:HO}:fN H a o a=some o:=by unfold fN;rw[aw Z]
theorem fU{H:Hp}{a b:Addr}{o:HO}(h:b≠a):fN H a o b=H b:=by unfold fN;rw[am h]
theorem jo{H:Hp}{a:Addr}{o u:HO}:fN (fN H a o) a u=fN H a u:=by
 funext b;unfold fN;split<;>rfl
theorem pN{H:Hp}{a b:Addr}{o u:HO}(h:H a=some o)(h':H b=some u)(d:o≠u):a≠b:=by
 intro e;subst e;rw[h] at h';exact d (af h')
theorem gh{H:Hp}{a b:Addr}{o:HO}(h:H a=some o)(h':H b=none):a≠b:=by
 intro e;subst e;rw[h] at h';cases h'
section
variable (P:Program) (w:World)
def jk(H:Hp)(h:Heap)(a:Addr):HO->Prop
 |.lst xs=>xs.length<=sizeLine/\∃(fV:List Value) (n:Nat),gG xs fV/\h.get? a=some {cls:=.type "list",data:=.seq fV.toArray n}
 |.tup xs=>xs.length<=sizeLine/\∃fV:List Value,gG xs fV/\IsTup h a fV.toArray
 |.dK kvs=>kvs.length<=sizeLine/\(a==sysModules)=false/\∃vs,KV kvs vs/\h.DictOf (k9 P w) a vs
 |.dT kvs=>kvs.length<=sizeLine/\(a==sysModules)=false/\∃xs:List (List Key×Addr×Value),
  Paired (fun(p:List Key×V) (q:List Key×Addr×Value)=>p.1=q.1/\H q.2.1=some (.tup (p.1.map kV))/\RelV p.2 q.2.2) kvs xs/\
  ∃o es ep,h.get? a=some o/\o.ExactDict/\o.data=.dict es ep/\es.toList=xs.map (entryOfKey (tupleKind (k9 P w)))/\(xs.map (·.1)).Nodup
 |.set S n=>h.SetOf (intKind P w) a S n
 |.ins C dx fs=>H dx=some (.own a)/\fs.length<=1000/\dx≠a/\h.get? a=some (PySem.W.instObj C dx)/\
  ∃mA,h.Ns1 dx mA/\(∀f,kx (fs.lookup f) (mA f))/\PySem.Within mA (fs.map (·.1))
 |.own _=>∃o,h.get? a=some o
 |.xd fs=>∃mA,h.Ns1 a mA/\∀f,kx (fs.lookup f) (mA f)
 |.BI lo hi=>∃t u v,h.get? a=some {cls:=.type "range",data:=.fields #[.int lo t,.int hi u,.int 1 v]}
 |.jQ o u=>h.get? a=some o/\jk H h a u
 |.sT ps=>h.get? a=some {cls:=.none,data:=.fields ps}
 |.met f x=>h.get? a=some (PySem.W.methodObj (.ref f) (.ref x))
 |.ext φ=>φ h/\(∃o,h.get? a=some o)/\∀h1 h2:Heap,φ h1->(∀o,h1.get? a=some o->h2.get? a=some o)->φ h2
def iZ(H:Hp)(h:Heap):Prop:=∀a o,H a=some o->jk P w H h a o
end
section
variable {P:Program} {w:World} {H H':Hp} {h h':Heap} {a:Addr} {o:HO}
theorem jk.lt(x:jk P w H h a o):a<h.objs.size:=by
 cases o with
 |lst xs=>obtain⟨_,_,_,_,e⟩:=x;exact aK e
 |tup xs=>obtain⟨_,_,_,p⟩:=x;exact p.lt
 |dK kvs=>obtain⟨_,_,_,_,o,_,_,e,_⟩:=x;exact aK e
 |dT kvs=>obtain⟨_,_,_,_,o,_,_,e,_⟩:=x;exact aK e
 |set S n=>obtain⟨o,_,_,_,e,_⟩:=x;exact aK e
 |ins C dx fs=>obtain⟨_,_,_,e,_⟩:=x;exact aK e
 |own y=>obtain⟨_,e⟩:=x;exact aK e
 |xd fs=>obtain⟨_,⟨_,_,_,e,_⟩,_⟩:=x;exact aK e
 |BI lo hi=>obtain⟨_,_,_,e⟩:=x;exact aK e
 |jQ ob u=>obtain⟨e,_⟩:=x;exact aK e
 |sT ps=>exact aK (show h.get? a=some _ from x)
 |met f y=>exact aK (show h.get? a=some _ from x)
 |ext φ=>obtain⟨_,⟨_,e⟩,_⟩:=x;exact aK e
theorem Paired.He{α β:Type}{F G:α->β->Prop}:∀{Hf:List α} {Hg:List β},Paired F Hf Hg->(∀a b,F a b->G a b)->Paired G Hf Hg
 |_,_,.nil,_=>.nil
 |_,_,.cons r t,f=>.cons (f _ _ r) (Paired.He t f)
theorem jk.nz(x:jk P w H h a o)(k:∀b u,(b=a\/H b=some (.own a))->h.get? b=some u->h'.get? b=some u)
 (ho:∀b,H b=some (.own a)->H' b=some (.own a)) (ht:∀b xs,H b=some (.tup xs)->H' b=some (.tup xs)):jk P w H' h' a o:=by
 induction o with
 |lst xs=>obtain⟨z,fV,n,r,e⟩:=x;exact⟨z,fV,n,r,k _ _ (.inl Z) e⟩
 |tup xs=>obtain⟨z,fV,r,ob,e,c⟩:=x;exact⟨z,fV,r,ob,k _ _ (.inl Z) e,c⟩
 |dK kvs=>obtain⟨z,y,vs,r,ob,es,ep,e,c⟩:=x;exact⟨z,y,vs,r,ob,es,ep,k _ _ (.inl Z) e,c⟩
 |dT kvs=>
  obtain⟨z,y,xs,r,ob,es,ep,e,c⟩:=x;exact⟨z,y,xs,Paired.He r fun p q z=>⟨z.1,ht _ _ z.2.1,z.2.2⟩,ob,es,ep,k _ _ (.inl Z) e,c⟩
 |set S n=>obtain⟨ob,es,ep,t,e,c⟩:=x;exact⟨ob,es,ep,t,k _ _ (.inl Z) e,c⟩
 |ins C dx fs=>
  obtain⟨d,z,ne,e,mA,⟨od,es,ep,e2,c⟩,r⟩:=x;exact⟨ho _ d,z,ne,k _ _ (.inl Z) e,mA,⟨od,es,ep,k _ _ (.inr d) e2,c⟩,r⟩
 |own y=>obtain⟨ob,e⟩:=x;exact⟨ob,k _ _ (.inl Z) e⟩
 |xd fs=>obtain⟨mA,⟨od,es,ep,e,c⟩,r⟩:=x;exact⟨mA,⟨od,es,ep,k _ _ (.inl Z) e,c⟩,r⟩
 |BI lo hi=>obtain⟨t,u,v,e⟩:=x;exact⟨t,u,v,k _ _ (.inl Z) e⟩
 |jQ ob u ih=>obtain⟨e,q⟩:=x;exact⟨k _ _ (.inl Z) e,ih q⟩
 |sT ps=>
  have e:h.get? a=some {cls:=.none,data:=.fields ps}:=x;show h'.get? a=some {cls:=.none,data:=.fields ps};exact k a _ (.inl Z) e
 |met f y=>
  have e:h.get? a=some (PySem.W.methodObj (.ref f) (.ref y)):=x;show h'.get? a=some (PySem.W.methodObj (.ref f) (.ref y));exact k a _ (.inl Z) e
 |ext φ=>obtain⟨p,⟨o,e⟩,st⟩:=x;exact⟨st _ _ p fun o q=>k _ _ (.inl Z) q,⟨o,k _ _ (.inl Z) e⟩,st⟩
theorem iZ.lt(x:iZ P w H h)(e:H a=some o):a<h.objs.size:=(x a o e).lt
theorem iZ.fresh(x:iZ P w H h)(e:h.objs.size<=a):H a=none:=by
 cases q:H a with
 |none=>rfl
 |some u=>exact absurd (aU (x.lt q) e) (bM _)
theorem iZ.kept(x:iZ P w H h)(k:∀b u,h.get? b=some u->h'.get? b=some u):iZ P w H h':=fun a o e=>
 (x a o e).nz (fun b u _ q=>k b u q) (fun _ q=>q) fun _ _ q=>q
theorem iZ.laid(x:iZ P w H h)(k:∀b u,h.get? b=some u->h'.get? b=some u)(hp:h.objs.size<=a)(new:jk P w (fN H a o) h' a o):iZ P w (fN H a o) h':=fun b u e=>by
 have hn:=x.fresh hp
 by_cases hb:b=a
 ·subst hb;rw[fP] at e;cases e;exact new
 ·rw[fU hb] at e;exact(x b u e).nz (fun c v _ q=>k c v q) (fun c q=>by rw[fU (gh q hn)];exact q) fun c xs q=>by rw[fU (gh q hn)];exact q
end
def Rd(H:Hp)(a:Addr)(u:HO):Prop:=H a=some u\/∃o,H a=some (.jQ o u)
theorem Rd.ok{P:Program}{w:World}{H:Hp}{h:Heap}{a:Addr}{u:HO}(r:Rd H a u)(x:iZ P w H h):jk P w H h a u:=by
 rcases r with r|⟨o,r⟩
 ·exact x a u r
 ·obtain⟨_,q⟩:=x a _ r;exact q
def sU:Option HO->Prop
 |some (.lst _)=>True
 |some (.dK _)=>True
 |some (.dT _)=>True
 |some (.set _ _)=>True
 |some (.ins _ _ _)=>True
 |some (.ext _)=>True
 |_=>False
section
variable {P:Program} {w:World} {H:Hp} {h h':Heap} {x e:Addr} {o':HO}
theorem iZ.write(ok:iZ P w H h)(mu:sU (H x))(he:e=x\/H e=some (.own x))(k:∀b u,b≠e->h.get? b=some u->h'.get? b=some u)(wM:∃u,h'.get? e=some u)
 (new:jk P w (fN H x o') h' x o'):iZ P w (fN H x o') h':=fun b u q=>by
 have Bv:∀c y,H c=some (.own y)->c≠x:=fun c y r z=>by subst z;rw[r] at mu;exact mu
 have aaR:∀c xs,H c=some (.tup xs)->c≠x:=fun c xs r z=>by subst z;rw[r] at mu;exact mu
 by_cases hb:b=x
 ·subst hb;rw[fP] at q;cases q;exact new
 ·rw[fU hb] at q
  by_cases u3:b=e
  ·have q':H b=some (.own x):=by
    rcases he with z|z
    ·exact absurd (u3.trans z) hb
    ·rw[u3];exact z
   rw[q] at q';cases q';obtain⟨v,hv⟩:=wM;exact⟨v,by rw[u3];exact hv⟩
  ·refine(ok b u q).nz (fun c v hc r=>k c v ?_ r) (fun c r=>by rw[fU (Bv c b r)];exact r) fun c xs r=>by rw[fU (aaR c xs r)];exact r
   rcases hc with rfl|hc
   ·exact u3
   ·rintro rfl;rcases he with z|z
    ·exact Bv c b hc z
    ·rw[hc] at z;cases z;exact hb Z
end
structure Un(fs ex:List Addr)(H H':Hp)(h h':Heap):Prop where
 keep:∀b o,h.get? b=some o->H b=none->b∉fs->b∉ex->h'.get? b=some o
 slot:∀b o,h.get? b=some o->H b=none->b∈fs->b∉ex->∃sl,h'.get? b=some {o with slots:=sl}
 free:∀b o,h.get? b=some o->H b=none->b∉ex->H' b=none
 there:∀b o,h.get? b=some o->b∉ex->∃o',h'.get? b=some o'
 mj:∀b xs,H b=some (.tup xs)->H' b=some (.tup xs)
 lJ:∀b o u,H b=some (.jQ o u)->H' b=some (.jQ o u)
 mF:∀b ps,H b=some (.sT ps)->∃more,H' b=some (.sT (ps++more))
section
variable {fs wN ex ex':List Addr} {H H1 H2:Hp} {h h1 h2 h':Heap} {a x e:Addr} {o:HO}
theorem Un.any(u:Un fs ex H H1 h h1){b:Addr}{ob:Obj}(q:h.get? b=some ob)(n:H b=none)(hx:b∉ex):∃sl,h1.get? b=some {ob with slots:=sl}:=by
 by_cases hb:b∈fs
 ·exact u.slot b ob q n hb hx
 ·exact⟨ob.slots,u.keep b ob q n hb hx⟩
theorem Un.kept(k:∀b u,h.get? b=some u->h'.get? b=some u):Un fs ex H H h h':=
 ⟨fun b ob q _ _ _=>k b ob q,fun b ob q _ _ _=>⟨ob.slots,k b ob q⟩,fun _ _ _ n _=>n,fun b ob q _=>⟨ob,k b ob q⟩,fun _ _ q=>q,fun _ _ _ q=>q,fun _ ps q=>⟨#[],by rw[q];simp⟩⟩
theorem Un.refl:Un fs ex H H h h:=Un.kept fun _ _ q=>q
theorem Un.laid(k:∀b u,h.get? b=some u->h'.get? b=some u)(hp:h.objs.size<=a)(hn:H a=none):Un fs ex H (fN H a o) h h' where
 keep:=fun b u q _ _ _=>k b u q
 slot:=fun b u q _ _ _=>⟨u.slots,k b u q⟩
 free:=fun b u q n _=>by rw[fU (ba (aU (aK q) hp))];exact n
 there:=fun b u q _=>⟨u,k b u q⟩
 mj:=fun b xs q=>by rw[fU (gh q hn)];exact q
 lJ:=fun b u xs q=>by rw[fU (gh q hn)];exact q
 mF:=fun b ps q=>⟨#[],by rw[fU (gh q hn),q];simp⟩
theorem Un.write(mu:sU (H x))(he:e=x\/H e=some (.own x))(k:∀b u,b≠e->h.get? b=some u->h'.get? b=some u)(wM:∃u,h'.get? e=some u):Un fs ex H (fN H x o) h h':=by
 have hx:∀b,H b=none->b≠x:=fun b n z=>by subst z;rw[n] at mu;exact mu
 have hb:∀b,H b=none->b≠e:=fun b n z=>by
  subst z;rcases he with r|r
  ·exact hx b n r
  ·rw[n] at r;cases r
 have hm:∀b u,H b=some u->¬sU (some u)->b≠x:=fun b u q nm z=>by subst z;rw[q] at mu;exact nm mu
 refine⟨fun b u q n _ _=>k b u (hb b n) q,fun b u q n _ _=>⟨u.slots,k b u (hb b n) q⟩,fun b u q n _=>by rw[fU (hx b n)];exact n,fun b u q _=> ?_,
  fun b xs q=>by rw[fU (hm b _ q fun z=>z)];exact q,fun b u xs q=>by rw[fU (hm b _ q fun z=>z)];exact q,fun b ps q=>⟨#[],by rw[fU (hm b _ q fun z=>z),q];simp⟩⟩
 by_cases u3:b=e
 ·subst u3;exact wM
 ·exact⟨u,k b u u3 q⟩
end
def BJ(h:Heap)(H:Hp):List Addr:=(List.range h.objs.size).filter fun a=>(H a).isSome
def sP(h:Heap)(H:Hp):Heap:=PySem.W.hideAll h (BJ h H)
theorem VX(h:Heap)(H:Hp):(sP h H).objs.size=h.objs.size:=PySem.W.hideAll_size _ _
theorem ME{h:Heap}{H:Hp}{b:Addr}{o:Obj}(e:h.get? b=some o)(n:H b=none):(sP h H).get? b=some o:=
 PySem.W.hideAll_get _ e fun hm=>by
  have q:(H b).isSome=true:=(eQ.mp hm).2;rw[n] at q;simp at q
theorem X9{h:Heap}{H:Hp}{b:Addr}{o:Obj}(e:(sP h H).get? b=some o):h.get? b=some o/\H b=none:=by
 have e':h.get? b=some o:=PySem.W.of_hideAll (BJ h H) e;refine⟨e',?_⟩;cases q:H b with
 |none=>rfl
 |some x=>
  have hm:b∈BJ h H:=eQ.mpr ⟨d9.mpr (aK e'),by simp[q]⟩;have z:(sP h H).get? b=none:=PySem.W.hideAll_none (BJ h H) hm;rw[z] at e;cases e
structure Mod(K:PySem.W.Frag)(mg:Str->Option Value)(base:Heap):Prop where
 u4:K.In base
 glob:base.Ns mainGlobals mg
 blt:∃mb,base.Ns builtinsNs mb/\∀x:Str,x≠"__name__"->mb x=bootBuiltins x
 nolimit:base.NoLimit
structure Cx where
 prog:Program
 w:World
 K:PySem.W.Frag
 mg:Str->Option Value
 base:Heap
 A:Around
 N:List Str
 kX:Shared
 u5:Hp
 env:Env
 outer:List Env
 stack:List Env
 ex:List Addr
 fn:Str->Bool
 calm:Bool
 pn:List (Addr×Obj)
 xe:Value->Shared->Prop
def iQ(l:List Env):List Addr:=l.filterMap (·.frame)
abbrev Cx.fs(X:Cx):List Addr:=iQ X.outer
def wO(sc:Scope)(x:Str):Prop:=sc.names.lookup x=some .local\/sc.names.lookup x=some .cell\/sc.names.lookup x=some .free
def Loc(sc:Scope)(x:Str):Prop:=sc.names.lookup x=some .local\/sc.names.lookup x=some .cell
def Look(env:Env)(h:Heap)(m:Str->Option Value)(x:Str)(u:Value):Prop:=
 (env.kindOf x=some .local/\m x=some u)\/((env.kindOf x=some .cell\/env.kindOf x=some .free)/\∃c,env.cells.lookup x=some c/\h.IsCell c (some u))
structure Cx.Ok(X:Cx):Prop where
 mod:Mod X.K X.mg X.base
 kind:X.env.scope.kind=.function
 glob:X.env.globals=mainGlobals
 blt:X.env.builtins=builtinsNs
 above:X.kX.heap.objs.size<=X.env.locals
 inj:∀x y c,X.env.cells.lookup x=some c->X.env.cells.lookup y=some c->x=y
 has:∀x,(X.env.kindOf x=some .cell\/X.env.kindOf x=some .free)->∃c,X.env.cells.lookup x=some c
 wP:∀x c,X.fn x=true->X.env.cells.lookup x=some c->X.kX.heap.objs.size<=c
 hd:X.calm=true->X.A.handled=none
 frames:X.A.frames=some X.stack
 sV:X.stack=X.outer\/(X.stack=X.env::X.outer/\X.env.frame=some X.env.locals)
 yK:∀b∈X.ex,b≠X.env.locals/\∀x c,X.env.cells.lookup x=some c->c≠b
 bs:∀b o,X.base.get? b=some o->X.kX.heap.get? b=some o/\X.u5 b=none
 pV:X.base.objs.size<=X.kX.heap.objs.size
 ww:∀b o,X.base.get? b=some o->b∉X.ex
 wx:∀b∈X.ex,b∉X.fs
 jw:X.kX.heap.FunFrames X.base X.outer
 qF:∀b∈X.fs,X.u5 b=none
structure Inv(X:Cx)(fM:List (Addr×Obj))(σ:List (Option V))(H:Hp)(s:Shared):Prop where
 ok:X.Ok
 os:s.os=X.kX.os
 bare:AllBare s.gens
 base:Un X.fs X.ex X.u5 H X.kX.heap s.heap
 loc:∃m,s.heap.Ns X.env.locals m/\∀(i:Nat) (x:Str) (v:V),X.N[i]? =some x->σ[i]? =some (some v)->wO X.env.scope x->∃u,RelV v u/\Look X.env s.heap m x u
 cell:∀x c,X.env.cells.lookup x=some c->∃v,s.heap.IsCell c v
 free:H X.env.locals=none
 mP:∀x c,X.env.cells.lookup x=some c->H c=none
 pin:∀p∈X.pn++fM,s.heap.get? p.1=some p.2/\H p.1=none/\p.1≠X.env.locals/\p.1∉X.fs/\∀v,p.2.data≠ .cell v
 gj:iZ X.prog X.w H s.heap
 len:σ.length=X.N.length
section
variable {X:Cx} {fM:List (Addr×Obj)} {σ:List (Option V)} {H H':Hp} {s:Shared} {h':Heap}
theorem Cx.Ok.aaS(ok:X.Ok){b:Addr}{o:Obj}(e:X.base.get? b=some o):b∉X.fs:=fun hb=>by
 have:=(ok.jw.mem hb).1;rw[e] at this;cases this
theorem Inv.bs(I:Inv X fM σ H s):∀b o,X.base.get? b=some o->s.heap.get? b=some o/\H b=none:=fun b o e=>
 ⟨I.base.keep b o (I.ok.bs b o e).1 (I.ok.bs b o e).2 (I.ok.aaS e) (I.ok.ww b o e),I.base.free b o (I.ok.bs b o e).1 (I.ok.bs b o e).2 (I.ok.ww b o e)⟩
theorem Inv.bk(I:Inv X fM σ H s):∀b o,X.base.get? b=some o->s.heap.get? b=some o:=fun b o e=>(I.bs b o e).1
theorem Inv.mod(I:Inv X fM σ H s):Mod X.K X.mg X.base:=I.ok.mod
theorem Inv.jF(I:Inv X fM σ H s):X.K.In s.heap:=I.ok.mod.u4.keeps I.bk
theorem Inv.fr(I:Inv X fM σ H s):∃m,Fr X.base X.env.locals s.heap m:=
 let ⟨m,hn,_⟩:=I.loc
 ⟨m,hn,I.bk,a8 I.ok.pV I.ok.above⟩
theorem Inv.lt(I:Inv X fM σ H s):X.env.locals<s.heap.objs.size:=let ⟨_,hn,_⟩:=I.loc;hn.lt
theorem Inv.sz(I:Inv X fM σ H s):X.kX.heap.objs.size<=s.heap.objs.size:=a8 I.ok.above (Nat.le_of_lt I.lt)
theorem Inv.aaT(I:Inv X fM σ H s){a:Addr}(h:s.heap.objs.size<=a):a∉X.fs:=fun hb=>by
 obtain⟨_,o,ho,_⟩:=I.ok.jw.mem hb;exact absurd (aU (aK ho) (a8 I.sz h)) (bM _)
theorem Inv.rp(I:Inv X fM σ H s):∀x c,X.env.cells.lookup x=some c->c≠X.env.locals:=fun x c e z=>by
 obtain⟨v,o,ho,hd⟩:=I.cell x c e;obtain⟨m,⟨o',es,ep,nD,HA,_⟩,_⟩:=I.loc;rw[z,nD] at ho;cases ho;rw[HA] at hd;cases hd
theorem Inv.jw(I:Inv X fM σ H s):s.heap.FunFrames X.base X.outer:=by
 have all:∀(l:List Env),(∀b∈iQ l,b∈X.fs)->X.kX.heap.FunFrames X.base l->s.heap.FunFrames X.base l:=by
  intro l
  induction l with
  |nil=>intro _ _;trivial
  |cons env r ih=>
   intro hs hl;obtain⟨hk,⟨L,o,hf,hn,ho,hd⟩,hr⟩:=hl;have hL:L∈X.fs:=hs L (by unfold iQ;rw[bU,hf];exact bx);obtain⟨sl,e⟩:=I.base.slot L o ho (I.ok.qF L hL) hL fun z=>I.ok.wx L z hL
   exact⟨hk,⟨L,_,hf,hn,e,hd⟩,ih (fun b hb=>hs b (by unfold iQ;rw[bU,hf];exact aX _ hb)) hr⟩
 exact all X.outer (fun _ hb=>hb) I.ok.jw
theorem Inv.stack(I:Inv X fM σ H s):s.heap.FunFrames X.base X.stack:=by
 rcases I.ok.sV with e|⟨e,hf⟩
 ·rw[e];exact I.jw
 ·rw[e];obtain⟨m,hn,_⟩:=I.loc;refine .cons (by rw[I.ok.kind];decide) hf hn ?_ I.jw;exact Heap.get?_none_of_le (a8 I.ok.pV I.ok.above)
theorem Inv.GH(I:Inv X fM σ H s):∀b∈iQ X.stack,b∈X.env.locals::X.fs:=fun b hb=>by
 rcases I.ok.sV with e|⟨e,hf⟩
 ·rw[e] at hb;exact aX _ hb
 ·rw[e] at hb;unfold iQ at hb;rw[bU,hf] at hb;exact hb
theorem Inv.uw(I:Inv X fM σ H s):∀b∈iQ X.stack,H b=none:=fun b hb=>by
 rcases az.mp (I.GH b hb) with e|hb
 ·rw[e];exact I.free
 ·obtain⟨_,o,ho,_⟩:=I.ok.jw.mem hb;exact I.base.free b o ho (I.ok.qF b hb) fun z=>I.ok.wx b z hb
theorem Inv.step{g':Array GenState}{t':Nat}{d':Drawn}{ch:List Addr}(I:Inv X fM σ H s)
 (ki:∀b∈ch,(b∈X.ex\/X.kX.heap.objs.size<=b)/\b≠X.env.locals/\(∀x c,X.env.cells.lookup x=some c->c≠b)/\∀p∈X.pn++fM,p.1≠b)
 (keep:∀b o,b≠X.env.locals->b∉X.fs->b∉ch->s.heap.get? b=some o->H b=none->h'.get? b=some o)
 (slot:∀b o,b≠X.env.locals->b∈X.fs->b∉ch->s.heap.get? b=some o->H b=none->∃sl,h'.get? b=some {o with slots:=sl}) (free:∀b o,b∉ch->s.heap.get? b=some o->H b=none->H' b=none)
 (there:∀b o,b∉ch->s.heap.get? b=some o->∃o',h'.get? b=some o')
 (mj:∀b xs,H b=some (.tup xs)->H' b=some (.tup xs)) (lJ:∀b o u,H b=some (.jQ o u)->H' b=some (.jQ o u)) (mF:∀b ps,H b=some (.sT ps)->∃more,H' b=some (.sT (ps++more)))
 (ns:∀m,s.heap.Ns X.env.locals m->h'.Ns X.env.locals m) (gj:iZ X.prog X.w H' h') (hg:AllBare g'):
 Inv X fM σ H' {s with heap:=h',gens:=g',drawn:=d',toks:=t'}:=by
 have wQ:∀b o,X.kX.heap.get? b=some o->b≠X.env.locals:=fun b o e=>ba (aU (aK e) I.ok.above)
 have wR:∀b o,X.kX.heap.get? b=some o->b∉X.ex->b∉ch:=fun b o e hx hb=>by
  rcases(ki b hb).1 with z|z
  ·exact hx z
  ·exact absurd (aU (aK e) z) (bM _)
 have Op:∀x c,X.env.cells.lookup x=some c->∀v,s.heap.IsCell c v->h'.IsCell c v:=fun x c e v ⟨o,ho,hd⟩=>by
  have yL:c∉ch:=fun z=>(ki c z).2.2.1 x c e Z
  by_cases hc:c∈X.fs
  ·obtain⟨sl,q⟩:=slot c o (I.rp x c e) hc yL ho (I.mP x c e);exact⟨_,q,hd⟩
  ·exact⟨o,keep c o (I.rp x c e) hc yL ho (I.mP x c e),hd⟩
 refine⟨I.ok,I.os,hg,⟨fun b o e n hb hx=> ?_,fun b o e n hb hx=> ?_,fun b o e n hx=> ?_,fun b o e hx=> ?_,fun b xs e=>mj b xs (I.base.mj b xs e),fun b o xs e=>lJ b o xs (I.base.lJ b o xs e),fun b ps e=> ?_⟩,?_,fun x c e=> ?_,?_,fun x c e=> ?_,fun p hp=> ?_,gj,I.len⟩
 ·exact keep b o (wQ b o e) hb (wR b o e hx) (I.base.keep b o e n hb hx) (I.base.free b o e n hx)
 ·obtain⟨sl,e1⟩:=I.base.slot b o e n hb hx;obtain⟨sl',e2⟩:=slot b _ (wQ b o e) hb (wR b o e hx) e1 (I.base.free b o e n hx);exact⟨sl',e2⟩
 ·obtain⟨o',e1⟩:=I.base.there b o e hx;exact free b o' (wR b o e hx) e1 (I.base.free b o e n hx)
 ·obtain⟨o',e1⟩:=I.base.there b o e hx;exact there b o' (wR b o e hx) e1
 ·obtain⟨m1,e1⟩:=I.base.mF b ps e;obtain⟨m2,e2⟩:=mF b _ e1;exact⟨m1++m2,by rw[e2,Array.append_assoc]⟩
 ·obtain⟨m,hn,hl⟩:=I.loc;refine⟨m,ns m hn,fun i x v e1 e2 e3=> ?_⟩;obtain⟨u,r,l⟩:=hl i x v e1 e2 e3;refine⟨u,r,?_⟩;rcases l with l|⟨k,c,e,z⟩
  ·exact .inl l
  ·exact .inr ⟨k,c,e,Op x c e _ z⟩
 ·obtain⟨v,z⟩:=I.cell x c e;exact⟨v,Op x c e v z⟩
 ·obtain⟨m,⟨o,_,_,ho,_⟩,_⟩:=I.loc;exact free _ o (fun z=>(ki _ z).2.1 rfl) ho I.free
 ·obtain⟨v,o,ho,hd⟩:=I.cell x c e;exact free c o (fun z=>(ki c z).2.2.1 x c e Z) ho (I.mP x c e)
 ·obtain⟨e,n,ne,nf,d⟩:=I.pin p hp;have yL:p.1∉ch:=fun z=>(ki p.1 z).2.2.2 p hp Z
  exact⟨keep p.1 p.2 ne nf yL e n,free p.1 p.2 yL e n,ne,nf,d⟩
theorem Inv.un{t':Nat}(I:Inv X fM σ H s)(u:Un X.fs [] H H' s.heap h')(gj:iZ X.prog X.w H' h'):Inv X fM σ H' {s with heap:=h',toks:=t'}:=by
 obtain⟨m,⟨o,es,ep,ho,r⟩,_⟩:=id I.loc;obtain⟨sl,hL⟩:=u.any ho I.free (by simp)
 exact I.step (g':=s.gens) (d':=s.drawn) (ch:=[]) (fun _ z=>nomatch z) (fun b o _ hb _ e n=>u.keep b o e n hb (by simp)) (fun b o _ hb _ e n=>u.slot b o e n hb (by simp)) (fun b o _ e n=>u.free b o e n (by simp)) (fun b o _ e=>u.there b o e (by simp)) u.mj u.lJ u.mF (fun m' hm=>by
  obtain⟨o',rq,sW,nD,r'⟩:=hm;rw[ho] at nD;cases nD;exact⟨_,rq,sW,hL,r'⟩) gj I.bare
theorem Inv.call{g':Array GenState}{t':Nat}{d':Drawn}{ch:List Addr}(I:Inv X fM σ H s)(u:Un (iQ X.stack) ch H H' s.heap h')(gj:iZ X.prog X.w H' h')(hg:AllBare g')
 (ki:∀b∈ch,(b∈X.ex\/X.kX.heap.objs.size<=b)/\b≠X.env.locals/\(∀x c,X.env.cells.lookup x=some c->c≠b)/\∀p∈X.pn++fM,p.1≠b):
 Inv X fM σ H' {s with heap:=h',gens:=g',drawn:=d',toks:=t'}:=by
 obtain⟨m,⟨o,es,ep,ho,r⟩,_⟩:=id I.loc;obtain⟨sl,hL⟩:=u.any ho I.free fun z=>(ki _ z).2.1 rfl
 exact I.step (ch:=ch) ki (fun b o hL hb hc e n=>u.keep b o e n (fun z=>(az.mp (I.GH b z)).elim hL hb) hc) (fun b o _ _ hc e n=>u.any e n hc) (fun b o hc e n=>u.free b o e n hc) (fun b o hc e=>u.there b o e hc) u.mj u.lJ u.mF (fun m' hm=>by
  obtain⟨o',rq,sW,nD,r'⟩:=hm;rw[ho] at nD;cases nD;exact⟨_,rq,sW,hL,r'⟩) gj hg
theorem Inv.turned{t':Nat}{it:Addr}(I:Inv X fM σ H s)(k:∀b o,b≠it->s.heap.get? b=some o->h'.get? b=some o)(hn:H it=none)(hL:it≠X.env.locals)
 (h1:it∈X.ex\/X.kX.heap.objs.size<=it) (h2:∀x c,X.env.cells.lookup x=some c->c≠it) (h3:∀p∈X.pn++fM,p.1≠it):Inv X fM σ H {s with heap:=h',toks:=t'}:=by
 have sX:∀b u,H b=some u->b≠it:=fun b u e z=>by rw[z,hn] at e;cases e
 refine I.step (g':=s.gens) (d':=s.drawn) (ch:=[it]) (fun b hb=> ?_) (fun b o _ _ hc e _=>k b o (fun z=>hc (by simp[z])) e) (fun b o _ _ hc e _=>⟨o.slots,k b o (fun z=>hc (by simp[z])) e⟩) (fun _ _ _ _ n=>n)
  (fun b o hc e=>⟨o,k b o (fun z=>hc (by simp[z])) e⟩) (fun _ _ e=>e) (fun _ _ _ e=>e) (fun b ps e=>⟨#[],by rw[e];simp⟩) (fun m hm=> ?_) (fun b u e=> ?_) I.bare
 ·have e:b=it:=by simpa using hb
  subst e;exact⟨h1,hL,h2,h3⟩
 ·obtain⟨o,es,ep,ho,r⟩:=hm;exact⟨o,es,ep,k _ o (cJ hL) ho,r⟩
 ·refine(I.gj b u e).nz (fun c v hc q=>k c v ?_ q) (fun _ q=>q) fun _ _ q=>q
  rcases hc with z|z
  ·rw[z];exact sX b u e
  ·exact sX c _ z
theorem Inv.tok(I:Inv X fM σ H s)(t:Nat):Inv X fM σ H {s with toks:=t}:=I.un (h':=s.heap) (t':=t) Un.refl I.gj
theorem Inv.kept{t':Nat}(I:Inv X fM σ H s)(k:∀b u,s.heap.get? b=some u->h'.get? b=some u):Inv X fM σ H {s with heap:=h',toks:=t'}:=I.un (Un.kept k) (I.gj.kept k)
theorem Inv.laid{a:Addr}{o:HO}{t':Nat}(I:Inv X fM σ H s)(k:∀b u,s.heap.get? b=some u->h'.get? b=some u)(hp:s.heap.objs.size<=a)(new:jk X.prog X.w (fN H a o) h' a o):
 Inv X fM σ (fN H a o) {s with heap:=h',toks:=t'}:=I.un (Un.laid k hp (I.gj.fresh hp)) (I.gj.laid k hp new)
theorem Inv.write{x e:Addr}{o:HO}{t':Nat}(I:Inv X fM σ H s)(mu:sU (H x))(he:e=x\/H e=some (.own x))(k:∀b u,b≠e->s.heap.get? b=some u->h'.get? b=some u)(wM:∃u,h'.get? e=some u)
 (new:jk X.prog X.w (fN H x o) h' x o):Inv X fM σ (fN H x o) {s with heap:=h',toks:=t'}:=I.un (Un.write mu he k wM) (I.gj.write mu he k wM new)
theorem Inv.weak{gy:List (Option V)}(I:Inv X fM σ H s)(hl:gy.length=σ.length)(w:∀(i:Nat) v,gy[i]? =some (some v)->σ[i]? =some (some v)):Inv X fM gy H s:=
 ⟨I.ok,I.os,I.bare,I.base,let ⟨m,hn,HB⟩:=I.loc;⟨m,hn,fun i x v e1 e2 e3=>HB i x v e1 (w i v e2) e3⟩,I.cell,I.free,I.mP,I.pin,I.gj,hl.trans I.len⟩
theorem Inv.Nj{nj:List (Addr×Obj)}(I:Inv X fM σ H s)(h:∀p∈nj,s.heap.get? p.1=some p.2/\H p.1=none/\p.1≠X.env.locals/\p.1∉X.fs/\∀v,p.2.data≠ .cell v):Inv X nj σ H s:=
 ⟨I.ok,I.os,I.bare,I.base,I.loc,I.cell,I.free,I.mP,fun p hp=>(aG.mp hp).elim (fun z=>I.pin p (dm _ z)) (h p),I.gj,I.len⟩
theorem Av{N:List Str}(hN:N.Nodup){i j:Nat}{x:Str}(a:N[i]? =some x)(b:N[j]? =some x):i=j:=by
 obtain⟨h1,e1⟩:=ap.mp a;obtain⟨h2,e2⟩:=ap.mp b;exact(List.getElem_inj hN).mp (e1.trans e2.symm)
theorem L4{M:Model}{A:Around}{E:Value->Shared->Prop}{i:Nat}{x:Str}{v:V}{u:Value}{Q:Unit->Shared->Prop}(I:Inv X fM σ H s)(hN:X.N.Nodup)(hi:X.N[i]? =some x)(hx:Loc X.env.scope x)(r:RelV v u)
 (h:∀s',Inv X fM (σ.set i (some v)) H s'->(∃a,Heap.SameBut a s.heap s'.heap/\(a=X.env.locals\/X.env.cells.lookup x=some a))->Q () s') (hf:X.fn x=true\/X.env.scope.names.lookup x=some .local:=by first|exact .inl Z|exact .inr Z|assumption):wpAny M A (storeName X.env x u) Q E s:=by
 obtain⟨m,hn,hl⟩:=id I.loc;have aaU:(X.env.scope.kind==.class||(X.env.scope.kind==.module&&X.env.locals !=X.env.globals))=false:=by rw[I.ok.kind];rfl
 have OQ:i<σ.length:=by rw[I.len];exact(ap.mp hi).1
 have rp:=I.rp
 have Nk:∀{a:Addr} {h':Heap},(∃o,s.heap.get? a=some o/\H a=none)->Heap.SameBut a s.heap h'->iZ X.prog X.w H h':=fun{a h'} ha hs b ob e=>by
  obtain⟨_,_,wc⟩:=ha;refine(I.gj b ob e).nz (fun c w' hc q=>(hs.2 c ?_).trans q) (fun _ q=>q) fun _ _ q=>q
  rintro rfl;rcases hc with rfl|hc
  ·rw[wc] at e;cases e
  ·rw[wc] at hc;cases hc
 rcases hx with hk|hk
 ·refine wpAny_storeName_local hk hn (fun h' sY hs=> ?_) aaU;obtain⟨oL,_,_,Po,_⟩:=id hn;refine h _ ⟨I.ok,I.os,I.bare,⟨fun b o e n hb hx=> ?_,fun b o e n hb hx=> ?_,I.base.free,fun b o e hx=> ?_,I.base.mj,I.base.lJ,I.base.mF⟩,⟨_,sY,fun j y v' e1 e2 e3=> ?_⟩,fun y c e=> ?_,I.free,I.mP,fun p hp=> ?_,Nk ⟨oL,Po,I.free⟩ hs,by simpa using I.len⟩ ⟨_,hs,.inl Z⟩
  ·exact(hs.2 b (ba (aU (aK e) I.ok.above))).trans (I.base.keep b o e n hb hx)
  ·obtain⟨sl,e1⟩:=I.base.slot b o e n hb hx;exact⟨sl,(hs.2 b (ba (aU (aK e) I.ok.above))).trans e1⟩
  ·obtain⟨o',e1⟩:=I.base.there b o e hx;exact⟨o',(hs.2 b (ba (aU (aK e) I.ok.above))).trans e1⟩
  ·by_cases hj:j=i
   ·subst hj;rw[hi] at e1;cases e1;rw[dG OQ] at e2;cases e2;exact⟨u,r,.inl ⟨hk,by simp⟩⟩
   ·rw[d8 (cJ hj)] at e2;obtain⟨u',r',q⟩:=hl j y v' e1 e2 e3;refine⟨u',r',?_⟩;rcases q with⟨k,e⟩|⟨k,c,e,z⟩
    ·refine .inl ⟨k,?_⟩;have:y≠x:=fun e=>hj (Av hN e1 (e▸hi))
     simp[this,e]
    ·exact .inr ⟨k,c,e,z.sameBut hs (rp y c e)⟩
  ·obtain⟨w',z⟩:=I.cell y c e;exact⟨w',z.sameBut hs (rp y c e)⟩
  ·obtain⟨e,n,ne,nf,d⟩:=I.pin p hp;exact⟨(hs.2 p.1 ne).trans e,n,ne,nf,d⟩
 ·have HC:X.fn x=true:=by
   rcases hf with z|z
   ·exact z
   ·rw[z] at hk;cases hk
  obtain⟨c,hc⟩:=I.ok.has x (.inl hk);obtain⟨w',z⟩:=I.cell x c hc;refine wpAny_storeName_cell I.ok.kind hk hc z (fun h' qG hs=> ?_);obtain⟨oc,BK,aaV⟩:=id z;refine h {s with heap:=h'} ⟨I.ok,I.os,I.bare,⟨fun b o e n hb hx=> ?_,fun b o e n hb hx=> ?_,I.base.free,fun b o e hx=> ?_,I.base.mj,I.base.lJ,I.base.mF⟩,⟨m,hn.sameBut hs (cJ (rp x c hc)),fun j y v' e1 e2 e3=> ?_⟩,fun y c' e=> ?_,I.free,I.mP,fun p hp=> ?_,Nk ⟨oc,BK,I.mP x c hc⟩ hs,by simpa using I.len⟩ ⟨c,hs,.inr hc⟩
  ·exact(hs.2 b (ba (aU (aK e) (I.ok.wP x c HC hc)))).trans (I.base.keep b o e n hb hx)
  ·obtain⟨sl,e1⟩:=I.base.slot b o e n hb hx;exact⟨sl,(hs.2 b (ba (aU (aK e) (I.ok.wP x c HC hc)))).trans e1⟩
  ·obtain⟨o',e1⟩:=I.base.there b o e hx;exact⟨o',(hs.2 b (ba (aU (aK e) (I.ok.wP x c HC hc)))).trans e1⟩
  ·by_cases hj:j=i
   ·subst hj;rw[hi] at e1;cases e1;rw[dG OQ] at e2;cases e2;exact⟨u,r,.inr ⟨.inl hk,c,hc,qG⟩⟩
   ·rw[d8 (cJ hj)] at e2;obtain⟨u',r',q⟩:=hl j y v' e1 e2 e3;refine⟨u',r',?_⟩;rcases q with q|⟨k,c',e,z'⟩
    ·exact .inl q
    ·refine .inr ⟨k,c',e,z'.sameBut hs ?_⟩;rintro rfl;exact hj (Av hN e1 (I.ok.inj _ _ _ e hc▸hi))
  ·by_cases Pp:c'=c
   ·subst Pp;exact⟨_,qG⟩
   ·obtain⟨w2,z2⟩:=I.cell y c' e;exact⟨w2,z2.sameBut hs Pp⟩
  ·obtain⟨e,n,ne,nf,d⟩:=I.pin p hp;refine⟨(hs.2 p.1 ?_).trans e,n,ne,nf,d⟩;intro q;rw[q,BK] at e;have q':oc=p.2:=af e;exact d w' (by rw[<-q'];exact aaV)
theorem Aw{M:Model}{A:Around}{E:Value->Shared->Prop}{i:Nat}{x:Str}{v:V}{u:Value}{Q:Unit->Shared->Prop}(I:Inv X fM σ H s)(hN:X.N.Nodup)(hi:X.N[i]? =some x)(hx:Loc X.env.scope x)(r:RelV v u)
 (h:∀s',Inv X fM (σ.set i (some v)) H s'->Q () s') (hf:X.fn x=true\/X.env.scope.names.lookup x=some .local:=by first|exact .inl Z|exact .inr Z|assumption):wpAny M A (storeName X.env x u) Q E s:=
 L4 I hN hi hx r (fun s' I' _=>h s' I') hf
theorem Inv.Bl{s':Shared}{ch:List Addr}(I:Inv X fM σ H s)(ho:s'.os=s.os)(u:Un (iQ X.stack) ch H H' s.heap s'.heap)(gj:iZ X.prog X.w H' s'.heap)(hg:AllBare s'.gens)
 (ki:∀b∈ch,(b∈X.ex\/X.kX.heap.objs.size<=b)/\b≠X.env.locals/\(∀x c,X.env.cells.lookup x=some c->c≠b)/\∀p∈X.pn++fM,p.1≠b):Inv X fM σ H' s':=by
 obtain⟨h',g',d',t',o'⟩:=s';have e:o'=s.os:=ho;subst e;exact I.call (g':=g') (t':=t') (d':=d') u gj hg ki
end
abbrev XK:=Value->Option Addr->Hp->Prop
abbrev St:=List (Option V)
abbrev VK:=V->Hp->Prop
abbrev TE:=St->Hp->VK->Prop
abbrev TT:=St->Hp->(Bool->Hp->Prop)->Prop
abbrev TA:=St->Hp->(List V->Hp->Prop)->Prop
structure oQ where
 nx:St->Hp->Prop
 rt:VK
 bk:St->Hp->Prop:=fun _ _=>False
 ct:St->Hp->Prop:=fun _ _=>False
abbrev TS:=oQ->St->Hp->Prop
def EP(X:Cx)(fM:List (Addr×Obj))(σ:St)(Q:VK)(u:Value)(s':Shared):Prop:=∃v H',Inv X fM σ H' s'/\RelV v u/\Q v H'
def TP(X:Cx)(fM:List (Addr×Obj))(σ:St)(Q:Bool->Hp->Prop)(b:Bool)(s':Shared):Prop:=∃H',Inv X fM σ H' s'/\Q b H'
def AP(X:Cx)(fM:List (Addr×Obj))(σ:St)(Q:List V->Hp->Prop)(us:List Value)(s':Shared):Prop:=∃vs H',Inv X fM σ H' s'/\gG vs us/\Q vs H'
def SP(X:Cx)(fM:List (Addr×Obj))(D:oQ)(f:Flow)(s':Shared):Prop:=
 match f with
 |.next=>∃gy H',Inv X fM gy H' s'/\D.nx gy H'
 |.brk=>∃gy H',Inv X fM gy H' s'/\D.bk gy H'
 |.cont=>∃gy H',Inv X fM gy H' s'/\D.ct gy H'
 |.ret u=>∃v gy H',Inv X fM gy H' s'/\RelV v u/\D.rt v H'
def PE(X:Cx)(e:Expr)(t:TE):Prop:=
 ∀(fM:List (Addr×Obj)) (s:Shared) (σ:St) (H:Hp) (Q:VK),Inv X fM σ H s->t σ H Q->wpAny (model X.prog X.w) X.A (eval e X.env) (EP X fM σ Q) X.xe s
def PT(X:Cx)(e:Expr)(t:TT):Prop:=
 ∀(fM:List (Addr×Obj)) (s:Shared) (σ:St) (H:Hp) (Q:Bool->Hp->Prop),Inv X fM σ H s->t σ H Q->wpAny (model X.prog X.w) X.A (isTrue e X.env (eval e X.env)) (TP X fM σ Q) X.xe s
def PW(X:Cx)(e:Expr)(t:TT):Prop:=
 ∀(whole:Sem Value) (fM:List (Addr×Obj)) (s:Shared) (σ:St) (H:Hp) (Q:Bool->Hp->Prop),Inv X fM σ H s->t σ H Q->wpAny (model X.prog X.w) X.A (isTrue e X.env whole) (TP X fM σ Q) X.xe s
theorem PW.pt{X:Cx}{e:Expr}{t:TT}(h:PW X e t):PT X e t:=h _
def PA(X:Cx)(es:List Expr)(t:TA):Prop:=
 ∀(pos:Pos) (fM:List (Addr×Obj)) (s:Shared) (σ:St) (H:Hp) (Q:List V->Hp->Prop),Inv X fM σ H s->t σ H Q->wpAny (model X.prog X.w) X.A (spliced (backTo pos (starEach es X.env))) (AP X fM σ Q) X.xe s
def PS(X:Cx)(st:Stmt)(t:TS):Prop:=
 ∀(fM:List (Addr×Obj)) (s:Shared) (σ:St) (H:Hp) (D:oQ),Inv X fM σ H s->t D σ H->wpAny (model X.prog X.w) X.A (exec st X.env) (SP X fM D) X.xe s
def l6(X:Cx)(st:List Stmt)(t:TS):Prop:=
 ∀(fM:List (Addr×Obj)) (s:Shared) (σ:St) (H:Hp) (D:oQ),Inv X fM σ H s->t D σ H->wpAny (model X.prog X.w) X.A (execs st X.env) (SP X fM D) X.xe s
theorem gn{α:Type}{t:Sem α}{Q Q':α->Shared->Prop}{M:Model}{A:Around}{E:Value->Shared->Prop}{s:Shared}(h:wpAny M A t Q E s)(hQ:∀a s,Q a s->Q' a s):wpAny M A t Q' E s:=bF h hQ fun _ _ x=>x
section
variable {X:Cx}
theorem bin{a b:Expr}{ta tb:TE}(ha:PE X a ta)(hb:PE X b tb){fM:List (Addr×Obj)}{s:Shared}{σ:St}{H:Hp}{R:V->V->Hp->Prop}(I:Inv X fM σ H s)(h:ta σ H fun x H1=>tb σ H1 fun y H2=>R x y H2)
 {α:Type} {Q:α->Shared->Prop} {f:Value->Value->Sem α}
 (hf:∀v u s2 x y H2,Inv X fM σ H2 s2->RelV x v->RelV y u->R x y H2->wpAny (model X.prog X.w) X.A (f v u) Q X.xe s2):
 wpAny (model X.prog X.w) X.A (eval a X.env) (fun v iL=>wpAny (model X.prog X.w) X.A (eval b X.env) (fun u jN=>wpAny (model X.prog X.w) X.A (f v u) Q X.xe jN) X.xe iL) X.xe s:=by
 refine gn (ha fM s σ H _ I h) fun v s1 ⟨x,H1,I1,r1,q1⟩=> ?_
 refine gn (hb fM s1 σ H1 _ I1 q1) fun u s2 ⟨y,H2,I2,r2,q2⟩=> ?_
 exact hf v u s2 x y H2 I2 r1 r2 q2
def iP(i:Nat):TE:=fun σ H Q=>∃v,σ[i]? =some (some v)/\Q v H
def tC(v:V):TE:=fun _ H Q=>Q v H
theorem Zf{i:Nat}{x:Str}{pos:Pos}(hN:X.N[i]? =some x)(hv:wO X.env.scope x)(hd:(x==("__debug__":Str))=false:=by decide)(og:(x==("__classdict__":Str))=false:=by decide):PE X (.Name x pos) (iP i):=by
 intro fM s σ H Q I h;obtain⟨v,e,h⟩:=h;obtain⟨m,hn,hl⟩:=I.loc;obtain⟨u,r,l⟩:=hl i x v hN e hv;have fin:EP X fM σ Q u s:=⟨v,H,I,r,h⟩;rcases l with⟨hk,hm⟩|⟨hk,c,hc,Bm⟩
 ·exact wpAny_Name (wpAny_loadName_local I.ok.kind hk hn hm fin) hd
 ·rcases hk with hk|hk
  ·exact wpAny_Name (wpAny_loadName_cell I.ok.kind hk hc Bm fin) hd
  ·exact wpAny_Name (wpAny_loadName_free I.ok.kind hk hc Bm fin og) hd
theorem fX{i j pos}:PE X (.Constant (.int i) j pos) (tC (.int i)):=fun _ _ _ H _ I h=>wpAny_Constant_int ⟨.int i,H,I.tok _,⟨_,Z⟩,h⟩
theorem Oq{b j pos}:PE X (.Constant (.bool b) j pos) (tC (.bl b)):=fun _ _ _ H _ I h=>Constant_bool ⟨.bl b,H,I,Z,h⟩
theorem uE{j pos}:PE X (.Constant .none j pos) (tC .gT):=fun _ _ _ H _ I h=>Constant_none ⟨.gT,H,I,Z,h⟩
theorem ku{x j pos}:PE X (.Constant (.str x) j pos) (tC (.str x)):=fun _ _ _ H _ I h=>Calls.Constant_str ⟨.str x,H,I.tok _,⟨_,Z⟩,h⟩
def Gl(X:Cx)(x:Str):Prop:=X.env.kindOf x=some .globalImplicit
theorem ux{E:Value->Shared->Prop}{fM:List (Addr×Obj)}{s:Shared}{σ:St}{H:Hp}{x:Str}{u:Value}{pos:Pos}{Q:Value->Shared->Prop}(I:Inv X fM σ H s)(hg:Gl X x)(hm:X.mg x=some u)(h:Q u s)
 (hd:(x==("__debug__":Str))=false:=by decide):wpAny (model X.prog X.w) X.A (eval (.Name x pos) X.env) Q E s:=
 Calls.Name_function_global I.ok.kind hg (Calls.loadGlobal_global (by rw[I.ok.glob];exact I.mod.glob.keeps I.bk) hm h) hd
theorem qu{E:Value->Shared->Prop}{fM:List (Addr×Obj)}{s:Shared}{σ:St}{H:Hp}{x:Str}{u:Value}{pos:Pos}{Q:Value->Shared->Prop}(I:Inv X fM σ H s)(hg:Gl X x)(hm:X.mg x=none)(hv:bootBuiltins x=some u)(h:Q u s)
 (hn:x≠"__name__":=by decide) (hd:(x==("__debug__":Str))=false:=by decide):wpAny (model X.prog X.w) X.A (eval (.Name x pos) X.env) Q E s:=by
 obtain⟨mb,h1,h2⟩:=I.mod.blt;exact Calls.Name_function_global I.ok.kind hg (Calls.loadGlobal_builtin (by rw[I.ok.glob];exact I.mod.glob.keeps I.bk) hm (by rw[I.ok.blt];exact h1.keeps I.bk) ((h2 x hn).trans hv) h) hd
theorem Gp{x:Str}{v:V}{u:Value}{pos:Pos}(hg:Gl X x)(hm:X.mg x=some u)(r:RelV v u)(hd:(x==("__debug__":Str))=false:=by decide):PE X (.Name x pos) (tC v):=
 fun _ _ _ H _ I h=>ux I hg hm ⟨v,H,I,r,h⟩ hd
theorem Nl{x:Str}{v:V}{u:Value}{pos:Pos}(hg:Gl X x)(hm:X.mg x=none)(hv:bootBuiltins x=some u)(r:RelV v u)(hn:x≠"__name__":=by decide)(hd:(x==("__debug__":Str))=false:=by decide):PE X (.Name x pos) (tC v):=
 fun _ _ _ H _ I h=>qu I hg hm hv ⟨v,H,I,r,h⟩ hn hd
variable {a b:Expr} {ta tb:TE} {pos:Pos}
def PC(X:Cx)(op:CmpOp)(a b:Expr)(t:TE):Prop:=
 ∀(fM:List (Addr×Obj)) (s:Shared) (σ:St) (H:Hp) (Q:VK),Inv X fM σ H s->t σ H Q->
  wpAny (model X.prog X.w) X.A (eval a X.env) (fun v iL=>wpAny (model X.prog X.w) X.A (eval b X.env) (fun u jN=>wpAny (model X.prog X.w) X.A (compareOp op v u) (EP X fM σ Q) X.xe jN) X.xe iL) X.xe s
theorem W2(b:Expr){op:CmpOp}(h:op≠ .In)(h2:op≠ .NotIn):behindInMarks op b=false:=by
 have e1:(op==CmpOp.In)=false:=by cases op<;>first|rfl|exact absurd Z h
 have e2:(op==CmpOp.NotIn)=false:=by cases op<;>first|rfl|exact absurd Z h2
 cases b<;>simp[behindInMarks,e1,e2]
def aaW(ta:TE):TE:=fun σ H Q=>ta σ H fun x H1=>Q (.bl (decide (x=.gT))) H1
def Z8(ta:TE):TE:=fun σ H Q=>ta σ H fun x H1=>Q (.bl (!decide (x=.gT))) H1
theorem RelV.MF{x:V}{v:Value}(r:RelV x v):(v==Value.none)=decide (x=.gT):=by
 cases x with
 |gT=>cases r;rfl
 |bl _=>cases r;rfl
 |int _=>obtain⟨t,rfl⟩:=r;rfl
 |str _=>obtain⟨t,rfl⟩:=r;rfl
 |nB _=>obtain⟨t,rfl⟩:=r;rfl
 |wL _=>obtain⟨t,rfl⟩:=r;rfl
 |ref _=>cases r;rfl
 |ty _=>cases r;rfl
theorem A2{j kW}(ha:PE X a ta):PC X .Is a (.Constant .none j kW) (aaW ta):=by
 intro fM s σ H Q I h;refine gn (ha fM s σ H _ I h) fun v s1 ⟨x,H1,I1,r1,q1⟩=> ?_
 exact Constant_none (is_none_gen ⟨.bl _,H1,I1,by rw[r1.MF];rfl,q1⟩)
theorem Gq{j kW}(ha:PE X a ta):PC X .IsNot a (.Constant .none j kW) (Z8 ta):=by
 intro fM s σ H Q I h;refine gn (ha fM s σ H _ I h) fun v s1 ⟨x,H1,I1,r1,q1⟩=> ?_
 exact Constant_none (isnot_none_gen ⟨.bl _,H1,I1,by rw[r1.MF];rfl,q1⟩)
def tB(t:TE):TT:=fun σ H Q=>t σ H fun x H1=>∃c,x=.bl c/\Q c H1
theorem qv{op:CmpOp}{t:TE}(h:PC X op a b t)(h1:behindInMarks op b=false:=by first|exact W2 _ (by decide) (by decide)|rfl):PT X (.Compare a [op] [b] pos) (tB t):=by
 intro fM s σ H Q I hw;refine wpAny_isTrue_Compare1 (gn (h fM s σ H _ I hw) fun v s1 h1=>gn h1 fun u s2 h2=>gn h2 fun c s3 ⟨x,H1,I1,r1,q1⟩=> ?_) h1;obtain⟨d,rfl,q⟩:=q1;cases r1;exact bR ⟨H1,I1,q⟩
theorem lU{e:Expr}{t:TE}(h:PE X e t)(he:∀whole,isTrue e X.env whole=(do let v<-whole;standAt e.pos;holding [v] (truthy v)):=by intro _;rfl):PT X e (tB t):=by
 intro fM s σ H Q I hw;refine isTrue_plain (gn (h fM s σ H _ I hw) fun v s1 ⟨x,H1,I1,r1,q1⟩=> ?_) (he _);obtain⟨d,rfl,q⟩:=q1;cases r1;exact bR ⟨H1,I1,q⟩
variable {tA BL:TT} {hV:List Expr}
def aaX(t u:TT):TT:=fun σ H Q=>t σ H fun c H1=>if c=true then u σ H1 Q else Q false H1
def tOr(t u:TT):TT:=fun σ H Q=>t σ H fun c H1=>if c=true then Q true H1 else u σ H1 Q
def aaY(t:TT):TT:=fun σ H Q=>t σ H fun c H1=>Q (!c) H1
theorem AO(ha:PT X a tA):PW X (.BoolOp .And [a] pos) tA:=by
 intro wh fM s σ H Q I h;refine isTrue_and (gn (ha fM s σ H Q I h) fun c s1 e=> ?_);cases c with
 |true=>exact isTrue_and_nil e
 |false=>exact e
theorem qx(ha:PT X a tA):PW X (.BoolOp .Or [a] pos) tA:=by
 intro wh fM s σ H Q I h;refine isTrue_or (gn (ha fM s σ H Q I h) fun c s1 e=> ?_);cases c with
 |false=>exact isTrue_or_nil e
 |true=>exact e
theorem A3(ha:PT X a tA)(hb:PW X (.BoolOp .And (b::hV) pos) BL):PW X (.BoolOp .And (a::b::hV) pos) (aaX tA BL):=by
 intro wh fM s σ H Q I h;refine isTrue_and (gn (ha fM s σ H _ I h) fun c s1 ⟨H1,I1,q1⟩=> ?_);cases c with
 |true=>exact hb wh fM s1 σ H1 Q I1 q1
 |false=>exact⟨H1,I1,q1⟩
theorem pO(ha:PT X a tA)(hb:PW X (.BoolOp .Or (b::hV) pos) BL):PW X (.BoolOp .Or (a::b::hV) pos) (tOr tA BL):=by
 intro wh fM s σ H Q I h;refine isTrue_or (gn (ha fM s σ H _ I h) fun c s1 ⟨H1,I1,q1⟩=> ?_);cases c with
 |true=>exact⟨H1,I1,q1⟩
 |false=>exact hb wh fM s1 σ H1 Q I1 q1
theorem li(ha:PT X a tA):PT X (.UnaryOp .Not a pos) (aaY tA):=by
 intro fM s σ H Q I h;exact isTrue_not (ha fM s σ H (fun c H1=>Q (!c) H1) I h)
def Os(ta tb:TE):TE:=fun σ H Q=>ta σ H fun x H1=>∃c,x=.bl c/\if c=true then tb σ H1 Q else Q (.bl false) H1
def OR(ta tb:TE):TE:=fun σ H Q=>ta σ H fun x H1=>∃c,x=.bl c/\if c=true then Q (.bl true) H1 else tb σ H1 Q
theorem A4{op}{t:TE}(h:PE X a t):PE X (.BoolOp op [a] pos) t:=fun fM s σ H Q I hw=>BoolOp_one (h fM s σ H Q I hw)
theorem GI(ha:PE X a ta)(hb:PE X (.BoolOp .And (b::hV) pos) tb):PE X (.BoolOp .And (a::b::hV) pos) (Os ta tb):=by
 intro fM s σ H Q I h;refine BoolOp_and (gn (ha fM s σ H _ I h) fun v s1 ⟨x,H1,I1,r1,q1⟩=> ?_);obtain⟨c,rfl,q1⟩:=q1;cases r1;refine bR ?_;cases c with
 |true=>exact hb fM s1 σ H1 Q I1 q1
 |false=>exact⟨.bl false,H1,I1,Z,q1⟩
theorem Z9(ha:PE X a ta)(hb:PE X (.BoolOp .Or (b::hV) pos) tb):PE X (.BoolOp .Or (a::b::hV) pos) (OR ta tb):=by
 intro fM s σ H Q I h;refine BoolOp_or (gn (ha fM s σ H _ I h) fun v s1 ⟨x,H1,I1,r1,q1⟩=> ?_);obtain⟨c,rfl,q1⟩:=q1;cases r1;refine bR ?_;cases c with
 |false=>exact hb fM s1 σ H1 Q I1 q1
 |true=>exact⟨.bl true,H1,I1,Z,q1⟩
def tIf(t:TT)(ta tb:TE):TE:=fun σ H Q=>t σ H fun c H1=>if c=true then ta σ H1 Q else tb σ H1 Q
theorem yc{c:Expr}(hc:PT X c tA)(ha:PE X a ta)(hb:PE X b tb):PE X (.IfExp c a b pos) (tIf tA ta tb):=by
 intro fM s σ H Q I h;refine wpAny_IfExp (gn (hc fM s σ H _ I h) fun d s1 ⟨H1,I1,q1⟩=> ?_);cases d with
 |true=>exact ha fM s1 σ H1 Q I1 q1
 |false=>exact hb fM s1 σ H1 Q I1 q1
end
def fS(K:PySem.W.Frag)(H:Hp)(a:Addr)(xs:List V):Prop:=
 Rd H a (.lst xs)\/
  ∃(o:Obj) (fV:Array Value) (n:Nat),K.lookup a=some o/\o.cls=.type "list"/\o.dict=none/\o.data=.seq fV n/\fV.size<=sizeLine/\gG xs fV.toList
def iO(K:PySem.W.Frag)(H:Hp)(a:Addr)(xs:List V):Prop:=
 Rd H a (.tup xs)\/
  ∃(o:Obj) (fV:Array Value) (n:Nat),K.lookup a=some o/\o.cls=.type "tuple"/\o.data=.seq fV n/\fV.size<=sizeLine/\gG xs fV.toList
def aaZ:Value->Option V
 |.none=>some .gT
 |.bool b=>some (.bl b)
 |.int i _=>some (.int i)
 |.str x _=>some (.str x)
 |.bytes b _=>some (.nB b)
 |.float b _=>some (.wL b)
 |.ref a=>some (.ref a)
 |.type n=>some (.ty n)
 |_=>none
theorem RelV.abs{x:V}{u:Value}(r:RelV x u):aaZ u=some x:=by
 cases x with
 |gT=>cases r;rfl
 |bl _=>cases r;rfl
 |int _=>obtain⟨t,rfl⟩:=r;rfl
 |str _=>obtain⟨t,rfl⟩:=r;rfl
 |nB _=>obtain⟨t,rfl⟩:=r;rfl
 |wL _=>obtain⟨t,rfl⟩:=r;rfl
 |ref _=>cases r;rfl
 |ty _=>cases r;rfl
theorem RelV.inj{x y:V}{u:Value}(r:RelV x u)(q:RelV y u):x=y:=af (r.abs.symm.trans q.abs)
theorem gG.inj:∀{xs ys:List V} {us:List Value},gG xs us->gG ys us->xs=ys
 |_,_,_,.nil,.nil=>rfl
 |_,_,_,.cons r t,.cons r' t'=>by rw[r.inj r',gG.inj t t']
section
variable {X:Cx} {fM:List (Addr×Obj)} {σ:St} {H:Hp} {s:Shared} {a:Addr} {xs ys:List V}
theorem fS.of{K:PySem.W.Frag}(h:H a=some (.lst xs)):fS K H a xs:=.inl (.inl h)
theorem iO.of{K:PySem.W.Frag}(h:H a=some (.tup xs)):iO K H a xs:=.inl (.inl h)
theorem Inv.list(I:Inv X fM σ H s)(h:fS X.K H a xs):∃fV:List Value,gG xs fV/\PlainL s.heap a fV.toArray/\xs.length<=sizeLine:=by
 rcases h with h|⟨o,fV,n,hk,hc,hd,hs,hz,r⟩
 ·obtain⟨z,fV,n,r,e⟩:=h.ok I.gj;exact⟨fV,r,⟨_,n,e,Z,Z,Z⟩,z⟩
 ·refine⟨fV.toList,r,⟨o,n,I.jF a o hk,hc,hd,by simpa using hs⟩,?_⟩;have e:=r.length;simp only[fD] at e;omega
theorem Inv.tuple(I:Inv X fM σ H s)(h:iO X.K H a xs):∃fV:List Value,gG xs fV/\IsTup s.heap a fV.toArray/\xs.length<=sizeLine:=by
 rcases h with h|⟨o,fV,n,hk,hc,hs,hz,r⟩
 ·obtain⟨z,fV,r,p⟩:=h.ok I.gj;exact⟨fV,r,p,z⟩
 ·refine⟨fV.toList,r,⟨o,I.jF a o hk,hc,n,by simpa using hs⟩,?_⟩;have e:=r.length;simp only[fD] at e;omega
theorem Inv.yd(I:Inv X fM σ H s)(h:fS X.K H a xs)(h':fS X.K H a ys):xs=ys:=by
 obtain⟨fV,r,⟨o,n,e,_,_,d⟩,_⟩:=I.list h;obtain⟨nA,r',⟨o',n',e',_,_,d'⟩,_⟩:=I.list h';rw[e] at e';cases e';rw[d] at d';injection d' with d1 _
 have:fV=nA:=by simpa using congrArg Array.toList d1
 subst this;exact r.inj r'
theorem Inv.L5(I:Inv X fM σ H s)(h:iO X.K H a xs)(h':iO X.K H a ys):xs=ys:=by
 obtain⟨fV,r,⟨o,e,_,n,d⟩,_⟩:=I.tuple h;obtain⟨nA,r',⟨o',e',_,n',d'⟩,_⟩:=I.tuple h';rw[e] at e';cases e';rw[d] at d';injection d' with d1 _
 have:fV=nA:=by simpa using congrArg Array.toList d1
 subst this;exact r.inj r'
end
abbrev Cx.pQ(X:Cx)(E:Value->Shared->Prop):Cx:={X with xe:=E}
abbrev Cx.rA(X:Cx):Cx:=X.pQ fun _ _=>False
theorem Cx.Ok.pQ{X:Cx}(ok:X.Ok)(E:Value->Shared->Prop):(X.pQ E).Ok:=
 ⟨ok.mod,ok.kind,ok.glob,ok.blt,ok.above,ok.inj,ok.has,ok.wP,ok.hd,ok.frames,ok.sV,ok.yK,ok.bs,ok.pV,ok.ww,ok.wx,ok.jw,ok.qF⟩
theorem Cx.Ok.rc{X:Cx}{E:Value->Shared->Prop}(ok:(X.pQ E).Ok):X.Ok:=
 ⟨ok.mod,ok.kind,ok.glob,ok.blt,ok.above,ok.inj,ok.has,ok.wP,ok.hd,ok.frames,ok.sV,ok.yK,ok.bs,ok.pV,ok.ww,ok.wx,ok.jw,ok.qF⟩
section
variable {X:Cx} {fM:List (Addr×Obj)} {σ:St} {H:Hp} {s:Shared} {E:Value->Shared->Prop}
theorem Inv.pQ(I:Inv X fM σ H s)(E:Value->Shared->Prop):Inv (X.pQ E) fM σ H s:=⟨I.ok.pQ E,I.os,I.bare,I.base,I.loc,I.cell,I.free,I.mP,I.pin,I.gj,I.len⟩
theorem Inv.rc(I:Inv (X.pQ E) fM σ H s):Inv X fM σ H s:=⟨I.ok.rc,I.os,I.bare,I.base,I.loc,I.cell,I.free,I.mP,I.pin,I.gj,I.len⟩
theorem SP.rc{D:oQ}{f:Flow}{s':Shared}(h:SP (X.pQ E) fM D f s'):SP X fM D f s':=by
 cases f with
 |next=>obtain⟨gy,H',I,q⟩:=h;exact⟨gy,H',I.rc,q⟩
 |brk=>obtain⟨gy,H',I,q⟩:=h;exact⟨gy,H',I.rc,q⟩
 |cont=>obtain⟨gy,H',I,q⟩:=h;exact⟨gy,H',I.rc,q⟩
 |ret u=>obtain⟨v,gy,H',I,r,q⟩:=h;exact⟨v,gy,H',I.rc,r,q⟩
theorem PE.rA{e:Expr}{t:TE}(h:PE X.rA e t):PE X e t:=fun fM s σ H Q I hw=>
 bF (h fM s σ H Q (I.pQ _) hw) (fun _ _ ⟨v,H',I',r,q⟩=>⟨v,H',I'.rc,r,q⟩) fun _ _ z=>False.elim z
theorem l6.rA{st:List Stmt}{t:TS}(h:l6 X.rA st t):l6 X st t:=fun fM s σ H D I hw=>
 bF (h fM s σ H D (I.pQ _) hw) (fun _ _ q=>q.rc) fun _ _ z=>False.elim z
end
section
variable {X:Cx} {st:Stmt} {hV:List Stmt} {t u:TS} {e:Expr} {te:TE} {pos:Pos}
def uJ:TS:=fun D σ H=>D.nx σ H
def jS(t u:TS):TS:=fun D σ H=>t {D with nx:=u D} σ H
theorem ic:l6 X [] uJ:=fun _ _ σ H _ I h=>dJ ⟨σ,H,I,h⟩
theorem fT(h1:PS X st t)(h2:l6 X hV u):l6 X (st::hV) (jS t u):=by
 intro fM s σ H D I h;refine wpAny_execs_cons (gn (h1 fM s σ H {D with nx:=u D} I h) fun f s1 q=> ?_);cases f with
 |next=>
  obtain⟨gy,H',I',q⟩:=q;exact h2 fM s1 gy H' D I' q
 |ret v=>exact q
 |brk=>exact q
 |cont=>exact q
theorem fW(h1:PS X st t):l6 X [st] t:=by
 intro fM s σ H D I h;refine wpAny_execs_cons (gn (h1 fM s σ H D I h) fun f s1 q=> ?_);cases f with
 |next=>exact dJ q
 |ret v=>exact q
 |brk=>exact q
 |cont=>exact q
def aaa:TS:=fun D σ H=>D.ct σ H
theorem KO:PS X (.Continue pos) aaa:=fun _ _ σ H _ I h=>wpAny_Continue ⟨σ,H,I,h⟩
theorem Inv.quiet{fM:List (Addr×Obj)}{σ:St}{H:Hp}{s:Shared}(I:Inv X fM σ H s):interactive X.env=false:=by simp[interactive,I.ok.kind]
def we(te:TE):TS:=fun D σ H=>te σ H fun _ H1=>D.nx σ H1
theorem iS(he:PE X e te)(hs:swapsWith e none pos.line X.env=pure false:=by rfl):PS X (.Expr e pos) (we te):=by
 intro fM s σ H D I h;exact wpAny_Expr_any (gn (he fM s σ H _ I h) fun v s1 ⟨x,H1,I1,r1,q1⟩=>⟨σ,H1,I1,q1⟩) I.quiet hs
def wy(te:TE):TS:=fun D σ H=>te σ H D.rt
theorem gD(he:PE X e te):PS X (.Return (some e) pos) (wy te):=by
 intro fM s σ H D I h;exact wpAny_Return_some (gn (he fM s σ H _ I h) fun v s1 ⟨x,H1,I1,r1,q1⟩=>⟨x,σ,H1,I1,r1,q1⟩)
def aab:TS:=fun D _ H=>D.rt .gT H
theorem Ya:PS X (.Return none pos) aab:=fun _ _ σ H _ I h=>wpAny_Return_none ⟨.gT,σ,H,I,Z,h⟩
def uR(c:TT)(t u:TS):TS:=fun D σ H=>c σ H fun b H1=>if b=true then t D σ H1 else u D σ H1
theorem gZ{c:Expr}{a b:List Stmt}{tc:TT}(hc:PT X c tc)(ha:l6 X a t)(hb:l6 X b u):PS X (.If c a b pos) (uR tc t u):=by
 intro fM s σ H D I h;refine wpAny_If (gn (hc fM s σ H _ I h) fun d s1 ⟨H1,I1,q1⟩=> ?_);cases d with
 |true=>exact ha fM s1 σ H1 D I1 q1
 |false=>exact hb fM s1 σ H1 D I1 q1
end
abbrev TG:=V->St->Hp->(St->Hp->Prop)->Prop
abbrev u6:=List V->St->Hp->(St->Hp->Prop)->Prop
def PG(X:Cx)(vV:Expr)(t:TG):Prop:=
 ∀(fM:List (Addr×Obj)) (s:Shared) (σ:St) (H:Hp) (v:V) (u:Value) (Q:St->Hp->Prop),Inv X fM σ H s->RelV v u->t v σ H Q->
  wpAny (model X.prog X.w) X.A (assign vV X.env u) (fun _ s'=>∃gy H',Inv X fM gy H' s'/\Q gy H') X.xe s
def BM(X:Cx)(ts:List Expr)(t:u6):Prop:=
 ∀(fM:List (Addr×Obj)) (s:Shared) (σ:St) (H:Hp) (vs:List V) (us:List Value) (Q:St->Hp->Prop),Inv X fM σ H s->gG vs us->t vs σ H Q->
  wpAny (model X.prog X.w) X.A (assignInOrder ((assignEach ts X.env).map (·.2)) us) (fun _ s'=>∃gy H',Inv X fM gy H' s'/\Q gy H') X.xe s
abbrev Hh:=V->V->V->Hp->(Hp->Prop)->Prop
def OS(X:Cx)(t:Hh):Prop:=
 ∀(fM:List (Addr×Obj)) (s:Shared) (σ:St) (H:Hp) (o i v:V) (ov iv u:Value) (Q:Hp->Prop),Inv X fM σ H s->RelV o ov->RelV i iv->RelV v u->t o i v H Q->
  wpAny (model X.prog X.w) X.A (setItem ov iv u) (fun _ s'=>∃H',Inv X fM σ H' s'/\Q H') X.xe s
abbrev BN:=V->V->Hp->VK->Prop
def HD(X:Cx)(op:Operator)(t:BN):Prop:=
 ∀(fM:List (Addr×Obj)) (s:Shared) (σ:St) (H:Hp) (x y:V) (v u:Value) (Q:VK),Inv X fM σ H s->RelV x v->RelV y u->t x y H Q->
  wpAny (model X.prog X.w) X.A (inplaceOp op v u) (EP X fM σ Q) X.xe s
section
variable {X:Cx} {pos:Pos}
def sE(i:Nat):TG:=fun v σ H Q=>Q (σ.set i (some v)) H
theorem iJ{i:Nat}{x:Str}(hN:X.N.Nodup)(hi:X.N[i]? =some x)(hx:Loc X.env.scope x)(hf:X.fn x=true\/X.env.scope.names.lookup x=some .local:=by first|exact .inl Z|exact .inr Z|assumption):PG X (.Name x pos) (sE i):=by
 intro fM s σ H v u Q I r h;exact wpAny_assign_Name (Aw I hN hi hx r (fun s' I'=>⟨_,H,I',h⟩) hf)
def aa0:u6:=fun vs σ H Q=>vs=[]/\Q σ H
def aac(t:TG)(u:u6):u6:=fun vs σ H Q=>∃v r,vs=v::r/\t v σ H fun gy H'=>u r gy H' Q
theorem qZ:BM X [] aa0:=by
 intro fM s σ H vs us Q I r h;obtain⟨e,h⟩:=h;subst e;cases r;exact assignInOrder_nil ⟨σ,H,I,h⟩
theorem lT{e:Expr}{es:List Expr}{t:TG}{u:u6}(h1:PG X e t)(h2:BM X es u)
 (hs:(assignEach (e::es) X.env).map (·.2)=assign e X.env::(assignEach es X.env).map (·.2):=by rfl):BM X (e::es) (aac t u):=by
 intro fM s σ H vs us Q I r h;obtain⟨v,vr,e1,h⟩:=h;subst e1;cases r with
 |cons r rr=>
  rw[hs];refine assignInOrder_cons (gn (h1 fM s σ H _ _ _ I r h) fun _ s1 ⟨mm,H1,I1,q1⟩=> ?_);exact h2 fM s1 mm H1 _ _ Q I1 rr q1
def OT(K:PySem.W.Frag)(n:Nat)(t:u6):TG:=fun v σ H Q=>∃a xs,v=.ref a/\iO K H a xs/\xs.length=n/\t xs σ H Q
theorem rf{es:List Expr}{k:Nat}{t:u6}{n:Nat}(hc:X.calm=true)(h:BM X es t)
 (hn:(assignEach es X.env).length=n:=by rfl) (kL:(assignEach es X.env).findIdx? (·.1)=none:=by rfl):PG X (.Tuple es k pos) (OT X.K n t):=by
 intro fM s σ H v u Q I r hw;obtain⟨a,xs,e1,hq,hl,hw⟩:=hw;subst e1;cases r;obtain⟨fV,rv,ht,hz⟩:=I.tuple hq;refine assign_Tuple_tuple (I.ok.hd hc) ht (by simp[hn,<-hl,rv.length]) kL fun h' hx=> ?_
 have I1:Inv X fM σ H {s with heap:=h'}:=I.kept (t':=s.toks) fun b o e=>hx b o (ba (aK e)) e
 exact h fM _ σ H xs _ Q I1 (by simpa using rv) hw
def aa1(to ti:TE)(t:Hh):TG:=fun v σ H Q=>to σ H fun o H1=>ti σ H1 fun i H2=>t o i v H2 fun H3=>Q σ H3
theorem Zg{o i:Expr}{to ti:TE}{t:Hh}(ho:PE X o to)(hi:PE X i ti)(hs:OS X t)
 (ha:∀v,assign (.Subscript o i pos) X.env v=(do
   let ov<-holding [v] (eval o X.env)
   let iv<-holding [v,ov] (eval i X.env)
   standAt pos
   holding [v,ov,iv] (setItem ov iv v)
   release [v,ov,iv] []):=by intro _;rfl):PG X (.Subscript o i pos) (aa1 to ti t):=by
 intro fM s σ H v u Q I r h;rw[ha];refine ay (dM (gn (ho fM s σ H _ I h) fun ov s1 ⟨x,H1,I1,r1,q1⟩=> ?_));refine ay (dM (gn (hi fM s1 σ H1 _ I1 q1) fun iv s2 ⟨y,H2,I2,r2,q2⟩=> ?_));refine ay (dO (ay (dM (gn (hs fM s2 σ H2 x y v ov iv u _ I2 r1 r2 r q2) fun _ s3 ⟨H3,I3,q3⟩=> ?_))));exact wpAny_release ⟨σ,H3,I3,q3⟩
def uS(te:TE)(g:TG):TS:=fun D σ H=>te σ H fun x H1=>g x σ H1 D.nx
theorem Zh{tg e:Expr}{te:TE}{g:TG}(he:PE X e te)(hg:PG X tg g)(hs:swapsWithSole [tg] e pos.line X.env=pure false:=by rfl)(hw:swappedStores [tg] e X.env=pure none:=by rfl)
 (h1:(assignEach [tg] X.env).map (·.2)=[assign tg X.env]:=by rfl):PS X (.Assign [tg] e pos) (uS te g):=by
 intro fM s σ H D I h;refine wpAny_Assign_stores (gn (he fM s σ H _ I h) fun v s1 ⟨x,H1,I1,r1,q1⟩=> ?_) hs hw;rw[h1];exact gn (hg fM s1 σ H1 x v _ I1 r1 q1) fun _ s2 q=>q
theorem gm{i:Nat}{x:Str}{e:Expr}{te:TE}{kW:Pos}(hN:X.N.Nodup)(hi:X.N[i]? =some x)(hx:Loc X.env.scope x)(he:PE X e te)(hs:swapsWith e (some (.Name x kW)) pos.line X.env=pure false:=by rfl)(hf:X.fn x=true\/X.env.scope.names.lookup x=some .local:=by first|exact .inl Z|exact .inr Z|assumption):
 PS X (.Assign [.Name x kW] e pos) (uS te (sE i)):=by
 intro fM s σ H D I h;refine wpAny_Assign_Name (gn (he fM s σ H _ I h) fun v s1 ⟨y,H1,I1,r1,q1⟩=> ?_) hs;exact Aw I1 hN hi hx r1 (fun s2 I2=>⟨_,H1,I2,q1⟩) hf
def aa2(i:Nat)(te:TE)(ti:BN):TS:=fun D σ H=>∃x,σ[i]? =some (some x)/\te σ H fun y H1=>ti x y H1 fun z H2=>D.nx (σ.set i (some z)) H2
theorem vW{i:Nat}{x:Str}{e:Expr}{te:TE}{op:Operator}{ti:BN}{kW:Pos}(hN:X.N.Nodup)(hi:X.N[i]? =some x)(hx:Loc X.env.scope x)(he:PE X e te)(ho:HD X op ti)(hf:X.fn x=true\/X.env.scope.names.lookup x=some .local:=by first|exact .inl Z|exact .inr Z|assumption):
 PS X (.AugAssign (.Name x kW) op e pos) (aa2 i te ti):=by
 intro fM s σ H D I h;obtain⟨v,e1,h⟩:=h;obtain⟨m,hn,hl⟩:=I.loc;have vis:wO X.env.scope x:=by rcases hx with k|k;exact .inl k;exact .inr (.inl k)
 obtain⟨u,r,l⟩:=hl i x v hi e1 vis;refine wpAny_AugAssign_Name ?_
 have go:wpAny (model X.prog X.w) X.A (eval e X.env) (fun w jN=>wpAny (model X.prog X.w) X.A (inplaceOp op u w) (fun r sQ=>wpAny (model X.prog X.w) X.A (storeName X.env x r) (fun _=>SP X fM D .next) X.xe sQ) X.xe jN) X.xe s:=by
  refine gn (he fM s σ H _ I h) fun w s1 ⟨y,H1,I1,r1,q1⟩=> ?_
  refine gn (ho fM s1 σ H1 v y u w _ I1 r r1 q1) fun z s2 ⟨zv,H2,I2,r2,q2⟩=> ?_
  exact Aw I2 hN hi hx r2 (fun s3 I3=>⟨_,H2,I3,q2⟩) hf
 rcases l with⟨hk,hm⟩|⟨hk,c,hc,Bm⟩
 ·exact wpAny_loadName_local I.ok.kind hk hn hm go
 ·rcases hk with hk|hk
  ·exact wpAny_loadName_cell I.ok.kind hk hc Bm go
  ·rcases hx with k|k
   ·have:X.env.scope.names.lookup x=some .free:=hk;rw[k] at this;cases this
   ·have:X.env.scope.names.lookup x=some .free:=hk;rw[k] at this;cases this
def Pq(f:Int->Int->Int):BN:=fun x y H Q=>∃i j,x=.int i/\y=.int j/\Q (.int (f i j)) H
theorem A5:HD X .Add (Pq fun i j=>i+j):=by
 intro fM s σ H x y v u Q I r1 r2 h;obtain⟨i,j,e1,e2,q⟩:=h;subst e1;subst e2;obtain⟨t,rfl⟩:=r1;obtain⟨t',rfl⟩:=r2;exact iadd_int ⟨.int _,H,I.tok _,⟨_,Z⟩,q⟩
theorem Zi:HD X .Sub (Pq fun i j=>i-j):=by
 intro fM s σ H x y v u Q I r1 r2 h;obtain⟨i,j,e1,e2,q⟩:=h;subst e1;subst e2;obtain⟨t,rfl⟩:=r1;obtain⟨t',rfl⟩:=r2;exact isub_int ⟨.int _,H,I.tok _,⟨_,Z⟩,q⟩
def N9(c:TT)(tb:TS):TS:=fun D σ H=>∃W:Nat->St->Hp->Prop,(∃m,W m σ H)/\∀m σ H,W m σ H->
 c σ H fun b H1=>if b=true then∃N:St->Hp->Prop,(∀gy H',N gy H'->∃m',m'<m/\W m' gy H')/\tb {D with nx:=N,ct:=N,bk:=D.nx} σ H1 else D.nx σ H1
theorem MG{c:Expr}{body:List Stmt}{tc:TT}{tb:TS}(hp:PassesOwn (model X.prog X.w) X.A X.env X.xe)(hc:PT X c tc)(hb:l6 X body tb):PS X (.While c body [] pos) (N9 tc tb):=by
 intro fM s σ H D I h;obtain⟨W,⟨m0,w0⟩,uT⟩:=h;refine wpAny_While (codeAny_whileLoop (fun n s'=>∃gy H',Inv X fM gy H' s'/\W n gy H') ?_ m0 ⟨σ,H,I,w0⟩);rintro n s1 ⟨mm,H1,I1,w1⟩;refine db hp (gn (hc fM s1 mm H1 _ I1 (uT n mm H1 w1)) fun b s2 ⟨H2,I2,q2⟩=> ?_);cases b with
 |true=>
  obtain⟨N,hN,q2⟩:=q2;rw[aw Z];refine db hp (gn (hb fM s2 mm H2 _ I2 q2) fun f s3 q3=> ?_);cases f with
  |next=>
   obtain⟨pW,H3,I3,n3⟩:=q3;obtain⟨m',hm,w3⟩:=hN pW H3 n3;exact⟨m',hm,pW,H3,I3,w3⟩
  |cont=>
   obtain⟨pW,H3,I3,n3⟩:=q3;obtain⟨m',hm,w3⟩:=hN pW H3 n3;exact⟨m',hm,pW,H3,I3,w3⟩
  |brk=>exact q3
  |ret v=>exact q3
 |false=>
  rw[am aQ];exact dJ ⟨mm,H2,I2,q2⟩
end
structure It where
 go:Nat->Hp->Prop
 mH:Nat->Hp->V->Hp->Prop
 stop:Nat->Hp->Prop
def oR(X:Cx)(fM:List (Addr×Obj))(H:Hp)(b:Addr):Prop:=
 H b=none/\b≠X.env.locals/\b∉X.fs/\(b∈X.ex\/X.kX.heap.objs.size<=b)/\(∀x c,X.env.cells.lookup x=some c->c≠b)/\∀p∈X.pn++fM,p.1≠b
theorem Inv.rk{X:Cx}{fM:List (Addr×Obj)}{σ:St}{H H':Hp}{s:Shared}{b:Addr}(I:Inv X fM σ H s)(hb:s.heap.objs.size<=b)(hn:H' b=none):oR X fM H' b:=by
 refine⟨hn,fL (aU I.lt hb),I.aaT hb,.inr (a8 I.sz hb),fun x c e z=> ?_,fun p hp z=> ?_⟩
 ·obtain⟨v,q⟩:=I.cell x c e;exact absurd (aU q.lt (by rw[z];exact hb)) (bM _)
 ·exact absurd (aU (aK (I.pin p hp).1) (by rw[z];exact hb)) (bM _)
structure pR(P:Program)(w:World)(K:PySem.W.Frag)(tg:Expr)(J:It)(fp:List Addr)(it:Addr)(tn:Nat->Heap->Prop):Prop where
 mem:it∈fp
 obj:∀i h,tn i h->∀b∈fp,∃o,h.get? b=some o/\∀v,o.data≠ .cell v
 keep:∀i h h',tn i h->(∀b∈fp,∀o,h.get? b=some o->h'.get? b=some o)->tn i h'
 item:∀(X:Cx),X.prog=P->X.w=w->X.K=K->X.calm=true->∀(i:Nat) (fM:List (Addr×Obj)) (s:Shared) (σ:St) (H:Hp) (E:Value->Shared->Prop),Inv X fM σ H s->(∀b∈fp,oR X fM H b)->tn i s.heap->J.go i H->
  wpAny (model P w) X.A (pyNext (.ref it)) (fun r s1=>∃u,r=some u/\
   wpAny (model P w) X.A (letOwnedTupleGo tg (.ref it) u) (fun _ s2=>∃x H',Inv X fM σ H' s2/\RelV x u/\J.mH i H x H'/\tn (i+1) s2.heap/\∀b∈fp,H' b=none) E s1) E s
 done:∀(X:Cx),X.prog=P->X.w=w->X.K=K->X.calm=true->∀(i:Nat) (fM:List (Addr×Obj)) (s:Shared) (σ:St) (H:Hp) (E:Value->Shared->Prop),Inv X fM σ H s->(∀b∈fp,oR X fM H b)->tn i s.heap->J.stop i H->
  wpAny (model P w) X.A (pyNext (.ref it)) (fun r s1=>r=none/\Inv X fM σ H s1) E s
 self:∀(A:Around) (i:Nat) (s:Shared) (Q:Value->Shared->Prop) (E:Value->Shared->Prop),tn i s.heap->Q (.ref it) s->wpAny (model P w) A (pyIter (.ref it)) Q E s
abbrev TI:=St->Hp->(It->Hp->Prop)->Prop
def BO(X:Cx)(fM:List (Addr×Obj))(σ:St)(tg:Expr)(R:It->Hp->Prop)(HE:Value)(s2:Shared):Prop:=
 ∃(it:Addr) (fp:List Addr) (tn:Nat->Heap->Prop) (J:It) (H':Hp),HE=.ref it/\Inv X fM σ H' s2/\pR X.prog X.w X.K tg J fp it tn/\tn 0 s2.heap/\(∀b∈fp,oR X fM H' b)/\R J H'
def PI(X:Cx)(tg jT:Expr)(wi:TI):Prop:=
 ∀(fM:List (Addr×Obj)) (s:Shared) (σ:St) (H:Hp) (R:It->Hp->Prop),Inv X fM σ H s->wi σ H R->
  wpAny (model X.prog X.w) X.A (eval jT X.env) (fun v s1=>wpAny (model X.prog X.w) X.A (pyIter v) (BO X fM σ tg R) X.xe s1) X.xe s
theorem wf{M:Model}{A:Around}{E:Value->Shared->Prop}{s:Shared}{tg:Expr}{it:Addr}{u:Value}{o:Obj}{n:String}{vs:Array Value}{Q:Unit->Shared->Prop}(ho:s.heap.get? it=some o)(hc:o.cls=.type n)(hd:o.data=.fields vs)
 (hn:["enumerate","zip","dict_itemiterator","dict_reverseitemiterator","odict_iterator","itertools.zip_longest","itertools.pairwise"].contains n=false) (hQ:Q () s):wpAny M A (letOwnedTupleGo tg (.ref it) u) Q E s:=by
 unfold letOwnedTupleGo
 cases tg<;>first
  |exact aY hQ
  |(cases u<;>first
   |exact aY hQ
   |(refine ay (wpAny_load ho ?_)
     rw[hc,hd];show wpAny M A (if (["enumerate","zip","dict_itemiterator","dict_reverseitemiterator","odict_iterator","itertools.zip_longest","itertools.pairwise"].contains n&&vs[0]? ==some (rawInt _))=true then _ else _) Q E s;rw[am (by intro h;rw[hn,cV] at h;cases h)];exact aY hQ))
def sZ(K:PySem.W.Frag)(a:Addr):It:=
 ⟨fun i H=>∃xs x,fS K H a xs/\xs[i]? =some x,fun i H x H'=>H'=H/\∀xs,fS K H a xs->xs[i]? =some x,fun i H=>∃xs,fS K H a xs/\xs.length<=i⟩
def s0(K:PySem.W.Frag)(a:Addr):It:=
 ⟨fun i H=>∃xs x,iO K H a xs/\xs[i]? =some x,fun i H x H'=>H'=H/\∀xs,iO K H a xs->xs[i]? =some x,fun i H=>∃xs,iO K H a xs/\xs.length<=i⟩
def rB(lo:Int)(n:Nat):It:=⟨fun i _=>i<n,fun i H x H'=>H'=H/\x=.int (lo+i),fun i _=>n<=i⟩
theorem VY{P:Program}{w:World}{K:PySem.W.Frag}{tg:Expr}(a it:Addr):pR P w K tg (sZ K a) [it] it (fun i h=>h.IsListIter it a i) where
 mem:=by simp
 obj:=fun i h st b hb=>by
  have e:b=it:=by simpa using hb
  subst e;obtain⟨o,e,c,d⟩:=st;exact⟨o,e,fun v z=>by rw[d] at z;cases z⟩
 keep:=fun i h h' st k=>st.at fun o e=>k it (by simp) o e
 item:=by
  intro X hP hw hK hc i fM s σ H E I hf st hg;subst hP hw hK;obtain⟨xs,x,hq,hx⟩:=hg;obtain⟨fV,rv,p,hz⟩:=I.list hq;obtain⟨u,hu,ru⟩:=rv.get hx;obtain⟨f0,f1,f2,f3,f4,f5⟩:=hf it (by simp);refine wpAny_pyNext_list_item st p.isList (x:=u) (by simpa using hu) fun h' mn sb=> ?_
  have I1:Inv X fM σ H {s with heap:=h'}:=I.turned (t':=s.toks) (fun b o hb e=>(sb.2 b hb).trans e) f0 f1 f3 f4 f5;obtain⟨o,e,c,d⟩:=id mn;exact⟨u,Z,wf (s:={s with heap:=h'}) e c d (by decide) ⟨x,H,I1,ru,⟨Z,fun ys hy=>by rw[I.yd hy hq];exact hx⟩,mn,fun b hb=>(hf b hb).1⟩⟩
 done:=by
  intro X hP hw hK hc i fM s σ H E I hf st hg;subst hP hw hK;obtain⟨xs,hq,hx⟩:=hg;obtain⟨fV,rv,p,hz⟩:=I.list hq;obtain⟨f0,f1,f2,f3,f4,f5⟩:=hf it (by simp);have hl:=rv.length;exact wpAny_pyNext_list_end (I.ok.hd hc) st p.isList (by simp;omega) fun h' eb=>⟨Z,I.turned (t':=s.toks) (fun b o hb e=>eb b o hb e) f0 f1 f3 f4 f5⟩
 self:=fun _ _ _ _ _ st h=>wpAny_pyIter_listiter st h
theorem Vb{P:Program}{w:World}{K:PySem.W.Frag}{tg:Expr}(a it:Addr):pR P w K tg (s0 K a) [it] it (fun i h=>h.IsTupleIter it a i) where
 mem:=by simp
 obj:=fun i h st b hb=>by
  have e:b=it:=by simpa using hb
  subst e;obtain⟨o,e,c,d⟩:=st;exact⟨o,e,fun v z=>by rw[d] at z;cases z⟩
 keep:=fun i h h' st k=>st.at fun o e=>k it (by simp) o e
 item:=by
  intro X hP hw hK hc i fM s σ H E I hf st hg;subst hP hw hK;obtain⟨xs,x,hq,hx⟩:=hg;obtain⟨fV,rv,p,hz⟩:=I.tuple hq;obtain⟨u,hu,ru⟩:=rv.get hx;obtain⟨f0,f1,f2,f3,f4,f5⟩:=hf it (by simp);refine wpAny_pyNext_tuple_item st (show s.heap.IsTuple a fV.toArray from p) (x:=u) (by simpa using hu) fun h' mn sb=> ?_
  have I1:Inv X fM σ H {s with heap:=h'}:=I.turned (t':=s.toks) (fun b o hb e=>(sb.2 b hb).trans e) f0 f1 f3 f4 f5;obtain⟨o,e,c,d⟩:=id mn;exact⟨u,Z,wf (s:={s with heap:=h'}) e c d (by decide) ⟨x,H,I1,ru,⟨Z,fun ys hy=>by rw[I.L5 hy hq];exact hx⟩,mn,fun b hb=>(hf b hb).1⟩⟩
 done:=by
  intro X hP hw hK hc i fM s σ H E I hf st hg;subst hP hw hK;obtain⟨xs,hq,hx⟩:=hg;obtain⟨fV,rv,p,hz⟩:=I.tuple hq;obtain⟨f0,f1,f2,f3,f4,f5⟩:=hf it (by simp);have hl:=rv.length;exact wpAny_pyNext_tuple_end (I.ok.hd hc) st (show s.heap.IsTuple a fV.toArray from p) (by simp;omega) fun h' eb=>⟨Z,I.turned (t':=s.toks) (fun b o hb e=>eb b o hb e) f0 f1 f3 f4 f5⟩
 self:=fun _ _ _ _ _ st h=>wpAny_pyIter_tupleiter st h
theorem Vc{P:Program}{w:World}{K:PySem.W.Frag}{tg:Expr}(it:Addr)(lo:Int)(n:Nat):pR P w K tg (rB lo n) [it] it (fun i h=>IsRangeIter h it (lo+(i:Nat)*1) ((n:Int)-(i:Nat)) 1) where
 mem:=by simp
 obj:=fun i h st b hb=>by
  have e:b=it:=by simpa using hb
  subst e
  exact⟨_,st,fun v z=>by
   have z':Data.fields _=Data.cell v:=z;cases z'⟩
 keep:=fun i h h' st k=>k it (by simp) _ st
 item:=by
  intro X hP hw hK hc i fM s σ H E I hf st hg;subst hP hw hK;obtain⟨f0,f1,f2,f3,f4,f5⟩:=hf it (by simp);have W:=Walks.range (prog:=X.prog) (w:=X.w) (I.ok.hd hc) it lo 1 n;refine W.item i s _ _ hg st fun v h' tk hv mn kk=> ?_
  obtain⟨t,rfl⟩:=hv;have I1:Inv X fM σ H {s with heap:=h',toks:=tk}:=I.turned (fun b o hb e=>kk b o (by simpa using hb) e) f0 f1 f3 f4 f5;refine⟨_,Z,wf (s:={s with heap:=h',toks:=tk}) (n:="range_iterator") mn Z Z (by decide) ⟨.int (lo+i),H,I1,⟨t,?_⟩,⟨Z,Z⟩,mn,fun b hb=>(hf b hb).1⟩⟩;rw[Int.mul_one]
 done:=by
  intro X hP hw hK hc i fM s σ H E I hf st hg;subst hP hw hK;obtain⟨f0,f1,f2,f3,f4,f5⟩:=hf it (by simp);exact wpAny_pyNext_range_end (I.ok.hd hc) st (by have:n<=i:=hg;omega) fun h' eb=>⟨Z,I.turned (t':=s.toks) (fun b o hb e=>eb b o hb e) f0 f1 f3 f4 f5⟩
 self:=fun _ _ _ _ _ st h=>wpAny_pyIter_rangeiter st h
section
variable {X:Cx} {tg:Expr}
def aad(K:PySem.W.Frag)(tl:TE):TI:=fun σ H R=>tl σ H fun x H1=>∃a,x=.ref a/\(∃xs,fS K H1 a xs)/\R (sZ K a) H1
def aa3(K:PySem.W.Frag)(tl:TE):TI:=fun σ H R=>tl σ H fun x H1=>∃a,x=.ref a/\(∃xs,iO K H1 a xs)/\R (s0 K a) H1
theorem md{l:Expr}{tl:TE}(hl:PE X l tl):PI X tg l (aad X.K tl):=by
 intro fM s σ H R I h;refine gn (hl fM s σ H _ I h) fun v s1 ⟨x,H1,I1,r1,q1⟩=> ?_
 obtain⟨a,e,⟨xs,hq⟩,q⟩:=q1;subst e;cases r1;obtain⟨fV,rv,p,hz⟩:=I1.list hq;refine dW p.isList ?_;refine⟨s1.heap.objs.size,[s1.heap.objs.size],_,_,H1,Z,I1.kept (t':=s1.toks) fun b o e=>aC _ e,VY a _,⟨_,aO _ Z,Z,Z⟩,fun b hb=> ?_,q⟩;have e:b=s1.heap.objs.size:=by simpa using hb
 subst e;exact I1.rk (aA _) (I1.gj.fresh (aA _))
theorem GJ{l:Expr}{tl:TE}(hl:PE X l tl):PI X tg l (aa3 X.K tl):=by
 intro fM s σ H R I h;refine gn (hl fM s σ H _ I h) fun v s1 ⟨x,H1,I1,r1,q1⟩=> ?_
 obtain⟨a,e,⟨xs,hq⟩,q⟩:=q1;subst e;cases r1;obtain⟨fV,rv,p,hz⟩:=I1.tuple hq;refine eW (show s1.heap.IsTuple a fV.toArray from p) ?_;refine⟨s1.heap.objs.size,[s1.heap.objs.size],_,_,H1,Z,I1.kept (t':=s1.toks) fun b o e=>aC _ e,Vb a _,⟨_,aO _ Z,Z,Z⟩,fun b hb=> ?_,q⟩;have e:b=s1.heap.objs.size:=by simpa using hb
 subst e;exact I1.rk (aA _) (I1.gj.fresh (aA _))
theorem W3{fM:List (Addr×Obj)}{σ:St}{H:Hp}{s:Shared}{R:It->Hp->Prop}{E:Value->Shared->Prop}{lo hi:Int}{t u v:Tok}{tk:Nat}(I:Inv X fM σ H s)(h1: -(2^62)<=lo)(h2:lo<2^62)(h3: -(2^62)<=hi)(h4:hi<2^62)
 (q:R (rB lo (hi-lo).toNat) H):wpAny (model X.prog X.w) X.A (pyIter (.ref s.heap.objs.size)) (BO X fM σ tg R) E {s with heap:=s.heap.push {cls:=.type "range",data:=.fields #[.int lo t,.int hi u,.int 1 v]},toks:=tk}:=by
 refine wpAny_pyIter_range (IsRange.new ..) (small_one h1 h2 h3 h4) ?_;have I1:Inv X fM σ H {s with heap:=s.heap.push {cls:=.type "range",data:=.fields #[.int lo t,.int hi u,.int 1 v]},toks:=tk}:=I.kept fun b o e=>aC _ e
 refine⟨(s.heap.push {cls:=.type "range",data:=.fields #[.int lo t,.int hi u,.int 1 v]}).objs.size,[(s.heap.push {cls:=.type "range",data:=.fields #[.int lo t,.int hi u,.int 1 v]}).objs.size],_,_,H,Z,
  I1.kept (t':=tk) fun b o e=>aC _ e,Vc _ lo (hi-lo).toNat,?_,fun b hb=> ?_,q⟩
 ·have e1:lo+((0:Nat):Int)*1=lo:=by simp
  have e2:(((hi-lo).toNat:Nat):Int)-((0:Nat):Int)=Builtin.Range.rangeSize lo hi 1:=by rw[rangeSize_one];split<;>omega
  show IsRangeIter _ _ (lo+((0:Nat):Int)*1) ((((hi-lo).toNat:Nat):Int)-((0:Nat):Int)) 1;rw[e1,e2];exact aO _ Z
 ·have e:b=(s.heap.push {cls:=.type "range",data:=.fields #[.int lo t,.int hi u,.int 1 v]}).objs.size:=by simpa using hb
  subst e;exact I1.rk (aA _) (I1.gj.fresh (aA _))
def aae(ta:TA):TI:=fun σ H R=>ta σ H fun vs H1=>∃j:Int,vs=[.int j]/\ -(2^62)<=j/\j<2^62/\R (rB 0 j.toNat) H1
theorem xW{a:Expr}{ta:TA}{p pos:Pos}(hg:Gl X "range")(hm:X.mg "range"=none)(ha:PA X [a] ta)(hs:starEach [a] X.env=[(false,eval a X.env)]:=by rfl):PI X tg (.Call (.Name "range" p) [a] [] pos) (aae ta):=by
 intro fM s σ H R I h;refine Call_ (qu I hg hm boot_range (cp (gn (ha pos fM s σ H _ I h) fun us s1 ⟨vs,H1,I1,r1,q1⟩=> ?_) hs Z));obtain⟨j,e,q1,q2,q⟩:=q1;subst e;cases r1 with
 |cons r rr=>
  cases rr;obtain⟨t,rfl⟩:=r;exact call_range_1 (W3 I1 (by omega) (by omega) q1 q2 (by simpa using q))
def aa4(wi:TI)(g:TG)(tb:TS):TS:=fun D σ H=>wi σ H fun J H1=>∃W:Nat->Nat->St->Hp->Prop,(∃m,W 0 m σ H1)/\∀i m σ H,W i m σ H->
 (J.stop i H/\D.nx σ H)\/(J.go i H/\∃N:St->Hp->Prop,(∀gy H',N gy H'->∃m',m'<m/\W (i+1) m' gy H')/\∀x H',J.mH i H x H'->g x σ H' fun gw H2=>tb {D with nx:=N,ct:=N,bk:=D.nx} gw H2)
def yk(fp:List Addr)(h:Heap):List (Addr×Obj):=fp.filterMap fun b=>(h.get? b).map fun o=>(b,o)
theorem EA{fp:List Addr}{h:Heap}{b:Addr}{o:Obj}(hb:b∈fp)(e:h.get? b=some o):(b,o)∈yk fp h:=ck.mpr ⟨b,hb,by rw[e];rfl⟩
theorem VZ{fp:List Addr}{h:Heap}{p:Addr×Obj}(hp:p∈yk fp h):p.1∈fp/\h.get? p.1=some p.2:=by
 obtain⟨b,hb,e⟩:=ck.mp hp;cases q:h.get? b with
 |none=>rw[q] at e;cases e
 |some o=>
  rw[q] at e;have e':(b,o)=p:=af e;subst e';exact⟨hb,q⟩
theorem Inv.pinned{fM:List (Addr×Obj)}{σ:St}{H:Hp}{s:Shared}{fp:List Addr}(I:Inv X fM σ H s)(hf:∀b∈fp,oR X fM H b)(ho:∀b∈fp,∃o,s.heap.get? b=some o/\∀v,o.data≠ .cell v):Inv X (fM++yk fp s.heap) σ H s:=
 I.Nj fun p hp=>(aG.mp hp).elim (fun z=>I.pin p (bn _ z)) fun z=>by
   obtain⟨hb,e⟩:=VZ z;obtain⟨f0,f1,f2,_⟩:=hf p.1 hb;obtain⟨o,e',d⟩:=ho p.1 hb;rw[e] at e';cases e';exact⟨e,f0,f1,f2,d⟩
theorem Inv.Ax{fM pl:List (Addr×Obj)}{σ:St}{H:Hp}{s:Shared}(I:Inv X (fM++pl) σ H s):Inv X fM σ H s:=I.Nj fun p hp=>I.pin p (bn _ (dm _ hp))
theorem lG{jT:Expr}{body:List Stmt}{wi:TI}{g:TG}{tb:TS}{pos:Pos}(hp:PassesOwn (model X.prog X.w) X.A X.env X.xe)(hc:X.calm=true)(hi:PI X tg jT wi)(hg:PG X tg g)(hb:l6 X body tb)
 (hs:∀x,foldedSetIterable jT X.env x=pure x:=by intro _;rfl):PS X (.For tg jT body [] pos) (aa4 wi g tb):=by
 intro fM s σ H D I h;refine wpAny_For (gn (hi fM s σ H _ I h) fun v s1 h1=>gn h1 fun HE s2 h2=> ?_) hs;obtain⟨it,fp,tn,J,H2,e,I2,T,BP,f2,W,⟨m0,w0⟩,uT⟩:=h2;subst e;have uU:∀{H':Hp},(∀b∈fp,H' b=none)->∀b∈fp,oR X fM H' b:=fun hn b hb=>⟨hn b hb,(f2 b hb).2⟩
 refine codeAny_forLoop_any (fun n s'=>∃i gy H',Inv X fM gy H' s'/\tn i s'.heap/\(∀b∈fp,H' b=none)/\W i n gy H') ?_ m0 ⟨0,σ,H2,I2,BP,fun b hb=>(f2 b hb).1,w0⟩;rintro n s3 ⟨i,pW,H3,I3,BQ,BR,w3⟩;rcases uT i n pW H3 w3 with⟨stop,qn⟩|⟨go,N,hN,step⟩
 ·refine db hp (gn (T.done X Z Z Z hc i fM s3 pW H3 X.xe I3 (uU BR) BQ stop) fun r s4 ⟨hr,I4⟩=> ?_);subst hr;exact dJ ⟨pW,H3,I4,qn⟩
 ·refine db hp (gn (T.item X Z Z Z hc i fM s3 pW H3 X.xe I3 (uU BR) BQ go) fun r s4 ⟨u,hr,h4⟩=> ?_);subst hr;refine db hp (gn h4 fun _ s5 ⟨x,H5,I5,r5,y5,wS,fr5⟩=> ?_);have I5':=I5.pinned (uU fr5) (T.obj _ _ wS);refine db hp (gn (hg _ s5 pW H5 x u _ I5' r5 (step x H5 y5)) fun _ s6 ⟨σ6,H6,I6,q6⟩=> ?_);refine db hp (gn (hb _ s6 σ6 H6 _ I6 q6) fun f s7 q7=> ?_)
  have again:∀{pX:St} {H7:Hp},Inv X (fM++yk fp s5.heap) pX H7 s7->N pX H7->∃m,m<n/\∃i gy H',Inv X fM gy H' s7/\tn i s7.heap/\(∀b∈fp,H' b=none)/\W i m gy H':=fun{pX H7} I7 n7=>by
   obtain⟨m',hm,w7⟩:=hN pX H7 n7;refine⟨m',hm,i+1,pX,H7,I7.Ax,T.keep _ _ _ wS fun b hb o e=>(I7.pin (b,o) (bn _ (bn _ (EA hb e)))).1,fun b hb=> ?_,w7⟩;obtain⟨o,e,d⟩:=T.obj _ _ wS b hb;exact(I7.pin (b,o) (bn _ (bn _ (EA hb e)))).2.1
  cases f with
  |next=>obtain⟨pX,H7,I7,n7⟩:=q7;exact again I7 n7
  |cont=>obtain⟨pX,H7,I7,n7⟩:=q7;exact again I7 n7
  |brk=>obtain⟨pX,H7,I7,q7⟩:=q7;exact⟨pX,H7,I7.Ax,q7⟩
  |ret v=>obtain⟨x7,pX,H7,I7,r7,q7⟩:=q7;exact⟨x7,pX,H7,I7.Ax,r7,q7⟩
end
theorem qY{K:PySem.W.Frag}{a:Addr}{xs:List V}{g:TG}{tb:TS}{D:oQ}{σ:St}{H:Hp}(Pv:Nat->St->Hp->Prop)(h0:Pv 0 σ H)(hl:∀i σ H,i<=xs.length->Pv i σ H->fS K H a xs)
 (hs:∀i x σ H,xs[i]? =some x->Pv i σ H->g x σ H fun gw H2=>tb {D with nx:=Pv (i+1),ct:=Pv (i+1),bk:=D.nx} gw H2) (hd:∀σ H,Pv xs.length σ H->D.nx σ H):
 ∃W:Nat->Nat->St->Hp->Prop,(∃m,W 0 m σ H)/\∀i m σ H,W i m σ H->
  ((sZ K a).stop i H/\D.nx σ H)\/((sZ K a).go i H/\∃N:St->Hp->Prop,(∀gy H',N gy H'->∃m',m'<m/\W (i+1) m' gy H')/\∀x H',(sZ K a).mH i H x H'->g x σ H' fun gw H2=>tb {D with nx:=N,ct:=N,bk:=D.nx} gw H2):=by
 refine⟨fun i m σ H=>m=xs.length-i/\i<=xs.length/\Pv i σ H,⟨xs.length,by simp,aN _,h0⟩,?_⟩;rintro i m σ H ⟨rfl,hi,p⟩;have q:=hl i σ H hi p
 by_cases ia:i<xs.length
 ·refine .inr ⟨⟨xs,xs[i],q,by simp[ia]⟩,Pv (i+1),fun gy H' p'=>⟨xs.length-(i+1),by omega,Z,ia,p'⟩,fun x H' y=> ?_⟩;obtain⟨e,y⟩:=y;subst e;exact hs i x σ _ (y xs q) p
 ·have e:i=xs.length:=by omega
  subst e;exact .inl ⟨⟨xs,q,aA _⟩,hd σ H p⟩
theorem Nm{K:PySem.W.Frag}{a:Addr}{xs:List V}{g:TG}{tb:TS}{D:oQ}{σ:St}{H:Hp}(Pv:Nat->St->Hp->Prop)(h0:Pv 0 σ H)(hl:∀i σ H,i<=xs.length->Pv i σ H->iO K H a xs)
 (hs:∀i x σ H,xs[i]? =some x->Pv i σ H->g x σ H fun gw H2=>tb {D with nx:=Pv (i+1),ct:=Pv (i+1),bk:=D.nx} gw H2) (hd:∀σ H,Pv xs.length σ H->D.nx σ H):
 ∃W:Nat->Nat->St->Hp->Prop,(∃m,W 0 m σ H)/\∀i m σ H,W i m σ H->
  ((s0 K a).stop i H/\D.nx σ H)\/((s0 K a).go i H/\∃N:St->Hp->Prop,(∀gy H',N gy H'->∃m',m'<m/\W (i+1) m' gy H')/\∀x H',(s0 K a).mH i H x H'->g x σ H' fun gw H2=>tb {D with nx:=N,ct:=N,bk:=D.nx} gw H2):=by
 refine⟨fun i m σ H=>m=xs.length-i/\i<=xs.length/\Pv i σ H,⟨xs.length,by simp,aN _,h0⟩,?_⟩;rintro i m σ H ⟨rfl,hi,p⟩;have q:=hl i σ H hi p
 by_cases ia:i<xs.length
 ·refine .inr ⟨⟨xs,xs[i],q,by simp[ia]⟩,Pv (i+1),fun gy H' p'=>⟨xs.length-(i+1),by omega,Z,ia,p'⟩,fun x H' y=> ?_⟩;obtain⟨e,y⟩:=y;subst e;exact hs i x σ _ (y xs q) p
 ·have e:i=xs.length:=by omega
  subst e;exact .inl ⟨⟨xs,q,aA _⟩,hd σ H p⟩
theorem V0{lo:Int}{n:Nat}{g:TG}{tb:TS}{D:oQ}{σ:St}{H:Hp}(Pv:Nat->St->Hp->Prop)(h0:Pv 0 σ H)
 (hs:∀i σ H,i<n->Pv i σ H->g (.int (lo+i)) σ H fun gw H2=>tb {D with nx:=Pv (i+1),ct:=Pv (i+1),bk:=D.nx} gw H2) (hd:∀σ H,Pv n σ H->D.nx σ H):
 ∃W:Nat->Nat->St->Hp->Prop,(∃m,W 0 m σ H)/\∀i m σ H,W i m σ H->
  ((rB lo n).stop i H/\D.nx σ H)\/((rB lo n).go i H/\∃N:St->Hp->Prop,(∀gy H',N gy H'->∃m',m'<m/\W (i+1) m' gy H')/\∀x H',(rB lo n).mH i H x H'->g x σ H' fun gw H2=>tb {D with nx:=N,ct:=N,bk:=D.nx} gw H2):=by
 refine⟨fun i m σ H=>m=n-i/\i<=n/\Pv i σ H,⟨n,by simp,aN _,h0⟩,?_⟩;rintro i m σ H ⟨rfl,hi,p⟩
 by_cases ia:i<n
 ·refine .inr ⟨ia,Pv (i+1),fun gy H' p'=>⟨n-(i+1),by omega,Z,ia,p'⟩,fun x H' y=> ?_⟩;obtain⟨e,y⟩:=y;subst e y;exact hs i σ _ ia p
 ·have e:i=n:=by omega
  subst e;exact .inl ⟨aA _,hd σ H p⟩
theorem MH{c:TT}{tb:TS}{D:oQ}{σ:St}{H:Hp}(Pv:St->Hp->Prop)(μ:St->Hp->Nat)(h0:Pv σ H)
 (hs:∀σ H,Pv σ H->c σ H fun b H1=>if b=true then tb {D with nx:=fun gy H'=>Pv gy H'/\μ gy H'<μ σ H,ct:=fun gy H'=>Pv gy H'/\μ gy H'<μ σ H,bk:=D.nx} σ H1 else D.nx σ H1)
 (mono:∀σ H Q Q',(∀b H1,Q b H1->Q' b H1)->c σ H Q->c σ H Q'):N9 c tb D σ H:=by
 refine⟨fun m σ H=>m=μ σ H/\Pv σ H,⟨_,Z,h0⟩,?_⟩;rintro m σ H ⟨rfl,p⟩;refine mono σ H _ _ (fun b H1 q=> ?_) (hs σ H p);cases b with
 |true=>exact⟨_,fun gy H' ⟨p',l⟩=>⟨_,l,Z,p'⟩,q⟩
 |false=>exact q
abbrev R2:=V->V->Hp->VK->Prop
def jp(X:Cx)(f:Value->Value->Sem Value)(r:R2):Prop:=
 ∀(fM:List (Addr×Obj)) (s:Shared) (σ:St) (H:Hp) (x y:V) (v u:Value) (Q:VK),Inv X fM σ H s->RelV x v->RelV y u->r x y H Q->
  wpAny (model X.prog X.w) X.A (f v u) (EP X fM σ Q) X.xe s
def HF(X:Cx)(f:Value->Sem Value)(r:V->Hp->VK->Prop):Prop:=
 ∀(fM:List (Addr×Obj)) (s:Shared) (σ:St) (H:Hp) (x:V) (v:Value) (Q:VK),Inv X fM σ H s->RelV x v->r x H Q->
  wpAny (model X.prog X.w) X.A (f v) (EP X fM σ Q) X.xe s
def mQ(X:Cx)(f:Value)(r:List V->Hp->VK->Prop):Prop:=
 ∀(fM:List (Addr×Obj)) (s:Shared) (σ:St) (H:Hp) (xs:List V) (us:List Value) (Q:VK),Inv X fM σ H s->gG xs us->r xs H Q->
  wpAny (model X.prog X.w) X.A (call f us) (EP X fM σ Q) X.xe s
def kA(r:R2)(ta tb:TE):TE:=fun σ H Q=>ta σ H fun x H1=>tb σ H1 fun y H2=>r x y H2 Q
def tUn(r:V->Hp->VK->Prop)(ta:TE):TE:=fun σ H Q=>ta σ H fun x H1=>r x H1 Q
def rI(C:Int->Int->Prop)(g:Int->Int->V):R2:=fun x y H Q=>∃i j,x=.int i/\y=.int j/\C i j/\Q (g i j) H
def kY(g:Int->Int->V):R2:=fun x y H Q=>∃i j,x=.int i/\y=.int j/\Q (g i j) H
def rU(g:Int->V):V->Hp->VK->Prop:=fun x H Q=>∃i,x=.int i/\Q (g i) H
section
variable {X:Cx} {a b c:Expr} {ta tb tc:TE} {pos:Pos}
theorem Hi(ha:PE X a ta)(hb:PE X b tb){fM:List (Addr×Obj)}{s:Shared}{σ:St}{H:Hp}{R:V->V->Hp->Prop}(I:Inv X fM σ H s)
 (h:ta σ H fun x H1=>tb σ H1 fun y H2=>R x y H2) {Q:Value->Shared->Prop} {f:Value->Value->Sem Value}
 (hf:∀v u s2 x y H2,Inv X fM σ H2 s2->RelV x v->RelV y u->R x y H2->wpAny (model X.prog X.w) X.A (f v u) Q X.xe s2):
 wpAny (model X.prog X.w) X.A (eval a X.env) (fun v iL=>wpAny (model X.prog X.w) X.A (eval b X.env) (fun u jN=>wpAny (model X.prog X.w) X.A (f v u) Q X.xe jN) X.xe iL) X.xe s:=by
 refine gn (ha fM s σ H _ I h) fun v s1 ⟨x,H1,I1,r1,q1⟩=> ?_
 refine gn (hb fM s1 σ H1 _ I1 q1) fun u s2 ⟨y,H2,I2,r2,q2⟩=> ?_
 exact hf v u s2 x y H2 I2 r1 r2 q2
theorem gB{op:Operator}{r:R2}(ho:jp X (binaryOp op) r)(ha:PE X a ta)(hb:PE X b tb):PE X (.BinOp a op b pos) (kA r ta tb):=by
 intro fM s σ H Q I h;exact wpAny_BinOp (Hi ha hb I h fun v u s2 x y H2 I2 rx ry q=>ho fM s2 σ H2 x y v u Q I2 rx ry q)
theorem qC{op:UnaryOp}{r:V->Hp->VK->Prop}(ho:HF X (unaryOp op) r)(ha:PE X a ta):PE X (.UnaryOp op a pos) (tUn r ta):=by
 intro fM s σ H Q I h;exact UnaryOp_ (gn (ha fM s σ H _ I h) fun v s1 ⟨x,H1,I1,r1,q1⟩=>ho fM s1 σ H1 x v Q I1 r1 q1)
theorem BS{f:Value->Value->Sem Value}{C:Int->Int->Prop}{g:Int->Int->Int}
 (rule:∀(i j:Int) (t u:Tok) (s:Shared) (Q:Value->Shared->Prop) (E:Value->Shared->Prop),C i j->Q (.int (g i j) s.toks) {s with toks:=s.toks+1}->wpAny (model X.prog X.w) X.A (f (.int i t) (.int j u)) Q E s):
 jp X f (rI C fun i j=>.int (g i j)):=by
 intro fM s σ H x y v u Q I rx ry h;obtain⟨i,j,rfl,rfl,hc,q⟩:=h;obtain⟨t,rfl⟩:=rx;obtain⟨t',rfl⟩:=ry;exact rule i j t t' s _ _ hc ⟨.int (g i j),H,I.tok _,⟨_,Z⟩,q⟩
theorem Bw{f:Value->Value->Sem Value}{g:Int->Int->Int}
 (rule:∀(i j:Int) (t u:Tok) (s:Shared) (Q:Value->Shared->Prop) (E:Value->Shared->Prop),Q (.int (g i j) s.toks) {s with toks:=s.toks+1}->wpAny (model X.prog X.w) X.A (f (.int i t) (.int j u)) Q E s):
 jp X f (kY fun i j=>.int (g i j)):=by
 intro fM s σ H x y v u Q I rx ry h;obtain⟨i,j,rfl,rfl,q⟩:=h;obtain⟨t,rfl⟩:=rx;obtain⟨t',rfl⟩:=ry;exact rule i j t t' s _ _ ⟨.int (g i j),H,I.tok _,⟨_,Z⟩,q⟩
theorem Bx{f:Value->Value->Sem Value}{g:Int->Int->Bool}
 (rule:∀(i j:Int) (t u:Tok) (s:Shared) (Q:Value->Shared->Prop) (E:Value->Shared->Prop),Q (.bool (g i j)) s->wpAny (model X.prog X.w) X.A (f (.int i t) (.int j u)) Q E s):
 jp X f (kY fun i j=>.bl (g i j)):=by
 intro fM s σ H x y v u Q I rx ry h;obtain⟨i,j,rfl,rfl,q⟩:=h;obtain⟨t,rfl⟩:=rx;obtain⟨t',rfl⟩:=ry;exact rule i j t t' s _ _ ⟨.bl (g i j),H,I,Z,q⟩
def OU(i j:Int):Prop:=0<j/\j<1073741824
def Hj(i j:Int):Prop:=(-(2^64)<i/\i<2^64)\/(-(2^64)<j/\j<2^64)
theorem Hj.ok{i j:Int}(h:Hj i j):IntMulOk i j:=by
 rcases h with⟨h1,h2⟩|⟨h1,h2⟩
 ·exact .of_left (intBits_le_64 h1 h2)
 ·exact .of_right (intBits_le_64 h1 h2)
theorem Vd(k:Nat):(0:Int)<=2^k:=by
 rw[two_pow_cast];exact Int.natCast_nonneg _
theorem jh:jp X (binaryOp .Add) (kY fun i j=>.int (i+j)):=Bw fun _ _ _ _ _ _ _ q=>add_int q
theorem jL:jp X (binaryOp .Sub) (kY fun i j=>.int (i-j)):=Bw fun _ _ _ _ _ _ _ q=>sub_int q
theorem A6:jp X (binaryOp .Mult) (rI Hj fun i j=>.int (i*j)):=BS fun _ _ _ _ _ _ _ hc q=>mul_int q hc.ok
theorem vS:jp X (binaryOp .FloorDiv) (rI OU fun i j=>.int (i/j)):=BS fun i j _ _ _ _ _ hc q=>by
 have h1:(0:Int)<j:=hc.1;have h2:j<1073741824:=hc.2;exact floordiv_int (by omega) (by rw[Int.fdiv_eq_ediv_of_nonneg i (by omega)];exact q) (.inl (PyProof.noPylong_small (by omega)))
theorem A7:jp X (binaryOp .Mod) (rI (fun _ j=>0<j) fun i j=>.int (i% j)):=BS fun i j _ _ _ _ _ hc q=>by
 have h1:(0:Int)<j:=hc;exact mod_int' (by omega) (by rw[Int.fmod_eq_emod_of_nonneg i (by omega)];exact q)
theorem Zj:jp X (binaryOp .RShift) (rI (fun _ j=>0<=j) fun i j=>.int (i/2^j.toNat)):=BS fun i j _ _ _ _ _ hc q=>
 rshift_int hc (by rw[Int.fdiv_eq_ediv_of_nonneg i (Vd _)];exact q)
theorem Zk:jp X (binaryOp .BitAnd) (kY fun i j=>.int (Builtin.bitAnd i j)):=Bw fun _ _ _ _ _ _ _ q=>and_int q
theorem Zl:jp X (binaryOp .BitXor) (kY fun i j=>.int (Builtin.bitXor i j)):=Bw fun _ _ _ _ _ _ _ q=>xor_int q
theorem unI{f:Value->Sem Value}{g:Int->Int}
 (rule:∀(i:Int) (t:Tok) (s:Shared) (Q:Value->Shared->Prop) (E:Value->Shared->Prop),Q (.int (g i) s.toks) {s with toks:=s.toks+1}->wpAny (model X.prog X.w) X.A (f (.int i t)) Q E s):
 HF X f (rU fun i=>.int (g i)):=by
 intro fM s σ H x v Q I rx h;obtain⟨i,rfl,q⟩:=h;obtain⟨t,rfl⟩:=rx;exact rule i t s _ _ ⟨.int (g i),H,I.tok _,⟨_,Z⟩,q⟩
theorem qy:HF X (unaryOp .USub) (rU fun i=>.int (-i)):=unI fun _ _ _ _ _ q=>neg_int q
end
def OV:V->V->Bool
 |.gT,.gT=>true|.gT,.int _=>true|.int _,.gT=>true|.gT,.bl _=>true|.bl _,.gT=>true|.gT,.str _=>true|.str _,.gT=>true
 |.int _,.int _=>true|.bl _,.bl _=>true|.str _,.str _=>true|.nB _,.nB _=>true
 |.int _,.str _=>true|.str _,.int _=>true|.bl _,.str _=>true|.str _,.bl _=>true
 |_,_=>false
def HG:R2:=fun x y H Q=>OV x y=true/\Q (.bl (decide (x=y))) H
def Pr:R2:=fun x y H Q=>OV x y=true/\Q (.bl (!decide (x=y))) H
theorem No{i j:Int}:decide (V.int i=V.int j)=(i==j):=by
 rw[bJ];simp
theorem Oa{i j:Bool}:decide (V.bl i=V.bl j)=(i==j):=by
 rw[bJ];simp
theorem AQ{i j:Str}:decide (V.str i=V.str j)=(i==j):=by
 rw[bJ];simp
theorem Np{i j:Array UInt8}:decide (V.nB i=V.nB j)=(i.toList==j.toList):=by
 rw[bJ];cases i;cases j;simp
section
variable {X:Cx} {a b c:Expr} {ta tb tc:TE} {pos:Pos}
theorem js{fM:List (Addr×Obj)}{σ:St}{H:Hp}{s:Shared}{Q:VK}{k k':Bool}(I:Inv X fM σ H s)(q:Q (.bl k) H)(e:k=k'):EP X fM σ Q (.bool k') s:=by
 subst e;exact⟨.bl k,H,I,Z,q⟩
theorem nk:jp X (compareOp .Eq) HG:=by
 intro fM s σ H x y v u Q I rx ry h;obtain⟨hs,q⟩:=h;cases x with
 |gT=>
  cases rx;cases y with
  |gT=>cases ry;exact PySem.EqNone.eq_none_none (js I q (by simp))
  |bl j=>cases ry;exact PySem.EqNone.eq_none_bool (js I q (by simp))
  |int j=>obtain⟨t',rfl⟩:=ry;exact PySem.EqNone.eq_none_int (js I q (by simp))
  |str j=>obtain⟨t',rfl⟩:=ry;exact PySem.EqNone.eq_none_str (js I q (by simp))
  |_=>exact absurd (show false=true from hs) aQ
 |bl i=>
  cases rx;cases y with
  |gT=>cases ry;exact PySem.EqNone.eq_bool_none (js I q (by simp))
  |bl j=>cases ry;exact eq_bool (js I q Oa)
  |str j=>obtain⟨t',rfl⟩:=ry;exact PySem.EqMixed.eq_bool_str (js I q (by simp))
  |_=>exact absurd (show false=true from hs) aQ
 |int i=>
  obtain⟨t,rfl⟩:=rx;cases y with
  |gT=>cases ry;exact PySem.EqNone.eq_int_none (js I q (by simp))
  |int j=>obtain⟨t',rfl⟩:=ry;exact eq_int (js I q No)
  |str j=>obtain⟨t',rfl⟩:=ry;exact PySem.EqMixed.eq_int_str (js I q (by simp))
  |_=>exact absurd (show false=true from hs) aQ
 |str i=>
  obtain⟨t,rfl⟩:=rx;cases y with
  |gT=>cases ry;exact PySem.EqNone.eq_str_none (js I q (by simp))
  |bl j=>cases ry;exact PySem.EqMixed.eq_str_bool (js I q (by simp))
  |int j=>obtain⟨t',rfl⟩:=ry;exact PySem.EqMixed.eq_str_int (js I q (by simp))
  |str j=>obtain⟨t',rfl⟩:=ry;exact eq_str (js I q AQ)
  |_=>exact absurd (show false=true from hs) aQ
 |nB i=>
  obtain⟨t,rfl⟩:=rx;cases y with
  |nB j=>obtain⟨t',rfl⟩:=ry;exact PySem.W.eq_bytes (js I q Np)
  |_=>exact absurd (show false=true from hs) aQ
 |_=>cases y<;>exact absurd (show false=true from hs) aQ
theorem rg:jp X (compareOp .NotEq) Pr:=by
 intro fM s σ H x y v u Q I rx ry h;obtain⟨hs,q⟩:=h;cases x with
 |gT=>
  cases rx;cases y with
  |gT=>cases ry;exact PySem.EqNone.ne_none_none (js I q (by simp))
  |bl j=>cases ry;exact PySem.EqNone.ne_none_bool (js I q (by simp))
  |int j=>obtain⟨t',rfl⟩:=ry;exact PySem.EqNone.ne_none_int (js I q (by simp))
  |str j=>obtain⟨t',rfl⟩:=ry;exact PySem.EqNone.ne_none_str (js I q (by simp))
  |_=>exact absurd (show false=true from hs) aQ
 |bl i=>
  cases rx;cases y with
  |gT=>cases ry;exact PySem.EqNone.ne_bool_none (js I q (by simp))
  |bl j=>cases ry;exact ne_bool (js I q (congrArg not Oa))
  |str j=>obtain⟨t',rfl⟩:=ry;exact PySem.EqMixed.ne_bool_str (js I q (by simp))
  |_=>exact absurd (show false=true from hs) aQ
 |int i=>
  obtain⟨t,rfl⟩:=rx;cases y with
  |gT=>cases ry;exact PySem.EqNone.ne_int_none (js I q (by simp))
  |int j=>obtain⟨t',rfl⟩:=ry;exact ne_int (js I q (congrArg not No))
  |str j=>obtain⟨t',rfl⟩:=ry;exact PySem.EqMixed.ne_int_str (js I q (by simp))
  |_=>exact absurd (show false=true from hs) aQ
 |str i=>
  obtain⟨t,rfl⟩:=rx;cases y with
  |gT=>cases ry;exact PySem.EqNone.ne_str_none (js I q (by simp))
  |bl j=>cases ry;exact PySem.EqMixed.ne_str_bool (js I q (by simp))
  |int j=>obtain⟨t',rfl⟩:=ry;exact PySem.EqMixed.ne_str_int (js I q (by simp))
  |str j=>obtain⟨t',rfl⟩:=ry;exact ne_str (js I q (congrArg not AQ))
  |_=>exact absurd (show false=true from hs) aQ
 |nB i=>
  obtain⟨t,rfl⟩:=rx;cases y with
  |nB j=>obtain⟨t',rfl⟩:=ry;exact PySem.W.ne_bytes (js I q (congrArg not Np))
  |_=>exact absurd (show false=true from hs) aQ
 |_=>cases y<;>exact absurd (show false=true from hs) aQ
theorem sG:jp X (compareOp .Lt) (kY fun i j=>.bl (decide (i<j))):=Bx fun _ _ _ _ _ _ _ q=>lt_int q
theorem jv:jp X (compareOp .LtE) (kY fun i j=>.bl (decide (i<=j))):=Bx fun _ _ _ _ _ _ _ q=>le_int q
theorem mR:jp X (compareOp .Gt) (kY fun i j=>.bl (decide (j<i))):=Bx fun _ _ _ _ _ _ _ q=>gt_int q
theorem wg:jp X (compareOp .GtE) (kY fun i j=>.bl (decide (j<=i))):=Bx fun _ _ _ _ _ _ _ q=>ge_int q
theorem ij(b:Expr){op:CmpOp}(h:op≠ .In:=by decide)(h2:op≠ .NotIn:=by decide):behindInMarks op b=false:=by
 have e1:(op==CmpOp.In)=false:=by cases op<;>first|rfl|exact absurd Z h
 have e2:(op==CmpOp.NotIn)=false:=by cases op<;>first|rfl|exact absurd Z h2
 cases b<;>simp[behindInMarks,e1,e2]
theorem su{op:CmpOp}{r:R2}(ho:jp X (compareOp op) r)(ha:PE X a ta)(hb:PE X b tb)(hm:behindInMarks op b=false):PE X (.Compare a [op] [b] pos) (kA r ta tb):=by
 intro fM s σ H Q I h;exact wpAny_Compare1 (Hi ha hb I h fun v u s2 x y H2 I2 rx ry q=>ho fM s2 σ H2 x y v u Q I2 rx ry q) hm
def sH(t:TE):TT:=fun σ H Q=>t σ H fun x H'=>∃k,x=.bl k/\Q k H'
theorem ip{op:CmpOp}{r:R2}(ho:jp X (compareOp op) r)(ha:PE X a ta)(hb:PE X b tb)(hm:behindInMarks op b=false):PT X (.Compare a [op] [b] pos) (sH (kA r ta tb)):=by
 intro fM s σ H Q I h
 refine wpAny_isTrue_Compare1 (gn (ha fM s σ H _ I h) fun v s1 ⟨x,H1,I1,r1,q1⟩=>gn (hb fM s1 σ H1 _ I1 q1) fun u s2 ⟨y,H2,I2,r2,q2⟩=>
  gn (ho fM s2 σ H2 x y v u _ I2 r1 r2 q2) fun c s3 ⟨z,H3,I3,r3,k,e,q3⟩=> ?_) hm
 subst e;cases r3;exact bR ⟨H3,I3,q3⟩
def GK(r r':R2)(ta tb tc:TE):TE:=fun σ H Q=>ta σ H fun x H1=>tb σ H1 fun y H2=>r x y H2 fun z H3=>∃k,z=.bl k/\
 (if k=true then tc σ H3 fun w' H4=>r' y w' H4 Q else Q (.bl false) H3)
theorem MI{op u7:CmpOp}{r r':R2}(ho:jp X (compareOp op) r)(nD:jp X (compareOp u7) r')(ha:PE X a ta)(hb:PE X b tb)(hc:PE X c tc)
 (hm:lastMarks [op,u7] [b,c]=false:=by with_unfolding_all Z):PE X (.Compare a [op,u7] [b,c] pos) (GK r r' ta tb tc):=by
 intro fM s σ H Q I h
 refine Compare_chain (gn (ha fM s σ H _ I h) fun v s1 ⟨x,H1,I1,r1,q1⟩=>chain_link (gn (hb fM s1 σ H1 _ I1 q1) fun u s2 ⟨y,H2,I2,r2,q2⟩=>
  gn (ho fM s2 σ H2 x y v u _ I2 r1 r2 q2) fun d s3 ⟨z,H3,I3,r3,k,e,q3⟩=> ?_)) hm
 subst e;cases r3;refine bR ?_;cases k with
 |false=>exact ite_ff ⟨.bl false,H3,I3,Z,q3⟩
 |true=>exact ite_tt (chain_last (gn (hc fM s3 σ H3 _ I3 q3) fun w' s4 ⟨z',H4,I4,r4,q4⟩=>nD fM s4 σ H4 y z' u w' Q I4 r2 r4 q4))
theorem qo{op u7:CmpOp}{r r':R2}(ho:jp X (compareOp op) r)(nD:jp X (compareOp u7) r')(ha:PE X a ta)(hb:PE X b tb)(hc:PE X c tc)
 (hm:lastMarks [op,u7] [b,c]=false:=by with_unfolding_all Z):PT X (.Compare a [op,u7] [b,c] pos) (sH (GK r r' ta tb tc)):=by
 intro fM s σ H Q I h
 refine isTrue_chain (gn (ha fM s σ H _ I h) fun v s1 ⟨x,H1,I1,r1,q1⟩=>test_link (gn (hb fM s1 σ H1 _ I1 q1) fun u s2 ⟨y,H2,I2,r2,q2⟩=>
  gn (ho fM s2 σ H2 x y v u _ I2 r1 r2 q2) fun d s3 ⟨z,H3,I3,r3,k,e,q3⟩=> ?_)) hm
 subst e;cases r3;refine bR ?_;cases k with
 |false=>
  obtain⟨k',e',q'⟩:=q3;cases e';exact ite_ff ⟨H3,I3,q'⟩
 |true=>
  refine ite_tt (test_last (gn (hc fM s3 σ H3 _ I3 q3) fun w' s4 ⟨z',H4,I4,r4,q4⟩=>gn (nD fM s4 σ H4 y z' u w' _ I4 r2 r4 q4) fun d' s5 ⟨z2,H5,I5,r5,k2,e2,q5⟩=> ?_));subst e2;cases r5;exact bR ⟨H5,I5,q5⟩
theorem vX:(sizeLine:Nat)<2^63:=by rw[sizeLine_eq];decide
theorem Ve:jp X (binaryOp .Add) (fun x y H Q=>∃i j,x=.str i/\y=.str j/\i.length+j.length<=sizeLine/\Q (.str (i++j)) H):=by
 intro fM s σ H x y v u Q I rx ry h;obtain⟨i,j,rfl,rfl,hz,q⟩:=h;obtain⟨t,rfl⟩:=rx;obtain⟨t',rfl⟩:=ry;exact add_str (fun t' tk=>⟨.str (i++j),H,I.tok _,⟨_,Z⟩,q⟩) hz
theorem Uy:jp X (inplaceOp .Add) (fun x y H Q=>∃i j,x=.str i/\y=.str j/\i.length+j.length<=sizeLine/\Q (.str (i++j)) H):=by
 intro fM s σ H x y v u Q I rx ry h;obtain⟨i,j,rfl,rfl,hz,q⟩:=h;obtain⟨t,rfl⟩:=rx;obtain⟨t',rfl⟩:=ry;exact iadd_str (fun t' tk=>⟨.str (i++j),H,I.tok _,⟨_,Z⟩,q⟩) hz
theorem vals1{x:V}{us:List Value}(r:gG [x] us):∃u,us=[u]/\RelV x u:=by
 cases r with
 |cons r1 r2=>cases r2;exact⟨_,Z,r1⟩
theorem vals2{x y:V}{us:List Value}(r:gG [x,y] us):∃u w',us=[u,w']/\RelV x u/\RelV y w':=by
 cases r with
 |cons r1 r2=>
  cases r2 with
  |cons r3 r4=>cases r4;exact⟨_,_,Z,r1,r3⟩
theorem r9(hc:X.calm=true):mQ X (.builtin "max") (fun xs H Q=>∃i j,xs=[.int i,.int j]/\Q (.int (if j>i then j else i)) H):=by
 intro fM s σ H xs us Q I r h;obtain⟨i,j,rfl,q⟩:=h;obtain⟨u,w',rfl,⟨t,rfl⟩,⟨t',rfl⟩⟩:=vals2 r;refine max_two_ints (I.ok.hd hc) fun h' tk k=>⟨_,H,I.kept k,?_,q⟩
 by_cases hj:j>i
 ·rw[aw hj,aw hj];exact⟨_,Z⟩
 ·rw[am hj,am hj];exact⟨_,Z⟩
theorem Fe(hc:X.calm=true):mQ X (.builtin "min") (fun xs H Q=>∃i j,xs=[.int i,.int j]/\Q (.int (if j<i then j else i)) H):=by
 intro fM s σ H xs us Q I r h;obtain⟨i,j,rfl,q⟩:=h;obtain⟨u,w',rfl,⟨t,rfl⟩,⟨t',rfl⟩⟩:=vals2 r;refine min_two_ints (I.ok.hd hc) fun h' tk k=>⟨_,H,I.kept k,?_,q⟩
 by_cases hj:j<i
 ·rw[aw hj,aw hj];exact⟨_,Z⟩
 ·rw[am hj,am hj];exact⟨_,Z⟩
theorem TW:mQ X (.type "str") (fun xs H Q=>∃i,xs=[.int i]/\i.natAbs.log2<1920/\Q (.str (toString i)) H):=by
 intro fM s σ H xs us Q I r h;obtain⟨i,rfl,hz,q⟩:=h;obtain⟨u,rfl,t,rfl⟩:=vals1 r;exact PySem.P.str_of_int hz ⟨.str _,H,I.tok _,⟨_,Z⟩,q⟩
theorem ut:mQ X (.builtin "ord") (fun xs H Q=>∃x,xs=[.str x]/\x.length=1/\Q (.int (x.cps.getD 0 0:Nat)) H):=by
 intro fM s σ H xs us Q I r h;obtain⟨x,rfl,hz,q⟩:=h;obtain⟨u,rfl,t,rfl⟩:=vals1 r;exact ord_of_one hz ⟨.int _,H,I.tok _,⟨_,Z⟩,q⟩
end
structure uV(h:Heap)(x dx C:Addr)(mA:Str->Option Value):Prop where
 obj:h.get? x=some (PySem.W.instObj C dx)
 ns:h.Ns1 dx mA
 ne:dx≠x
theorem V1{h:Heap}{dx:Addr}{mA:Str->Option Value}(n:h.Ns1 dx mA):∃od,h.get? dx=some od/\∀name,PySem.W.lookIn name od=some (mA name):=by
 obtain⟨o,es,ep,ho,hd,hk,_,hm⟩:=n;refine⟨o,ho,fun name=> ?_⟩;have e:=hm name;unfold nsFind findBy at e;rw[<-Array.find?_toList] at e;unfold PySem.W.lookIn;rw[hd];dsimp only;split
 ·rename_i y q;rw[q] at e;exact congrArg some e
 ·rename_i q;rw[q] at e
  have a:es.toList.any (·.refKey)=false:=by
   rw[List.any_eq_false];intro y hy;obtain⟨z,t,aa5⟩:=hk y (Array.mem_toList_iff.mp hy);simp[DictEntry.refKey,aa5]
  have a':¬es.toList.any (·.refKey)=true:=by rw[a];exact aQ
  rw[am a'];exact congrArg some e
theorem uV.look{h:Heap}{x dx C:Addr}{mA:Str->Option Value}(I:uV h x dx C mA):∃od,PySem.W.InstAt h x (PySem.W.instObj C dx) C (some od)/\∀name,PySem.W.lookIn name od=some (mA name):=
 let ⟨od,ho,hl⟩:=V1 I.ns
 ⟨od,⟨I.obj,Z,Z,ho⟩,hl⟩
section
variable {prog:Program} {w:World} {A:Around} {E:Value->Shared->Prop} {s:Shared} {K:PySem.W.Frag} {x dx C f:Addr} {mA:Str->Option Value} {name:Str} {v:Value}
theorem Yb{expr:Bool}{Q:Value->Shared->Prop}(X:K.In s.heap)(I:uV s.heap x dx C mA)(hg:PySem.W.plainGet K C name=true)(hh:PySem.W.hasDictIn K C=true)
 (ha:PySem.W.findIn K (.ref C) name=some none) (hv:mA name=some v) (BU:PySem.W.handedIn v=true) (h:Q v {s with toks:=s.toks+1}):
 wpAny (model prog w) A (getAttr (.ref x) name expr) Q E s:=by
 obtain⟨od,J,hl⟩:=I.look;exact PySem.W.get_value X J (fJ hg).1 (PySem.W.findObj_own hh ha Z (by rw[hl,hv])) BU h
theorem W4{pl:Sem Bool}{Q:Value×List Value->Shared->Prop}(X:K.In s.heap)(I:uV s.heap x dx C mA)(hg:PySem.W.plainGet K C name=true)
 (hf:PySem.W.findIn K (.ref C) name=some (some (.ref f))) (ht:PySem.W.isFn K (.ref f)=true) (hv:mA name=none) (h:Q (.ref f,[.ref x]) s):
 wpAny (model prog w) A (getMethod (.ref x) name pl) Q E s:=by
 obtain⟨od,J,hl⟩:=I.look;exact PySem.W.method_fn X J (fJ hg).1 (fJ hg).2 hf (ci.mp ht) (by show(PySem.W.lookIn name od).map (·.isSome)=some false;rw[hl,hv];rfl) h
theorem Yc{ns:List Str}{Q:Unit->Shared->Prop}(X:K.In s.heap)(I:uV s.heap x dx C mA)
 (hs:PySem.W.findIn K (.ref C) "__setattr__"=some (some (.builtin "object.__setattr__"))) (hp:PySem.W.plainOver K C=true) (ht:PySem.W.takerIn K C name=some none) (hh:PySem.W.hasDictIn K C=true)
 (hw:PySem.Within mA ns) (hsz:ns.length<=sizeLine)
 (h:∀h',uV h' x dx C (fun y=>if y=name then some v else mA y)->Heap.SameBut dx s.heap h'->Q () {s with heap:=h',toks:=s.toks+2}):
 wpAny (model prog w) A (setAttr (.ref x) name v) Q E s:=by
 obtain⟨od,J,hl⟩:=I.look;refine PySem.W.set_plain X J hs (PySem.W.osa_open (s:={s with toks:=s.toks+1}) (r:=none) X J hp ht fun b=> ?_);obtain⟨cd,hc,HA⟩:=PySem.W.any_some hh;have hx:s.heap.get? x=some ⟨.ref C,some dx,.plain,#[]⟩:=I.obj;refine ay (aY (ay (ay (wpAny_loadPart hx (ay (PySem.W.Looks.here (s:={s with toks:=s.toks+1}) (PySem.W.looks_clsIn X hc) ?_))))));rw[HA];refine aY (a:=some dx) (ay (aY (ay ?_)));refine wpAny_nsSet1 (s:={s with toks:=s.toks+1}) I.ns fun h' u8 tj=> ?_
 obtain⟨oD,esD,epD,HH,HI,HJ⟩:=u8.count (PySem.Within.cons name v hw);refine ay (wpAny_lookBehind HH (by rw[HI];exact pastItsLine_dict (a8 HJ (by rw[aj];omega))) ?_);exact aY (h _ ⟨(tj.2 _ (cJ I.ne)).trans I.obj,u8,I.ne⟩ tj)
theorem W5{R:Result->Shared->Prop}{vs:List Value}{kw:List (Str×Value)}(X:K.In s.heap)(hm:PySem.W.makesIn K C=true)
 (hi:PySem.W.findIn K (.ref C) "__init__"=some (some (.ref f))) (hf:PySem.W.typeIn K (.ref f)=some (.type "function"))
 (h:codeAny (model prog w) (A.under (.builtin "type.__call__" ⟨.ref C::vs,kw⟩)) (.call (.ref f) ⟨.ref (s.heap.objs.size+1)::vs,kw⟩) (PySem.W.InitBack (s.heap.objs.size+1) R)
   {s with heap:=(s.heap.push PySem.W.emptyDict).push (PySem.W.instObj C s.heap.objs.size)}):
 codeAny (model prog w) A (.call (.ref C) ⟨vs,kw⟩) R s:=by
 obtain⟨hh,g,d,t,os⟩:=s;exact PySem.W.make_core (PySem.W.makes_of X hm) (PySem.W.looks_findIn X hi) (fun self=>PySem.W.bind_fn X self hf) (.inl Z) h
end
def jC(f:Str)(v:V):List (Str×V)->List (Str×V)
 |[]=>[(f,v)]
 |(g,x)::r=>if g=f then(g,v)::r else(g,x)::jC f v r
theorem Ef(f g:Str)(v:V):∀fs:List (Str×V),(jC f v fs).lookup g=if g=f then some v else fs.lookup g
 |[]=>by
  show List.lookup g [(f,v)]=_
  by_cases h:g=f
  ·have hb:(g==f)=true:=ci.mpr h;simp only[List.lookup,hb,aw h]
  ·have hb:(g==f)=false:=cO.mpr h;simp only[List.lookup,hb,am h]
 |(k,x)::r=>by
  have ih:=Ef f g v r;rw[show jC f v ((k,x)::r)=(if k=f then(k,v)::r else(k,x)::jC f v r) from Z]
  by_cases hk:k=f
  ·rw[aw hk]
   by_cases h:g=k
   ·have hb:(g==k)=true:=ci.mpr h;simp only[List.lookup,hb,aw (h.trans hk)]
   ·have hb:(g==k)=false:=cO.mpr h;simp only[List.lookup,hb,am (fun e:g=f=>h (e.trans hk.symm))]
  ·rw[am hk]
   by_cases h:g=k
   ·have hb:(g==k)=true:=ci.mpr h;simp only[List.lookup,hb,am (fun e:g=f=>hk (h.symm.trans e))]
   ·have hb:(g==k)=false:=cO.mpr h;simp only[List.lookup,hb];exact ih
theorem xX(f:Str)(v:V):∀fs:List (Str×V),f∈(jC f v fs).map (·.1)/\∀g,g∈fs.map (·.1)->g∈(jC f v fs).map (·.1)
 |[]=>⟨by simp[jC],fun g h=>by simp at h⟩
 |(k,x)::r=>by
  obtain⟨i1,i2⟩:=xX f v r;rw[show jC f v ((k,x)::r)=(if k=f then(k,v)::r else(k,x)::jC f v r) from Z]
  by_cases hk:k=f
  ·rw[aw hk];subst hk;exact⟨by simp,fun g h=>by simpa using h⟩
  ·rw[am hk];refine⟨?_,fun g h=> ?_⟩
   ·rw[aB];exact aX _ i1
   ·rw[aB] at h⊢;rcases az.mp h with e|e
    ·exact az.mpr (.inl e)
    ·exact aX _ (i2 g e)
theorem KP(f:Str)(v:V):∀fs:List (Str×V),(jC f v fs).length<=fs.length+1
 |[]=>by simp[jC]
 |(k,x)::r=>by
  have ih:=KP f v r;rw[show jC f v ((k,x)::r)=(if k=f then(k,v)::r else(k,x)::jC f v r) from Z]
  by_cases hk:k=f
  ·rw[aw hk,aj,aj];omega
  ·rw[am hk,aj,aj];omega
theorem kx.some_of{v:V}{o:Option Value}(r:kx (some v) o):∃u,o=some u/\RelV v u:=by
 cases o with
 |none=>exact(show False from r).elim
 |some u=>exact⟨u,Z,r⟩
theorem kx.none_of{o:Option Value}(r:kx none o):o=none:=by
 cases o with
 |none=>rfl
 |some u=>exact(show False from r).elim
theorem V2{v:V}{u:Value}(r:RelV v u):PySem.W.handedIn u=true:=by
 cases v with
 |gT=>cases (show u=Value.none from r);rfl
 |bl b=>cases (show u=Value.bool b from r);rfl
 |int i=>obtain⟨t,e⟩:=(show∃t,u=Value.int i t from r);cases e;rfl
 |str x=>obtain⟨t,e⟩:=(show∃t,u=Value.str x t from r);cases e;rfl
 |nB b=>obtain⟨t,e⟩:=(show∃t,u=Value.bytes b t from r);cases e;rfl
 |wL b=>obtain⟨t,e⟩:=(show∃t,u=Value.float b t from r);cases e;rfl
 |ref a=>cases (show u=Value.ref a from r);rfl
 |ty n=>cases (show u=Value.type n from r);rfl
section
variable {P:Program} {w:World} {H H':Hp} {h h':Heap} {a C dx:Addr} {fs wN:List (Str×V)}
theorem Gr(gj:iZ P w H h)(e:H a=some (.ins C dx fs)):∃mA,uV h a dx C mA/\(∀f,kx (fs.lookup f) (mA f))/\PySem.Within mA (fs.map (·.1))/\fs.length<=1000/\H dx=some (.own a):=by
 obtain⟨d,z,ne,ob,mA,n,r,q⟩:=(show jk P w H h a (.ins C dx fs) from gj a _ e);exact⟨mA,⟨ob,n,ne⟩,r,q,z,d⟩
end
structure mV(K:PySem.W.Frag)(C:Addr):Prop where
 pg:PySem.W.plainGet K C Str.empty=true
 hd:PySem.W.hasDictIn K C=true
 po:PySem.W.plainOver K C=true
 sa:PySem.W.findIn K (.ref C) "__setattr__"=some (some (.builtin "object.__setattr__"))
theorem mV.get{K:PySem.W.Frag}{C:Addr}(c:mV K C)(f:Str):PySem.W.plainGet K C f=true:=c.pg
def ji(K:PySem.W.Frag)(C:Addr)(f:Str):Prop:=PySem.W.findIn K (.ref C) f=some none
theorem ji.aaf{K:PySem.W.Frag}{C:Addr}{f:Str}(n:ji K C f):PySem.W.takerIn K C f=some none:=by
 unfold PySem.W.takerIn;rw[show PySem.W.findIn K (.ref C) f=some none from n];rfl
structure lZ(K:PySem.W.Frag)(C:Addr)(m:Str)(f:Addr):Prop where
 at_:PySem.W.findIn K (.ref C) m=some (some (.ref f))
 fn:PySem.W.isFn K (.ref f)=true
 kp:PySem.W.keepIn K (.ref f)=true
section
variable {X:Cx} {fM:List (Addr×Obj)} {σ:St} {H:Hp} {s:Shared} {a C dx:Addr} {fs:List (Str×V)} {f:Str} {v:V} {A:Around} {E:Value->Shared->Prop}
theorem Lo{b:Bool}{Q:Value->Shared->Prop}(I:Inv X fM σ H s)(e:H a=some (.ins C dx fs))(c:mV X.K C)(n:ji X.K C f)(l:fs.lookup f=some v)
 (h:∀u s',Inv X fM σ H s'->RelV v u->Q u s'):wpAny (model X.prog X.w) A (getAttr (.ref a) f b) Q E s:=by
 obtain⟨mA,O,r,_,_,_⟩:=Gr I.gj e;obtain⟨u,hu,ru⟩:=kx.some_of (v:=v) (o:=mA f) (by rw[<-l];exact r f);exact Yb I.jF O (c.get f) c.hd n hu (V2 ru) (h u _ (I.tok _) ru)
theorem EB{m:Str}{g:Addr}{pl:Sem Bool}{Q:Value×List Value->Shared->Prop}(I:Inv X fM σ H s)(e:H a=some (.ins C dx fs))(c:mV X.K C)(k:lZ X.K C m g)(l:fs.lookup m=none)
 (h:Q (.ref g,[.ref a]) s):wpAny (model X.prog X.w) A (getMethod (.ref a) m pl) Q E s:=by
 obtain⟨mA,O,r,_,_,_⟩:=Gr I.gj e;have hn:mA m=none:=kx.none_of (by rw[<-l];exact r m);exact W4 I.jF O (c.get m) k.at_ k.fn hn h
theorem Lp{y:V}{u:Value}{Q:Unit->Shared->Prop}(I:Inv X fM σ H s)(e:H a=some (.ins C dx fs))(c:mV X.K C)(n:ji X.K C f)(hl:fs.length<1000)(ry:RelV y u)
 (h:∀s',Inv X fM σ (fN H a (.ins C dx (jC f y fs))) s'->Q () s'):wpAny (model X.prog X.w) A (setAttr (.ref a) f u) Q E s:=by
 obtain⟨mA,O,r,wi,_,ho⟩:=Gr I.gj e;have hz:(fs.map (·.1)).length<=sizeLine:=by rw[ac,sizeLine_eq];omega
 refine Yc I.jF O c.sa c.po n.aaf c.hd wi hz fun h' O' sb=>h _ ?_
 have hd:∃o,h'.get? dx=some o:=let ⟨o,_,_,e',_⟩:=O'.ns;⟨o,e'⟩
 refine I.write (x:=a) (e:=dx) (by rw[e];exact True.intro) (.inr ho) (fun b q hb z=>(sb.2 b hb).trans z) hd ?_;refine⟨by rw[fU O.ne];exact ho,?_,O.ne,O'.obj,_,O'.ns,fun g=> ?_,fun g hg=> ?_⟩
 ·have:=KP f y fs;omega
 ·show kx ((jC f y fs).lookup g) (if g=f then some u else mA g);rw[Ef]
  by_cases q:g=f
  ·rw[aw q,aw q];exact ry
  ·rw[am q,am q];exact r g
 ·by_cases q:g=f
  ·rw[q];exact(xX f y fs).1
  ·refine(xX f y fs).2 g (wi g fun z=>hg ?_);show(if g=f then some u else mA g)=none;rw[am q];exact z
theorem Inv.made(I:Inv X fM σ H s):Inv X fM σ (fN (fN H s.heap.objs.size (.own (s.heap.objs.size+1))) (s.heap.objs.size+1) (.ins C s.heap.objs.size []))
 {s with heap:=(s.heap.push PySem.W.emptyDict).push (PySem.W.instObj C s.heap.objs.size)}:=by
 have e1:(s.heap.push PySem.W.emptyDict).get? s.heap.objs.size=some PySem.W.emptyDict:=aO s.heap Z
 have e2:((s.heap.push PySem.W.emptyDict).push (PySem.W.instObj C s.heap.objs.size)).get? (s.heap.objs.size+1)=some (PySem.W.instObj C s.heap.objs.size):=by
  have:=aO (s.heap.push PySem.W.emptyDict) (o:=PySem.W.instObj C s.heap.objs.size) Z
  rwa [bz] at this
 have e3:(s.heap.push PySem.W.emptyDict).Ns s.heap.objs.size (fun _=>none):=⟨PySem.W.emptyDict,#[],_,e1,Z,(fun e he=>absurd he (by simp)),fun _=>rfl⟩;have I1:=I.laid (a:=s.heap.objs.size) (o:=.own (s.heap.objs.size+1)) (h':=s.heap.push PySem.W.emptyDict) (t':=s.toks) (fun b u q=>aC _ q) (aA _) ⟨_,e1⟩;refine I1.laid (a:=s.heap.objs.size+1) (o:=.ins C s.heap.objs.size []) (t':=s.toks) (fun b u q=>aC _ q) (Nat.le_of_eq (bz _ _)) ?_;have ne:s.heap.objs.size≠s.heap.objs.size+1:=ba (Nat.lt_succ_self _);refine⟨by rw[fU ne,fP],aN _,ne,e2,fun _=>none,(Heap.Ns1.of_empty e3).at fun o q=>aC _ q,fun _=>True.intro,fun y hy=>absurd Z hy⟩
theorem Nq{prog:Program}{w:World}{env:Env}{e:Expr}{f:Str}{pos:Pos}{s:Shared}{Q:Value->Shared->Prop}(hb:attributeBase e f env (eval e env)=eval e env)
 (h:wpAny (model prog w) A (eval e env) (fun o iL=>wpAny (model prog w) A (getAttr o f true) Q E iL) E s):wpAny (model prog w) A (eval (.Attribute e f pos) env) Q E s:=
 Attribute_any_ h (by rw[arm_eval_Attribute,hb])
end
def yx(K:PySem.W.Frag)(ta:TE)(f:Str):TE:=fun σ H Q=>ta σ H fun x H1=>∃a C dx fs v,x=.ref a/\H1 a=some (.ins C dx fs)/\mV K C/\ji K C f/\fs.lookup f=some v/\Q v H1
def OW(K:PySem.W.Frag)(ta tv:TE)(f:Str):TS:=fun D σ H=>tv σ H fun y H1=>ta σ H1 fun x H2=>∃a C dx fs,x=.ref a/\H2 a=some (.ins C dx fs)/\mV K C/\ji K C f/\fs.length<1000/\
 D.nx σ (fN H2 a (.ins C dx (jC f y fs)))
def OX(X:Cx)(op:Operator)(rd:V->V->Hp->VK->Prop):Prop:=
 ∀(fM:List (Addr×Obj)) (s:Shared) (σ:St) (H:Hp) (x y:V) (u v:Value) (Q:VK),Inv X fM σ H s->RelV x u->RelV y v->rd x y H Q->wpAny (model X.prog X.w) X.A (inplaceOp op u v) (EP X fM σ Q) X.xe s
def Yd(K:PySem.W.Frag)(ta tv:TE)(rd:V->V->Hp->VK->Prop)(f:Str):TS:=fun D σ H=>ta σ H fun x H1=>∃a C dx fs v,x=.ref a/\H1 a=some (.ins C dx fs)/\mV K C/\ji K C f/\fs.lookup f=some v/\
 tv σ H1 fun y H2=>rd v y H2 fun z H3=>∃BV wN,H3 a=some (.ins C BV wN)/\wN.length<1000/\D.nx σ (fN H3 a (.ins C BV (jC f z wN)))
section
variable {X:Cx} {o e value:Expr} {f:Str} {pos kW mS:Pos} {ta tv:TE}
theorem gf(he:PE X e ta)(hb:attributeBase e f X.env (eval e X.env)=eval e X.env):PE X (.Attribute e f pos) (yx X.K ta f):=by
 intro fM s σ H Q I h;refine Nq hb (gn (he fM s σ H _ I h) fun u s1 ⟨x,H1,I1,rx,a,C,dx,fs,v,ex,ea,c,n,l,q⟩=> ?_);subst ex;obtain rfl:u=Value.ref a:=rx;exact Lo I1 ea c n l fun u' s2 I2 ru=>⟨v,H1,I2,ru,q⟩
theorem jt(ha:PE X o ta)(hv:PE X value tv)(hs:swapsWith value (some (.Attribute o f kW)) pos.line X.env=pure false):PS X (.Assign [.Attribute o f kW] value pos) (OW X.K ta tv f):=by
 intro fM s σ H D I h;refine dz (gn (hv fM s σ H _ I h) fun u s1 ⟨y,H1,I1,ry,q⟩=>gn (ha fM s1 σ H1 _ I1 q) fun ov s2 ⟨x,H2,I2,rx,a,C,dx,fs,ex,ea,c,n,l,q2⟩=> ?_) hs;subst ex;obtain rfl:ov=Value.ref a:=rx;exact Lp I2 ea c n l ry fun s3 I3=>⟨σ,_,I3,q2⟩
theorem Ai{op:Operator}{rd:V->V->Hp->VK->Prop}(ha:PE X o ta)(hv:PE X value tv)(hop:OX X op rd):PS X (.AugAssign (.Attribute o f mS) op value pos) (Yd X.K ta tv rd f):=by
 intro fM s σ H D I h;refine wpAny_AugAssign_AttributeAny (gn (ha fM s σ H _ I h) fun ov s1 ⟨x,H1,I1,rx,a,C,dx,fs,v,ex,ea,c,n,l,q⟩=> ?_);subst ex;obtain rfl:ov=Value.ref a:=rx;refine Lo I1 ea c n l fun u s2 I2 ru=>gn (hv fM s2 σ H1 _ I2 q) fun w3 s3 ⟨y,H2,I3,ry,q3⟩=>gn (hop fM s3 σ H2 v y u w3 _ I3 ru ry q3) fun w4 s4 ⟨z,H3,I4,rz,BV,wN,ea',l',q4⟩=> ?_
 exact Lp I4 ea' c n l' rz fun s5 I5=>⟨σ,_,I5,q4⟩
def aa6:V->V->Hp->VK->Prop:=fun x y H Q=>∃i j,x=.int i/\y=.int j/\Q (.int (i+j)) H
theorem A8:OX X .Add aa6:=by
 rintro fM s σ H x y u v Q I rx ry ⟨i,j,rfl,rfl,q⟩;obtain⟨t,rfl⟩:=(show∃t,u=Value.int i t from rx);obtain⟨t',rfl⟩:=(show∃t',v=Value.int j t' from ry);exact PyProof.Rows.iadd_int ⟨.int (i+j),H,I.tok _,⟨_,Z⟩,q⟩
theorem afc{pl:Sem Bool}{m:Str}{jD:Pos}{args:List Expr}{fM:List (Addr×Obj)}{s:Shared}{σ:St}{H:Hp}{Q:Value->Shared->Prop}{te:TE}(he:PE X e te)(I:Inv X fM σ H s)
 (h:te σ H fun x H1=>∃a C dx fs g,x=.ref a/\H1 a=some (.ins C dx fs)/\mV X.K C/\lZ X.K C m g/\fs.lookup m=none/\
   ∀s1,Inv X fM σ H1 s1->wpAny (model X.prog X.w) X.A (callWith pos (.ref g) [.ref a] (backTo pos (starEach args X.env)) (backToKw pos (keywordEach [] X.env))) Q X.xe s1)
 (ht:eval (.Call (.Attribute e m jD) args [] pos) X.env=(do
   let ov<-eval e X.env
   standAt jD.atName
   let (f,first)<-holding [ov] (getMethod ov m pl)
   callWith pos f first (backTo pos (starEach args X.env)) (backToKw pos (keywordEach [] X.env)))):
 wpAny (model X.prog X.w) X.A (eval (.Call (.Attribute e m jD) args [] pos) X.env) Q X.xe s:=by
 refine fo (pl:=pl) (gn (he fM s σ H _ I h) fun u s1 ⟨x,H1,I1,rx,a,C,dx,fs,g,ex,ea,c,k,l,q⟩=> ?_) ht;subst ex;obtain rfl:u=Value.ref a:=rx;exact EB I1 ea c k l (q s1 I1)
end
structure jO(k:Nat)(A:Around):Prop where
 hd:A.handled=none
 dp:A.depth+3*k+5<recursionLimit
 un:A.units+16*k+200<cLine
theorem jO.mono{j k:Nat}{A:Around}(r:jO k A)(h:j<=k):jO j A:=⟨r.hd,by have:=r.dp;omega,by have:=r.un;omega⟩
theorem jO.deeper{k:Nat}{A:Around}(r:jO (k+1) A)(env:Env):jO k (A.deeper env):=
 ⟨r.hd,by have:=r.dp;show A.depth+1+3*k+5<_;omega,by have:=r.un;show A.units+3+16*k+200<_;omega⟩
theorem Vf{A:Around}{C:Addr}{us:List Value}{kw:List (Str×Value)}:(A.under (.builtin "type.__call__" ⟨.ref C::us,kw⟩)).depth=A.depth+1:=by
 first|rfl|simp[Around.under,Code.weight,Code.isCreation,Code.isGuard,Code.isCaller,Code.frames,Code.isFrame,guardIds]
theorem Vg{A:Around}{C:Addr}{us:List Value}{kw:List (Str×Value)}:(A.under (.builtin "type.__call__" ⟨.ref C::us,kw⟩)).units=A.units+1:=by
 first|rfl|simp[Around.under,Code.cUnits,Code.frames,Code.isFrame]
theorem jO.make{k:Nat}{A:Around}(r:jO (k+1) A)(C:Addr)(us:List Value)(kw:List (Str×Value)):jO k (A.under (.builtin "type.__call__" ⟨.ref C::us,kw⟩)):=
 ⟨r.hd,by have:=r.dp;rw[Vf];omega,by have:=r.un;rw[Vg];omega⟩
theorem jO.depth{k:Nat}{A:Around}(r:jO k A):A.depth<recursionLimit:=by have:=r.dp;omega
theorem jO.units{k:Nat}{A:Around}(r:jO k A):A.units+64<cLine:=by have:=r.un;omega
def jx:TA:=fun _ H Q=>Q [] H
def i8(ta:TE)(tr:TA):TA:=fun σ H Q=>ta σ H fun x H1=>tr σ H1 fun xs H2=>Q (x::xs) H2
section
variable {X:Cx} {e:Expr} {es:List Expr} {te:TE} {t:TA} {pos:Pos}
theorem fQ:PA X [] jx:=fun _ _ _ _ H Q I h=>Calls.spliced_nil ⟨[],H,I,.nil,h⟩
theorem fO(ha:PE X e te)(hr:PA X es t)(hs:starEach (e::es) X.env=(false,eval e X.env)::starEach es X.env:=by rfl):PA X (e::es) (i8 te t):=by
 intro pos fM s σ H Q I h;rw[hs];show wpAny _ _ (spliced ((false,eval e X.env)::backTo pos (starEach es X.env))) _ _ s;refine eX (gn (ha fM s σ H _ I h) fun u s1 ⟨x,H1,I1,r1,q1⟩=> ?_);exact gn (hr pos fM s1 σ H1 _ I1 q1) fun us s2 ⟨xs,H2,I2,r2,q2⟩=>⟨x::xs,H2,I2,.cons r1 r2,q2⟩
def By(t:TA):TE:=fun σ H Q=>t σ H fun xs H1=>xs.length<=sizeLine/\∀p,H1 p=none->Q (.ref p) (fN H1 p (.tup xs))
def yy(t:TA):TE:=fun σ H Q=>t σ H fun xs H1=>xs.length<=sizeLine/\∀p,H1 p=none->Q (.ref p) (fN H1 p (.lst xs))
theorem vY{x1}(h:PA X es t):PE X (.Tuple es x1 pos) (By t):=by
 intro fM s σ H Q I hq;refine wpAny_Tuple_spliced (gn (h pos fM s σ H _ I hq) fun us s1 ⟨xs,H1,I1,r,z,q⟩=>⟨by rw[<-r.length];exact z,?_⟩);have hf:H1 s1.heap.objs.size=none:=I1.gj.fresh (aA _);refine⟨.ref s1.heap.objs.size,fN H1 s1.heap.objs.size (.tup xs),I1.laid (t':=s1.toks) (fun b u e=>aC _ e) (aA _) ?_,Z,q _ hf⟩;exact⟨z,us,r,⟨_,aO _ Z,Z,_,Z⟩⟩
theorem gJ(h:PA X es t):PE X (.List es pos) (yy t):=by
 intro fM s σ H Q I hq;refine wpAny_List_spliced (gn (h pos fM s σ H _ I hq) fun us s1 ⟨xs,H1,I1,r,z,q⟩=>⟨by rw[<-r.length];exact z,?_⟩);have hf:H1 s1.heap.objs.size=none:=I1.gj.fresh (aA _);refine⟨.ref s1.heap.objs.size,fN H1 s1.heap.objs.size (.lst xs),I1.laid (t':=s1.toks) (fun b u e=>aC _ e) (aA _) ?_,Z,q _ hf⟩;exact⟨z,us,0,r,aO _ Z⟩
end
abbrev Sp:=List V->Hp->VK->XK->Prop
abbrev qH:=List Env->Hp->Shared->XK->Value->Shared->Prop
structure uW(P:Program)(w:World)(K:PySem.W.Frag)(mg:Str->Option Value)(base:Heap)(A:Around)(outer:List Env)(s:Shared)(H:Hp):Prop where
 frames:A.frames=some outer
 mod:Mod K mg base
 bs:∀b o,base.get? b=some o->s.heap.get? b=some o/\H b=none
 pV:base.objs.size<=s.heap.objs.size
 jw:s.heap.FunFrames base outer
 qF:∀b∈iQ outer,H b=none
 gj:iZ P w H s.heap
 bare:AllBare s.gens
def CE(outer:List Env)(P:Program)(w:World)(H:Hp)(s:Shared)(Q:VK)(u:Value)(s':Shared):Prop:=
 ∃v H',s'.os=s.os/\AllBare s'.gens/\Un (iQ outer) [] H H' s.heap s'.heap/\iZ P w H' s'.heap/\RelV v u/\Q v H'
def CR(CX:qH)(outer:List Env)(P:Program)(w:World)(H:Hp)(s:Shared)(Q:VK)(E:XK)(r:Result)(s':Shared):Prop:=
 match r with
 |.ok (.ret u)=>CE outer P w H s Q u s'
 |.ok _=>False
 |.error e=>CX outer H s E e s'
structure gL(P:Program)(w:World)(K:PySem.W.Frag)(mg:Str->Option Value)(base:Heap)(CX:qH)(k:Nat)(f:Addr)(fd:FuncData)(ps:List Str)(sp:Sp):Prop where
 len:∀vs H Q E,sp vs H Q E->vs.length=ps.length
 run:∀(A:Around) (outer:List Env) (s:Shared) (H:Hp) (args:Args) (us:List Value) (vs:List V) (Q:VK) (E:XK),jO k A->uW P w K mg base A outer s H->BindsTo s fd args (ps.zip us)->gG vs us->sp vs H Q E->
  codeAny (model P w) A (.call (.ref f) args) (CR CX outer P w H s Q E) s
theorem uW.make{P:Program}{w:World}{K:PySem.W.Frag}{mg:Str->Option Value}{base:Heap}{A:Around}{outer:List Env}{s:Shared}{H:Hp}(e:uW P w K mg base A outer s H)(C:Addr)(us:List Value)(kw:List (Str×Value)):
 uW P w K mg base (A.under (.builtin "type.__call__" ⟨.ref C::us,kw⟩)) outer s H:=⟨by first|exact e.frames|(simpa [Around.under,Code.envs,Code.isFrame,pushEnvs] using e.frames),e.mod,e.bs,e.pV,e.jw,e.qF,e.gj,e.bare⟩
section
variable {X:Cx} {fM:List (Addr×Obj)} {σ:St} {H:Hp} {s s':Shared}
theorem Inv.Hk(I:Inv X fM σ H s):uW X.prog X.w X.K X.mg X.base X.A X.stack s H:=
 ⟨I.ok.frames,I.ok.mod,I.bs,a8 I.ok.pV I.sz,I.stack,I.uw,I.gj,I.bare⟩
theorem Inv.after{Q:VK}{u:Value}(I:Inv X fM σ H s)(h:CE X.stack X.prog X.w H s Q u s'):EP X fM σ Q u s':=by
 obtain⟨v,H',os,bare,un,gj,r,q⟩:=h;obtain⟨hh,g,d,t,os'⟩:=s';obtain rfl:os'=s.os:=os;exact⟨v,H',I.call (h':=hh) (g':=g) (d':=d) (t':=t) (ch:=[]) un gj bare (fun b z=>absurd z (by simp)),r,q⟩
end
def GZ(sp:Sp)(kj:List V)(E:XK)(t:TA):TE:=fun σ H Q=>t σ H fun vs H1=>sp (vs++kj) H1 Q E
def Ot(C:Addr)(m:Str)(sp:Sp)(kj:List V)(E:XK)(ta:TE)(t:TA):TE:=fun σ H Q=>ta σ H fun x H1=>∃a dx fs,x=.ref a/\H1 a=some (.ins C dx fs)/\fs.lookup m=none/\
 t σ H1 fun vs H2=>sp (x::(vs++kj)) H2 Q E
def Ou(C:Addr)(sp:Sp)(kj:List V)(E:XK)(t:TA):TE:=fun σ H Q=>t σ H fun vs H1=>∀x dx,H1 x=none->H1 dx=none->dx≠x->
 sp (.ref x::(vs++kj)) (fN (fN H1 dx (.own x)) x (.ins C dx [])) (fun v H2=>v=.gT/\Q (.ref x) H2) E
def Binds(K:PySem.W.Frag)(fd:FuncData)(ps:List Str)(ds:List Value):Prop:=
 ∀(s:Shared) (us:List Value),K.In s.heap->(us++ds).length=ps.length->BindsTo s fd ⟨us,[]⟩ (ps.zip (us++ds))
theorem Binds.all{K:PySem.W.Frag}{fd:FuncData}{ps:List Str}(h:∀us:List Value,us.length=ps.length->bindArgs fd ⟨us,[]⟩=pure (ps.zip us)):Binds K fd ps []:=fun s us _ hl=>by
 rw[bc] at hl⊢;exact .of_eq (h us hl)
def nU(CX:qH)(X:Cx)(E:XK):Prop:=∀(fM:List (Addr×Obj)) (σ:St) (H:Hp) (s:Shared) (e:Value) (s':Shared),Inv X fM σ H s->CX X.stack H s E e s'->X.xe e s'
section
variable {X:Cx} {CX:qH} {k:Nat} {f C:Addr} {fd:FuncData} {ps:List Str} {sp:Sp} {kj:List V} {ds:List Value} {E:XK} {x m:Str} {p pos jD:Pos} {e o:Expr} {es:List Expr} {ta:TE} {t:TA}
theorem A9{fM:List (Addr×Obj)}{σ:St}{H:Hp}{s:Shared}{Q:VK}{us:List Value}{vs:List V}(F:gL X.prog X.w X.K X.mg X.base CX k f fd ps sp)(hr:jO k X.A)(hb:Binds X.K fd ps ds)(hd:gG kj ds)(hx:nU CX X E)
 (I:Inv X fM σ H s) (r:gG vs us) (h:sp (vs++kj) H Q E):wpAny (model X.prog X.w) X.A (call (.ref f) us) (EP X fM σ Q) X.xe s:=by
 have r2:gG (vs++kj) (us++ds):=r.append hd;have hl:(us++ds).length=ps.length:=by rw[<-r2.length];exact F.len _ _ _ _ h
 refine wpAny_call (eZ (F.run X.A X.stack s H ⟨us,[]⟩ (us++ds) (vs++kj) Q E hr I.Hk (hb s us I.jF hl) r2 h) fun r s' hq=> ?_);cases r with
 |error e=>exact hx fM σ H s e s' I hq
 |ok fl=>
  cases fl with
  |ret u=>exact I.after hq
  |next=>exact False.elim hq
  |brk=>exact False.elim hq
  |cont=>exact False.elim hq
theorem ie(F:gL X.prog X.w X.K X.mg X.base CX k f fd ps sp)(hr:jO k X.A)(hg:Gl X x)(hm:X.mg x=some (.ref f))(hk:PySem.W.keepIn X.K (.ref f)=true)(hb:Binds X.K fd ps ds)(hd:gG kj ds)(hx:nU CX X E)
 (ha:PA X (e::es) t) (mW:(x==("__debug__":Str))=false:=by decide) (he:starEach (e::es) X.env=(false,eval e X.env)::starEach es X.env:=by rfl) (jq:(backTo pos (starEach es X.env)).any (·.1)=false:=by rfl):
 PE X (.Call (.Name x p) (e::es) [] pos) (GZ sp kj E t):=by
 intro fM s σ H Q I h;refine bH (ux I hg hm ?_ mW);refine dE (h₀:=X.base) I.ok.mod.u4 hk (gn (ha pos fM s σ H _ I h) fun us s1 ⟨vs,H1,I1,r,q⟩=>⟨I1.jF,?_⟩) he jq;exact A9 F hr hb hd hx I1 r q
theorem oG{pl:Sem Bool}(he:PE X o ta)(c:mV X.K C)(hm:lZ X.K C m f)(F:gL X.prog X.w X.K X.mg X.base CX k f fd ps sp)(hr:jO k X.A)(hb:Binds X.K fd ps ds)(hd:gG kj ds)(hx:nU CX X E)(ha:PA X (e::es) t)
 (kL:starEach (e::es) X.env=(false,eval e X.env)::starEach es X.env:=by rfl) (jq:(backTo pos (starEach es X.env)).any (·.1)=false:=by rfl)
 (ht:eval (.Call (.Attribute o m jD) (e::es) [] pos) X.env=(do
   let ov<-eval o X.env
   standAt jD.atName
   let (f,first)<-holding [ov] (getMethod ov m pl)
   callWith pos f first (backTo pos (starEach (e::es) X.env)) (backToKw pos (keywordEach [] X.env))):=by rfl):
 PE X (.Call (.Attribute o m jD) (e::es) [] pos) (Ot C m sp kj E ta t):=by
 intro fM s σ H Q I h;refine fo (pl:=pl) (gn (he fM s σ H _ I h) fun u s1 ⟨x,H1,I1,rx,a,dx,fs,ex,ea,l,q⟩=> ?_) ht;subst ex;obtain rfl:u=Value.ref a:=rx;refine EB I1 ea c hm l ?_;refine dE (first:=[.ref a]) (h₀:=X.base) I.ok.mod.u4 hm.kp (gn (ha pos fM s1 σ H1 _ I1 q) fun us s2 ⟨vs,H2,I2,r,q2⟩=>⟨I2.jF,?_⟩) kL jq;exact A9 (us:=.ref a::us) (vs:=.ref a::vs) F hr hb hd hx I2 (.cons Z r) q2
theorem ma{pl:Sem Bool}(he:PE X o ta)(c:mV X.K C)(hm:lZ X.K C m f)(F:gL X.prog X.w X.K X.mg X.base CX k f fd ps sp)(hr:jO k X.A)(hb:Binds X.K fd ps ds)(hd:gG kj ds)(hx:nU CX X E)
 (ht:eval (.Call (.Attribute o m jD) [] [] pos) X.env=(do
   let ov<-eval o X.env
   standAt jD.atName
   let (f,first)<-holding [ov] (getMethod ov m pl)
   callWith pos f first (backTo pos (starEach [] X.env)) (backToKw pos (keywordEach [] X.env))):=by rfl):
 PE X (.Call (.Attribute o m jD) [] [] pos) (Ot C m sp kj E ta jx):=by
 intro fM s σ H Q I h;refine fo (pl:=pl) (gn (he fM s σ H _ I h) fun u s1 ⟨x,H1,I1,rx,a,dx,fs,ex,ea,l,q⟩=> ?_) ht;subst ex;obtain rfl:u=Value.ref a:=rx;refine EB I1 ea c hm l ?_;exact PySem.W.callWith_K0 (first:=[.ref a]) I1.jF hm.kp (A9 (us:=[.ref a]) (vs:=[.ref a]) F hr hb hd hx I1 (.cons Z .nil) q)
structure Mk(K:PySem.W.Frag)(C f:Addr):Prop where
 makes:PySem.W.makesIn K C=true
 init:PySem.W.findIn K (.ref C) "__init__"=some (some (.ref f))
 fn:PySem.W.isFn K (.ref f)=true
 kp:PySem.W.keepIn K (.ref C)=true
theorem MJ{fM:List (Addr×Obj)}{σ:St}{H:Hp}{s:Shared}{Q:VK}{us:List Value}{vs:List V}(M:Mk X.K C f)(F:gL X.prog X.w X.K X.mg X.base CX k f fd ps sp)(hr:jO (k+1) X.A)(hb:Binds X.K fd ps ds)(hd:gG kj ds)
 (hx:nU CX X E) (I:Inv X fM σ H s) (r:gG vs us)
 (h:∀x dx,H x=none->H dx=none->dx≠x->sp (.ref x::(vs++kj)) (fN (fN H dx (.own x)) x (.ins C dx [])) (fun v H2=>v=.gT/\Q (.ref x) H2) E):
 wpAny (model X.prog X.w) X.A (call (.ref C) us) (EP X fM σ Q) X.xe s:=by
 have hq:=h (s.heap.objs.size+1) s.heap.objs.size (I.gj.fresh (Nat.le_succ _)) (I.gj.fresh (aA _)) (ba (Nat.lt_succ_self _));have I2:=Inv.made (C:=C) I;have r2:gG (V.ref (s.heap.objs.size+1)::(vs++kj)) (Value.ref (s.heap.objs.size+1)::(us++ds)):=.cons Z (r.append hd)
 have hl:(Value.ref (s.heap.objs.size+1)::us++ds).length=ps.length:=by
  have e:=r2.length;rw[F.len _ _ _ _ hq] at e;exact e.symm
 refine wpAny_call (W5 (f:=f) I.jF M.makes M.init (ci.mp M.fn) (eZ (F.run _ X.stack _ _ ⟨Value.ref (s.heap.objs.size+1)::us,[]⟩ (Value.ref (s.heap.objs.size+1)::(us++ds)) _ _ E (hr.make C us [])
  (I2.Hk.make C us []) (hb _ (Value.ref (s.heap.objs.size+1)::us) I2.jF hl) r2 hq) fun r s' tm=> ?_))
 cases r with
 |error e=>exact hx fM σ _ _ e s' I2 tm
 |ok fl=>
  cases fl with
  |ret u=>
   obtain⟨v,H',I3,rv,ev,q3⟩:=I2.after tm;subst ev;exact⟨rv,⟨V.ref (s.heap.objs.size+1),H',I3,Z,q3⟩⟩
  |next=>exact False.elim tm
  |brk=>exact False.elim tm
  |cont=>exact False.elim tm
theorem uy(M:Mk X.K C f)(F:gL X.prog X.w X.K X.mg X.base CX k f fd ps sp)(hr:jO (k+1) X.A)(hg:Gl X x)(hm:X.mg x=some (.ref C))(hb:Binds X.K fd ps ds)(hd:gG kj ds)(hx:nU CX X E)
 (ha:PA X (e::es) t) (mW:(x==("__debug__":Str))=false:=by decide) (he:starEach (e::es) X.env=(false,eval e X.env)::starEach es X.env:=by rfl) (jq:(backTo pos (starEach es X.env)).any (·.1)=false:=by rfl):
 PE X (.Call (.Name x p) (e::es) [] pos) (Ou C sp kj E t):=by
 intro fM s σ H Q I h;refine bH (ux I hg hm ?_ mW);refine dE (h₀:=X.base) I.ok.mod.u4 M.kp (gn (ha pos fM s σ H _ I h) fun us s1 ⟨vs,H1,I1,r,q⟩=>⟨I1.jF,?_⟩) he jq;exact MJ M F hr hb hd hx I1 r q
theorem W6(M:Mk X.K C f)(F:gL X.prog X.w X.K X.mg X.base CX k f fd ps sp)(hr:jO (k+1) X.A)(hg:Gl X x)(hm:X.mg x=some (.ref C))(hb:Binds X.K fd ps ds)(hd:gG kj ds)(hx:nU CX X E)
 (mW:(x==("__debug__":Str))=false:=by decide):PE X (.Call (.Name x p) [] [] pos) (Ou C sp kj E jx):=by
 intro fM s σ H Q I h;refine bH (ux I hg hm ?_ mW);exact PySem.W.callWith_K0 I.jF M.kp (MJ (us:=[]) M F hr hb hd hx I .nil h)
end
def PK(X:Cx)(jK:List Keyword)(t:TA):Prop:=
 ∀(pos:Pos) (fM:List (Addr×Obj)) (s:Shared) (σ:St) (H:Hp) (Q:List V->Hp->Prop),Inv X fM σ H s->t σ H Q->wpAny (model X.prog X.w) X.A (evalAll ((backToKw pos (keywordEach jK X.env)).map (·.2))) (AP X fM σ Q) X.xe s
section
variable {X:Cx} {CX:qH} {k:Nat} {f C:Addr} {fd:FuncData} {ps ks:List Str} {sp:Sp} {E:XK} {x m:Str} {p pos jD aa7:Pos} {e o:Expr} {es:List Expr} {jK:List Keyword} {te ta:TE} {t tk:TA} {nm:Option Str}
theorem ym:PK X [] jx:=fun _ _ _ _ H Q I h=>wpAny_evalAll_nil ⟨[],H,I,.nil,h⟩
theorem yf(ha:PE X e te)(hr:PK X jK t):PK X (⟨nm,e,aa7⟩::jK) (i8 te t):=by
 intro pos fM s σ H Q I h;show wpAny _ _ (evalAll ((do let v<-eval e X.env;standAt pos;pure v)::(backToKw pos (keywordEach jK X.env)).map (·.2))) _ _ s;refine wpAny_evalAll_cons (ay (gn (ha fM s σ H _ I h) fun u s1 ⟨x,H1,I1,r1,q1⟩=>ay (dO (aY ?_))));exact gn (hr pos fM s1 σ H1 _ I1 q1) fun us s2 ⟨xs,H2,I2,r2,q2⟩=>⟨x::xs,H2,I2,.cons r1 r2,q2⟩
variable {g:List Value->List Value->List Value} {gV:List V->List V->List V}
end
structure gQ(N P:List Str)(sc:Scope):Prop where
 kind:sc.kind=.function
 co:sc.isCoroutine=false
 gen:sc.isGenerator=false
 nd:N.Nodup
 pre:N.take P.length=P
 Ps:∀x∈P,sc.names.lookup x=some .local\/sc.names.lookup x=some .cell
 Zm:∀y∈sc.names,y.2≠ .free
theorem L6{kindOf:Str->Option NameKind}{x:Str}:∀{binds:List (Str×Value)} {m:Str->Option Value},(∀v,(x,v)∉binds)->bindL kindOf binds m x=m x
 |[],_,_=>rfl
 |(n,v)::r,m,h=>by
  unfold bindL;rw[L6 fun w hw=>h w (aX _ hw)];split
  ·have:x≠n:=by rintro rfl;exact h v bx
   simp[this]
  ·rfl
theorem L7{kindOf:Str->Option NameKind}{x:Str}:∀{binds:List (Str×Value)} {m:Str->Option Value},(∀v,(x,v)∉binds)->bindC kindOf binds m x=m x
 |[],_,_=>rfl
 |(n,v)::r,m,h=>by
  unfold bindC;rw[L7 fun w hw=>h w (aX _ hw)];split
  ·rfl
  ·have:x≠n:=by rintro rfl;exact h v bx
   simp[this]
theorem L8{kindOf:Str->Option NameKind}{x:Str}{v:Value}:∀{P:List Str} {vs:List Value} {i:Nat} {m:Str->Option Value},P.Nodup->P[i]? =some x->vs[i]? =some v->kindOf x=some .local->
 bindL kindOf (P.zip vs) m x=some v
 |[],_,_,_,_,h,_,_=>by simp at h
 |_::_,[],_,_,_,_,h,_=>by simp at h
 |p::P,w::vs,0,m,nd,h1,h2,hk=>by
  simp at h1 h2;subst h1;subst h2;show bindL kindOf ((p,w)::P.zip vs) m p=_;unfold bindL;rw[L6 fun v hv=>(bj.mp nd).1 (List.of_mem_zip hv).1,aw hk];simp
 |p::P,w::vs,i+1,m,nd,h1,h2,hk=>by
  show bindL kindOf ((p,w)::P.zip vs) m x=_;unfold bindL;exact L8 (i:=i) (bj.mp nd).2 (by simpa using h1) (by simpa using h2) hk
theorem L9{kindOf:Str->Option NameKind}{x:Str}{v:Value}:∀{P:List Str} {vs:List Value} {i:Nat} {m:Str->Option Value},P.Nodup->P[i]? =some x->vs[i]? =some v->kindOf x≠some .local->
 bindC kindOf (P.zip vs) m x=some v
 |[],_,_,_,_,h,_,_=>by simp at h
 |_::_,[],_,_,_,_,h,_=>by simp at h
 |p::P,w::vs,0,m,nd,h1,h2,hk=>by
  simp at h1 h2;subst h1;subst h2;show bindC kindOf ((p,w)::P.zip vs) m p=_;unfold bindC;rw[L7 fun v hv=>(bj.mp nd).1 (List.of_mem_zip hv).1,am hk];simp
 |p::P,w::vs,i+1,m,nd,h1,h2,hk=>by
  show bindC kindOf ((p,w)::P.zip vs) m x=_;unfold bindC;exact L9 (i:=i) (bj.mp nd).2 (by simpa using h1) (by simpa using h2) hk
def start(N:List Str)(vs:List V):St:=vs.map some++List.replicate (N.length-vs.length) none
def j6(CX:qH)(P:Program)(w:World)(K:PySem.W.Frag)(mg:Str->Option Value)(base:Heap)(N:List Str)(qual:Str)(scope:Scope)(f:Addr)(cd:Value)(A:Around)(outer:List Env)(s:Shared)(H:Hp)(E:XK):Cx where
 prog:=P
 w:=w
 K:=K
 mg:=mg
 base:=base
 A:=A.deeper (envOfC qual scope s.heap.objs.size f cd)
 N:=N
 kX:=s
 u5:=H
 env:=envOfC qual scope s.heap.objs.size f cd
 outer:=outer
 stack:=envOfC qual scope s.heap.objs.size f cd::outer
 ex:=[]
 calm:=true
 fn:=fun _=>true
 pn:=[]
 xe:=fun e s'=>wpAny (model P w) (A.deeper (envOfC qual scope s.heap.objs.size f cd)) (leaving (envOfC qual scope s.heap.objs.size f cd) e) (fun _ HK=>CX outer H s E e HK) (fun e' HK=>CX outer H s E e' HK) s'
theorem MK{sc:Scope}{n:Nat}{x:Str}(h:sc.names.lookup x=some .cell):∃c,(cellsFrom n sc.names []).lookup x=some c:=by
 have q:=PySem.W.cellsFrom_some sc.names n [] (.inl h);exact Option.isSome_iff_exists.mp q
theorem V3{CX:qH}{P:Program}{w:World}{K:PySem.W.Frag}{mg:Str->Option Value}{base:Heap}{N ps:List Str}{qual:Str}{scope:Scope}{f:Addr}{cd:Value}{A:Around}{outer:List Env}{s s1:Shared}{H:Hp}{E:XK}{us:List Value}{vs:List V}
 (S:gQ N ps scope) (hd:A.handled=none) (e0:uW P w K mg base A outer s H) (hl:vs.length=ps.length) (r:gG vs us)
 (x:InCallC s s.heap.objs.size (bindL (envOfC qual scope s.heap.objs.size f cd).kindOf (ps.zip us) fun _=>none) (cellsFrom (s.heap.objs.size+1) scope.names []) (bindC (envOfC qual scope s.heap.objs.size f cd).kindOf (ps.zip us) fun _=>none) s1):
 Inv (j6 CX P w K mg base N qual scope f cd A outer s H E) [] (start N vs) H s1:=by
 have jq:ps.length<=N.length:=by have:=congrArg List.length S.pre;rw[aD] at this;omega
 obtain⟨h1,tk,rfl,hk⟩:=x.done;have yM:∀b:Addr,b∉(j6 CX P w K mg base N qual scope f cd A outer s H E).ex:=fun b z=>absurd (show b∈([]:List Addr) from z) (by simp)
 refine⟨⟨e0.mod,S.kind,Z,Z,aA _,fun y z c h1 h2=> ?_,fun y hy=> ?_,fun y c _ h=> ?_,fun _=>hd,Around.frames_deeper e0.frames,.inr ⟨Z,Z⟩,fun b z=>absurd z (yM b),e0.bs,e0.pV,fun b _ _=>yM b,fun b z=>absurd z (yM b),e0.jw,e0.qF⟩,
  Z,e0.bare,Un.kept hk,⟨_,x.toInCall.ns,fun i y v h1 h2 h3=> ?_⟩,fun y c h=>⟨_,x.cell y c h⟩,e0.gj.fresh (aA _),fun y c h=> ?_,fun p hp=>absurd (show p∈([]:List (Addr×Obj)) from hp) (by simp),e0.gj.kept hk,?_⟩
 ·exact name_of_addr x.apart (bf h1) (bf h2)
 ·have hy:scope.names.lookup y=some .cell\/scope.names.lookup y=some .free:=hy;rcases hy with hy|hy
  ·exact MK hy
  ·exact absurd Z (S.Zm _ (bf hy))
 ·exact Nat.le_of_lt (x.above y c (bf h))
 ·have hi:i<vs.length:=by
   unfold start at h2
   by_cases hi:i<vs.length
   ·exact hi
   ·rw[bv (by simpa using hi)] at h2;rw[List.getElem?_replicate] at h2;split at h2<;>cases h2
  have ha:vs[i]? =some v:=by
   unfold start at h2;rw[bp (by simpa using hi),au] at h2;cases e:vs[i]? with
   |none=>rw[e] at h2;cases h2
   |some a=>rw[e] at h2;cases h2;rfl
  obtain⟨u,hu,rv⟩:=r.get ha
  have hp:ps[i]? =some y:=by
   rw[<-S.pre,dr (by omega)];exact h1
  have Pt:ps.Nodup:=by rw[<-S.pre];exact S.nd.sublist (List.take_sublist _ _)
  refine⟨u,rv,?_⟩;rcases S.Ps y (aS hp) with k|k
  ·exact .inl ⟨k,L8 Pt hp hu k⟩
  ·obtain⟨c,e⟩:=MK (n:=s.heap.objs.size+1) k;refine .inr ⟨.inl k,c,e,?_⟩;have q:=x.cell y c e;rw[L9 Pt hp hu (by show scope.names.lookup y≠_;rw[k];decide)] at q;exact q
 ·exact e0.gj.fresh (Nat.le_of_lt (x.above y c (bf h)))
 ·unfold start;show _=N.length;rw[ag,ac,bP];omega
theorem Ov{CX:qH}{P:Program}{w:World}{K:PySem.W.Frag}{mg:Str->Option Value}{base:Heap}{k:Nat}{f:Addr}{name qual:Str}{params:Arguments}{body:List Stmt}{scope:Scope}{dV kV doc pm gz ct oc:Value}{an od:Option Addr}
 {oZ:Array (Option Value)} {N ps:List Str} {sp:Sp} (lk:K.lookup f=some ⟨oc,od,.func (PySem.W.fnOf name qual params body scope dV kV doc pm an gz ct),oZ⟩) (og:PySem.W.codeIn K gz qual=true) (S:gQ N ps scope)
 (len:∀vs H Q E,sp vs H Q E->vs.length=ps.length)
 (rh:∀(A:Around) (outer:List Env) (s:Shared) (H:Hp) (vs:List V) (Q:VK) (E:XK),jO k (A.deeper (envOfC qual scope s.heap.objs.size f gz))->sp vs H Q E->
   ∃t,l6 (j6 CX P w K mg base N qual scope f gz A outer s H E) body t/\t {nx:=fun _ H'=>Q .gT H',rt:=Q} (start N vs) H):
 gL P w K mg base CX (k+1) f (PySem.W.fnOf name qual params body scope dV kV doc pm an gz ct) ps sp:=by
 refine⟨len,fun A outer s H args us vs Q E hr e0 hb r tq=> ?_⟩;have hl:=len _ _ _ _ tq;have KX:K.In s.heap:=e0.mod.u4.keeps fun b o e=>(e0.bs b o e).1
 have lim:s.heap.NoLimit:=e0.mod.nolimit.keeps fun b o e=>(e0.bs b o e).1
 have aag:∀y∈ps.zip us,scope.names.lookup y.1=some .local\/(scope.names.lookup y.1=some .cell/\((cellsFrom (s.heap.objs.size+1) scope.names []).lookup y.1).isSome=true):=fun⟨n,v⟩ hy=>by
  rcases S.Ps n (List.of_mem_zip hy).1 with q|q
  ·exact .inl q
  ·exact .inr ⟨q,PySem.W.cellsFrom_some _ _ _ (.inl q)⟩
 refine codeAny_call_function hr.depth (KX _ _ lk) Z S.co S.gen Z (PySem.W.codeRec_of KX og) (hb _ _ _ _ ?_);refine wpAny_newFunctionEnv_cells S.kind aag fun env he s1 x=> ?_
 subst he;refine⟨lim.keeps x.toInCall.keep,codeAny_func ?_⟩;obtain⟨t,ht,hq⟩:=rh A outer s H vs Q E (hr.deeper _) tq;have I:Inv (j6 CX P w K mg base N qual scope f gz A outer s H E) [] (start N vs) H s1:=V3 S hr.hd e0 hl r x;refine bF (ht [] s1 (start N vs) H _ I hq) (fun fl s' hs=> ?_) fun e s' hs=>hs
 have fin:∀{gy:St} {H':Hp} {v:V} {u:Value},Inv (j6 CX P w K mg base N qual scope f gz A outer s H E) [] gy H' s'->RelV v u->Q v H'->CE outer P w H s Q u s':=
  fun{gy H' v u} J rv q=>⟨v,H',J.os,J.bare,J.base,J.gj,rv,q⟩
 cases fl with
 |ret u=>
  obtain⟨v,gy,H',J,rv,q⟩:=hs;exact fin J rv q
 |next=>
  obtain⟨gy,H',J,q⟩:=hs;exact fin (v:=V.gT) (u:=Value.none) J Z q
 |brk=>
  obtain⟨_,_,_,q⟩:=hs;exact False.elim q
 |cont=>
  obtain⟨_,_,_,q⟩:=hs;exact False.elim q
section
variable {X:Cx} {x:Str} {p pos:Pos} {e:Expr} {es:List Expr} {t:TA} {id T:String} {r:List V->Hp->VK->Prop}
def oh(r:List V->Hp->VK->Prop)(t:TA):TE:=fun σ H Q=>t σ H fun vs H1=>r vs H1 Q
theorem gW(hc:mQ X (.builtin id) r)(hg:Gl X x)(hm:X.mg x=none)(hv:bootBuiltins x=some (.builtin id))(ha:PA X (e::es) t)(hn:x≠"__name__":=by decide)(mW:(x==("__debug__":Str))=false:=by decide)
 (he:starEach (e::es) X.env=(false,eval e X.env)::starEach es X.env:=by rfl) (jq:(backTo pos (starEach es X.env)).any (·.1)=false:=by rfl):PE X (.Call (.Name x p) (e::es) [] pos) (oh r t):=by
 intro fM s σ H Q I h;refine bH (qu I hg hm hv ?_ hn mW);exact PyProof.Rows.callWith_builtin1 (gn (ha pos fM s σ H _ I h) fun us s1 ⟨vs,H1,I1,r1,q1⟩=>hc fM s1 σ H1 vs us Q I1 r1 q1) he jq
theorem xY(hc:mQ X (.type T) r)(hg:Gl X x)(hm:X.mg x=none)(hv:bootBuiltins x=some (.type T))(ha:PA X (e::es) t)(hn:x≠"__name__":=by decide)(mW:(x==("__debug__":Str))=false:=by decide)
 (he:starEach (e::es) X.env=(false,eval e X.env)::starEach es X.env:=by rfl) (jq:(backTo pos (starEach es X.env)).any (·.1)=false:=by rfl):PE X (.Call (.Name x p) (e::es) [] pos) (oh r t):=by
 intro fM s σ H Q I h;refine bH (qu I hg hm hv ?_ hn mW);exact cp (gn (ha pos fM s σ H _ I h) fun us s1 ⟨vs,H1,I1,r1,q1⟩=>hc fM s1 σ H1 vs us Q I1 r1 q1) he jq
end
end L2
namespace HT
open PySem PyProof.Rows
section
variable {prog:Program} {w:World} {A:Around} {E:Value->Shared->Prop} {s:Shared}
def kM(n d:Nat):Option Int->Nat
 |none=>d
 |some v=>if v<0 then(v+(n:Int)).toNat else min v.toNat n
theorem ML(n d:Nat):kM n d none=d:=rfl
theorem yg(n d k:Nat):kM n d (some (k:Int))=min k n:=by
 show(if (k:Int)<0 then((k:Int)+(n:Int)).toNat else min (k:Int).toNat n)=min k n;rw[am (by omega),a6]
end
end HT
namespace L2
open PySem PySem.Spec PyProof.Rows
abbrev TO:=St->Hp->(Option Int->Hp->Prop)->Prop
def PO(X:Cx)(e:Option Expr)(t:TO):Prop:=
 ∀(fM:List (Addr×Obj)) (s:Shared) (σ:St) (H:Hp) (Q:Option Int->Hp->Prop),Inv X fM σ H s->t σ H Q->
  wpAny (model X.prog X.w) X.A (evalPart e X.env) (fun u s'=>∃o H',Inv X fM σ H' s'/\IsPart u o/\Q o H') X.xe s
def Ye:TO:=fun _ H Q=>Q none H
def aah(t:TE):TO:=fun σ H Q=>t σ H fun x H1=>∃i,x=.int i/\Q (some i) H1
section
variable {X:Cx} {e:Expr} {te:TE} {lo hi:Option Expr} {tl th:TO} {pos p2:Pos}
theorem Gs:PO X none Ye:=by
 intro fM s σ H Q I h;rw[evalPart_none];exact aY ⟨none,H,I,.none,h⟩
theorem kq(h:PE X e te):PO X (some e) (aah te):=by
 intro fM s σ H Q I hw;rw[evalPart_some];refine gn (h fM s σ H _ I hw) fun u s1 ⟨x,H1,I1,r1,q1⟩=> ?_
 obtain⟨i,rfl,q⟩:=q1;obtain⟨t,rfl⟩:=r1;exact⟨some i,H1,I1,.int i t,q⟩
def Pu(X:Cx)(r:V->Option Int->Option Int->Hp->VK->Prop):Prop:=
 ∀(fM:List (Addr×Obj)) (s:Shared) (σ:St) (H:Hp) (x:V) (v vl vu:Value) (lo hi:Option Int) (sl:Addr) (Q:VK),Inv X fM σ H s->RelV x v->s.heap.IsSliceOf sl vl vu .none->IsPart vl lo->IsPart vu hi->r x lo hi H Q->
  ∃T id,typeLookup (.type T) "__getitem__"=pure (some (.builtin id))/\s.TypeIs v T/\wpAny (model X.prog X.w) X.A (getItem v (.ref sl)) (EP X fM σ Q) X.xe s
def tSl(r:V->Option Int->Option Int->Hp->VK->Prop)(te:TE)(tl th:TO):TE:=fun σ H Q=>te σ H fun x H1=>tl σ H1 fun l H2=>th σ H2 fun u H3=>r x l u H3 Q
theorem oE{r:V->Option Int->Option Int->Hp->VK->Prop}(hr:Pu X r)(he:PE X e te)(hl:PO X lo tl)(hu:PO X hi th):PE X (.Subscript e (.Slice lo hi none p2) pos) (tSl r te tl th):=by
 intro fM s σ H Q I h;refine Subscript_ (gn (he fM s σ H _ I h) fun v s1 ⟨x,H1,I1,r1,q1⟩=> ?_);refine wpAny_Slice (gn (hl fM s1 σ H1 _ I1 q1) fun vl s2 ⟨l,H2,I2,pl,q2⟩=>gn (hu fM s2 σ H2 _ I2 q2) fun vu s3 ⟨u,H3,I3,pu,q3⟩=> ?_);rw[evalPart_none];refine aY ?_;have I4:Inv X fM σ H3 {s3 with heap:=s3.heap.push {cls:=.type "slice",data:=.fields #[vl,vu,.none]}}:=I3.kept (t':=s3.toks) fun b ob q=>aC _ q
 obtain⟨T,id,hT,ht,hg⟩:=hr fM {s3 with heap:=s3.heap.push {cls:=.type "slice",data:=.fields #[vl,vu,.none]}} σ H3 x v vl vu l u s3.heap.objs.size Q I4 r1 (Heap.IsSliceOf.new ..) pl pu q3;show wpAny (model X.prog X.w) X.A (subscriptTail e (.Slice lo hi none p2) v (.ref s3.heap.objs.size)) (EP X fM σ Q) X.xe {s3 with heap:=s3.heap.push {cls:=.type "slice",data:=.fields #[vl,vu,.none]}};exact tail_any (ops:=[.ref s3.heap.objs.size,v]) ht hT hg (by with_unfolding_all Z)
def j0(xs:List V)(lo hi:Option Int):List V:=(xs.drop (HT.kM xs.length 0 lo)).take (HT.kM xs.length xs.length hi-HT.kM xs.length 0 lo)
theorem Uz(xs:List V)(lo hi:Option Int):(j0 xs lo hi).length<=xs.length:=by
 unfold j0;rw[aD,aW];omega
end
def qI(n:Nat)(i:Int):Option Nat:=if 0<=i then(if i<n then some i.toNat else none) else if-(n:Int)<=i then some (i+n).toNat else none
def mo{α:Type}(xs:List α)(i:Int):Option α:=(qI xs.length i).bind fun j=>xs[j]?
theorem Nr{n:Nat}{i:Int}{j:Nat}(h:qI n i=some j):seqIndex? i n=some j/\j<n/\ -(n:Int)<=i/\i<n:=by
 unfold qI at h
 by_cases h0:0<=i
 ·rw[aw h0] at h
  by_cases h1:i<n
  ·rw[aw h1] at h;have e:i.toNat=j:=af h;exact⟨by rw[seqIndex_of h0 h1,e],by omega,by omega,h1⟩
  ·rw[am h1] at h;cases h
 ·rw[am h0] at h
  by_cases h1: -(n:Int)<=i
  ·rw[aw h1] at h;have e:(i+n).toNat=j:=af h;exact⟨by rw[seqIndex_neg (by omega) h1,e],by omega,h1,by omega⟩
  ·rw[am h1] at h;cases h
theorem Gu{α:Type}{xs:List α}{i:Int}{v:α}(h:mo xs i=some v):∃j,seqIndex? i xs.length=some j/\xs[j]? =some v/\j<xs.length/\ -(xs.length:Int)<=i/\i<xs.length:=by
 unfold mo at h;cases e:qI xs.length i with
 |none=>rw[e] at h;cases h
 |some j=>
  rw[e] at h;obtain⟨h1,h2,h3,h4⟩:=Nr e;exact⟨j,h1,h,h2,h3,h4⟩
theorem AR{α:Type}{xs:List α}{j:Nat}{v:α}(h:xs[j]? =some v):mo xs (j:Int)=some v:=by
 have hj:j<xs.length:=(ap.mp h).1
 have e:qI xs.length (j:Int)=some j:=by
  unfold qI;rw[aw (by omega),aw (by omega)];simp
 unfold mo;rw[e];exact h
def Yf(b:Expr):Prop:=∀o i,subscripted b false o i=operate [o,i] (getItem o i)
def BW(X:Cx)(r:R2):Prop:=
 ∀(value qD:Expr) (fM:List (Addr×Obj)) (s:Shared) (σ:St) (H:Hp) (x y:V) (v u:Value) (Q:VK),Inv X fM σ H s->RelV x v->RelV y u->r x y H Q->
  subscripted qD false v u=operate [v,u] (getItem v u)->wpAny (model X.prog X.w) X.A (subscriptTail value qD v u) (EP X fM σ Q) X.xe s
def wT(X:Cx)(id:String)(r:V->List V->Hp->VK->Prop):Prop:=
 ∀(fM:List (Addr×Obj)) (s:Shared) (σ:St) (H:Hp) (x:V) (xs:List V) (v:Value) (us:List Value) (Q:VK),Inv X fM σ H s->RelV x v->gG xs us->r x xs H Q->
  wpAny (model X.prog X.w) X.A (call (.builtin id) (v::us)) (EP X fM σ Q) X.xe s
section
variable {X:Cx} {a b:Expr} {ta tb:TE} {pos:Pos}
theorem hZ{r:R2}(hr:BW X r)(ha:PE X a ta)(hb:PE X b tb)(hs:Yf b):PE X (.Subscript a b pos) (kA r ta tb):=by
 intro fM s σ H Q I h;exact Subscript_ (Hi ha hb I h fun v u s2 x y H2 I2 rx ry q=>hr a b fM s2 σ H2 x y v u Q I2 rx ry q (hs _ _))
def wz(K:PySem.W.Frag):R2:=fun x y H Q=>∃p xs i v,x=.ref p/\y=.int i/\fS K H p xs/\mo xs i=some v/\Q v H
def wA(K:PySem.W.Frag):R2:=fun x y H Q=>∃p xs i v,x=.ref p/\y=.int i/\iO K H p xs/\mo xs i=some v/\Q v H
def OY:R2:=fun x y H Q=>∃z i c,x=.str z/\y=.int i/\z.length<=sizeLine/\mo z.cps.toList i=some c/\Q (.str ⟨#[c]⟩) H
theorem jc:BW X (wz X.K):=by
 intro value qD fM s σ H x y v u Q I rx ry h hs;obtain⟨p,xs,i,z,rfl,rfl,hq,he,q⟩:=h;cases rx;obtain⟨t,rfl⟩:=ry;obtain⟨fV,r,pl,hz⟩:=I.list hq;obtain⟨j,h1,h2,h3,h4,h5⟩:=Gu he;obtain⟨w,ew,oj⟩:=r.get h2;have hl:=r.length;have hn:=vX;have fin:EP X fM σ Q w s:=⟨z,H,I,oj,q⟩
 by_cases h0:0<=i
 ·have hj:i.toNat=j:=by
   rw[seqIndex_of h0 h5] at h1;exact af h1
  exact item_listR pl.isList h0 (by omega) (by rw[hj];simpa using ew) fin hs
 ·have hj:(i+(fV.toArray.size:Int)).toNat=j:=by
   rw[seqIndex_neg (by omega) h4] at h1;rw[aR,<-hl];exact af h1
  exact subscriptTail_builtinR (x:=w) pl.isList.typeIs slot_list_getitem.lookup
   (wpAny_getItem_list_neg (Q:=fun r s'=>r=w/\EP X fM σ Q r s') pl.isList (by omega) (by rw[aR]<;>omega) (by omega) (by rw[hj];simpa using ew) ⟨Z,fin⟩) hs
theorem jI:BW X (wA X.K):=by
 intro value qD fM s σ H x y v u Q I rx ry h hs;obtain⟨p,xs,i,z,rfl,rfl,hq,he,q⟩:=h;cases rx;obtain⟨t,rfl⟩:=ry;obtain⟨fV,r,pl,hz⟩:=I.tuple hq;obtain⟨j,h1,h2,h3,h4,h5⟩:=Gu he;obtain⟨w,ew,oj⟩:=r.get h2;have hl:=r.length;have hn:=vX;have fin:EP X fM σ Q w s:=⟨z,H,I,oj,q⟩
 exact subscriptTail_builtinR (x:=w) pl.typeIs slot_tuple_getitem.lookup
  (getItem_tuple (j:=j) (Q:=fun r s'=>r=w/\EP X fM σ Q r s') pl (by omega) (by omega) (by rw[aR,<-hl];exact h1) (by simpa using ew) ⟨Z,fin⟩) hs
theorem GL:BW X OY:=by
 intro value qD fM s σ H x y v u Q I rx ry h hs;obtain⟨z,i,c,rfl,rfl,hz,he,q⟩:=h;obtain⟨t,rfl⟩:=rx;obtain⟨t',rfl⟩:=ry;obtain⟨j,h1,h2,h3,h4,h5⟩:=Gu he;have hl:z.cps.toList.length=z.length:=by simp[Str.length]
 rw[hl] at h1 h4 h5;have hn:=vX
 exact tail_any (typeIs_str s z t) slot_str_getitem.lookup (getItem_str (c:=c) (by
  have e1:decide (i< -(2^63:Int))=false:=ae (by omega);have e2:decide (i>=2^63)=false:=ae (by omega);rw[e1,e2,Bool.or_false]) (by rw[h1];simpa using h2) ⟨.str ⟨#[c]⟩,H,I.tok _,⟨_,Z⟩,q⟩) hs
theorem Vh(fV:List Value)(n j:Nat)(u:Value):Obj.mapSeq (·.setIfInBounds j u) {cls:=.type "list",data:=.seq fV.toArray n}={cls:=.type "list",data:=.seq (fV.set j u).toArray n}:=by
 simp[Obj.mapSeq]
theorem Inv.lst{fM:List (Addr×Obj)}{σ:St}{H:Hp}{s:Shared}{p:Addr}{xs:List V}(I:Inv X fM σ H s)(h:H p=some (.lst xs)):
 ∃(fV:List Value) (n:Nat),gG xs fV/\s.heap.get? p=some {cls:=.type "list",data:=.seq fV.toArray n}/\xs.length<=sizeLine:=by
 obtain⟨z,fV,n,r,e⟩:=I.gj p _ h;exact⟨fV,n,r,e,z⟩
theorem Inv.Zn{fM:List (Addr×Obj)}{σ:St}{H:Hp}{s:Shared}{p:Addr}{xs ys:List V}{fV nA:List Value}{n n':Nat}{f:Obj->Obj}(I:Inv X fM σ H s)(h:H p=some (.lst xs))
 (ho:s.heap.get? p=some {cls:=.type "list",data:=.seq fV.toArray n}) (hf:f {cls:=.type "list",data:=.seq fV.toArray n}={cls:=.type "list",data:=.seq nA.toArray n'}) (r:gG ys nA) (hz:ys.length<=sizeLine) (t:Nat):
 Inv X fM σ (fN H p (.lst ys)) {s with heap:=s.heap.update p f,toks:=t}:=by
 have e:(s.heap.update p f).get? p=some {cls:=.type "list",data:=.seq nA.toArray n'}:=by
  rw[b5 f ho (by rw[hf]<;>rfl),hf]
 refine I.write (x:=p) (e:=p) (by rw[h];trivial) (.inl Z) (fun b u hb q=>(bq _ _ (cJ hb)).trans q) ⟨_,e⟩ ?_;exact⟨hz,nA,n',r,e⟩
def aai:V->V->V->Hp->(Hp->Prop)->Prop:=fun o i v H Q=>∃p xs k j,o=.ref p/\i=.int k/\H p=some (.lst xs)/\qI xs.length k=some j/\Q (fN H p (.lst (xs.set j v)))
theorem W7:OS X aai:=by
 intro fM s σ H o i v ov iv u Q I ro ri rv h;obtain⟨p,xs,k,j,rfl,rfl,hp,hj,q⟩:=h;cases ro;obtain⟨t,rfl⟩:=ri;obtain⟨fV,n,r,ho,hz⟩:=I.lst hp;obtain⟨h1,h2,h3,h4⟩:=Nr hj;have hl:=r.length;have hn:=vX
 have I':Inv X fM σ (fN H p (.lst (xs.set j v))) {s with heap:=s.heap.update p (Obj.mapSeq (·.setIfInBounds j u))}:=
  I.Zn hp ho (Vh fV n j u) (r.set rv j) (by rw[List.length_set];exact hz) s.toks
 by_cases h0:0<=k
 ·have hk:k.toNat=j:=by
   rw[seqIndex_of h0 h4] at h1;exact af h1
  exact PySem.W.ki_setAt ho h0 (by omega) (by rw[aR,<-hl];exact h4) (by rw[hk];exact⟨_,I',q⟩)
 ·have hk:(k+(fV.toArray.size:Int)).toNat=j:=by
   rw[seqIndex_neg (by omega) h3] at h1;rw[aR,<-hl];exact af h1
  exact PySem.W.ki_setBack ho (by omega) (by rw[aR,<-hl];exact h3) (by omega) (by rw[hk];exact⟨_,I',q⟩)
theorem TX(lo hi:Option Int)(n:Nat):(sliceBounds lo hi none n).1=((HT.kM n 0 lo:Nat):Int)/\(sliceBounds lo hi none n).2.1=((HT.kM n n hi:Nat):Int)/\(sliceBounds lo hi none n).2.2=1:=by
 refine⟨?_,?_,Z⟩
 ·cases lo with
  |none=>simp[sliceBounds,HT.kM]
  |some i=>
   simp only[sliceBounds,HT.kM,Option.getD_none,show(1:Int)>0 by decide,dA]
   by_cases h:i<0
   ·simp only[h,dA]<;>omega
   ·simp only[h,cX]<;>omega
 ·cases hi with
  |none=>simp[sliceBounds,HT.kM]
  |some i=>
   simp only[sliceBounds,HT.kM,Option.getD_none,show(1:Int)>0 by decide,dA]
   by_cases h:i<0
   ·simp only[h,dA]<;>omega
   ·simp only[h,cX]<;>omega
theorem Te(fV:List Value)(lo hi:Option Int):slicePick fV.toArray lo hi none=((fV.drop (HT.kM fV.length 0 lo)).take (HT.kM fV.length fV.length hi-HT.kM fV.length 0 lo)).toArray:=by
 obtain⟨h1,h2,h3⟩:=TX lo hi fV.toArray.size;unfold slicePick;rw[h1,h2,h3];simp only[sliceRange_one,pick_run,aR]<;>rfl
def Hl(K:PySem.W.Frag):V->Option Int->Option Int->Hp->VK->Prop:=fun x lo hi H Q=>∃a xs,x=.ref a/\fS K H a xs/\∀p,H p=none->Q (.ref p) (fN H p (.lst (j0 xs lo hi)))
theorem oH:Pu X (Hl X.K):=by
 intro fM s σ H x v vl vu lo hi sl Q I rx hs pl pu h;obtain⟨a,xs,rfl,hx,q⟩:=h;cases rx;obtain⟨fV,r,ht,hz⟩:=I.list hx;have j7:=r.length;refine⟨"list",_,slot_list_getitem.lookup,ht.isList.typeIs,?_⟩;refine wpAny_getItem_list_slice ht.isList hs pl pu .none (by simp) ?_ (by rw[aR]<;>omega);rw[Te,<-j7];refine⟨.ref s.heap.objs.size,_,I.laid (t':=s.toks) (o:=.lst (j0 xs lo hi)) (fun b ob q=>aC _ q) (aA _) ?_,Z,q _ (I.gj.fresh (aA _))⟩;exact⟨a8 (Uz xs lo hi) hz,_,0,(r.drop (HT.kM xs.length 0 lo)).take (HT.kM xs.length xs.length hi-HT.kM xs.length 0 lo),aO _ Z⟩
def qE:V->Bool
 |.gT=>true
 |.bl _=>true
 |.int _=>true
 |.str _=>true
 |_=>false
def tu:V->V->Bool
 |.gT,.gT=>true
 |.bl a,.bl b=>a==b
 |.bl a,.int b=>(if a then 1 else 0)==b
 |.int a,.bl b=>a==(if b then 1 else 0)
 |.int a,.int b=>a==b
 |.str a,.str b=>a==b
 |_,_=>false
theorem Zo{A:Around}{s:Shared}{y x:V}{u v:Value}(ry:RelV y u)(rx:RelV x v)(fy:qE y=true)(fx:qE x=true):SeqAt.EqAt A s u v (tu y x):=by
 cases y with
 |gT=>
  cases ry;cases x with
  |gT=>cases rx;exact SeqAt.EqAt.same _
  |bl b=>cases rx;exact SeqAt.EqAt.none_bool b
  |int b=>obtain⟨t,rfl⟩:=rx;exact SeqAt.EqAt.none_int b t
  |str b=>obtain⟨t,rfl⟩:=rx;exact SeqAt.EqAt.none_str b t
  |_=>exact absurd (show false=true from fx) aQ
 |bl a=>
  cases ry;cases x with
  |gT=>cases rx;exact SeqAt.EqAt.bool_none a
  |bl b=>cases rx;exact SeqAt.EqAt.bool_bool a b
  |int b=>obtain⟨t,rfl⟩:=rx;exact SeqAt.EqAt.bool_int a b t
  |str b=>obtain⟨t,rfl⟩:=rx;exact SeqAt.EqAt.bool_str a b t
  |_=>exact absurd (show false=true from fx) aQ
 |int a=>
  obtain⟨t',rfl⟩:=ry;cases x with
  |gT=>cases rx;exact SeqAt.EqAt.int_none a t'
  |bl b=>cases rx;exact SeqAt.EqAt.int_bool a t' b
  |int b=>obtain⟨t,rfl⟩:=rx;exact SeqAt.EqAt.int_int a t' b t
  |str b=>obtain⟨t,rfl⟩:=rx;exact SeqAt.EqAt.int_str a t' b t
  |_=>exact absurd (show false=true from fx) aQ
 |str a=>
  obtain⟨t',rfl⟩:=ry;cases x with
  |gT=>cases rx;exact SeqAt.EqAt.str_none a t'
  |bl b=>cases rx;exact SeqAt.EqAt.str_bool a t' b
  |int b=>obtain⟨t,rfl⟩:=rx;exact SeqAt.EqAt.str_int a t' b t
  |str b=>obtain⟨t,rfl⟩:=rx;exact SeqAt.EqAt.str_str a t' b t
  |_=>exact absurd (show false=true from fx) aQ
 |_=>exact absurd (show false=true from fy) aQ
def rC(x:V)(u:Value):Bool:=match u with
 |.none=>tu .gT x
 |.bool b=>tu (.bl b) x
 |.int i _=>tu (.int i) x
 |.str z _=>tu (.str z) x
 |_=>false
theorem Ob{x y:V}{u:Value}(r:RelV y u)(f:qE y=true):rC x u=tu y x:=by
 cases y with
 |gT=>cases r;rfl
 |bl b=>cases r;rfl
 |int i=>obtain⟨t,rfl⟩:=r;rfl
 |str z=>obtain⟨t,rfl⟩:=r;rfl
 |_=>exact absurd (show false=true from f) aQ
theorem Gv{x:V}:∀{xs:List V} {us:List Value},gG xs us->xs.all qE=true->us.any (rC x)=xs.any fun y=>tu y x
 |_,_,.nil,_=>rfl
 |y::xs,u::us,.cons r t,f=>by
  rw[cR,aH] at f;rw[dv,dv,Ob r f.1,Gv t f.2]
theorem FV{A:Around}{s:Shared}{x:V}{v:Value}(rx:RelV x v)(fx:qE x=true):∀{xs:List V} {us:List Value},gG xs us->xs.all qE=true->∀u∈us,SeqAt.EqAt A s u v (rC x u)
 |_,_,.nil,_=>fun u hu=>by cases hu
 |y::xs,u::us,.cons r t,f=>fun u' hu=>by
  rw[cR,aH] at f;rcases az.mp hu with rfl|hu
  ·rw[Ob r f.1];exact Zo r rx f.1 fx
  ·exact FV rx fx t f.2 u' hu
def pc(x:V)(xs:List V):Bool:=xs.any fun y=>tu y x
def rIn(K:PySem.W.Frag)(neg:Bool):R2:=fun x y H Q=>∃p xs,y=.ref p/\(fS K H p xs\/iO K H p xs)/\qE x=true/\xs.all qE=true/\Q (.bl (if neg then !pc x xs else pc x xs)) H
theorem xZ:jp X (compareOp .In) (rIn X.K false):=by
 intro fM s σ H x y v u Q I rx ry h;obtain⟨p,xs,rfl,hq,fx,fs,q⟩:=h;cases ry;rcases hq with hq|hq
 ·obtain⟨fV,r,pl,hz⟩:=I.list hq;refine SeqAt.in_listAt (rC x) pl.isList (fun w hw=>FV rx fx r fs w (by simpa using hw)) ⟨.bl _,H,I,Z,?_⟩;rw[show fV.toArray.any (rC x)=fV.any (rC x) by simp,Gv r fs];exact q
 ·obtain⟨fV,r,pl,hz⟩:=I.tuple hq;refine SeqAt.in_tupleAt (rC x) pl (fun w hw=>FV rx fx r fs w (by simpa using hw)) ⟨.bl _,H,I,Z,?_⟩;rw[show fV.toArray.any (rC x)=fV.any (rC x) by simp,Gv r fs];exact q
theorem iM:mQ X (.builtin "len") (fun xs H Q=>∃p ys,xs=[.ref p]/\(fS X.K H p ys\/iO X.K H p ys)/\Q (.int ys.length) H):=by
 intro fM s σ H xs us Q I r h;obtain⟨p,ys,rfl,hq,q⟩:=h;obtain⟨u,rfl,rx⟩:=vals1 r;cases rx;have hn:=vX;rcases hq with hq|hq
 ·obtain⟨fV,r',pl,hz⟩:=I.list hq;have j7:=r'.length;exact Calls.call_len_list pl.isList (by simp only[aR]<;>omega) ⟨.int ys.length,H,I.tok _,⟨s.toks+1,by rw[aR,j7]⟩,q⟩
 ·obtain⟨fV,r',pl,hz⟩:=I.tuple hq;have j7:=r'.length;exact len_tuple pl (by simp only[aR]<;>omega) ⟨.int ys.length,H,I.tok _,⟨s.toks+1,by rw[aR,j7]⟩,q⟩
theorem zS:mQ X (.builtin "len") (fun xs H Q=>∃z,xs=[.str z]/\z.length<=sizeLine/\Q (.int z.length) H):=by
 intro fM s σ H xs us Q I r h;obtain⟨z,rfl,hz,q⟩:=h;obtain⟨u,rfl,t,rfl⟩:=vals1 r;have hn:=vX;exact len_str (by omega) ⟨.int z.length,H,I.tok _,⟨_,Z⟩,q⟩
theorem J6:mQ X (.type "tuple") (fun xs H Q=>∃p ys,xs=[.ref p]/\((fS X.K H p ys/\∀l,H l=none->Q (.ref l) (fN H l (.tup ys)))\/(iO X.K H p ys/\Q (.ref p) H))):=by
 intro fM s σ H xs us Q I r h;obtain⟨p,ys,rfl,h⟩:=h;obtain⟨u,rfl,rx⟩:=vals1 r;cases rx;rcases h with⟨hq,q⟩|⟨hq,q⟩
 ·obtain⟨fV,r',pl,hz⟩:=I.list hq;have j7:=r'.length;refine call_tuple_list pl.isList (fun h' kp=> ?_) (by simp only[aR]<;>omega);have I1:Inv X fM σ H {s with heap:=h'}:=I.kept (t':=s.toks) kp
  have I2:Inv X fM σ (fN H h'.objs.size (.tup ys)) {s with heap:=h'.push {cls:=.type "tuple",data:=.seq fV.toArray}}:=
   I1.laid (t':=s.toks) (fun b o e=>aC _ e) (aA _) (show jk X.prog X.w _ _ _ (.tup ys) from⟨hz,fV,r',IsTup.new _ _⟩)
  exact⟨.ref h'.objs.size,_,I2,Z,q _ (I1.gj.fresh (aA _))⟩
 ·obtain⟨fV,r',pl,hz⟩:=I.tuple hq;exact call_tuple_same pl ⟨.ref p,H,I,Z,q⟩
def HL(K:PySem.W.Frag)(T:String)(x:V)(H:Hp):Prop:=match x with
 |.str _=>T="str"
 |.int _=>T="int"
 |.ref p=>(T="list"/\∃xs,fS K H p xs)\/(T="tuple"/\∃o,K.lookup p=some o/\o.cls=.type "tuple"/\o.dict=none)\/
  (T="dict"/\((∃kvs,H p=some (.dK kvs))\/∃kvs,H p=some (.dT kvs)))\/(T="set"/\∃S n,H p=some (.set S n))
 |_=>False
theorem Oc{fM:List (Addr×Obj)}{σ:St}{H:Hp}{s:Shared}{T:String}{x:V}{v:Value}(I:Inv X fM σ H s)(r:RelV x v)(ty:HL X.K T x H):
 s.TypeIs v T/\∀a,v=.ref a->∃ob,s.heap.get? a=some ob/\ob.dict=none:=by
 cases x with
 |str z=>
  obtain⟨t,rfl⟩:=r;cases (show T="str" from ty);exact⟨typeIs_str s z t,fun _ e=>nomatch e⟩
 |int i=>
  obtain⟨t,rfl⟩:=r;cases (show T="int" from ty);exact⟨typeIs_int s i t,fun _ e=>nomatch e⟩
 |ref p=>
  cases r;rcases ty with⟨rfl,xs,hq⟩|⟨rfl,o,hk,hc,hd⟩|⟨rfl,hk⟩|⟨rfl,S,n,hk⟩
  ·obtain⟨fV,_,pl,_⟩:=I.list hq;refine⟨pl.isList.typeIs,fun a e=> ?_⟩;cases e;obtain⟨o,n,e,c,hd,_⟩:=pl;exact⟨o,e,hd⟩
  ·refine⟨⟨o,I.jF p o hk,hc⟩,fun a e=> ?_⟩;cases e;exact⟨o,I.jF _ o hk,hd⟩
  ·have z:∃o,s.heap.get? p=some o/\o.ExactDict:=by
    rcases hk with⟨kvs,hk⟩|⟨kvs,hk⟩
    ·obtain⟨_,_,_,_,o,_,_,e,ex,_⟩:=I.gj p _ hk;exact⟨o,e,ex⟩
    ·obtain⟨_,_,_,_,o,_,_,e,ex,_⟩:=I.gj p _ hk;exact⟨o,e,ex⟩
   obtain⟨o,e,ex⟩:=z;refine⟨⟨o,e,ex.1⟩,fun a e2=> ?_⟩;cases e2;exact⟨o,e,ex.2.1⟩
  ·obtain⟨o,_,_,_,e,ex,_⟩:=I.gj p _ hk;refine⟨⟨o,e,ex.1⟩,fun a e2=> ?_⟩;cases e2;exact⟨o,e,ex.2.1⟩
 |_=>exact False.elim ty
def aa8(K:PySem.W.Frag)(T:String)(r:V->List V->Hp->VK->Prop)(to:TE):TE:=fun σ H Q=>to σ H fun x H1=>HL K T x H1/\r x [] H1 Q
def u9(K:PySem.W.Frag)(T:String)(r:V->List V->Hp->VK->Prop)(to:TE)(t:TA):TE:=fun σ H Q=>to σ H fun x H1=>HL K T x H1/\t σ H1 fun xs H2=>r x xs H2 Q
variable {o e:Expr} {es:List Expr} {to:TE} {t:TA} {name:Str} {jD jU:Pos} {T id:String} {r:V->List V->Hp->VK->Prop}
theorem Zp(pa:PlainAttrs T)(slot:Slot T name id)(tz:typeOf (.builtin id)=pure (.type "method_descriptor"))(hm:wT X id r)(ho:PE X o to)
 (rj:attributeBase o name X.env (eval o X.env)=eval o X.env:=by rfl) (oO:(jD.endLine==jU.line)=true:=by rfl):PE X (.Call (.Attribute o name jD) [] [] jU) (aa8 X.K T r to):=by
 intro fM s σ H Q I h;refine wpAny_Call_method0_late rj oO (gn (ho fM s σ H _ I h) fun v s1 ⟨x,H1,I1,r1,ty,q1⟩=> ?_);obtain⟨h1,h2⟩:=Oc I1 r1 ty;exact⟨T,id,pa,slot,tz,h1,h2,dH Z (PySem.evalArgs_none (hm fM s1 σ H1 x [] v [] Q I1 r1 .nil q1))⟩
theorem iU(pa:PlainAttrs T)(slot:Slot T name id)(tz:typeOf (.builtin id)=pure (.type "method_descriptor"))(hm:wT X id r)(ho:PE X o to)(ha:PA X (e::es) t)
 (rj:attributeBase o name X.env (eval o X.env)=eval o X.env:=by rfl)
 (aa9:((backTo jU (starEach (e::es) X.env)).all (fun x=> !x.1)&&(backToKw jU (keywordEach [] X.env)).all (fun x=>x.1.isSome)
   &&decide ((e::es).length+([]:List Keyword).length+(if ([]:List Keyword).isEmpty then 0 else 1)<30))=true:=by rfl)
 (oO:(jD.endLine==jU.line)=true:=by rfl) (hs:starEach (e::es) X.env=(false,eval e X.env)::starEach es X.env:=by rfl) (GM:(backTo jU (starEach es X.env)).any (·.1)=false:=by rfl):
 PE X (.Call (.Attribute o name jD) (e::es) [] jU) (u9 X.K T r to t):=by
 intro fM s σ H Q I h;refine wpAny_Call_method_late rj aa9 oO Z (gn (ho fM s σ H _ I h) fun v s1 ⟨x,H1,I1,r1,ty,q1⟩=> ?_);obtain⟨h1,h2⟩:=Oc I1 r1 ty;refine⟨T,id,pa,slot,tz,h1,h2,?_⟩;have hA:=ha jU fM s1 σ H1 _ I1 q1;rw[hs] at hA⊢;refine dH (by show(false||(backTo jU (starEach es X.env)).any (·.1))=false;rw[GM]<;>rfl) (Calls.evalArgs_plain ?_);exact gn hA fun us s2 ⟨vs,H2,I2,r2,q2⟩=>hm fM s2 σ H2 x vs v us Q I2 r1 r2 q2
end
def Pw(X:Cx)(id:String)(r:V->List V->Hp->VK->Prop):Prop:=
 ∀(fM:List (Addr×Obj)) (s:Shared) (σ:St) (H:Hp) (x:V) (xs:List V) (v:Value) (us:List Value) (Q:VK),Inv X fM σ H s->RelV x v->gG xs us->r x xs H Q->
  wpAny (model X.prog X.w) X.A (call (.builtin id) (v::us)) (EP X fM σ Q) X.xe s
theorem gG.one:∀{x:V} {us:List Value},gG [x] us->∃u,us=[u]/\RelV x u
 |_,_,.cons r .nil=>⟨_,Z,r⟩
theorem gG.rep{xs:List V}{us:List Value}(h:gG xs us):∀k:Nat,gG (List.replicate k xs).flatten (List.replicate k us).flatten
 |0=>.nil
 |k+1=>by
  rw[bN,bN,cu,cu];exact gG.append h (gG.rep h k)
theorem foldl_rep(fV:List Value):∀(k:Nat) (acc:List Value),
 List.foldl (fun x1 x2=>x1++x2) acc.toArray (List.replicate k fV.toArray)=(acc++(List.replicate k fV).flatten).toArray
 |0,acc=>by simp
 |k+1,acc=>by
  have e:acc.toArray++fV.toArray=(acc++fV).toArray:=by simp
  have e2:(acc++fV)++(List.replicate k fV).flatten=acc++(List.replicate (k+1) fV).flatten:=by
   rw[bN,cu,a7]
  rw[<-e2,<-foldl_rep fV k (acc++fV),<-e,bN,bI]
section
variable {X:Cx} {fM:List (Addr×Obj)} {σ:St} {H:Hp} {s:Shared} {l b:Addr} {xs ys zs:List V}
theorem Inv.OZ{fV nA:List Value}{n:Nat}{f:Array Value->Array Value}{t':Nat}(I:Inv X fM σ H s)(hH:H l=some (.lst xs))
 (e:s.heap.get? l=some {cls:=.type "list",data:=.seq fV.toArray n}) (hf:f fV.toArray=nA.toArray) (hv:gG ys nA) (hz:ys.length<=sizeLine):
 Inv X fM σ (fN H l (.lst ys)) {s with heap:=s.heap.update l (Obj.mapSeq f),toks:=t'}:=by
 have q:=PySem.IsL.update e f;rw[hf] at q;refine I.write (x:=l) (e:=l) (by rw[hH];exact trivial) (.inl Z) (fun b' u hb hu=>(bq s.heap (Obj.mapSeq f) (cJ hb)).trans hu) ⟨_,q⟩ ?_;exact⟨hz,nA,_,hv,q⟩
theorem Inv.O0{fV:List Value}{t':Nat}(I:Inv X fM σ H s)(hv:gG ys fV)(hz:ys.length<=sizeLine):
 Inv X fM σ (fN H s.heap.objs.size (.lst ys)) {s with heap:=s.heap.push {cls:=.type "list",data:=.seq fV.toArray},toks:=t'}:=
 I.laid (fun _ _ q=>aC _ q) (aA _) ⟨hz,fV,0,hv,aO _ Z⟩
theorem Inv.fresh(I:Inv X fM σ H s):H s.heap.objs.size=none:=I.gj.fresh (aA _)
theorem Inv.wB(I:Inv X fM σ H s)(hH:H l=some (.lst xs)):xs.length<=sizeLine/\∃(fV:List Value) (n:Nat),gG xs fV/\xs.length=fV.length/\s.heap.get? l=some {cls:=.type "list",data:=.seq fV.toArray n}:=by
 obtain⟨z,fV,n,r,e⟩:=I.gj l _ hH;exact⟨z,fV,n,r,r.length,e⟩
theorem MM{n:Nat}(h:n<=sizeLine):Builtin.List.listTooLong n=false:=by
 unfold Builtin.List.listTooLong;exact ae (by omega)
end
section
variable {X:Cx}
def uz:V->List V->Hp->VK->Prop:=fun x vs H Q=>∃l xs y,x=.ref l/\vs=[y]/\H l=some (.lst xs)/\xs.length<sizeLine/\Q .gT (fN H l (.lst (xs++[y])))
theorem kF:Pw X "list.append" uz:=by
 intro fM s σ H x vs v us Q I rx rv h;obtain⟨l,xs,y,rfl,rfl,hH,hz,q⟩:=h;cases rx;obtain⟨u,rfl,ru⟩:=rv.one;obtain⟨z,fV,n,r,hl,e⟩:=I.wB hH;refine call_meets aI ⟨_,e,Z⟩ F.entry_list_append (F.args_list_append_2 _ _) (PySem.list_append l fV.toArray n u (by rw[aR];omega)) ⟨e,?_⟩;refine⟨.gT,_,I.OZ (nA:=fV++[u]) hH e (by simp) (r.append (.cons ru .nil)) ?_,Z,q⟩;rw[ag,bD];omega
def Yg:V->List V->Hp->VK->Prop:=fun x vs H Q=>∃l b xs zs,x=.ref l/\vs=[.ref b]/\H l=some (.lst xs)/\H b=some (.lst zs)/\xs.length+zs.length<=sizeLine/\Q .gT (fN H l (.lst (xs++zs)))
theorem m7:Pw X "list.extend" Yg:=by
 intro fM s σ H x vs v us Q I rx rv h;obtain⟨l,b,xs,zs,rfl,rfl,hH,hB,hz,q⟩:=h;cases rx;obtain⟨u,rfl,ru⟩:=rv.one;cases ru;obtain⟨z,fV,n,r,hl,e⟩:=I.wB hH;obtain⟨z2,pS,n2,r2,ph,e2⟩:=I.wB hB;have hsz:fV.toArray.size+pS.toArray.size<=sizeLine:=by rw[aR,aR];omega
 have G0:¬(!fV.toArray.isEmpty&&Builtin.List.listTooLong (fV.toArray.size+pS.toArray.size))=true:=by
  rw[MM hsz,dB];exact aQ
 refine call_meets a0 ⟨_,e,Z⟩ F.entry_list_extend (F.args_list_extend_2 _ _)
  (AutoSeq1.list_extend_list_list_0 l fV.toArray n b pS.toArray n2 G0 (by rw[aR];omega) (by omega)) ⟨e,e2,?_⟩
 refine⟨.gT,_,I.OZ (nA:=fV++pS) hH e (by simp) (r.append r2) ?_,Z,q⟩;rw[ag];omega
def O1:R2:=fun x y H Q=>∃l b xs zs,x=.ref l/\y=.ref b/\H l=some (.lst xs)/\H b=some (.lst zs)/\xs.length+zs.length<=sizeLine/\∀p,H p=none->Q (.ref p) (fN H p (.lst (xs++zs)))
theorem j3:jp X (binaryOp .Add) O1:=by
 intro fM s σ H x y v u Q I rx ry h;obtain⟨l,b,xs,zs,rfl,rfl,hH,hB,hz,q⟩:=h;cases rx;cases ry;obtain⟨z,fV,n,r,hl,e⟩:=I.wB hH;obtain⟨z2,pS,n2,r2,ph,e2⟩:=I.wB hB;refine PySem.P.add_list e e2 ?_ (by rw[aR,aR];omega);have ea:fV.toArray++pS.toArray=(fV++pS).toArray:=by simp
 rw[ea];exact⟨.ref _,_,I.O0 (t':=s.toks) (r.append r2) (by rw[ag];omega),Z,q _ I.fresh⟩
def aba:R2:=fun x y H Q=>∃l k xs,x=.ref l/\y=.int k/\H l=some (.lst xs)/\ -(2^63)<=k/\k<2^63/\xs.length*k.toNat<=sizeLine/\
 ∀p,H p=none->Q (.ref p) (fN H p (.lst (List.replicate k.toNat xs).flatten))
theorem Yh{α:Type}(xs:List α)(k:Nat):(List.replicate k xs).flatten.length=k*xs.length:=by
 induction k with
 |zero=>simp
 |succ k ih=>rw[bN,cu,ag,ih,eu,Nat.add_comm]
theorem Ba:jp X (binaryOp .Mult) aba:=by
 intro fM s σ H x y v u Q I rx ry h;obtain⟨l,k,xs,rfl,rfl,hH,h1,h2,hz,q⟩:=h;cases rx;obtain⟨t,rfl⟩:=ry;obtain⟨z,fV,n,r,hl,e⟩:=I.wB hH;have j7:fV.toArray.size*k.toNat<=sizeLine:=by rw[aR,<-hl];exact hz
 have abb:¬fV.toArray.size*k.toNat>(2^63-1)/8:=by
  have:(sizeLine:Nat)<=(2^63-1)/8:=by decide
  omega
 have sR:¬(!Builtin.List.listFitsIndex k)=true:=by
  rw[fitsIndex_both h1 h2];exact aQ
 have G0:¬Builtin.List.listTooLong (fV.toArray.size*k.toNat)=true:=by
  rw[MM j7];exact aQ
 have yz:List.foldl (fun x1 x2=>x1++x2) #[] (List.replicate (if fV.toArray.isEmpty=true then 0 else k.toNat) fV.toArray)=(List.replicate k.toNat fV).flatten.toArray:=by
  have f0:∀m:Nat,List.foldl (fun x1 x2=>x1++x2) #[] (List.replicate m fV.toArray)=(List.replicate m fV).flatten.toArray:=fun m=>by
   have:=foldl_rep fV m [];rw[List.nil_append] at this;exact this
  rw[f0];cases fV with
  |nil=>simp
  |cons a r'=>rw[am (by simp)]
 refine wpAny_binaryOp_repeat_ref (T:="list") (U:="int") (by decide) ⟨_,e,Z⟩ (fun s'=>typeIs_int s' k t) noFill_list_mul F.fills_int_mul F.slot_int_rmul repeat_list F.slot_int_index.lookup
  (call_meets F.slot_int_rmul (typeIs_int s k t) F.entry_int_rmul (F.args_int_rmul_2 _ _) (int___rmul___int_list k t l fV.toArray n)
    ⟨e,Z,⟨_,e,Z⟩,call_meets F.slot_list_mul ⟨_,e,Z⟩ F.entry_list_mul (F.args_list_mul_2 _ _) (AutoListH.list___mul___list_int_3 l fV.toArray n k t sR abb G0) ⟨e,?_⟩⟩)
 rw[yz];exact⟨.ref _,_,I.O0 (t':=s.toks) (r.rep k.toNat) (by rw[Yh,Nat.mul_comm];exact hz),Z,q _ I.fresh⟩
end
section
variable {prog:Program} {w:World} {A:Around} {E:Value->Shared->Prop} {s:Shared}
set_option maxRecDepth 100000 in
end
theorem gG.ints:∀{ns:List Int} {us:List Value},gG (ns.map V.int) us->IntsAre us ns
 |[],us,h=>by
  rw[cg] at h;cases h;exact IntsAre.nil
 |n::ns,us,h=>by
  rw[aB] at h;cases h with
  |cons r t=>
   obtain⟨k,rfl⟩:=r;exact IntsAre.cons n k (gG.ints t)
theorem gG.HM:∀{bs:List Bool} {us:List Value},gG (bs.map V.bl) us->us=bs.map Value.bool
 |[],us,h=>by
  rw[cg] at h;cases h;rfl
 |b::bs,us,h=>by
  rw[aB] at h;cases h with
  |cons r t=>
   cases r;rw[gG.HM t,aB]
theorem gG.yA{a:Addr}{us:List Value}(r:gG [V.ref a] us):us=[Value.ref a]:=by
 cases r with
 |cons r t=>
  cases t;cases r;rfl
theorem MN{prog:Program}{w:World}{A:Around}{E:Value->Shared->Prop}{s:Shared}{l:Addr}{items:Array Value}{Q:Value->Shared->Prop}(hl:s.heap.IsList l items)
 (h:∀jN:Shared,jN={s with heap:=s.heap.push {cls:=.type "list_iterator",data:=.fields #[.ref l,.int 0 0]}}->
   (jN.heap.IsListIter s.heap.objs.size l 0/\jN.heap.IsList l items)->l≠s.heap.objs.size->Q (.ref s.heap.objs.size) jN):wpAny (model prog w) A (pyIter (.ref l)) Q E s:=by
 have ia:l<s.heap.objs.size:=by obtain⟨_,e,_⟩:=hl;exact aK e
 exact dW hl (h _ Z ⟨⟨_,aO _ Z,Z,Z⟩,hl.push _⟩ (ba ia))
theorem KQ{prog:Program}{w:World}{A:Around}{bs:List Bool}{fV:List Value}(e:fV=bs.map Value.bool):
 TruthOf prog w A (fun i v=>fV.toArray[i]? =some v) (fun i=>bs.getD i false):=fun i v s Q E hv hq=>by
 have BU:fV[i]? =some v:=by simpa using hv
 rw[e,au] at BU;obtain⟨b,hb,rfl⟩:=Option.map_eq_some_iff.mp BU;have hg:bs.getD i false=b:=by rw[aE,hb]<;>rfl
 have tm:Q (bs.getD i false) s:=hq;rw[hg] at tm;exact bR tm
theorem any_range:∀bs:List Bool,(List.range bs.length).any (fun i=>bs.getD i false)=bs.any id
 |[]=>rfl
 |b::bs=>by
  rw[aj,bS,dv,fi,dv,<-any_range bs]
  all_goals rfl
theorem all_range:∀bs:List Bool,(List.range bs.length).all (fun i=>bs.getD i false)=bs.all id
 |[]=>rfl
 |b::bs=>by
  rw[aj,bS,cR,dq,cR,<-all_range bs]
  all_goals rfl
section
variable {X:Cx}
def abc(K:PySem.W.Frag):List V->Hp->VK->Prop:=fun vs H Q=>∃(a:Addr) (bs:List Bool),vs=[V.ref a]/\fS K H a (bs.map V.bl)/\Q (.bl (bs.any id)) H
def abd(K:PySem.W.Frag):List V->Hp->VK->Prop:=fun vs H Q=>∃(a:Addr) (bs:List Bool),vs=[V.ref a]/\fS K H a (bs.map V.bl)/\Q (.bl (bs.all id)) H
theorem Zq(hc:X.calm=true):mQ X (.builtin "any") (abc X.K):=by
 intro fM s σ H vs us Q I r h;obtain⟨a,bs,rfl,hs,q⟩:=h;obtain⟨fV,rv,hl,_⟩:=I.list hs;rw[gG.yA r];have hb:=rv.HM;refine call_any_walk (MN hl.isList fun jN e2 st lp=> ?_);subst e2;refine⟨_,_,_,_,_,_,_,Z,Walks.list (A:=X.A.in1) (I.ok.hd hc) _ a lp fV.toArray,st,KQ hb,fun h' tk hk=> ?_⟩;refine⟨.bl _,H,I.kept fun b o eo=>hk b o (fun uX=> ?_) (aC _ eo),?_,q⟩
 ·rcases az.mp uX with e1|uX
  ·exact absurd (e1▸aK eo) (bM _)
  ·cases uX
 ·show Value.bool _=Value.bool _;rw[<-any_range,hb,aR,ac]
theorem yn(hc:X.calm=true):mQ X (.builtin "all") (abd X.K):=by
 intro fM s σ H vs us Q I r h;obtain⟨a,bs,rfl,hs,q⟩:=h;obtain⟨fV,rv,hl,_⟩:=I.list hs;rw[gG.yA r];have hb:=rv.HM;refine call_all_walk (MN hl.isList fun jN e2 st lp=> ?_);subst e2;refine⟨_,_,_,_,_,_,_,Z,Walks.list (A:=X.A.in1) (I.ok.hd hc) _ a lp fV.toArray,st,KQ hb,fun h' tk hk=> ?_⟩;refine⟨.bl _,H,I.kept fun b o eo=>hk b o (fun uX=> ?_) (aC _ eo),?_,q⟩
 ·rcases az.mp uX with e1|uX
  ·exact absurd (e1▸aK eo) (bM _)
  ·cases uX
 ·show Value.bool _=Value.bool _;rw[<-all_range,hb,aR,ac]
end
mutual
inductive Dp(K:PySem.W.Frag)(H:Hp):V->PyData->Prop
 |gT:Dp K H .gT .none
 |bl (b:Bool):Dp K H (.bl b) (.bool b)
 |int (i:Int):Dp K H (.int i) (.int i)
 |str (x:Str):Dp K H (.str x) (.str x)
 |lst {a:Addr} {xs:List V} {ds:List PyData}:fS K H a xs->uK K H xs ds->Dp K H (.ref a) (.list ds)
 |tup {a:Addr} {xs:List V} {ds:List PyData}:iO K H a xs->uK K H xs ds->Dp K H (.ref a) (.tuple ds)
inductive uK(K:PySem.W.Frag)(H:Hp):List V->List PyData->Prop
 |nil:uK K H [] []
 |cons {v:V} {vs:List V} {d:PyData} {ds:List PyData}:Dp K H v d->uK K H vs ds->uK K H (v::vs) (d::ds)
end
section
variable {X:Cx} {fM:List (Addr×Obj)} {σ:St} {H:Hp} {s:Shared}
mutual
theorem Dp.reads(I:Inv X fM σ H s):∀(d:PyData) (v:V) (u:Value),Dp X.K H v d->RelV v u->∃as,Reads s.heap u d as
 |.none,_,_,h,r=>by
  cases h;cases r;exact⟨_,Reads.none⟩
 |.bool b,_,_,h,r=>by
  cases h;cases r;exact⟨_,Reads.bool b⟩
 |.int i,_,_,h,r=>by
  cases h;obtain⟨t,rfl⟩:=r;exact⟨_,Reads.int i t⟩
 |.str x,_,_,h,r=>by
  cases h;obtain⟨t,rfl⟩:=r;exact⟨_,Reads.str x t⟩
 |.list ds,_,_,h,r=>by
  cases h with
  |lst hs ha=>
   cases r;obtain⟨fV,rv,⟨o,n,ho,hc,_,hd⟩,_⟩:=I.list hs;obtain⟨as,hr⟩:=Dp.readsAll I ds _ fV ha rv;exact⟨_,Reads.list ho hc hd hr⟩
 |.tuple ds,_,_,h,r=>by
  cases h with
  |tup hs ha=>
   cases r;obtain⟨fV,rv,⟨o,ho,hc,n,hd⟩,_⟩:=I.tuple hs;obtain⟨as,hr⟩:=Dp.readsAll I ds _ fV ha rv;exact⟨_,Reads.tuple ho hc hd hr⟩
 |.dict _,_,_,h,_=>by cases h
theorem Dp.readsAll(I:Inv X fM σ H s):∀(ds:List PyData) (vs:List V) (us:List Value),uK X.K H vs ds->gG vs us->∃as,ReadsAll s.heap us ds as
 |[],_,_,h,r=>by
  cases h;cases r;exact⟨_,ReadsAll.nil⟩
 |d::ds,_,_,h,r=>by
  cases h with
  |cons h1 h2=>
   cases r with
   |cons r1 r2=>
    obtain⟨as,q1⟩:=Dp.reads I d _ _ h1 r1;obtain⟨bs,q2⟩:=Dp.readsAll I ds _ _ h2 r2;exact⟨_,ReadsAll.cons q1 q2⟩
end
end
section
variable {X:Cx}
def abe(K:PySem.W.Frag):R2:=fun x y H Q=>∃d e,Dp K H x d/\Dp K H y e/\SeqAt.shaped d=true/\SeqAt.shaped e=true/\Q (.bl (!PyData.eqv d e)) H
theorem Zr(hu:X.A.units+64<cLine):jp X (compareOp .NotEq) (abe X.K):=by
 intro fM s σ H x y v u Q I rx ry h;obtain⟨d,e,hd,he,sd,se,q⟩:=h;obtain⟨as,r1⟩:=Dp.reads I d x v hd rx;obtain⟨bs,r2⟩:=Dp.reads I e y u he ry;exact SeqAt.compareNe_shaped r1 r2 sd se hu ⟨.bl _,H,I,Z,q⟩
end
abbrev Od(h:Heap)(c:Addr)(v:Option Value):Prop:=h.IsCell c v
def abf(scope sc:Scope):Scope:=
 {scope with names:=scope.names.map fun(n,k)=>if (k==.free&&sc.kind==.function&&sc.names.lookup n==some .cell) then(n,.cell) else(n,k)}
def kQ(cells:List (Str×Addr)):List (Str×NameKind)->List (Str×Addr)->List (Str×Addr)
 |[],acc=>acc
 |(n,k)::r,acc=>if k==.free then kQ cells r ((n,(cells.lookup n).getD 0)::acc) else kQ cells r acc
theorem Kp(env:Env)(f:Str×NameKind->List (Str×Addr)->Sem (ForInStep (List (Str×Addr))))
 (hf:∀n k c,f (n,k) c=if k==.free then(do let a<-cellOf env n;pure (.yield ((n,a)::c))) else pure (.yield c)):
 ∀(names:List (Str×NameKind)) (acc:List (Str×Addr)),(∀y∈names,y.2=.free->∃c,env.cells.lookup y.1=some c)->forIn names acc f=pure (kQ env.cells names acc)
 |[],acc,_=>by rw[List.forIn_nil];rfl
 |(n,k)::r,acc,h=>by
  rw[List.forIn_cons,hf];have ih:=fun acc=>Kp env f hf r acc fun y hy=>h y (aX _ hy)
  unfold kQ
  by_cases hk:(k==NameKind.free)=true
  ·rw[aw hk,aw hk];obtain⟨c,hc⟩:=h (n,k) bx (by simpa using hk);have e:cellOf env n=pure c:=by unfold cellOf;rw[hc]
   rw[e];have e2:(env.cells.lookup n).getD 0=c:=by rw[hc];rfl
   rw[e2];exact ih _
  ·rw[am hk,am hk];exact ih _
theorem Vi{scope:Scope}{env:Env}(h:∀y∈scope.names,y.2=.free->∃c,env.cells.lookup y.1=some c):closureFor scope env=pure (kQ env.cells scope.names []):=by
 simp only[closureFor];rw[Kp env _ (fun n k c=>rfl) scope.names [] h];rfl
theorem mem_lookup{α:Type}:∀{l:List (Str×α)} {n:Str} {c:α},(n,c)∈l->∃c',l.lookup n=some c'
 |(k,v)::r,n,c,h=>by
  rw[cU];cases hb:n==k with
  |true=>exact⟨_,Z⟩
  |false=>
   rcases az.mp h with e|h
   ·cases e;simp at hb
   ·exact mem_lookup h
theorem zX{cells:List (Str×Addr)}:∀{names:List (Str×NameKind)} {acc:List (Str×Addr)} {n:Str} {c:Addr},(n,c)∈kQ cells names acc->(n,c)∈acc\/((n,.free)∈names/\c=(cells.lookup n).getD 0)
 |[],_,_,_,h=>.inl h
 |(m,k)::r,acc,n,c,h=>by
  unfold kQ at h;split at h
  ·rename_i hk;have hk:k=.free:=by simpa using hk
   rcases zX h with h|⟨h1,h2⟩
   ·rcases az.mp h with e|h
    ·cases e;exact .inr ⟨hk▸bx,Z⟩
    ·exact .inl h
   ·exact .inr ⟨aX _ h1,h2⟩
  ·rcases zX h with h|⟨h1,h2⟩
   ·exact .inl h
   ·exact .inr ⟨aX _ h1,h2⟩
theorem Eg{cells:List (Str×Addr)}:∀{names:List (Str×NameKind)} {acc:List (Str×Addr)} {p:Str×Addr},p∈acc->p∈kQ cells names acc
 |[],_,_,h=>h
 |(m,k)::r,acc,p,h=>by
  unfold kQ;split
  ·exact Eg (aX _ h)
  ·exact Eg h
theorem Eh{cells:List (Str×Addr)}:∀{names:List (Str×NameKind)} {acc:List (Str×Addr)} {n:Str},(n,.free)∈names->(n,(cells.lookup n).getD 0)∈kQ cells names acc
 |(m,k)::r,acc,n,h=>by
  unfold kQ;rcases az.mp h with e|h
  ·cases e;exact Eg bx
  ·split
   ·exact Eh h
   ·exact Eh h
theorem x8:∀{names:List (Str×NameKind)} {h:Heap} {acc:List (Str×Addr)} {x:Str} {c:Addr},(x,c)∈cellsFrom h.objs.size names acc->
 (x,c)∈acc\/((x,.cell)∈names/\h.objs.size<=c/\Od (pushCells h names) c none)
 |[],_,_,_,_,h=>.inl h
 |(n,k)::r,h,acc,x,c,hm=>by
  unfold cellsFrom at hm;unfold pushCells;split at hm
  ·rename_i hk;rw[aw hk];have hk:k=.cell:=by simpa using hk
   rw[<-bz h {cls:=.type "cell",data:=.cell none}] at hm;rcases x8 hm with hm|⟨h1,h2,h3⟩
   ·rcases az.mp hm with e|hm
    ·cases e;exact .inr ⟨hk▸bx,aA _,_,pushCells_keeps r _ _ _ (aO _ Z),Z⟩
    ·exact .inl hm
   ·rw[bz] at h2;exact .inr ⟨aX _ h1,fj h2,h3⟩
  ·rename_i hk;rw[am hk];rcases x8 hm with hm|⟨h1,h2,h3⟩
   ·exact .inl hm
   ·exact .inr ⟨aX _ h1,h2,h3⟩
theorem Aj:∀{names:List (Str×NameKind)} {n:Nat} {acc:List (Str×Addr)} {p:Str×Addr},p∈acc->p∈cellsFrom n names acc
 |[],_,_,_,h=>h
 |(m,k)::r,n,acc,p,h=>by
  unfold cellsFrom;split
  ·exact Aj (aX _ h)
  ·exact Aj h
theorem Ff:∀{names:List (Str×NameKind)} {n:Nat} {acc:List (Str×Addr)} {x:Str},(x,.cell)∈names->∃c,(x,c)∈cellsFrom n names acc
 |(m,k)::r,n,acc,x,h=>by
  unfold cellsFrom;rcases az.mp h with e|h
  ·cases e;exact⟨n,Aj bx⟩
  ·split
   ·exact Ff h
   ·exact Ff h
theorem Fg:∀{names:List (Str×NameKind)} {h:Heap} {acc:List (Str×Addr)} {x y:Str} {c:Addr},(∀p∈acc,p.2<h.objs.size)->(∀x y c,(x,c)∈acc->(y,c)∈acc->x=y)->
 (x,c)∈cellsFrom h.objs.size names acc->(y,c)∈cellsFrom h.objs.size names acc->x=y
 |[],_,_,_,_,_,_,hi,h1,h2=>hi _ _ _ h1 h2
 |(n,k)::r,h,acc,x,y,c,hl,hi,h1,h2=>by
  unfold cellsFrom at h1 h2;split at h1
  ·rename_i hk;rw[aw hk] at h2;rw[<-bz h {cls:=.type "cell",data:=.cell none}] at h1 h2;refine Fg (h:=h.push _) (fun p hp=> ?_) (fun x y c a b=> ?_) h1 h2
   ·rw[bz];rcases az.mp hp with rfl|hp
    ·exact Nat.lt_succ_self _
    ·exact dU (hl p hp)
   ·rcases az.mp a with e|a<;>rcases az.mp b with e'|b
    ·cases e;cases e';rfl
    ·cases e;exact absurd (hl _ b) (bM _)
    ·cases e';exact absurd (hl _ a) (bM _)
    ·exact hi _ _ _ a b
  ·rename_i hk;rw[am hk] at h2;exact Fg hl hi h1 h2
theorem UA{M:Model}{A:Around}{E:Value->Shared->Prop}{s:Shared}{scope:Scope}{globals:Addr}{closure:List (Str×Addr)}{qual:Str}{func:Option Addr}{code:Value}{Oe:Env}{builtins:Addr}{Q:Env->Shared->Prop}
 (h:Q (newEnv scope s.heap.objs.size globals (cellsFrom (s.heap.objs.size+1) scope.names closure) qual func code (some Oe) builtins)
   {s with heap:=pushCells (s.heap.push {cls:=.type "dict",data:=.dict #[]}) scope.names}):
 wpAny M A (newFunctionEnv scope globals closure [] qual func code (some Oe) builtins) Q E s:=by
 simp only[newFunctionEnv,Option.isSome_some,dA];refine ay (wpAny_alloc ?_);refine ay (wpAny_layCells _ (fun n k c=>rfl) scope.names closure _ _ ?_);rw[show({s with heap:=s.heap.push {cls:=.type "dict",data:=.dict #[]}}:Shared).heap.objs.size=s.heap.objs.size+1 from bz ..];rw[List.forIn_nil];exact ay (aY (aY h))
theorem Ei{sc:Scope}:∀{names:List (Str×NameKind)} {x:Str} {k:NameKind},
 (names.map fun(n,k)=>if (k==NameKind.free&&sc.kind==.function&&sc.names.lookup n==some .cell) then(n,NameKind.cell) else(n,k)).lookup x=some k->
 ∃k',names.lookup x=some k'/\(k=k'\/(k'=.free/\k=.cell))
 |[],_,_,h=>by simp at h
 |(n,yB)::r,x,k,h=>by
  have ih:= @Ei sc r x k;have h':List.lookup x ((if (yB==NameKind.free&&sc.kind==.function&&sc.names.lookup n==some .cell)=true then(n,NameKind.cell) else(n,yB))::(r.map _))=some k:=h;cases hx:x==n with
  |true=>
   simp only[cU,hx]
   by_cases hc:(yB==NameKind.free&&sc.kind==.function&&sc.names.lookup n==some .cell)=true
   ·rw[aw hc] at h';simp only[cU,hx] at h';cases h';simp only[aH,ci] at hc;exact⟨yB,Z,.inr ⟨hc.1.1,Z⟩⟩
   ·rw[am hc] at h';simp only[cU,hx] at h';cases h';exact⟨_,Z,.inl Z⟩
  |false=>
   simp only[cU,hx]
   by_cases hc:(yB==NameKind.free&&sc.kind==.function&&sc.names.lookup n==some .cell)=true
   ·rw[aw hc] at h';simp only[cU,hx] at h';exact ih h'
   ·rw[am hc] at h';simp only[cU,hx] at h';exact ih h'
structure yq(N:List Str)(sc scope:Scope)(own:List (Str×Nat)):Prop where
 kind:scope.kind=.function
 yC:∀y∈scope.names,scope.names.lookup y.1=some y.2
 ix:∀p∈own,N[p.2]? =some p.1
 free:∀y∈scope.names,y.2=.free->sc.names.lookup y.1=some .cell\/sc.names.lookup y.1=some .free
 own:∀y∈scope.names,y.2=.local\/y.2=.cell->y.1∈own.map (·.1)\/y.1∉N
def iB(σ:St):List Nat->St
 |[]=>σ
 |v::vs=>(iB σ vs).set v none
theorem Ej(σ:St):∀vs:List Nat,(iB σ vs).length=σ.length
 |[]=>rfl
 |v::vs=>by unfold iB;rw[List.length_set,Ej σ vs]
theorem Fh{σ:St}{i:Nat}{x:V}:∀{vs:List Nat},(iB σ vs)[i]? =some (some x)->σ[i]? =some (some x)/\i∉vs
 |[],h=>⟨h,by simp⟩
 |v::vs,h=>by
  unfold iB at h
  by_cases hi:v=i
  ·subst hi
   by_cases hv:v<(iB σ vs).length
   ·rw[dG hv] at h;cases h
   ·rw[bA (by simpa using hv)] at h;cases h
  ·rw[d8 hi] at h;obtain⟨h1,h2⟩:=Fh h;exact⟨h1,by simp only[az,not_or];exact⟨fun e=>hi e.symm,h2⟩⟩
abbrev Cx.lN(X:Cx)(s:Shared)(H:Hp)(scope:Scope)(jE:Env)(fp:List Addr):Cx:={X with kX:=s,u5:=H,env:=jE,outer:=X.stack,ex:=fp,fn:=fun x=>scope.names.lookup x==some .cell,pn:=[],xe:=fun _ _=>False}
section
variable {X:Cx} {fM:List (Addr×Obj)} {σ:St} {H:Hp} {s:Shared}
theorem UB{scope:Scope}{own:List (Str×Nat)}{fp:List Addr}(I:Inv X fM σ H s)(ok:yq X.N X.env.scope scope own)(hN:X.N.Nodup)(tD:∀b∈fp,oR X fM H b/\b<s.heap.objs.size):
 Inv (X.lN s H scope (compEnvC scope (cellsFrom (s.heap.objs.size+1) scope.names (kQ X.env.cells scope.names [])) s.heap.objs.size X.env) fp) [] (iB σ (own.map (·.2))) H {s with heap:=pushCells (s.heap.push {cls:=.type "dict",data:=.dict #[]}) scope.names}:=by
 have wc:∀y∈scope.names,y.2=.free->∃c,X.env.cells.lookup y.1=some c:=fun y hy e=>by
  rcases ok.free y hy e with k|k
  ·exact I.ok.has _ (.inl k)
  ·exact I.ok.has _ (.inr k)
 generalize yr:compEnvC scope (cellsFrom (s.heap.objs.size+1) scope.names (kQ X.env.cells scope.names [])) s.heap.objs.size X.env=jE;have kp:∀b o,s.heap.get? b=some o->(pushCells (s.heap.push {cls:=.type "dict",data:=.dict #[]}) scope.names).get? b=some o:=fun b o e=>pushCells_keeps _ _ _ _ (aC _ e)
 have hL:jE.locals=s.heap.objs.size:=by rw[<-yr];rfl
 have mq:jE.cells=cellsFrom (s.heap.objs.size+1) scope.names (kQ X.env.cells scope.names []):=by rw[<-yr];rfl
 have HN:jE.scope=abf scope X.env.scope:=by rw[<-yr];rfl
 rw[<-bz s.heap {cls:=.type "dict",data:=.dict #[]}] at mq
 have cm:∀{y c},(y,c)∈kQ X.env.cells scope.names []->X.env.cells.lookup y=some c/\c<s.heap.objs.size:=fun{y c} hm=>by
  rcases zX hm with hm|⟨h1,rfl⟩
  ·cases hm
  ·obtain⟨c,hc⟩:=wc _ h1 Z;rw[hc];obtain⟨w,z⟩:=I.cell _ _ hc;exact⟨Z,z.lt⟩
 have mem:∀{y c},jE.cells.lookup y=some c->(X.env.cells.lookup y=some c/\c<s.heap.objs.size)\/(s.heap.objs.size+1<=c/\Od (pushCells (s.heap.push {cls:=.type "dict",data:=.dict #[]}) scope.names) c none):=fun{y c} e=>by
  rw[mq] at e;rcases x8 (bf e) with hm|⟨_,h2,h3⟩
  ·exact .inl (cm hm)
  ·rw[bz] at h2;exact .inr ⟨h2,h3⟩
 have look:∀{y},scope.names.lookup y=some .free->∃c,jE.cells.lookup y=some c/\X.env.cells.lookup y=some c:=fun{y} hl=>by
  have hy:(y,NameKind.free)∈scope.names:=bf hl;obtain⟨c',e'⟩:=mem_lookup (Aj (names:=scope.names) (n:=(s.heap.push {cls:=.type "dict",data:=.dict #[]}).objs.size) (Eh (cells:=X.env.cells) (acc:=[]) hy));rw[<-mq] at e';refine⟨c',e',?_⟩;rw[mq] at e';rcases x8 (bf e') with hm|⟨h1,_,_⟩
  ·exact(cm hm).1
  ·have:=ok.yC _ h1;rw[hl] at this;cases this
 have okB:(X.lN s H scope jE fp).Ok:=by
  refine⟨I.ok.mod,by show jE.scope.kind=_;rw[HN];exact ok.kind,by show jE.globals=_;rw[<-yr];exact I.ok.glob,by show jE.builtins=_;rw[<-yr];exact I.ok.blt,by show s.heap.objs.size<=jE.locals;rw[hL];exact aA _,
   fun y z c e1 e2=> ?_,fun y hy=> ?_,fun y c z e=> ?_,I.ok.hd,I.ok.frames,.inl Z,fun b hb=>⟨?_,fun y c e z=> ?_⟩,I.bs,a8 I.ok.pV I.sz,fun b o e hb=> ?_,fun b hb z=> ?_,I.stack,I.uw⟩
  ·have e1:jE.cells.lookup y=some c:=e1;have e2:jE.cells.lookup z=some c:=e2;rw[mq] at e1 e2;refine Fg (fun p hp=> ?_) (fun y z c a b=>I.ok.inj y z c (cm a).1 (cm b).1) (bf e1) (bf e2);rw[bz];exact dU (cm (y:=p.1) (c:=p.2) hp).2
  ·show∃c,jE.cells.lookup y=some c
   have key:∀k,jE.kindOf y=some k->(k=.cell\/k=.free)->∃c,jE.cells.lookup y=some c:=fun k hk vd=>by
    unfold Env.kindOf at hk;rw[HN] at hk;obtain⟨k',e,r⟩:=Ei hk
    have:k'=.cell\/k'=.free:=by
     rcases r with rfl|⟨rfl,_⟩
     ·exact vd
     ·exact .inr Z
    rcases this with rfl|rfl
    ·obtain⟨c,hm⟩:=Ff (n:=(s.heap.push {cls:=.type "dict",data:=.dict #[]}).objs.size) (acc:=kQ X.env.cells scope.names []) (bf e);obtain⟨c',e'⟩:=mem_lookup hm;exact⟨c',by rw[mq];exact e'⟩
    ·obtain⟨c,h1,_⟩:=look e;exact⟨c,h1⟩
   rcases hy with hy|hy
   ·exact key _ hy (.inl Z)
   ·exact key _ hy (.inr Z)
  ·have z:(scope.names.lookup y==some NameKind.cell)=true:=z;have z:scope.names.lookup y=some .cell:=by simpa using z
   have e:jE.cells.lookup y=some c:=e;rw[mq] at e;rcases x8 (bf e) with hm|⟨_,h2,_⟩
   ·rcases zX hm with hm|⟨h1,_⟩
    ·cases hm
    ·have q:=ok.yC _ h1;rw[z] at q;cases q
   ·rw[bz] at h2;exact fj h2
  ·show b≠jE.locals;rw[hL];exact ba (tD b hb).2
  ·have e:jE.cells.lookup y=some c:=e;rcases mem e with⟨h1,_⟩|⟨h1,_⟩
   ·exact(tD b hb).1.2.2.2.2.1 y c h1 z
   ·have h2:s.heap.objs.size+1<=b:=by rw[<-z];exact h1
    exact absurd (aU (tD b hb).2 (fj h2)) (bM _)
  ·rcases(tD b hb).1.2.2.2.1 with z|z
   ·exact I.ok.ww b o e z
   ·exact absurd (aU (aK e) (a8 I.ok.pV z)) (bM _)
  ·rcases az.mp (I.GH b z) with z|z
   ·exact(tD b hb).1.2.1 z
   ·exact(tD b hb).1.2.2.1 z
 refine⟨okB,Z,I.bare,Un.kept kp,⟨fun _=>none,?_,fun i y av e1 e2 e3=> ?_⟩,fun y c e=> ?_,?_,fun y c e=> ?_,fun p hp=> ?_,I.gj.kept kp,by rw[Ej];exact I.len⟩
 ·show Heap.Ns _ jE.locals _;rw[hL];exact Heap.Ns.keeps (Heap.Ns.new ..) fun b o e=>pushCells_keeps _ _ _ _ e
 ·obtain⟨e2,lp⟩:=Fh e2
  have jz:scope.names.lookup y=some .free/\(jE.kindOf y=some .cell\/jE.kindOf y=some .free):=by
   have key:∀k,jE.scope.names.lookup y=some k->k=.local\/k=.cell\/k=.free->scope.names.lookup y=some .free/\(jE.kindOf y=some .cell\/jE.kindOf y=some .free):=fun k hk vd=>by
    have wU:=hk;rw[HN] at hk;obtain⟨k',e,r⟩:=Ei hk
    have no:¬(k'=.local\/k'=.cell):=fun hh=>by
     rcases ok.own _ (bf e) hh with e'|e'
     ·obtain⟨p,hp,hpy⟩:=bi.mp e';have e3:=ok.ix p hp;have:p.1=y:=hpy;rw[this] at e3;exact lp (bi.mpr ⟨p,hp,Av hN e3 e1⟩)
     ·exact e' (aS e1)
    rcases r with rfl|⟨rfl,rfl⟩
    ·rcases vd with rfl|rfl|rfl
     ·exact absurd (.inl Z) no
     ·exact absurd (.inr Z) no
     ·exact⟨e,.inr wU⟩
    ·exact⟨e,.inl wU⟩
   have e3:wO jE.scope y:=e3;rcases e3 with e3|e3|e3
   ·exact key _ e3 (.inl Z)
   ·exact key _ e3 (.inr (.inl Z))
   ·exact key _ e3 (.inr (.inr Z))
  obtain⟨m,hn,hl⟩:=I.loc;have abg:wO X.env.scope y:=(ok.free _ (bf jz.1) Z).elim (fun k=>.inr (.inl k)) (fun k=>.inr (.inr k));obtain⟨w,r,q⟩:=hl i y av e1 e2 abg;refine⟨w,r,.inr ⟨jz.2,?_⟩⟩;obtain⟨c,h1,h2⟩:=look jz.1;rcases q with⟨k,_⟩|⟨_,c',e',z⟩
  ·have k:X.env.scope.names.lookup y=some .local:=k;rcases ok.free _ (bf jz.1) Z with k'|k'<;>rw[show X.env.scope.names.lookup y=_ from k'] at k<;>cases k
  ·rw[h2] at e';cases e';exact⟨c,h1,z.keeps kp⟩
 ·have e:jE.cells.lookup y=some c:=e;rcases mem e with⟨h1,_⟩|⟨_,z⟩
  ·obtain⟨w,z⟩:=I.cell y c h1;exact⟨w,z.keeps kp⟩
  ·exact⟨_,z⟩
 ·show H jE.locals=none;rw[hL];exact I.gj.fresh (aA _)
 ·have e:jE.cells.lookup y=some c:=e;rcases mem e with⟨h1,_⟩|⟨h1,_⟩
  ·exact I.mP y c h1
  ·exact I.gj.fresh (fj h1)
 ·exact absurd (show p∈([]:List (Addr×Obj))++[] from hp) (by simp)
theorem Zs{E:Value->Shared->Prop}{D:Addr}{xs:List V}{y:V}{v:Value}{Q:Value->Shared->Prop}(I:Inv X fM σ H s)(hD:H D=some (.lst xs))(hz:xs.length<sizeLine)(r:RelV y v)
 (h:∀s',Inv X fM σ (fN H D (.lst (xs++[y]))) s'->Q .none s'):wpAny (model X.prog X.w) X.A (call (.builtin "list.append") [.ref D,v]) Q E s:=by
 obtain⟨hz',fV,n,ri,e⟩:=I.gj D _ hD;have hl:=ri.length;refine append_at (hsz:=by rw[aR];omega) e fun h' sb nD=> ?_
 refine h {s with heap:=h'} (I.write (t':=s.toks) (by rw[hD];trivial) (.inl Z) (fun b u hb q=>(sb.2 b hb).trans q) ⟨_,nD⟩ ⟨by rw[ag];exact hz,fV++[v],n+1,ri.append (.cons r .nil),?_⟩);rw[nD];simp
def yN(X:Cx)(lO:List Expr)(t:TT):Prop:=
 ∀(fM:List (Addr×Obj)) (s:Shared) (σ:St) (H:Hp) (Q:Bool->Hp->Prop),Inv X fM σ H s->t σ H Q->
  wpAny (model X.prog X.w) X.A (forIn lO true fun c r=>if r=true then do let ok<-isTrue c X.env (eval c X.env);pure (ForInStep.yield ok) else pure (ForInStep.yield r)) (TP X fM σ Q) X.xe s
def abh:TT:=fun _ H Q=>Q true H
theorem me:yN X [] abh:=fun _ _ _ H _ I h=>wpAny_tests_nil ⟨H,I,h⟩
theorem Nt{c:Expr}{t:TT}(h:PT X c t):yN X [c] t:=fun fM s σ H Q I hw=>wpAny_tests_one (h fM s σ H Q I hw)
end
theorem wC{α:Type}{t:Sem α}{Q Q':α->Shared->Prop}{M:Model}{A:Around}{E:Value->Shared->Prop}{s:Shared}(h:wpAny M A t Q (fun _ _=>False) s)(hQ:∀a s,Q a s->Q' a s):wpAny M A t Q' E s:=bF h hQ fun _ _ z=>False.elim z
theorem TY{prog:Program}{w:World}{A:Around}{R:Result->Shared->Prop}{s:Shared}{l7 vV jT:Expr}{lO:List Expr}{scope:Scope}{pos:Pos}{it acc:Value}{env:Env}(I:Nat->Shared->Prop)
 (uT:∀n s,I n s->wpAny (model prog w) A (pyNext it) (fun r iL=>match r with
   |none=>R (.ok .next) iL
   |some v=>wpAny (model prog w) A (letOwnedTupleGo vV it v) (fun _ Ow=>wpAny (model prog w) A (assign vV env v) (fun _ jN=>
    wpAny (model prog w) A (forIn lO true fun c r=>if r=true then do let ok<-isTrue c env (eval c env);pure (ForInStep.yield ok) else pure (ForInStep.yield r)) (fun ok sQ=>
     if ok=true then wpAny (model prog w) A (eval l7 env) (fun x O2=>
      wpAny (model prog w) A (call (.builtin "list.append") [acc,x]) (fun _ O3=>∃m,m<n/\I m O3) (notedBy (model prog w) A env fun e s'=>R (.error e) s') O2) (notedBy (model prog w) A env fun e s'=>R (.error e) s') sQ
     else∃m,m<n/\I m sQ) (notedBy (model prog w) A env fun e s'=>R (.error e) s') jN) (notedBy (model prog w) A env fun e s'=>R (.error e) s') Ow) (notedBy (model prog w) A env fun e s'=>R (.error e) s') iL) (notedBy (model prog w) A env fun e s'=>R (.error e) s') s)
 (n:Nat) (h:I n s):
 codeAny (model prog w) A (.compLoop (.ListComp l7 [⟨vV,jT,lO,0⟩] scope pos) 0 it acc env) R s:=by
 refine codeAny_loop Z I (fun n s hI=> ?_) n h;show wpAny _ A ((compTurn (.ListComp l7 [⟨vV,jT,lO,0⟩] scope pos) 0 it acc env).onRaise (fun x=>do noteFrame x env;theTreesLotGoes x)) _ _ s;refine wpAny_noted ?_;rw[compTurn_list];refine ay (dO (ay (bF (uT n s hI) (fun r iL wD=> ?_) fun _ _ h'=>h')));cases r with
 |none=>exact aY wD
 |some v=>
  refine ay (bF wD (fun _ Ow aaj=> ?_) fun _ _ h'=>h');refine ay (bF aaj (fun _ jN yD=>ay (bF yD (fun ok sQ Bz=> ?_) fun _ _ h'=>h')) fun _ _ h'=>h');cases ok with
  |false=>exact aY ⟨Z,Bz⟩
  |true=>
   exact ay (ay (bF Bz (fun x O2 abi=>ay (bF abi (fun _ O3 abj=>aY (aY ⟨Z,abj⟩)) fun _ _ h'=>h')) fun _ _ h'=>h'))
section
variable {X:Cx}
def BX(wi:TI)(g:TG)(tt:TT)(te:TE)(vs:List Nat):TE:=fun σ H Q=>wi σ H fun J H1=>∀D,H1 D=none->∃W:Nat->Nat->Hp->Prop,(∃m,W 0 m (fN H1 D (.lst [])))/\∀i m H,W i m H->
 (J.stop i H/\Q (.ref D) H)\/(J.go i H/\∃Nx:Hp->Prop,(∀H',Nx H'->∃m',m'<m/\W (i+1) m' H')/\∀x H',J.mH i H x H'->g x (iB σ vs) H' fun gw H2=>iB gw vs=iB σ vs/\tt gw H2 fun b H3=>
   if b=true then te gw H3 fun y H4=>∃acc,H4 D=some (.lst acc)/\acc.length<sizeLine/\Nx (fN H4 D (.lst (acc++[y]))) else Nx H3)
theorem Nu{fM:List (Addr×Obj)}{s:Shared}{σ:St}{H:Hp}{Q:VK}{l7 tg jT:Expr}{lO:List Expr}{scope:Scope}{own:List (Str×Nat)}{pos kW:Pos}{wi:TI}{g:TG}{tt:TT}{te:TE}{use:Option (Value->Sem Unit)}{Qf:Value->Shared->Prop}
 (hc:X.calm=true) (hN:X.N.Nodup) (I:Inv X fM σ H s) (hi:PI X tg jT wi) (ok:yq X.N X.env.scope scope own)
 (hg:∀(s:Shared) (H:Hp) (C:Addr) (cl:List (Str×Addr)) (fp:List Addr),PG (X.lN s H scope (compEnvC scope cl C X.env) fp) tg g) (ht:∀(s:Shared) (H:Hp) (C:Addr) (cl:List (Str×Addr)) (fp:List Addr),yN (X.lN s H scope (compEnvC scope cl C X.env) fp) lO tt)
 (he:∀(s:Shared) (H:Hp) (C:Addr) (cl:List (Str×Addr)) (fp:List Addr),PE (X.lN s H scope (compEnvC scope cl C X.env) fp) l7 te) (hs:∀x,foldedSetIterable jT X.env x=pure x)
 (h:BX wi g tt te (own.map (·.2)) σ H Q)
 (hRR:∀D C s' m H',Inv X fM σ H' s'->Q (.ref D) H'->s'.heap.Ns C m->oR X fM H' C->compPost (model X.prog X.w) X.A X.xe use Qf (.ref D) C (.ok .next) s'):
 wpAny (model X.prog X.w) X.A (comprehension (.ListComp l7 [⟨tg,jT,lO,0⟩] scope pos) scope X.env kW (newList []) false (eval jT X.env) use) Qf X.xe s:=by
 have wc:∀y∈scope.names,y.2=.free->∃c,X.env.cells.lookup y.1=some c:=fun y hy e=>by
  rcases ok.free y hy e with k|k
  ·exact I.ok.has _ (.inl k)
  ·exact I.ok.has _ (.inr k)
 refine wpAny_comprehension_free (use:=use) Z hs (Vi wc) ok.kind (fun y hy e=>by rw[ok.yC y hy,e])
  (gn (hi fM s σ H _ I h) fun xv s1 hx=>gn hx fun HE s2 h2=> ?_)
 obtain⟨it,fp,tn,J,H2,e,I2,T,BP,f2,q⟩:=h2;subst e;refine dS (UA ?_) (by show 0<=sizeLine;decide);generalize hD:s2.heap.objs.size=D;have hDn:H2 D=none:=I2.gj.fresh (Nat.le_of_eq hD);obtain⟨W,⟨m0,w0⟩,uT⟩:=q D hDn;generalize Px:({s2 with heap:=s2.heap.push {cls:=.type "list",data:=.seq ([]:List Value).toArray}}:Shared)=s3
 have I3:Inv X fM σ (fN H2 D (.lst [])) s3:=by
  rw[<-Px];refine I2.laid (t':=s2.toks) (fun b o e=>aC _ e) (Nat.le_of_eq hD) ⟨aN _,[],0,.nil,?_⟩;rw[<-hD];exact aO _ Z
 have h3:s3.heap=s2.heap.push {cls:=.type "list",data:=.seq ([]:List Value).toArray}:=by rw[<-Px]
 have sz:∀b∈fp,b<s2.heap.objs.size:=fun b hb=>by
  obtain⟨o,e,_⟩:=T.obj _ _ BP b hb;exact aK e
 have f3:∀b∈fp,oR X fM (fN H2 D (.lst [])) b/\b<s3.heap.objs.size:=fun b hb=>by
  have ia:=sz b hb;refine⟨⟨?_,(f2 b hb).2⟩,by rw[h3,bz];exact dU ia⟩;rw[fU (by rw[<-hD];exact ba ia)];exact(f2 b hb).1
 have BQ:tn 0 s3.heap:=T.keep _ _ _ BP fun b _ o e=>by rw[h3];exact aC _ e
 have I4:=UB I3 ok hN f3;have pg:=hg s3 (fN H2 D (.lst [])) s3.heap.objs.size (cellsFrom (s3.heap.objs.size+1) scope.names (kQ X.env.cells scope.names [])) fp;have pt:=ht s3 (fN H2 D (.lst [])) s3.heap.objs.size (cellsFrom (s3.heap.objs.size+1) scope.names (kQ X.env.cells scope.names [])) fp;have pe:=he s3 (fN H2 D (.lst [])) s3.heap.objs.size (cellsFrom (s3.heap.objs.size+1) scope.names (kQ X.env.cells scope.names [])) fp;show codeAny _ _ (.compStart (.ListComp l7 [⟨tg,jT,lO,0⟩] scope pos) 0 (.ref it) (.ref D) (compEnvC scope (cellsFrom (s3.heap.objs.size+1) scope.names (kQ X.env.cells scope.names [])) s3.heap.objs.size X.env)) (compPost (model X.prog X.w) X.A X.xe use Qf (.ref D) s3.heap.objs.size) {s3 with heap:=pushCells (s3.heap.push {cls:=.type "dict",data:=.dict #[]}) scope.names};have BY:∀b∈fp,(fN H2 D (.lst [])) b=none:=fun b hb=>(f3 b hb).1.1
 generalize hce:compEnvC scope (cellsFrom (s3.heap.objs.size+1) scope.names (kQ X.env.cells scope.names [])) s3.heap.objs.size X.env=ce at I4 pg pt pe⊢;have cL:ce.locals=s3.heap.objs.size:=by subst hce;rfl
 generalize yO:fN H2 D (.lst [])=H3 at I3 I4 pg pt pe w0 BY f3;generalize hs4:({s3 with heap:=pushCells (s3.heap.push {cls:=.type "dict",data:=.dict #[]}) scope.names}:Shared)=s4 at I4⊢;have Py:tn 0 s4.heap:=T.keep _ _ _ BQ fun b _ o e=>by rw[<-hs4];exact pushCells_keeps _ _ _ _ (aC _ e)
 have uU:∀{gy:St} {H':Hp} {s':Shared},Inv (X.lN s3 H3 scope ce fp) [] gy H' s'->(∀b∈fp,H' b=none)->∀b∈fp,oR (X.lN s3 H3 scope ce fp) [] H' b:=fun{gy H' s'} I' hn b hb=>
  ⟨hn b hb,(I'.ok.yK b hb).1,I'.ok.wx b hb,.inl hb,fun x c e=>(I'.ok.yK b hb).2 x c e,fun p hp=>absurd (show p∈([]:List (Addr×Obj))++[] from hp) (by simp)⟩
 have loop:codeAny (model X.prog X.w) X.A (.compLoop (.ListComp l7 [⟨tg,jT,lO,0⟩] scope pos) 0 (.ref it) (.ref D) ce) (compPost (model X.prog X.w) X.A X.xe use Qf (.ref D) s3.heap.objs.size) s4:=by
  refine TY (fun n s'=>∃i H',Inv (X.lN s3 H3 scope ce fp) [] (iB σ (own.map (·.2))) H' s'/\tn i s'.heap/\(∀b∈fp,H' b=none)/\W i n H') ?_ m0 ⟨0,H3,I4,Py,BY,w0⟩;rintro n s5 ⟨i,H5,I5,wS,n5,w5⟩;rcases uT i n H5 w5 with⟨stop,qq⟩|⟨go,Nx,hNx,step⟩
  ·have td:=T.done (X.lN s3 H3 scope ce fp) Z Z Z hc i [] s5 _ H5 (fun _ _=>False) I5 (uU I5 n5) wS stop;refine wC td fun r s6 ⟨hr,I6⟩=> ?_
   subst hr;have I7:Inv X fM σ H5 s6:=I3.Bl (ch:=fp) I6.os I6.base I6.gj I6.bare fun b hb=>⟨(f3 b hb).1.2.2.2.1,(f3 b hb).1.2.1,(f3 b hb).1.2.2.2.2.1,(f3 b hb).1.2.2.2.2.2⟩
   have nC:H5 s3.heap.objs.size=none:=by
    have z:H5 ce.locals=none:=I6.free;rw[cL] at z;exact z
   obtain⟨m,hn,_⟩:=I6.loc;have hn:s6.heap.Ns ce.locals m:=hn;rw[cL] at hn;exact hRR D s3.heap.objs.size s6 m H5 I7 qq hn (I3.rk (aA _) nC)
  ·have ti:=T.item (X.lN s3 H3 scope ce fp) Z Z Z hc i [] s5 _ H5 (fun _ _=>False) I5 (uU I5 n5) wS go;refine wC ti fun r s6 ⟨u,hr,h6⟩=> ?_
   subst hr;refine wC h6 fun _ s7 ⟨x,H7,I7,r7,y7,HP,n7⟩=> ?_
   have I7':=I7.pinned (uU I7 n7) (T.obj _ _ HP);refine wC (pg _ s7 _ H7 x u _ I7' r7 (step x H7 y7)) fun _ s8 ⟨BZ,H8,I8,Pz,q8⟩=> ?_
   refine wC (pt _ s8 BZ H8 _ I8 q8) fun b s9 ⟨H9,I9,q9⟩=> ?_
   have fin:∀{s':Shared} {H':Hp},Inv (X.lN s3 H3 scope ce fp) ([]++yk fp s7.heap) BZ H' s'->Nx H'->∃m,m<n/\∃i H',Inv (X.lN s3 H3 scope ce fp) [] (iB σ (own.map (·.2))) H' s'/\tn i s'.heap/\(∀b∈fp,H' b=none)/\W i m H':=fun{s' H'} I' nx=>by
    obtain⟨m',hm,w'⟩:=hNx H' nx
    have O4:∀b∈fp,∀o,s7.heap.get? b=some o->s'.heap.get? b=some o/\H' b=none:=fun b hb o e=>
     let z:=I'.pin (b,o) (bn _ (bn _ (EA hb e)))
     ⟨z.1,z.2.1⟩
    have hl:(iB σ (own.map (·.2))).length=BZ.length:=by rw[<-Pz,Ej]
    refine⟨m',hm,i+1,H',(I'.Ax (fM:=[])).weak hl (fun j v e=> ?_),T.keep _ _ _ HP fun b hb o e=>(O4 b hb o e).1,fun b hb=> ?_,w'⟩
    ·rw[<-Pz] at e;exact(Fh e).1
    ·obtain⟨o,e,_⟩:=T.obj _ _ HP b hb;exact(O4 b hb o e).2
   cases b with
   |false=>
    simp only[bo,cX] at q9⊢;exact fin I9 q9
   |true=>
    simp only[dA] at q9⊢;refine wC (pe _ s9 BZ H9 _ I9 q9) fun z HQ ⟨yv,H10,I10,r10,acc,abk,abl,nx⟩=> ?_
    exact Zs (X:=X.lN s3 H3 scope ce fp) I10 abk abl r10 fun yP I11=>fin I11 nx
 exact codeAny_compStart_list loop (T.self X.A 0 _ _ _ Py loop)
theorem mi{l7 tg jT:Expr}{lO:List Expr}{scope:Scope}{own:List (Str×Nat)}{pos:Pos}{wi:TI}{g:TG}{tt:TT}{te:TE}(hc:X.calm=true)(hN:X.N.Nodup)(hi:PI X tg jT wi)(ok:yq X.N X.env.scope scope own)
 (hg:∀(s:Shared) (H:Hp) (C:Addr) (cl:List (Str×Addr)) (fp:List Addr),PG (X.lN s H scope (compEnvC scope cl C X.env) fp) tg g) (ht:∀(s:Shared) (H:Hp) (C:Addr) (cl:List (Str×Addr)) (fp:List Addr),yN (X.lN s H scope (compEnvC scope cl C X.env) fp) lO tt)
 (he:∀(s:Shared) (H:Hp) (C:Addr) (cl:List (Str×Addr)) (fp:List Addr),PE (X.lN s H scope (compEnvC scope cl C X.env) fp) l7 te) (hs:∀x,foldedSetIterable jT X.env x=pure x:=by intro _;rfl):
 PE X (.ListComp l7 [⟨tg,jT,lO,0⟩] scope pos) (BX wi g tt te (own.map (·.2))):=by
 intro fM s σ H Q I h;rw[eval_ListComp];refine Nu hc hN I hi ok hg ht he hs h fun D C s' m H' I' q hn f=>⟨m,hn,fun om sb=> ?_⟩
 obtain⟨f0,f1,f2,f3,f4,f5⟩:=f;exact⟨.ref D,H',I'.turned (t':=s'.toks) (fun b o hb e=>(sb.2 b hb).trans e) f0 f1 f3 f4 f5,Z,q⟩
theorem MO{i:Nat}{y:Str}{py:Pos}{l7 tg jT:Expr}{lO:List Expr}{scope:Scope}{own:List (Str×Nat)}{pos O5:Pos}{wi:TI}{g:TG}{tt:TT}{te:TE}(hc:X.calm=true)(hN:X.N.Nodup)(hy:X.N[i]? =some y)(PB:X.env.scope.names.lookup y=some .local)
 (hsw:swapsWith (.ListComp l7 [⟨tg,jT,lO,0⟩] scope pos) (some (.Name y py)) O5.line X.env=pure true) (hi:PI X tg jT wi) (ok:yq X.N X.env.scope scope own)
 (hg:∀(s:Shared) (H:Hp) (C:Addr) (cl:List (Str×Addr)) (fp:List Addr),PG (X.lN s H scope (compEnvC scope cl C X.env) fp) tg g) (ht:∀(s:Shared) (H:Hp) (C:Addr) (cl:List (Str×Addr)) (fp:List Addr),yN (X.lN s H scope (compEnvC scope cl C X.env) fp) lO tt)
 (he:∀(s:Shared) (H:Hp) (C:Addr) (cl:List (Str×Addr)) (fp:List Addr),PE (X.lN s H scope (compEnvC scope cl C X.env) fp) l7 te) (hs:∀x,foldedSetIterable jT X.env x=pure x:=by intro _;rfl):
 PS X (.Assign [.Name y py] (.ListComp l7 [⟨tg,jT,lO,0⟩] scope pos) O5) (uS (BX wi g tt te (own.map (·.2))) (sE i)):=by
 intro fM s σ H D I h;rw[exec_Assign_Name_used _ _ _ _ hsw];refine ay (dO (ay ?_));show wpAny _ X.A (do let _<-comprehension (.ListComp l7 [⟨tg,jT,lO,0⟩] scope pos) scope X.env (firstIterPos [⟨tg,jT,lO,0⟩] pos) (newList []) false (eval jT X.env) (some (assign (.Name y py) X.env))) _ _ s;have h:BX wi g tt te (own.map (·.2)) σ H (fun x H1=>sE i x σ H1 D.nx):=h;refine ay (gn (Nu (Qf:=fun _ s'=>SP X fM D .next s') hc hN I hi ok hg ht he hs h fun L C s' m H' I' q hn f=> ?_) fun _ s' hq=>aY (aY hq));show wpAny _ _ (assign (.Name y py) X.env (.ref L)) _ _ _;refine wpAny_assign_Name (L4 (v:=V.ref L) I' hN hy (.inl PB) Z (fun s2 I2 ⟨a,sb,ha⟩=> ?_) (.inr PB));obtain⟨f0,f1,f2,f3,f4,f5⟩:=f
 have haC:C≠a:=by
  rcases ha with z|z
  ·rw[z];exact f1
  ·exact fun e=>f4 y a z e.symm
 refine⟨m,hn.sameBut sb haC,fun h3 sb3=> ?_⟩;exact⟨_,H',I2.turned (t':=s2.toks) (fun b o hb e=>(sb3.2 b hb).trans e) f0 f1 f3 f4 f5,q⟩
theorem Nv{l7:Expr}{gs:List Comprehension}{scope:Scope}{pos py:Pos}{y:Str}{l:Nat}{env:Env}(hk:env.scope.kind=.function)(hy:env.scope.names.lookup y=some .local)(hl:(py.line==pos.line)=true)
 (ha:(scope.names.any fun(n,k)=>n==y&&(k==.local||k==.cell))=false):swapsWith (.ListComp l7 gs scope pos) (some (.Name y py)) l env=pure true:=by
 have ky:env.kindOf y=some .local:=hy;have hb:env.blockKind=.function:=by unfold Env.blockKind;rw[hk];rfl
 unfold swapsWith;simp only[hb,ky,ha,Expr.pos,hl];rfl
end
theorem Ay{lo:Int}{n:Nat}{g:TG}{tt:TT}{te:TE}{vs:List Nat}{σ:St}{H1:Hp}{D:Addr}{Qd:Hp->Prop}(Pv:Nat->Hp->Prop)(h0:Pv 0 (fN H1 D (.lst [])))
 (hs:∀i H,i<n->Pv i H->g (.int (lo+i)) (iB σ vs) H fun gw H2=>iB gw vs=iB σ vs/\tt gw H2 fun b H3=>
   if b=true then te gw H3 fun y H4=>∃acc,H4 D=some (.lst acc)/\acc.length<sizeLine/\Pv (i+1) (fN H4 D (.lst (acc++[y]))) else Pv (i+1) H3) (hd:∀H,Pv n H->Qd H):
 ∃W:Nat->Nat->Hp->Prop,(∃m,W 0 m (fN H1 D (.lst [])))/\∀i m H,W i m H->
  ((rB lo n).stop i H/\Qd H)\/((rB lo n).go i H/\∃Nx:Hp->Prop,(∀H',Nx H'->∃m',m'<m/\W (i+1) m' H')/\∀x H',(rB lo n).mH i H x H'->g x (iB σ vs) H' fun gw H2=>iB gw vs=iB σ vs/\tt gw H2 fun b H3=>
    if b=true then te gw H3 fun y H4=>∃acc,H4 D=some (.lst acc)/\acc.length<sizeLine/\Nx (fN H4 D (.lst (acc++[y]))) else Nx H3):=by
 refine⟨fun i m H=>m=n-i/\i<=n/\Pv i H,⟨n,by simp,aN _,h0⟩,?_⟩;rintro i m H ⟨rfl,hi,p⟩
 by_cases ia:i<n
 ·refine .inr ⟨ia,Pv (i+1),fun H' p'=>⟨n-(i+1),by omega,Z,ia,p'⟩,fun x H' y=> ?_⟩;obtain⟨e,y⟩:=y;subst e y;exact hs i _ ia p
 ·have e:i=n:=by omega
  subst e;exact .inl ⟨aA _,hd H p⟩
theorem sw{K:PySem.W.Frag}{a:Addr}{xs:List V}{g:TG}{tt:TT}{te:TE}{vs:List Nat}{σ:St}{H1:Hp}{D:Addr}{Qd:Hp->Prop}(Pv:Nat->Hp->Prop)(h0:Pv 0 (fN H1 D (.lst [])))(hl:∀i H,i<=xs.length->Pv i H->fS K H a xs)
 (hs:∀i x H,xs[i]? =some x->Pv i H->g x (iB σ vs) H fun gw H2=>iB gw vs=iB σ vs/\tt gw H2 fun b H3=>
   if b=true then te gw H3 fun y H4=>∃acc,H4 D=some (.lst acc)/\acc.length<sizeLine/\Pv (i+1) (fN H4 D (.lst (acc++[y]))) else Pv (i+1) H3) (hd:∀H,Pv xs.length H->Qd H):
 ∃W:Nat->Nat->Hp->Prop,(∃m,W 0 m (fN H1 D (.lst [])))/\∀i m H,W i m H->
  ((sZ K a).stop i H/\Qd H)\/((sZ K a).go i H/\∃Nx:Hp->Prop,(∀H',Nx H'->∃m',m'<m/\W (i+1) m' H')/\∀x H',(sZ K a).mH i H x H'->g x (iB σ vs) H' fun gw H2=>iB gw vs=iB σ vs/\tt gw H2 fun b H3=>
    if b=true then te gw H3 fun y H4=>∃acc,H4 D=some (.lst acc)/\acc.length<sizeLine/\Nx (fN H4 D (.lst (acc++[y]))) else Nx H3):=by
 refine⟨fun i m H=>m=xs.length-i/\i<=xs.length/\Pv i H,⟨xs.length,by simp,aN _,h0⟩,?_⟩;rintro i m H ⟨rfl,hi,p⟩;have q:=hl i H hi p
 by_cases ia:i<xs.length
 ·refine .inr ⟨⟨xs,xs[i],q,by simp[ia]⟩,Pv (i+1),fun H' p'=>⟨xs.length-(i+1),by omega,Z,ia,p'⟩,fun x H' y=> ?_⟩;obtain⟨e,y⟩:=y;subst e;exact hs i x _ (y xs q) p
 ·have e:i=xs.length:=by omega
  subst e;exact .inl ⟨⟨xs,q,aA _⟩,hd H p⟩
theorem Zt{K:PySem.W.Frag}{a:Addr}{xs:List V}{g:TG}{tt:TT}{te:TE}{vs:List Nat}{σ:St}{H1:Hp}{D:Addr}{Qd:Hp->Prop}(Pv:Nat->Hp->Prop)(h0:Pv 0 (fN H1 D (.lst [])))(hl:∀i H,i<=xs.length->Pv i H->iO K H a xs)
 (hs:∀i x H,xs[i]? =some x->Pv i H->g x (iB σ vs) H fun gw H2=>iB gw vs=iB σ vs/\tt gw H2 fun b H3=>
   if b=true then te gw H3 fun y H4=>∃acc,H4 D=some (.lst acc)/\acc.length<sizeLine/\Pv (i+1) (fN H4 D (.lst (acc++[y]))) else Pv (i+1) H3) (hd:∀H,Pv xs.length H->Qd H):
 ∃W:Nat->Nat->Hp->Prop,(∃m,W 0 m (fN H1 D (.lst [])))/\∀i m H,W i m H->
  ((s0 K a).stop i H/\Qd H)\/((s0 K a).go i H/\∃Nx:Hp->Prop,(∀H',Nx H'->∃m',m'<m/\W (i+1) m' H')/\∀x H',(s0 K a).mH i H x H'->g x (iB σ vs) H' fun gw H2=>iB gw vs=iB σ vs/\tt gw H2 fun b H3=>
    if b=true then te gw H3 fun y H4=>∃acc,H4 D=some (.lst acc)/\acc.length<sizeLine/\Nx (fN H4 D (.lst (acc++[y]))) else Nx H3):=by
 refine⟨fun i m H=>m=xs.length-i/\i<=xs.length/\Pv i H,⟨xs.length,by simp,aN _,h0⟩,?_⟩;rintro i m H ⟨rfl,hi,p⟩;have q:=hl i H hi p
 by_cases ia:i<xs.length
 ·refine .inr ⟨⟨xs,xs[i],q,by simp[ia]⟩,Pv (i+1),fun H' p'=>⟨xs.length-(i+1),by omega,Z,ia,p'⟩,fun x H' y=> ?_⟩;obtain⟨e,y⟩:=y;subst e;exact hs i x _ (y xs q) p
 ·have e:i=xs.length:=by omega
  subst e;exact .inl ⟨⟨xs,q,aA _⟩,hd H p⟩
def O6(N:List Str)(sc scope:Scope)(own:List (Str×Nat)):Bool:=
 (match scope.kind with|.function=>true|_=>false)&&(scope.names.all fun y=>decide (scope.names.lookup y.1=some y.2))&&(own.all fun p=>decide (N[p.2]? =some p.1))&&
   (scope.names.all fun y=>match y.2 with
     |.free=>(match sc.names.lookup y.1 with|some .cell=>true|some .free=>true|_=>false)
     |.local=>decide (y.1∈own.map (·.1))||decide (y.1∉N)
     |.cell=>decide (y.1∈own.map (·.1))||decide (y.1∉N)
     |_=>true)
theorem lD{N:List Str}{sc scope:Scope}{own:List (Str×Nat)}(h:O6 N sc scope own=true):yq N sc scope own:=by
 unfold O6 at h;simp only[aH,a9,aJ] at h;obtain⟨⟨⟨h1,h2⟩,h3⟩,h4⟩:=h;refine⟨?_,h2,h3,fun y hy e=> ?_,fun y hy e=> ?_⟩
 ·split at h1
  ·assumption
  ·cases h1
 ·have q:=h4 y hy;simp only[e] at q;split at q<;>first|exact .inl (by assumption)|exact .inr (by assumption)|cases q
 ·have q:=h4 y hy;rcases e with e|e<;>(simp only[e,Bool.or_eq_true,aJ] at q;exact q)
section
variable {κ:Type} [DecidableEq κ]
def i6(kvs:List (κ×V))(k:κ):Option V:=(kvs.find? fun kv=>decide (kv.1=k)).map (·.2)
def lK(kvs:List (κ×V))(k:κ)(v:V):List (κ×V):=
 if (kvs.any fun kv=>decide (kv.1=k))=true then kvs.map (fun kv=>if kv.1=k then(kv.1,v) else kv) else kvs++[(k,v)]
theorem vO{p:κ×V}{r:List (κ×V)}{k:κ}(e:p.1=k):i6 (p::r) k=some p.2:=by simp[i6,List.find?_cons,e]
theorem uu{p:κ×V}{r:List (κ×V)}{k:κ}(e:¬p.1=k):i6 (p::r) k=i6 r k:=by simp[i6,List.find?_cons,e]
theorem FW(k:κ):∀kvs:List (κ×V),(kvs.any fun kv=>decide (kv.1=k))=(i6 kvs k).isSome
 |[]=>rfl
 |p::r=>by
  rw[dv]
  by_cases e:p.1=k
  ·simp only[vO e,ai e,Bool.true_or,Option.isSome_some]
  ·rw[uu e,ae e,Bool.false_or];exact FW k r
theorem KR(kvs:List (κ×V))(k:κ)(v:V):(lK kvs k v).length<=kvs.length+1:=by
 unfold lK;split
 ·rw[ac];omega
 ·rw[ag,aj,aZ];omega
theorem MP{kvs:List (κ×V)}{k:κ}(v:V)(h:i6 kvs k=none):lK kvs k v=kvs++[(k,v)]:=by
 unfold lK;rw[FW,h];exact am (by decide)
theorem kx.Ak{o:Option V}{u:Option Value}(r:kx o u):o.isSome=u.isSome:=by
 cases o with
 |none=>cases u with
  |none=>rfl
  |some _=>exact(show False from r).elim
 |some _=>cases u with
  |none=>exact(show False from r).elim
  |some _=>rfl
theorem kx.getD{o:Option V}{u:Option Value}{d:V}{d':Value}(r:kx o u)(rd:RelV d d'):RelV (o.getD d) (u.getD d'):=by
 cases o with
 |none=>cases u with
  |none=>exact rd
  |some _=>exact(show False from r).elim
 |some _=>cases u with
  |none=>exact(show False from r).elim
  |some _=>exact r
theorem KV.val{kvs:List (κ×V)}{vs:List (κ×Value)}(r:KV kvs vs)(k:κ):kx (i6 kvs k) (valueAt vs k):=by
 unfold KV at r
 induction r with
 |nil=>exact True.intro
 | @cons p q ps qs h t ih=>
   obtain⟨h1,h2⟩:=h
   by_cases e:p.1=k
   ·have e':q.1=k:=h1.symm.trans e;have b:valueAt (q::qs) k=some q.2:=by simp[valueAt,List.find?_cons,e']
    rw[vO e,b];exact h2
   ·have e':¬q.1=k:=fun z=>e (h1.trans z)
    have b:valueAt (q::qs) k=valueAt qs k:=by simp[valueAt,List.find?_cons,e']
    rw[uu e,b];exact ih
theorem KV.any{kvs:List (κ×V)}{vs:List (κ×Value)}(r:KV kvs vs)(k:κ):(kvs.any fun kv=>decide (kv.1=k))=vs.any fun kv=>decide (kv.1=k):=by
 unfold KV at r
 induction r with
 |nil=>rfl
 |cons h t ih=>rw[dv,dv,ih,h.1]
theorem KV.Hm{kvs:List (κ×V)}{vs:List (κ×Value)}(r:KV kvs vs)(k:κ){y:V}{u:Value}(ry:RelV y u):
 KV (kvs.map fun kv=>if kv.1=k then(kv.1,y) else kv) (vs.map fun kv=>if kv.1=k then(kv.1,u) else kv):=by
 unfold KV at r⊢
 induction r with
 |nil=>exact .nil
 | @cons p q ps qs h t ih=>
   rw[aB,aB];refine .cons ?_ ih;obtain⟨h1,h2⟩:=h
   by_cases e:p.1=k
   ·rw[aw e,aw (h1.symm.trans e)];exact⟨h1,ry⟩
   ·rw[am e,am (fun z=>e (h1.trans z))];exact⟨h1,h2⟩
theorem KV.put{kvs:List (κ×V)}{vs:List (κ×Value)}(r:KV kvs vs)(k:κ){y:V}{u:Value}(ry:RelV y u):KV (lK kvs k y) (stored vs k u):=by
 unfold lK stored;rw[r.any k]
 by_cases e:(vs.any fun kv=>decide (kv.1=k))=true
 ·rw[aw e,aw e];exact r.Hm k ry
 ·rw[am e,am e];exact Paired.snoc r ⟨Z,ry⟩
theorem KV.length{kvs:List (κ×V)}{vs:List (κ×Value)}(r:KV kvs vs):kvs.length=vs.length:=dP r
end
theorem uL{P:Program}{w:World}{k:Key}{u:Value}(r:RelV (kV k) u):(k9 P w).is k u=true:=by
 cases k with
 |inl i=>obtain⟨t,e⟩:=(show∃t,u=Value.int i t from r);subst e;exact Uw P w i t
 |inr x=>obtain⟨t,e⟩:=(show∃t,u=Value.str x t from r);subst e;exact Ux P w x t
theorem Ma{P:Program}{w:World}:∀{ks:List Key} {us:List Value},gG (ks.map kV) us->ItemsAre (k9 P w) ks us
 |[],_,r=>by rw[cg] at r;cases r;exact .nil
 |k::ks,_,r=>by
  rw[aB] at r;cases r with
  |cons h t=>exact .cons (uL h) (Ma t)
abbrev KT(H:Hp):List (List Key×V)->List (List Key×Addr×Value)->Prop:=Paired fun p q=>p.1=q.1/\H q.2.1=some (.tup (p.1.map kV))/\RelV p.2 q.2.2
theorem KT.val{H:Hp}{kvs:List (List Key×V)}{xs:List (List Key×Addr×Value)}(r:KT H kvs xs)(k:List Key):kx (i6 kvs k) ((atKey xs k).map (·.2)):=by
 induction r with
 |nil=>exact True.intro
 | @cons p q ps qs h t ih=>
   obtain⟨h1,_,h2⟩:=h
   by_cases e:p.1=k
   ·have e':q.1=k:=h1.symm.trans e;have b:atKey (q::qs) k=some q.2:=by simp[atKey,List.find?_cons,e']
    rw[vO e,b];exact h2
   ·have e':¬q.1=k:=fun z=>e (h1.trans z)
    have b:atKey (q::qs) k=atKey qs k:=by simp[atKey,List.find?_cons,e']
    rw[uu e,b];exact ih
theorem KT.Hm{H:Hp}{kvs:List (List Key×V)}{xs:List (List Key×Addr×Value)}(r:KT H kvs xs)(k:List Key){y:V}{u:Value}(ry:RelV y u):
 KT H (kvs.map fun kv=>if kv.1=k then(kv.1,y) else kv) (xs.map (putAt k u)):=by
 induction r with
 |nil=>exact .nil
 | @cons p q ps qs h t ih=>
   rw[aB,aB];refine .cons ?_ ih;obtain⟨h1,h2,h3⟩:=h;unfold putAt
   by_cases e:p.1=k
   ·rw[aw e,aw (h1.symm.trans e)];exact⟨h1,h2,ry⟩
   ·rw[am e,am (fun z=>e (h1.trans z))];exact⟨h1,h2,h3⟩
theorem KT.put{H:Hp}{kvs:List (List Key×V)}{xs:List (List Key×Addr×Value)}(r:KT H kvs xs)(k:List Key){b:Addr}{y:V}{u:Value}(hb:H b=some (.tup (k.map kV)))(ry:RelV y u):
 KT H (lK kvs k y) (storedH xs k b u):=by
 have e:(kvs.any fun kv=>decide (kv.1=k))=(atKey xs k).isSome:=by
  rw[FW,(r.val k).Ak,Option.isSome_map]
 unfold lK storedH;rw[e]
 by_cases q:(atKey xs k).isSome=true
 ·rw[aw q,aw q];exact r.Hm k ry
 ·rw[am q,am q];exact Paired.snoc r ⟨Z,hb,ry⟩
theorem KT.keeps{H H':Hp}{kvs:List (List Key×V)}{xs:List (List Key×Addr×Value)}(r:KT H kvs xs)(ht:∀b ys,H b=some (.tup ys)->H' b=some (.tup ys)):KT H' kvs xs:=
 Paired.He r fun _ _ z=>⟨z.1,ht _ _ z.2.1,z.2.2⟩
section
variable {P:Program} {w:World} {H:Hp} {h:Heap} {a:Addr}
theorem Ox{u:HO}(ok:iZ P w H h)(e:Rd H a u):jk P w H h a u:=e.ok ok
theorem uM{kvs:List (Key×V)}(ok:iZ P w H h)(e:Rd H a (.dK kvs)):kvs.length<=sizeLine/\(a==sysModules)=false/\∃vs,KV kvs vs/\h.DictOf (k9 P w) a vs:=
 show jk P w H h a (.dK kvs) from Ox ok e
theorem aak{kvs:List (Key×V)}(ok:iZ P w H h)(e:H a=some (.dK kvs)):kvs.length<=sizeLine/\(a==sysModules)=false/\∃vs,KV kvs vs/\h.DictOf (k9 P w) a vs:=uM ok (.inl e)
theorem yo{ks:List Key}(ok:iZ P w H h)(e:H a=some (.tup (ks.map kV))):(tupleKind (k9 P w)).is h ks a:=by
 obtain⟨_,fV,r,o,h1,h2,n,h3⟩:=(show jk P w H h a (.tup (ks.map kV)) from ok a _ e);exact⟨o,fV.toArray,n,h1,h2,h3,by simpa using Ma r⟩
theorem wj{kvs:List (List Key×V)}(ok:iZ P w H h)(e:Rd H a (.dT kvs)):kvs.length<=sizeLine/\(a==sysModules)=false/\
 ∃xs,KT H kvs xs/\h.DictOfH (tupleKind (k9 P w)) a xs:=by
 obtain⟨z,y,xs,r,o,es,ep,h1,h2,h3,h4,h5⟩:=(show jk P w H h a (.dT kvs) from Ox ok e);refine⟨z,y,xs,r,o,es,ep,h1,h2,h3,h4,fun x hx=> ?_,h5⟩
 have all:∀{l:List (List Key×V)} {m:List (List Key×Addr×Value)},KT H l m->∀x∈m,(tupleKind (k9 P w)).is h x.1 x.2.1:=by
  intro l m q
  induction q with
  |nil=>intro x hx;exact nomatch hx
  | @cons p q ps qs hq t ih=>
    intro x hx;rcases az.mp hx with e|hx
    ·subst e;exact yo ok (by rw[<-hq.1];exact hq.2.1)
    ·exact ih x hx
 exact all r x hx
theorem aal{kvs:List (List Key×V)}(ok:iZ P w H h)(e:H a=some (.dT kvs)):kvs.length<=sizeLine/\(a==sysModules)=false/\
 ∃xs,KT H kvs xs/\h.DictOfH (tupleKind (k9 P w)) a xs:=wj ok (.inl e)
end
def lL(H:Hp)(a:Addr)(y:V)(r:Option V):Prop:=
 (∃kvs k,Rd H a (.dK kvs)/\y=kV k/\r=i6 kvs k)\/∃kvs k b,Rd H a (.dT kvs)/\y=.ref b/\H b=some (.tup (k.map kV))/\r=i6 kvs k
def uY(H:Hp)(a:Addr)(y v:V)(H':Hp):Prop:=
 (∃kvs k,H a=some (.dK kvs)/\y=kV k/\kvs.length<sizeLine/\H'=fN H a (.dK (lK kvs k v)))\/
 ∃kvs k b,H a=some (.dT kvs)/\y=.ref b/\H b=some (.tup (k.map kV))/\kvs.length<sizeLine/\H'=fN H a (.dT (lK kvs k v))
theorem lL.k{H:Hp}{a:Addr}{kvs:List (Key×V)}{k:Key}(e:H a=some (.dK kvs)):lL H a (kV k) (i6 kvs k):=.inl ⟨kvs,k,.inl e,Z,Z⟩
theorem uY.k{H:Hp}{a:Addr}{kvs:List (Key×V)}{k:Key}{v:V}(e:H a=some (.dK kvs))(hl:kvs.length<sizeLine):uY H a (kV k) v (fN H a (.dK (lK kvs k v))):=.inl ⟨kvs,k,e,Z,hl,Z⟩
section
variable {X:Cx} {fM:List (Addr×Obj)} {σ:St} {H:Hp} {s:Shared} {a:Addr} {y v:V} {u r:Value} {o:Option V} {A:Around} {E:Value->Shared->Prop}
theorem Inv.big(I:Inv X fM σ H s):sysModules<s.heap.objs.size:=by
 have h:mainGlobals<s.heap.objs.size:=(I.mod.glob.keeps I.bk).lt;exact Nat.lt_trans (by decide) h
theorem V4{Q:Value->Shared->Prop}(hu:A.units+1<cLine)(I:Inv X fM σ H s)(g:lL H a y (some v))(ry:RelV y u)(h:∀w' s',Inv X fM σ H s'->RelV v w'->Q w' s'):
 wpAny (model X.prog X.w) A (getItem (.ref a) u) Q E s:=by
 rcases g with⟨kvs,k,e,ey,l⟩|⟨kvs,k,b,e,ey,eb,l⟩
 ·subst ey;obtain⟨z,hd,vs,rel,dd⟩:=uM I.gj e;obtain⟨w',hw,oj⟩:=kx.some_of (v:=v) (o:=valueAt vs k) (by rw[l];exact rel.val k);exact wpAny_getItem_of (uL ry) dd.mapOf hw (h w' _ (I.tok _) oj)
 ·subst ey;cases (show u=Value.ref b from ry);obtain⟨z,hd,xs,rel,dd⟩:=wj I.gj e;obtain⟨w',hw,oj⟩:=kx.some_of (v:=v) (o:=(atKey xs k).map (·.2)) (by rw[l];exact rel.val k);obtain⟨p,hp,hp2⟩:=Option.map_eq_some_iff.mp hw;refine wpAny_getItem_heap (eU hu) (yo I.gj eb) dd hp ?_;rw[hp2];exact h w' _ (I.tok _) oj
theorem abm{Q:Value->Shared->Prop}(hu:A.units+1<cLine)(I:Inv X fM σ H s)(g:lL H a y o)(ry:RelV y u)(h:∀s',Inv X fM σ H s'->Q (.bool o.isSome) s'):
 wpAny (model X.prog X.w) A (compareOp .In u (.ref a)) Q E s:=by
 rcases g with⟨kvs,k,e,ey,l⟩|⟨kvs,k,b,e,ey,eb,l⟩
 ·subst ey;obtain⟨z,hd,vs,rel,dd⟩:=uM I.gj e;refine wpAny_in_of (uL ry) hd dd.mapOf ?_;rw[<-(rel.val k).Ak,<-l];exact h _ (I.tok _)
 ·subst ey;cases (show u=Value.ref b from ry);obtain⟨z,hd,xs,rel,dd⟩:=wj I.gj e;refine wpAny_in_heap (eU hu) (yo I.gj eb) hd dd ?_;have q:=(rel.val k).Ak;rw[Option.isSome_map] at q;rw[<-q,<-l];exact h _ (I.tok _)
theorem Nw{h':Heap}{t':Nat}{ob:HO}(I:Inv X fM σ H s)(mu:sU (H a))(hs:Heap.SameBut a s.heap h')(he:∃q,h'.get? a=some q)(new:jk X.prog X.w (fN H a ob) h' a ob):
 Inv X fM σ (fN H a ob) {s with heap:=h',toks:=t'}:=
 I.write (x:=a) (e:=a) mu (.inl Z) (fun b q hb z=>(hs.2 b hb).trans z) he new
theorem Zu{P:Program}{w:World}{H':Hp}{h':Heap}{kvs:List (Key×V)}{vs:List (Key×Value)}(z:kvs.length<=sizeLine)(hd:(a==sysModules)=false)(rel:KV kvs vs)(dd:h'.DictOf (k9 P w) a vs):
 jk P w H' h' a (.dK kvs):=⟨z,hd,vs,rel,dd⟩
theorem V5{H':Hp}{Q:Unit->Shared->Prop}(hu:A.units+1<cLine)(I:Inv X fM σ H s)(g:uY H a y v H')(ry:RelV y u)(rv:RelV v r)(h:∀s',Inv X fM σ H' s'->Q () s'):
 wpAny (model X.prog X.w) A (setItem (.ref a) u r) Q E s:=by
 rcases g with⟨kvs,k,e,ey,l,eH⟩|⟨kvs,k,b,e,ey,eb,l,eH⟩
 ·subst ey eH;obtain⟨z,hd,vs,rel,dd⟩:=aak I.gj e;have hz:vs.length<=sizeLine:=by rw[<-rel.length];exact z
  have hl:(lK kvs k v).length<=sizeLine:=by have:=KR kvs k v;omega
  refine wpAny_setItem_pairs (hsz:=hz) (uL ry) dd fun h' yQ hs=>h _ ?_
  have he:∃q,h'.get? a=some q:=let ⟨q,_,_,hq,_⟩:=yQ;⟨q,hq⟩
  exact Nw I (by rw[e];exact True.intro) hs he (Zu hl hd (rel.put k rv) yQ)
 ·subst ey eH;cases (show u=Value.ref b from ry);obtain⟨z,hd,xs,rel,dd⟩:=aal I.gj e;have hz:xs.length<=sizeLine:=by rw[<-dP rel];exact z
  have hl:(lK kvs k v).length<=sizeLine:=by have:=KR kvs k v;omega
  refine wpAny_setItem_heap (hsz:=hz) (eU hu) (yo I.gj eb) dd fun h' yQ hs=>h _ ?_
  obtain⟨q,es,ep,hq,h2,h3,h4,_,h5⟩:=yQ;refine Nw I (by rw[e];exact True.intro) hs ⟨q,hq⟩ ⟨hl,hd,_,(rel.put k eb rv).keeps fun c ys ec=> ?_,q,es,ep,hq,h2,h3,h4,h5⟩;rw[fU (pN ec e (fun z=>nomatch z))];exact ec
end
section
variable {X:Cx} {fM:List (Addr×Obj)} {σ:St} {H:Hp} {s:Shared} {a:Addr} {kvs:List (Key×V)} {k:Key} {u:Value} {A:Around} {E:Value->Shared->Prop}
theorem aam{Q:Value->Shared->Prop}(I:Inv X fM σ H s)(e:Rd H a (.dK kvs))(h:∀t s',Inv X fM σ H s'->Q (.int kvs.length t) s'):wpAny (model X.prog X.w) A (call (.builtin "len") [.ref a]) Q E s:=by
 obtain⟨z,hd,vs,rel,dd⟩:=uM I.gj e;refine call_len_dict hd dd (by rw[<-rel.length];rw[sizeLine_eq] at z;omega) ?_;rw[<-rel.length];exact h _ _ (I.tok _)
end
def Hn(i:Expr):Prop:=∀ov iv,subscripted i false ov iv=operate [ov,iv] (getItem ov iv)
theorem Ny{prog:Program}{w:World}{A:Around}{E:Value->Shared->Prop}{s:Shared}{env:Env}{value qD:Expr}{pos:Pos}{T id:String}{Q:Value->Shared->Prop}
 (hl:typeLookup (.type T) "__getitem__"=pure (some (.builtin id))) (hs:Hn qD)
 (h:wpAny (model prog w) A (eval value env) (fun o iL=>wpAny (model prog w) A (eval qD env) (fun i jN=>jN.TypeIs o T/\wpAny (model prog w) A (getItem o i) Q E jN) E iL) E s):
 wpAny (model prog w) A (eval (.Subscript value qD pos) env) Q E s:=by
 refine Subscript_ (bF h (fun o iL wD=>bF wD (fun i jN yD=> ?_) fun _ _ x=>x) fun _ _ x=>x);obtain⟨hT,yD⟩:=yD;unfold subscriptTail;refine ay ?_;rw[getitemInPython_of_ne hT.not_modules];refine ay (wpAny_specialOf hT hl ?_)
 have fin:wpAny (model prog w) A (subscripted qD false o i) (fun r sQ=>wpAny (model prog w) A (letTemporaryGo value o r>>=fun _=>pure r) Q E sQ) E jN:=by
  rw[hs o i];exact wpAny_operating (bF yD (fun r sQ Bz=>ay (wpAny_letTemporaryGo (aY Bz))) fun _ _ x=>x)
 first
  |exact aY (ay fin)
  |exact ay (aY (ay fin))
  |exact ay fin
theorem UC{X:Cx}{fM:List (Addr×Obj)}{σ:St}{H:Hp}{s:Shared}{a:Addr}{y:V}{o:Option V}(I:Inv X fM σ H s)(g:lL H a y o):s.TypeIs (.ref a) "dict":=by
 rcases g with⟨kvs,k,e,_,_⟩|⟨kvs,k,b,e,_,_,_⟩
 ·obtain⟨_,_,vs,_,dd⟩:=uM I.gj e;exact dd.typeIs
 ·obtain⟨_,_,xs,_,dd⟩:=wj I.gj e;exact dd.typeIs
def aan(td ty:TE):TE:=fun σ H Q=>td σ H fun x H1=>ty σ H1 fun y H2=>∃a v,x=.ref a/\lL H2 a y (some v)/\Q v H2
def abn(ty td:TE):TE:=fun σ H Q=>ty σ H fun y H1=>td σ H1 fun x H2=>∃a o,x=.ref a/\lL H2 a y o/\Q (.bl o.isSome) H2
def aao(td ty tv:TE):TS:=fun D σ H=>tv σ H fun v H1=>td σ H1 fun x H2=>ty σ H2 fun y H3=>∃a H4,x=.ref a/\uY H3 a y v H4/\D.nx σ H4
section
variable {X:Cx} {o i e value:Expr} {pos kW mS:Pos} {td ty tv:TE}
theorem Nz(hu:X.A.units+1<cLine)(ho:PE X o td)(hi:PE X i ty)(hs:Hn i):PE X (.Subscript o i pos) (aan td ty):=by
 intro fM s σ H Q I h;refine Ny PySem.F.slot_dict_getitem.lookup hs (gn (ho fM s σ H _ I h) fun u s1 ⟨x,H1,I1,rx,q1⟩=>gn (hi fM s1 σ H1 _ I1 q1) fun iv s2 ⟨y,H2,I2,ry,a,v,ex,g,q2⟩=> ?_);subst ex;obtain rfl:u=Value.ref a:=rx;exact⟨UC I2 g,V4 hu I2 g ry fun w' s3 I3 oj=>⟨v,H2,I3,oj,q2⟩⟩
theorem Of(hu:X.A.units+1<cLine)(hi:PE X i ty)(ho:PE X o td):PC X .In i o (abn ty td):=by
 intro fM s σ H Q I h;refine gn (hi fM s σ H _ I h) fun iv s1 ⟨y,H1,I1,ry,q1⟩=>gn (ho fM s1 σ H1 _ I1 q1) fun u s2 ⟨x,H2,I2,rx,a,ov,ex,g,q2⟩=> ?_
 subst ex;obtain rfl:u=Value.ref a:=rx;exact abm hu I2 g ry fun s3 I3=>⟨.bl ov.isSome,H2,I3,Z,q2⟩
theorem Gw(hu:X.A.units+1<cLine)(ho:PE X o td)(hi:PE X i ty)(hv:PE X value tv)(hs:swapsWith value (some (.Subscript o i kW)) pos.line X.env=pure false):
 PS X (.Assign [.Subscript o i kW] value pos) (aao td ty tv):=by
 intro fM s σ H D I h;refine wpAny_Assign_Subscript (gn (hv fM s σ H _ I h) fun r s1 ⟨v,H1,I1,rv,q1⟩=>gn (ho fM s1 σ H1 _ I1 q1) fun u s2 ⟨x,H2,I2,rx,q2⟩=>gn (hi fM s2 σ H2 _ I2 q2) fun iv s3 ⟨y,H3,I3,ry,a,H4,ex,g,q3⟩=> ?_) hs;subst ex;obtain rfl:u=Value.ref a:=rx;exact V5 hu I3 g ry rv fun s4 I4=>⟨σ,H4,I4,q3⟩
end
theorem W8{P:Program}{w:World}{H:Hp}(h:Heap)(hb:sysModules<h.objs.size):jk P w H (h.push {cls:=.type "dict",data:=.dict #[]}) h.objs.size (.dK []):=
 ⟨aN _,cO.mpr (cJ (ba hb)),[],.nil,Heap.DictOf.new h⟩
def Zv:TE:=fun _ H Q=>∀p,H p=none->Q (.ref p) (fN H p (.dK []))
section
variable {X:Cx} {pos:Pos}
theorem FY:PE X (.Dict [] [] pos) Zv:=fun fM s σ H Q I h=>
 wpAny_Dict_empty ⟨.ref s.heap.objs.size,_,I.laid (a:=s.heap.objs.size) (o:=.dK []) (t':=s.toks) (fun _ _ q=>aC _ q) (aA _) (W8 s.heap I.big),Z,h _ (I.gj.fresh (aA _))⟩
end
structure M2(X:Cx)(o:Expr)(m:Str)(jD:Pos)(e f:Expr)(jU:Pos):Prop where
 base:attributeBase o m X.env (eval o X.env)=eval o X.env
 iD:((backTo jU (starEach [e,f] X.env)).all (fun x=> !x.1)&&(backToKw jU (keywordEach [] X.env)).all (fun x=>x.1.isSome)
  &&decide (([e,f]:List Expr).length+([]:List Keyword).length+(if ([]:List Keyword).isEmpty then 0 else 1)<30))=true
 line:(jD.endLine==jU.line)=true
 aap:backTo jU (starEach [e,f] X.env)=[(false,eval e X.env),(false,eval f X.env)]
def PD(H:Hp)(a:Addr):Prop:=(∃kvs,Rd H a (.dK kvs))\/∃kvs,Rd H a (.dT kvs)
theorem Zw{X:Cx}{fM:List (Addr×Obj)}{σ:St}{H:Hp}{s:Shared}{a:Addr}(I:Inv X fM σ H s)(d:PD H a):
 s.TypeIs (.ref a) "dict"/\(∀b,Value.ref a=.ref b->∃ob,s.heap.get? b=some ob/\ob.dict=none)/\(a==sysModules)=false:=by
 rcases d with⟨kvs,e⟩|⟨kvs,e⟩
 ·obtain⟨_,hd,vs,_,dd⟩:=uM I.gj e;refine⟨dd.typeIs,fun b q=> ?_,hd⟩;cases q;obtain⟨ob,_,_,h1,h2,_⟩:=dd;exact⟨ob,h1,h2.2.1⟩
 ·obtain⟨_,hd,xs,_,dd⟩:=wj I.gj e;refine⟨dd.typeIs,fun b q=> ?_,hd⟩;cases q;obtain⟨ob,_,_,h1,h2,_⟩:=dd;exact⟨ob,h1,h2.2.1⟩
section
variable {X:Cx} {fM:List (Addr×Obj)} {σ:St} {H:Hp} {s:Shared} {a:Addr} {y d:V} {u r:Value} {o:Option V} {A:Around} {E:Value->Shared->Prop}
theorem Zx{Q:Value->Shared->Prop}(hu:A.units+1<cLine)(I:Inv X fM σ H s)(g:lL H a y o)(ry:RelV y u)(rd:RelV d r)(h:∀w' s',Inv X fM σ H s'->RelV (o.getD d) w'->Q w' s'):
 wpAny (model X.prog X.w) A (call (.builtin "dict.get") [.ref a,u,r]) Q E s:=by
 rcases g with⟨kvs,k,e,ey,l⟩|⟨kvs,k,b,e,ey,eb,l⟩
 ·subst ey;obtain⟨z,hd,vs,rel,dd⟩:=uM I.gj e;refine call_meetsIn fu dd.typeIs PySem.F.entry_dict_get (PySem.F.args_dict_get_3 _ _ _) (meets_dict_get_default (k9 X.prog X.w) a (uL ry) hd r) ⟨_,dd.mapOf,h _ _ (I.tok _) ?_⟩;rw[l];exact(rel.val k).getD rd
 ·subst ey;cases (show u=Value.ref b from ry);obtain⟨z,hd,xs,rel,dd⟩:=wj I.gj e;refine call_meetsIn fu dd.typeIs PySem.F.entry_dict_get (PySem.F.args_dict_get_3 _ _ _) (meetsH_dict_get_default (tupleKind (k9 X.prog X.w)) a b hd r) ⟨eU hu,k,xs,yo I.gj eb,dd,h _ _ (I.tok _) ?_⟩;rw[l];exact(rel.val k).getD rd
end
def Zy(td ty tx:TE):TE:=fun σ H Q=>td σ H fun x H1=>∃a,x=.ref a/\PD H1 a/\ty σ H1 fun y H2=>tx σ H2 fun z H3=>∃o,lL H3 a y o/\Q (o.getD z) H3
section
variable {X:Cx} {o e f:Expr} {jD jU:Pos} {td ty tx:TE}
theorem Az(hu:X.A.units+1<cLine)(ho:PE X o td)(he:PE X e ty)(hf:PE X f tx)(m:M2 X o "get" jD e f jU):PE X (.Call (.Attribute o "get" jD) [e,f] [] jU) (Zy td ty tx):=by
 intro fM s σ H Q I h;refine wpAny_Call_method m.base m.iD m.line PySem.F.plainAttrs_dict fu PySem.F.type_dict_get (gn (ho fM s σ H _ I h) fun u s1 ⟨x,H1,I1,rx,a,ex,d,q1⟩=> ?_);subst ex;obtain rfl:u=Value.ref a:=rx;obtain⟨t1,t2,_⟩:=Zw I1 d;refine⟨t1,t2,?_⟩;rw[m.aap]
 refine dH Z (Calls.evalArgs_plain (eX (gn (he fM s1 σ H1 _ I1 q1) fun iv s2 ⟨y,H2,I2,ry,q2⟩=>
  eX (gn (hf fM s2 σ H2 _ I2 q2) fun fv s3 ⟨z,H3,I3,rz,ov,g,q3⟩=>Calls.spliced_nil ?_))))
 exact Zx hu I3 g ry rz fun w' s4 I4 oj=>⟨_,H3,I4,oj,q3⟩
end
section
variable {X:Cx} {fM:List (Addr×Obj)} {σ:St} {H:Hp} {s:Shared} {h':Heap}
theorem Inv.Yi{t':Nat}{ch:List Addr}(I:Inv X fM σ H s)(k:∀b o,b∉ch->s.heap.get? b=some o->h'.get? b=some o)(hf:∀b∈ch,oR X fM H b):Inv X fM σ H {s with heap:=h',toks:=t'}:=by
 have sX:∀b u,H b=some u->b∉ch:=fun b u e z=>by
  have q:=(hf b z).1;rw[q] at e;cases e
 refine I.step (g':=s.gens) (d':=s.drawn) (ch:=ch) (fun b hb=>⟨(hf b hb).2.2.2.1,(hf b hb).2.1,(hf b hb).2.2.2.2.1,(hf b hb).2.2.2.2.2⟩) (fun b o _ _ hc e _=>k b o hc e) (fun b o _ _ hc e _=>⟨o.slots,k b o hc e⟩)
  (fun _ _ _ _ n=>n) (fun b o hc e=>⟨o,k b o hc e⟩) (fun _ _ e=>e) (fun _ _ _ e=>e) (fun b ps e=>⟨#[],by rw[e];simp⟩) (fun m hm=> ?_) (fun b u e=> ?_) I.bare
 ·obtain⟨o,es,ep,ho,r⟩:=hm;exact⟨o,es,ep,k _ o (fun z=>(hf _ z).2.1 rfl) ho,r⟩
 ·refine(I.gj b u e).nz (fun c v hc q=>k c v ?_ q) (fun _ q=>q) fun _ _ q=>q
  rcases hc with z|z
  ·rw[z];exact sX b u e
  ·exact sX c _ z
theorem Inv.Fi{t':Nat}{ch:List Addr}{T:Addr}{ob:HO}(I:Inv X fM σ H s)(k:∀b o,b∉ch->s.heap.get? b=some o->h'.get? b=some o)(hf:∀b∈ch,oR X fM H b)(hT:s.heap.objs.size<=T)
 (new:jk X.prog X.w (fN H T ob) h' T ob):Inv X fM σ (fN H T ob) {s with heap:=h',toks:=t'}:=by
 have hn:H T=none:=I.gj.fresh hT
 have sX:∀b u,H b=some u->b∉ch:=fun b u e z=>by
  have q:=(hf b z).1;rw[q] at e;cases e
 refine I.step (g':=s.gens) (d':=s.drawn) (ch:=ch) (fun b hb=>⟨(hf b hb).2.2.2.1,(hf b hb).2.1,(hf b hb).2.2.2.2.1,(hf b hb).2.2.2.2.2⟩) (fun b o _ _ hc e _=>k b o hc e) (fun b o _ _ hc e _=>⟨o.slots,k b o hc e⟩)
  (fun b o _ e n=> ?_) (fun b o hc e=>⟨o,k b o hc e⟩) (fun b xs e=> ?_) (fun b o u e=> ?_) (fun b ps e=>⟨#[],?_⟩) (fun m hm=> ?_) (fun b u e=> ?_) I.bare
 ·rw[fU (ba (aU (aK e) hT))];exact n
 ·rw[fU (gh e hn)];exact e
 ·rw[fU (gh e hn)];exact e
 ·rw[fU (gh e hn),e];simp
 ·obtain⟨o,es,ep,ho,r⟩:=hm;exact⟨o,es,ep,k _ o (fun z=>(hf _ z).2.1 rfl) ho,r⟩
 ·by_cases hb:b=T
  ·subst hb;rw[fP] at e;cases e;exact new
  ·rw[fU hb] at e;refine(I.gj b u e).nz (fun c v hc q=>k c v ?_ q) (fun c q=>by rw[fU (gh q hn)];exact q) fun c xs q=>by rw[fU (gh q hn)];exact q
   rcases hc with z|z
   ·rw[z];exact sX b u e
   ·exact sX c _ z
theorem Inv.lock{d:Addr}{u:HO}(I:Inv X fM σ H s)(h:H d=some u)(mu:sU (some u)):∃od,Inv X fM σ (fN H d (.jQ od u)) s:=by
 have x:=I.gj d u h
 have ex:∃od,s.heap.get? d=some od:=by
  cases u with
  |lst xs=>obtain⟨_,_,_,_,e⟩:=x;exact⟨_,e⟩
  |dK kvs=>obtain⟨_,_,_,_,o,_,_,e,_⟩:=x;exact⟨o,e⟩
  |dT kvs=>obtain⟨_,_,_,_,o,_,_,e,_⟩:=x;exact⟨o,e⟩
  |set S n=>obtain⟨o,_,_,_,e,_⟩:=x;exact⟨o,e⟩
  |ins C dx fs=>obtain⟨_,_,_,e,_⟩:=x;exact⟨_,e⟩
  |ext φ=>obtain⟨_,⟨_,e⟩,_⟩:=x;exact⟨_,e⟩
  |_=>exact False.elim mu
 obtain⟨od,e⟩:=ex
 have new:jk X.prog X.w (fN H d (.jQ od u)) s.heap d (.jQ od u):=by
  refine⟨e,x.nz (fun b v _ q=>q) (fun b q=> ?_) fun b xs q=> ?_⟩
  ·rw[fU (fun z=>by rw[z,h] at q;cases q;exact mu)];exact q
  ·rw[fU (fun z=>by rw[z,h] at q;cases q;exact mu)];exact q
 exact⟨od,I.write (x:=d) (e:=d) (t':=s.toks) (h':=s.heap) (by rw[h];exact mu) (.inl Z) (fun b v _ q=>q) ⟨od,e⟩ new⟩
theorem Inv.aaq{d:Addr}{u:HO}(I:Inv X fM σ H s)(h:H d=some u)(mu:sU (some u)):∀o' u',X.u5 d≠some (.jQ o' u'):=fun o' u' e=>by
 have q:=I.base.lJ d o' u' e;rw[h] at q;cases q;exact mu
theorem Inv.unlock{d:Addr}{od:Obj}{u:HO}(I:Inv X fM σ H s)(h:H d=some (.jQ od u))(hn:∀o' u',X.u5 d≠some (.jQ o' u')):Inv X fM σ (fN H d u) s:=by
 have wV:∀b o,H b=some o->(∀o' u',o≠ .jQ o' u')->b≠d:=fun b o e lp z=>by
  rw[z,h] at e;cases e;exact lp _ _ Z
 have neN:∀b,H b=none->b≠d:=fun b e z=>by rw[z,h] at e;cases e
 refine⟨I.ok,I.os,I.bare,⟨I.base.keep,I.base.slot,fun b o e n hx=> ?_,I.base.there,fun b xs e=> ?_,fun b o x e=> ?_,fun b ps e=> ?_⟩,I.loc,I.cell,?_,fun x c e=> ?_,fun p hp=> ?_,fun b o e=> ?_,I.len⟩
 ·rw[fU (neN b (I.base.free b o e n hx))];exact I.base.free b o e n hx
 ·have q:=I.base.mj b xs e;rw[fU (wV b _ q (fun _ _ z=>nomatch z))];exact q
 ·have q:=I.base.lJ b o x e;rw[fU (fun z=>by rw[z] at e;exact hn _ _ e)];exact q
 ·obtain⟨m,q⟩:=I.base.mF b ps e;exact⟨m,by rw[fU (wV b _ q (fun _ _ z=>nomatch z))];exact q⟩
 ·rw[fU (neN _ I.free)];exact I.free
 ·rw[fU (neN c (I.mP x c e))];exact I.mP x c e
 ·obtain⟨e,n,r⟩:=I.pin p hp;exact⟨e,by rw[fU (neN _ n)];exact n,r⟩
 ·by_cases hb:b=d
  ·rw[hb,fP] at e;cases e;rw[hb];obtain⟨_,x⟩:=I.gj d _ h;exact x.nz (fun c v _ q=>q) (fun c q=>by rw[fU (wV c _ q (fun _ _ z=>nomatch z))];exact q) fun c xs q=>by rw[fU (wV c _ q (fun _ _ z=>nomatch z))];exact q
  ·rw[fU hb] at e;exact(I.gj b o e).nz (fun c v _ q=>q) (fun c q=>by rw[fU (wV c _ q (fun _ _ z=>nomatch z))];exact q) fun c xs q=>by rw[fU (wV c _ q (fun _ _ z=>nomatch z))];exact q
end
def Zz(t:TE):TE:=fun σ H Q=>∃d u,H d=some u/\sU (some u)/\∀od,t σ (fN H d (.jQ od u)) fun v H'=>H' d=some (.jQ od u)/\Q v (fN H' d u)
section
variable {X:Cx}
theorem Yj{e:Expr}{t:TE}(h:PE X e t):PE X e (Zz t):=by
 intro fM s σ H Q I hw;obtain⟨d,u,hd,mu,hw⟩:=hw;obtain⟨od,I1⟩:=I.lock hd mu;refine gn (h fM s σ _ _ I1 (hw od)) fun v s1 ⟨x,H1,I2,r,e2,q⟩=> ?_
 exact⟨x,_,I2.unlock e2 (I.aaq hd mu),r,q⟩
theorem Bb{tg:Expr}{fM:List (Addr×Obj)}{σ:St}{H:Hp}{s:Shared}{R:It->Hp->Prop}{J:It}{tn:Nat->Heap->Prop}{tk:Nat}(I:Inv X fM σ H s)(o:Obj)
 (T:pR X.prog X.w X.K tg J [s.heap.objs.size] s.heap.objs.size tn) (st:tn 0 (s.heap.push o)) (q:R J H):BO X fM σ tg R (.ref s.heap.objs.size) {s with heap:=s.heap.push o,toks:=tk}:=by
 refine⟨s.heap.objs.size,[s.heap.objs.size],tn,J,H,Z,I.kept fun b ob e=>aC _ e,T,st,fun b hb=> ?_,q⟩;have e:b=s.heap.objs.size:=by simpa using hb
 subst e;exact I.rk (aA _) (I.gj.fresh (aA _))
end
def yR(lo c:Int)(n:Nat):It:=⟨fun i _=>i<n,fun i H x H'=>H'=H/\x=.int (lo+(i:Nat)*c),fun i _=>n<=i⟩
theorem UD{P:Program}{w:World}{K:PySem.W.Frag}{tg:Expr}(it:Addr)(lo c:Int)(n:Nat):pR P w K tg (yR lo c n) [it] it (fun i h=>IsRangeIter h it (lo+(i:Nat)*c) ((n:Int)-(i:Nat)) c) where
 mem:=by simp
 obj:=fun i h st b hb=>by
  have e:b=it:=by simpa using hb
  subst e;exact⟨_,st,fun v z=>nomatch z⟩
 keep:=fun i h h' st k=>k it (by simp) _ st
 item:=by
  intro X hP hw hK hc i fM s σ H E I hf st hg;subst hP hw hK;obtain⟨f0,f1,f2,f3,f4,f5⟩:=hf it (by simp);have W:=Walks.range (prog:=X.prog) (w:=X.w) (I.ok.hd hc) it lo c n;refine W.item i s _ _ hg st fun v h' tk hv mn kk=> ?_
  obtain⟨t,rfl⟩:=hv;have I1:Inv X fM σ H {s with heap:=h',toks:=tk}:=I.turned (fun b o hb e=>kk b o (by simpa using hb) e) f0 f1 f3 f4 f5;exact⟨_,Z,wf (s:={s with heap:=h',toks:=tk}) (n:="range_iterator") mn Z Z (by decide) ⟨.int (lo+(i:Nat)*c),H,I1,⟨t,Z⟩,⟨Z,Z⟩,mn,fun b hb=>(hf b hb).1⟩⟩
 done:=by
  intro X hP hw hK hc i fM s σ H E I hf st hg;subst hP hw hK;obtain⟨f0,f1,f2,f3,f4,f5⟩:=hf it (by simp);exact wpAny_pyNext_range_end (I.ok.hd hc) st (by have:n<=i:=hg;omega) fun h' eb=>⟨Z,I.turned (t':=s.toks) (fun b o hb e=>eb b o hb e) f0 f1 f3 f4 f5⟩
 self:=fun A i s Q E st h=>wpAny_pyIter_rangeiter st h
def PF(i j c:Int)(n:Nat):Prop:=c≠0/\c.natAbs<1073741824/\Builtin.Range.small i j c=true/\Builtin.Range.rangeSize i j c=n
def aar(ta:TA):TI:=fun σ H R=>ta σ H fun vs H1=>∃(i j c:Int) (n:Nat),vs=[.int i,.int j,.int c]/\PF i j c n/\R (yR i c n) H1
section
variable {X:Cx} {tg:Expr}
theorem V6{a b c:Expr}{ta:TA}{p pos:Pos}(hg:Gl X "range")(hm:X.mg "range"=none)(ha:PA X [a,b,c] ta)
 (hs:starEach [a,b,c] X.env=(false,eval a X.env)::starEach [b,c] X.env:=by rfl) (jq:(backTo pos (starEach [b,c] X.env)).any (·.1)=false:=by rfl):
 PI X tg (.Call (.Name "range" p) [a,b,c] [] pos) (aar ta):=by
 intro fM s σ H R I h;refine Call_ (qu I hg hm boot_range (cp (gn (ha pos fM s σ H _ I h) fun us s1 ⟨vs,H1,I1,r1,q1⟩=> ?_) hs jq));obtain⟨i,j,k,n,e,⟨c0,c1,c2,c3⟩,q⟩:=q1;subst e;cases r1 with
 |cons r rr=>
  cases rr with
  |cons r' rr=>
   cases rr with
   |cons r'' rr=>
    cases rr;obtain⟨t,rfl⟩:=r;obtain⟨t',rfl⟩:=r';obtain⟨t'',rfl⟩:=r'';refine call_range_3 c0 ?_ (.inl (PyProof.noPylong_small c1));refine wpAny_pyIter_range (IsRange.new ..) c2 ?_;have I2:Inv X fM σ H1 {s1 with heap:=s1.heap.push {cls:=.type "range",data:=.fields #[.int i t,.int j t',.int k t'']}}:=I1.kept (t':=s1.toks) fun b o e=>aC _ e
    refine Bb (tk:=s1.toks) I2 _ (UD _ i k n) ?_ q;have e1:i+((0:Nat):Int)*k=i:=by simp
    have e2:(n:Int)-((0:Nat):Int)=Builtin.Range.rangeSize i j k:=by rw[c3];simp
    show IsRangeIter _ _ (i+((0:Nat):Int)*k) ((n:Int)-((0:Nat):Int)) k;rw[e1,e2];exact aO _ Z
end
def yS(x:Str):It:=⟨fun i _=>i<x.cps.size,fun i H v H'=>H'=H/\∃c,x.cps[i]? =some c/\v=.str ⟨#[c]⟩,fun i _=>x.cps.size<=i⟩
theorem MQ{P:Program}{w:World}{K:PySem.W.Frag}{tg:Expr}(it:Addr)(x:Str)(t:Tok)(ty:String)(tz:ty="str_ascii_iterator"\/ty="str_iterator"):
 pR P w K tg (yS x) [it] it (fun i h=>h.IsStrIter it ty x t i) where
 mem:=by simp
 obj:=fun i h st b hb=>by
  have e:b=it:=by simpa using hb
  subst e;obtain⟨o,e,c,d⟩:=st;exact⟨o,e,fun v z=>by rw[d] at z;cases z⟩
 keep:=fun i h h' st k=>let ⟨o,ho,r⟩:=st;⟨o,k it (by simp) o ho,r⟩
 item:=by
  intro X hP hw hK hc i fM s σ H E I hf st hg;subst hP hw hK;obtain⟨f0,f1,f2,f3,f4,f5⟩:=hf it (by simp)
  have W:Walks X.prog X.w X.A it [it] [it] x.cps.size (SignAt x) (fun i h=>h.IsStrIter it ty x t i):=by
   rcases tz with e|e
   ·rw[e];exact Walks.strAscii (I.ok.hd hc) it x t
   ·rw[e];exact Walks.strWide (I.ok.hd hc) it x t
  have tE:["enumerate","zip","dict_itemiterator","dict_reverseitemiterator","odict_iterator","itertools.zip_longest","itertools.pairwise"].contains ty=false:=by
   rcases tz with e|e
   ·rw[e];decide
   ·rw[e];decide
  refine W.item i s _ _ hg st fun v h' tk hv mn kk=> ?_
  obtain⟨c,u,hcx,rfl⟩:=hv;have I1:Inv X fM σ H {s with heap:=h',toks:=tk}:=I.turned (fun b o hb e=>kk b o (by simpa using hb) e) f0 f1 f3 f4 f5;obtain⟨oi,e,cc,dd⟩:=id mn;exact⟨_,Z,wf (s:={s with heap:=h',toks:=tk}) e cc dd tE ⟨.str ⟨#[c]⟩,H,I1,⟨u,Z⟩,⟨Z,c,hcx,Z⟩,mn,fun b hb=>(hf b hb).1⟩⟩
 done:=by
  intro X hP hw hK hc i fM s σ H E I hf st hg;subst hP hw hK;obtain⟨f0,f1,f2,f3,f4,f5⟩:=hf it (by simp);have hx:x.cps[i]? =none:=Array.getElem?_eq_none hg;rcases tz with e|e
  ·rw[e] at st;exact wpAny_pyNext_ascii_end (I.ok.hd hc) st hx fun h' eb=>⟨Z,I.turned (t':=s.toks) (fun b o hb e=>eb b o hb e) f0 f1 f3 f4 f5⟩
  ·rw[e] at st;exact wpAny_pyNext_wide_end (I.ok.hd hc) st hx fun h' eb=>⟨Z,I.turned (t':=s.toks) (fun b o hb e=>eb b o hb e) f0 f1 f3 f4 f5⟩
 self:=fun A i s Q E st h=>by
  rcases tz with e|e
  ·rw[e] at st;exact wpAny_pyIter_striter_ascii st h
  ·rw[e] at st;exact wpAny_pyIter_striter_wide st h
def abo(te:TE):TI:=fun σ H R=>te σ H fun v H1=>∃x,v=.str x/\R (yS x) H1
theorem GN{X:Cx}{tg e:Expr}{te:TE}(he:PE X e te):PI X tg e (abo te):=by
 intro fM s σ H R I h;refine gn (he fM s σ H _ I h) fun v s1 ⟨y,H1,I1,r1,x,ex,q⟩=> ?_
 subst ex;obtain⟨t,rfl⟩:=r1;cases ha:x.cps.all (·<128)
 ·exact wpAny_pyIter_wide ha (Bb (tk:=s1.toks) I1 _ (MQ _ x t "str_iterator" (.inr Z)) ⟨_,aO _ Z,Z,Z⟩ q)
 ·exact wpAny_pyIter_ascii ha (Bb (tk:=s1.toks) I1 _ (MQ _ x t "str_ascii_iterator" (.inl Z)) ⟨_,aO _ Z,Z,Z⟩ q)
theorem ZA{κ:Type}{kvs:List (κ×V)}{vs:List (κ×Value)}(h:KV kvs vs):∀{i:Nat} {k:κ} {v:V},kvs[i]? =some (k,v)->∃u,vs[i]? =some (k,u)/\RelV v u:=by
 unfold KV at h
 induction h with
 |nil=>intro i k v e;simp at e
 | @cons a b Hf Hg r t ih=>
   intro i k v e;cases i with
   |zero=>
    simp only[List.getElem?_cons_zero,Option.some.injEq] at e;subst e;refine⟨b.2,?_,r.2⟩;simp only[List.getElem?_cons_zero];exact congrArg some (Prod.ext r.1.symm Z)
   |succ j=>
    simp only[dC] at e⊢;exact ih e
section
variable {X:Cx} {fM:List (Addr×Obj)} {σ:St} {H:Hp} {s:Shared} {d:Addr} {o:Obj}
theorem Inv.Ho{kvs:List (Key×V)}(I:Inv X fM σ H s)(h:H d=some (.jQ o (.dK kvs))):
 (d==sysModules)=false/\s.heap.get? d=some o/\o.ExactDict/\∃(es:Array DictEntry) (ep:Nat) (vs:List (Key×Value)),o.data=.dict es ep/\es.size=kvs.length/\KV kvs vs/\s.heap.DictAt (k9 X.prog X.w) d vs ep:=by
 obtain⟨hd,z,hs,vs,kv,o',es,ep,ho,hx,lP,r⟩:=I.gj d _ h;rw[hd] at ho;cases ho;refine⟨hs,hd,hx,es,ep,vs,lP,?_,kv,o,es,hd,hx,lP,r⟩;have l1:=r.2.1.length;have l2:kvs.length=vs.length:=dP kv;rw[fD] at l1;omega
end
def yT(d:Addr)(o:Obj)(kvs:List (Key×V)):It:=
 ⟨fun i H=>H d=some (.jQ o (.dK kvs))/\i<kvs.length,fun i H x H'=>H'=H/\∃k,kvs[i]? =some (k,x),fun i H=>H d=some (.jQ o (.dK kvs))/\kvs.length<=i⟩
theorem NA{o:Obj}{es rq:Array DictEntry}{ep sW:Nat}(h:o.data=.dict es ep)(h':o.data=.dict rq sW):rq=es/\sW=ep:=by
 rw[h] at h';cases h';exact⟨Z,Z⟩
section
variable {P:Program} {w:World} {K:PySem.W.Frag} {tg:Expr} {d:Addr} {o:Obj} {es:Array DictEntry} {ep:Nat}
theorem V7{kvs:List (Key×V)}(it:Addr)(PH:o.data=.dict es ep):pR P w K tg (yT d o kvs) [it] it (fun i h=>h.IsValIter it d i kvs.length ep) where
 mem:=by simp
 obj:=fun i h st b hb=>by
  have e:b=it:=by simpa using hb
  subst e;obtain⟨oi,e,c,dd⟩:=st;exact⟨oi,e,fun v z=>by rw[dd] at z;cases z⟩
 keep:=fun i h h' st k=>st.at fun oi e=>k it (by simp) oi e
 item:=by
  intro X hP hw hK hc i fM s σ H E I hf st hg;subst hP hw hK;obtain⟨hd,hi⟩:=hg;obtain⟨f0,f1,f2,f3,f4,f5⟩:=hf it (by simp);obtain⟨hs,PJ,hx,rq,sW,vs,lP,hsz,kv,hm⟩:=I.Ho hd;obtain⟨rfl,rfl⟩:=NA PH lP;obtain⟨⟨k,v⟩,PL⟩:∃p,kvs[i]? =some p:=⟨kvs[i],ak hi⟩;obtain⟨u,hu,ru⟩:=ZA kv PL;have hl:kvs.length=vs.length:=dP kv;rw[hl] at st;refine wpAny_pyNext_values_item st hm hu fun h' mn sb=> ?_
  have I1:Inv X fM σ H {s with heap:=h'}:=I.turned (t':=s.toks) (fun b ob hb e=>(sb.2 b hb).trans e) f0 f1 f3 f4 f5;obtain⟨oi,e,c,dd⟩:=id mn;refine⟨u,Z,wf (s:={s with heap:=h'}) e c dd (by decide) ⟨v,H,I1,ru,⟨Z,k,PL⟩,?_,fun b hb=>(hf b hb).1⟩⟩;show h'.IsValIter it d (i+1) kvs.length _;rw[hl];exact mn
 done:=by
  intro X hP hw hK hc i fM s σ H E I hf st hg;subst hP hw hK;obtain⟨hd,hi⟩:=hg;obtain⟨f0,f1,f2,f3,f4,f5⟩:=hf it (by simp);obtain⟨hs,PJ,hx,rq,sW,vs,lP,hsz,kv,hm⟩:=I.Ho hd;obtain⟨rfl,rfl⟩:=NA PH lP;have hl:kvs.length=vs.length:=dP kv;rw[hl] at st;exact wpAny_pyNext_values_end (I.ok.hd hc) st hm (bA (by omega)) fun h' eb=>⟨Z,I.turned (t':=s.toks) (fun b ob hb e=>eb b ob hb e) f0 f1 f3 f4 f5⟩
 self:=fun A i s Q E st h=>wpAny_pyIter_valiter st h
end
def aas(td:TE):TI:=fun σ H R=>td σ H fun x H1=>∃d o kvs,x=.ref d/\H1 d=some (.jQ o (.dK kvs))/\R (yT d o kvs) H1
section
variable {X:Cx} {tg e:Expr} {td:TE} {jD jU:Pos}
theorem V8(he:PE X e td)(rj:attributeBase e "values" X.env (eval e X.env)=eval e X.env:=by rfl)(oO:(jD.endLine==jU.line)=true:=by rfl):PI X tg (.Call (.Attribute e "values" jD) [] [] jU) (aas td):=by
 intro fM s σ H R I h;refine wpAny_Call_method (T:="dict") (id:="dict.values") rj Z oO F.plainAttrs_dict F.slot_dict_values F.type_dict_values (gn (he fM s σ H _ I h) fun u s1 ⟨x,H1,I1,rx,d,o,kvs,ex,hd,q⟩=> ?_);subst ex;obtain rfl:u=Value.ref d:=rx;obtain⟨hs,PJ,hx,es,ep,vs,lP,hsz,kv,hm⟩:=I1.Ho hd;have hl:kvs.length=vs.length:=dP kv;refine⟨hm.dictOf.typeIs,hm.dictOf.mapOf.noDict,?_⟩;have I2:Inv X fM σ H1 {s1 with heap:=s1.heap.push {cls:=.type "dict_values",data:=.fields #[.ref d]}}:=I1.kept (t':=s1.toks) fun b ob q=>aC _ q
 have fin:wpAny (model X.prog X.w) X.A (pyIter (.ref s1.heap.objs.size)) (BO X fM σ tg R) X.xe {s1 with heap:=s1.heap.push {cls:=.type "dict_values",data:=.fields #[.ref d]}}:=by
  refine wpAny_pyIter_values (d:=d) (knd:=k9 X.prog X.w) ⟨_,aO _ Z,Z,Z⟩ (hm.push _) (Bb (tk:=s1.toks) I2 _ (V7 _ lP) ⟨_,aO _ Z,Z,?_⟩ q);rw[hl]<;>rfl
 show wpAny _ _ (callWith jU (.builtin "dict.values") [.ref d] [] []) _ X.xe s1;exact method_meetsIn F.slot_dict_values F.entry_dict_values Z (PySem.evalArgs_none ⟨Z,hm.dictOf.typeIs,F.args_dict_values_1 _,_,meets_dict_values (k9 X.prog X.w) d hs,⟨vs,hm.dictOf⟩,fin⟩)
end
def tF(K:PySem.W.Frag)(a:Addr):It:=
 ⟨fun i H=>∃(xs:List V) (x:V),fS K H a xs/\xs[i]? =some x,fun i H v H'=>∃T x,v=.ref T/\H T=none/\H'=fN H T (.tup [.int (i:Nat),x])/\∀xs,fS K H a xs->xs[i]? =some x,fun i H=>∃xs:List V,fS K H a xs/\xs.length<=i⟩
theorem V9{P:Program}{w:World}{K:PySem.W.Frag}{oS:List Expr}{kk:Nat}{mS:Pos}(a e it:Addr):
 pR P w K (.Tuple oS kk mS) (tF K a) [e,it] e (fun i h=>(∃lr,IsEnum h e it ((i:Nat):Int) lr)/\h.IsListIter it a i/\e≠it) where
 mem:=by simp
 obj:=fun i h st b hb=>by
  obtain⟨⟨lr,he⟩,⟨o,ho,hc,hd⟩,_⟩:=st;have e':b=e\/b=it:=by simpa using hb
  rcases e' with z|z
  ·rw[z];exact⟨_,he,fun v q=>nomatch q⟩
  ·rw[z];exact⟨o,ho,fun v q=>by rw[hd] at q;cases q⟩
 keep:=fun i h h' st k=>let ⟨⟨lr,he⟩,hi,lp⟩:=st;⟨⟨lr,k e (by simp) _ he⟩,hi.at fun o q=>k it (by simp) o q,lp⟩
 item:=by
  intro X hP hw hK hc i fM s σ H E I hf st hg;subst hP hw hK;obtain⟨⟨lr,he⟩,kB,lp⟩:=st;obtain⟨xs,x,hq,hx⟩:=hg;obtain⟨fV,rv,p,hz⟩:=I.list hq;obtain⟨u,hu,ru⟩:=rv.get hx;have rD:e<s.heap.objs.size:=aK he;have HR:it<s.heap.objs.size:=by obtain⟨_,q,_⟩:=kB;exact aK q
  refine wpAny_pyNext_enum_item he kB p.isList (x:=u) (by simpa using hu) lp fun h' ho Hq hT hsz hk=> ?_
  refine⟨_,Z,wpAny_letOwnedTupleGo_enum (s:={s with heap:=h',toks:=s.toks+1}) ho fun om pY sb=> ?_⟩;have yU:om.get? s.heap.objs.size=some {cls:=.type "tuple",data:=.seq #[.int i s.toks,u]}:=(sb.2 _ (fL rD)).trans hT
  have new:jk X.prog X.w (fN H s.heap.objs.size (.tup [.int (i:Nat),x])) om s.heap.objs.size (.tup [.int (i:Nat),x]):=
   ⟨by show 2<=sizeLine;decide,[.int i s.toks,u],.cons ⟨_,Z⟩ (.cons ru .nil),⟨_,yU,Z,_,Z⟩⟩
  have I1:Inv X fM σ (fN H s.heap.objs.size (.tup [.int (i:Nat),x])) {s with heap:=om,toks:=s.toks+1}:=
   I.Fi (ch:=[e,it]) (fun b ob hb q=>(sb.2 b (fun z=>hb (by simp[z]))).trans (hk b ob (fun z=>hb (by simp[z])) (fun z=>hb (by simp[z])) q)) hf (aA _) new
  refine⟨.ref s.heap.objs.size,_,I1,Z,⟨_,x,Z,I.gj.fresh (aA _),Z,fun ys hy=>by rw[I.yd hy hq];exact hx⟩,⟨⟨u,?_⟩,Hq.at fun o q=>(sb.2 it (cJ lp)).trans q,lp⟩,fun b hb=> ?_⟩
  ·have e1:((i+1:Nat):Int)=(i:Int)+1:=by omega
   rw[e1];exact pY
  ·have HS:b<s.heap.objs.size:=by
    have e':b=e\/b=it:=by simpa using hb
    rcases e' with z|z
    ·rw[z];exact rD
    ·rw[z];exact HR
   rw[fU (ba HS)];exact(hf b hb).1
 done:=by
  intro X hP hw hK hc i fM s σ H E I hf st hg;subst hP hw hK;obtain⟨⟨lr,he⟩,kB,lp⟩:=st;obtain⟨xs,hq,hx⟩:=hg;obtain⟨fV,rv,p,hz⟩:=I.list hq;obtain⟨f0,f1,f2,f3,f4,f5⟩:=hf it (by simp);have hl:=rv.length;exact wpAny_pyNext_enum_end (I.ok.hd hc) he kB p.isList (by simp;omega) fun h' eb=>⟨Z,I.turned (t':=s.toks) (fun b o hb q=>eb b o hb q) f0 f1 f3 f4 f5⟩
 self:=fun A i s Q E st h=>let ⟨⟨_,he⟩,_⟩:=st;dR he h
def aat(K:PySem.W.Frag)(ta:TA):TI:=fun σ H R=>ta σ H fun vs H1=>∃a xs,vs=[.ref a]/\fS K H1 a xs/\R (tF K a) H1
theorem yh{X:Cx}{e:Expr}{ta:TA}{p pos mS:Pos}{oS:List Expr}{kk:Nat}(hg:Gl X "enumerate")(hm:X.mg "enumerate"=none)(ha:PA X [e] ta)(hs:starEach [e] X.env=[(false,eval e X.env)]:=by rfl):
 PI X (.Tuple oS kk mS) (.Call (.Name "enumerate" p) [e] [] pos) (aat X.K ta):=by
 intro fM s σ H R I h;refine Call_ (qu I hg hm boot_enumerate (cp (gn (ha pos fM s σ H _ I h) fun us s1 ⟨vs,H1,I1,r1,q1⟩=> ?_) hs Z));obtain⟨a,xs,ex,hq,q⟩:=q1;subst ex;cases r1 with
 |cons r rr=>
  cases rr;cases r;obtain⟨fV,rv,p',hz⟩:=I1.list hq;refine call_enumerate_list p'.isList fun h' he kB hsz hk=>dR he ?_
  have I2:Inv X fM σ H1 {s1 with heap:=h'}:=I1.kept (t':=s1.toks) hk;refine⟨s1.heap.objs.size+1,[s1.heap.objs.size+1,s1.heap.objs.size],_,_,H1,Z,I2,V9 a (s1.heap.objs.size+1) s1.heap.objs.size,⟨⟨.none,he⟩,kB,Nat.succ_ne_self _⟩,fun b hb=> ?_,q⟩;have e':b=s1.heap.objs.size+1\/b=s1.heap.objs.size:=by simpa using hb
  have pi:s1.heap.objs.size<=b:=by
   rcases e' with z|z
   ·rw[z];exact cA _ _
   ·rw[z];exact aA _
  exact I1.rk pi (I1.gj.fresh pi)
theorem Wa:bootBuiltins "zip"=some (.type "zip"):=by decide+kernel
def yV(K:PySem.W.Frag)(a b:Addr):It:=
 ⟨fun i H=>∃(xs ys:List V) (x y:V),fS K H a xs/\fS K H b ys/\xs[i]? =some x/\ys[i]? =some y,
  fun i H v H'=>∃T x y,v=.ref T/\H T=none/\H'=fN H T (.tup [x,y])/\(∀xs,fS K H a xs->xs[i]? =some x)/\∀ys,fS K H b ys->ys[i]? =some y,
  fun i H=>∃xs ys:List V,fS K H a xs/\fS K H b ys/\(xs.length<=i\/ys.length<=i)⟩
theorem W9{P:Program}{w:World}{K:PySem.W.Frag}{oS:List Expr}{kk:Nat}{mS:Pos}{a b z TI TO i1 i2:Addr}(D:ZipApart z TI TO i1 i2 a b):
 pR P w K (.Tuple oS kk mS) (yV K a b) [z,TI,TO,i1,i2] z (fun i h=>IsZip h z TI TO .none/\IsPair h TI (.ref i1) (.ref i2)/\(∃x y,IsPair h TO x y)/\h.IsListIter i1 a i/\h.IsListIter i2 b i) where
 mem:=by simp
 obj:=fun i h st c hc=>by
  obtain⟨hz,pZ,⟨x,y,qJ⟩,⟨o1,e1,_,d1⟩,⟨o2,e2,_,d2⟩⟩:=st;have e':c=z\/c=TI\/c=TO\/c=i1\/c=i2:=by simpa using hc
  rcases e' with q|q|q|q|q
  ·rw[q];exact⟨_,hz,fun v q=>nomatch q⟩
  ·rw[q];exact⟨_,pZ,fun v q=>nomatch q⟩
  ·rw[q];exact⟨_,qJ,fun v q=>nomatch q⟩
  ·rw[q];exact⟨o1,e1,fun v q=>by rw[d1] at q;cases q⟩
  ·rw[q];exact⟨o2,e2,fun v q=>by rw[d2] at q;cases q⟩
 keep:=fun i h h' st k=>by
  obtain⟨hz,pZ,⟨x,y,qJ⟩,h1,h2⟩:=st;exact⟨k z (by simp) _ hz,k TI (by simp) _ pZ,⟨x,y,k TO (by simp) _ qJ⟩,h1.at fun o q=>k i1 (by simp) o q,h2.at fun o q=>k i2 (by simp) o q⟩
 item:=by
  intro X hP hw hK hc i fM s σ H E I hf st hg;subst hP hw hK;obtain⟨hz,pZ,⟨x0,y0,qJ⟩,h1,h2⟩:=st;obtain⟨xs,ys,x,y,wW,wX,hx,hy⟩:=hg;obtain⟨fV,rv,p,_⟩:=I.list wW;obtain⟨pS,B0,p2,_⟩:=I.list wX;obtain⟨u,hu,ru⟩:=rv.get hx;obtain⟨u2,hu2,ru2⟩:=B0.get hy;have PM:z<s.heap.objs.size:=aK hz;refine wpAny_pyNext_zip_item D hz pZ qJ h1 h2 p.isList p2.isList (x:=u) (y:=u2) (by simpa using hu) (by simpa using hu2) fun h' z' TO' h1' h2' hT hsz hk=> ?_
  refine⟨_,Z,wpAny_letOwnedTupleGo_zip (s:={s with heap:=h'}) z' fun om z'' sb=> ?_⟩;have yU:om.get? s.heap.objs.size=some {cls:=.type "tuple",data:=.seq #[u,u2]}:=(sb.2 _ (fL PM)).trans hT
  have new:jk X.prog X.w (fN H s.heap.objs.size (.tup [x,y])) om s.heap.objs.size (.tup [x,y]):=
   ⟨by show 2<=sizeLine;decide,[u,u2],.cons ru (.cons ru2 .nil),⟨_,yU,Z,_,Z⟩⟩
  have I1:Inv X fM σ (fN H s.heap.objs.size (.tup [x,y])) {s with heap:=om}:=
   I.Fi (t':=s.toks) (ch:=[z,TI,TO,i1,i2]) (fun c o hb q=>(sb.2 c (fun q'=>hb (by simp[q']))).trans (hk c o (fun q'=>hb (by simp[q'])) (fun q'=>hb (by simp[q'])) (fun q'=>hb (by simp[q'])) (fun q'=>hb (by simp[q'])) q)) hf (aA _) new
  refine⟨.ref s.heap.objs.size,_,I1,Z,⟨_,x,y,Z,I.gj.fresh (aA _),Z,fun l hl=>by rw[I.yd hl wW];exact hx,fun l hl=>by rw[I.yd hl wX];exact hy⟩,⟨z'',?_,⟨u,u2,?_⟩,?_,?_⟩,fun c B1=> ?_⟩
  ·exact(sb.2 _ D.TIz).trans (hk _ _ D.TIz D.TITO D.TIi1 D.TIi2 pZ)
  ·exact(sb.2 _ D.TOz).trans TO'
  ·exact h1'.at fun o q=>(sb.2 _ D.i1z).trans q
  ·exact h2'.at fun o q=>(sb.2 _ D.i2z).trans q
  ·have ia:c<s.heap.objs.size:=by
    have e':c=z\/c=TI\/c=TO\/c=i1\/c=i2:=by simpa using B1
    rcases e' with q|q|q|q|q
    ·rw[q];exact PM
    ·rw[q];exact aK pZ
    ·rw[q];exact aK qJ
    ·rw[q];obtain⟨_,e1,_⟩:=h1;exact aK e1
    ·rw[q];obtain⟨_,e2,_⟩:=h2;exact aK e2
   rw[fU (ba ia)];exact(hf c B1).1
 done:=by
  intro X hP hw hK hc i fM s σ H E I hf st hg;subst hP hw hK;obtain⟨hz,pZ,⟨x0,y0,qJ⟩,h1,h2⟩:=st;obtain⟨xs,ys,wW,wX,abp⟩:=hg;obtain⟨fV,rv,p,_⟩:=I.list wW;obtain⟨pS,B0,p2,_⟩:=I.list wX;have l1:=rv.length;have l2:=B0.length
  have he:fV.toArray[i]? =none\/pS.toArray[i]? =none:=by
   rcases abp with q|q
   ·exact .inl (by simp;omega)
   ·exact .inr (by simp;omega)
  exact wpAny_pyNext_zip_end (I.ok.hd hc) D hz pZ qJ h1 h2 p.isList p2.isList he fun h' hk=>⟨Z,I.Yi (t':=s.toks) (ch:=[z,TI,TO,i1,i2]) (fun c o hb q=>
   hk c o (fun q'=>hb (by simp[q'])) (fun q'=>hb (by simp[q'])) (fun q'=>hb (by simp[q'])) (fun q'=>hb (by simp[q'])) q) hf⟩
 self:=fun A i s Q E st h=>wpAny_pyIter_zip st.1 h
def abq(K:PySem.W.Frag)(ta:TA):TI:=fun σ H R=>ta σ H fun vs H1=>∃a b xs ys,vs=[.ref a,.ref b]/\fS K H1 a xs/\fS K H1 b ys/\R (yV K a b) H1
theorem ZB{X:Cx}{e e2:Expr}{ta:TA}{p pos mS:Pos}{oS:List Expr}{kk:Nat}(hg:Gl X "zip")(hm:X.mg "zip"=none)(ha:PA X [e,e2] ta)
 (hs:starEach [e,e2] X.env=(false,eval e X.env)::starEach [e2] X.env:=by rfl) (jq:(backTo pos (starEach [e2] X.env)).any (·.1)=false:=by rfl):
 PI X (.Tuple oS kk mS) (.Call (.Name "zip" p) [e,e2] [] pos) (abq X.K ta):=by
 intro fM s σ H R I h;refine Call_ (qu I hg hm Wa (cp (gn (ha pos fM s σ H _ I h) fun us s1 ⟨vs,H1,I1,r1,q1⟩=> ?_) hs jq));obtain⟨a,b,xs,ys,ex,wW,wX,q⟩:=q1;subst ex;cases r1 with
 |cons r rr=>
  cases rr with
  |cons r' rr=>
   cases rr;cases r;cases r';obtain⟨fV,rv,p1,_⟩:=I1.list wW;obtain⟨pS,B0,p2,_⟩:=I1.list wX;have la:a<s1.heap.objs.size:=p1.lt;have lb:b<s1.heap.objs.size:=p2.lt;refine call_zip_2 p1.isList p2.isList fun h' hz pZ qJ h1 h2 hsz hk=>wpAny_pyIter_zip hz ?_
   have I2:Inv X fM σ H1 {s1 with heap:=h'}:=I1.kept (t':=s1.toks) hk;refine⟨s1.heap.objs.size+4,[s1.heap.objs.size+4,s1.heap.objs.size+2,s1.heap.objs.size+3,s1.heap.objs.size,s1.heap.objs.size+1],_,_,H1,Z,I2,W9 (PySem.W.ktu_apart s1.heap.objs.size a b la lb),⟨hz,pZ,⟨_,_,qJ⟩,h1,h2⟩,fun c B1=> ?_,q⟩;have e':c=s1.heap.objs.size+4\/c=s1.heap.objs.size+2\/c=s1.heap.objs.size+3\/c=s1.heap.objs.size\/c=s1.heap.objs.size+1:=by simpa using B1
   have pi:s1.heap.objs.size<=c:=by
    rcases e' with z|z|z|z|z
    ·rw[z];exact cA _ _
    ·rw[z];exact cA _ _
    ·rw[z];exact cA _ _
    ·rw[z];exact aA _
    ·rw[z];exact cA _ _
   exact I1.rk pi (I1.gj.fresh pi)
theorem DY:∀{ys:List Str} {us:List Value},gG (ys.map V.str) us->StrsAre us ys
 |[],_,.nil=>.nil
 |y::ys,_,.cons r t=>by
  obtain⟨k,rfl⟩:=r;exact .cons y k (DY t)
section
variable {X:Cx}
theorem Yk:wT X "str.join" (fun x xs H Q=>∃a p,∃ys:List Str,x=.str a/\xs=[.ref p]/\(fS X.K H p (ys.map V.str)\/iO X.K H p (ys.map V.str))/\
 (ys.map (·.length)).sum+ys.length*a.length<=16777216/\Q (.str (Txt.join a ys)) H):=by
 intro fM s σ H x xs v us Q I rx rs h;obtain⟨a,p,ys,rfl,rfl,hp,hz,h⟩:=h;obtain⟨t,rfl⟩:=rx;cases rs with
 |cons r1 rs=>
  cases rs;cases r1;rcases hp with hp|hp
  ·obtain⟨fV,r,⟨o,n,ho,hc,_,hd⟩,_⟩:=I.list hp;exact PyProof.Rows.join_list (items:=fV.toArray) ⟨o,ho,hc,n,hd⟩ (by rw[List.toList_toArray];exact DY r) hz fun t' k=>⟨.str _,H,I.tok k,⟨t',Z⟩,h⟩
  ·obtain⟨fV,r,ht,_⟩:=I.tuple hp;exact PyProof.Rows.join_tuple (items:=fV.toArray) ht (by rw[List.toList_toArray];exact DY r) hz fun t' k=>⟨.str _,H,I.tok k,⟨t',Z⟩,h⟩
theorem Kq:mQ X (.type "int") (fun xs H Q=>∃a n,xs=[.str a]/\PySem.intText? a=some n/\a.length<=640/\Q (.int n) H):=by
 intro fM s σ H xs us Q I rs h;obtain⟨a,n,rfl,hn,hl,h⟩:=h;cases rs with
 |cons r1 rs=>
  cases rs;obtain⟨t,rfl⟩:=r1;exact PySem.W.KIN.call_text hn hl ⟨.int n,H,I.tok _,⟨_,Z⟩,h⟩
end
section
variable {X:Cx} {o e:Expr} {to te:TE}
def PN(r:V->List V->Hp->VK->Prop)(to te:TE):TE:=fun σ H Q=>to σ H fun x H1=>(∃a,x=.str a)/\te σ H1 fun y H2=>r x [y] H2 Q
theorem aau{id:String}{name:Str}{jD pos:Pos}{r:V->List V->Hp->VK->Prop}(slot:Slot "str" name id)(ty:typeOf (.builtin id)=pure (.type "method_descriptor"))(rule:wT X id r)(ho:PE X o to)(he:PE X e te)
 (hs:starEach [e] X.env=[(false,eval e X.env)]:=by rfl) (rj:attributeBase o name X.env (eval o X.env)=eval o X.env:=by rfl) (oO:(jD.endLine==pos.line)=true:=by rfl):
 PE X (.Call (.Attribute o name jD) [e] [] pos) (PN r to te):=by
 intro fM s σ H Q I h;refine PySem.Call_method1 rj hs oO (gn (ho fM s σ H _ I h) fun v s1 ⟨x,H1,I1,r1,q1⟩=> ?_);obtain⟨⟨a,rfl⟩,q1⟩:=q1;obtain⟨t,rfl⟩:=_root_.id r1;refine⟨"str",_,F.plainAttrs_str,slot,ty,typeIs_str _ _ _,(fun _ e=>nomatch e),dH Z (Calls.evalArgs_plain (eX ?_))⟩;exact gn (he fM s1 σ H1 _ I1 q1) fun u s2 ⟨y,H2,I2,r2,q2⟩=>Calls.spliced_nil (rule fM s2 σ H2 _ [y] _ [u] Q I2 r1 (.cons r2 .nil) q2)
theorem NB{jD pos:Pos}(ho:PE X o to)(he:PE X e te)(hs:starEach [e] X.env=[(false,eval e X.env)]:=by rfl)(rj:attributeBase o "join" X.env (eval o X.env)=eval o X.env:=by rfl)(oO:(jD.endLine==pos.line)=true:=by rfl):
 PE X (.Call (.Attribute o "join" jD) [e] [] pos) (PN (fun x xs H Q=>∃a p,∃ys:List Str,x=.str a/\xs=[.ref p]/\(fS X.K H p (ys.map V.str)\/iO X.K H p (ys.map V.str))/\
  (ys.map (·.length)).sum+ys.length*a.length<=16777216/\Q (.str (Txt.join a ys)) H) to te):=
 aau F.slot_str_join F.type_str_join Yk ho he hs rj oO
end
section
variable {X:Cx}
theorem Lq:jp X (compareOp .In) (fun x y H Q=>∃(c:Nat) (z:Str),x=.str ⟨#[c]⟩/\y=.str z/\Q (.bl (decide (c∈z.cps.toList))) H):=by
 intro fM s σ H x y v u Q I rx ry h;obtain⟨c,z,rfl,rfl,q⟩:=h;obtain⟨t,rfl⟩:=rx;obtain⟨t',rfl⟩:=ry;exact PyProof.Rows.in_str (js I q (PySem.StrLaws.found_one z c).symm)
end
def i0(s:Stmt)(j:Nat):Stmt:=match s with
 |.ClassDef _ _ _ body _ _ _ _ _ _ _=>body.getD j (.Pass ⟨0,0,0,0⟩)
 |_=>.Pass ⟨0,0,0,0⟩
def uA(s:Stmt):Arguments:=match s with
 |.FunctionDef _ a _ _ _ _ _ _ _ _=>a
 |_=>{posonlyargs:=[],args:=[],vararg:=none,kwonlyargs:=[],kw_defaults:=[],kwarg:=none,defaults:=[]}
def q0(s:Stmt):List Stmt:=match s with
 |.FunctionDef _ _ b _ _ _ _ _ _ _=>b
 |_=>[]
def gM(s:Stmt):Scope:=match s with
 |.FunctionDef _ _ _ _ _ _ sc _ _ _=>sc
 |_=>{kind:=.function,names:=[],isGenerator:=false,isCoroutine:=false}
abbrev gU:qH:=fun _ _ _ _ _ _=>False
abbrev E0:XK:=fun _ _ _=>False
theorem gH{X:Cx}:nU gU X E0:=fun _ _ _ _ _ _ _ h=>h.elim
structure jW(K:PySem.W.Frag)(x qual:Str)(st:Stmt)(f:Addr)(fd:FuncData):Prop where
 ex:∃(oc:Value) (od:Option Addr) (kV doc pm:Value) (an:Option Addr) (gz ct:Value) (oZ:Array (Option Value)),
  fd=PySem.W.fnOf x qual (uA st) (q0 st) (gM st) .none kV doc pm an gz ct/\K.lookup f=some ⟨oc,od,.func fd,oZ⟩/\PySem.W.codeIn K gz qual=true
 kp:PySem.W.keepIn K (.ref f)=true
section
variable {P:Program} {w:World} {K:PySem.W.Frag} {mg:Str->Option Value} {base:Heap}
theorem jW.ok{x qual:Str}{st:Stmt}{f:Addr}{fd:FuncData}{N ps:List Str}{k:Nat}{sp:Sp}(F:jW K x qual st f fd)(S:gQ N ps (gM st))(len:∀vs H Q E,sp vs H Q E->vs.length=ps.length)
 (rh:∀(gz:Value) (A:Around) (outer:List Env) (s:Shared) (H:Hp) (vs:List V) (Q:VK) (E:XK),jO k (A.deeper (envOfC qual (gM st) s.heap.objs.size f gz))->sp vs H Q E->
   ∃t,l6 (j6 gU P w K mg base N qual (gM st) f gz A outer s H E).rA (q0 st) t/\t {nx:=fun _ H'=>Q .gT H',rt:=Q} (start N vs) H):gL P w K mg base gU (k+1) f fd ps sp:=by
 obtain⟨oc,od,kV,doc,pm,an,gz,ct,oZ,rfl,lk,og⟩:=F.ex;refine Ov lk og S len fun A outer s H vs Q E hr tq=> ?_
 obtain⟨t,h,q⟩:=rh gz A outer s H vs Q E hr tq;exact⟨t,h.rA,q⟩
theorem jW.binds{x qual:Str}{st:Stmt}{f:Addr}{fd:FuncData}{ps:List Str}(F:jW K x qual st f fd)
 (h:∀(kV doc pm:Value) (an:Option Addr) (gz ct:Value) (us:List Value),us.length=ps.length->bindArgs (PySem.W.fnOf x qual (uA st) (q0 st) (gM st) .none kV doc pm an gz ct) ⟨us,[]⟩=pure (ps.zip us)):Binds K fd ps []:=by
 obtain⟨oc,od,kV,doc,pm,an,gz,ct,oZ,rfl,lk,og⟩:=F.ex;exact .all (h kV doc pm an gz ct)
theorem Bc{x qual:Str}{st:Stmt}{f:Addr}{oc:Value}{od an:Option Addr}{oZ:Array (Option Value)}{kV doc pm gz ct:Value}(l:K.lookup f=some ⟨oc,od,.func (PySem.W.fnOf x qual (uA st) (q0 st) (gM st) .none kV doc pm an gz ct),oZ⟩)
 (c:PySem.W.codeIn K gz qual=true) (k:PySem.W.keepIn K (.ref f)=true):jW K x qual st f (PySem.W.fnOf x qual (uA st) (q0 st) (gM st) .none kV doc pm an gz ct):=⟨⟨oc,od,kV,doc,pm,an,gz,ct,oZ,Z,l,c⟩,k⟩
end
theorem wk{A:Around}{k:Nat}(hr:jO k A):A.units+1<cLine:=cC (Nat.add_le_add_left (by decide:1<=64) _) hr.units
section
variable {X:Cx}
theorem pv(i:Nat){x:Str}{pos:Pos}(hN:X.N[i]? =some x:=by rfl)(hv:wO X.env.scope x:=by first|exact Or.inl Z|exact Or.inr (Or.inl Z)|exact Or.inr (Or.inr Z))(hd:(x==("__debug__":Str))=false:=by decide)
 (og:(x==("__classdict__":Str))=false:=by decide):PE X (.Name x pos) (iP i):=Zf hN hv hd og
theorem Wb:mQ X (.builtin "len") (fun xs H Q=>∃a kvs,xs=[V.ref a]/\H a=some (.dK kvs)/\Q (.int kvs.length) H):=by
 intro fM s σ H xs us Q I r h;obtain⟨a,kvs,rfl,ha,q⟩:=h;obtain⟨u,rfl,ru⟩:=vals1 r;cases ru;exact aam I (.inl ha) fun t s' I'=>⟨.int kvs.length,H,I',⟨t,Z⟩,q⟩
end
def fR(H H':Hp):Prop:=∀b o,H b=some o->H' b=some o
theorem fR.trans{H H1 H2:Hp}(a:fR H H1)(b:fR H1 H2):fR H H2:=fun c o h=>b c o (a c o h)
theorem fR.free{H H':Hp}(e:fR H H'){l:Addr}(h:H' l=Option.none):H l=Option.none:=by
 cases q:H l with
 |none=>rfl
 |some o=>
  rw[e l o q] at h;cases h
theorem fR.seq{K:PySem.W.Frag}{H H':Hp}{a:Addr}{xs:List V}(e:fR H H')(h:fS K H a xs):fS K H' a xs:=by
 rcases h with(h|⟨o,h⟩)|h
 ·exact .inl (.inl (e _ _ h))
 ·exact .inl (.inr ⟨o,e _ _ h⟩)
 ·exact .inr h
section
variable {κ:Type} [DecidableEq κ]
theorem NC:∀{l:List κ} {k:κ},l.Nodup->¬k∈l->(l++[k]).Nodup
 |[],k,_,_=>by simp
 |a::r,k,h,hk=>by
  obtain⟨h1,h2⟩:=bj.mp h;show(a::(r++[k])).Nodup;refine bj.mpr ⟨fun m=> ?_,NC h2 fun m=>hk (az.mpr (Or.inr m))⟩;rcases aG.mp m with q|q
  ·exact h1 q
  ·exact hk (az.mpr (Or.inl (aq.mp q).symm))
end
theorem iu{xs:List V}{z:Int}{j:Nat}{v:V}(e:z=(j:Int))(h:xs[j]? =some v):mo xs z=some v:=by
 rw[e];exact AR h
theorem G1{α:Type}{l:List α}(hN:l.Nodup){i j:Nat}{x:α}(a:l[i]? =some x)(b:l[j]? =some x):i=j:=by
 obtain⟨h1,e1⟩:=ap.mp a;obtain⟨h2,e2⟩:=ap.mp b;exact(List.getElem_inj hN).mp (e1.trans e2.symm)
theorem fR.made{H H1:Hp}{x dx C:Addr}(nx:H x=Option.none)(nd:H dx=Option.none)(k:∀b o,(fN (fN H dx (.own x)) x (.ins C dx [])) b=some o->b≠x->H1 b=some o):fR H H1:=fun b o e=>
 k b o (by rw[fU (gh e nx),fU (gh e nd)];exact e) (gh e nx)
end L2
namespace FX
open PySem
open PySem.Builtin PySem.Builtin.ObjectAttr
section
variable {prog:Program} {w:World} {A:Around} {E:Value->Shared->Prop} {h:Heap} {g:Array GenState} {d:Drawn} {t:Nat} {os:OsState}
variable {nm q:Str} {C N x:Addr} {bs bm:List Value} {sn:List Str} {sub:List Value} {ab:Bool} {col:Option Bool} {dd:Option Addr} {k0 k1 k2 k3 k5:Option Value} {B newId sa Oy:String}
variable {mN:Str->Option Value} {name:Str} {v:Value} {o:Obj}
structure Oz(h h':Heap)(x:Addr)(o:Obj)(name:Str)(v:Value)(dx:Addr):Prop where
 fresh:h.get? dx=none
 ne:dx≠x
 obj:h'.get? x=some {o with dict:=some dx}
 ns:h'.Ns1 dx (fun y=>if y=name then some v else none)
 keep:∀b u,b≠x->h.get? b=some u->h'.get? b=some u
theorem UE{tk:Tok}{Q:Fin->Shared->Prop}(SF:StoreFacts B bm sa Oy)
 (hC:h.get? C=some (excClassObj nm q C N bs bm true sn sub ab col dd k0 k1 k2 k3 k5 newId)) (hn:h.Ns N mN) (ve:mN name=none) (hB:typeLookup (.type B) name=pure none)
 (hx:h.get? x=some o) (hc:o.cls=.ref C) (qK:∀c,o.data≠ .cls c) (HU:o.dict=none)
 (K:∀h' p4 dx,Oz h h' x o name v dx->Q (.done (.ret .none)) ⟨h',g,d,p4,os⟩):
 wpAny (model prog w) A (Builtin.«Bd.__setattr__»⟨[.ref x,.str name tk,v],[]⟩) Q E ⟨h,g,d,t,os⟩:=by
 have yE:=SF.passes (.ref x);unfold Builtin.«Bd.__setattr__»
 repeat (first
  |rw[refuse_eq]
  |(rw[refuseLoop_ref,yE])
  |(with_reducible refine bZ hx ?_;rw[hc])
  |with_reducible refine wpAny_mroOf_exc hC ?_
  |(with_reducible refine dg hC hn SF.mro hB ?_;rw[ve])
  |nT)
 rw[HU];rw[am (by simp[typeHasDict])];split
 ·rename_i z;cases z
 split
 ·rename_i c z;exact absurd z (qK c)
 have up:(h.push {cls:=.type "dict",data:=.dict #[]}).get? x=some o:=aC _ hx;have B4:x≠h.objs.size:=ba (aK hx);refine ay (wpAny_alloc' (ay (wpAny_update' up (aY ?_))));generalize hk:((h.push {cls:=.type "dict",data:=.dict #[]}).update x fun o=>{cls:=o.cls,dict:=some h.objs.size,data:=o.data,slots:=o.slots})=k
 have ed:k.get? h.objs.size=some {cls:=.type "dict",data:=.dict #[]}:=by
  rw[<-hk];exact(Heap.get?_update_ne _ _ _ _ B4.symm).trans (Heap.get?_push_at Z Z)
 have ex:k.get? x=some {cls:=o.cls,dict:=some h.objs.size,data:=o.data,slots:=o.slots}:=by
  rw[<-hk];refine b5 _ up ?_;have fr:=(Heap.get?_some_iff.mp hx).2;obtain⟨oc,od,odt,oZ⟩:=o;cases odt<;>first|rfl|exact fr
 have eo:∀b u,b≠x->h.get? b=some u->k.get? b=some u:=fun b u nb hb=>by
  rw[<-hk];exact(Heap.get?_update_ne _ _ _ _ nb).trans (aC _ hb)
 have nsE:k.Ns h.objs.size (fun _=>none):=⟨_,#[],_,ed,Z,fun e he=>absurd he (by simp),fun _=>rfl⟩;show wpAny _ _ (storeInDict h.objs.size (.str name tk) name v) _ _ _;unfold storeInDict newKeyGuard;refine ay (aY (ay (wpAny_nsSet1 (Heap.Ns1.of_empty nsE) fun h' PP sb=> ?_)));obtain⟨oD,esD,epD,HH,HI,HJ⟩:=PP.count (Within.cons name v Within.nil);refine ay (wpAny_lookBehind HH (by rw[HI];exact pastItsLine_dict (a8 HJ (by rw[aj,aZ,sizeLine_eq];omega))) ?_)
 wp_walk
 exact K h' _ h.objs.size ⟨Heap.get?_none_of_le (aA _),B4.symm,(sb.2 x B4).trans ex,PP,fun b u nb hb=>(sb.2 b (ba (aK hb))).trans (eo b u nb hb)⟩
theorem Vj{Q:Unit->Shared->Prop}(SF:StoreFacts B bm sa Oy)
 (hC:h.get? C=some (excClassObj nm q C N bs bm true sn sub ab col dd k0 k1 k2 k3 k5 newId)) (hn:h.Ns N mN) (yW:mN "__setattr__"=none) (ve:mN name=none) (hB:typeLookup (.type B) name=pure none)
 (hx:h.get? x=some o) (hc:o.cls=.ref C) (qK:∀c,o.data≠ .cls c) (HU:o.dict=none)
 (K:∀h' p4 dx,Oz h h' x o name v dx->Q () ⟨h',g,d,p4,os⟩):
 wpAny (model prog w) A (setAttr (.ref x) name v) Q E ⟨h,g,d,t,os⟩:=by
 have bind:=SF.slot.bind (.ref x);unfold setAttr callSpecial? specialOf
 repeat (any_goals (first
  |assumption
  |(with_reducible refine bZ hx ?_;rw[hc])
  |(with_reducible refine dg hC hn SF.mro SF.slot.lookup ?_;rw[yW])
  |nT))
 refine dc SF.slot.plain SF.entry (wpAny_check_sa SF hC hx hc (UE SF hC hn ve hB hx hc qK HU fun h' p4 dx F=> ?_))
 repeat (any_goals (first|assumption|nT))
 exact K h' p4 dx F
end
section
variable {prog:Program} {w:World} {A:Around} {E:Value->Shared->Prop} {h:Heap} {g:Array GenState} {d:Drawn} {t:Nat} {os:OsState}
variable {nm q:Str} {C N x dx:Addr} {bs:List Value} {sn:List Str} {sub:List Value} {ab:Bool} {col:Option Bool} {dd:Option Addr} {k0 k1 k2 k3 k5:Option Value} {newId:String}
variable {mN mA:Str->Option Value} {name:Str} {v:Value} {o:Obj}
abbrev qL:List Value:=[.type "Exception",.type "BaseException",.type "object"]
theorem UF{tk:Tok}{Q:Fin->Shared->Prop}
 (hC:h.get? C=some (excClassObj nm q C N bs qL true sn sub ab col dd k0 k1 k2 k3 k5 newId)) (hn:h.Ns N mN) (ve:mN name=none) (hB:typeLookup (.type "Exception") name=pure none)
 (hx:h.get? x=some o) (hc:o.cls=.ref C) (qK:∀c,o.data≠ .cls c) (hd:o.dict=some dx) (ns:h.Ns dx mA) (hv:mA name=some v) (K:Q (.done (.ret v)) ⟨h,g,d,t,os⟩):
 wpAny (model prog w) A (Builtin.«Bd.__getattribute__»⟨[.ref x,.str name tk],[]⟩) Q E ⟨h,g,d,t,os⟩:=by
 unfold Builtin.«Bd.__getattribute__»
 repeat (first
  |(with_reducible refine bZ hx ?_;rw[hc])
  |(with_reducible refine dg hC hn dZ.mro hB ?_;rw[ve])
  |nT)
 split
 ·rename_i c z;exact absurd z (qK c)
 unfold instanceDict
 repeat (first
  |(with_reducible refine bZ hx ?_;rw[hc])
  |with_reducible refine bZ hC ?_
  |nT)
 rw[hd]
 repeat (first|(with_reducible refine wpAny_nsGet ns ?_;rw[hv])|nT)
 exact K
theorem ZC{M:Model}{OA:Value}{Q:Unit->Shared->Prop}(hC:h.get? C=some (excClassObj nm q C N bs qL true sn sub ab col dd k0 k1 k2 k3 k5 newId))
 (hx:h.get? x=some o) (hc:o.cls=.ref C) (K:Q () ⟨h,g,d,t,os⟩):wpAny M A (checkBuiltinCall "BaseException.__getattribute__" ⟨[.ref x,OA],[]⟩) Q E ⟨h,g,d,t,os⟩:=by
 have e1:builtinKind "BaseException.__getattribute__"=some .slot:=by decide+kernel
 have e2:splitId "BaseException.__getattribute__"=some ("BaseException","__getattribute__"):=by decide+kernel
 have e3:(Value.ref C::qL).contains (.type "BaseException")=true:=by rw[List.contains_cons,show qL.contains (Value.type "BaseException")=true from by decide+kernel,Bool.or_true]
 have e4:=F.args_bexc_ga (.ref x) OA;simp only[checkBuiltinCall,e1,e2];refine ay ?_;unfold isInstance
 repeat (first
  |(with_reducible refine bZ hx ?_;rw[hc])
  |(with_reducible refine wpAny_isSubtype_exc hC ?_;rw[e3])
  |nT)
 exact K
theorem Vk{expr:Bool}{Q:Value->Shared->Prop}
 (hC:h.get? C=some (excClassObj nm q C N bs qL true sn sub ab col dd k0 k1 k2 k3 k5 newId)) (hn:h.Ns N mN) (hng:mN "__getattribute__"=none) (abr:mN "__getattr__"=none) (ve:mN name=none)
 (hB:typeLookup (.type "Exception") name=pure none)
 (hx:h.get? x=some o) (hc:o.cls=.ref C) (qK:∀c,o.data≠ .cls c) (hd:o.dict=some dx) (ns:h.Ns dx mA) (hv:mA name=some v) (hh:handedOut v=pure v) (K:Q v ⟨h,g,d,t+1,os⟩):
 wpAny (model prog w) A (getAttr (.ref x) name expr) Q E ⟨h,g,d,t,os⟩:=by
 have bind:=F.attr_Exception.ga.bind (.ref x);have y1:(expr&&onTheHeap (Value.builtin "BaseException.__getattribute__"))=false:=by cases expr<;>rfl
 have y2:(Value.builtin "BaseException.__getattribute__"==Value.builtin "object.__getattribute__")=false:=by decide+kernel
 have y3:(onTheHeap (Value.ref C)&&Value.builtin "BaseException.__getattribute__"==Value.builtin "object.__getattribute__")=false:=by rw[y2];rfl
 unfold getAttr getAttrBy
 repeat (any_goals (first
  |assumption
  |(with_reducible refine bZ hx ?_;rw[hc])
  |(with_reducible refine dg hC hn dZ.mro F.attr_Exception.ga.lookup ?_;rw[hng])
  |(with_reducible refine dg hC hn dZ.mro dZ.noGetattr ?_;rw[abr])
  |nT))
 refine dc F.attr_Exception.ga.plain F.entry_bexc_ga (ZC hC hx hc (UF hC hn ve hB hx hc qK hd ns hv ?_))
 repeat (any_goals (first|assumption|nT))
end
def wY(h base:Heap)(e:Addr)(cls:Value)(dx:Option Addr)(fl:Value):Prop:=
 ∃oe vs T oT ts,h.get? e=some oe/\oe.cls=cls/\oe.dict=dx/\oe.data=.fields vs/\vs[1]? =some (.ref T)/\base.get? T=none/\T≠e/\h.get? T=some oT/\oT.data=.fields ts/\ts[3]? =some fl
theorem SH(o:Obj)(f):(o.mapFields f).dict=o.dict:=by
 obtain⟨c,d,dt,sl⟩:=o;cases dt<;>rfl
structure uN(base:Heap)(l:List Env)(e:Addr)(cls:Value)(dx:Option Addr)(fl:Value)(h h':Heap):Prop where
 stays:base.StaysIn h'
 jw:h'.FunFrames base l
 tr:wY h' base e cls dx fl
 slots:h.UpToSlots h'
section
variable {M:Model} {A:Around} {E:Value->Shared->Prop} {s:Shared} {base:Heap} {env:Env} {outer:List Env} {L e:Addr} {oe:Obj} {vs:Array Value} {cls:Value} {dx:Option Addr}
theorem Og{head:Value}{Yl:Bool}{Q:Unit->Shared->Prop}(fr:A.frames=some (env::outer))(ff:s.heap.FunFrames base (env::outer))(fe:env.frame=some L)
 (he:s.heap.get? e=some oe) (st:base.StaysIn s.heap) (ne:base.get? e=none) (hd:oe.data=.fields vs) (sz:1<vs.size)
 (K:∀h',uN base (env::outer) e oe.cls oe.dict (rawInt L) s.heap h'->Q () {s with heap:=h'}):
 wpAny M A (do let a<-frameOf env;let pl<-entryPlaceOf L Yl;let b<-EntryCells.newEntry head a .none (rawInt L) .none pl;setField (.ref e) 1 b) Q E s:=by
 have nfr:e∉(env::outer).filterMap (·.frame):=fun hm=>by
  obtain⟨_,o,ho,lu⟩:=ff.mem hm;rw[he] at ho;cases ho;exact lu vs hd
 refine ay (wpAny_frameOf_fun fr ff fe fun k hs=> ?_);refine ay (wpAny_entryPlaceOf fun pl jq=> ?_);unfold EntryCells.newEntry newFields;refine ay (dS ?_ (jq.sizeOk5 _ _ _ _ _));generalize hT:(k.push {cls:=.type "traceback",dict:=none,data:=.fields ([head,.ref L,.none,rawInt L,.none]++(if pl.isEmpty then List.replicate 6 Value.none else pl)).toArray})=k2;have ek:k.get? e=some oe:=(hs.2.1 e nfr).trans he;have sV:base.StaysIn k:=fun b o hb=>(hs.2.1 b fun hm=>by rw[(ff.mem hm).1] at hb;cases hb).trans (st b o hb)
 have B5:∀b o,k.get? b=some o->k2.get? b=some o:=fun b o hb=>by rw[<-hT];exact aC _ hb
 have k2n:k2.get? k.objs.size=some {cls:=.type "traceback",dict:=none,data:=.fields ([head,.ref L,.none,rawInt L,.none]++(if pl.isEmpty then List.replicate 6 Value.none else pl)).toArray}:=by
  rw[<-hT];exact aO k Z
 refine fh (B5 _ _ ek) hd sz ?_;have PQ:k.objs.size≠e:=fL (aK ek);have d2:=dI hd (·.setIfInBounds 1 (Value.ref k.objs.size));have oo:∀b,b≠e->(k2.update e (Obj.mapFields (·.setIfInBounds 1 (Value.ref k.objs.size)))).get? b=k2.get? b:=fun b hb=>bq _ _ (cJ hb)
 have uZ:∀b o,s.heap.get? b=some o->(∀ws,o.data≠ .fields ws)->b≠e:=fun b o hb lu z=>by
  rw[z,he] at hb;cases hb;exact lu vs hd
 have up:s.heap.UpToSlots (k2.update e (Obj.mapFields (·.setIfInBounds 1 (Value.ref k.objs.size)))):=fun b o hb lu=>by
  obtain⟨sl,q⟩:=hs.2.2 b o hb;exact⟨sl,(oo b (uZ b o hb lu)).trans (B5 _ _ q)⟩
 refine K _ ⟨fun b o hb=>(oo b fun z=>by rw[z,ne] at hb;cases hb).trans (B5 _ _ (sV b o hb)),ff.of_keeps fun b o hb lu=> ?_,?_,up⟩
 ·obtain⟨sl,q⟩:=up b o hb lu;exact⟨_,q,Z⟩
 ·refine⟨_,_,k.objs.size,_,_,b5 _ (B5 _ _ ek) (Obj.isFreed_of_fields d2),Obj.cls_mapFields _ _,SH _ _,d2,by simp[sz],sV.fresh,PQ,(oo _ PQ).trans k2n,Z,?_⟩
  first
   |(simp;done)
   |(rcases jq with rfl|⟨_,_,_,_,_,_,_,rfl⟩<;>simp)
theorem UG{Q:Unit->Shared->Prop}(fr:A.frames=some (env::outer))(ff:s.heap.FunFrames base (env::outer))(fe:env.frame=some L)
 (he:s.heap.get? e=some oe) (st:base.StaysIn s.heap) (ne:base.get? e=none) (hd:oe.data=.fields vs) (h1:vs[1]? =some .none)
 (K:∀h',uN base (env::outer) e oe.cls oe.dict (rawInt L) s.heap h'->Q () {s with heap:=h'}):wpAny M A (noteFrame (.ref e) env) Q E s:=by
 unfold noteFrame;simp only[fe];refine ay (cS he hd h1 ?_);rw[am (by decide)];exact Og fr ff fe he st ne hd (cY.mp h1).1 K
theorem Lr{Q:Unit->Shared->Prop}(fr:A.frames=some (env::outer))(ff:s.heap.FunFrames base (env::outer))(fe:env.frame=some L)
 (st:base.StaysIn s.heap) (ne:base.get? e=none) (tr:wY s.heap base e cls dx .none)
 (K:∀h',uN base (env::outer) e cls dx (rawInt L) s.heap h'->Q () {s with heap:=h'}):wpAny M A (noteFrame (.ref e) env) Q E s:=by
 obtain⟨oe,vs,T,oT,ts,he,rfl,rfl,hd,h1,B6,B7,hT,tG,h3⟩:=tr;unfold noteFrame;simp only[fe];refine ay (cS he hd h1 ?_);rw[aw (show(Value.ref T !=Value.none)=true from by simp)];refine ay (cS hT tG h3 ?_);rw[am (show¬((Value.none==rawInt L)=true) from by simp[rawInt])];refine ay (fh hT tG (cY.mp h3).1 ?_);have oo:∀b,b≠T->(s.heap.update T (Obj.mapFields (·.setIfInBounds 3 Value.none))).get? b=s.heap.get? b:=fun b hb=>bq _ _ (cJ hb)
 have uZ:∀b o,s.heap.get? b=some o->(∀ws,o.data≠ .fields ws)->b≠T:=fun b o hb lu z=>by
  rw[z,hT] at hb;cases hb;exact lu ts tG
 refine Og fr (ff.of_keeps fun b o hb lu=>⟨o,(oo b (uZ b o hb lu)).trans hb,Z⟩) fe ((oo e (cJ B7)).trans he)
  (fun b o hb=>(oo b fun z=>by rw[z,B6] at hb;cases hb).trans (st b o hb)) ne hd (cY.mp h1).1 fun h' n=>K h' ⟨n.stays,n.jw,n.tr,fun b o hb lu=> ?_⟩
 exact n.slots b o ((oo b (uZ b o hb lu)).trans hb) lu
theorem yi{l:List Env}{fl:Value}{Q:Unit->Shared->Prop}(st:base.StaysIn s.heap)(ff:s.heap.FunFrames base l)(tr:wY s.heap base e cls dx fl)
 (K:∀h',uN base l e cls dx .none s.heap h'->Q () {s with heap:=h'}):wpAny M A (setFlight (.ref e) none) Q E s:=by
 obtain⟨oe,vs,T,oT,ts,he,rfl,rfl,hd,h1,B6,B7,hT,tG,h3⟩:=tr;have sz:3<ts.size:=(cY.mp h3).1;have oo:∀b,b≠T->(s.heap.update T (Obj.mapFields (·.setIfInBounds 3 ((none:Option Addr).elim Value.none fun f=>rawInt f)))).get? b=s.heap.get? b:=fun b hb=>bq _ _ (cJ hb)
 have uZ:∀b o,s.heap.get? b=some o->(∀ws,o.data≠ .fields ws)->b≠T:=fun b o hb lu z=>by
  rw[z,hT] at hb;cases hb;exact lu ts tG
 unfold setFlight;refine ay (cS he hd h1 ?_);rw[aw (show(Value.ref T !=Value.none)=true from by simp)]
 refine fh hT tG sz (K _ ⟨fun b o hb=>(oo b fun z=>by rw[z,B6] at hb;cases hb).trans (st b o hb),ff.of_keeps fun b o hb lu=>⟨o,(oo b (uZ b o hb lu)).trans hb,Z⟩,?_,
  fun b o hb lu=>⟨o.slots,(oo b (uZ b o hb lu)).trans hb⟩⟩)
 exact⟨oe,vs,T,_,_,(oo e (cJ B7)).trans he,Z,Z,hd,h1,B6,B7,b5 _ hT (Obj.isFreed_of_fields (dI tG _)),dI tG _,by simp[sz]⟩
theorem TZ{Q:Unit->Shared->Prop}(fr:A.frames=some (env::outer))(ff:s.heap.FunFrames base (env::outer))(fe:env.frame=some L)
 (he:s.heap.get? e=some oe) (st:base.StaysIn s.heap) (ne:base.get? e=none) (hd:oe.data=.fields vs) (h1:vs[1]? =some .none)
 (K:∀h',uN base outer e oe.cls oe.dict .none s.heap h'->Q () {s with heap:=h'}):wpAny M A (leaving env (.ref e)) Q E s:=by
 unfold leaving;refine ay (UG fr ff fe he st ne hd h1 fun k n=>yi n.stays n.jw n.tr fun k2 n2=>K k2 ⟨n2.stays,n2.jw.2.2,n2.tr,n.slots.trans n2.slots⟩)
theorem UH{Q:Unit->Shared->Prop}(fr:A.frames=some (env::outer))(ff:s.heap.FunFrames base (env::outer))(fe:env.frame=some L)
 (st:base.StaysIn s.heap) (ne:base.get? e=none) (tr:wY s.heap base e cls dx .none)
 (K:∀h',uN base outer e cls dx .none s.heap h'->Q () {s with heap:=h'}):wpAny M A (leaving env (.ref e)) Q E s:=by
 unfold leaving;refine ay (Lr fr ff fe st ne tr fun k n=>yi n.stays n.jw n.tr fun k2 n2=>K k2 ⟨n2.stays,n2.jw.2.2,n2.tr,n.slots.trans n2.slots⟩)
theorem OB{Q:Unit->Shared->Prop}{E2:Value->Shared->Prop}(fr:A.frames=some (env::outer))(ff:s.heap.FunFrames base (env::outer))(fe:env.frame=some L)
 (st:base.StaysIn s.heap) (ne:base.get? e=none) (tr:wY s.heap base e cls dx .none)
 (K:∀h',uN base (env::outer) e cls dx .none s.heap h'->Q () {s with heap:=h'}):
 wpAny M A (noteFrame (.ref e) env) (fun _ s2=>wpAny M A (setFlight (.ref e) none) Q E2 s2) E s:=
 Lr fr ff fe st ne tr fun k n=>yi n.stays n.jw n.tr fun k2 n2=>K k2 ⟨n2.stays,n2.jw,n2.tr,n.slots.trans n2.slots⟩
end
section
variable {M:Model} {A:Around} {E:Value->Shared->Prop} {env:Env}
variable {nm q:Str} {C N:Addr} {bs bm:List Value} {hdct:Bool} {sn:List Str} {sub:List Value} {ab:Bool} {col:Option Bool} {dd:Option Addr} {k0 k1 k2 k3 k5:Option Value} {newId:String}
theorem Vl{s:Shared}{x:Sem Value}{Q:Flow->Shared->Prop}(hb:bm.contains (.type "BaseException")=true)(hh:A.handled=none)
 (h:wpAny M A x (fun v s1=>∃e oe vs,v=.ref e/\s1.heap.get? C=some (excClassObj nm q C N bs bm hdct sn sub ab col dd k0 k1 k2 k3 k5 newId)/\s1.heap.get? e=some oe/\oe.cls=.ref C/\oe.data=.fields vs/\vs[1]? =some .none/\vs[2]? =some .none/\E (.ref e) s1) E s):
 wpAny M A (raiseStmt env (some x) none) Q E s:=by
 have cB:(Value.ref C::bm).contains (.type "BaseException")=true:=by rw[List.contains_cons,hb,Bool.or_true]
 unfold raiseStmt;refine ay (bF h (fun v s1 h1=> ?_) fun _ _ z=>z);obtain⟨e,oe,vs,rfl,hC,he,hc,hd,v1,v2,hE⟩:=h1;obtain⟨hp,g,d,tk,os⟩:=s1
 repeat (first
  |(with_reducible refine bZ he ?_;rw[hc])
  |with_reducible refine bZ hC ?_
  |(with_reducible refine wpAny_isSubtype_exc hC ?_;rw[cB])
  |with_reducible refine cS he hd v1 ?_
  |with_reducible refine cS he hd v2 ?_
  |nT)
 exact wpAny_raiseNew_none hh hE
end
end FX
namespace L2
open PySem PySem.Spec PyProof.Rows
structure pT(K:PySem.W.Frag)(C fI:Addr):Prop where
 obj:∃nm q N bs sn sub ab col dd k0 k1 k2 k3 k5 on es ep,
  K.lookup C=some (excClassObj nm q C N bs FX.qL true sn sub ab col dd k0 k1 k2 k3 k5 "Exception.__new__")/\
  K.lookup N=some on/\on.data=.dict es ep/\StrKeys es/\nsFind es "__init__"=some (.ref fI)/\
  nsFind es "__setattr__"=none/\nsFind es "__getattribute__"=none/\nsFind es "__getattr__"=none/\nsFind es "kind"=none/\nsFind es "place"=none
 fn:∃o,K.lookup fI=some o/\o.cls=.type "function"
 kp:PySem.W.keepIn K (.ref C)=true
def yt(f:Str):Prop:=f="kind"\/f="place"
theorem DZ{f:Str}(h:yt f):typeLookup (.type "Exception") f=pure none:=by
 rcases h with rfl|rfl
 ·rw[typeLookup_type,builtinLookup_eq_fast];kernel_rfl
 ·rw[typeLookup_type,builtinLookup_eq_fast];kernel_rfl
theorem pT.at_{K:PySem.W.Frag}{C fI:Addr}{h:Heap}(x:pT K C fI)(X:K.In h):∃nm q N bs sn sub ab col dd k0 k1 k2 k3 k5 mN,
 h.get? C=some (excClassObj nm q C N bs FX.qL true sn sub ab col dd k0 k1 k2 k3 k5 "Exception.__new__")/\h.Ns N mN/\mN "__init__"=some (.ref fI)/\
 mN "__setattr__"=none/\mN "__getattribute__"=none/\mN "__getattr__"=none/\∀f,yt f->mN f=none:=by
 obtain⟨nm,q,N,bs,sn,sub,ab,col,dd,k0,k1,k2,k3,k5,on,es,ep,h1,h2,h3,h4,h5,h6,h7,h8,h9,mX⟩:=x.obj;refine⟨nm,q,N,bs,sn,sub,ab,col,dd,k0,k1,k2,k3,k5,nsFind es,X _ _ h1,⟨on,es,ep,X _ _ h2,h3,h4,fun _=>rfl⟩,h5,h6,h7,h8,fun f hf=> ?_⟩;rcases hf with rfl|rfl
 ·exact h9
 ·exact mX
def yX(e C:Addr)(dx:Option Addr)(new:Bool)(h:Heap):Prop:=
 ∃oe vs,h.get? e=some oe/\oe.cls=.ref C/\oe.dict=dx/\oe.data=.fields vs/\(new=true->vs[1]? =some .none/\vs[2]? =some .none)
def XO(e C:Addr)(dx:Option Addr)(new:Bool):HO:=.ext (yX e C dx new)
def HV(dx:Addr)(fs:List (Str×V))(h:Heap):Prop:=∃mA,h.Ns1 dx mA/\(∀f,kx (fs.lookup f) (mA f))/\PySem.Within mA (fs.map (·.1))
def XD(dx:Addr)(fs:List (Str×V)):HO:=.ext (HV dx fs)
section
variable {P:Program} {w:World} {H H':Hp} {h h':Heap} {e C dx:Addr} {o:HO}
theorem jk.has{a:Addr}(x:jk P w H h a o):∃ob,h.get? a=some ob:=by
 induction o with
 |lst xs=>obtain⟨_,_,_,_,q⟩:=x;exact⟨_,q⟩
 |tup xs=>obtain⟨_,_,_,ob,q,_⟩:=x;exact⟨_,q⟩
 |dK kvs=>obtain⟨_,_,_,_,ob,_,_,q,_⟩:=x;exact⟨_,q⟩
 |dT kvs=>obtain⟨_,_,_,_,ob,_,_,q,_⟩:=x;exact⟨_,q⟩
 |set S n=>obtain⟨ob,_,_,_,q,_⟩:=x;exact⟨_,q⟩
 |ins C dx fs=>obtain⟨_,_,_,q,_⟩:=x;exact⟨_,q⟩
 |own y=>exact x
 |xd fs=>obtain⟨_,⟨ob,_,_,q,_⟩,_⟩:=x;exact⟨_,q⟩
 |BI lo hi=>obtain⟨_,_,_,q⟩:=x;exact⟨_,q⟩
 |jQ ob u ih=>exact⟨_,x.1⟩
 |sT ps=>exact⟨_,x⟩
 |met f y=>exact⟨_,x⟩
 |ext φ=>exact x.2.1
theorem iZ.Gx{a:Addr}(x:iZ P w H h)(n:h.get? a=none):H a=none:=by
 cases q:H a with
 |none=>rfl
 |some u=>
  obtain⟨ob,z⟩:=(x a u q).has;rw[n] at z;cases z
theorem G3{new:Bool}{d:Option Addr}(x:yX e C d new h):jk P w H h e (XO e C d new):=by
 refine⟨x,?_,fun h1 h2 p k=> ?_⟩
 ·obtain⟨oe,_,q,_⟩:=x;exact⟨_,q⟩
 ·obtain⟨oe,vs,q,r⟩:=p;exact⟨oe,vs,k _ q,r⟩
theorem OC{fs:List (Str×V)}(x:HV dx fs h):jk P w H h dx (XD dx fs):=by
 refine⟨x,?_,fun h1 h2 p k=> ?_⟩
 ·obtain⟨mA,⟨ob,_,_,q,_⟩,_⟩:=x;exact⟨_,q⟩
 ·obtain⟨mA,n,r⟩:=p;exact⟨mA,n.at k,r⟩
theorem iZ.more{a:Addr}(x:iZ P w H h)(k:∀b u,h.get? b=some u->b≠a->h'.get? b=some u)(hn:H a=none)(new:jk P w (fN H a o) h' a o):iZ P w (fN H a o) h':=fun b u q=>by
 by_cases hb:b=a
 ·subst hb;rw[fP] at q;cases q;exact new
 ·rw[fU hb] at q;refine(x b u q).nz (fun c v hc z=>k c v z fun y=> ?_) (fun c z=>by rw[fU (gh z hn)];exact z) fun c xs z=>by rw[fU (gh z hn)];exact z
  subst y;rcases hc with y|y
  ·exact hb y.symm
  ·rw[hn] at y;cases y
end
section
variable {X:Cx} {fM:List (Addr×Obj)} {σ:St} {H H':Hp} {s:Shared} {h':Heap}
theorem Inv.lay{a:Addr}{o:HO}{t':Nat}(I:Inv X fM σ H s)(k:∀b u,s.heap.get? b=some u->h'.get? b=some u)(hp:s.heap.get? a=none)(new:jk X.prog X.w (fN H a o) h' a o):
 Inv X fM σ (fN H a o) {s with heap:=h',toks:=t'}:=by
 have hn:=I.gj.Gx hp;have ne:∀b u,s.heap.get? b=some u->b≠a:=fun b u q z=>by rw[z,hp] at q;cases q
 refine I.un ⟨fun b u q _ _ _=>k b u q,fun b u q _ _ _=>⟨u.slots,k b u q⟩,fun b u q n _=>by rw[fU (ne b u q)];exact n,fun b u q _=>⟨u,k b u q⟩,fun b xs q=>by rw[fU (gh q hn)];exact q,
  fun b u xs q=>by rw[fU (gh q hn)];exact q,fun b ps q=>⟨#[],by rw[fU (gh q hn),q];simp⟩⟩ (I.gj.more (fun b u q _=>k b u q) hn new)
end
section
variable {X:Cx} {o value:Expr} {f:Str} {pos kW:Pos} {ta tv:TE} {C fI:Addr}
def sX1(C:Addr)(f:Str)(ta tv:TE):TS:=fun D σ H=>tv σ H fun y H1=>ta σ H1 fun x H2=>∃e,x=.ref e/\H2 e=some (XO e C none true)/\
 ∀dx,H2 dx=none->dx≠e->D.nx σ (fN (fN H2 dx (XD dx [(f,y)])) e (XO e C (some dx) true))
def sX2(C:Addr)(f:Str)(ta tv:TE):TS:=fun D σ H=>tv σ H fun y H1=>ta σ H1 fun x H2=>∃e dx fs,x=.ref e/\H2 e=some (XO e C (some dx) true)/\H2 dx=some (XD dx fs)/\fs.length<1000/\
 D.nx σ (fN H2 dx (XD dx (jC f y fs)))
theorem aav(c:pT X.K C fI)(hf:yt f)(ha:PE X o ta)(hv:PE X value tv)(hs:swapsWith value (some (.Attribute o f kW)) pos.line X.env=pure false):PS X (.Assign [.Attribute o f kW] value pos) (sX1 C f ta tv):=by
 intro fM s σ H D I h;refine dz (gn (hv fM s σ H _ I h) fun u s1 ⟨y,H1,I1,ry,q⟩=>gn (ha fM s1 σ H1 _ I1 q) fun ov s2 ⟨x,H2,I2,rx,e,ex,ee,q2⟩=> ?_) hs;subst ex;obtain rfl:ov=Value.ref e:=rx;obtain⟨nm,qn,N,bs,sn,sub,ab,col,dd,k0,k1,k2,k3,k5,mN,hC,hN,hi,yY,B8,B9,jz⟩:=c.at_ I2.jF;obtain⟨⟨oe,vs,e1,e2,e3,e4,e5⟩,_,_⟩:=I2.gj e _ ee;obtain⟨hp,g,d,tk,os⟩:=s2;refine FX.Vj PySem.F.store_Exception hC hN yY (jz f hf) (DZ hf) e1 e2 (fun c z=>by rw[e4] at z;cases z) e3 fun h' p4 dx F=> ?_
 have wZ:H2 dx=none:=I2.gj.Gx F.fresh;refine⟨σ,_,?_,q2 dx wZ F.ne⟩;have ne:∀b u,hp.get? b=some u->b≠dx:=fun b u z y=>by rw[y,F.fresh] at z;cases z
 have B4:e≠dx:=cJ F.ne;have xo:yX e C (some dx) true h':=⟨_,vs,F.obj,e2,Z,e4,e5⟩
 have xd:HV dx [(f,y)] h':=by
  refine⟨_,F.ns,fun n=> ?_,fun n hn=> ?_⟩
  ·show kx (List.lookup n [(f,y)]) (if n=f then some u else none)
   by_cases z:n=f
   ·subst z;rw[aw Z];have:List.lookup n [(n,y)]=some y:=by simp[List.lookup]
    rw[this];exact ry
   ·rw[am z]
    have:List.lookup n [(f,y)]=none:=by
     have hb:(n==f)=false:=cO.mpr z;simp[List.lookup,hb]
    rw[this];exact True.intro
  ·by_cases z:n=f
   ·subst z;simp
   ·have u8:(if n=f then some u else none)≠none:=hn;rw[am z] at u8;exact absurd Z u8
 have abt:iZ X.prog X.w (fN (fN H2 dx (XD dx [(f,y)])) e (XO e C (some dx) true)) h':=fun b u z=>by
  by_cases hb:b=e
  ·subst hb;rw[fP] at z;cases z;exact G3 xo
  ·rw[fU hb] at z
   by_cases hd:b=dx
   ·subst hd;rw[fP] at z;cases z;exact OC xd
   ·rw[fU hd] at z;have Bv:H2 e≠some (.own b):=fun y=>by rw[ee] at y;cases y
    refine(I2.gj b u z).nz (fun c v hc y=>F.keep c v (fun w'=> ?_) y) (fun c y=> ?_) fun c xs y=> ?_
    ·subst w';rcases hc with w'|w'
     ·exact hb w'.symm
     ·exact Bv w'
    ·have n1:c≠e:=fun w'=>by rw[w',ee] at y;cases y
     rw[fU n1,fU (gh y wZ)];exact y
    ·have n1:c≠e:=fun w'=>by rw[w',ee] at y;cases y
     rw[fU n1,fU (gh y wZ)];exact y
 refine I2.un (h':=h') (t':=p4) ⟨fun b ob z n _ _=>F.keep b ob (fun y=>by rw[y,ee] at n;cases n) z,fun b ob z n _ _=>⟨ob.slots,F.keep b ob (fun y=>by rw[y,ee] at n;cases n) z⟩,fun b ob z n _=> ?_,fun b ob z _=> ?_,fun b xs z=> ?_,fun b ob xs z=> ?_,fun b ps z=> ?_⟩ abt
 ·rw[fU (fun y=>by rw[y,ee] at n;cases n),fU (ne b ob z)];exact n
 ·by_cases y:b=e
  ·subst y;exact⟨_,F.obj⟩
  ·exact⟨ob,F.keep b ob y z⟩
 ·rw[fU (fun y=>by rw[y,ee] at z;cases z),fU (gh z wZ)];exact z
 ·rw[fU (fun y=>by rw[y,ee] at z;cases z),fU (gh z wZ)];exact z
 ·exact⟨#[],by rw[fU (fun y=>by rw[y,ee] at z;cases z),fU (gh z wZ),z];simp⟩
theorem aaw(c:pT X.K C fI)(hf:yt f)(ha:PE X o ta)(hv:PE X value tv)(hs:swapsWith value (some (.Attribute o f kW)) pos.line X.env=pure false):PS X (.Assign [.Attribute o f kW] value pos) (sX2 C f ta tv):=by
 intro fM s σ H D I h;refine dz (gn (hv fM s σ H _ I h) fun u s1 ⟨y,H1,I1,ry,q⟩=>gn (ha fM s1 σ H1 _ I1 q) fun ov s2 ⟨x,H2,I2,rx,e,dx,fs,ex,ee,ed,hl,q2⟩=> ?_) hs;subst ex;obtain rfl:ov=Value.ref e:=rx;obtain⟨nm,qn,N,bs,sn,sub,ab,col,dd,k0,k1,k2,k3,k5,mN,hC,hN,hi,yY,B8,B9,jz⟩:=c.at_ I2.jF;obtain⟨⟨oe,vs,e1,e2,e3,e4,e5⟩,_,_⟩:=I2.gj e _ ee;obtain⟨⟨mA,n1,r1,w1⟩,_,_⟩:=I2.gj dx _ ed;obtain⟨hp,g,d,tk,os⟩:=s2
 have nde:dx≠e:=fun z=>by
  obtain⟨ob,es,ep,z1,z2,_⟩:=n1;rw[z] at z1;have z3:hp.get? e=some ob:=z1;have z4:hp.get? e=some oe:=e1;rw[z4] at z3;cases z3;rw[e4] at z2;cases z2
 have abu:∀c,oe.data≠ .cls c:=fun c z=>by rw[e4] at z;cases z
 have wR:e≠C:=fun z=>by
  have z4:hp.get? e=some oe:=e1;rw[z,hC] at z4;cases z4;cases e4
 refine PySem.store_attr (mA:=mA) (ns:=fs.map (·.1)) PySem.F.store_Exception hC hN yY (jz f hf) (DZ hf) wR ⟨oe,e1,e2,abu,.inr ⟨dx,e3,nde,n1⟩⟩ (fun h' p4 J keep same=> ?_) w1 (by rw[ac,sizeLine_eq];omega);obtain⟨o1,z1,z2,z3,z4,z5⟩:=same oe e1;have z6:=z5 dx e3
 have ob:h'.get? e=some oe:=by
  rw[z1];obtain⟨a1,a2,a3,a4⟩:=oe;obtain⟨b1,b2,b3,b4⟩:=o1;simp only at z2 z3 z4 z6 e3⊢;rw[z2,z3,z4,z6,e3]
 obtain⟨o2,y1,y2,y3,y4⟩:=J;rw[ob] at y1;cases y1
 have PR:h'.Ns1 dx (fun y=>if y=f then some u else mA y):=by
  rcases y4 with⟨y5,_⟩|⟨d2,y5,_,y6⟩
  ·rw[e3] at y5;cases y5
  ·rw[e3] at y5;cases y5;exact y6
 have kp:∀b v,b≠dx->hp.get? b=some v->h'.get? b=some v:=fun b v nb hb=>by
  by_cases q:b=e
  ·subst q;have z7:hp.get? b=some oe:=e1;rw[z7] at hb;cases hb;exact ob
  ·refine keep b v q (fun o0 dy g0 g1=> ?_) hb;have z7:hp.get? e=some oe:=e1;rw[z7] at g0;cases g0;rw[e3] at g1;cases g1;exact nb
 refine⟨σ,_,?_,q2⟩;refine I2.write (x:=dx) (e:=dx) (t':=p4) (by rw[ed];exact True.intro) (.inl Z) kp (let ⟨ob2,_,_,g1,_⟩:=PR;⟨ob2,g1⟩) (OC ⟨_,PR,fun g=> ?_,fun g hg=> ?_⟩)
 ·show kx ((jC f y fs).lookup g) (if g=f then some u else mA g);rw[Ef]
  by_cases q:g=f
  ·rw[aw q,aw q];exact ry
  ·rw[am q,am q];exact r1 g
 ·by_cases q:g=f
  ·rw[q];exact(xX f y fs).1
  ·refine(xX f y fs).2 g (w1 g fun z=>hg ?_);show(if g=f then some u else mA g)=none;rw[am q];exact z
end
theorem UI{v:V}{u:Value}(r:RelV v u):handedOut u=pure u:=by
 cases v with
 |gT=>cases (show u=Value.none from r);rfl
 |bl b=>cases (show u=Value.bool b from r);rfl
 |int i=>obtain⟨t,e⟩:=(show∃t,u=Value.int i t from r);cases e;rfl
 |str x=>obtain⟨t,e⟩:=(show∃t,u=Value.str x t from r);cases e;rfl
 |nB b=>obtain⟨t,e⟩:=(show∃t,u=Value.bytes b t from r);cases e;rfl
 |wL b=>obtain⟨t,e⟩:=(show∃t,u=Value.float b t from r);cases e;rfl
 |ref a=>cases (show u=Value.ref a from r);rfl
 |ty n=>cases (show u=Value.type n from r);rfl
def tXF(C:Addr)(ta:TE)(f:Str):TE:=fun σ H Q=>ta σ H fun x H1=>∃e dx fs v new,x=.ref e/\H1 e=some (XO e C (some dx) new)/\H1 dx=some (XD dx fs)/\fs.lookup f=some v/\Q v H1
theorem OD{X:Cx}{e:Expr}{f:Str}{pos:Pos}{ta:TE}{C fI:Addr}(c:pT X.K C fI)(hf:yt f)(he:PE X e ta)(hb:attributeBase e f X.env (eval e X.env)=eval e X.env):PE X (.Attribute e f pos) (tXF C ta f):=by
 intro fM s σ H Q I h;refine Nq hb (gn (he fM s σ H _ I h) fun u s1 ⟨x,H1,I1,rx,a,dx,fs,v,new,ex,ea,ed,l,q⟩=> ?_);subst ex;obtain rfl:u=Value.ref a:=rx;obtain⟨nm,qn,N,bs,sn,sub,ab,col,dd,k0,k1,k2,k3,k5,mN,hC,hN,hi,yY,B8,B9,jz⟩:=c.at_ I1.jF;obtain⟨⟨oe,vs,e1,e2,e3,e4,e5⟩,_,_⟩:=I1.gj a _ ea;obtain⟨⟨mA,n1,r1,w1⟩,_,_⟩:=I1.gj dx _ ed;obtain⟨u,hu,ru⟩:=kx.some_of (v:=v) (o:=mA f) (by rw[<-l];exact r1 f);have I2:=I1.tok (s1.toks+1);obtain⟨hp,g,d,tk,os⟩:=s1;exact FX.Vk hC hN B8 B9 (jz f hf) (DZ hf) e1 e2 (fun c z=>by rw[e4] at z;cases z) e3 n1.ns hu (UI ru) ⟨v,H1,I2,ru,q⟩
structure Fly(P:Program)(w:World)(C:Addr)(outer:List Env)(H:Hp)(s:Shared)(e dx:Addr)(B:Heap)(H':Hp)(s':Shared):Prop where
 os:s'.os=s.os
 bare:AllBare s'.gens
 stays:B.StaysIn s'.heap
 new:B.get? e=none
 jw:s'.heap.FunFrames B outer
 tr:FX.wY s'.heap B e (.ref C) (some dx) .none
 un:Un (iQ outer) [] H H' s.heap s'.heap
 keep:∀b o,s.heap.get? b=some o->H b=none->b∉iQ outer->B.get? b=some o
 there:∀b o,s.heap.get? b=some o->b∉iQ outer->∃o',B.get? b=some o'
 gj:iZ P w H' B
 free:H' e=none
def jG(P:Program)(w:World)(C:Addr):qH:=fun outer H s E ev s'=>∃(e dx:Addr) (B:Heap) (H':Hp),ev=.ref e/\Fly P w C outer H s e dx B H' s'/\E (.ref C) (some dx) H'
theorem yu{l:List Env}{H H':Hp}{h h1 h2 B base:Heap}(un:Un (iQ l) [] H H' h h1)(keep:∀b o,h.get? b=some o->H b=none->b∉iQ l->B.get? b=some o)
 (there:∀b o,h.get? b=some o->b∉iQ l->∃o',B.get? b=some o') (st:B.StaysIn h2) (up:h1.UpToSlots h2) (ff:h.FunFrames base l) (jz:∀b∈iQ l,H b=none):Un (iQ l) [] H H' h h2 where
 keep:=fun b o q n hb _=>st b o (keep b o q n hb)
 slot:=fun b o q n hb _=>by
  obtain⟨sl,q1⟩:=un.slot b o q n hb (by simp);obtain⟨_,o2,z1,z2⟩:=ff.mem hb;rw[q] at z1;cases z1;obtain⟨Ca,q2⟩:=up b _ q1 z2;exact⟨Ca,q2⟩
 free:=un.free
 there:=fun b o q _=>by
  by_cases hb:b∈iQ l
  ·obtain⟨sl,q1⟩:=un.slot b o q (jz b hb) hb (by simp);obtain⟨_,o2,z1,z2⟩:=ff.mem hb;rw[q] at z1;cases z1;obtain⟨Ca,q2⟩:=up b _ q1 z2;exact⟨_,q2⟩
  ·obtain⟨o',q1⟩:=there b o q hb;exact⟨o',st _ _ q1⟩
 mj:=un.mj
 lJ:=un.lJ
 mF:=un.mF
theorem D0{env:Env}{outer:List Env}{L b:Addr}(hf:env.frame=some L):b∈iQ (env::outer)↔b=L\/b∈iQ outer:=by
 unfold iQ;rw[bU,hf];exact az
section
variable {P:Program} {w:World} {K:PySem.W.Frag} {mg:Str->Option Value} {base:Heap} {N:List Str} {qual:Str} {scope:Scope} {f C:Addr} {cd:Value} {A:Around} {outer:List Env} {s:Shared} {H:Hp} {E:XK}
theorem Bo:nU (jG P w C) (j6 (jG P w C) P w K mg base N qual scope f cd A outer s H E) E:=by
 intro fM σ H1 s1 ev s' I hx;obtain⟨e,dx,B,H',rfl,F,hE⟩:=hx;have kL:(j6 (jG P w C) P w K mg base N qual scope f cd A outer s H E).stack=envOfC qual scope s.heap.objs.size f cd::outer:=rfl;show wpAny (model P w) (A.deeper (envOfC qual scope s.heap.objs.size f cd)) (leaving (envOfC qual scope s.heap.objs.size f cd) (.ref e)) _ _ s';have w6:(envOfC qual scope s.heap.objs.size f cd).frame=some s.heap.objs.size:=rfl;refine FX.UH (L:=s.heap.objs.size) I.ok.frames F.jw w6 F.stays F.new F.tr fun h' nt=> ?_
 have ib:Un (iQ outer) [] H H1 s.heap s1.heap:=I.base
 have yF:∀b o,s.heap.get? b=some o->b∉iQ outer->b∉iQ (envOfC qual scope s.heap.objs.size f cd::outer):=fun b o q nb hb=>by
  rcases(D0 w6).mp hb with z|z
  ·exact absurd (aK q) (by rw[z];exact bM _)
  ·exact nb z
 have keep:∀b o,s.heap.get? b=some o->H b=none->b∉iQ outer->B.get? b=some o:=fun b o q n nb=>F.keep b o (ib.keep b o q n nb (by simp)) (ib.free b o q n (by simp)) (yF b o q nb)
 have there:∀b o,s.heap.get? b=some o->b∉iQ outer->∃o',B.get? b=some o':=fun b o q nb=>by
  obtain⟨o1,q1⟩:=ib.there b o q (by simp);exact F.there b o1 q1 (yF b o q nb)
 have yZ:∀b∈iQ outer,H b=none:=I.ok.qF
 have HW:Un (iQ outer) [] H H' s.heap s'.heap:=by
  refine⟨fun b o q n nb _=>F.stays _ _ (keep b o q n nb),fun b o q n hb _=> ?_,fun b o q n _=> ?_,fun b o q _=> ?_,fun b xs q=>F.un.mj b xs (ib.mj b xs q),fun b o xs q=>F.un.lJ b o xs (ib.lJ b o xs q),fun b ps q=> ?_⟩
  ·obtain⟨sl,q1⟩:=ib.slot b o q n hb (by simp);obtain⟨Ca,q2⟩:=F.un.slot b _ q1 (ib.free b o q n (by simp)) ((D0 w6).mpr (.inr hb)) (by simp);exact⟨Ca,q2⟩
  ·obtain⟨o1,q1⟩:=ib.there b o q (by simp);exact F.un.free b o1 q1 (ib.free b o q n (by simp)) (by simp)
  ·obtain⟨o1,q1⟩:=ib.there b o q (by simp);exact F.un.there b o1 q1 (by simp)
  ·obtain⟨m1,e1⟩:=ib.mF b ps q;obtain⟨m2,e2⟩:=F.un.mF b _ e1;exact⟨m1++m2,by rw[e2,Array.append_assoc]⟩
 have HX:s.heap.FunFrames base outer:=I.ok.jw;exact⟨e,dx,B,H',Z,⟨F.os.trans I.os,F.bare,nt.stays,F.new,nt.jw,nt.tr,yu HW keep there nt.stays nt.slots HX yZ,keep,there,F.gj,F.free⟩,hE⟩
theorem O7:PassesOwn (model (j6 (jG P w C) P w K mg base N qual scope f cd A outer s H E).prog (j6 (jG P w C) P w K mg base N qual scope f cd A outer s H E).w) (j6 (jG P w C) P w K mg base N qual scope f cd A outer s H E).A
 (j6 (jG P w C) P w K mg base N qual scope f cd A outer s H E).env (j6 (jG P w C) P w K mg base N qual scope f cd A outer s H E).xe:=PassesOwn.leaving
end
def qM(H:Hp)(e:Addr):Hp:=fun b=>if b=e then none else H b
theorem sC{H:Hp}{e b:Addr}(h:b≠e):qM H e b=H b:=by unfold qM;rw[am h]
theorem GO{H:Hp}{e:Addr}:qM H e e=none:=by unfold qM;rw[aw Z]
def BA(C:Addr):Sp:=fun vs H Q _=>∃(e:Addr) (k p:Int),vs=[.ref e,.int k,.int p]/\H e=some (XO e C none true)/\
 ∀dx,H dx=none->dx≠e->Q .gT (fN (fN H dx (XD dx [("kind",.int k),("place",.int p)])) e (XO e C (some dx) true))
section
variable {X:Cx} {k:Nat} {fI C:Addr} {fd:FuncData} {ps:List Str} {E:XK}
theorem Wc{fM:List (Addr×Obj)}{σ:St}{H:Hp}{s:Shared}{Q:VK}{us:List Value}{kk pp:Int}(c:pT X.K C fI)(F:gL X.prog X.w X.K X.mg X.base gU k fI fd ps (BA C))(hr:jO (k+1) X.A)(hb:Binds X.K fd ps [])
 (I:Inv X fM σ H s) (r:gG [.int kk,.int pp] us)
 (h:∀e dx,s.heap.get? e=none->H e=none->H dx=none->dx≠e->Q (.ref e) (fN (fN (fN H e (XO e C none true)) dx (XD dx [("kind",.int kk),("place",.int pp)])) e (XO e C (some dx) true))):
 wpAny (model X.prog X.w) X.A (call (.ref C) us) (EP X fM σ Q) X.xe s:=by
 obtain⟨nm,qn,N,bs,sn,sub,ab,col,dd,k0,k1,k2,k3,k5,mN,hC,hN,hi,yY,B8,B9,jz⟩:=c.at_ I.jF;obtain⟨oI,hoI,BK⟩:=c.fn;have hfI:=I.jF _ _ hoI;have tH:us.length=2:=r.length.symm;obtain⟨hp,g,d,t,os⟩:=s;refine PySem.wpAny_call_exc_init PySem.F.excBase_Exception hC hN hi hfI BK (fun h' e M=> ?_) (by rw[tH];decide);obtain⟨tt,he,_,_⟩:=M.there;have xo:yX e C none true h':=⟨_,_,he,Z,Z,Z,fun _=>⟨Z,Z⟩⟩;have I2:Inv X fM σ (fN H e (XO e C none true)) ⟨h',g,d,t,os⟩:=I.lay (t':=t) M.keeps M.new (G3 xo);have hn:H e=none:=I.gj.Gx M.new;have r2:gG (V.ref e::[.int kk,.int pp]) (Value.ref e::us):=.cons Z r
 have PU:BA C (V.ref e::[.int kk,.int pp]) (fN H e (XO e C none true)) (fun v H2=>v=.gT/\Q (.ref e) H2) E0:=
  ⟨e,kk,pp,Z,fP,fun dx hd lp=>⟨Z,h e dx M.new hn (by rw[fU lp] at hd;exact hd) lp⟩⟩
 have hl:(Value.ref e::us++[]).length=ps.length:=by
  have z:=r2.length;rw[F.len _ _ _ _ PU] at z;rw[bc];exact z.symm
 refine wpAny_call (eZ (F.run _ X.stack _ _ ⟨Value.ref e::us,[]⟩ (Value.ref e::us) _ _ E0 (hr.make C us []) (I2.Hk.make C us []) (by have z:=hb _ (Value.ref e::us) I2.jF hl;rw[bc] at z;exact z) r2 PU) fun r' s' hq=> ?_);cases r' with
 |error e=>exact hq.elim
 |ok fl=>
  cases fl with
  |ret u=>
   obtain⟨v,H',I3,rv,ev,q3⟩:=I2.after hq;subst ev;exact⟨rv,⟨V.ref e,H',I3,Z,q3⟩⟩
  |next=>exact False.elim hq
  |brk=>exact False.elim hq
  |cont=>exact False.elim hq
end
section
variable {P:Program} {w:World} {K:PySem.W.Frag} {mg:Str->Option Value} {base:Heap} {N:List Str} {qual:Str} {scope:Scope} {f C fI:Addr} {cd:Value} {A:Around} {outer:List Env} {s:Shared} {H:Hp} {E:XK}
def GP(C:Addr)(E:XK)(t:TA):TS:=fun _ σ H=>t σ H fun vs H1=>∃kk pp,vs=[.int kk,.int pp]/\∀dx,H1 dx=none->E (.ref C) (some dx) (fN H1 dx (XD dx [("kind",.int kk),("place",.int pp)]))
theorem leave_new{fM:List (Addr×Obj)}{σ:St}{H2:Hp}{s3:Shared}{e dx:Addr}(I:Inv (j6 (jG P w C) P w K mg base N qual scope f cd A outer s H E) fM σ H2 s3)(he:H2 e=some (XO e C (some dx) true))(yz:s.heap.get? e=none)
 (hE:E (.ref C) (some dx) (qM H2 e)):(j6 (jG P w C) P w K mg base N qual scope f cd A outer s H E).xe (.ref e) s3:=by
 obtain⟨⟨oe,vs,e1,e2,e3,e4,e5⟩,_,_⟩:=I.gj e _ he;have w6:(envOfC qual scope s.heap.objs.size f cd).frame=some s.heap.objs.size:=rfl;have kL:(j6 (jG P w C) P w K mg base N qual scope f cd A outer s H E).stack=envOfC qual scope s.heap.objs.size f cd::outer:=rfl;generalize hB:PySem.W.hideAll s3.heap (e::iQ (envOfC qual scope s.heap.objs.size f cd::outer))=B
 have HY:∀b o,s3.heap.get? b=some o->b≠e->b∉iQ (envOfC qual scope s.heap.objs.size f cd::outer)->B.get? b=some o:=fun b o q n1 n2=>by
  rw[<-hB]
  exact PySem.W.hideAll_get _ q fun hm=>by
   rcases az.mp hm with z|z
   ·exact n1 z
   ·exact n2 z
 have stB:B.StaysIn s3.heap:=fun b o q=>by rw[<-hB] at q;exact PySem.W.of_hideAll _ q
 have PV:B.get? e=none:=by rw[<-hB];exact PySem.W.hideAll_none _ bx
 have ffB:s3.heap.FunFrames B (envOfC qual scope s.heap.objs.size f cd::outer):=by
  rw[<-hB];exact PySem.W.funFrames_hide I.stack fun env hm a ha=>aX _ (ck.mpr ⟨env,hm,ha⟩)
 have sF:∀b∈iQ (envOfC qual scope s.heap.objs.size f cd::outer),H2 b=none:=I.uw;have ib:Un (iQ outer) [] H H2 s.heap s3.heap:=I.base
 have yF:∀b o,s.heap.get? b=some o->b∉iQ outer->b∉iQ (envOfC qual scope s.heap.objs.size f cd::outer):=fun b o q nb hb=>by
  rcases(D0 w6).mp hb with z|z
  ·exact absurd (aK q) (by rw[z];exact bM _)
  ·exact nb z
 have PX:∀b o,s.heap.get? b=some o->H b=none->b≠e:=fun b o q n z=>by
  have:=ib.free b o q n (by simp);rw[z,he] at this;cases this
 show wpAny (model P w) (A.deeper (envOfC qual scope s.heap.objs.size f cd)) (leaving (envOfC qual scope s.heap.objs.size f cd) (.ref e)) _ _ s3;refine FX.TZ (base:=B) (L:=s.heap.objs.size) I.ok.frames ffB w6 e1 stB PV e4 (e5 Z).1 fun h' nt=> ?_
 rw[e2,e3] at nt;have keep:∀b o,s.heap.get? b=some o->H b=none->b∉iQ outer->B.get? b=some o:=fun b o q n nb=>HY b o (ib.keep b o q n nb (by simp)) (PX b o q n) (yF b o q nb)
 have HW:Un (iQ outer) [] H (qM H2 e) s.heap s3.heap:=by
  refine⟨ib.keep,ib.slot,fun b o q n hx=>by rw[sC (PX b o q n)];exact ib.free b o q n hx,ib.there,fun b xs q=> ?_,fun b o xs q=> ?_,fun b ps q=> ?_⟩
  ·have z:=ib.mj b xs q;rw[sC (fun y=>by rw[y,he] at z;cases z)];exact z
  ·have z:=ib.lJ b o xs q;rw[sC (fun y=>by rw[y,he] at z;cases z)];exact z
  ·obtain⟨m1,z⟩:=ib.mF b ps q;exact⟨m1,by rw[sC (fun y=>by rw[y,he] at z;cases z)];exact z⟩
 have there:∀b o,s.heap.get? b=some o->b∉iQ outer->∃o',B.get? b=some o':=fun b o q nb=>by
  obtain⟨o1,q1⟩:=ib.there b o q (by simp);exact⟨o1,HY b o1 q1 (fun z=>by rw[z,yz] at q;cases q) (yF b o q nb)⟩
 have gj:iZ P w (qM H2 e) B:=fun b u q=>by
  have nb:b≠e:=fun z=>by rw[z,GO] at q;cases q
  rw[sC nb] at q;refine(I.gj b u q).nz (fun c v hc z=>HY c v z ?_ ?_) (fun c z=> ?_) fun c xs z=> ?_
  ·rcases hc with y|y
   ·rw[y];exact nb
   ·intro y2;rw[y2,he] at y;cases y
  ·intro hm;have y0:=sF c hm;rcases hc with y|y
   ·rw[y,q] at y0;cases y0
   ·rw[y] at y0;cases y0
  ·rw[sC (fun y=>by rw[y,he] at z;cases z)];exact z
  ·rw[sC (fun y=>by rw[y,he] at z;cases z)];exact z
 have HX:s.heap.FunFrames base outer:=I.ok.jw;have yZ:∀b∈iQ outer,H b=none:=I.ok.qF;exact⟨e,dx,B,qM H2 e,Z,⟨I.os,I.bare,nt.stays,PV,nt.jw,nt.tr,yu HW keep there nt.stays nt.slots HX yZ,keep,there,gj,GO⟩,hE⟩
theorem nP{k:Nat}{fd:FuncData}{ps:List Str}{x:Str}{p jU pos:Pos}{e:Expr}{es:List Expr}{t:TA}(c:pT K C fI)(F:gL P w K mg base gU k fI fd ps (BA C))(hr:jO (k+1) (A.deeper (envOfC qual scope s.heap.objs.size f cd)))
 (hg:Gl (j6 (jG P w C) P w K mg base N qual scope f cd A outer s H E) x) (hm:mg x=some (.ref C)) (hb:Binds K fd ps [])
 (ha:PA (j6 (jG P w C) P w K mg base N qual scope f cd A outer s H E) (e::es) t) (mW:(x==("__debug__":Str))=false:=by decide)
 (he:starEach (e::es) (j6 (jG P w C) P w K mg base N qual scope f cd A outer s H E).env=(false,eval e (j6 (jG P w C) P w K mg base N qual scope f cd A outer s H E).env)::starEach es (j6 (jG P w C) P w K mg base N qual scope f cd A outer s H E).env:=by rfl)
 (jq:(backTo jU (starEach es (j6 (jG P w C) P w K mg base N qual scope f cd A outer s H E).env)).any (·.1)=false:=by rfl):
 PS (j6 (jG P w C) P w K mg base N qual scope f cd A outer s H E) (.Raise (some (.Call (.Name x p) (e::es) [] jU)) none pos) (GP C E t):=by
 intro fM s1 σ H1 D I h;generalize hX:j6 (jG P w C) P w K mg base N qual scope f cd A outer s H E=X at*;have afd:X.prog=P:=by rw[<-hX];rfl
 have hh:X.A.handled=none:=I.ok.hd (by rw[<-hX];rfl);rw[arm_exec_Raise];refine ay (dO ?_)
 have ev:wpAny (model X.prog X.w) X.A (eval (.Call (.Name x p) (e::es) [] jU) X.env) (EP X fM σ fun v H2=>∃ea dx,v=.ref ea/\s.heap.get? ea=none/\H2 ea=some (XO ea C (some dx) true)/\E (.ref C) (some dx) (qM H2 ea)) X.xe s1:=by
  refine bH (ux I hg (by rw[<-hX];exact hm) ?_ mW);refine dE (h₀:=X.base) I.ok.mod.u4 (by rw[<-hX];exact c.kp) (gn (ha jU fM s1 σ H1 _ I h) fun us s2 ⟨vs,H2,I2,r,kk,pp,ev,q⟩=>⟨I2.jF,?_⟩) he jq;subst ev;subst hX;refine Wc (k:=k) (ps:=ps) (fd:=fd) c F hr hb I2 r fun ea dx n0 n1 n2 n3=>⟨ea,dx,Z,?_,fP,?_⟩
  ·cases z:s.heap.get? ea with
   |none=>rfl
   |some o=>
    have ib:Un (iQ outer) [] H H2 s.heap s2.heap:=I2.base;obtain⟨o',z'⟩:=ib.there ea o z (by simp);rw[n0] at z';cases z'
  ·have e1:qM (fN (fN (fN H2 ea (XO ea C none true)) dx (XD dx [("kind",.int kk),("place",.int pp)])) ea (XO ea C (some dx) true)) ea=fN H2 dx (XD dx [("kind",.int kk),("place",.int pp)]):=by
    funext b
    by_cases w8:b=ea
    ·rw[w8,GO,fU (cJ n3),n1]
    ·rw[sC w8,fU w8]
     by_cases lw:b=dx
     ·rw[lw,fP,fP]
     ·rw[fU lw,fU lw,fU w8]
   rw[e1];exact q dx n2
 obtain⟨nm,qn,Nn,bs,sn,sub,ab,col,dd,k0,k1,k2,k3,k5,mN,hC,_⟩:=c.at_ (h:=s1.heap) (by have z:=I.jF;rw[<-hX] at z;exact z)
 have res:=FX.Vl (env:=X.env) (Q:=SP X fM D) (x:=(do let v<-eval (.Call (.Name x p) (e::es) [] jU) X.env;standAt pos;pure v)) (C:=C) (nm:=nm) (q:=qn) (N:=Nn) (bs:=bs) (bm:=FX.qL) (hdct:=true) (sn:=sn) (sub:=sub) (ab:=ab) (col:=col) (dd:=dd) (k0:=k0) (k1:=k1) (k2:=k2) (k3:=k3) (k5:=k5) (newId:="Exception.__new__")
  (M:=model X.prog X.w) (A:=X.A) (E:=X.xe) (s:=s1) (by decide+kernel) hh (ay (gn ev fun v s3 ⟨vv,H3,I3,rv,ea,dx,ev,hn,Cb,hE⟩=>ay (dO (aY ?_))))
 ·exact res
 ·subst ev;obtain rfl:v=Value.ref ea:=rv;obtain⟨⟨oe,vs,e1,e2,e3,e4,e5⟩,_,_⟩:=I3.gj ea _ Cb
  have hC3:s3.heap.get? C=some (excClassObj nm qn C Nn bs FX.qL true sn sub ab col dd k0 k1 k2 k3 k5 "Exception.__new__"):=by
   have b0:=c.obj;obtain⟨nm',q',N',bs',sn',aff,ab',afg,yQ,k0',k1',k2',k3',k5',on,rq,ep,h1,_⟩:=b0;have z1:s1.heap.get? C=_:=(show K.In s1.heap from by have z:=I.jF;rw[<-hX] at z;exact z) _ _ h1;have z3:s3.heap.get? C=_:=(show K.In s3.heap from by have z:=I3.jF;rw[<-hX] at z;exact z) _ _ h1;rw[z3,<-z1,hC]
  refine⟨ea,oe,vs,Z,hC3,e1,e2,e4,(e5 Z).1,(e5 Z).2,?_⟩;subst hX;exact leave_new I3 Cb hn hE
end
section
variable {X:Cx} {fM nj:List (Addr×Obj)} {σ:St} {H H':Hp} {s:Shared}
theorem Cx.Ok.re(o:X.Ok){A':Around}{nu:Bool}{nF:List (Addr×Obj)}{oq:Value->Shared->Prop}(fr:A'.frames=some X.stack)(hd:nu=true->A'.handled=none):Cx.Ok {X with A:=A',calm:=nu,pn:=nF,xe:=oq}:=
 ⟨o.mod,o.kind,o.glob,o.blt,o.above,o.inj,o.has,o.wP,hd,fr,o.sV,o.yK,o.bs,o.pV,o.ww,o.wx,o.jw,o.qF⟩
theorem Inv.re(I:Inv X fM σ H s){A':Around}{nu:Bool}{nF:List (Addr×Obj)}{oq:Value->Shared->Prop}(ok:Cx.Ok {X with A:=A',calm:=nu,pn:=nF,xe:=oq})(hp:∀p∈nF++nj,p∈X.pn++fM):
 Inv {X with A:=A',calm:=nu,pn:=nF,xe:=oq} nj σ H s:=
 ⟨ok,I.os,I.bare,I.base,I.loc,I.cell,I.free,I.mP,fun p h=>I.pin p (hp p h),I.gj,I.len⟩
theorem Inv.forget{i:Nat}{n:Str}{h':Heap}{t':Nat}{m:Str->Option Value}{v:Option Value}(I:Inv X fM σ H s)(hN:X.N.Nodup)(hi:X.N[i]? =some n)(hn:s.heap.Ns X.env.locals m)
 (sY:h'.Ns X.env.locals (fun x=>if x=n then v else m x)) (hs:Heap.SameBut X.env.locals s.heap h'):Inv X fM (σ.set i none) H {s with heap:=h',toks:=t'}:=by
 have wQ:∀b o,X.kX.heap.get? b=some o->b≠X.env.locals:=fun b o e=>ba (aU (aK e) I.ok.above)
 obtain⟨oL,_,_,Po,_⟩:=id hn
 have gj:iZ X.prog X.w H h':=fun b ob e=>by
  refine(I.gj b ob e).nz (fun c w' hc q=>(hs.2 c ?_).trans q) (fun _ q=>q) fun _ _ q=>q
  rintro rfl;rcases hc with z|hc
  ·rw[<-z,I.free] at e;cases e
  ·rw[I.free] at hc;cases hc
 obtain⟨m0,HZ,hl⟩:=I.loc;have em:m0=m:=(HZ.eq_nsMap).trans (hn.eq_nsMap).symm;subst em;refine⟨I.ok,I.os,I.bare,⟨fun b o e n hb hx=>(hs.2 b (wQ b o e)).trans (I.base.keep b o e n hb hx),fun b o e n hb hx=> ?_,I.base.free,fun b o e hx=> ?_,I.base.mj,I.base.lJ,I.base.mF⟩,⟨_,sY,fun j y v' e1 e2 e3=> ?_⟩,fun y c e=> ?_,I.free,I.mP,fun p hp=> ?_,gj,by simpa using I.len⟩
 ·obtain⟨sl,e1⟩:=I.base.slot b o e n hb hx;exact⟨sl,(hs.2 b (wQ b o e)).trans e1⟩
 ·obtain⟨o',e1⟩:=I.base.there b o e hx;exact⟨o',(hs.2 b (wQ b o e)).trans e1⟩
 ·by_cases hj:j=i
  ·subst hj;rw[List.getElem?_set] at e2;simp at e2
  ·rw[d8 (cJ hj)] at e2;obtain⟨u',r',q⟩:=hl j y v' e1 e2 e3;refine⟨u',r',?_⟩;rcases q with⟨k,e⟩|⟨k,c,e,z⟩
   ·refine .inl ⟨k,?_⟩;have:y≠n:=fun e=>hj (Av hN e1 (e▸hi))
    simp[this,e]
   ·exact .inr ⟨k,c,e,z.sameBut hs (I.rp y c e)⟩
 ·obtain⟨w',z⟩:=I.cell y c e;exact⟨w',z.sameBut hs (I.rp y c e)⟩
 ·obtain⟨e,n,ne,nf,d⟩:=I.pin p hp;exact⟨(hs.2 p.1 ne).trans e,n,ne,nf,d⟩
end
def abv(C:Addr)(E:XK)(tb th:TS):TS:=fun D σ H=>tb D σ H/\∀dx gy H',gy.length=σ.length->E (.ref C) (some dx) H'->th D gy H'
def ZD(C:Addr)(E:XK)(i:Nat)(tb th:TS):TS:=fun D σ H=>tb D σ H/\∀(e dx:Addr) (gy:St) (H':Hp),gy.length=σ.length->H' e=none->E (.ref C) (some dx) H'->
 th ⟨fun σ H=>D.nx (σ.set i none) H,D.rt,fun σ H=>D.bk (σ.set i none) H,fun σ H=>D.ct (σ.set i none) H⟩ (gy.set i (some (.ref e))) (fN H' e (XO e C (some dx) false))
section
variable {X:Cx} {C fI:Addr} {E:XK} {x n:Str} {i:Nat} {np u0 pos:Pos} {body sI:List Stmt} {b0:Stmt} {tb th:TS}
abbrev Cx.hand(X:Cx)(e:Addr):Cx:={X with A:=X.A.mark (some (.ref e)),calm:=false,xe:=fun _ _=>False}
theorem ZE(kL:X.stack=X.env::X.outer)(hf:X.env.frame=some X.env.locals)(c:pT X.K C fI)(hg:Gl X x)(hm:X.mg x=some (.ref C))
 (rh:∀(XE:Value->Shared->Prop) (pn:List (Addr×Obj)),nU (jG X.prog X.w C) {X with xe:=XE,pn:=pn} E->l6 {X with xe:=XE,pn:=pn} body tb)
 (G4:∀e:Addr,l6 (X.hand e) (b0::sI) th) (mW:(x==("__debug__":Str))=false:=by decide):
 PS X (.Try body [.ExceptHandler (some (.Name x np)) none (b0::sI) u0] [] [] pos) (abv C E tb th):=by
 intro fM s σ H D I h;obtain⟨hb,hh⟩:=h;refine wpAny_Try_except ?_;have p5:Cx.Ok {X with A:=X.A,calm:=X.calm,pn:=X.pn++fM,xe:=fun ev s1=>wpAny (model X.prog X.w) X.A (noteFrame ev X.env) (fun _ s2=>wpAny (model X.prog X.w) X.A (setFlight ev none) (fun _ s3=>wpAny (model X.prog X.w) X.A (handleBy ev X.env [.ExceptHandler (some (.Name x np)) none (b0::sI) u0]) (SP X fM D) X.xe s3) X.xe s2) X.xe s1}:=I.ok.re I.ok.frames I.ok.hd;generalize Ia:(fun ev s1=>wpAny (model X.prog X.w) X.A (noteFrame ev X.env) (fun _ s2=>wpAny (model X.prog X.w) X.A (setFlight ev none) (fun _ s3=>wpAny (model X.prog X.w) X.A (handleBy ev X.env [.ExceptHandler (some (.Name x np)) none (b0::sI) u0]) (SP X fM D) X.xe s3) X.xe s2) X.xe s1)=XE at p5;have back:∀{gy:St} {H':Hp} {s':Shared},Inv {X with xe:=XE,pn:=X.pn++fM} [] gy H' s'->Inv X fM gy H' s':=fun I'=>I'.re (A':=X.A) (nu:=X.calm) (nF:=X.pn) (oq:=X.xe) (nj:=fM) I.ok (fun p hp=>by simpa using hp)
 have yE:nU (jG X.prog X.w C) {X with xe:=XE,pn:=X.pn++fM} E:=by
  intro Bp mm H1 s1 ev s' I1 hx;obtain⟨e,dx,B,H',rfl,F,hE⟩:=hx;show XE (.ref e) s';rw[<-Ia];have fr:X.A.frames=some (X.env::X.outer):=by rw[<-kL];exact I.ok.frames
  have ff:s'.heap.FunFrames B (X.env::X.outer):=by rw[<-kL];exact F.jw
  refine FX.OB (L:=X.env.locals) fr ff hf F.stays F.new F.tr fun h6 nt=> ?_
  have za:∀h7:Heap,B.StaysIn h7->s'.heap.UpToSlots h7->Inv (X.hand e) fM mm H' {s' with heap:=h7}:=fun h7 st up=>by
   have ou:=yu F.un F.keep F.there st up I1.stack I1.uw;have J:Inv {X with xe:=XE,pn:=X.pn++fM} Bp mm H' {s' with heap:=h7}:=I1.Bl (s':={s' with heap:=h7}) (ch:=[]) F.os ou (F.gj.kept st) F.bare (fun b z=>absurd z (by simp));exact J.re (A':=X.A.mark (some (.ref e))) (nu:=false) (nF:=X.pn) (oq:=fun _ _=>False) (nj:=fM) (I.ok.re I.ok.frames (fun z=>by cases z)) (fun p hp=>by simp at hp⊢;rcases hp with z|z<;>simp[z])
  have I6:=za h6 nt.stays nt.slots;obtain⟨nm,qn,Nn,bs,sn,sub,ab,col,dd,k0,k1,k2,k3,k5,mN,hC,_⟩:=c.at_ (h:=h6) I6.jF;obtain⟨oe,vs,T,oT,ts,he,Ib,_⟩:=nt.tr;refine wpAny_handleBy_cons (codeAny_handlers_test (ux I6 hg hm ?_ mW)) (by intro q;cases q);refine wpAny_excMatches_sub_self hC he Ib (by decide+kernel) (codeAny_handlers_suite ?_);refine FX.yi nt.stays nt.jw nt.tr fun h7 rE=> ?_
  have I7:=za h7 rE.stays (nt.slots.trans rE.slots);refine bF (G4 e fM _ mm H' D I7 (hh dx mm H' (by rw[I1.len,I.len]) hE)) (fun f s8 q=> ?_) fun _ _ z=>z.elim
  have bk:∀{gy:St} {H2:Hp},Inv (X.hand e) fM gy H2 s8->Inv X fM gy H2 s8:=fun J=>J.re (A':=X.A) (nu:=X.calm) (nF:=X.pn) (oq:=X.xe) (nj:=fM) I.ok (fun p hp=>hp)
  show SP X fM D f s8;cases f with
  |next=>obtain⟨gw,H2,J,z⟩:=q;exact⟨gw,H2,bk J,z⟩
  |brk=>obtain⟨gw,H2,J,z⟩:=q;exact⟨gw,H2,bk J,z⟩
  |cont=>obtain⟨gw,H2,J,z⟩:=q;exact⟨gw,H2,bk J,z⟩
  |ret u=>obtain⟨v,gw,H2,J,r,z⟩:=q;exact⟨v,gw,H2,bk J,r,z⟩
 have I':Inv {X with xe:=XE,pn:=X.pn++fM} [] σ H s:=I.re (A':=X.A) (nu:=X.calm) (nF:=X.pn++fM) (oq:=XE) (nj:=[]) p5 (fun p hp=>by simpa using hp);refine bF (rh XE (X.pn++fM) yE [] s σ H D I' hb) (fun f s1 q=> ?_) fun ev s1 z=>z
 cases f with
 |next=>obtain⟨gw,H2,J,z⟩:=q;exact dJ ⟨gw,H2,back J,z⟩
 |brk=>obtain⟨gw,H2,J,z⟩:=q;exact⟨gw,H2,back J,z⟩
 |cont=>obtain⟨gw,H2,J,z⟩:=q;exact⟨gw,H2,back J,z⟩
 |ret u=>obtain⟨v,gw,H2,J,r,z⟩:=q;exact⟨v,gw,H2,back J,r,z⟩
theorem Xa(kL:X.stack=X.env::X.outer)(hf:X.env.frame=some X.env.locals)(c:pT X.K C fI)(hg:Gl X x)(hm:X.mg x=some (.ref C))(hN:X.N.Nodup)(hi:X.N[i]? =some n)(Hr:X.env.scope.names.lookup n=some .local)
 (rh:∀(XE:Value->Shared->Prop) (pn:List (Addr×Obj)),nU (jG X.prog X.w C) {X with xe:=XE,pn:=pn} E->l6 {X with xe:=XE,pn:=pn} body tb)
 (G4:∀e:Addr,l6 (X.hand e) (b0::sI) th) (mW:(x==("__debug__":Str))=false:=by decide):
 PS X (.Try body [.ExceptHandler (some (.Name x np)) (some n) (b0::sI) u0] [] [] pos) (ZD C E i tb th):=by
 intro fM s σ H D I h;obtain⟨hb,hh⟩:=h;refine wpAny_Try_except ?_;have p5:Cx.Ok {X with A:=X.A,calm:=X.calm,pn:=X.pn++fM,xe:=fun ev s1=>wpAny (model X.prog X.w) X.A (noteFrame ev X.env) (fun _ s2=>wpAny (model X.prog X.w) X.A (setFlight ev none) (fun _ s3=>wpAny (model X.prog X.w) X.A (handleBy ev X.env [.ExceptHandler (some (.Name x np)) (some n) (b0::sI) u0]) (SP X fM D) X.xe s3) X.xe s2) X.xe s1}:=I.ok.re I.ok.frames I.ok.hd;generalize Ia:(fun ev s1=>wpAny (model X.prog X.w) X.A (noteFrame ev X.env) (fun _ s2=>wpAny (model X.prog X.w) X.A (setFlight ev none) (fun _ s3=>wpAny (model X.prog X.w) X.A (handleBy ev X.env [.ExceptHandler (some (.Name x np)) (some n) (b0::sI) u0]) (SP X fM D) X.xe s3) X.xe s2) X.xe s1)=XE at p5;have back:∀{gy:St} {H':Hp} {s':Shared},Inv {X with xe:=XE,pn:=X.pn++fM} [] gy H' s'->Inv X fM gy H' s':=fun I'=>I'.re (A':=X.A) (nu:=X.calm) (nF:=X.pn) (oq:=X.xe) (nj:=fM) I.ok (fun p hp=>by simpa using hp)
 have yE:nU (jG X.prog X.w C) {X with xe:=XE,pn:=X.pn++fM} E:=by
  intro Bp mm H1 s1 ev s' I1 hx;obtain⟨e,dx,B,H',rfl,F,hE⟩:=hx;show XE (.ref e) s';rw[<-Ia];have fr:X.A.frames=some (X.env::X.outer):=by rw[<-kL];exact I.ok.frames
  have ff:s'.heap.FunFrames B (X.env::X.outer):=by rw[<-kL];exact F.jw
  refine FX.OB (L:=X.env.locals) fr ff hf F.stays F.new F.tr fun h6 nt=> ?_
  have za:∀h7:Heap,B.StaysIn h7->s'.heap.UpToSlots h7->Inv (X.hand e) fM mm H' {s' with heap:=h7}:=fun h7 st up=>by
   have ou:=yu F.un F.keep F.there st up I1.stack I1.uw;have J:Inv {X with xe:=XE,pn:=X.pn++fM} Bp mm H' {s' with heap:=h7}:=I1.Bl (s':={s' with heap:=h7}) (ch:=[]) F.os ou (F.gj.kept st) F.bare (fun b z=>absurd z (by simp));exact J.re (A':=X.A.mark (some (.ref e))) (nu:=false) (nF:=X.pn) (oq:=fun _ _=>False) (nj:=fM) (I.ok.re I.ok.frames (fun z=>by cases z)) (fun p hp=>by simp at hp⊢;rcases hp with z|z<;>simp[z])
  have I6:=za h6 nt.stays nt.slots;obtain⟨nm,qn,Nn,bs,sn,sub,ab,col,dd,k0,k1,k2,k3,k5,mN,hC,_⟩:=c.at_ (h:=h6) I6.jF;obtain⟨oe,vs,T,oT,ts,he,Ib,_⟩:=nt.tr;refine wpAny_handleBy_cons (codeAny_handlers_test (ux I6 hg hm ?_ mW)) (by intro q;cases q);refine wpAny_excMatches_sub_self hC he Ib (by decide+kernel) (codeAny_handlers_suite_as ?_);refine FX.yi nt.stays nt.jw nt.tr fun h7 rE=> ?_
  have I7:=za h7 rE.stays (nt.slots.trans rE.slots);obtain⟨oe7,vs7,_,_,_,e71,e72,e73,e74,_⟩:=rE.tr;have xo:yX e C (some dx) false h7:=⟨oe7,vs7,e71,e72,e73,e74,fun z=>by cases z⟩
  have ne1:s1.heap.get? e=none:=by
   cases q:s1.heap.get? e with
   |none=>rfl
   |some o=>
    by_cases hm:e∈iQ X.stack
    ·obtain⟨_,o2,z1,z2⟩:=I1.stack.mem hm;rw[q] at z1;cases z1;obtain⟨sl,z3⟩:=F.un.slot e o q (I1.uw e hm) hm (by simp);obtain⟨oe',vs',_,_,_,y1,_,_,y4,_⟩:=F.tr;rw[z3] at y1;cases y1;exact absurd y4 (z2 vs')
    ·obtain⟨o',z1⟩:=F.there e o q hm;rw[F.new] at z1;cases z1
  have nee:∀b o,s1.heap.get? b=some o->b≠e:=fun b o q z=>by rw[z,ne1] at q;cases q
  have I8:Inv (X.hand e) fM mm (fN H' e (XO e C (some dx) false)) {s' with heap:=h7}:=by
   have ou:=yu F.un F.keep F.there rE.stays (nt.slots.trans rE.slots) I1.stack I1.uw
   have un8:Un (iQ X.stack) [] H1 (fN H' e (XO e C (some dx) false)) s1.heap h7:=⟨ou.keep,ou.slot,fun b o q n hx=>by rw[fU (nee b o q)];exact ou.free b o q n hx,ou.there,
    fun b xs q=>by rw[fU (gh (ou.mj b xs q) F.free)];exact ou.mj b xs q,fun b o xs q=>by rw[fU (gh (ou.lJ b o xs q) F.free)];exact ou.lJ b o xs q,
    fun b ps q=>by obtain⟨m1,z⟩:=ou.mF b ps q;exact⟨m1,by rw[fU (gh z F.free)];exact z⟩⟩
   have J:Inv {X with xe:=XE,pn:=X.pn++fM} Bp mm (fN H' e (XO e C (some dx) false)) {s' with heap:=h7}:=
    I1.Bl (s':={s' with heap:=h7}) (ch:=[]) F.os un8 ((F.gj.kept rE.stays).more (fun b u q _=>q) F.free (G3 xo)) F.bare (fun b z=>absurd z (by simp))
   exact J.re (A':=X.A.mark (some (.ref e))) (nu:=false) (nF:=X.pn) (oq:=fun _ _=>False) (nj:=fM) (I.ok.re I.ok.frames (fun z=>by cases z)) (fun p hp=>by simp at hp⊢;rcases hp with z|z<;>simp[z])
  refine Aw (X:=X.hand e) (i:=i) (v:=V.ref e) I8 hN hi (.inl Hr) Z (fun s9 I9=> ?_) (.inr Hr);refine bF (G4 e fM _ _ _ _ I9 (hh e dx mm H' (by rw[I1.len,I.len]) F.free hE)) (fun f s8 q=> ?_) fun _ _ z=>z.elim
  have bk:∀{gy:St} {H2:Hp},Inv (X.hand e) fM gy H2 s8->Inv X fM gy H2 s8:=fun J=>J.re (A':=X.A) (nu:=X.calm) (nF:=X.pn) (oq:=X.xe) (nj:=fM) I.ok (fun p hp=>hp)
  have hp:(X.env.scope.kind==.class||(X.env.scope.kind==.module&&X.env.locals !=X.env.globals))=false:=by rw[I.ok.kind];rfl
  have gone:∀{gy:St} {H2:Hp} {R:Shared->Prop},Inv X fM gy H2 s8->(∀s',Inv X fM (gy.set i none) H2 s'->R s')->wpAny (model X.prog X.w) X.A (do bindName X.env n .none;unbindBehindTheSuite X.env n u0) (fun _ s'=>R s') X.xe s8:=fun{gy H2 R} J k=>by
   obtain⟨m,hn,_⟩:=J.loc;exact wpAny_nameGoes_keeps Hr hn hp fun h' v sY hs=>k _ (J.forget hN hi hn sY hs)
  cases f with
  |next=>obtain⟨gw,H2,J,z⟩:=q;exact gone (bk J) fun s' J'=>⟨_,H2,J',z⟩
  |brk=>obtain⟨gw,H2,J,z⟩:=q;exact gone (bk J) fun s' J'=>⟨_,H2,J',z⟩
  |cont=>obtain⟨gw,H2,J,z⟩:=q;exact gone (bk J) fun s' J'=>⟨_,H2,J',z⟩
  |ret u=>obtain⟨v,gw,H2,J,r,z⟩:=q;exact gone (bk J) fun s' J'=>⟨v,_,H2,J',r,z⟩
 have I':Inv {X with xe:=XE,pn:=X.pn++fM} [] σ H s:=I.re (A':=X.A) (nu:=X.calm) (nF:=X.pn++fM) (oq:=XE) (nj:=[]) p5 (fun p hp=>by simpa using hp);refine bF (rh XE (X.pn++fM) yE [] s σ H D I' hb) (fun f s1 q=> ?_) fun ev s1 z=>z
 cases f with
 |next=>obtain⟨gw,H2,J,z⟩:=q;exact dJ ⟨gw,H2,back J,z⟩
 |brk=>obtain⟨gw,H2,J,z⟩:=q;exact⟨gw,H2,back J,z⟩
 |cont=>obtain⟨gw,H2,J,z⟩:=q;exact⟨gw,H2,back J,z⟩
 |ret u=>obtain⟨v,gw,H2,J,r,z⟩:=q;exact⟨v,gw,H2,back J,r,z⟩
end
end L2
namespace FX
open PySem
section
variable {prog:Program} {w:World} {A:Around} {R:Result->Shared->Prop} {I:Addr} {fp wr:List Addr} {n:Nat} {P:Nat->Value->Prop} {St:Nat->Heap->Prop} {S:Addr} {d:Value}
theorem AS:(toString "max"++toString ".loop":String)="max.loop":=by decide
theorem Gy(W:Walks prog w A.in1 I fp wr n P St)(bt:Nat->Nat->Bool)(zb:CmpOf prog w A.in1 .Gt P bt)(rF:S∉fp):
 ∀(k j:Nat) (s:Shared) (u:Value) (c:Nat),n-(j+1)=k->j+1<=n->St (j+1) s.heap->P (argBest bt j) u->s.heap.get? S=some {cls:=.type "list",dict:=none,data:=.seq #[u,u] c,slots:= #[]}->
  (∀v h' tk,P (argBest bt (n-1)) v->(∀b o,b∉wr->b≠S->s.heap.get? b=some o->h'.get? b=some o)->R (.ok (.ret v)) {s with heap:=h',toks:=tk})->
  codeAny (model prog w) A (.builtin "max.loop" ⟨[.ref I,.none,.ref S],[("default",d)]⟩) R s
 |0,j,s,u,c,e0,e1,st,pu,eS,fin=>by
  have ej:j+1=n:=by omega
  have nw:S∉wr:=fun z=>rF (W.sub _ z)
  refine eO fA (by
   rw[dY cD _];show wpAny _ A.in1 (seqItems? (.ref S)>>=_) _ _ s
   refine ay (d7 eS Z (by
    show wpAny _ A.in1 (tryCatch (pyNext (.ref I)) _>>=_) _ _ s
    refine ay (fg (W.done s _ _ (ej▸st) fun h1 tk kp=>(by
     have tI:=kp S _ nw eS;show wpAny _ A.in1 (updateSeq S (fun _=> #[])>>=_) _ _ _;refine ay (wpAny_updateSeq tI Z (ay (wpAny_letGo (aY ?_))));exact fin u _ tk (by rw[<-ej];exact pu) fun b o nb ns e=>(bq _ _ (cJ ns)).trans (kp b o nb e)))))))
 |k+1,j,s,u,c,e0,e1,st,pu,eS,fin=>by
  have lt:j+1<n:=by omega
  have nw:S∉wr:=fun z=>rF (W.sub _ z)
  refine eO fA (by
   rw[dY cD _];show wpAny _ A.in1 (seqItems? (.ref S)>>=_) _ _ s
   refine ay (d7 eS Z (by
    show wpAny _ A.in1 (tryCatch (pyNext (.ref I)) _>>=_) _ _ s
    refine ay (fg (W.item (j+1) s _ _ lt st fun v h1 tk pv Cc kp=>(by
     have tI:=kp S _ nw eS;show wpAny _ A.in1 (tryCatch (holding [v,v] (richCompare .Gt v u>>=_)) _>>=_) _ _ _;refine ay (fg (dM (ay (zb (j+1) (argBest bt j) v u _ _ _ pv pu ?_))));refine ay (dM (bR (ay (wpAny_letGo (aY ?_)))));cases eb:bt (j+1) (argBest bt j) with
     |true=>
      simp only[dA];refine ay (wpAny_updateSeq tI Z (ay (wpAny_letGo ?_)));rw[AS]
      refine aY ⟨plainId_quiet cD _,Gy W bt zb rF k (j+1) _ v _ (by omega) lt (W.frame _ _ _ Cc fun b hb o e=>(bq _ _ (fun z:S=b=>rF (by rw[z];exact hb))).trans e)
       (by simp only[argBest,eb,dA];exact pv) (b5 _ tI Z) fun v2 h2 zc p2 zd=> ?_⟩
      exact fin v2 h2 zc p2 fun b o nb ns e=>zd b o nb ns ((bq _ _ (cJ ns)).trans (kp b o nb e))
     |false=>
      simp only[bo,cX];refine ay (wpAny_letGo ?_);rw[AS];refine aY ⟨plainId_quiet cD _,Gy W bt zb rF k (j+1) _ u c (by omega) lt Cc (by simp only[argBest,eb,bo,cX];exact pu) tI fun v2 h2 zc p2 zd=> ?_⟩;exact fin v2 h2 zc p2 fun b o nb ns e=>zd b o nb ns (kp b o nb e)))))))
theorem Xb(W:Walks prog w A.in1 I fp wr n P St)(bt:Nat->Nat->Bool)(zb:CmpOf prog w A.in1 .Gt P bt)(rF:S∉fp){s:Shared}{c:Nat}(st:St 0 s.heap)(eS:s.heap.get? S=some {cls:=.type "list",dict:=none,data:=.seq #[] c,slots:= #[]})
 (fin:∀v h' tk,(if n=0 then v=d else P (argBest bt (n-1)) v)->(∀b o,b∉wr->b≠S->s.heap.get? b=some o->h'.get? b=some o)->R (.ok (.ret v)) {s with heap:=h',toks:=tk}):
 codeAny (model prog w) A (.builtin "max.loop" ⟨[.ref I,.none,.ref S],[("default",d)]⟩) R s:=by
 have nw:S∉wr:=fun z=>rF (W.sub _ z)
 by_cases hn:n=0
 ·refine eO fA (by
   rw[dY cD _];show wpAny _ A.in1 (seqItems? (.ref S)>>=_) _ _ s
   refine ay (d7 eS Z (by
    show wpAny _ A.in1 (tryCatch (pyNext (.ref I)) _>>=_) _ _ s
    refine ay (fg (W.done s _ _ (hn▸st) fun h1 tk kp=>(by
     show wpAny _ A.in1 (rule _>>=_) _ _ _;refine ay (wpAny_rule (aY ?_));exact fin d _ tk (by rw[aw hn]) fun b o nb ns e=>kp b o nb e))))))
 ·refine eO fA (by
   rw[dY cD _];show wpAny _ A.in1 (seqItems? (.ref S)>>=_) _ _ s
   refine ay (d7 eS Z (by
    show wpAny _ A.in1 (tryCatch (pyNext (.ref I)) _>>=_) _ _ s
    refine ay (fg (W.item 0 s _ _ (Nat.pos_of_ne_zero hn) st fun v h1 tk pv Cc kp=>(by
     have tI:=kp S _ nw eS;show wpAny _ A.in1 (updateSeq S (fun _=> #[v,v])>>=_) _ _ _;refine ay (wpAny_updateSeq tI Z ?_);rw[AS];refine aY ⟨plainId_quiet cD _,Gy W bt zb rF _ 0 _ v _ Z (Nat.pos_of_ne_zero hn) (W.frame _ _ _ Cc fun b hb o e=>(bq _ _ (fun z:S=b=>rF (by rw[z];exact hb))).trans e) pv (b5 _ tI Z) fun v2 h2 zc p2 zd=> ?_⟩;exact fin v2 h2 zc (by rw[am hn];exact p2) fun b o nb ns e=>zd b o nb ns ((bq _ _ (cJ ns)).trans (kp b o nb e))))))))
end
section
variable {prog:Program} {w:World} {A:Around} {E:Value->Shared->Prop} {s:Shared} {l:Addr} {xs:Array (Int×Tok)}
theorem Ym(a d:Value):argsOk "max" ⟨[a],[("default",d)]⟩:=by unfold argsOk;kernel_rfl
theorem Yn{Q:Value->Shared->Prop}{d:Value}(hh:A.handled=none)(hl:s.heap.IsList l (intItems xs))
 (fin:∀v h' tk,(if xs.size=0 then v=d else(intItems xs)[argBest (fun i j=>decide (numAt xs i>numAt xs j)) (xs.size-1)]? =some v)->(∀b o,s.heap.get? b=some o->h'.get? b=some o)->Q v {s with heap:=h',toks:=tk}):
 wpAny (model prog w) A (call (.builtin "max") [.ref l] [("default",d)]) Q E s:=by
 have body:wpAny (model prog w) A.in1 (Builtin.«max»⟨[.ref l],[("default",d)]⟩) (fun fin s'=>match fin with
  |.done f=>(match (Except.ok f:Result) with|.ok (.ret v)=>Q v s'|.ok _=>False|.error e=>E e s')
  |.again c'=>c'.quiet=true/\codeAny (model prog w) A c' (fun r s'=>match r with|.ok (.ret v)=>Q v s'|.ok _=>False|.error e=>E e s') s') E s:=by
  show wpAny _ A.in1 (Builtin.Builtins.bindParams "max" ["key","default"] 0 ⟨[],[("default",d)]⟩>>=_) _ _ s;refine ay (wpAny_of_eq (show Builtin.Builtins.bindParams "max" ["key","default"] 0 ⟨[],[("default",d)]⟩=pure [none,some d] from Z) (ay (aY (ay ?_))));refine iter_intList hl fun s2 e st tD hlI=> ?_
  subst e;have nf:(s.heap.push {cls:=.type "list_iterator",data:=.fields #[.ref l,.int 0 0]}).objs.size∉ [s.heap.objs.size,l]:=fun hm=>bM _ (tD _ hm)
  refine ay (dS ?_);rw[AS];have W:=Walks.list (prog:=prog) (w:=w) (A:=A.in1) hh s.heap.objs.size l hlI (intItems xs);refine aY ⟨plainId_quiet cD _,Xb W _ (CmpOf.ints_gt (numAt xs) (fun _ _=>intItems_at)) nf (W.frame _ _ _ st fun b _ o e=>aC _ e) (aO _ Z) fun v h' tk hP kp=> ?_⟩;refine fin v h' tk (by simpa [intItems] using hP) (old_kept fun b o nb e=>kp b o nb (ba (aK e)) (aC _ e))
 refine wpAny_call (dc F.plain_max F.entry_max ?_);have ok:=Ym (.ref l) d;simp only[checkBuiltinCall,F.kind_max];cases sg:Manifest.signature? "max" with
 |none=>exact aY body
 |some PY=>
  simp only[argsOk,sg] at ok;have h2:Bind.checkArgs "max" PY ⟨[.ref l],[("default",d)]⟩=pure ():=ok;show wpAny _ A.in1 (Bind.checkArgs "max" PY ⟨[.ref l],[("default",d)]⟩) _ _ s;rw[h2];exact aY body
end
end FX
namespace L2
open PySem PySem.Spec PyProof.Rows
section
variable {X:Cx} {x:Str} {e:Expr} {es:List Expr} {jK:List Keyword} {ta tk:TA} {p pos:Pos}
theorem Ls:∀{ns:List Int} {us:List Value},gG (ns.map V.int) us->∃xs:Array (Int×Tok),us.toArray=intItems xs/\xs.size=ns.length/\∀i,i<ns.length->numAt xs i=ns.getD i 0
 |[],us,r=>by
  cases r;exact⟨#[],by simp[intItems],Z,fun i h=>absurd h (by simp)⟩
 |n::ns,us,r=>by
  cases r with
  |cons r1 r2=>
   obtain⟨t,rfl⟩:=r1;obtain⟨xs,e1,e2,e3⟩:=Ls r2;refine⟨#[(n,t)]++xs,?_,by simp[e2];omega,fun i hi=> ?_⟩
   ·rename_i tJ;have:(Value.int n t::tJ).toArray= #[Value.int n t]++tJ.toArray:=by simp
    rw[this,e1];simp[intItems]
   ·cases i with
    |zero=>
     unfold numAt;rw[Array.getElem?_append_left (by simp)];rfl
    |succ i=>
     have:=e3 i (by simpa using hi);rw[List.getD_cons_succ,<-this];unfold numAt;rw[Array.getElem?_append_right (by simp)];simp
def aax(K:PySem.W.Frag)(ta tk:TA):TE:=fun σ H Q=>ta σ H fun xs H1=>tk σ H1 fun ys H2=>∃(a:Addr) (ns:List Int) (z:Int),xs=[.ref a]/\ys=[.int z]/\fS K H2 a (ns.map V.int)/\
 ∀m,(ns=[]->m=z)->(ns≠ []->m∈ns/\∀y,y∈ns->y<=m)->Q (.int m) H2
theorem Gz(hc:X.calm=true)(hg:Gl X "max")(hm:X.mg "max"=none)(ha:PA X (e::es) ta)(hk:PK X jK tk)(vf:(backToKw pos (keywordEach jK X.env)).filterMap (·.1)=[("default":Str)]:=by rfl)
 (he:backTo pos (starEach (e::es) X.env)=(false,eval e X.env)::backTo pos (starEach es X.env):=by rfl) (jq:(backTo pos (starEach (e::es) X.env)).any (·.1)=false:=by rfl)
 (p8:(backToKw pos (keywordEach jK X.env)).all (·.1.isSome)=true:=by rfl) (ze:(backToKw pos (keywordEach jK X.env)).any (·.1.isNone)=false:=by rfl):
 PE X (.Call (.Name "max" p) (e::es) jK pos) (aax X.K ta tk):=by
 intro fM s σ H Q I h;refine bH (qu I hg hm fC (callWith_kw ?_ he jq p8 ze));refine gn (ha pos fM s σ H _ I h) fun us s1 ⟨vs,H1,I1,r1,q1⟩=>gn (hk pos fM s1 σ H1 _ I1 q1) fun ws s2 ⟨zs,H2,I2,r2,a,ns,z,e1,e2,hs,q⟩=> ?_
 subst e1 e2;rw[vf,gG.yA r1];obtain⟨u,rfl,t,rfl⟩:=vals1 r2;obtain⟨fV,rv,hl,_⟩:=I2.list hs;obtain⟨xs,x1,x2,x3⟩:=Ls rv;show wpAny _ _ (call (.builtin "max") [.ref a] [("default",.int z t)]) _ _ _;refine FX.Yn (xs:=xs) (I2.ok.hd hc) (by rw[<-x1];exact hl.isList) fun v h' p4 hv kp=> ?_
 have I3:=I2.kept (t':=p4) kp
 by_cases hn:xs.size=0
 ·rw[aw hn] at hv;subst hv;have e0:ns=[]:=aM.mp (by omega);exact⟨.int z,H2,I3,⟨_,Z⟩,q z (fun _=>rfl) (fun z=>absurd e0 z)⟩
 ·rw[am hn] at hv;obtain⟨t2,rfl⟩:=intItems_at hv;obtain⟨h1,h2⟩:=argBest_gt (numAt xs) (xs.size-1);refine⟨.int _,H2,I3,⟨_,Z⟩,q _ (fun z=>absurd (by rw[x2,z];rfl) hn) fun _=>⟨?_,fun y hy=> ?_⟩⟩
  ·rw[x3 _ (by omega)];exact PySem.getD_mem (by omega)
  ·obtain⟨j,hj,rfl⟩:=mem_getD hy;rw[<-x3 j hj];exact h2 j (by omega)
end
def wm(P:Program)(w:World)(K:PySem.W.Frag)(a:Addr)(kvs:List (Key×V)):Prop:=
 (a==sysModules)=false/\∃vs,KV kvs vs/\∀h:Heap,K.In h->h.DictOf (k9 P w) a vs
def OE(kvs:List (Key×V))(ty:TE):TE:=fun σ H Q=>ty σ H fun y H1=>∃k v,y=kV k/\i6 kvs k=some v/\Q v H1
def Yo(kvs:List (Key×V))(ty:TE):TE:=fun σ H Q=>ty σ H fun y H1=>∃k,y=kV k/\Q (.bl (!(i6 kvs k).isSome)) H1
section
variable {X:Cx} {o i e:Expr} {pos:Pos} {ty:TE} {a:Addr} {kvs:List (Key×V)}
theorem ra(hk:wm X.prog X.w X.K a kvs)(ho:PE X o (tC (.ref a)))(hi:PE X i ty)(hs:Hn i):PE X (.Subscript o i pos) (OE kvs ty):=by
 intro fM s σ H Q I h;refine Ny PySem.F.slot_dict_getitem.lookup hs (gn (ho fM s σ H (fun x H1=>x=.ref a/\OE kvs ty σ H1 Q) I ⟨Z,h⟩) fun u s1 ⟨x,H1,I1,rx,ex,q1⟩=>gn (hi fM s1 σ H1 _ I1 q1) fun iv s2 ⟨y,H2,I2,ry,k,v,ey,l,q2⟩=> ?_);subst ex ey;obtain rfl:u=Value.ref a:=rx;obtain⟨hd,vs,rel,dd⟩:=hk;have dd:=dd s2.heap I2.jF;refine⟨dd.typeIs,?_⟩;obtain⟨w',hw,oj⟩:=kx.some_of (v:=v) (o:=valueAt vs k) (by rw[<-l];exact rel.val k);exact wpAny_getItem_of (uL ry) dd.mapOf hw ⟨v,H2,I2.tok _,oj,q2⟩
theorem Wd(hk:wm X.prog X.w X.K a kvs)(hi:PE X i ty)(ho:PE X o (tC (.ref a))):PC X .NotIn i o (Yo kvs ty):=by
 intro fM s σ H Q I h;refine gn (hi fM s σ H _ I h) fun iv s1 ⟨y,H1,I1,ry,k,ey,q1⟩=>gn (ho fM s1 σ H1 (fun x H2=>x=.ref a/\Q (.bl (!(i6 kvs k).isSome)) H2) I1 ⟨Z,q1⟩) fun u s2 ⟨x,H2,I2,rx,ex,q2⟩=> ?_
 subst ex ey;obtain rfl:u=Value.ref a:=rx;obtain⟨hd,vs,rel,dd⟩:=hk;have dd:=dd s2.heap I2.jF;refine wpAny_notIn_of (uL ry) hd dd.mapOf ?_;rw[<-(rel.val k).Ak];exact⟨.bl (!(i6 kvs k).isSome),H2,I2.tok _,Z,q2⟩
end
section
variable {X:Cx}
def rG:V->Bool
 |.int _=>true
 |_=>false
theorem Lu:mQ X (.builtin "isinstance") (fun xs H Q=>∃x,xs=[x,.ty "int"]/\((∃i,x=.int i)\/∃z,x=.str z)/\Q (.bl (rG x)) H):=by
 intro fM s σ H xs us Q I r h;obtain⟨x,rfl,hx,q⟩:=h;cases r with
 |cons r1 r2=>
  cases r2 with
  |cons r3 r4=>
   cases r4;cases r3;rcases hx with⟨i,rfl⟩|⟨z,rfl⟩
   ·obtain⟨t,rfl⟩:=r1;exact IsiPair.int_int ⟨.bl true,H,I,Z,q⟩
   ·obtain⟨t,rfl⟩:=r1;exact IsiPair.str_int ⟨.bl false,H,I.tok _,Z,q⟩
theorem x9:wT X "list.count" (fun x xs H Q=>∃(a:Addr) (ns:List Int) (k:Int),x=.ref a/\xs=[.int k]/\fS X.K H a (ns.map V.int)/\Q (.int (ns.count k:Nat)) H):=by
 intro fM s σ H x xs v us Q I rx rs h;obtain⟨a,ns,k,rfl,rfl,hs,q⟩:=h;cases rx;obtain⟨u,rfl,ru⟩:=gG.one rs;obtain⟨t,rfl⟩:=ru;obtain⟨fV,rv,p,hz⟩:=I.list hs;exact count_list_ints (ns:=ns) p.isList rv.ints ⟨.int _,H,I.tok _,⟨_,Z⟩,q⟩
end
abbrev ZF(P:Program)(w:World)(K:PySem.W.Frag)(mg:Str->Option Value)(base:Heap)(A:Around)(i:Nat)(t:TA):TE:=fun σ H Q=>∃f,σ[i]? =some (some (.ref f))/\PySem.W.keepIn K (.ref f)=true/\
 t σ H fun vs H1=>∃k fd ps sp,gL P w K mg base gU k f fd ps sp/\jO k A/\Binds K fd ps []/\sp vs H1 Q E0
theorem Xc{X:Cx}{i:Nat}{x:Str}{p pos:Pos}{e:Expr}{es:List Expr}{t:TA}(hv:PE X (.Name x p) (iP i))(ha:PA X (e::es) t)(he:starEach (e::es) X.env=(false,eval e X.env)::starEach es X.env:=by rfl)
 (jq:(backTo pos (starEach es X.env)).any (·.1)=false:=by rfl):PE X (.Call (.Name x p) (e::es) [] pos) (ZF X.prog X.w X.K X.mg X.base X.A i t):=by
 intro fM s σ H Q I h;obtain⟨f,hf,hk,h⟩:=h;refine bH (gn (hv fM s σ H (fun x H1=>x=.ref f/\H1=H) I ⟨.ref f,hf,Z,Z⟩) fun u s1 ⟨x,H1,I1,rx,ex,eH⟩=> ?_);subst ex eH;obtain rfl:u=Value.ref f:=rx;refine dE (h₀:=X.base) I1.ok.mod.u4 hk (gn (ha pos fM s1 σ H1 _ I1 h) fun us s2 ⟨vs,H2,I2,r,k,fd,ps,sp,F,hr,hb,q⟩=>⟨I2.jF,?_⟩) he jq;exact A9 (kj:=[]) (ds:=[]) F hr hb .nil gH I2 r (by rw[bc];exact q)
theorem MR:∀ns ms:List Int,PyData.eqvAll (ns.map PyData.int) (ms.map PyData.int)=decide (ns=ms)
 |[],[]=>by simp[PyData.eqvAll]
 |[],m::ms=>by simp[PyData.eqvAll]
 |n::ns,[]=>by simp[PyData.eqvAll]
 |n::ns,m::ms=>by
  rw[aB,aB,PyData.eqvAll,MR ns ms,PyData.eqv]
  by_cases h:n=m
  ·subst h
   by_cases h2:ns=ms
   ·subst h2;simp
   ·simp[h2]
  ·simp[h]
theorem FZ:∀ns:List Int,PyData.canLayAll0 (ns.map PyData.int)=true/\PyData.depthAll (ns.map PyData.int)=0
 |[]=>⟨by simp[PyData.canLayAll0],by simp[PyData.depthAll]⟩
 |n::ns=>by
  obtain⟨h1,h2⟩:=FZ ns;exact⟨by rw[aB,PyData.canLayAll0,h1];simp[PyData.canLay0],by rw[aB,PyData.depthAll,h2];simp[PyData.depth]⟩
theorem GA{K:PySem.W.Frag}{H:Hp}:∀ns:List Int,uK K H (ns.map V.int) (ns.map PyData.int)
 |[]=>.nil
 |n::ns=>.cons (.int n) (GA ns)
def abw:R2:=fun x y H Q=>∃(a b:Addr) (ns ms:List Int),x=.ref a/\y=.ref b/\H a=some (.lst (ns.map V.int))/\H b=some (.lst (ms.map V.int))/\Q (.bl (!decide (ns=ms))) H
theorem ZG{X:Cx}(hu:X.A.units+64<cLine):jp X (compareOp .NotEq) abw:=by
 intro fM s σ H x y v u Q I rx ry h;obtain⟨a,b,ns,ms,rfl,rfl,ha,hb,q⟩:=h
 have sh:∀ns:List Int,SeqAt.shaped (.list (ns.map PyData.int))=true:=fun ns=>by
  unfold SeqAt.shaped;rw[PyData.canLay0,(FZ ns).1,PyData.depth,(FZ ns).2];rfl
 refine Zr hu fM s σ H _ _ v u Q I rx ry ⟨.list (ns.map PyData.int),.list (ms.map PyData.int),.lst (fS.of ha) (GA ns),.lst (fS.of hb) (GA ms),sh ns,sh ms,?_⟩;rw[PyData.eqv,MR];exact q
end L2
namespace FX
open PySem
open Sem (wp)
open AutoSeq1 (cw)
section
variable {prog:Program} {w:World} {A:Around} {E:Value->Shared->Prop} {s:Shared}
theorem OF{T newId GQ:String}{Bn Bi:Builtin}{args:List Value}{kw:List (Str×Value)}{S:PySem.Spec}{Q Q₁:Value->Shared->Prop}(ft:TypeCalled T newId GQ)
 (hct:checkTypeCall T ⟨args,kw⟩=pure ()) (hcn:checkBuiltinCall newId ⟨.type T::args,kw⟩=pure ())
 (ZH:entryFor table newId=some Bn) (ZI:entryFor table GQ=some Bi) (g:Meets (Bn ⟨.type T::args,kw⟩) S)
 (h:S A.in1 (wants Q₁ E) s)
 (Bq:∀obj iL,Q₁ obj iL->iL.TypeIs obj T/\argsOk GQ ⟨obj::args,kw⟩/\∃Si,Meets (Bi ⟨obj::args,kw⟩) Si/\Si A.in1 (wants (fun r jN=>r=.none/\Q obj jN) E) iL):
 wpAny (model prog w) A (call (.type T) args kw) Q E s:=by
 obtain⟨c,tl,afh⟩:=ft.mro;have afe:=ft.made;have wE:=ft.sub;refine wpAny_call (codeAny_of_tree ?_);show wpAny _ _ (callAny (.type T) _) _ _ _;refine aY ⟨Code.quiet_builtin _ (by decide+kernel),eO F.entry_type_call ?_⟩;rw[Around.under_plain (weight_type_call_type T args kw) (units_type_call_type T args kw)];have h1:=ft.notType;have h2:=ft.canCreate
 repeat (any_goals (first|assumption|nT))
 refine eZ (dc ft.plain ZH (wpAny_of_eq hcn (g prog w A.in1 _ s h))) fun r iL hr=> ?_
 cases r with
 |error e=>exact hr
 |ok fl=>
  cases fl with
  |ret obj=>
   obtain⟨hT,gj,Si,gi,Cd⟩:=Bq _ _ hr;have hli:=ft.init.lookup;have hbi:=ft.init.bind obj
   repeat (any_goals (first|assumption|nT))
   refine eZ (dc ft.init.plain ZI (ft.init.check _ _ _ _ _ _ _ _ hT gj (gi prog w A.in1 _ iL Cd))) fun abx jN G5=> ?_
   cases abx with
   |error e=>exact G5
   |ok aay=>
    cases aay with
    |ret r=>
     obtain⟨rfl,hq⟩:=G5
     repeat (any_goals (first|assumption|nT))
    |_=>exact G5.elim
  |_=>exact hr.elim
theorem J7(a b:Value):checkTypeCall "enumerate" ⟨[a],[("start",b)]⟩=pure ():=by kernel_rfl
theorem Kr(a b:Value):checkBuiltinCall "enumerate.__new__" ⟨[.type "enumerate",a],[("start",b)]⟩=pure ():=by kernel_rfl
theorem Mb(obj a b:Value):argsOk "object.__init__" ⟨[obj,a],[("start",b)]⟩:=by
 unfold argsOk;rw[signature?_of (id:="object.__init__") (n:=['_','_','t','i','n','i','_','_']) (o:=['t','c','e','j','b','o']) (by kernel_rfl) F.owner_object];kernel_rfl
theorem ND{T newId:String}{self a b:Value}(hl:typeLookup (.type T) "__init__"=pure (some (.builtin "object.__init__")))
 (hm:Bind.madeBy (.type T)=pure (some newId)) (lp:(some newId !=some "object.__new__")=true):
 Meets (Builtin.«Bd.__init__»⟨[self,a],[("start",b)]⟩) (fun _ R s=>s.TypeIs self T/\R (.ok (.ret .none)) s):=by
 refine Meets.of_wp fun prog w A R s hs=> ?_
 obtain⟨hT,hq⟩:=hs
 repeat (any_goals (first|assumption|nT))
 exact⟨_,Z,hq⟩
end
theorem Tf(l:Addr)(items:Array Value)(n:Nat)(vg:Option Addr)(sl:Array (Option Value))(t:Tok):
 Meets (Builtin.«enumerate.__new__»⟨[.type "enumerate",.ref l],[("start",.int 1 t)]⟩) (fun _ R s=>s.heap.get? l=some {cls:=.type "list",dict:=vg,data:=.seq items n,slots:=sl}/\
  R (.ok (.ret (.ref (s.heap.push {cls:=.type "list_iterator",data:=.fields #[.ref l,.int 0 0]}).objs.size)))
    {s with heap:=(s.heap.push {cls:=.type "list_iterator",data:=.fields #[.ref l,.int 0 0]}).push {cls:=.type "enumerate",data:=.fields #[.none,.bool false,.ref s.heap.objs.size,rawInt 1,.none,.none]}}):=
 .of_wp fun prog w A R s h=>by
  obtain⟨hp,g,d,tk,os⟩:=s;obtain⟨hl,h⟩:=h;have wE:=sub_enumerate;have hL:Heap.IsList (Shared.heap ⟨hp,g,d,tk,os⟩) l items:=⟨_,hl,Z,n,Z⟩
  wp_walk using cw hl
  refine wpAny_stack_any fun st=>aY ?_
  split
  ·rename_i c _ _ _ _ _;cases (c==Value.type "enumerate")
   ·wp_walk using cw hl,dW hL
    exact⟨_,Z,h⟩
   ·wp_walk using cw hl,dW hL
    exact⟨_,Z,h⟩
  ·wp_walk using cw hl,dW hL
   exact⟨_,Z,h⟩
theorem T0(l:Addr)(items:Array Value)(n:Nat)(vg:Option Addr)(sl:Array (Option Value))(t:Tok):
 Meets (Builtin.«enumerate.__new__»⟨[.type "enumerate",.ref l],[("start",.int 1 t)]⟩) (fun _ R s=>s.heap.get? l=some {cls:=.type "tuple",dict:=vg,data:=.seq items n,slots:=sl}/\
  R (.ok (.ret (.ref (s.heap.push {cls:=.type "tuple_iterator",data:=.fields #[.ref l,.int 0 0]}).objs.size)))
    {s with heap:=(s.heap.push {cls:=.type "tuple_iterator",data:=.fields #[.ref l,.int 0 0]}).push {cls:=.type "enumerate",data:=.fields #[.none,.bool false,.ref s.heap.objs.size,rawInt 1,.none,.none]}}):=
 .of_wp fun prog w A R s h=>by
  obtain⟨hp,g,d,tk,os⟩:=s;obtain⟨hl,h⟩:=h;have wE:=sub_enumerate;have hL:Heap.IsTuple (Shared.heap ⟨hp,g,d,tk,os⟩) l items:=⟨_,hl,Z,n,Z⟩
  wp_walk using cw hl
  refine wpAny_stack_any fun st=>aY ?_
  split
  ·rename_i c _ _ _ _ _;cases (c==Value.type "enumerate")
   ·wp_walk using cw hl,eW hL
    exact⟨_,Z,h⟩
   ·wp_walk using cw hl,eW hL
    exact⟨_,Z,h⟩
  ·wp_walk using cw hl,eW hL
   exact⟨_,Z,h⟩
section
variable {prog:Program} {w:World} {A:Around} {E:Value->Shared->Prop} {s:Shared}
theorem call_enum_list{l:Addr}{items:Array Value}{t:Tok}{Q:Value->Shared->Prop}(hL:s.heap.IsList l items)
 (h:∀h',IsEnum h' (s.heap.objs.size+1) s.heap.objs.size 1 .none->h'.IsListIter s.heap.objs.size l 0->h'.objs.size=s.heap.objs.size+2->
   (∀b o,s.heap.get? b=some o->h'.get? b=some o)->Q (.ref (s.heap.objs.size+1)) {s with heap:=h'}):
 wpAny (model prog w) A (call (.type "enumerate") [.ref l] [("start",.int 1 t)]) Q E s:=by
 obtain⟨⟨c,vg,dt,sl⟩,hl,hc,n,hd⟩:=hL;replace hc:c=.type "list":=hc;replace hd:dt=.seq items n:=hd;subst hc hd
 refine OF (Q₁:=fun obj iL=>iL.TypeIs obj "enumerate"/\Q obj iL) cW (J7 _ _) (Kr _ _) F.entry_enumerate_new F.entry_object_init (Tf l items n vg sl t) ⟨hl,?_⟩
  fun obj iL hq=>⟨hq.1,Mb obj _ _,_,ND cW.init.lookup cW.made (by decide),hq.1,Z,hq.2⟩
 have hz:(s.heap.push {cls:=.type "list_iterator",data:=.fields #[.ref l,.int 0 0]}).objs.size=s.heap.objs.size+1:=bz ..;show _/\_;rw[hz]
 have he:IsEnum ((s.heap.push {cls:=.type "list_iterator",data:=.fields #[.ref l,.int 0 0]}).push
  {cls:=.type "enumerate",data:=.fields #[.none,.bool false,.ref s.heap.objs.size,rawInt 1,.none,.none]}) (s.heap.objs.size+1) s.heap.objs.size 1 .none:=by
  rw[<-hz];exact aO _ Z
 refine⟨⟨_,he,Z⟩,h _ he ⟨_,aC _ (aO _ Z),Z,Z⟩ (by rw[bz,hz]) fun b o e=>aC _ (aC _ e)⟩
theorem Tg{l:Addr}{items:Array Value}{t:Tok}{Q:Value->Shared->Prop}(hL:s.heap.IsTuple l items)
 (h:∀h',IsEnum h' (s.heap.objs.size+1) s.heap.objs.size 1 .none->h'.IsTupleIter s.heap.objs.size l 0->h'.objs.size=s.heap.objs.size+2->
   (∀b o,s.heap.get? b=some o->h'.get? b=some o)->Q (.ref (s.heap.objs.size+1)) {s with heap:=h'}):
 wpAny (model prog w) A (call (.type "enumerate") [.ref l] [("start",.int 1 t)]) Q E s:=by
 obtain⟨⟨c,vg,dt,sl⟩,hl,hc,n,hd⟩:=hL;replace hc:c=.type "tuple":=hc;replace hd:dt=.seq items n:=hd;subst hc hd
 refine OF (Q₁:=fun obj iL=>iL.TypeIs obj "enumerate"/\Q obj iL) cW (J7 _ _) (Kr _ _) F.entry_enumerate_new F.entry_object_init (T0 l items n vg sl t) ⟨hl,?_⟩
  fun obj iL hq=>⟨hq.1,Mb obj _ _,_,ND cW.init.lookup cW.made (by decide),hq.1,Z,hq.2⟩
 have hz:(s.heap.push {cls:=.type "tuple_iterator",data:=.fields #[.ref l,.int 0 0]}).objs.size=s.heap.objs.size+1:=bz ..;show _/\_;rw[hz]
 have he:IsEnum ((s.heap.push {cls:=.type "tuple_iterator",data:=.fields #[.ref l,.int 0 0]}).push
  {cls:=.type "enumerate",data:=.fields #[.none,.bool false,.ref s.heap.objs.size,rawInt 1,.none,.none]}) (s.heap.objs.size+1) s.heap.objs.size 1 .none:=by
  rw[<-hz];exact aO _ Z
 refine⟨⟨_,he,Z⟩,h _ he ⟨_,aC _ (aO _ Z),Z,Z⟩ (by rw[bz,hz]) fun b o e=>aC _ (aC _ e)⟩
theorem Sm{it l:Addr}{i:Nat}{items}{x:Value}{Q:Value->Shared->Prop}(kB:s.heap.IsTupleIter it l i)
 (hl:s.heap.IsTuple l items) (hx:items[i]? =some x)
 (hQ:∀h',h'.IsTupleIter it l (i+1)->Heap.SameBut it s.heap h'->Q x {s with heap:=h'}):
 wpAny (model prog w) A (Builtin.SmallTypes.nextOf (.ref it)) Q E s:=by
 obtain⟨o,ho,hc,hd⟩:=id kB;obtain⟨ol,Ic,_,nl,w9⟩:=hl;unfold Builtin.SmallTypes.nextOf
 refine ay (eY (name:=Str.ofString "__next__") kB.typeIs c7
  (wpAny_call_entry c7 kB.typeIs F.entry_tuple_iterator_next ?_ (F.args_tuple_iterator_next_1 _)))
 show wpAny _ _ (field (.ref it) 0>>=_) _ _ s;refine ay (cS ho hd (x:=.ref l) Z ?_);show wpAny _ _ (if (Value.ref l==Value.none)=true then _ else _) _ _ s;rw[am (show¬((Value.ref l==Value.none)=true) from aQ)];show wpAny _ _ (field (.ref it) 1>>=_) _ _ s;refine ay (cS ho hd (x:=.int i 0) Z ?_);show wpAny _ _ (seqItems? (.ref l)>>=_) _ _ s;refine ay (d7 Ic w9 ?_);simp only[a6,hx];refine ay (fh ho hd (by simp) (aY ⟨x,Z,aY (hQ _ ?_ (Heap.SameBut.update ..))⟩))
 exact⟨_,b5 _ ho (Obj.isFreed_of_fields (dI hd _)),(Obj.cls_mapFields ..).trans hc,by
  rw[dI hd];simp[rawInt]⟩
theorem J0{it l:Addr}{i:Nat}{items}{Q:Value->Shared->Prop}(hh:A.handled=none)
 (kB:s.heap.IsTupleIter it l i) (hl:s.heap.IsTuple l items) (hx:items[i]? =none)
 (hE:∀h' e,Heap.ExtBut it s.heap h'->(∃o,h'.get? e=some o/\o.cls=.type "StopIteration")->E (.ref e) {s with heap:=h'}):
 wpAny (model prog w) A (Builtin.SmallTypes.nextOf (.ref it)) Q E s:=by
 obtain⟨o,ho,hc,hd⟩:=id kB;obtain⟨ol,Ic,_,nl,w9⟩:=hl;unfold Builtin.SmallTypes.nextOf
 refine ay (eY (name:=Str.ofString "__next__") kB.typeIs c7
  (wpAny_call_entry c7 kB.typeIs F.entry_tuple_iterator_next ?_ (F.args_tuple_iterator_next_1 _)))
 show wpAny _ _ (field (.ref it) 0>>=_) _ _ s;refine ay (cS ho hd (x:=.ref l) Z ?_);show wpAny _ _ (if (Value.ref l==Value.none)=true then _ else _) _ _ s;rw[am (show¬((Value.ref l==Value.none)=true) from aQ)];show wpAny _ _ (field (.ref it) 1>>=_) _ _ s;refine ay (cS ho hd (x:=.int i 0) Z ?_);show wpAny _ _ (seqItems? (.ref l)>>=_) _ _ s;refine ay (d7 Ic w9 ?_);simp only[a6,hx];refine ay (wpAny_rule (ay (fh ho hd (by simp) ?_)));show wpAny _ _ (newExc (.type "StopIteration") []>>=_) _ _ _;refine ay ?_;simp only[newExc,newTuple];refine ay (dS ?_ (by size_fits));refine ay (m:=firstArgMember _ _) (wpAny_of_eq (a:=Value.none) (by first|rfl|(simp only[firstArgMember];rfl)) ?_);refine dS ?_ (by size_fits);simp only[raiseNew];refine ay (wpAny_handled ?_)
 first|rw[show A.in1.handled=none from hh]|rw[hh]
 refine ay (aY (wpAny_throw ?_));exact hE _ _ (((Heap.SameBut.update ..).extBut.push _).push _) ⟨_,aO _ Z,Z⟩
end
theorem We{prog:Program}{w:World}{A:Around}(hh:A.handled=none)(it l:Addr)(lp:l≠it)(items:Array Value):
 Draws prog w A it [it,l] items.size (fun i v=>items[i]? =some v) (fun i h=>h.IsTupleIter it l i/\h.IsTuple l items) where
 live:=fun _ _ st=>let ⟨o,ho,_⟩:=st.1;⟨o,ho⟩
 frame:=fun _ _ _ st hk=>⟨let ⟨o,ho,r⟩:=st.1;⟨o,hk it (by simp) o ho,r⟩,let ⟨o,ho,r⟩:=st.2;⟨o,hk l (by simp) o ho,r⟩⟩
 item:=fun i s Q E hi st hQ=>by
  refine Sm st.1 st.2 (x:=items[i]) (by simp[hi]) fun h' Hq PZ=> ?_
  exact hQ _ h' s.toks (by simp[hi]) ⟨Hq,st.2.extBut PZ.extBut lp⟩ PZ
 done:=fun s Q E st hE=>J0 hh st.1 st.2 (by simp) hE
theorem Wf{prog:Program}{w:World}{A:Around}{it:Addr}{fp:List Addr}{n:Nat}{P:Nat->Value->Prop}{St:Nat->Heap->Prop}(D:Draws prog w A it fp n P St):
 Draws prog w A it fp (n+1) (fun j x=>P (j-1) x) (fun j h=>1<=j/\St (j-1) h) where
 live:=fun i h st=>D.live _ h st.2
 frame:=fun i h h' st hk=>⟨st.1,D.frame _ h h' st.2 hk⟩
 item:=fun i s Q E hi st hQ=>D.item (i-1) s Q E (by have:=st.1;omega) st.2 fun x h' tk hp kL hs=>hQ x h' tk hp ⟨by omega,by have:=st.1;rw[show i+1-1=i-1+1 by omega];exact kL⟩ hs
 done:=fun s Q E st hE=>D.done s Q E st.2 hE
end FX
namespace L2
open PySem PySem.Spec PyProof.Rows
def xa(sq:Hp->List V->Prop):It:=
 ⟨fun i H=>∃(xs:List V) (x:V),sq H xs/\xs[i]? =some x,fun i H v H'=>∃T x,v=.ref T/\H T=none/\H'=fN H T (.tup [.int ((i+1:Nat):Int),x])/\∀xs,sq H xs->xs[i]? =some x,fun i H=>∃xs:List V,sq H xs/\xs.length<=i⟩
theorem MS{P:Program}{w:World}{K:PySem.W.Frag}{oS:List Expr}{kk:Nat}{mS:Pos}(a e it:Addr)(sq:Hp->List V->Prop)(rG:Nat->Heap->Prop)(Ie:Array Value->Heap->Prop)(Ig:e≠it)(Cb:e≠a)
 (obj:∀i h,rG i h->∃o,h.get? it=some o/\∀v,o.data≠ .cell v) (keep:∀i h h',rG i h->(∀o,h.get? it=some o->h'.get? it=some o)->rG i h')
 (seq:∀(X:Cx) (fM:List (Addr×Obj)) (σ:St) (H:Hp) (s:Shared) (xs:List V),X.K=K->Inv X fM σ H s->sq H xs->∃fV:List Value,gG xs fV/\Ie fV.toArray s.heap)
 (yC:∀(X:Cx) (fM:List (Addr×Obj)) (σ:St) (H:Hp) (s:Shared) (xs ys:List V),X.K=K->Inv X fM σ H s->sq H xs->sq H ys->xs=ys)
 (D:∀(prog:Program) (w:World) (A:Around) (items:Array Value),A.handled=none->Draws prog w A it [it,a] items.size (fun i v=>items[i]? =some v) (fun i h=>rG i h/\Ie items h))
 (fin:∀(prog:Program) (w:World) (A:Around) (E:Value->Shared->Prop) (s:Shared) (Q:Value->Shared->Prop) (items:Array Value) (i:Nat),A.handled=none->rG i s.heap->Ie items s.heap->items[i]? =none->
   (∀h' e,Heap.ExtBut it s.heap h'->(∃o,h'.get? e=some o/\o.cls=.type "StopIteration")->E (.ref e) {s with heap:=h'})->wpAny (model prog w) A (Builtin.SmallTypes.nextOf (.ref it)) Q E s):
 pR P w K (.Tuple oS kk mS) (xa sq) [e,it] e (fun i h=>(∃lr,IsEnum h e it ((i+1:Nat):Int) lr)/\rG i h) where
 mem:=by simp
 obj:=fun i h st b hb=>by
  obtain⟨⟨lr,he⟩,hi⟩:=st;have e':b=e\/b=it:=by simpa using hb
  rcases e' with z|z
  ·rw[z];exact⟨_,he,fun v q=>nomatch q⟩
  ·rw[z];exact obj i h hi
 keep:=fun i h h' st k=>let ⟨⟨lr,he⟩,hi⟩:=st;⟨⟨lr,k e (by simp) _ he⟩,keep i h h' hi fun o q=>k it (by simp) o q⟩
 item:=by
  intro X hP hw hK hc i fM s σ H E I hf st hg;subst hP hw;obtain⟨⟨lr,he⟩,kB⟩:=st;obtain⟨xs,x,hq,hx⟩:=hg;obtain⟨fV,rv,p⟩:=seq X fM σ H s xs hK I hq;obtain⟨u,hu,ru⟩:=rv.get hx;have rD:e<s.heap.objs.size:=aK he;have HR:it<s.heap.objs.size:=by obtain⟨_,q,_⟩:=obj i _ kB;exact aK q
  have ia:i<fV.length:=(ap.mp hu).1;have D1:=FX.Wf (D X.prog X.w X.A.in1 fV.toArray (I.ok.hd hc));refine wpAny_pyNext_enum_itemD (i:=i+1) D1 he ⟨by omega,kB,p⟩ (by rw[aR];omega) Ig (by simp[Ig,Cb]) fun y h' tk hP ho kL hT hsz hk=> ?_
  have ey:y=u:=by
   have hP:fV.toArray[i+1-1]? =some y:=hP;rw[show i+1-1=i by omega,List.getElem?_toArray,hu] at hP;exact(af hP).symm
  subst ey;refine⟨_,Z,wpAny_letOwnedTupleGo_enum (s:={s with heap:=h',toks:=tk+1}) ho fun om pY sb=> ?_⟩;have yU:om.get? s.heap.objs.size=some {cls:=.type "tuple",data:=.seq #[.int ((i+1:Nat):Int) tk,y]}:=(sb.2 _ (fL rD)).trans hT
  have new:jk X.prog X.w (fN H s.heap.objs.size (.tup [.int ((i+1:Nat):Int),x])) om s.heap.objs.size (.tup [.int ((i+1:Nat):Int),x]):=
   ⟨by show 2<=sizeLine;decide,[.int ((i+1:Nat):Int) tk,y],.cons ⟨_,Z⟩ (.cons ru .nil),⟨_,yU,Z,_,Z⟩⟩
  have I1:Inv X fM σ (fN H s.heap.objs.size (.tup [.int ((i+1:Nat):Int),x])) {s with heap:=om,toks:=tk+1}:=
   I.Fi (ch:=[e,it]) (fun b ob hb q=>(sb.2 b (fun z=>hb (by simp[z]))).trans (hk b ob (fun z=>hb (by simp[z])) (fun z=>hb (by simp[z])) q)) hf (aA _) new
  refine⟨.ref s.heap.objs.size,_,I1,Z,⟨_,x,Z,I.gj.fresh (aA _),Z,fun ys hy=>by rw[yC X fM σ H s ys xs hK I hy hq];exact hx⟩,⟨⟨y,?_⟩,?_⟩,fun b hb=> ?_⟩
  ·have e1:((i+1+1:Nat):Int)=((i+1:Nat):Int)+1:=by omega
   rw[e1];exact pY
  ·have h1:rG (i+1+1-1) h':=kL.2.1;rw[show i+1+1-1=i+1 by omega] at h1;exact keep (i+1) h' om h1 fun o q=>(sb.2 it (cJ Ig)).trans q
  ·have HS:b<s.heap.objs.size:=by
    have e':b=e\/b=it:=by simpa using hb
    rcases e' with z|z
    ·rw[z];exact rD
    ·rw[z];exact HR
   rw[fU (ba HS)];exact(hf b hb).1
 done:=by
  intro X hP hw hK hc i fM s σ H E I hf st hg;subst hP hw;obtain⟨⟨lr,he⟩,kB⟩:=st;obtain⟨xs,hq,hx⟩:=hg;obtain⟨fV,rv,p⟩:=seq X fM σ H s xs hK I hq;obtain⟨f0,f1,f2,f3,f4,f5⟩:=hf it (by simp);have hl:=rv.length;have hT:s.TypeIs (.ref e) "enumerate":=⟨_,he,Z⟩;unfold pyNext
  refine ay (wpAny_attempt (eY (name:=Str.ofString "__next__") hT F.slot_enumerate_next
   (wpAny_call_entry F.slot_enumerate_next hT F.entry_enumerate_next ?_ (F.args_enumerate_next_1 _))))
  show wpAny _ _ (field (.ref e) 2>>=_) _ _ _;refine ay (cS he Z (x:=.ref it) Z ?_);refine ay (fin X.prog X.w X.A.in1 _ s _ fV.toArray i (I.ok.hd hc) kB p (by simp;omega) fun h' x pY hx'=> ?_);obtain⟨o,ho,mq⟩:=hx';refine ay (wpAny_isInstance (T:="StopIteration") (b:=true) ⟨o,ho,mq⟩ isSubtype_stop ?_);exact aY ⟨Z,I.turned (t':=s.toks) (fun b o hb q=>pY b o hb q) f0 f1 f3 f4 f5⟩
 self:=fun A i s Q E st h=>let ⟨⟨_,he⟩,_⟩:=st;dR he h
def i1L(K:PySem.W.Frag)(ta tk:TA):TI:=fun σ H R=>ta σ H fun vs H1=>tk σ H1 fun ws H2=>∃a xs,vs=[.ref a]/\ws=[.int 1]/\fS K H2 a xs/\R (xa fun H xs=>fS K H a xs) H2
def i1T(K:PySem.W.Frag)(ta tk:TA):TI:=fun σ H R=>ta σ H fun vs H1=>tk σ H1 fun ws H2=>∃a xs,vs=[.ref a]/\ws=[.int 1]/\iO K H2 a xs/\R (xa fun H xs=>iO K H a xs) H2
theorem Ks{M:Model}{A:Around}{E:Value->Shared->Prop}{s:Shared}{env:Env}{pos:Pos}{T:String}{e:Expr}{hV:List Expr}{jK:List Keyword}{Q:Value->Shared->Prop}
 (h:wpAny M A (spliced (backTo pos (starEach (e::hV) env))) (fun vs iL=>wpAny M A (evalAll ((backToKw pos (keywordEach jK env)).map (·.2)))
   (fun kvs jN=>wpAny M A (call (.type T) vs (((backToKw pos (keywordEach jK env)).filterMap (·.1)).zip kvs)) Q E jN) E iL) E s)
 (he:backTo pos (starEach (e::hV) env)=(false,eval e env)::backTo pos (starEach hV env):=by rfl)
 (GM:(backTo pos (starEach (e::hV) env)).any (·.1)=false:=by rfl)
 (oU:(backToKw pos (keywordEach jK env)).all (·.1.isSome)=true:=by rfl)
 (hkw:(backToKw pos (keywordEach jK env)).any (·.1.isNone)=false:=by rfl):
 wpAny M A (callWith pos (.type T) [] (backTo pos (starEach (e::hV) env)) (backToKw pos (keywordEach jK env))) Q E s:=by
 have h2:wpAny M A (evalArgs (.type T) true (backTo pos (starEach (e::hV) env)) (backToKw pos (keywordEach jK env))) (fun a iL=>wpAny M A (call (.type T) ([]++a.pos) a.kw) Q E iL) E s:=by
  rw[he] at h⊢;exact evalArgs_kwB oU h
 unfold callWith;refine ay (dM (bF h2 (fun a iL wD=>ay (dO ?_)) fun _ _ x=>x));simp only[GM,hkw,Bool.or_false];refine ay (aY ?_);exact ay (bF wD (fun r jN hr=>ay (dM (wpAny_point (aY hr)))) fun _ _ x=>x)
section
variable {X:Cx} {e:Expr} {jK:List Keyword} {ta tk:TA} {p pos mS:Pos} {oS:List Expr} {kk:Nat}
theorem Xd(hg:Gl X "enumerate")(hm:X.mg "enumerate"=none)(ha:PA X [e] ta)(hk:PK X jK tk)(vf:(backToKw pos (keywordEach jK X.env)).filterMap (·.1)=[("start":Str)]:=by rfl)
 (he:backTo pos (starEach [e] X.env)=(false,eval e X.env)::backTo pos (starEach [] X.env):=by rfl) (jq:(backTo pos (starEach [e] X.env)).any (·.1)=false:=by rfl)
 (p8:(backToKw pos (keywordEach jK X.env)).all (·.1.isSome)=true:=by rfl) (ze:(backToKw pos (keywordEach jK X.env)).any (·.1.isNone)=false:=by rfl):
 PI X (.Tuple oS kk mS) (.Call (.Name "enumerate" p) [e] jK pos) (i1L X.K ta tk):=by
 intro fM s σ H R I h;refine bH (qu I hg hm boot_enumerate (Ks ?_ he jq p8 ze));refine gn (ha pos fM s σ H _ I h) fun us s1 ⟨vs,H1,I1,r1,q1⟩=>gn (hk pos fM s1 σ H1 _ I1 q1) fun ws s2 ⟨zs,H2,I2,r2,a,xs,e1,e2,hq,q⟩=> ?_
 subst e1 e2;rw[vf,gG.yA r1];obtain⟨u,rfl,t,rfl⟩:=vals1 r2;obtain⟨fV,rv,p',hz⟩:=I2.list hq;show wpAny _ _ (call (.type "enumerate") [.ref a] [("start",.int 1 t)]) _ _ _;refine FX.call_enum_list p'.isList fun h' pY kB hsz vd=>dR pY ?_
 have I3:Inv X fM σ H2 {s2 with heap:=h'}:=I2.kept (t':=s2.toks) vd;have p8:a<s2.heap.objs.size:=by obtain⟨o,n,ho,_⟩:=p';exact aK ho
 refine⟨s2.heap.objs.size+1,[s2.heap.objs.size+1,s2.heap.objs.size],_,_,H2,Z,I3,MS a (s2.heap.objs.size+1) s2.heap.objs.size (fun H xs=>fS X.K H a xs) (fun i h=>h.IsListIter s2.heap.objs.size a i) (fun fV h=>h.IsList a fV) (Nat.succ_ne_self _) (ba (dU p8)).symm
  (fun i h hi=>let ⟨o,ho,hc,hd⟩:=hi;⟨o,ho,fun v q=>by rw[hd] at q;cases q⟩) (fun i h h' hi k=>hi.at k)
  (fun X' fM σ H s xs eK I hs=>by rw[<-eK] at hs;obtain⟨fV,rv,p,_⟩:=I.list hs;exact⟨fV,rv,p.isList⟩) (fun X' fM σ H s xs ys eK I h1 h2=>by rw[<-eK] at h1 h2;exact I.yd h1 h2)
  (fun prog w A items hh=>Draws.list hh _ _ (ba p8) items) (fun prog w A E s Q items i hh hi hs hx hE=>wpAny_nextOf_list_end hh hi hs hx hE),⟨⟨.none,pY⟩,kB⟩,fun b hb=> ?_,q⟩
 have e':b=s2.heap.objs.size+1\/b=s2.heap.objs.size:=by simpa using hb
 have pi:s2.heap.objs.size<=b:=by
  rcases e' with z|z
  ·rw[z];exact cA _ _
  ·rw[z];exact aA _
 exact I2.rk pi (I2.gj.fresh pi)
theorem Xe(hg:Gl X "enumerate")(hm:X.mg "enumerate"=none)(ha:PA X [e] ta)(hk:PK X jK tk)(vf:(backToKw pos (keywordEach jK X.env)).filterMap (·.1)=[("start":Str)]:=by rfl)
 (he:backTo pos (starEach [e] X.env)=(false,eval e X.env)::backTo pos (starEach [] X.env):=by rfl) (jq:(backTo pos (starEach [e] X.env)).any (·.1)=false:=by rfl)
 (p8:(backToKw pos (keywordEach jK X.env)).all (·.1.isSome)=true:=by rfl) (ze:(backToKw pos (keywordEach jK X.env)).any (·.1.isNone)=false:=by rfl):
 PI X (.Tuple oS kk mS) (.Call (.Name "enumerate" p) [e] jK pos) (i1T X.K ta tk):=by
 intro fM s σ H R I h;refine bH (qu I hg hm boot_enumerate (Ks ?_ he jq p8 ze));refine gn (ha pos fM s σ H _ I h) fun us s1 ⟨vs,H1,I1,r1,q1⟩=>gn (hk pos fM s1 σ H1 _ I1 q1) fun ws s2 ⟨zs,H2,I2,r2,a,xs,e1,e2,hq,q⟩=> ?_
 subst e1 e2;rw[vf,gG.yA r1];obtain⟨u,rfl,t,rfl⟩:=vals1 r2;obtain⟨fV,rv,p',hz⟩:=I2.tuple hq;show wpAny _ _ (call (.type "enumerate") [.ref a] [("start",.int 1 t)]) _ _ _;refine FX.Tg p' fun h' pY kB hsz vd=>dR pY ?_
 have I3:Inv X fM σ H2 {s2 with heap:=h'}:=I2.kept (t':=s2.toks) vd;have p8:a<s2.heap.objs.size:=by obtain⟨o,ho,_⟩:=p';exact aK ho
 refine⟨s2.heap.objs.size+1,[s2.heap.objs.size+1,s2.heap.objs.size],_,_,H2,Z,I3,MS a (s2.heap.objs.size+1) s2.heap.objs.size (fun H xs=>iO X.K H a xs) (fun i h=>h.IsTupleIter s2.heap.objs.size a i) (fun fV h=>h.IsTuple a fV) (Nat.succ_ne_self _) (ba (dU p8)).symm
  (fun i h hi=>let ⟨o,ho,hc,hd⟩:=hi;⟨o,ho,fun v q=>by rw[hd] at q;cases q⟩) (fun i h h' hi k=>let ⟨o,ho,r⟩:=hi;⟨o,k o ho,r⟩)
  (fun X' fM σ H s xs eK I hs=>by rw[<-eK] at hs;obtain⟨fV,rv,p,_⟩:=I.tuple hs;exact⟨fV,rv,p⟩) (fun X' fM σ H s xs ys eK I h1 h2=>by rw[<-eK] at h1 h2;exact I.L5 h1 h2)
  (fun prog w A items hh=>FX.We hh _ _ (ba p8) items) (fun prog w A E s Q items i hh hi hs hx hE=>FX.J0 hh hi hs hx hE),⟨⟨.none,pY⟩,kB⟩,fun b hb=> ?_,q⟩
 have e':b=s2.heap.objs.size+1\/b=s2.heap.objs.size:=by simpa using hb
 have pi:s2.heap.objs.size<=b:=by
  rcases e' with z|z
  ·rw[z];exact cA _ _
  ·rw[z];exact aA _
 exact I2.rk pi (I2.gj.fresh pi)
end
theorem NE{sq:Hp->List V->Prop}{xs:List V}{g:TG}{tb:TS}{D:oQ}{σ:St}{H:Hp}(Pv:Nat->St->Hp->Prop)(h0:Pv 0 σ H)(hl:∀i σ H,i<=xs.length->Pv i σ H->sq H xs)
 (hs:∀i x p σ H,xs[i]? =some x->Pv i σ H->H p=none->g (.ref p) σ (fN H p (.tup [.int ((i+1:Nat):Int),x])) fun gw H2=>tb {D with nx:=Pv (i+1),ct:=Pv (i+1),bk:=D.nx} gw H2) (hd:∀σ H,Pv xs.length σ H->D.nx σ H):
 ∃W:Nat->Nat->St->Hp->Prop,(∃m,W 0 m σ H)/\∀i m σ H,W i m σ H->
  ((xa sq).stop i H/\D.nx σ H)\/((xa sq).go i H/\∃N:St->Hp->Prop,(∀gy H',N gy H'->∃m',m'<m/\W (i+1) m' gy H')/\∀x H',(xa sq).mH i H x H'->g x σ H' fun gw H2=>tb {D with nx:=N,ct:=N,bk:=D.nx} gw H2):=by
 refine⟨fun i m σ H=>m=xs.length-i/\i<=xs.length/\Pv i σ H,⟨xs.length,by simp,aN _,h0⟩,?_⟩;rintro i m σ H ⟨rfl,hi,p⟩;have q:=hl i σ H hi p
 by_cases ia:i<xs.length
 ·refine .inr ⟨⟨xs,xs[i],q,by simp[ia]⟩,Pv (i+1),fun gy H' p'=>⟨xs.length-(i+1),by omega,Z,ia,p'⟩,fun v H' y=> ?_⟩;obtain⟨T,x,rfl,hT,rfl,y⟩:=y;exact hs i x T σ H (y xs q) p hT
 ·have e:i=xs.length:=by omega
  subst e;exact .inl ⟨⟨xs,q,aA _⟩,hd σ H p⟩
end L2
namespace FE
open Vbkdaa
def iw(b:Bool):Nat:=if b=true then 1 else 0
theorem jY(k n:Nat):(bitsOf k n).length=k:=by simp[bitsOf]
theorem Al{k n p:Nat}(h:p<k):(bitsOf k n)[p]? =some (n/2^(k-1-p)% 2==1):=by
 unfold bitsOf;rw[au,b6 (by simpa using h)];simp only[e8];rw[List.getElem?_range (by omega)];rfl
theorem NF(x:Nat):iw (x% 2==1)=x% 2:=by
 unfold iw;have:x% 2=0\/x% 2=1:=by omega
 rcases this with h|h<;>rw[h]<;>rfl
theorem pI(l:List Bool):valueOf l=l.foldl (fun n b=>n*2+iw b) 0:=by
 unfold valueOf iw
 congr 1
 funext n b
 omega
def lX(l:List Bool)(i:Nat):Nat:=valueOf ((l.drop (7*i)).take 7)
theorem J1:∀(m f:Nat) (l:List Bool),l.length=7*m->7*m<=f->signsFrom f l=(List.range m).map (lX l)
 |0,f,l,h,_=>by
  have e:l=[]:=aM.mp (by omega);subst e;cases f<;>simp[signsFrom]
 |m+1,0,l,_,hf=>by omega
 |m+1,f+1,l,h,hf=>by
  have ne:l.isEmpty=false:=by
   cases l with
   |nil=>simp at h
   |cons _ _=>rfl
  unfold signsFrom;rw[ne];simp only[bo,cX];have h7:(l.take 7).length=7:=by rw[aD];omega
  rw[h7,Nat.sub_self,List.replicate_zero,bc,J1 m f (l.drop 7) (by rw[aW];omega) (by omega),bS,aB,bE];refine congr (congrArg List.cons ?_) ?_
  ·unfold lX;simp
  ·apply bW;intro i _;show lX (l.drop 7) i=lX l (i+1);unfold lX;rw[bw]
   congr 3
   omega
theorem J8:∀(f:Nat) (l:List Bool) (k g:Nat),(l.length+k)% 7=0->k<7->l.length<=f->l.length+k<=g->signsFrom f l=signsFrom g (l++List.replicate k false)
 |0,l,k,g,hm,hk,hf,_=>by
  have e:l=[]:=aM.mp (by omega);subst e;have wU:k=0:=by simp at hm;omega
  subst wU;cases g<;>simp[signsFrom]
 |f+1,l,k,g,hm,hk,hf,hg=>by
  by_cases h0:l=[]
  ·subst h0;have wU:k=0:=by simp at hm;omega
   subst wU;cases g<;>simp[signsFrom]
  ·have hl:0<l.length:=List.length_pos_iff.mpr h0;obtain⟨g',rfl⟩:∃g',g=g'+1:=⟨g-1,by omega⟩;have ne:l.isEmpty=false:=by cases l with|nil=>exact absurd Z h0|cons _ _=>rfl
   have ne2:(l++List.replicate k false).isEmpty=false:=by cases l with|nil=>exact absurd Z h0|cons _ _=>rfl
   unfold signsFrom;rw[ne,ne2];simp only[bo,cX]
   by_cases h7:7<=l.length
   ·have a1:(l++List.replicate k false).take 7=l.take 7:=cE h7;have a2:(l++List.replicate k false).drop 7=l.drop 7++List.replicate k false:=List.drop_append_of_le_length h7;rw[a1,a2,J8 f (l.drop 7) k g' (by rw[aW];omega) hk (by rw[aW];omega) (by rw[aW];omega)]
   ·have hk7:l.length+k=7:=by omega
    have t1:l.take 7=l:=aV (by omega);have t2:(l++List.replicate k false).take 7=l++List.replicate k false:=aV (by rw[ag,bP];omega);have d1:l.drop 7=[]:=bG (by omega);have d2:(l++List.replicate k false).drop 7=[]:=bG (by rw[ag,bP];omega);rw[t1,t2,d1,d2];have z:∀f,signsFrom f ([]:List Bool)=[]:=fun f=>by cases f<;>simp[signsFrom]
    rw[z,z];have e1:7-l.length=k:=by omega
    have e2:7-(l++List.replicate k false).length=0:=by rw[ag,bP];omega
    rw[e1,e2,List.replicate_zero,bc]
def jJ(n:Nat):Nat:=(7-n% 7)% 7
def sJ(n:Nat):Nat:=(n+jJ n)/7
theorem AT(n:Nat):(-(n:Int))% 7=((jJ n:Nat):Int):=by unfold jJ;omega
theorem vT(n:Nat):n+jJ n=7*sJ n:=by unfold sJ jJ;omega
theorem AB(l:List Bool):signs l=(List.range (sJ l.length)).map (lX (l++List.replicate (jJ l.length) false)):=by
 unfold signs;have hp:=vT l.length;rw[J8 l.length l (jJ l.length) (l.length+jJ l.length) (by omega) (by unfold jJ;omega) (aA _) (aA _)];exact J1 _ _ _ (by rw[ag,bP];omega) (by omega)
theorem Fj(l:List Bool):(signs l).length=sJ l.length:=by rw[AB];simp
theorem EC(l:List Bool):valueOf l<2^l.length:=by
 have gen:∀(l:List Bool) (n k:Nat),n<2^k->l.foldl (fun n b=>2*n+(if b=true then 1 else 0)) n<2^(k+l.length):=by
  intro l
  induction l with
  |nil=>intro n k h;simpa using h
  |cons b r ih=>
   intro n k h;rw[bI,aj,show k+(r.length+1)=(k+1)+r.length by omega];refine ih _ (k+1) ?_;rw[Nat.pow_succ];split<;>omega
 have:=gen l 0 0 (by decide);simpa [valueOf] using this
theorem Xf(l:List Bool)(i:Nat):lX l i<128:=by
 unfold lX;refine aU (EC _) ?_;exact di (by decide) (List.length_take_le _ _)
theorem MT{l:List Bool}{x:Nat}(h:x∈signs l):x<128:=by
 rw[AB] at h;obtain⟨i,_,rfl⟩:=bi.mp h;exact Xf _ _
theorem UJ:∀a b:Nat,(a^^^b)+(a&&&b)=a|||b:=by
 intro a
 induction a using Nat.strongRecOn with
 |ind a ih=>
  intro b
  by_cases ha:a=0
  ·subst ha;simp
  ·have h2:=ih (a/2) (by omega) (b/2);have x1:(a^^^b)/2=a/2^^^b/2:=by simpa using Nat.xor_div_two_pow (a:=a) (b:=b) (n:=1)
   have x2:(a&&&b)/2=a/2&&&b/2:=by simpa using Nat.and_div_two_pow (a:=a) (b:=b) (n:=1)
   have x3:(a|||b)/2=a/2|||b/2:=by simpa using Nat.or_div_two_pow (a:=a) (b:=b) (n:=1)
   have m1:(a^^^b)% 2=(a% 2)^^^(b% 2):=by simpa using Nat.xor_mod_two_pow (a:=a) (b:=b) (n:=1)
   have m2:(a&&&b)% 2=(a% 2)&&&(b% 2):=by simpa using Nat.and_mod_two_pow (a:=a) (b:=b) (n:=1)
   have m3:(a|||b)% 2=(a% 2)|||(b% 2):=by simpa using Nat.or_mod_two_pow (a:=a) (b:=b) (n:=1)
   have y1:(0:Nat)^^^0=0:=rfl;have y2:(0:Nat)^^^1=1:=rfl;have y3:(1:Nat)^^^0=1:=rfl;have y4:(1:Nat)^^^1=0:=rfl;have y5:(0:Nat)&&&0=0:=rfl;have y6:(0:Nat)&&&1=0:=rfl;have y7:(1:Nat)&&&0=0:=rfl;have y8:(1:Nat)&&&1=1:=rfl;have y9:(0:Nat)|||0=0:=rfl
   have y10:(0:Nat)|||1=1:=rfl
   have y11:(1:Nat)|||0=1:=rfl
   have y12:(1:Nat)|||1=1:=rfl
   have ca:a% 2=0\/a% 2=1:=by omega
   have cb:b% 2=0\/b% 2=1:=by omega
   rcases ca with ca|ca<;>rcases cb with cb|cb<;>rw[ca,cb] at m1 m2 m3<;>simp only[y1,y2,y3,y4,y5,y6,y7,y8,y9,y10,y11,y12] at m1 m2 m3<;>omega
theorem F0(r:Nat)(b:Bool)(h:r<16384):shift r b<16384:=by
 have hx:2*r+(if b=true then 1 else 0)<2^15:=by split<;>omega
 show(if 16384<=2*r+(if b=true then 1 else 0) then(2*r+(if b=true then 1 else 0))^^^17475 else 2*r+(if b=true then 1 else 0))<16384;generalize 2*r+(if b=true then 1 else 0)=x at hx
 by_cases h1:16384<=x
 ·rw[aw h1];refine Nat.lt_of_not_le fun pi=> ?_
  have Ih:(x^^^17475).testBit 14=false:=by
   rw[eP]
   have a:x.testBit 14=true:=by
    rw[dh];have:x/2^14=1:=by omega
    rw[this];rfl
   rw[a];rfl
  have afi:x^^^17475<2^15:=Nat.xor_lt_two_pow hx (by decide);rw[dh] at Ih;have:(x^^^17475)/2^14=1:=by omega
  rw[this] at Ih;exact absurd Ih (by decide)
 ·rw[am h1];omega
theorem AU:∀(l:List Bool) (r:Nat),r<16384->l.foldl shift r<16384
 |[],_,h=>h
 |b::l,r,h=>AU l _ (F0 r b h)
theorem zT(l:List Nat):remainder l<16384:=AU _ _ (by decide)
theorem SI(l:List Nat)(x:Nat):(bitsIn (l++[x])).foldl shift 0=(bitsOf 7 x).foldl shift ((bitsIn l).foldl shift 0):=by
 unfold bitsIn;rw[bO,bY];simp
theorem KS(n:Nat):∀k,n<2^k↔(if n=0 then 0 else Nat.log2 n+1)<=k:=by
 intro k
 by_cases h:n=0
 ·subst h;simp;exact Nat.two_pow_pos k
 ·rw[am h];rw[<-Nat.log2_lt h];omega
def oW(n:Nat):Nat:=if n=0 then 0 else Nat.log2 n+1
theorem AV{n:Nat}(h:n<4096):oW n<=12:=by
 unfold oW;exact(KS n 12).mp (by simpa using h)
def gr(l:List Nat):Nat:=l.foldl max 0
theorem wo(l:List Nat)(m:Nat):(∀x∈l,x<m)->0<m->gr l<m:=by
 have gen:∀(l:List Nat) (a:Nat),a<m->(∀x∈l,x<m)->l.foldl max a<m:=by
  intro l
  induction l with
  |nil=>intro a h _;exact h
  |cons x r ih=>intro a h hx;exact ih _ (by have:=hx x bx;omega) fun y hy=>hx y (aX _ hy)
 intro h h0;exact gen l 0 h0 h
theorem OG{l:List Nat}{x:Nat}(h:x∈l):x<=gr l:=by
 have gen:∀(l:List Nat) (a:Nat),a<=l.foldl max a/\∀x∈l,x<=l.foldl max a:=by
  intro l
  induction l with
  |nil=>intro a;exact⟨aA _,fun x hx=>absurd hx (by simp)⟩
  |cons y r ih=>
   intro a;have h1:=ih (max a y);refine⟨by rw[bI];have:=h1.1;omega,fun x hx=> ?_⟩;rw[bI];rcases az.mp hx with rfl|hx
   ·have:=h1.1;omega
   ·exact h1.2 x hx
 exact(gen l 0).2 x h
theorem F1(l:List Nat)(h:∀x∈l,x<4096):width l=oW (gr l):=by
 have hg:gr l<4096:=wo l 4096 h (by decide);have hb:oW (gr l)<=12:=AV hg
 have Yp:∀k,(l.all fun n=>decide (n<2^k))=decide (oW (gr l)<=k):=by
  intro k;apply bJ.mpr;rw[a9,decide_eq_true_iff];unfold oW;rw[<-KS];constructor
  ·intro q;exact wo l _ (fun x hx=>cF (q x hx)) (Nat.two_pow_pos k)
  ·intro q x hx;exact ai (cC (OG hx) q)
 unfold width;simp only[Yp]
 have:(List.range 13).find? (fun k=>decide (oW (gr l)<=k))=some (oW (gr l)):=by
  rw[List.find?_range_eq_some];refine⟨by simp,by simp;omega,fun j hj=>by simp;omega⟩
 rw[this];rfl
open PySem PySem.Spec PyProof.Rows L2
def iE(mg:Str->Option Value)(x:Str)(n:Int):Prop:=∃t,mg x=some (.int n t)
theorem gA{X:Cx}{x:Str}{n:Int}{pos:Pos}(hg:Gl X x)(h:iE X.mg x n)(hd:(x==("__debug__":Str))=false:=by decide):PE X (.Name x pos) (tC (.int n)):=by
 obtain⟨t,e⟩:=h;exact Gp hg e ⟨t,Z⟩ hd
def yG(mg:Str->Option Value)(x:Str)(z:Str):Prop:=∃t,mg x=some (.str z t)
theorem uB{X:Cx}{x z:Str}{pos:Pos}(hg:Gl X x)(h:yG X.mg x z)(hd:(x==("__debug__":Str))=false:=by decide):PE X (.Name x pos) (tC (.str z)):=by
 obtain⟨t,e⟩:=h;exact Gp hg e ⟨t,Z⟩ hd
theorem m8{X:Cx}{x:Str}{a:Addr}{pos:Pos}(hg:Gl X x)(h:X.mg x=some (.ref a))(hd:(x==("__debug__":Str))=false:=by decide):PE X (.Name x pos) (tC (.ref a)):=Gp hg h Z hd
structure iA(K:PySem.W.Frag)(mg:Str->Option Value)(x:Str)(st:Stmt)(ps:List Str)(f:Addr)(fd:FuncData):Prop where
 fn:jW K x x st f fd
 mg:mg x=some (.ref f)
 b:Binds K fd ps []
end FE
namespace L2
open PySem
theorem Wg{lo c:Int}{n:Nat}{g:TG}{tt:TT}{te:TE}{vs:List Nat}{σ:St}{H1:Hp}{D:Addr}{Qd:Hp->Prop}(Pv:Nat->Hp->Prop)(h0:Pv 0 (fN H1 D (.lst [])))
 (hs:∀i H,i<n->Pv i H->g (.int (lo+(i:Nat)*c)) (iB σ vs) H fun gw H2=>iB gw vs=iB σ vs/\tt gw H2 fun b H3=>
   if b=true then te gw H3 fun y H4=>∃acc,H4 D=some (.lst acc)/\acc.length<sizeLine/\Pv (i+1) (fN H4 D (.lst (acc++[y]))) else Pv (i+1) H3) (hd:∀H,Pv n H->Qd H):
 ∃W:Nat->Nat->Hp->Prop,(∃m,W 0 m (fN H1 D (.lst [])))/\∀i m H,W i m H->
  ((yR lo c n).stop i H/\Qd H)\/((yR lo c n).go i H/\∃Nx:Hp->Prop,(∀H',Nx H'->∃m',m'<m/\W (i+1) m' H')/\∀x H',(yR lo c n).mH i H x H'->g x (iB σ vs) H' fun gw H2=>iB gw vs=iB σ vs/\tt gw H2 fun b H3=>
    if b=true then te gw H3 fun y H4=>∃acc,H4 D=some (.lst acc)/\acc.length<sizeLine/\Nx (fN H4 D (.lst (acc++[y]))) else Nx H3):=by
 refine⟨fun i m H=>m=n-i/\i<=n/\Pv i H,⟨n,by simp,aN _,h0⟩,?_⟩;rintro i m H ⟨rfl,hi,p⟩
 by_cases ia:i<n
 ·refine .inr ⟨ia,Pv (i+1),fun H' p'=>⟨n-(i+1),by omega,Z,ia,p'⟩,fun x H' y=> ?_⟩;obtain⟨e,y⟩:=y;subst e y;exact hs i _ ia p
 ·have e:i=n:=by omega
  subst e;exact .inl ⟨aA _,hd H p⟩
theorem kG{α β:Type}{f:α->β}{l:List α}{i:Nat}{y:β}(h:(l.map f)[i]? =some y):∃x,l[i]? =some x/\y=f x:=by
 rw[au] at h;cases e:l[i]? with
 |none=>rw[e] at h;cases h
 |some x=>rw[e] at h;exact⟨x,Z,(af h).symm⟩
theorem take_snoc{α:Type}{l:List α}{i:Nat}{x:α}(h:l[i]? =some x):l.take (i+1)=l.take i++[x]:=by
 rw[bC,h];rfl
theorem O8{K:PySem.W.Frag}{H H':Hp}{a:Addr}{xs:List V}(e:fR H H')(h:iO K H a xs):iO K H' a xs:=by
 rcases h with(h|⟨o,h⟩)|h
 ·exact .inl (.inl (e _ _ h))
 ·exact .inl (.inr ⟨o,e _ _ h⟩)
 ·exact .inr h
theorem fR.kH{H:Hp}:fR H H:=fun _ _ h=>h
theorem fR.new{H:Hp}{p:Addr}{o:HO}(h:H p=none):fR H (fN H p o):=fun b u e=>by rw[fU (gh e h)];exact e
theorem fR.put{H H1:Hp}{p:Addr}{o:HO}(s:fR H H1)(h:H p=none):fR H (fN H1 p o):=fun b u e=>by rw[fU (gh e h)];exact s b u e
theorem fR.more{H H1:Hp}{p:Addr}{o:HO}(s:fR H H1)(h:H1 p=none):fR H (fN H1 p o):=s.trans (fR.new h)
end L2
namespace FE
open PySem PySem.Spec PyProof.Rows L2
theorem sy(xs:List V)(a b:Nat):j0 xs (some (a:Int)) (some (b:Int))=(xs.drop a).take (b-a):=by
 unfold j0;rw[HT.yg,HT.yg]
 by_cases h:a<=xs.length
 ·rw[cx h]
  by_cases h2:b<=xs.length
  ·rw[cx h2]
  ·rw[Nat.min_eq_right (by omega),aV (by rw[aW];omega),aV (by rw[aW];omega)]
 ·rw[show min a xs.length=xs.length by omega,bG (aA _),bG (show xs.length<=a by omega)];simp
theorem Xg(xs:List V)(a:Nat):j0 xs (some (a:Int)) none=xs.drop a:=by
 unfold j0;rw[HT.yg,HT.ML]
 by_cases h:a<=xs.length
 ·rw[cx h,aV (by rw[aW];omega)]
 ·rw[show min a xs.length=xs.length by omega,bG (aA _),bG (show xs.length<=a by omega)];simp
theorem gY{N P:List Str}{sc:Scope}(h:N.Nodup/\(∀x∈P,sc.names.lookup x=some .local\/sc.names.lookup x=some .cell)/\∀y∈sc.names,y.2≠ .free)(a:sc.kind=.function:=by rfl)(b:sc.isCoroutine=false:=by rfl)(c:sc.isGenerator=false:=by rfl)(d:N.take P.length=P:=by rfl):gQ N P sc:=⟨a,b,c,h.1,d,h.2.1,h.2.2⟩
theorem fZ{n:Nat}(h:n<=1000000):n<=sizeLine:=a8 h (by decide)
theorem iV{n:Nat}(h:n<=1000000):n<sizeLine:=cC h (by decide)
def fY(i:Nat):Stmt:=PySem.Challenge.pw_frontends_s01_answers.main.body.getD i (.Pass ⟨0,0,0,0⟩)
def bV(b:Bool):V:=.int (iw b)
def nV(n:Nat):V:=.int n
theorem Kt{m c:Nat}(hc:0<c):Builtin.Range.rangeSize 0 ((c*m:Nat):Int) (c:Int)=(m:Int):=by
 rw[PyProof.Rows.rangeSize_pos (by omega) (by omega)];have e:((c*m:Nat):Int)+(c:Int)-1=((c:Int)-1)+(c:Int)*(m:Int):=by rw[Int.natCast_mul];omega
 rw[e,Int.add_mul_ediv_left _ _ (by omega),Int.ediv_eq_zero_of_lt (by omega) (by omega)];omega
theorem ZJ{m c:Nat}(hc:0<c)(Ce:c<1000)(hm:c*m<=1000000):PF 0 ((c*m:Nat):Int) (c:Int) m:=by
 refine⟨by omega,by omega,?_,Kt hc⟩;have hm2:m<=c*m:=Nat.le_mul_of_pos_left m hc;unfold Builtin.Range.small;rw[Kt hc];simp only[Builtin.Range.rangeFitsLong,aH,Bool.or_eq_true,aJ,ci,show(c:Int)>0 by omega,dA];generalize c*m=x at*;refine⟨⟨⟨⟨⟨?_,?_⟩,?_,?_⟩,?_,?_⟩,?_,?_⟩,.inr ⟨?_,?_⟩⟩<;>omega
theorem gc{c:Bool}{A B:Prop}(h:c=true)(k:A):(if c=true then A else B):=by rw[aw h];exact k
theorem gu{c:Bool}{A B:Prop}(h:c=false)(k:B):(if c=true then A else B):=by rw[am (by rw[h];exact aQ)];exact k
def iY(K:PySem.W.Frag)(a:Addr)(xs:List V):Prop:=∃(o:Obj) (fV:Array Value) (n:Nat),K.lookup a=some o/\o.cls=.type "tuple"/\o.data=.seq fV n/\fV.size<=sizeLine/\gG xs fV.toList
theorem iY.sq{K:PySem.W.Frag}{a:Addr}{xs:List V}{H:Hp}(h:iY K a xs):iO K H a xs:=.inr h
structure gv where
 Mc:Addr
 Md:FuncData
 KU:Addr
 KW:FuncData
 Lv:Addr
 Lw:FuncData
 Lx:Addr
 Ly:FuncData
 Lz:Addr
 LA:FuncData
 Ku:Addr
 Kv:FuncData
 Kw:Addr
 Kx:FuncData
 JR:Addr
 JS:FuncData
 J9:Addr
 Ka:FuncData
 KY:Addr
 KZ:FuncData
 K0:Addr
 K1:FuncData
 LB:Addr
 LC:FuncData
 JT:Addr
 JU:FuncData
 LD:Addr
 LF:FuncData
 Me:Addr
 Mf:FuncData
 JD:Addr
 JE:FuncData
 Kb:Addr
 Kc:FuncData
 K2:Addr
 K3:FuncData
 Kd:Addr
 Ke:FuncData
 LG:Addr
 LH:FuncData
 Mg:Addr
 Mh:FuncData
 J2:Addr
 J3:FuncData
 J4:Addr
 J5:FuncData
 JV:Addr
 JW:FuncData
 LI:Addr
 LJ:FuncData
 Kf:Addr
 Kg:FuncData
 JB:Addr
 JC:FuncData
 JI:Addr
 JJ:FuncData
 K4:Addr
 K5:FuncData
 NG:Addr
 NH:FuncData
 Dq:Addr
 JX:FuncData
 D3:Addr
 Ky:FuncData
 Dl:Addr
 JN:FuncData
 D4:Addr
 Kz:FuncData
 DP:Addr
 Kh:FuncData
 Ek:Addr
 K6:FuncData
 El:Addr
 K7:FuncData
 Em:Addr
 K8:FuncData
 DQ:Addr
 Ki:FuncData
 D5:Addr
 KA:FuncData
 DR:Addr
 Kj:FuncData
 D6:Addr
 KB:FuncData
 DS:Addr
 Kk:FuncData
 D7:Addr
 KC:FuncData
 D8:Addr
 KD:FuncData
 D9:Addr
 KE:FuncData
 Ea:Addr
 KF:FuncData
 GR:Addr
 Oh:FuncData
 En:Addr
 K9:FuncData
 Eo:Addr
 La:FuncData
 Eb:Addr
 KG:FuncData
 Kl:Addr
 Km:FuncData
 Mi:Addr
 Mj:FuncData
 Lb:Addr
 Lc:FuncData
 Fk:Addr
 Fl:FuncData
 mK:Addr
 hU:Addr
 m9:Addr
 lR:Addr
 j9:Addr
 DA:Addr
 DB:FuncData
 DC:Addr
 DD:FuncData
 CV:Addr
 CW:FuncData
 C2:Addr
 C3:FuncData
 DE:Addr
 DF:FuncData
 DG:Addr
 DH:FuncData
 CY:Addr
 CZ:FuncData
 C4:Addr
 C5:FuncData
 Dd:Addr
 De:FuncData
 Dr:Addr
 Ds:FuncData
 C6:Addr
 C7:FuncData
 Da:Addr
 Db:FuncData
 Df:Addr
 Dg:FuncData
 C0:Addr
 C1:FuncData
 CT:Addr
 CU:FuncData
 Dh:Addr
 Di:FuncData
 Ec:Addr
 Ed:FuncData
 Dt:Addr
 Du:FuncData
 Dv:Addr
 Dw:FuncData
 NI:Addr
 uf:Addr
 uh:Addr
 ui:Addr
 uj:Addr
 um:Addr
 Fm:Addr
 yp:Addr
 Ep:Addr
 MU:Addr
 z8:Addr
 z9:Addr
 Aa:Addr
 Ab:Addr
 NJ:Addr
 Fn:Addr
 Fo:Addr
 Fp:Addr
 Fq:Addr
 Fs:Addr
 Ft:Addr
 Fu:Addr
 Fv:Addr
 Fw:Addr
 Fx:Addr
 ED:Addr
 EE:Addr
 EF:Addr
 EG:Addr
 EH:Addr
 EI:Addr
 EJ:Addr
 EK:Addr
 EL:Addr
 EM:Addr
 EN:Addr
structure Tx(P:Program)(w:World)(K:PySem.W.Frag)(mg:Str->Option Value)(A:gv):Prop where
 range:mg "range"=none
 len:mg "len"=none
 max:mg "max"=none
 min:mg "min"=none
 any:mg "any"=none
 all:mg "all"=none
 ord:mg "ord"=none
 str:mg "str"=none
 int:mg "int"=none
 tuple:mg "tuple"=none
 isinstance:mg "isinstance"=none
 enumerate:mg "enumerate"=none
 zip:mg "zip"=none
 mB:iA K mg "bits_of" (fY 12) ["number","width"] A.Mc A.Md
 nO:iA K mg "number_of" (fY 13) ["bits"] A.KU A.KW
 AC:iA K mg "signs_of" (fY 14) ["bits"] A.Lv A.Lw
 uv:iA K mg "check_of" (fY 15) ["signs"] A.Lx A.Ly
 qp:iA K mg "frame_of" (fY 16) ["crossing","samples"] A.Lz A.LA
 Ac:iA K mg "read_frame" (fY 17) ["inside","channels"] A.Ku A.Kv
 nM:iA K mg "most_bytes" (fY 18) ["channels"] A.Kw A.Kx
 t8:iA K mg "busy_by_marks" (fY 20) ["settings","waiting","busy_before"] A.JR A.JS
 nL:iA K mg "busy_behind" (fY 21) ["busies","crossing"] A.J9 A.Ka
 Am:iA K mg "margin_of" (fY 23) ["settings"] A.KY A.KZ
 An:iA K mg "worst_row" (fY 24) ["settings"] A.K0 A.K1
 AD:iA K mg "play_row" (fY 25) ["settings","yields"] A.LB A.LC
 t9:iA K mg "read_settings" (fY 58) ["text"] A.JT A.JU
 AE:iA K mg "lines_of" (fY 59) ["text"] A.LD A.LF
 sign_of:iA K mg "sign_of" (fY 60) ["byte"] A.Me A.Mf
 zL:iA K mg "check_first_word" (fY 61) ["first","channels","told"] A.JD A.JE
 zY:iA K mg "read_values" (fY 62) ["words","end","names"] A.Kb A.Kc
 Ao:iA K mg "read_name" (fY 63) ["word","place","names"] A.K2 A.K3
 zZ:iA K mg "read_number" (fY 64) ["word","place","most"] A.Kd A.Ke
 AF:iA K mg "one_text" (fY 65) ["settings"] A.LG A.LH
 uC:iA K mg "line_of" (fY 66) ["keyword","values"] A.Mg A.Mh
 ql:iA K mg "stretches_of" (fY 68) ["marks"] A.J2 A.J3
 zU:iA K mg "lowest_terms" (fY 69) ["part","whole"] A.J4 A.J5
 zN:iA K mg "counted_pairs" (fY 70) ["samples"] A.JV A.JW
 lE:iA K mg "row_fits" (fY 95) ["row","longest","greatest"] A.LI A.LJ
 qm:iA K mg "samples_fit" (fY 96) ["samples"] A.Kf A.Kg
 tY:iA K mg "refused_crossings" (fY 97) ["readout","often","samples"] A.JB A.JC
 t4:iA K mg "refused_channel" (fY 98) ["readout","channel"] A.JI A.JJ
 Ap:iA K mg "pairs_fit" (fY 99) ["channels","samples"] A.K4 A.K5
 Br:iA K mg "rises" (fY 100) ["row"] A.NG A.NH
 DT:iA K mg "tell_settings" (fY 101) ["front","numbers","text"] A.Dq A.JX
 EO:iA K mg "check_text" (fY 102) ["front","numbers","text"] A.D3 A.Ky
 DI:iA K mg "print_settings" (fY 103) ["front","numbers","row"] A.Dl A.JN
 EQ:iA K mg "cross_once" (fY 104) ["front","numbers","samples"] A.D4 A.Kz
 Er:iA K mg "cross_often" (fY 105) ["front","numbers","samples"] A.DP A.Kh
 Fy:iA K mg "show_wire" (fY 106) ["front","numbers","row"] A.Ek A.K6
 Fz:iA K mg "show_kept" (fY 107) ["front","numbers","row"] A.El A.K7
 FA:iA K mg "show_high" (fY 108) ["front","numbers","row"] A.Em A.K8
 Es:iA K mg "show_counts" (fY 109) ["front","numbers","row"] A.DQ A.Ki
 ER:iA K mg "show_frame" (fY 110) ["front","numbers","row"] A.D5 A.KA
 Et:iA K mg "show_margin" (fY 111) ["front","numbers","row"] A.DR A.Kj
 ES:iA K mg "show_worst" (fY 112) ["front","numbers","row"] A.D6 A.KB
 Eu:iA K mg "play_yields" (fY 113) ["front","numbers","yields"] A.DS A.Kk
 ET:iA K mg "pack_frame" (fY 114) ["front","numbers","pairs"] A.D7 A.KC
 EU:iA K mg "feed_bytes" (fY 115) ["front","numbers","octets"] A.D8 A.KD
 EV:iA K mg "show_heard" (fY 116) ["front","numbers","row"] A.D9 A.KE
 EW:iA K mg "show_check" (fY 117) ["front","numbers","signs"] A.Ea A.KF
 hush:iA K mg "hush" (fY 118) ["front","numbers","row"] A.GR A.Oh
 FC:iA K mg "show_live" (fY 119) ["front","numbers","row"] A.En A.K9
 FD:iA K mg "show_dead" (fY 120) ["front","numbers","row"] A.Eo A.La
 EY:iA K mg "show_state" (fY 121) ["front","numbers","row"] A.Eb A.KG
 z0:iA K mg "numbers_due" (fY 123) ["call"] A.Kl A.Km
 AW:iA K mg "has_row" (fY 124) ["call"] A.Mi A.Mj
 Aq:iA K mg "answer_to" (fY 125) ["front","call","numbers","row"] A.Lb A.Lc
 answers:iA K mg "answers" (fY 127) ["calls"] A.Fk A.Fl
 FF:mg "Hearing"=some (.ref A.mK)
 kc:mV K A.mK
 F3:Mk K A.mK A.DA
 JK:ji K A.mK "channels"
 qj:ji K A.mK "begun"
 DU:ji K A.mK "read"
 vI:ji K A.mK "bad"
 Ml:mg "Readout"=some (.ref A.hU)
 gI:mV K A.hU
 MV:Mk K A.hU A.DE
 lz:ji K A.hU "settings"
 Dm:ji K A.hU "samples"
 t7:ji K A.hU "highs"
 qk:ji K A.hU "fates"
 r0:ji K A.hU "busies"
 vF:ji K A.hU "frames"
 zO:ji K A.hU "sent"
 xO:ji K A.hU "gone"
 zP:ji K A.hU "most"
 mM:mg "Fault"=some (.ref A.m9)
 LK:mg "Settings"=some (.ref A.lR)
 io:mV K A.lR
 Mm:Mk K A.lR A.Dt
 nK:ji K A.lR "channels"
 DJ:ji K A.lR "told"
 t5:ji K A.lR "ahead"
 Dn:ji K A.lR "behind"
 xL:ji K A.lR "depth"
 qW:ji K A.lR "rate"
 tX:ji K A.lR "high_mark"
 Dc:ji K A.lR "low_mark"
 vG:ji K A.lR "delay"
 DV:ji K A.lR "gap"
 Vm:mg "FrontEnd"=some (.ref A.j9)
 ka:mV K A.j9
 Wh:Mk K A.j9 A.Dv
 lA:ji K A.j9 "readout"
 xJ:ji K A.j9 "hearing"
 xc:pT K A.m9 A.Ec
 SJ:jW K "__init__" "Hearing.__init__" (i0 (fY 27) 0) A.DA A.DB
 F9:Binds K A.DB ["self","channels"] []
 SK:jW K "hear" "Hearing.hear" (i0 (fY 27) 1) A.DC A.DD
 Th:Binds K A.DD ["self","octets"] []
 T1:lZ K A.mK "hear" A.DC
 Rk:jW K "begin_frame" "Hearing.begin_frame" (i0 (fY 27) 2) A.CV A.CW
 Rr:Binds K A.CW ["self"] []
 RC:lZ K A.mK "begin_frame" A.CV
 RD:jW K "end_frame" "Hearing.end_frame" (i0 (fY 27) 3) A.C2 A.C3
 RN:Binds K A.C3 ["self"] []
 R0:lZ K A.mK "end_frame" A.C2
 SL:jW K "__init__" "Readout.__init__" (i0 (fY 35) 0) A.DE A.DF
 MW:Binds K A.DF ["self","settings"] []
 SM:jW K "come" "Readout.come" (i0 (fY 35) 1) A.DG A.DH
 Kn:Binds K A.DH ["self","asked","samples"] []
 KH:lZ K A.hU "come" A.DG
 Rs:jW K "come_often" "Readout.come_often" (i0 (fY 35) 2) A.CY A.CZ
 RE:Binds K A.CZ ["self","often","asked","samples"] []
 RO:lZ K A.hU "come_often" A.CY
 RF:jW K "crossings" "Readout.crossings" (i0 (fY 35) 3) A.C4 A.C5
 xH:Binds K A.C5 ["self"] []
 xK:lZ K A.hU "crossings" A.C4
 R1:jW K "waiting" "Readout.waiting" (i0 (fY 35) 4) A.Dd A.De
 tZ:Binds K A.De ["self"] []
 t6:lZ K A.hU "waiting" A.Dd
 Sn:jW K "known" "Readout.known" (i0 (fY 35) 5) A.Dr A.Ds
 DK:Binds K A.Ds ["self"] []
 DW:lZ K A.hU "known" A.Dr
 RG:jW K "busy_seen" "Readout.busy_seen" (i0 (fY 35) 6) A.C6 A.C7
 JF:Binds K A.C7 ["self","crossing"] []
 JL:lZ K A.hU "busy_seen" A.C6
 RP:jW K "highs_at" "Readout.highs_at" (i0 (fY 35) 7) A.Da A.Db
 R3:Binds K A.Db ["self","samples"] []
 R9:lZ K A.hU "highs_at" A.Da
 R4:jW K "fate_of" "Readout.fate_of" (i0 (fY 35) 8) A.Df A.Dg
 Sa:Binds K A.Dg ["self","asked"] []
 So:lZ K A.hU "fate_of" A.Df
 Rt:jW K "make_frame" "Readout.make_frame" (i0 (fY 35) 9) A.C0 A.C1
 RH:Binds K A.C1 ["self","crossing"] []
 RQ:lZ K A.hU "make_frame" A.C0
 Rg:jW K "kept_samples" "Readout.kept_samples" (i0 (fY 35) 10) A.CT A.CU
 Rl:Binds K A.CU ["self","crossing"] []
 Ru:lZ K A.hU "kept_samples" A.CT
 R5:jW K "is_kept" "Readout.is_kept" (i0 (fY 35) 11) A.Dh A.Di
 JO:Binds K A.Di ["self","crossing","place"] []
 JY:lZ K A.hU "is_kept" A.Dh
 T2:jW K "__init__" "Fault.__init__" (i0 (fY 56) 0) A.Ec A.Ed
 nW:Binds K A.Ed ["self","kind","place"] []
 Sq:jW K "__init__" "Settings.__init__" (i0 (fY 57) 0) A.Dt A.Du
 Mn:Binds K A.Du ["self","channels","told"] []
 Sr:jW K "__init__" "FrontEnd.__init__" (i0 (fY 94) 0) A.Dv A.Dw
 Wi:Binds K A.Dw ["self"] []
 Ee:iE mg "FRAME_BEGINS" (128)
 EZ:iE mg "FRAME_ENDS" (129)
 T3:iE mg "BESIDE_SIGNS" (5)
 xS:iE mg "NUMBER_BITS" (12)
 Yq:iE mg "NUMBERS" (4096)
 E1:iE mg "WIDTH_BITS" (4)
 Ld:iE mg "SAMPLE_BITS" (12)
 uo:iE mg "SIGN_BITS" (7)
 OH:iE mg "SIGNS" (128)
 Yr:iE mg "DIVISOR" (17475)
 UK:iE mg "DIVISOR_TOP" (16384)
 FG:iE mg "NOT_ASKED" (0)
 sK:iE mg "TAKEN" (1)
 Le:iE mg "DEAD_BY_GAP" (2)
 KI:iE mg "DEAD_BY_BUSY" (3)
 NK:iE mg "WENT_IN" (1)
 aby:iE mg "LOST" (0)
 Ga:iE mg "LINE_END" (10)
 aaz:iE mg "BLANK" (32)
 Oi:yG mg "DIGITS" "0123456789"
 NL:yG mg "LETTERS" "abcdefghijklmnopqrstuvwxyz"
 Xh:yG mg "STRANGER" "?"
 zQ:iE mg "MOST_CHANNELS" (8)
 UL:iE mg "MOST_DIGITS" (7)
 T4:iE mg "LONGEST_NAME" (8)
 r6:iE mg "WRONG_WORD" (1)
 ZK:iE mg "BEYOND" (2)
 KJ:iE mg "TOLD_ALREADY" (4)
 Ti:iE mg "NINTH_CHANNEL" (5)
 aaA:iE mg "ABOVE" (6)
 O9:yG mg "NAME" "NAME"
 G6:mg "FORMS"=some (.ref A.NI)
 GS:wm P w K A.NI [(Sum.inr "channel",.ref A.uf),(Sum.inr "keep",.ref A.uh),(Sum.inr "buffer",.ref A.ui),(Sum.inr "delay",.ref A.uj),(Sum.inr "gap",.ref A.um)]
 Xi:iY K A.uf [.str "NAME",.str "pedestal",.int (4095),.str "on",.int (4095),.str "off",.int (4095)]
 Xj:iY K A.uh [.int (4),.int (4)]
 Xk:iY K A.ui [.int (400),.str "rate",.int (50),.str "high",.int (400),.str "low",.int (400)]
 Xl:iY K A.uj [.int (8)]
 Xm:iY K A.um [.int (10)]
 Ys:mg "ORDERED"=some (.ref A.Fm)
 Xn:iY K A.Fm [.str "channel",.str "buffer"]
 Pa:mg "ONCE"=some (.ref A.yp)
 OI:iY K A.yp [.str "keep",.str "buffer",.str "delay",.str "gap"]
 Wj:mg "NOT_NAMES"=some (.ref A.Ep)
 Vn:iY K A.Ep [.str "channel",.str "pedestal",.str "on",.str "off",.str "keep",.str "buffer",.str "rate",.str "high",.str "low",.str "delay",.str "gap"]
 Be:mg "UNTOLD"=some (.ref A.MU)
 AX:wm P w K A.MU [(Sum.inr "keep",.ref A.z8),(Sum.inr "buffer",.ref A.z9),(Sum.inr "delay",.ref A.Aa),(Sum.inr "gap",.ref A.Ab)]
 Wk:iY K A.z8 [.int (0),.int (0)]
 Wl:iY K A.z9 [.int (400),.int (20),.int (200),.int (100)]
 Wm:iY K A.Aa [.int (0)]
 Wn:iY K A.Ab [.int (0)]
 pH:iE mg "OUT_OF_RANGE" (-1)
 SN:iE mg "TEXT_HAS_FAULT" (-3)
 RR:iE mg "TOO_MANY_CROSSINGS" (-4)
 FH:iE mg "NOT_THERE" (-5)
 T5:iE mg "NOT_ONE_EACH" (-6)
 Wo:iE mg "NOT_TAKEN" (-7)
 Vo:iE mg "NOT_RISING" (-7)
 Wp:iE mg "NOT_KNOWN" (-8)
 SO:iE mg "ABOVE_GREATEST" (-9)
 KL:iE mg "LONGEST_TEXT" (1000)
 DX:iE mg "GREATEST_BYTE" (255)
 Ss:iE mg "GREATEST_SAMPLE" (4095)
 JM:iE mg "GREATEST_CROSSING" (4095)
 SQ:iE mg "MOST_CROSSINGS" (400)
 Vp:iE mg "MOST_OFTEN" (100)
 Tj:iE mg "FARTHEST_BYTE" (20000)
 Sb:iE mg "MOST_BYTES_ASKED" (300)
 UM:iE mg "MOST_YIELDS" (500)
 SR:iE mg "GREATEST_YIELD" (100)
 SS:iE mg "MOST_BYTES_FED" (400)
 Vq:iE mg "MOST_SIGNS" (100)
 Tk:iE mg "GREATEST_SIGN" (127)
 G7:mg "CALLS"=some (.ref A.NJ)
 GU:wm P w K A.NJ [(Sum.inl 0,.ref A.Fn),(Sum.inl 1,.ref A.Fo),(Sum.inl 2,.ref A.Fp),(Sum.inl 3,.ref A.Fq),(Sum.inl 4,.ref A.Fs),(Sum.inl 5,.ref A.Ft),(Sum.inl 6,.ref A.Fu),(Sum.inl 7,.ref A.Fv),(Sum.inl 8,.ref A.Fw),(Sum.inl 9,.ref A.Fx),(Sum.inl 10,.ref A.ED),(Sum.inl 11,.ref A.EE),(Sum.inl 12,.ref A.EF),(Sum.inl 13,.ref A.EG),(Sum.inl 14,.ref A.EH),(Sum.inl 15,.ref A.EI),(Sum.inl 16,.ref A.EJ),(Sum.inl 17,.ref A.EK),(Sum.inl 18,.ref A.EL),(Sum.inl 19,.ref A.EM),(Sum.inl 20,.ref A.EN)]
 Xo:iY K A.Fn [.int (0),.bl true,.ref A.Dq]
 Xp:iY K A.Fo [.int (0),.bl true,.ref A.D3]
 Xq:iY K A.Fp [.int (0),.bl false,.ref A.Dl]
 Xr:iY K A.Fq [.int (1),.bl true,.ref A.D4]
 Xs:iY K A.Fs [.int (2),.bl true,.ref A.DP]
 Xt:iY K A.Ft [.int (2),.bl false,.ref A.Ek]
 Xu:iY K A.Fu [.int (1),.bl false,.ref A.El]
 Xv:iY K A.Fv [.int (1),.bl false,.ref A.Em]
 Xw:iY K A.Fw [.int (0),.bl false,.ref A.DQ]
 Xx:iY K A.Fx [.int (1),.bl false,.ref A.D5]
 Wq:iY K A.ED [.int (0),.bl false,.ref A.DR]
 Wr:iY K A.EE [.int (0),.bl false,.ref A.D6]
 Ws:iY K A.EF [.int (0),.bl true,.ref A.DS]
 Wt:iY K A.EG [.int (1),.bl true,.ref A.D7]
 Wu:iY K A.EH [.int (0),.bl true,.ref A.D8]
 Wv:iY K A.EI [.int (0),.bl false,.ref A.D9]
 Ww:iY K A.EJ [.int (0),.bl true,.ref A.Ea]
 Wx:iY K A.EK [.int (0),.bl false,.ref A.GR]
 Wy:iY K A.EL [.int (0),.bl false,.ref A.En]
 Wz:iY K A.EM [.int (0),.bl false,.ref A.Eo]
 WA:iY K A.EN [.int (0),.bl false,.ref A.Eb]
open Vbkdaa (bitsOf signs)
def ZL:Sp:=fun vs H Q _=>∃n k:Nat,vs=[.int n,.int k]/\k<=1000/\∀p,H p=none->Q (.ref p) (fN H p (.lst ((bitsOf k n).map bV)))
def Yt:Sp:=fun vs H Q _=>∃(a:Addr) (l:List Bool),vs=[.ref a]/\H a=some (.lst (l.map bV))/\l.length<=1000/\∀H' p,fR H H'->H p=none->H' p=some (.lst ((signs l).map nV))->Q (.ref p) H'
def Xy(K:PySem.W.Frag):Sp:=fun vs H Q _=>∃(a:Addr) (l:List Bool),vs=[.ref a]/\fS K H a (l.map bV)/\Q (.int (Vbkdaa.valueOf l)) H
section
variable {P:Program} {w:World} {K:PySem.W.Frag} {mg:Str->Option Value} {base:Heap} {AA:gv}
theorem Vr:gQ ["number","width","place"] ["number","width"] (gM (fY 12)):=gY (by decide+kernel)
theorem E3(T:Tx P w K mg AA):gL P w K mg base gU 1 AA.Mc AA.Md ["number","width"] ZL:=by
 have SC:=Vr;refine T.mB.fn.ok SC (fun vs H Q E h=> ?_) (fun gz A outer s H vs Q E hr h=> ?_)
 ·obtain⟨n,k,rfl,_⟩:=h;rfl
 ·obtain⟨n,k,rfl,hk,hq⟩:=h;refine⟨_,(fW (gD (mi (own:=[("place",2)]) Z SC.nd (xW Z T.range (fO (pv 1) fQ)) (lD (by kernel_rfl)) (fun s H C cl fp=>(iJ (i:=2) SC.nd Z (Or.inl Z) (.inr Z))) (fun s H C cl fp=>me) (fun s H C cl fp=>(gB Zk (gB Zj (pv 0) (gB jL (gB jL (pv 1) fX) (pv 2))) fX))))),?_⟩;refine⟨_,Z,(k:Int),Z,by omega,by omega,fun D hD=> ?_⟩;refine Ay (n:=(k:Int).toNat) (fun i H'=>H'=fN H D (.lst (((bitsOf k n).map bV).take i))) Z (fun i H' hi hH=> ?_) (fun H' hH=> ?_)
  ·subst hH;have hik:i<k:=by omega
   refine⟨Z,?_⟩;refine⟨_,Z,_,Z,_,_,Z,Z,_,Z,_,_,Z,Z,_,_,Z,Z,(by show(0:Int)<=(k:Int)-1-(0+(i:Int));omega),_,_,Z,Z,_,fP,?_,?_⟩
   ·rw[aD,ac,jY];exact cC (Nat.min_le_right _ _) (cC hk (by decide))
   ·show fN (fN H D _) D _=fN H D _;rw[jo,bC]
    congr 3
    have e1:(((bitsOf k n).map bV))[i]? =some (V.int ((n/2^(k-1-i)% 2:Nat):Int)):=by
     rw[au,Al hik];show some (V.int (iw _:Int))=_;rw[NF]
    rw[e1];show[V.int (Builtin.bitAnd ((n:Int)/2^(((k:Int)-1-(0+(i:Int))).toNat)) 1)]=[V.int ((n/2^(k-1-i)% 2:Nat):Int)];rw[bitAnd_m1,show((k:Int)-1-(0+(i:Int))).toNat=k-1-i by omega]
    congr 2
  ·subst hH;have e:((bitsOf k n).map bV).take (k:Int).toNat=(bitsOf k n).map bV:=aV (by rw[ac,jY];omega);rw[e];exact hq D hD
theorem Vs(l:List Bool)(j:Nat)(b:Bool)(h:l[j]? =some b):(Vbkdaa.valueOf (l.take (j+1)):Int)=(Vbkdaa.valueOf (l.take j):Int)*2+(iw b:Int):=by
 rw[pI,pI,bC,h,bY];simp
theorem T6:gQ ["bits","number","bit"] ["bits"] (gM (fY 13)):=gY (by decide+kernel)
theorem KM(T:Tx P w K mg AA):gL P w K mg base gU 1 AA.KU AA.KW ["bits"] (Xy K):=by
 have SC:=T6;refine T.nO.fn.ok SC (fun vs H Q E h=> ?_) (fun gz A outer s H vs Q E hr h=> ?_)
 ·obtain⟨a,l,rfl,_⟩:=h;rfl
 ·obtain⟨a,l,rfl,ha,hq⟩:=h
  refine⟨_,(fT (gm (i:=1) SC.nd Z (Or.inl Z) fX)
   (fT (lG bg Z (md (pv 0)) (iJ (i:=2) SC.nd Z (Or.inl Z))
     (fW (gm (i:=1) SC.nd Z (Or.inl Z) (gB jh (gB A6 (pv 1) fX) (pv 2)))))
   (fW (gD (pv 1))))),?_⟩
  refine⟨_,Z,a,Z,⟨_,ha⟩,qY (K:=K) (a:=a) (xs:=l.map bV) (fun j σ H'=>∃v2,σ=[some (.ref a),some (.int (Vbkdaa.valueOf (l.take j):Int)),v2]/\H'=H)
   ⟨none,Z,Z⟩ (fun j σ H' _ ⟨_,_,e⟩=>by rw[e];exact ha) ?_ ?_⟩
  ·rintro j x σ H' hx ⟨v2,rfl,rfl⟩;obtain⟨b,hb,rfl⟩:=kG hx;refine⟨_,Z,_,_,Z,Z,.inr ⟨by decide,by decide⟩,_,Z,_,_,Z,Z,?_⟩;refine⟨some (bV b),?_,Z⟩;rw[Vs l j b hb];rfl
  ·rintro σ H' ⟨v2,rfl,rfl⟩;rw[ac,aT];exact⟨_,Z,hq⟩
theorem UN:gQ ["bits","filled","start"] ["bits"] (gM (fY 14)):=gY (by decide+kernel)
theorem UO(T:Tx P w K mg AA):gL P w K mg base gU 2 AA.Lv AA.Lw ["bits"] Yt:=by
 have xT:=KM (base:=base) T;have SC:=UN;refine T.AC.fn.ok SC (fun vs H Q E h=> ?_) (fun gz A outer s H vs Q E hr h=> ?_)
 ·obtain⟨a,l,rfl,_⟩:=h;rfl
 ·obtain⟨a,l,rfl,ha,hl,hq⟩:=h
  refine⟨_,(fT (gm (i:=1) SC.nd Z (Or.inr Z) (gB j3 (pv 0) (gB Ba (gJ (fO fX fQ)) (gB A7 (qC qy (gW iM (by rfl) T.len aF (fO (pv 0) fQ))) (gA Z T.uo)))))
   (fW (gD (mi (own:=[("start",2)]) Z SC.nd (V6 Z T.range (fO fX (fO (gW iM (by rfl) T.len aF (fO (pv 1) fQ)) (fO (gA Z T.uo) fQ)))) (lD (by kernel_rfl)) (fun s H C cl fp=>(iJ (i:=2) SC.nd Z (Or.inl Z) (.inr Z))) (fun s H C cl fp=>me) (fun s H C cl fp=>(ie xT (hr.mono (by decide)) Z T.nO.mg T.nO.fn.kp T.nO.b .nil gH (fO (oE (r:=Hl K) oH (pv 1) (kq (pv 2)) (kq (gB jh (pv 2) (gA Z T.uo)))) fQ))))))),?_⟩
  have hp:=vT l.length;have hpb:jJ l.length<7:=by unfold jJ;omega
  refine⟨_,Z,fZ (by simp),fun q1 n1=> ?_⟩;have a1:(fN H q1 (.lst [.int 0])) a=some (.lst (l.map bV)):=by rw[fU (gh ha n1)];exact ha
  refine⟨_,Z,a,_,Z,.inl (fS.of a1),_,Z,_,_,Z,Z,(by show(0:Int)<7;decide),q1,_,_,Z,Z,fP,?_,?_,?_,fun q2 n2=> ?_⟩
  ·rw[ac,AT];omega
  ·rw[ac,AT];omega
  ·rw[ac,AT];exact fZ (by simp;omega)
  have abz:(List.replicate ((-((l.map bV).length:Int))% 7).toNat [V.int 0]).flatten=(List.replicate (jJ l.length) false).map bV:=by
   rw[ac,AT,a6,List.map_replicate];generalize jJ l.length=k
   induction k with
   |zero=>rfl
   |succ k ih=>rw[bN,cu,ih,bN];rfl
  rw[abz];generalize xb:fN (fN H q1 (.lst [.int 0])) q2 (.lst ((List.replicate (jJ l.length) false).map bV))=H2;have s2:fR H H2:=by rw[<-xb];exact(fR.new n1).more n2
  refine⟨a,q2,_,_,Z,Z,s2 _ _ ha,by rw[<-xb];exact fP,fZ (by simp;omega),fun q3 n3=> ?_⟩;generalize hF:l++List.replicate (jJ l.length) false=qz;have hFl:qz.length=7*sJ l.length:=by rw[<-hF,ag,bP];exact hp
  have eF:l.map bV++(List.replicate (jJ l.length) false).map bV=qz.map bV:=by rw[<-hF,ao]
  rw[eF];generalize yO:fN H2 q3 (.lst (qz.map bV))=H3;have s3:fR H H3:=by rw[<-yO];exact s2.more n3
  have f3:H3 q3=some (.lst (qz.map bV)):=by rw[<-yO];exact fP
  refine⟨_,Z,q3,_,Z,.inl (fS.of f3),0,((qz.map bV).length:Int),7,sJ l.length,Z,?_,fun q4 n4=> ?_⟩
  ·rw[ac,hFl];exact ZJ (c:=7) (by decide) (by decide) (by omega)
  have zf:H q4=none:=s3.free n4;have P0:q3≠q4:=gh f3 n4;have eS:signs l=(List.range (sJ l.length)).map (lX qz):=by rw[AB,hF]
  refine Wg (fun i H'=>fR H H'/\H' q3=some (.lst (qz.map bV))/\H' q4=some (.lst (((List.range i).map (lX qz)).map nV)))
   ⟨s3.put zf,by rw[fU P0];exact f3,fP⟩ ?_ ?_
  ·rintro i H4 hi ⟨s4,g3,g4⟩;refine⟨Z,?_⟩;refine⟨_,Z,_,Z,_,Z,_,Z,_,_,Z,Z,_,Z,q3,_,Z,fS.of g3,fun q5 n5=> ?_⟩
   have BB:j0 (qz.map bV) (some ((0:Int)+(i:Int)*7)) (some ((0:Int)+(i:Int)*7+7))=((qz.drop (7*i)).take 7).map bV:=by
    rw[show(0:Int)+(i:Int)*7=((7*i:Nat):Int) by omega,show((7*i:Nat):Int)+7=((7*i+7:Nat):Int) by omega,sy,<-cq,<-b9,show 7*i+7-7*i=7 by omega]
   rw[BB];have Ii:q4≠q5:=gh g4 n5;have n35:q3≠q5:=gh g3 n5;refine⟨q5,_,Z,fS.of fP,?_⟩;refine⟨_,(by rw[fU Ii];exact g4),?_,?_,?_,?_⟩
   ·rw[ac,ac,e8];exact iV (by omega)
   ·exact(s4.more n5).put zf
   ·rw[fU P0,fU n35];exact g3
   ·rw[fP,eM,ao,ao];rfl
  ·rintro H4 ⟨s4,g3,g4⟩;rw[<-eS] at g4;exact hq H4 q4 s4 zf g4
end
open Vbkdaa (bitsIn shift remainder)
theorem Vt(a b:Nat):Builtin.bitXor (a:Int) (b:Int)=((a^^^b:Nat):Int):=by
 have h:=UJ a b;have n1:¬(0<=Builtin.bitNot (a:Int)):=by unfold Builtin.bitNot;omega
 have n2:¬(0<=Builtin.bitNot (b:Int)):=by unfold Builtin.bitNot;omega
 have b1:(Builtin.bitNot (Builtin.bitNot (a:Int))).toNat=a:=by unfold Builtin.bitNot;omega
 have b2:(Builtin.bitNot (Builtin.bitNot (b:Int))).toNat=b:=by unfold Builtin.bitNot;omega
 have e1:Builtin.bitOr (a:Int) (b:Int)=((a|||b:Nat):Int):=by
  unfold Builtin.bitOr
  have e:Builtin.bitAnd (Builtin.bitNot (a:Int)) (Builtin.bitNot (b:Int))=Builtin.bitNot ((a|||b:Nat):Int):=by
   unfold Builtin.bitAnd;rw[ae n1,ae n2,b1,b2]
  rw[e];unfold Builtin.bitNot;omega
 have e2:Builtin.bitAnd (a:Int) (b:Int)=((a&&&b:Nat):Int):=by
  unfold Builtin.bitAnd;rw[ai (Int.natCast_nonneg a),ai (Int.natCast_nonneg b)];rfl
 unfold Builtin.bitXor;rw[e1,e2];omega
def Yu:Sp:=fun vs H Q _=>∃(a:Addr) (l:List Nat),vs=[.ref a]/\H a=some (.lst (l.map nV))/\l.length<=1000/\
 ∀H' p,fR H H'->H p=none->H' p=some (.lst [nV (remainder (l++[0,0])/128),nV (remainder (l++[0,0])% 128)])->Q (.ref p) H'
section
variable {P:Program} {w:World} {K:PySem.W.Frag} {mg:Str->Option Value} {base:Heap} {AA:gv}
theorem UP:gQ ["signs","remainder","sign","bit"] ["signs"] (gM (fY 15)):=gY (by decide+kernel)
theorem Lf(T:Tx P w K mg AA):gL P w K mg base gU 2 AA.Lx AA.Ly ["signs"] Yu:=by
 have uq:=E3 (base:=base) T;have SC:=UP;refine T.uv.fn.ok SC (fun vs H Q E h=> ?_) (fun gz A outer s H vs Q E hr h=> ?_)
 ·obtain⟨a,l,rfl,_⟩:=h;rfl
 ·obtain⟨a,l,rfl,ha,hl,hq⟩:=h
  refine⟨_,(fT (gm (i:=1) SC.nd Z (Or.inl Z) fX)
   (fT (lG bg Z (md (gB j3 (pv 0) (gJ (fO fX (fO fX fQ))))) (iJ (i:=2) SC.nd Z (Or.inl Z))
     (fW (lG bg Z (md (ie uq (hr.mono (by decide)) Z T.mB.mg T.mB.fn.kp T.mB.b .nil gH (fO (pv 2) (fO (gA Z T.uo) fQ)))) (iJ (i:=3) SC.nd Z (Or.inl Z))
       (fT (gm (i:=1) SC.nd Z (Or.inl Z) (gB jh (gB A6 (pv 1) fX) (pv 3)))
       (fW (gZ (ip wg (pv 1) (gA Z T.UK) (ij _))
         (fW (gm (i:=1) SC.nd Z (Or.inl Z) (gB Zl (pv 1) (gA Z T.Yr))))
         ic))))))
   (fW (gD (gJ (fO (gB vS (pv 1) (gA Z T.OH)) (fO (gB A7 (pv 1) (gA Z T.OH)) fQ))))))),?_⟩
  refine⟨_,Z,fZ (by simp),fun q1 n1=> ?_⟩;refine⟨a,q1,_,_,Z,Z,(by rw[fU (gh ha n1)];exact ha),fP,fZ (by simp;omega),fun q2 n2=> ?_⟩;have s2:fR H (fN (fN H q1 (.lst [.int 0,.int 0])) q2 (.lst (l.map nV++[.int 0,.int 0]))):=(fR.new n1).more n2;have qN:H q2=none:=(fR.new (o:=.lst [.int 0,.int 0]) n1).free n2;have eL:l.map nV++[V.int 0,V.int 0]=(l++[0,0]).map nV:=by rw[ao];rfl
  rw[eL] at s2⊢;generalize hL:l++[0,0]=L at*
  refine⟨q2,Z,⟨_,fS.of fP⟩,qY (K:=K) (a:=q2) (xs:=L.map nV) (fun i σ H'=>∃v2 v3,σ=[some (.ref a),some (.int (remainder (L.take i):Int)),v2,v3]/\fR H H'/\H' q2=some (.lst (L.map nV)))
   ⟨none,none,Z,s2,fP⟩ (fun i σ H' _ ⟨_,_,_,_,e⟩=>fS.of e) ?_ ?_⟩
  ·rintro i x σ H3 hx ⟨v2,v3,rfl,s3,g3⟩;rw[au] at hx;cases hb:L[i]? with
   |none=>rw[hb] at hx;cases hx
   |some y=>
    rw[hb] at hx;have ex:x=nV y:=(af hx).symm;subst ex;refine⟨_,Z,y,7,Z,by decide,fun q3 n3=> ?_⟩;have qa:q2≠q3:=gh g3 n3
    have step:∀j b,(bitsOf 7 y)[j]? =some b->((bitsOf 7 y).take (j+1)).foldl shift (remainder (L.take i))=shift (((bitsOf 7 y).take j).foldl shift (remainder (L.take i))) b:=fun j b h=>by
     rw[bC,h,bY];rfl
    refine⟨q3,Z,⟨_,fS.of fP⟩,qY (K:=K) (a:=q3) (xs:=(bitsOf 7 y).map bV) (fun j σ H'=>∃v3,σ=[some (.ref a),some (.int (((bitsOf 7 y).take j).foldl shift (remainder (L.take i)):Nat)),some (.int y),v3]/\H'=fN H3 q3 (.lst ((bitsOf 7 y).map bV)))
     ⟨v3,Z,Z⟩ (fun j σ H' _ ⟨_,_,e⟩=>by rw[e];exact fS.of fP) ?_ ?_⟩
    ·rintro j x σ H' hx ⟨v3,rfl,rfl⟩;rw[au] at hx;cases lw:(bitsOf 7 y)[j]? with
     |none=>rw[lw] at hx;cases hx
     |some b=>
      rw[lw] at hx;have ex:x=bV b:=(af hx).symm;subst ex;have kL:=step j b lw;have ia:((bitsOf 7 y).take j).foldl shift (remainder (L.take i))<16384:=AU _ _ (zT _);generalize ((bitsOf 7 y).take j).foldl shift (remainder (L.take i))=r at kL ia;have ev:(r:Int)*2+(iw b:Int)=((2*r+(if b=true then 1 else 0):Nat):Int):=by unfold iw;split<;>omega
      refine⟨_,Z,_,_,Z,Z,.inr ⟨by decide,by decide⟩,_,Z,_,_,Z,Z,?_⟩;refine⟨_,Z,_,_,Z,Z,_,Z,?_⟩;have Ij:shift r b=(if 16384<=2*r+(if b=true then 1 else 0) then(2*r+(if b=true then 1 else 0))^^^17475 else 2*r+(if b=true then 1 else 0)):=rfl
      by_cases c:16384<=2*r+(if b=true then 1 else 0)
      ·refine gc (ai (by show(16384:Int)<=(r:Int)*2+(iw b:Int);rw[ev];omega)) ?_;refine⟨_,Z,_,_,Z,Z,?_⟩;refine⟨some (bV b),?_,Z⟩;rw[kL,Ij,aw c];show[_,some (V.int (Builtin.bitXor ((r:Int)*2+(iw b:Int)) 17475)),_,_]=_;rw[ev,show(17475:Int)=((17475:Nat):Int) from Z,Vt]
      ·refine gu (ae (by show¬(16384:Int)<=(r:Int)*2+(iw b:Int);rw[ev];omega)) ?_;refine⟨some (bV b),?_,Z⟩;rw[kL,Ij,am c];show[_,some (V.int ((r:Int)*2+(iw b:Int))),_,_]=_;rw[ev]
    ·rintro σ H' ⟨v3,rfl,rfl⟩;refine⟨some (.int y),v3,?_,s3.more n3,by rw[fU qa];exact g3⟩
     have er:remainder (L.take (i+1))=(bitsOf 7 y).foldl shift (remainder (L.take i)):=by
      rw[bC,hb];exact SI _ _
     rw[er,ac,aT]
  ·rintro σ H3 ⟨v2,v3,rfl,s3,g3⟩;rw[ac,aT];have ia:=zT L;generalize remainder L=r at ia hq;refine⟨_,Z,_,_,Z,Z,⟨by decide,by decide⟩,_,Z,_,_,Z,Z,(by show(0:Int)<128;decide),fZ (by simp),fun q4 n4=> ?_⟩;refine hq _ q4 (s3.more n4) (s3.free n4) ?_;rw[fP];rfl
end
end FE
namespace L2
open PySem PySem.Spec PyProof.Rows
theorem WB{X:Cx}:wT X "int.bit_length" (fun x xs H Q=>∃i,x=.int i/\xs=[]/\Q (.int (Builtin.Int.intBits i)) H):=by
 intro fM s σ H x xs v us Q I rx rs h;obtain⟨i,rfl,rfl,q⟩:=h;obtain⟨t,rfl⟩:=rx;cases rs;exact call_int_bit_length ⟨.int _,H,I.tok _,⟨_,Z⟩,q⟩
end L2
namespace FE
open PySem PySem.Spec PyProof.Rows L2
open Vbkdaa (bitsOf signs bitsIn shift remainder encoded Frame keptOf width frameBits)
theorem UQ(n:Nat):Builtin.Int.intBits (n:Int)=oW n:=by
 unfold Builtin.Int.intBits oW
 by_cases h:n=0
 ·subst h;rfl
 ·rw[am h,am (by simp;omega)];simp
def oV:Option Nat->V
 |none=>.gT
 |some n=>.int n
theorem ZM{l:List Nat}{m:Int}(h0:l.map (fun n:Nat=>(n:Int))=[]->m=0)(h1:l.map (fun n:Nat=>(n:Int))≠ []->m∈l.map (fun n:Nat=>(n:Int))/\∀y,y∈l.map (fun n:Nat=>(n:Int))->y<=m):m=(gr l:Int):=by
 cases l with
 |nil=>rw[h0 Z];rfl
 |cons x r=>
  obtain⟨a,b⟩:=h1 (by simp);obtain⟨k,hk,rfl⟩:=bi.mp a;have h2:=OG hk
  have h3:∀y∈x::r,y<k+1:=fun y hy=>by
   have:=b (y:Int) (fF hy);omega
  have:=wo (x::r) (k+1) h3 (by omega);omega
def Yv(K:PySem.W.Frag):Sp:=fun vs H Q _=>∃(t:Nat) (a:Addr) (ss:List (Option Nat)),vs=[.int t,.ref a]/\fS K H a (ss.map oV)/\ss.length<=8/\(∀n,some n∈ss->n<4096)/\
 ∀H' p,fR H H'->H p=none->H' p=some (.lst ((encoded ⟨t% 4096,ss⟩).map nV))->Q (.ref p) H'
section
variable {P:Program} {w:World} {K:PySem.W.Frag} {mg:Str->Option Value} {base:Heap} {AA:gv}
theorem UR:gQ ["crossing","samples","sample","kept","width","bits","signs","checked"] ["crossing","samples"] (gM (fY 16)):=gY (by decide+kernel)
theorem WC(ss:List (Option Nat))(i:Nat)(y:Option Nat)(h:ss[i]? =some y):(ss.take (i+1)).filterMap (fun x=>x)=(ss.take i).filterMap (fun x=>x)++y.toList:=by
 rw[bC,h,List.filterMap_append];cases y<;>simp
theorem Ev(T:Tx P w K mg AA):gL P w K mg base gU 3 AA.Lz AA.LA ["crossing","samples"] (Yv K):=by
 have uq:=E3 (base:=base) T;have Vu:=UO (base:=base) T;have E4:=Lf (base:=base) T;have SC:=UR;refine T.qp.fn.ok SC (fun vs H Q E h=> ?_) (fun gz A outer s H vs Q E hr h=> ?_)
 ·obtain⟨t,a,ss,rfl,_⟩:=h;rfl
 ·obtain⟨t,a,ss,rfl,ha,hl,hb,hq⟩:=h
  refine⟨_,(fT (MO (i:=3) (own:=[("sample",2)]) Z SC.nd Z Z (Nv Z Z Z (by kernel_rfl)) (md (pv 1)) (lD (by kernel_rfl)) (fun s H C cl fp=>(iJ (i:=2) SC.nd Z (Or.inl Z) (.inr Z))) (fun s H C cl fp=>(Nt (qv (Gq (pv 2))))) (fun s H C cl fp=>(pv 2)))
   (fT (gm (i:=4) SC.nd Z (Or.inl Z) (Zp PySem.F.plainAttrs_int PySem.F.slot_int_bit_length PySem.F.type_int_bit_length WB (Gz Z Z T.max (fO (pv 3) fQ) (yf fX ym))))
   (fT (gm (i:=5) SC.nd Z (Or.inl Z) (ie uq (hr.mono (by decide)) Z T.mB.mg T.mB.fn.kp T.mB.b .nil gH (fO (gB A7 (pv 0) (gA Z T.Yq)) (fO (gA Z T.xS) fQ))))
   (fT (iS (iU ax a0 a5 m7 (pv 5) (fO (mi (own:=[("sample",2)]) Z SC.nd (md (pv 1)) (lD (by kernel_rfl)) (fun s H C cl fp=>(iJ (i:=2) SC.nd Z (Or.inl Z) (.inr Z))) (fun s H C cl fp=>me) (fun s H C cl fp=>(yc (qv (A2 (pv 2))) fX fX))) fQ)))
   (fT (iS (iU ax a0 a5 m7 (pv 5) (fO (ie uq (hr.mono (by decide)) Z T.mB.mg T.mB.fn.kp T.mB.b .nil gH (fO (pv 4) (fO (gA Z T.E1) fQ))) fQ)))
   (fT (lG bg Z (md (pv 3)) (iJ (i:=2) SC.nd Z (Or.inl Z))
     (fW (iS (iU ax a0 a5 m7 (pv 5) (fO (ie uq (hr.mono (by decide)) Z T.mB.mg T.mB.fn.kp T.mB.b .nil gH (fO (pv 2) (fO (pv 4) fQ))) fQ)))))
   (fT (gm (i:=6) SC.nd Z (Or.inl Z) (ie Vu (hr.mono (by decide)) Z T.AC.mg T.AC.fn.kp T.AC.b .nil gH (fO (pv 5) fQ)))
   (fT (gm (i:=7) SC.nd Z (Or.inl Z) (gB j3 (gJ (fO (gW iM (by rfl) T.len aF (fO (pv 6) fQ)) fQ)) (pv 6)))
   (fW (gD (gB j3 (gB j3 (gB j3 (gJ (fO (gA Z T.Ee) fQ)) (pv 7)) (ie E4 (hr.mono (by decide)) Z T.uv.mg T.uv.fn.kp T.uv.b .nil gH (fO (pv 7) fQ))) (gJ (fO (gA Z T.EZ) fQ))))))))))))),?_⟩
  generalize hk:ss.filterMap (fun x=>x)=kept;have afj:kept.length<=8:=by rw[<-hk];exact a8 (cf _ _) hl
  have zg:∀x∈kept,x<4096:=fun x hx=>by
   rw[<-hk] at hx;obtain⟨y,hy,rfl⟩:=ck.mp hx;exact hb x hy
  refine⟨_,Z,a,Z,⟨_,ha⟩,fun q1 n1=> ?_⟩;refine sw (K:=K) (a:=a) (xs:=ss.map oV) (fun i H'=>H'=fN H q1 (.lst (((ss.take i).filterMap (fun x=>x)).map nV))) Z (fun i H' _ e=>by rw[e];exact(fR.new n1).seq ha) ?_ ?_
  ·rintro i x H' hx rfl;rw[au] at hx;cases hy:ss[i]? with
   |none=>rw[hy] at hx;cases hx
   |some y=>
    rw[hy] at hx;have ex:x=oV y:=(af hx).symm;subst ex;refine⟨Z,_,Z,?_⟩;rw[WC ss i y hy];cases y with
    |none=>
     refine⟨_,Z,?_⟩;exact gu Z (by simp)
    |some n=>
     refine⟨_,Z,?_⟩;refine gc Z ⟨_,Z,_,fP,?_,?_⟩
     ·rw[ac];exact iV (a8 (cf _ _) (by rw[aD];omega))
     ·rw[jo,ao];rfl
  ·rintro H' rfl;rw[ac,aT,hk];have s1:fR H (fN H q1 (.lst (kept.map nV))):=fR.new n1;generalize Cf:fN H q1 (.lst (kept.map nV))=H1 at s1;have g1:H1 q1=some (.lst (kept.map nV)):=by rw[<-Cf];exact fP
   refine⟨_,Z,q1,kept.map (fun n:Nat=>(n:Int)),0,Z,Z,(by rw[bE];exact fS.of g1),fun m hm0 hm1=>⟨Z,_,Z,Z,?_⟩⟩;rw[ZM hm0 hm1,UQ];have hw:width kept=oW (gr kept):=F1 kept zg;have Hs:oW (gr kept)<=12:=AV (wo kept 4096 zg (by decide));rw[<-hw] at Hs⊢;generalize hW:width kept=W at Hs;refine⟨_,Z,_,_,Z,Z,(by show(0:Int)<4096;decide),t% 4096,12,Z,by decide,fun q2 n2=> ?_⟩;have s2:=s1.more (o:=.lst ((bitsOf 12 (t% 4096)).map bV)) n2;generalize xb:fN H1 q2 (.lst ((bitsOf 12 (t% 4096)).map bV))=H2 at s2;have g2:H2 q2=some (.lst ((bitsOf 12 (t% 4096)).map bV)):=by rw[<-xb];exact fP
   have l8:q1≠q2:=gh g1 n2;have qO:H2 q1=some (.lst (kept.map nV)):=by rw[<-xb,fU l8];exact g1
   have qN:H q2=none:=s1.free n2;refine⟨_,Z,.inl ⟨Z,_,fS.of g2⟩,_,Z,a,Z,⟨_,s2.seq ha⟩,fun q3 n3=> ?_⟩;refine sw (K:=K) (a:=a) (xs:=ss.map oV) (fun i H'=>H'=fN H2 q3 (.lst (((ss.take i).map (fun x=>x.isSome)).map bV))) Z (fun i H' _ e=>by rw[e];exact(s2.more n3).seq ha) ?_ ?_
   ·rintro i x H' hx rfl;rw[au] at hx;cases hy:ss[i]? with
    |none=>rw[hy] at hx;cases hx
    |some y=>
     rw[hy] at hx;have ex:x=oV y:=(af hx).symm;subst ex;have et:(ss.take (i+1)).map (fun x=>x.isSome)=(ss.take i).map (fun x=>x.isSome)++[y.isSome]:=by rw[bC,hy,ao];rfl
     have hz:(((ss.take i).map (fun x=>x.isSome)).map bV).length<sizeLine:=by rw[ac,ac,aD];exact iV (by omega)
     rw[et];refine⟨Z,?_⟩;cases y with
     |none=>
      refine⟨_,Z,_,Z,?_⟩;refine⟨_,fP,hz,?_⟩;rw[jo,ao];rfl
     |some n=>
      refine⟨_,Z,_,Z,?_⟩;refine⟨_,fP,hz,?_⟩;rw[jo,ao];rfl
   ·rintro H' rfl;rw[ac,aT];have qa:q2≠q3:=gh g2 n3;have qb:q1≠q3:=gh qO n3;generalize hM:ss.map (fun x=>x.isSome)=gS;have Pb:gS.length=ss.length:=by rw[<-hM];simp
    refine⟨q2,q3,_,_,Z,Z,(by rw[fU qa];exact g2),fP,fZ (by simp[jY,Pb];omega),?_⟩;rw[<-ao];generalize xf:bitsOf 12 (t% 4096)++gS=B2;have b2l:B2.length<=20:=by rw[<-xf];simp[jY,Pb];omega
    have s4:fR H (fN (fN H2 q3 (.lst (gS.map bV))) q2 (.lst (B2.map bV))):=(s2.more n3).put qN;generalize Ik:fN (fN H2 q3 (.lst (gS.map bV))) q2 (.lst (B2.map bV))=H4 at s4;have qc:H4 q2=some (.lst (B2.map bV)):=by rw[<-Ik];exact fP
    have mY:H4 q1=some (.lst (kept.map nV)):=by rw[<-Ik,fU l8,fU qb];exact qO
    refine⟨_,Z,.inl ⟨Z,_,fS.of qc⟩,_,Z,W,4,Z,by decide,fun q4 n4=> ?_⟩;have zh:q2≠q4:=gh qc n4;have mZ:q1≠q4:=gh mY n4;refine⟨q2,q4,_,_,Z,Z,(by rw[fU zh];exact qc),fP,fZ (by simp[jY];omega),?_⟩;rw[<-ao];generalize Il:B2++bitsOf 4 W=B3;have b3l:B3.length<=24:=by rw[<-Il];simp[jY];omega
    have s5:fR H (fN (fN H4 q4 (.lst ((bitsOf 4 W).map bV))) q2 (.lst (B3.map bV))):=(s4.more n4).put qN;generalize P1:fN (fN H4 q4 (.lst ((bitsOf 4 W).map bV))) q2 (.lst (B3.map bV))=H5 at s5;have tK:H5 q2=some (.lst (B3.map bV)):=by rw[<-P1];exact fP
    have ow:H5 q1=some (.lst (kept.map nV)):=by rw[<-P1,fU l8,fU mZ];exact mY
    have yH:∀i,((kept.take i).flatMap (bitsOf W)).length<=96:=fun i=>by
     have e1:∀l:List Nat,(l.flatMap (bitsOf W)).length=l.length*W:=by
      intro l
      induction l with
      |nil=>simp
      |cons x r ih=>rw[br,ag,ih,jY,aj,eu];omega
     rw[e1];have h1:(kept.take i).length<=8:=by rw[aD];omega
     exact a8 (Nat.mul_le_mul h1 Hs) (by decide)
    refine⟨_,Z,q1,Z,⟨_,fS.of ow⟩,qY (K:=K) (a:=q1) (xs:=kept.map nV) (fun i σ H'=>∃v2,σ=[some (.int t),some (.ref a),v2,some (.ref q1),some (.int W),some (.ref q2),none,none]/\fR H H'/\H' q1=some (.lst (kept.map nV))/\H' q2=some (.lst ((B3++(kept.take i).flatMap (bitsOf W)).map bV)))
     ⟨none,Z,s5,ow,by rw[tK];simp⟩ (fun i σ H' _ ⟨_,_,_,e,_⟩=>fS.of e) ?_ ?_⟩
    ·rintro i x σ H6 hx ⟨v2,rfl,s6,mr,pj⟩;rw[au] at hx;cases hy:kept[i]? with
     |none=>rw[hy] at hx;cases hx
     |some y=>
      rw[hy] at hx;have ex:x=nV y:=(af hx).symm;subst ex;refine⟨_,Z,.inl ⟨Z,_,fS.of pj⟩,_,Z,_,Z,y,W,Z,by omega,fun q5 n5=> ?_⟩;have Im:q2≠q5:=gh pj n5;have tM:q1≠q5:=gh mr n5;refine⟨q2,q5,_,_,Z,Z,(by rw[fU Im];exact pj),fP,fZ ?_,?_⟩
      ·have:=yH i;simp only[ac,ag,jY];omega
      ·refine⟨some (nV y),Z,(s6.more n5).put qN,(by rw[fU l8,fU tM];exact mr),?_⟩;rw[fP,<-ao,a7,bC,hy,bO];simp
    ·rintro σ H6 ⟨v2,rfl,s6,mr,pj⟩;have tN:=yH (kept.map nV).length;rw[ac,aT] at pj tN
     have P2:B3++kept.flatMap (bitsOf W)=frameBits ⟨t% 4096,ss⟩:=by
      unfold frameBits keptOf;simp only;rw[hk,hM,hW,<-Il,<-xf];simp only[a7]
     rw[P2] at pj;have zi:(frameBits ⟨t% 4096,ss⟩).length<=120:=by rw[<-P2,ag];omega
     generalize hFR:frameBits ⟨t% 4096,ss⟩=FB at pj zi;refine⟨_,Z,q2,FB,Z,pj,by omega,fun H7 p7 s7 f7 g7=> ?_⟩;have hpd:=vT FB.length;have hp7:jJ FB.length<7:=by unfold jJ;omega
     have sl:(signs FB).length<=100:=by rw[Fj];omega
     generalize hSG:signs FB=SG at g7 sl;refine⟨_,Z,p7,_,Z,.inl (fS.of g7),fZ (by simp),fun q8 n8=> ?_⟩;have n78:p7≠q8:=gh g7 n8;refine⟨_,Z,q8,p7,_,_,Z,Z,fP,(by rw[fU n78];exact g7),fZ (by simp;omega),fun q9 n9=> ?_⟩;have s67:fR H H7:=s6.trans s7;have s9:=(s67.more (o:=.lst [V.int ((SG.map nV).length:Int)]) n8).more (o:=.lst ([V.int ((SG.map nV).length:Int)]++SG.map nV)) n9;have eC:[V.int ((SG.map nV).length:Int)]++SG.map nV=(SG.length::SG).map nV:=by rw[ac];rfl
     rw[eC] at s9⊢;generalize hH9:fN (fN H7 q8 (.lst [V.int ((SG.map nV).length:Int)])) q9 (.lst ((SG.length::SG).map nV))=H9 at s9;have g9:H9 q9=some (.lst ((SG.length::SG).map nV)):=by rw[<-hH9];exact fP
     refine⟨fZ (by simp),fun tO rH=> ?_⟩;have Pc:q9≠tO:=gh g9 rH;refine⟨_,Z,tO,q9,_,_,Z,Z,fP,(by rw[fU Pc];exact g9),fZ (by simp;omega),fun vh xg=> ?_⟩;have yP:=(s9.more (o:=.lst [V.int 128]) rH).more (o:=.lst ([V.int 128]++(SG.length::SG).map nV)) xg;have Pd:(fN H9 tO (.lst [V.int 128])) q9=some (.lst ((SG.length::SG).map nV)):=by rw[fU Pc];exact g9
     have abA:q9≠vh:=gh Pd xg;generalize Pe:fN (fN H9 tO (.lst [V.int 128])) vh (.lst ([V.int 128]++(SG.length::SG).map nV))=P3 at yP;have Io:P3 vh=some (.lst ([V.int 128]++(SG.length::SG).map nV)):=by rw[<-Pe];exact fP
     have abB:P3 q9=some (.lst ((SG.length::SG).map nV)):=by rw[<-Pe,fU abA];exact Pd
     refine⟨_,Z,q9,SG.length::SG,Z,abB,by simp;omega,fun H12 p12 nG f12 Ip=> ?_⟩;refine⟨vh,p12,_,_,Z,Z,nG _ _ Io,Ip,fZ (by simp;omega),fun Cg qb=> ?_⟩;refine⟨fZ (by simp),fun Ch mZ=> ?_⟩;have aaB:Cg≠Ch:=fun z=>by rw[z,fP] at mZ;cases mZ
     refine⟨Cg,Ch,_,_,Z,Z,(by rw[fU aaB];exact fP),fP,fZ (by simp;omega),fun q15 tM=> ?_⟩;have sA:fR H H12:=yP.trans nG;have sB:=((sA.more (o:=.lst ([V.int 128]++(SG.length::SG).map nV++[nV (remainder (SG.length::SG++[0,0])/128),nV (remainder (SG.length::SG++[0,0])% 128)])) qb).more (o:=.lst [V.int 129]) mZ);refine hq _ q15 (sB.more tM) (sB.free tM) ?_;rw[fP];unfold encoded Vbkdaa.frameSigns Vbkdaa.checked;simp only;rw[hFR,hSG];simp[nV,Vbkdaa.BEGIN,Vbkdaa.END]
end
open Vbkdaa
structure RS where
 samples:List (List Nat)
 highs:List (List Bool)
 fates:List Nat
 gC:List Bool
 frames:List (Nat×Bool×List Nat)
 iC:List Nat
 gone:Nat
 most:Nat
def ox:RS:=⟨[],[],[],[],[],[],0,0⟩
def ig(m:RS):Nat:=m.iC.length-m.gone
def lj(b:Book)(n:Nat):Nat:=n-ahead b
def iW(b:Book)(hs:List (List Bool))(s:List Nat):List Bool:=b.channels.zipIdx.map fun x=>isHigh x.1 ((hs.getLast?.getD []).getD x.2 false) (s.getD x.2 0)
def vK(bs:List Bool)(n k:Nat):Bool:=if k<=n then bs.getD (n-k) false else false
def kT(b:Book)(fs:List Nat)(bs:List Bool)(asked:Bool):Nat:=
 if asked=false then 0 else if (fs.drop (fs.length-gapOf b)).contains 1=true then 2 else if vK bs bs.length (delayOf b+1)=true then 3 else 1
def ni(b:Book)(hs:List (List Bool))(t i:Nat):Bool:=((hs.take (t+ahead b+1)).drop (t-behind b)).any fun h=>h.getD i false
def lC(b:Book)(hs:List (List Bool))(ss:List (List Nat))(t:Nat):List (Option Nat):=(ss.getD t []).zipIdx.map fun x=>if ni b hs t x.2=true then some x.1 else none
def mD(b:Book)(hs:List (List Bool))(ss:List (List Nat))(t:Nat):List Nat:=encoded ⟨t% 4096,lC b hs ss t⟩
def pP(b:Book)(m:RS)(asked:Bool)(s:List Nat):RS:=
 let gone:=m.gone+min (rate b) (ig m)
 let ss:=m.samples++[s]
 let hs:=m.highs++[iW b m.highs s]
 let fs:=m.fates++[kT b m.fates m.gC asked]
 let made:Option (List Nat):=if ahead b<hs.length/\fs.getD (hs.length-1-ahead b) 0=1 then some (mD b hs ss (hs.length-1-ahead b)) else none
 let room:=made.any fun y=>decide (m.iC.length-gone+y.length<=depth b)
 let iC:=if room=true then m.iC++made.getD [] else m.iC
 let frames:=match made with|some y=>m.frames++[(hs.length-1-ahead b,room,y)]|none=>m.frames
 let n:=iC.length-gone
 ⟨ss,hs,fs,m.gC++[busyNow b (m.gC.getLast?.getD false) n],frames,iC,gone,max m.most n⟩
structure j8(b:Book)(m:RS)(f:Front):Prop where
 jR:m.samples=(f.done.map (·.samples)).reverse
 i5:m.highs=(f.done.map (·.high)).reverse
 iX:m.fates=(f.done.map (·.fate)).reverse
 jg:m.gC=(f.done.map (·.busy)).reverse
 Ci:f.queue=m.iC.drop m.gone
 Cj:f.wire=m.iC.take m.gone
 kn:m.gone<=m.iC.length
 vi:f.made=m.frames.map fun x=>(x.1,x.2.1)
 jH:∀x∈m.frames,x.2.2=mD b m.highs m.samples x.1
 key:m.frames.map (·.1)=(List.range (f.done.length-ahead b)).filter fun t=>m.fates.getD t 0==1
 Iq:f.most=m.most
 len:∀d∈f.done,d.samples.length=b.channels.length/\d.high.length=b.channels.length
theorem abC(b:Book):j8 b ox fresh where
 jR:=rfl
 i5:=rfl
 iX:=rfl
 jg:=rfl
 Ci:=rfl
 Cj:=rfl
 kn:=aA _
 vi:=rfl
 jH:=fun x h=>absurd h (by simp[ox])
 key:=by simp[ox,fresh]
 Iq:=rfl
 len:=fun d h=>absurd h (by simp[fresh])
section
variable {b:Book} {m:RS} {f:Front}
theorem j8.sS(r:j8 b m f):m.highs.length=f.done.length:=by rw[r.i5];simp
theorem j8.wF(r:j8 b m f):m.samples.length=f.done.length:=by rw[r.jR];simp
theorem j8.oX(r:j8 b m f):m.fates.length=f.done.length:=by rw[r.iX];simp
theorem j8.oY(r:j8 b m f):m.gC.length=f.done.length:=by rw[r.jg];simp
theorem j8.wait(r:j8 b m f):f.queue.length=ig m:=by rw[r.Ci];simp[ig]
theorem AG{α β:Type}(l:List α)(g:α->β):(l.map g).reverse.getLast?=l.head?.map g:=by
 rw[List.getLast?_reverse,List.head?_map]
theorem Xz(r:j8 b m f)(s:List Nat):
 (b.channels.zipIdx.map fun x=>isHigh x.1 (((f.done.head?.map fun d=>d.high).getD []).getD x.2 false) (s.getD x.2 0))=iW b m.highs s:=by
 unfold iW;rw[r.i5,AG]
theorem MX{α:Type}(l:List α)(n:Nat):l.reverse.drop (l.length-n)=(l.take n).reverse:=by
 rw[List.drop_reverse]
 by_cases h:n<=l.length
 ·rw[show l.length-(l.length-n)=n by omega]
 ·rw[show l.length-(l.length-n)=l.length by omega,aV (aA _),aV (by omega)]
theorem Yw(r:j8 b m f)(asked:Bool):fateOf b f.done asked=kT b m.fates m.gC asked:=by
 unfold fateOf kT
 have e1:((f.done.take (gapOf b)).any fun d=>d.fate==1)=(m.fates.drop (m.fates.length-gapOf b)).contains 1:=by
  have:m.fates.length=(f.done.map (·.fate)).length:=by rw[r.oX];simp
  rw[this,r.iX,MX,<-b9,List.contains_reverse,eG,fi]
  congr 1
  funext d
  exact Bool.beq_comm
 have e2:seen b f.done=vK m.gC m.gC.length (delayOf b+1):=by
  unfold seen vK;rw[r.oY,r.jg]
  by_cases h:delayOf b+1<=f.done.length
  ·rw[aw h,aE,b6 (by simp;omega),au,ac,show f.done.length-1-(f.done.length-(delayOf b+1))=delayOf b by omega]
  ·rw[am h,bA (by omega)];rfl
 rw[e1,e2]
theorem NM(l:List Done)(i:Nat)(hi:i<b.channels.length)(hl:ahead b<l.length):
 (keptNow b l).getD i false=ni b (l.map (·.high)).reverse (l.length-1-ahead b) i:=by
 unfold keptNow ni;rw[aE,au,List.getElem?_range hi];simp only[Option.map_some,Option.getD_some];have e0:(l.map (·.high)).reverse.take (l.length-1-ahead b+ahead b+1)=(l.map (·.high)).reverse:=aV (by rw[cv,ac];omega);rw[e0]
 have e:(l.map (·.high)).reverse.drop (l.length-1-ahead b-behind b)=((l.map (·.high)).take (ahead b+behind b+1)).reverse:=by
  have:=MX (l.map (·.high)) (ahead b+behind b+1);rw[ac] at this;rw[show l.length-1-ahead b-behind b=l.length-(ahead b+behind b+1) by omega];exact this
 rw[e,List.any_reverse,<-b9,fi];rfl
theorem Ew(l:List Done):(keptNow b l).length=b.channels.length:=by simp[keptNow]
theorem Lg(l:List Done)(d:Done)(hd:l[ahead b]? =some d)(hl:d.samples.length=b.channels.length):
 frameNow b l=if d.fate=1 then some ⟨(l.length-1-ahead b)% 4096,lC b (l.map (·.high)).reverse (l.map (·.samples)).reverse (l.length-1-ahead b)⟩ else none:=by
 have ia:ahead b<l.length:=(ap.mp hd).1;unfold frameNow;rw[hd];simp only[Option.bind_some]
 by_cases hf:d.fate=1
 ·rw[aw hf,aw hf]
  have es:((l.map (·.samples)).reverse).getD (l.length-1-ahead b) []=d.samples:=by
   rw[aE,b6 (by simp;omega),au,ac,show l.length-1-(l.length-1-ahead b)=ahead b by omega,hd];rfl
  unfold lC;rw[es]
  congr 2
  apply List.ext_getElem?;intro i;rw[au,au,List.getElem?_zipIdx]
  by_cases hi:i<b.channels.length
  ·rw[ak (l:=d.samples) (by omega)];rw[ak (l:=d.samples.zip (keptNow b l)) (by rw[cM,Ew];omega)];rw[List.getElem_zip];simp only[Option.map_some,dF];rw[<-NM l i hi ia,aE,ak (l:=keptNow b l) (by rw[Ew];exact hi)];rfl
  ·rw[bA (l:=d.samples) (by omega),bA (l:=d.samples.zip (keptNow b l)) (by rw[cM,Ew];omega)];rfl
 ·rw[am hf,am hf]
end
theorem Lh(b:Book)(hs more:List (List Bool))(t i:Nat)(h:t+ahead b<hs.length):ni b (hs++more) t i=ni b hs t i:=by
 unfold ni;rw[cE (by omega)]
theorem LL(b:Book)(hs mh:List (List Bool))(ss ms:List (List Nat))(t:Nat)(h:t+ahead b<hs.length)(h2:t<ss.length):mD b (hs++mh) (ss++ms) t=mD b hs ss t:=by
 unfold mD lC;have e:(ss++ms).getD t []=ss.getD t []:=by rw[aE,aE,bp h2]
 rw[e]
 congr 2
 apply bW;intro x _;rw[Lh b hs mh t x.2 h]
theorem XA{b:Book}{m:RS}{f:Front}(r:j8 b m f)(asked:Bool)(s:List Nat)(hs:s.length=b.channels.length):j8 b (pP b m asked s) (cross b f asked s):=by
 have hw:=r.wait;have lH:=r.sS;have lS:=r.wF;have lF:=r.oX;have lB:=r.oY;have Ht:m.gone+min (rate b) (ig m)<=m.iC.length:=by have:=r.kn;unfold ig;omega
 have q1:f.queue.drop (rate b)=m.iC.drop (m.gone+min (rate b) (ig m)):=by
  rw[r.Ci,bw]
  by_cases h:rate b<=ig m
  ·rw[cx h]
  ·have hn:=r.kn;unfold ig at h⊢;rw[bG (by omega),bG (by omega)]
 have q2:f.wire++f.queue.take (rate b)=m.iC.take (m.gone+min (rate b) (ig m)):=by
  rw[r.Ci,r.Cj,fB]
  congr 1
  by_cases h:rate b<=ig m
  ·rw[cx h]
  ·rw[Nat.min_eq_right (by omega),aV (by simp;unfold ig at h;omega),aV (by simp[ig])]
 have fe:=Yw r asked;have he:=Xz r s;generalize hB:(f.done.head?.map fun d=>d.busy).getD false=nH;have hB':m.gC.getLast?.getD false=nH:=by rw[r.jg,AG];exact hB
 generalize hD:({asked:=asked,samples:=s,high:=iW b m.highs s,fate:=kT b m.fates m.gC asked,busy:=nH}:Done)=here
 have mk:((if ahead b<(m.highs++[iW b m.highs s]).length/\(m.fates++[kT b m.fates m.gC asked]).getD ((m.highs++[iW b m.highs s]).length-1-ahead b) 0=1
  then some (mD b (m.highs++[iW b m.highs s]) (m.samples++[s]) ((m.highs++[iW b m.highs s]).length-1-ahead b)) else none):Option (List Nat))=(frameNow b (here::f.done)).map encoded:=by
  have eH:m.highs++[iW b m.highs s]=((here::f.done).map (·.high)).reverse:=by rw[aB,bX,<-r.i5,<-hD]
  have eS:m.samples++[s]=((here::f.done).map (·.samples)).reverse:=by rw[aB,bX,<-r.jR,<-hD]
  have eF:m.fates++[kT b m.fates m.gC asked]=((here::f.done).map (·.fate)).reverse:=by rw[aB,bX,<-r.iX,<-hD]
  rw[eF];have wt:(m.highs++[iW b m.highs s]).length=(here::f.done).length:=by rw[eH];simp
  rw[wt,eH,eS];cases hd:(here::f.done)[ahead b]? with
  |none=>
   have:¬ahead b<(here::f.done).length:=fun z=>by rw[ak z] at hd;cases hd
   rw[am (fun z=>this z.1)];unfold frameNow;rw[hd];rfl
  |some d=>
   have ia:ahead b<(here::f.done).length:=(ap.mp hd).1
   have w9:d.samples.length=b.channels.length:=by
    rcases az.mp (aS hd) with z|z
    ·rw[z,<-hD];exact hs
    ·exact(r.len d z).1
   have ef:(((here::f.done).map (·.fate)).reverse).getD ((here::f.done).length-1-ahead b) 0=d.fate:=by
    rw[aE,b6 (by simp at ia⊢;omega),au,ac,show(here::f.done).length-1-((here::f.done).length-1-ahead b)=ahead b by omega,hd];rfl
   rw[Lg _ d hd w9,ef]
   by_cases hf:d.fate=1
   ·rw[aw ⟨ia,hf⟩,aw hf];rfl
   ·rw[am (fun z=>hf z.2),am hf];rfl
 unfold pP cross;simp only;rw[he,fe,hB,hB',hD,q1,q2,mk];generalize hX:(frameNow b (here::f.done)).map encoded=X;have wt:(m.highs++[iW b m.highs s]).length-1-ahead b=f.done.length-ahead b:=by rw[ag,bD,lH];omega
 rw[wt];have abD:(m.iC.drop (m.gone+min (rate b) (ig m))).length=m.iC.length-(m.gone+min (rate b) (ig m)):=by simp
 rw[abD];generalize hR:(X.any fun y=>decide (m.iC.length-(m.gone+min (rate b) (ig m))+y.length<=depth b))=room
 have full:(if room=true then m.iC.drop (m.gone+min (rate b) (ig m))++X.getD [] else m.iC.drop (m.gone+min (rate b) (ig m)))=(if room=true then m.iC++X.getD [] else m.iC).drop (m.gone+min (rate b) (ig m)):=by
  split
  ·rw[List.drop_append_of_le_length Ht]
  ·rfl
 have OJ:(if room=true then m.iC.drop (m.gone+min (rate b) (ig m))++X.getD [] else m.iC.drop (m.gone+min (rate b) (ig m))).length=(if room=true then m.iC++X.getD [] else m.iC).length-(m.gone+min (rate b) (ig m)):=by rw[full];simp
 have gle:m.gone+min (rate b) (ig m)<=(if room=true then m.iC++X.getD [] else m.iC).length:=by
  split
  ·rw[ag];omega
  ·exact Ht
 have eD:here.samples=s/\here.high=iW b m.highs s/\here.fate=kT b m.fates m.gC asked:=by rw[<-hD];exact⟨Z,Z,Z⟩
 refine⟨?_,?_,?_,?_,full,?_,gle,?_,?_,?_,?_,?_⟩
 ·show m.samples++[s]=_;rw[aB,bX,<-r.jR]
 ·show m.highs++[iW b m.highs s]=_;rw[aB,bX,<-r.i5]
 ·show m.fates++[kT b m.fates m.gC asked]=_;rw[aB,bX,<-r.iX]
 ·rw[aB,bX,<-r.jg,OJ]
 ·split
  ·rw[cE Ht]
  ·rfl
 ·cases X with
  |none=>simp[r.vi]
  |some y=>simp[r.vi]
 ·intro x hx
  have lr:∀x∈m.frames,x.2.2=mD b (m.highs++[iW b m.highs s]) (m.samples++[s]) x.1:=fun x hx=>by
   have hk:x.1∈m.frames.map (·.1):=fF hx;rw[r.key] at hk;have ia:=d9.mp (eQ.mp hk).1;rw[LL b _ _ _ _ _ (by rw[lH];omega) (by rw[lS];omega)];exact r.jH x hx
  cases X with
  |none=>exact lr x hx
  |some y=>
   rcases aG.mp hx with z|z
   ·exact lr x z
   ·have z':x=(f.done.length-ahead b,room,y):=by simpa using z
    rw[z'];show y=_;have zj:=mk;rw[hX] at zj;split at zj
    ·rw[wt] at zj;exact(af zj).symm
    ·cases zj
 ·show _=(List.range (f.done.length+1-ahead b)).filter (fun t=>(m.fates++[kT b m.fates m.gC asked]).getD t 0==1)
  have lr:(List.range (f.done.length-ahead b)).filter (fun t=>(m.fates++[kT b m.fates m.gC asked]).getD t 0==1)=(List.range (f.done.length-ahead b)).filter (fun t=>m.fates.getD t 0==1):=by
   apply List.filter_congr;intro t ht;have:=d9.mp ht;rw[aE,aE,bp (by rw[lF];omega)]
  by_cases hA:ahead b<=f.done.length
  ·rw[show f.done.length+1-ahead b=(f.done.length-ahead b)+1 by omega,eM,List.filter_append,lr,<-r.key];have lh:(m.highs++[iW b m.highs s]).length=f.done.length+1:=by simp[lH]
   rw[wt,lh] at mk
   by_cases hf:(m.fates++[kT b m.fates m.gC asked]).getD (f.done.length-ahead b) 0=1
   ·rw[aw ⟨by omega,hf⟩,hX] at mk;rw[<-mk];simp only[ao,aB,cg]
    congr 1
    rw[List.filter_cons_of_pos (by simpa using hf),List.filter_nil]
   ·rw[am (fun z=>hf z.2),hX] at mk;rw[<-mk];simp only;rw[List.filter_cons_of_neg (by simpa using hf),List.filter_nil,bc]
  ·rw[show f.done.length+1-ahead b=0 by omega];have lh:(m.highs++[iW b m.highs s]).length=f.done.length+1:=by simp[lH]
   rw[wt,lh] at mk;rw[am (fun z=>by omega),hX] at mk;rw[<-mk];simp only;rw[r.key,show f.done.length-ahead b=0 by omega];rfl
 ·rw[r.Iq,OJ]
 ·intro d hd;rcases az.mp hd with z|z
  ·rw[z];refine⟨hs,?_⟩;show(iW b m.highs s).length=_;simp[iW]
  ·exact r.len d z
end FE
namespace L2
open PySem
def gF(xs:List Addr)(H H':Hp):Prop:=∀b o,H b=some o->b∉xs->H' b=some o
theorem gF.refl{xs:List Addr}{H:Hp}:gF xs H H:=fun _ _ h _=>h
theorem gF.trans{xs:List Addr}{H H1 H2:Hp}(a:gF xs H H1)(b:gF xs H1 H2):gF xs H H2:=fun c o h n=>b c o (a c o h n) n
theorem fR.own{xs:List Addr}{H H':Hp}(s:fR H H'):gF xs H H':=fun b o h _=>s b o h
theorem gF.put{xs:List Addr}{H H':Hp}{p:Addr}{o:HO}(s:gF xs H H')(h:p∈xs):gF xs H (fN H' p o):=fun b u e n=>by
 rw[fU (fun z:b=p=>n (by rw[z];exact h))];exact s b u e n
theorem gF.new{xs:List Addr}{H H':Hp}{p:Addr}{o:HO}(s:gF xs H H')(h:H p=none):gF xs H (fN H' p o):=fun b u e n=>by
 rw[fU (gh e h)];exact s b u e n
theorem gF.mono{xs ys:List Addr}{H H':Hp}(s:gF xs H H')(h:∀x∈xs,x∈ys):gF ys H H':=fun b o e n=>s b o e fun z=>n (h b z)
theorem qr{xs:List Addr}{H H':Hp}{q:Addr}(s:gF xs H H')(nq:q∉xs)(h:H' q=none):H q=none:=by
 cases e:H q with
 |none=>rfl
 |some o=>rw[s q o e nq] at h;cases h
def j1(H H':Hp):Prop:=∀b,H' b=none->H b=none
theorem j1.refl{H:Hp}:j1 H H:=fun _ h=>h
theorem j1.trans{H H1 H2:Hp}(a:j1 H H1)(b:j1 H1 H2):j1 H H2:=fun c h=>a c (b c h)
theorem j1.put{H H':Hp}{p:Addr}{o:HO}(g:j1 H H'):j1 H (fN H' p o):=fun b h=>by
 unfold fN at h;split at h
 ·cases h
 ·exact g b h
theorem fR.grow{H H':Hp}(s:fR H H'):j1 H H':=fun _ h=>s.free h
end L2
namespace FE
open PySem PySem.Spec PyProof.Rows L2
open Vbkdaa (Book Channel ahead behind depth rate high low delayOf gapOf yieldMost mostOf loop)
def iH{α:Type}(H:Hp)(g:α->HO)(as:List Addr)(xs:List α):Prop:=as.length=xs.length/\∀(i:Nat) (a:Addr) (x:α),as[i]? =some a->xs[i]? =some x->H a=some (g x)
theorem iH.keep{α:Type}{H H':Hp}{g:α->HO}{as:List Addr}{xs:List α}{ys:List Addr}(h:iH H g as xs)(o:gF ys H H')(n:∀a∈as,a∉ys):iH H' g as xs:=
 ⟨h.1,fun i a x h1 h2=>o _ _ (h.2 i a x h1 h2) (n a (aS h1))⟩
theorem iH.nil{α:Type}{H:Hp}{g:α->HO}:iH H g [] ([]:List α):=⟨Z,fun i a x h=>by simp at h⟩
theorem iH.snoc{α:Type}{H:Hp}{g:α->HO}{as:List Addr}{xs:List α}{a:Addr}{x:α}(h:iH H g as xs)(e:H a=some (g x)):iH H g (as++[a]) (xs++[x]):=by
 refine⟨by simp[h.1],fun i b y h1 h2=> ?_⟩
 by_cases hi:i<as.length
 ·rw[bp hi] at h1;rw[bp (by rw[<-h.1];exact hi)] at h2;exact h.2 i b y h1 h2
 ·rw[bv (by omega)] at h1;rw[bv (by rw[<-h.1];omega)] at h2
  have e1:i-as.length=0:=by
   have:=(ap.mp h1).1;simp at this;omega
  rw[e1] at h1;rw[<-h.1,e1] at h2;simp at h1 h2;subst h1 h2;exact e
theorem iH.get{α:Type}{H:Hp}{g:α->HO}{as:List Addr}{xs:List α}(h:iH H g as xs){i:Nat}{a:Addr}(ha:as[i]? =some a):∃x,xs[i]? =some x/\H a=some (g x):=by
 have hi:=(ap.mp ha).1;have:i<xs.length:=by rw[<-h.1];exact hi
 exact⟨xs[i],ak this,h.2 i a _ ha (ak this)⟩
theorem iH.addr{α:Type}{H:Hp}{g:α->HO}{as:List Addr}{xs:List α}(h:iH H g as xs){i:Nat}{x:α}(hx:xs[i]? =some x):∃a,as[i]? =some a/\H a=some (g x):=by
 have hi:=(ap.mp hx).1;have:i<as.length:=by rw[h.1];exact hi
 exact⟨as[i],ak this,h.2 i _ x (ak this) hx⟩
def jl(b:Nat):Nat:=if (48<=b/\b<=57)\/(97<=b/\b<=122) then b else 63
def gK(w:List Nat):Str:=⟨w.toArray⟩
def ii(w:List Nat):Str:=gK (w.map jl)
def Ck(c:Channel):HO:=.tup [.str (gK c.name),.int c.pedestal,.int c.on,.int c.off]
def uF(b:Book):List (Str×List Nat):=
 (b.keep.elim [] fun x=>[(("keep":Str),[x.1,x.2])])++(b.buffer.elim [] fun x=>[(("buffer":Str),[x.1,x.2.1,x.2.2.1,x.2.2.2])])++(b.delay.elim [] fun n=>[(("delay":Str),[n])])++(b.gap.elim [] fun n=>[(("gap":Str),[n])])
def Hu(l:List Nat):HO:=.tup (l.map nV)
structure lm where
 s:Addr
 dx:Addr
 lc:Addr
 ld:Addr
 cs:List Addr
 ts:List (Str×Addr)
structure lV(H:Hp)(ld:Addr)(ts:List (Str×Addr))(b:Book):Prop where
 dict:H ld=some (.dK (ts.map fun x=>(Sum.inr x.1,V.ref x.2)))
 nd:(ts.map (·.1)).Nodup
 all:∀x:Str×List Nat,x∈uF b↔∃a,(x.1,a)∈ts/\H a=some (Hu x.2)
 only:∀x∈ts,∃l,(x.1,l)∈uF b
def Pf(lc ld:Addr)(b:Book):List (Str×V):=
 [("channels",.ref lc),("told",.ref ld),("ahead",.int (ahead b)),("behind",.int (behind b)),("depth",.int (depth b)),("rate",.int (rate b)),("high_mark",.int (high b)),("low_mark",.int (low b)),("delay",.int (delayOf b)),("gap",.int (gapOf b))]
structure lY(AA:gv)(H:Hp)(L:lm)(b:Book):Prop where
 ins:H L.s=some (.ins AA.lR L.dx (Pf L.lc L.ld b))
 mv:H L.lc=some (.lst (L.cs.map V.ref))
 mw:iH H Ck L.cs b.channels
 told:lV H L.ld L.ts b
 iD:b.channels.length<=8
def lm.fp(L:lm):List Addr:=[L.s,L.lc,L.ld]
theorem kR{ys:List Addr}{H H':Hp}(o:gF ys H H')(m:∀y∈ys,∀xs,H y≠some (.tup xs)){a:Addr}{xs:List V}(h:H a=some (.tup xs)):H' a=some (.tup xs):=o a _ h fun z=>m a z xs h
theorem lY.xh{AA:gv}{H:Hp}{L:lm}{b:Book}(h:lY AA H L b):∀a∈L.fp,(H a).isSome=true:=by
 intro a ha;simp only[lm.fp,az,bh,cN] at ha;rcases ha with rfl|rfl|rfl
 ·rw[h.ins];rfl
 ·rw[h.mv];rfl
 ·rw[h.told.dict];rfl
theorem Gb:∀{p q:List Nat},p.map nV=q.map nV->p=q
 |[],[],_=>rfl
 |[],y::q,h=>by cases h
 |x::p,[],h=>by cases h
 |x::p,y::q,h=>by
  rw[aB,aB] at h;obtain⟨h1,h2⟩:=dw h
  have:x=y:=by
   unfold nV at h1;injection h1 with h
   omega
  rw[this,Gb h2]
theorem lV.keep{H H':Hp}{ld:Addr}{ts:List (Str×Addr)}{b:Book}{ys:List Addr}(h:lV H ld ts b)(o:gF ys H H')(n:ld∉ys)(m:∀y∈ys,∀xs,H y≠some (.tup xs)):lV H' ld ts b:=
 {
  dict:=o _ _ h.dict n
  nd:=h.nd
  all:=fun x=>by
   constructor
   ·intro hx;obtain⟨a,h1,h2⟩:=(h.all x).mp hx;exact⟨a,h1,kR o m h2⟩
   ·rintro⟨a,h1,h2⟩;obtain⟨l,hl⟩:=h.only _ h1;obtain⟨a',g1,g2⟩:=(h.all _).mp hl
    have ea:a=a':=by
     have:=h.nd;obtain⟨i,hi⟩:=b8.mp h1;obtain⟨j,hj⟩:=b8.mp g1;have e:i=j:=G1 this (by rw[au,hi];rfl) (by rw[au,hj];rfl);rw[e,hj] at hi;exact(aP (af hi)).2.symm
    subst ea;have g3:=kR o m g2;rw[h2] at g3
    have e2:x.2.map nV=l.map nV:=by
     have:=af g3;injection this
    have e3:x.2=l:=by
     have inj:∀p q:List Nat,p.map nV=q.map nV->p=q:=by
      intro p
      induction p with
      |nil=>intro q hq;cases q with|nil=>rfl|cons _ _=>simp at hq
      |cons y r ih=>
       intro q hq;cases q with
       |nil=>simp at hq
       |cons z r2=>
        simp only[aB,List.cons.injEq] at hq
        have:y=z:=by
         have:=hq.1;unfold nV at this;injection this with h
         omega
        rw[this,ih r2 hq.2]
     exact inj _ _ e2
    have:x=(x.1,l):=by rw[<-e3]
    rw[this];exact hl
  only:=h.only}
theorem lY.keep{AA:gv}{H H':Hp}{L:lm}{b:Book}{ys:List Addr}(h:lY AA H L b)(o:gF ys H H')(n:∀a∈L.fp,a∉ys)(m:∀y∈ys,∀xs,H y≠some (.tup xs)):lY AA H' L b where
 ins:=o _ _ h.ins (n _ (by simp[lm.fp]))
 mv:=o _ _ h.mv (n _ (by simp[lm.fp]))
 mw:=⟨h.mw.1,fun i a x h1 h2=>kR o m (h.mw.2 i a x h1 h2)⟩
 told:=h.told.keep o (n _ (by simp[lm.fp])) m
 iD:=h.iD
theorem lY.same{AA:gv}{H H':Hp}{L:lm}{b:Book}(h:lY AA H L b)(s:fR H H'):lY AA H' L b:=h.keep (ys:=[]) s.own (fun _ _ z=>by cases z) (fun _ z=>by cases z)
def ZN:Sp:=fun vs H Q _=>∃n:Nat,vs=[.int n]/\n<=1000/\Q (.int (yieldMost n)) H
def XB(AA:gv):Sp:=fun vs H Q _=>∃(L:lm) (b:Book),vs=[.ref L.s]/\lY AA H L b/\depth b<=1000/\rate b<=1000/\high b<=1000/\loop b<=1000/\Q (.int (mostOf b)) H
section
variable {P:Program} {w:World} {K:PySem.W.Frag} {mg:Str->Option Value} {base:Heap} {AA:gv}
theorem Tl:gQ ["channels","bits"] ["channels"] (gM (fY 18)):=gY (by decide+kernel)
theorem zR(T:Tx P w K mg AA):gL P w K mg base gU 1 AA.Kw AA.Kx ["channels"] ZN:=by
 have SC:=Tl;refine T.nM.fn.ok SC (fun vs H Q E h=> ?_) (fun gz A outer s H vs Q E hr h=> ?_)
 ·obtain⟨n,rfl,_⟩:=h;rfl
 ·obtain⟨n,rfl,hn,hq⟩:=h
  refine⟨_,(fT (gm (i:=1) SC.nd Z (Or.inl Z) (gB jh (gB jh (gA Z T.xS) (gA Z T.E1)) (gB A6 (gB jh fX (gA Z T.Ld)) (pv 0))))
   (fW (gD (gB jh (gA Z T.T3) (gB vS (gB jL (gB jh (pv 1) (gA Z T.uo)) fX) (gA Z T.uo)))))),?_⟩
  refine⟨_,_,Z,Z,_,_,Z,Z,_,Z,_,_,Z,Z,.inl ⟨by decide,by decide⟩,_,_,Z,Z,_,Z,_,_,Z,Z,_,_,Z,Z,_,_,Z,Z,⟨by decide,by decide⟩,_,_,Z,Z,?_⟩;have e:(5:Int)+((12:Int)+4+(1+12)*(n:Int)+7-1)/7=((yieldMost n:Nat):Int):=by unfold yieldMost;omega
  show Q (V.int ((5:Int)+((12:Int)+4+(1+12)*(n:Int)+7-1)/7)) H;rw[e];exact hq
theorem T7:gQ ["settings","greatest","above_rate","unseen"] ["settings"] (gM (fY 23)):=gY (by decide+kernel)
theorem T8(T:Tx P w K mg AA):gL P w K mg base gU 2 AA.KY AA.KZ ["settings"] (XB AA):=by
 have ua:=zR (base:=base) T;have SC:=T7;refine T.Am.fn.ok SC (fun vs H Q E h=> ?_) (fun gz A outer s H vs Q E hr h=> ?_)
 ·obtain⟨L,b,rfl,_⟩:=h;rfl
 ·obtain⟨L,b,rfl,hS,hd,hR,hH,Ir,hq⟩:=h
  refine⟨_,(fT (gm (i:=1) SC.nd Z (Or.inl Z) (ie ua (hr.mono (by decide)) Z T.nM.mg T.nM.fn.kp T.nM.b .nil gH (fO (gW iM (by rfl) T.len aF (fO (gf (pv 0) Z) fQ)) fQ)))
   (fT (gZ (ip jv (pv 1) (gf (pv 0) Z) (ij _))
     (fW (gD (pv 1)))
     ic)
   (fT (gm (i:=2) SC.nd Z (Or.inl Z) (gW (r9 Z) (by rfl) T.max fC (fO fX (fO (gB jL (gf (pv 0) Z) (gf (pv 0) Z)) fQ))))
   (fT (gm (i:=3) SC.nd Z (Or.inl Z) (gB jh (gf (pv 0) Z) (gf (pv 0) Z)))
   (fW (gD (gB jh (gB jh (pv 1) (pv 2)) (gB A6 (gB jL (pv 1) (gf (pv 0) Z)) (pv 3))))))))),?_⟩
  have fe:=hS.ins;have iD:=hS.iD;have kI:(L.cs.map V.ref).length=b.channels.length:=by rw[ac];exact hS.mw.1
  refine⟨_,Z,L.s,_,L.dx,_,_,Z,fe,T.io,T.nK,Z,L.lc,_,Z,.inl (fS.of hS.mv),b.channels.length,?_,by omega,?_⟩
  ·rw[kI];rfl
  generalize hY:yieldMost b.channels.length=y;have hy:y<=1000:=by rw[<-hY];unfold yieldMost;omega
  refine⟨_,Z,_,Z,L.s,_,L.dx,_,_,Z,fe,T.io,T.qW,Z,_,_,Z,Z,_,Z,?_⟩
  by_cases c:y<=rate b
  ·refine gc (ai (by show(y:Int)<=(rate b:Int);omega)) ?_;refine⟨_,Z,?_⟩;have e:mostOf b=y:=by unfold mostOf;simp only[hY];rw[aw c]
   rw[e] at hq;exact hq
  ·refine gu (ae (by show¬(y:Int)<=(rate b:Int);omega)) ?_;refine⟨_,Z,L.s,_,L.dx,_,_,Z,fe,T.io,T.tX,Z,_,Z,L.s,_,L.dx,_,_,Z,fe,T.io,T.qW,Z,_,_,Z,Z,_,_,Z,?_⟩;refine⟨_,Z,L.s,_,L.dx,_,_,Z,fe,T.io,T.t5,Z,_,Z,L.s,_,L.dx,_,_,Z,fe,T.io,T.vG,Z,_,_,Z,Z,?_⟩;refine⟨_,Z,_,Z,_,_,Z,Z,_,Z,_,Z,L.s,_,L.dx,_,_,Z,fe,T.io,T.qW,Z,_,_,Z,Z,_,Z,_,_,Z,Z,.inl ⟨?_,?_⟩,_,_,Z,Z,?_⟩
   ·show-(2^64:Int)<(y:Int)-(rate b:Int);omega
   ·show(y:Int)-(rate b:Int)<(2^64:Int);omega
   ·show Q (V.int ((y:Int)+(if (high b:Int)-(rate b:Int)>0 then(high b:Int)-(rate b:Int) else 0)+((y:Int)-(rate b:Int))*((ahead b:Int)+(delayOf b:Int)))) H;have e:mostOf b=(high b-rate b)+y+loop b*(y-rate b):=by unfold mostOf;simp only[hY];rw[am c]
    have e2:((y:Int)-(rate b:Int))*((ahead b:Int)+(delayOf b:Int))=((loop b*(y-rate b):Nat):Int):=by
     unfold loop;rw[Int.natCast_mul,Int.mul_comm,Int.natCast_sub (by omega)];rfl
    rw[e2];rw[e] at hq
    have e3:(y:Int)+(if (high b:Int)-(rate b:Int)>0 then(high b:Int)-(rate b:Int) else 0)+((loop b*(y-rate b):Nat):Int)=(((high b-rate b)+y+loop b*(y-rate b):Nat):Int):=by
     generalize loop b*(y-rate b)=z;split<;>omega
    rw[e3];exact hq
end
open VbkdCore (Bytes txt numeral isSmall isDigit Word linesFrom wordsFrom Fault decimal)
open Vbkdaa
abbrev j4:=List Nat×Nat
abbrev mE:=List j4×Nat
structure qd where
 lines:List mE
 words:List j4
 word:List Nat
def je(st:qd)(p:Nat):qd:=if st.word=[] then st else⟨st.lines,st.words++[(st.word,p-st.word.length)],[]⟩
def jM(st:qd)(p b:Nat):qd:=
 if b≠32/\b≠10 then⟨st.lines,st.words,st.word++[b]⟩
 else if b=10 then⟨(je st p).lines++[((je st p).words,p)],[],(je st p).word⟩
 else je st p
def kJ:qd->Nat->List Nat->qd
 |st,_,[]=>st
 |st,p,b::r=>kJ (jM st p b) (p+1) r
theorem Ar:∀(l:List Nat) (st:qd) (p b:Nat),kJ st p (l++[b])=jM (kJ st p l) (p+l.length) b
 |[],st,p,b=>by simp[kJ]
 |x::r,st,p,b=>by
  show kJ (jM st p x) (p+1) (r++[b])=jM (kJ (jM st p x) (p+1) r) (p+(r.length+1)) b;rw[Ar r,show p+1+r.length=p+(r.length+1) by omega]
def iq(w:Word):j4:=(w.2,w.1)
def oP(x:Nat×Bytes):mE:=((wordsFrom x.1 none x.2).map iq,x.1+x.2.length)
def qP(w:List Nat)(p:Nat):Option Word:=if w=[] then none else some (p-w.length,w)
theorem DL:∀(p:Nat) (r:Bytes),∃l t,linesFrom p r=(p,l)::t
 |p,[]=>⟨[],[],Z⟩
 |p,c::r=>by
  unfold linesFrom
  by_cases h:c=10
  ·rw[aw h];exact⟨[],_,Z⟩
  ·rw[am h];obtain⟨l,t,e⟩:=DL (p+1) r;rw[e];exact⟨c::l,t,Z⟩
theorem LM(p:Nat)(w:List Nat)(ws:List j4):(ws++(wordsFrom p (qP w p) []).map iq)=(je ⟨[],ws,w⟩ p).words:=by
 unfold qP je
 by_cases h:w=[]
 ·subst h;simp[wordsFrom]
 ·rw[am h,am h];simp[wordsFrom,iq]
theorem Vv(st:qd)(p:Nat):(je st p).word=[]:=by
 unfold je;split
 ·rename_i h;exact h
 ·rfl
theorem Li(st:qd)(p:Nat):(je st p).lines=st.lines:=by unfold je;split<;>rfl
theorem Gc(ls:List mE)(ws:List j4)(w:List Nat)(p:Nat):je ⟨ls,ws,w⟩ p=⟨ls,(je ⟨[],ws,w⟩ p).words,[]⟩:=by
 unfold je
 by_cases h:w=[]
 ·subst h;rfl
 ·rw[am h,am h]
theorem Su(p:Nat)(o:Option Word)(l:Bytes):wordsFrom p o (32::l)=o.toList++wordsFrom (p+1) none l:=by
 cases o<;>simp[wordsFrom]
theorem SU{c:Nat}(h:c≠32)(p:Nat)(o:Option Word)(l:Bytes):wordsFrom p o (c::l)=wordsFrom (p+1) (some (match o with|none=>(p,[c])|some w=>(w.1,w.2++[c]))) l:=by
 cases o<;>simp[wordsFrom,h]
theorem XC(w:List Nat)(p:Nat)(ws:List j4):ws++(qP w p).toList.map iq=(je ⟨[],ws,w⟩ p).words:=by
 unfold qP je
 by_cases h:w=[]
 ·subst h;simp
 ·rw[am h,am h];simp[iq]
theorem Ad:∀(r:List Nat) (p:Nat) (ls:List mE) (ws:List j4) (w:List Nat) (l:Bytes) (t:List (Nat×Bytes)),w.length<=p->linesFrom p r=(p,l)::t->
 kJ ⟨ls,ws,w⟩ p (r++[10])=⟨ls++((ws++(wordsFrom p (qP w p) l).map iq,p+l.length)::t.map oP),[],[]⟩
 |[],p,ls,ws,w,l,t,hw,e=>by
  simp only[linesFrom,List.cons.injEq,Prod.mk.injEq] at e;obtain⟨⟨_,rfl⟩,rfl⟩:=e;rw[LM];show jM ⟨ls,ws,w⟩ p 10=_;unfold jM;rw[am (by simp),aw Z,Gc];simp
 |b::r,p,ls,ws,w,l,t,hw,e=>by
  show kJ (jM ⟨ls,ws,w⟩ p b) (p+1) (r++[10])=_;obtain⟨l2,t2,e2⟩:=DL (p+1) r;unfold linesFrom at e
  by_cases mX:b=10
  ·subst mX;rw[aw Z,e2] at e;obtain⟨e3,e4⟩:=dw e;have el:l=[]:=(aP e3).2.symm;subst el e4
   have hs:jM ⟨ls,ws,w⟩ p 10=⟨ls++[((je ⟨[],ws,w⟩ p).words,p)],[],[]⟩:=by
    unfold jM;rw[am (by simp),aw Z,Gc]
   rw[hs,Ad r (p+1) _ [] [] l2 t2 (by simp) e2,LM];simp[qP,oP]
  ·rw[am mX,e2] at e;obtain⟨e3,e4⟩:=dw e;have el:l=b::l2:=(aP e3).2.symm;subst el e4
   by_cases Iu:b=32
   ·subst Iu
    have hs:jM ⟨ls,ws,w⟩ p 32=⟨ls,(je ⟨[],ws,w⟩ p).words,[]⟩:=by
     unfold jM;rw[am (by simp),am (by simp),Gc]
    rw[hs,Ad r (p+1) _ _ [] l2 t2 (by simp) e2,Su,ao,<-a7,XC];simp only[aj];rw[show p+1+l2.length=p+(l2.length+1) by omega];rfl
   ·have hs:jM ⟨ls,ws,w⟩ p b=⟨ls,ws,w++[b]⟩:=by
     unfold jM;rw[aw ⟨Iu,mX⟩]
    rw[hs,Ad r (p+1) _ _ (w++[b]) l2 t2 (by rw[ag];simp;omega) e2,SU Iu]
    have ec:qP (w++[b]) (p+1)=some (match qP w p with|none=>(p,[b])|some w=>(w.1,w.2++[b])):=by
     unfold qP;rw[am (by simp)]
     by_cases h:w=[]
     ·subst h;simp
     ·rw[am h,ag,bD,show p+1-(w.length+1)=p-w.length by omega]
    rw[ec];simp only[aj];rw[show p+1+l2.length=p+(l2.length+1) by omega]
theorem XF(t:List Nat):kJ ⟨[],[],[]⟩ 0 (t++[10])=⟨(linesFrom 0 t).map oP,[],[]⟩:=by
 obtain⟨l,r,e⟩:=DL 0 t;rw[Ad t 0 [] [] [] l r (by simp) e,e];simp[qP,oP]
inductive Due where
 |name
 |word (k:Bytes)
 |num (hi:Nat)
abbrev im:=Sum Bytes Nat
def jj(names:List Bytes)(d:Due)(w:j4):Except Fault (List im):=match d with
 |.name=>if isName w.1=false then .error ⟨1,w.2⟩ else if names.contains w.1=true then .error ⟨4,w.2⟩ else .ok [.inl w.1]
 |.word k=>if w.1=k then .ok [] else .error ⟨1,w.2⟩
 |.num hi=>match numeral w.1 with
  |none=>.error ⟨1,w.2⟩
  |some n=>if hi<n then .error ⟨2,w.2⟩ else .ok [.inr n]
def iG(e:Nat)(names:List Bytes):List Due->List j4->List im->Except Fault (List im)
 |[],_,vs=>.ok vs
 |_::_,[],_=>.error ⟨1,e⟩
 |d::ds,w::ws,vs=>match jj names d w with
  |.error f=>.error f
  |.ok v=>iG e names ds ws (vs++v)
def numOf(v:Option im):Nat:=match v with
 |some (.inr n)=>n
 |_=>0
def jn(e:Nat)(names:List Bytes)(Yx:Bool)(ds:List Due)(ws:List j4):Except Fault (List im):=match iG e names ds ws [] with
 |.error f=>.error f
 |.ok vs=>if Yx=true/\numOf vs[vs.length-2]? <numOf vs[vs.length-1]? then .error ⟨6,((ws[ds.length-1]?).map (·.2)).getD 0⟩
  else match ws[ds.length]? with
   |some w=>.error ⟨1,w.2⟩
   |none=>.ok vs
def vP:List Due:=[.name,.word (txt "pedestal"),.num 4095,.word (txt "on"),.num 4095,.word (txt "off"),.num 4095]
def wu:List Due:=[.num 4,.num 4]
def vU:List Due:=[.num 400,.word (txt "rate"),.num 50,.word (txt "high"),.num 400,.word (txt "low"),.num 400]
def Bf:List Due:=[.num 8]
def BC:List Due:=[.num 10]
def NN(b:Book)(vs:List im):Book:={b with keep:=some (numOf vs[0]?,numOf vs[1]?)}
def Mo(b:Book)(vs:List im):Book:={b with buffer:=some (numOf vs[0]?,numOf vs[1]?,numOf vs[2]?,numOf vs[3]?)}
def MY(b:Book)(vs:List im):Book:={b with delay:=some (numOf vs[0]?)}
def Oj(b:Book)(vs:List im):Book:={b with gap:=some (numOf vs[0]?)}
def GV(v:Option im):Bytes:=match v with
 |some (.inl n)=>n
 |_=>[]
def xU(b:Book)(vs:List im):Book:={b with channels:=b.channels++[⟨GV vs[0]?,numOf vs[1]?,numOf vs[2]?,numOf vs[3]?⟩]}
def sL:Part->Due
 |.word k=>.word (txt k)
 |.number hi=>.num hi
 |.noMore hi=>.num hi
def Bg:Part->Bool
 |.noMore _=>false
 |_=>true
def nv:im->Nat
 |.inr n=>n
 |.inl _=>0
theorem Ae(e:Nat)(names:List Bytes)(tail:List Part):∀(ps:List Part) (so:List im) (ws:List Word),ps.all Bg=true->
 partsIn e (ps++tail) (so.map nv) ws=(match iG e names (ps.map sL) (ws.map iq) so with
  |.error f=>.error f
  |.ok vs=>partsIn e tail (vs.map nv) (ws.drop ps.length))
 |[],so,ws,_=>by simp[iG]
 |p::ps,so,[],_=>by
  cases p<;>simp[partsIn,iG]
 |p::ps,so,w::r,h=>by
  simp only[cR,aH] at h;cases p with
  |noMore hi=>exact absurd h.1 (by simp[Bg])
  |word k=>
   simp only[bL,partsIn,aB,sL,iG,jj,iq]
   by_cases q:w.2=txt k
   ·rw[aw q,aw q,Ae e names tail ps so r h.2];simp
   ·rw[am q,am q]
  |number hi=>
   simp only[bL,partsIn,aB,sL,iG,jj,iq];cases numeral w.2 with
   |none=>rfl
   |some n=>
    simp only
    by_cases q:hi<n
    ·rw[aw q,aw q]
    ·rw[am q,am q];have e1:so.map nv++[n]=(so++[(Sum.inr n:im)]).map nv:=by simp[nv]
     rw[e1,Ae e names tail ps (so++[(Sum.inr n:im)]) r h.2];simp
theorem Ex(e:Nat)(names:List Bytes)(es:List Due):∀(ds:List Due) (ws:List j4) (vs:List im),iG e names (ds++es) ws vs=(match iG e names ds ws vs with
 |.error f=>.error f
 |.ok us=>iG e names es (ws.drop ds.length) us)
 |[],ws,vs=>by simp[iG]
 |d::ds,[],vs=>by simp[iG]
 |d::ds,w::ws,vs=>by
  simp only[bL,iG];cases jj names d w with
  |error f=>rfl
  |ok v=>simp only[Ex e names es ds ws (vs++v),aj,List.drop_succ_cons]
def BD:Due->Nat
 |.word _=>0
 |_=>1
theorem AH(e:Nat)(names:List Bytes):∀(ds:List Due) (ws:List j4) (vs us:List im),iG e names ds ws vs=.ok us->us.length=vs.length+(ds.map BD).sum/\ds.length<=ws.length
 |[],ws,vs,us,h=>by
  simp only[iG,Except.ok.injEq] at h;subst h;simp
 |d::ds,[],vs,us,h=>by simp[iG] at h
 |d::ds,w::ws,vs,us,h=>by
  simp only[iG] at h;cases q:jj names d w with
  |error f=>rw[q] at h;cases h
  |ok v=>
   rw[q] at h;have r:=AH e names ds ws _ us h
   have hv:v.length=BD d:=by
    unfold jj at q;cases d with
    |name=>
     simp only at q;split at q
     ·cases q
     ·split at q
      ·cases q
      ·cases q;rfl
    |word k=>
     simp only at q;split at q
     ·cases q;rfl
     ·cases q
    |num hi=>
     simp only at q;split at q
     ·cases q
     ·split at q
      ·cases q
      ·cases q;rfl
   refine⟨?_,by simp;omega⟩;rw[r.1,ag,hv,aB,List.sum_cons];omega
theorem vZ(vs:List im)(i:Nat):numOf vs[i]? =(vs.map nv).getD i 0:=by
 rw[aE,au];cases vs[i]? with
 |none=>rfl
 |some v=>cases v<;>rfl
theorem E5(e:Nat)(names:List Bytes)(ps:List Part)(ws:List Word)(h:ps.all Bg=true){α:Type}(f:List Nat->α):
 (partsIn e ps [] ws).map f=(jn e names false (ps.map sL) (ws.map iq)).map fun vs=>f (vs.map nv):=by
 have q:=Ae e names [] ps [] ws h;rw[bc] at q;unfold jn;rw[show([]:List Nat)=([]:List im).map nv from Z,q];cases r:iG e names (ps.map sL) (ws.map iq) [] with
 |error f=>rfl
 |ok vs=>
  simp only[bo,false_and,cX,ac,au];cases hd:ws.drop ps.length with
  |nil=>
   have:ws[ps.length]? =none:=by rw[<-cK,hd];rfl
   rw[this];rfl
  |cons w r=>
   have:ws[ps.length]? =some w:=by rw[<-cK,hd];rfl
   rw[this];rfl
theorem LN(e:Nat)(names:List Bytes)(ps:List Part)(hi:Nat)(ws:List Word)(h:ps.all Bg=true)(hn:0<((ps.map sL).map BD).sum){α:Type}(f:List Nat->α):
 (partsIn e (ps++[.noMore hi]) [] ws).map f=(jn e names true (ps.map sL++[.num hi]) (ws.map iq)).map fun vs=>f (vs.map nv):=by
 have q:=Ae e names [.noMore hi] ps [] ws h;unfold jn;rw[show([]:List Nat)=([]:List im).map nv from Z,q,Ex];cases r:iG e names (ps.map sL) (ws.map iq) [] with
 |error f=>rfl
 |ok vs=>
  have hl:=AH e names _ _ _ _ r;have hvl:0<vs.length:=by rw[hl.1];simpa using hn
  simp only[ac,ag,aj,aZ,dF];rw[<-cq];cases hd:ws.drop ps.length with
  |nil=>simp[partsIn,iG,Except.map]
  |cons w r2=>
   have hw:ws[ps.length]? =some w:=by rw[<-cK,hd];rfl
   have hw2:ws[ps.length+1]? =r2.head?:=by
    have:ws.drop (ps.length+1)=r2:=by rw[<-bw,hd];rfl
    rw[<-cK,this]
   simp only[partsIn,aB,iG,jj,iq];cases numeral w.2 with
   |none=>rfl
   |some n=>
    simp only
    by_cases c:hi<n
    ·rw[aw c,aw c];rfl
    ·rw[am c,am c];have e1:numOf (vs++[Sum.inr n])[(vs++[Sum.inr n]).length-1]? =n:=by simp[numOf]
     have e2:numOf (vs++[Sum.inr n])[(vs++[Sum.inr n]).length-2]? =(vs.map nv).getLastD 0:=by
      rw[ag,bD,show vs.length+1-2=vs.length-1 by omega,bp (by omega),vZ,List.getLastD_eq_getLast?,cy,aE];simp
     simp only;rw[e1,e2]
     by_cases c2:(vs.map nv).getLastD 0<n
     ·rw[aw c2,aw ⟨True.intro,c2⟩];simp[hw,Except.map,iq]
     ·rw[am c2,am (fun z=>c2 z.2)];rw[au,hw2];cases r2 with
      |nil=>simp[Except.map,nv,partsIn]
      |cons w3 r3=>simp[Except.map,partsIn,iq]
theorem LO(e:Nat)(names:List Bytes)(us:List im):∀(ds:List Due) (ws:List j4) (vs:List im),iG e names ds ws (us++vs)=(iG e names ds ws vs).map (us++·)
 |[],ws,vs=>rfl
 |d::ds,[],vs=>rfl
 |d::ds,w::ws,vs=>by
  simp only[iG];cases jj names d w with
  |error f=>rfl
  |ok v=>simp only[a7,LO e names us ds ws (vs++v)]
theorem Vw(e:Nat)(names:List Bytes)(ds:List Due)(n:j4)(ws:List j4)(hn:isName n.1=true)(hc:names.contains n.1=false)(h2:2<=(ds.map BD).sum)(hd:0<ds.length):
 jn e names true (.name::ds) (n::ws)=(jn e names true ds ws).map ([.inl n.1]++·):=by
 have q:jj names .name n=.ok [.inl n.1]:=by simp only[jj,hn,hc,Bool.true_eq_false,bo,cX]
 unfold jn;simp only[iG,q];rw[show([]++[Sum.inl n.1]:List im)=[Sum.inl n.1]++[] from Z,LO];cases r:iG e names ds ws [] with
 |error f=>rfl
 |ok vs=>
  have hl:=(AH e names _ _ _ _ r).1;simp only[aZ,dF] at hl;simp only[Except.map]
  have e1:([Sum.inl n.1]++vs:List im)[([Sum.inl n.1]++vs:List im).length-1]? =vs[vs.length-1]? :=by
   rw[ag,bD,bv (by simp;omega),bD]
   congr 1;omega
  have e2:([Sum.inl n.1]++vs:List im)[([Sum.inl n.1]++vs:List im).length-2]? =vs[vs.length-2]? :=by
   rw[ag,bD,bv (by simp;omega),bD]
   congr 1;omega
  rw[e1,e2]
  have e3:(n::ws)[(Due.name::ds).length-1]? =ws[ds.length-1]? :=by
   obtain⟨k,hk⟩:∃k,ds.length=k+1:=⟨ds.length-1,by omega⟩;simp[hk]
  rw[e3,show(n::ws)[(Due.name::ds).length]? =ws[ds.length]? by simp];split
  ·rfl
  ·cases ws[ds.length]? <;>rfl
def names(b:Book):List Bytes:=b.channels.map (·.name)
theorem WD(b:Book)(n:Bytes):(b.channels.any fun c=>c.name==n)=(names b).contains n:=by
 unfold names;rw[eG,fi]
 congr 1
 funext c
 exact Bool.beq_comm
inductive Key|jd|keep|buffer|delay|gap
 deriving DecidableEq
def ju:Key->Bytes
 |.jd=>txt "channel"|.keep=>txt "keep"|.buffer=>txt "buffer"|.delay=>txt "delay"|.gap=>txt "gap"
def jZ:Key->List Due
 |.jd=>vP|.keep=>wu|.buffer=>vU|.delay=>Bf|.gap=>BC
def qA:Key->Bool
 |.jd=>true|.buffer=>true|_=>false
def mf(b:Book):Key->Bool
 |.jd=>false|.keep=>b.keep.isSome|.buffer=>b.buffer.isSome|.delay=>b.delay.isSome|.gap=>b.gap.isSome
def lW(b:Book)(vs:List im):Key->Book
 |.jd=>xU b vs|.keep=>NN b vs|.buffer=>Mo b vs|.delay=>MY b vs|.gap=>Oj b vs
def nY(w:Bytes):Option Key:=
 if w=txt "channel" then some .jd else if w=txt "keep" then some .keep else if w=txt "buffer" then some .buffer else if w=txt "delay" then some .delay else if w=txt "gap" then some .gap else none
def qB(b:Book)(e:Nat)(w:j4)(r:List j4):Except Fault Book:=match nY w.1 with
 |none=>.error ⟨1,w.2⟩
 |some k=>if mf b k=true then .error ⟨4,w.2⟩ else if (match k with|.jd=>decide (b.channels.length=8)|_=>false)=true then .error ⟨5,w.2⟩
  else(jn e (names b) (qA k) (jZ k) r).map fun vs=>lW b vs k
theorem T9(b:Book)(e:Nat)(p:Nat)(r:List Word)(h8:b.channels.length<=8):lineIn b e ((p,txt "channel")::r)=(if b.channels.length=8 then .error ⟨5,p⟩ else(jn e (names b) true vP (r.map iq)).map (xU b)):=by
 unfold lineIn;simp only[dA]
 by_cases h:b.channels.length=8
 ·rw[aw (show CHANNELS<=b.channels.length by unfold CHANNELS;omega),aw h]
 ·rw[am (show¬CHANNELS<=b.channels.length by unfold CHANNELS;omega),am h];cases r with
  |nil=>rfl
  |cons n r=>
   simp only[aB]
   by_cases hn:isName n.2=false
   ·rw[aw hn];simp[jn,vP,iG,jj,iq,hn,Except.map]
   ·rw[am hn,WD];have sY:isName n.2=true:=by simpa using hn
    by_cases hc:(names b).contains n.2=true
    ·rw[aw hc];simp[jn,vP,iG,jj,iq,sY,fz.mp hc,Except.map]
    ·rw[am hc];have qG:(names b).contains n.2=false:=by simpa using hc
     have q:=LN e (names b) [.word "pedestal",.number SAMPLE,.word "on",.number SAMPLE,.word "off"] SAMPLE r (by decide) (by decide) (fun l=>({b with channels:=b.channels++[⟨n.2,l.getD 0 0,l.getD 1 0,l.getD 2 0⟩]}:Book));have q2:=Vw e (names b) [.word (txt "pedestal"),.num SAMPLE,.word (txt "on"),.num SAMPLE,.word (txt "off"),.num SAMPLE] (iq n) (r.map iq) sY qG (by decide) (by decide)
     have q3:(match partsIn e ([.word "pedestal",.number SAMPLE,.word "on",.number SAMPLE,.word "off"]++[.noMore SAMPLE]) [] r with|.error f=>Except.error f|.ok l=>Except.ok ({b with channels:=b.channels++[⟨n.2,l.getD 0 0,l.getD 1 0,l.getD 2 0⟩]}:Book))=(partsIn e ([.word "pedestal",.number SAMPLE,.word "on",.number SAMPLE,.word "off"]++[.noMore SAMPLE]) [] r).map (fun l=>({b with channels:=b.channels++[⟨n.2,l.getD 0 0,l.getD 1 0,l.getD 2 0⟩]}:Book)):=by
      cases partsIn e ([.word "pedestal",.number SAMPLE,.word "on",.number SAMPLE,.word "off"]++[.noMore SAMPLE]) [] r<;>rfl
     refine q3.trans ?_;rw[q];show _=(jn e (names b) true (.name::[.word (txt "pedestal"),.num SAMPLE,.word (txt "on"),.num SAMPLE,.word (txt "off"),.num SAMPLE]) (iq n::r.map iq)).map (xU b);rw[q2];show(jn e (names b) true [.word (txt "pedestal"),.num SAMPLE,.word (txt "on"),.num SAMPLE,.word (txt "off"),.num SAMPLE] (r.map iq)).map _=_;cases jn e (names b) true [.word (txt "pedestal"),.num SAMPLE,.word (txt "on"),.num SAMPLE,.word (txt "off"),.num SAMPLE] (r.map iq) with
     |error f=>rfl
     |ok vs=>
      simp only[Except.map,xU,GV,iq,c9,List.getElem?_cons_zero,dC,vZ]
theorem WE(b:Book)(e:Nat)(w:Word)(r:List Word)(h8:b.channels.length<=8):lineIn b e (w::r)=qB b e (iq w) (r.map iq):=by
 obtain⟨p,w⟩:=w;show lineIn b e ((p,w)::r)=qB b e (w,p) (r.map iq);unfold qB nY;simp only
 by_cases h1:w=txt "channel"
 ·subst h1;rw[T9 b e p r h8];simp[mf,qA,jZ,lW]
 ·rw[am h1];unfold lineIn;simp only[am h1]
  by_cases h2:w=txt "keep"
  ·simp only[aw h2]
   by_cases t:b.keep.isSome=true
   ·rw[aw t,aw (show mf b .keep=true from t)]
   ·rw[am t,am (show¬mf b .keep=true from t),am (by simp),E5 e (names b) [.number 4,.number 4] r (by decide)];show(jn e (names b) false wu (r.map iq)).map _=(jn e (names b) false wu (r.map iq)).map _
    congr 1;funext vs;simp[lW,NN,vZ]
  ·simp only[am h2]
   by_cases h3:w=txt "buffer"
   ·simp only[aw h3]
    by_cases t:b.buffer.isSome=true
    ·rw[aw t,aw (show mf b .buffer=true from t)]
    ·rw[am t,am (show¬mf b .buffer=true from t),am (by simp)];have q:=LN e (names b) [.number 400,.word "rate",.number 50,.word "high",.number 400,.word "low"] 400 r (by decide) (by decide) (fun l=>({b with buffer:=some (l.getD 0 0,l.getD 1 0,l.getD 2 0,l.getD 3 0)}:Book));refine q.trans ?_;show(jn e (names b) true vU (r.map iq)).map _=(jn e (names b) true vU (r.map iq)).map _
     congr 1;funext vs;simp[lW,Mo,vZ]
   ·simp only[am h3]
    by_cases h4:w=txt "delay"
    ·simp only[aw h4]
     by_cases t:b.delay.isSome=true
     ·rw[aw t,aw (show mf b .delay=true from t)]
     ·rw[am t,am (show¬mf b .delay=true from t),am (by simp),E5 e (names b) [.number 8] r (by decide)];show(jn e (names b) false Bf (r.map iq)).map _=(jn e (names b) false Bf (r.map iq)).map _
      congr 1;funext vs;simp[lW,MY,vZ]
    ·simp only[am h4]
     by_cases h5:w=txt "gap"
     ·simp only[aw h5]
      by_cases t:b.gap.isSome=true
      ·rw[aw t,aw (show mf b .gap=true from t)]
      ·rw[am t,am (show¬mf b .gap=true from t),am (by simp),E5 e (names b) [.number 10] r (by decide)];show(jn e (names b) false BC (r.map iq)).map _=(jn e (names b) false BC (r.map iq)).map _
       congr 1;funext vs;simp[lW,Oj,vZ]
     ·simp only[am h5]
end FE
namespace L2
open PySem PySem.Spec PyProof.Rows
theorem jW.p5{P:Program}{w:World}{K:PySem.W.Frag}{mg:Str->Option Value}{base:Heap}{C:Addr}{x qual:Str}{st:Stmt}{f:Addr}{fd:FuncData}{N ps:List Str}{k:Nat}{sp:Sp}(F:jW K x qual st f fd)(S:gQ N ps (gM st))(len:∀vs H Q E,sp vs H Q E->vs.length=ps.length)
 (rh:∀(gz:Value) (A:Around) (outer:List Env) (s:Shared) (H:Hp) (vs:List V) (Q:VK) (E:XK),jO k (A.deeper (envOfC qual (gM st) s.heap.objs.size f gz))->sp vs H Q E->
   ∃t,l6 (j6 (jG P w C) P w K mg base N qual (gM st) f gz A outer s H E) (q0 st) t/\t {nx:=fun _ H'=>Q .gT H',rt:=Q} (start N vs) H):gL P w K mg base (jG P w C) (k+1) f fd ps sp:=by
 obtain⟨oc,od,kV,doc,pm,an,gz,ct,oZ,rfl,lk,og⟩:=F.ex;exact Ov lk og S len fun A outer s H vs Q E hr tq=>rh gz A outer s H vs Q E hr tq
theorem GW{x:Str}{g:TG}{tt:TT}{te:TE}{vs:List Nat}{σ:St}{H1:Hp}{D:Addr}{Qd:Hp->Prop}(Pv:Nat->Hp->Prop)(h0:Pv 0 (fN H1 D (.lst [])))
 (hs:∀i c H,x.cps[i]? =some c->Pv i H->g (.str ⟨#[c]⟩) (iB σ vs) H fun gw H2=>iB gw vs=iB σ vs/\tt gw H2 fun b H3=>
   if b=true then te gw H3 fun y H4=>∃acc,H4 D=some (.lst acc)/\acc.length<sizeLine/\Pv (i+1) (fN H4 D (.lst (acc++[y]))) else Pv (i+1) H3) (hd:∀H,Pv x.cps.size H->Qd H):
 ∃W:Nat->Nat->Hp->Prop,(∃m,W 0 m (fN H1 D (.lst [])))/\∀i m H,W i m H->
  ((yS x).stop i H/\Qd H)\/((yS x).go i H/\∃Nx:Hp->Prop,(∀H',Nx H'->∃m',m'<m/\W (i+1) m' H')/\∀y H',(yS x).mH i H y H'->g y (iB σ vs) H' fun gw H2=>iB gw vs=iB σ vs/\tt gw H2 fun b H3=>
    if b=true then te gw H3 fun y H4=>∃acc,H4 D=some (.lst acc)/\acc.length<sizeLine/\Nx (fN H4 D (.lst (acc++[y]))) else Nx H3):=by
 refine⟨fun i m H=>m=x.cps.size-i/\i<=x.cps.size/\Pv i H,⟨x.cps.size,by simp,aN _,h0⟩,?_⟩;rintro i m H ⟨rfl,hi,p⟩
 by_cases ia:i<x.cps.size
 ·refine .inr ⟨ia,Pv (i+1),fun H' p'=>⟨x.cps.size-(i+1),by omega,Z,ia,p'⟩,fun y H' z=> ?_⟩;obtain⟨e,c,hc,z⟩:=z;subst e z;exact hs i c _ hc p
 ·have e:i=x.cps.size:=by omega
  subst e;exact .inl ⟨aA _,hd H p⟩
end L2
namespace FE
open PySem PySem.Spec PyProof.Rows L2
open VbkdCore (txt)
theorem jr(s:String):Str.ofString s=gK (txt s):=by
 rw[Str.ofString_eq_toList];rfl
theorem Gd{a b:List Nat}:gK a=gK b↔a=b:=by
 constructor
 ·intro h;have:=congrArg (fun z:Str=>z.cps.toList) h;simpa [gK] using this
 ·rintro rfl;rfl
def lI(k:List Nat):Bool:=k.all fun x=>(decide (48<=x)&&decide (x<=57))||(decide (97<=x)&&decide (x<=122))
theorem FI{x:Nat}(h:((decide (48<=x)&&decide (x<=57))||(decide (97<=x)&&decide (x<=122)))=true):jl x=x/\x≠63:=by
 simp only[Bool.or_eq_true,aH,aJ] at h;unfold jl;exact⟨aw h,by omega⟩
theorem XG{x:Nat}(h:jl x≠63):jl x=x:=by
 unfold jl at h⊢;split
 ·rfl
 ·rename_i c;rw[am c] at h;exact absurd Z h
theorem NO:∀{k:List Nat},lI k=true->k.map jl=k
 |[],_=>rfl
 |x::k,h=>by
  unfold lI at h;rw[cR,aH] at h;rw[aB,(FI h.1).1,NO h.2]
theorem NP:∀{w k:List Nat},lI k=true->w.map jl=k->w=k
 |[],k,_,h=>by simpa using h
 |x::w,[],_,h=>by simp at h
 |x::w,y::k,hk,h=>by
  unfold lI at hk;rw[cR,aH] at hk;rw[aB] at h;obtain⟨h1,h2⟩:=dw h;have hy:=FI hk.1;have:jl x=x:=XG (by rw[h1];exact hy.2);rw[<-h1,this,NP hk.2 h2]
theorem yj{w k:List Nat}(hk:lI k=true):ii w=gK k↔w=k:=by
 unfold ii;rw[Gd];exact⟨NP hk,fun h=>by rw[h];exact NO hk⟩
theorem Af{w:List Nat}(hk:lI w=true):ii w=gK w:=(yj hk).mpr Z
theorem mz(w:List Nat):(ii w).length=w.length:=by
 show(ii w).cps.size=w.length;simp[ii,gK]
theorem pK(w:List Nat):(gK w).length=w.length:=by
 show(gK w).cps.size=w.length;simp[gK]
theorem FJ(w:List Nat):(ii w).cps.toList=w.map jl:=by simp[ii,gK]
def mI(AA:gv)(H:Hp)(E:XK)(k p:Nat):Prop:=∀(H':Hp) (dx:Addr),fR H H'->H dx=none->H' dx=some (XD dx [("kind",.int k),("place",.int p)])->E (.ref AA.m9) (some dx) H'
theorem mI.go{AA:gv}{H H1:Hp}{E:XK}{k p:Nat}(h:mI AA H E k p)(s:fR H H1):∀dx,H1 dx=none->E (.ref AA.m9) (some dx) (fN H1 dx (XD dx [("kind",.int (k:Int)),("place",.int (p:Int))])):=
 fun dx n=>h _ dx (s.more n) (s.free n) fP
theorem mI.at{AA:gv}{H H1:Hp}{E:XK}{k p:Nat}(h:mI AA H E k p)(s:fR H H1):mI AA H1 E k p:=fun H' dx s1 n g=>h H' dx (s.trans s1) (s.free n) g
def ZO:Sp:=fun vs H Q _=>∃b:Nat,vs=[.int b]/\Q (.str (gK [jl b])) H
def pq(w:j4):HO:=.tup [.str (ii w.1),.int w.2]
def rb(H0 H:Hp)(ts:List Addr)(ls:List mE):Prop:=ts.length=ls.length/\∀(i:Nat) (t:Addr) (l:mE),ts[i]? =some t->ls[i]? =some l->
 ∃(q:Addr) (ws:List Addr),H t=some (.tup [.ref q,.int l.2])/\H q=some (.lst (ws.map V.ref))/\iH H pq ws l.1/\H0 q=none
theorem iH.same{α:Type}{H H':Hp}{g:α->HO}{as:List Addr}{xs:List α}(h:iH H g as xs)(s:fR H H'):iH H' g as xs:=h.keep (ys:=[]) s.own fun _ _ z=>by cases z
theorem rb.keep{H0 H H':Hp}{ts:List Addr}{ls:List mE}{ys:List Addr}(h:rb H0 H ts ls)(o:gF ys H H')(n:∀y∈ys,(H0 y).isSome=true)(m:∀y∈ys,∀xs,H y≠some (.tup xs)):rb H0 H' ts ls:=
 ⟨h.1,fun i t l h1 h2=>by
   obtain⟨q,ws,a,b,c,d⟩:=h.2 i t l h1 h2;exact⟨q,ws,kR o m a,o _ _ b (fun z=>by have:=n q z;rw[d] at this;cases this),⟨c.1,fun j a x h3 h4=>kR o m (c.2 j a x h3 h4)⟩,d⟩⟩
theorem rb.same{H0 H H':Hp}{ts:List Addr}{ls:List mE}(h:rb H0 H ts ls)(s:fR H H'):rb H0 H' ts ls:=h.keep (ys:=[]) s.own (fun _ z=>by cases z) (fun _ z=>by cases z)
def Yy(K:PySem.W.Frag):Sp:=fun vs H Q _=>∃(a:Addr) (t:List Nat),vs=[.ref a]/\H a=some (.lst (t.map nV))/\t.length<=1000/\
 ∀(H':Hp) (p:Addr) (ts:List Addr),fR H H'->H p=none->H' p=some (.lst (ts.map V.ref))->rb H H' ts (kJ ⟨[],[],[]⟩ 0 (t++[10])).lines->Q (.ref p) H'
section
variable {P:Program} {w:World} {K:PySem.W.Frag} {mg:Str->Option Value} {base:Heap} {AA:gv}
theorem Tn:gQ ["self","kind","place"] ["self","kind","place"] (gM (i0 (fY 56) 0)):=gY (by decide+kernel)
theorem AI(T:Tx P w K mg AA):gL P w K mg base gU 1 AA.Ec AA.Ed ["self","kind","place"] (BA AA.m9):=by
 have SC:=Tn;refine T.T2.ok SC (fun vs H Q E h=> ?_) (fun gz A outer s H vs Q E hr h=> ?_)
 ·obtain⟨e,k,p,rfl,_⟩:=h;rfl
 ·obtain⟨e,k,p,rfl,he,hq⟩:=h
  refine⟨_,(fT (aav T.xc (Or.inl Z) (pv 0) (pv 1) Z)
   (fW (aaw T.xc (Or.inr Z) (pv 0) (pv 2) Z))),?_⟩
  refine⟨_,Z,_,Z,e,Z,he,fun dx nd ne=> ?_⟩;refine⟨_,Z,_,Z,e,dx,_,Z,fP,(by rw[fU ne];exact fP),(by show 1<1000;decide),?_⟩;have:=hq dx nd ne
  have e2:fN (fN (fN H dx (XD dx [("kind",.int k)])) e (XO e AA.m9 (some dx) true)) dx (XD dx [("kind",.int k),("place",.int p)])=fN (fN H dx (XD dx [("kind",.int k),("place",.int p)])) e (XO e AA.m9 (some dx) true):=by
   funext b
   by_cases h1:b=dx
   ·rw[h1,fP,fU ne,fP]
   ·rw[fU h1]
    by_cases h2:b=e
    ·rw[h2,fP,fP]
    ·rw[fU h2,fU h2,fU h1,fU h1]
  rw[<-e2] at this;exact this
theorem Vx:gQ ["byte"] ["byte"] (gM (fY 60)):=gY (by decide+kernel)
theorem Vy(T:Tx P w K mg AA):gL P w K mg base gU 1 AA.Me AA.Mf ["byte"] ZO:=by
 have SC:=Vx;refine T.sign_of.fn.ok SC (fun vs H Q E h=> ?_) (fun gz A outer s H vs Q E hr h=> ?_)
 ·obtain⟨b,rfl,_⟩:=h;rfl
 ·obtain⟨b,rfl,hq⟩:=h
  refine⟨_,(fT (gZ (qo jv jv (gW ut (by rfl) T.ord boot_ord (fO ku fQ)) (pv 0) (gW ut (by rfl) T.ord boot_ord (fO ku fQ)))
   (fW (gD (hZ GL (uB Z T.Oi) (gB jL (pv 0) (gW ut (by rfl) T.ord boot_ord (fO ku fQ))) (fun _ _=>rfl))))
   ic)
   (fT (gZ (qo jv jv (gW ut (by rfl) T.ord boot_ord (fO ku fQ)) (pv 0) (gW ut (by rfl) T.ord boot_ord (fO ku fQ)))
     (fW (gD (hZ GL (uB Z T.NL) (gB jL (pv 0) (gW ut (by rfl) T.ord boot_ord (fO ku fQ))) (fun _ _=>rfl))))
     ic)
   (fW (gD (uB Z T.Xh))))),?_⟩
  have o0:(((Str.ofString "0").cps.getD 0 0:Nat):Int)=48:=by rw[jr];rfl
  have o9:(((Str.ofString "9").cps.getD 0 0:Nat):Int)=57:=by rw[jr];rfl
  have oa:(((Str.ofString "a").cps.getD 0 0:Nat):Int)=97:=by rw[jr];rfl
  have oz:(((Str.ofString "z").cps.getD 0 0:Nat):Int)=122:=by rw[jr];rfl
  have Ol:¬(48<=b/\b<=57)->(jS (uR (sH (GK (kY fun i j=>V.bl (decide (i<=j))) (kY fun i j=>V.bl (decide (i<=j))) (oh (fun xs H Q=>∃x,xs=[V.str x]/\x.length=1/\Q (V.int (x.cps.getD 0 0:Nat)) H) (i8 (tC (V.str "a")) jx)) (iP 0) (oh (fun xs H Q=>∃x,xs=[V.str x]/\x.length=1/\Q (V.int (x.cps.getD 0 0:Nat)) H) (i8 (tC (V.str "z")) jx))))
   (wy (kA OY (tC (V.str "abcdefghijklmnopqrstuvwxyz")) (kA (kY fun i j=>V.int (i-j)) (iP 0) (oh (fun xs H Q=>∃x,xs=[V.str x]/\x.length=1/\Q (V.int (x.cps.getD 0 0:Nat)) H) (i8 (tC (V.str "a")) jx))))) uJ) (wy (tC (V.str "?"))) ⟨fun _ H'=>Q .gT H',Q,fun _ _=>True,fun _ _=>True⟩ [some (.int b)] H):=by
   intro hn;refine⟨_,Z,Z,_,Z,_,_,Z,Z,_,Z,?_⟩
   by_cases c3:97<=b
   ·refine gc (ai (by rw[oa];omega)) ?_;refine⟨_,Z,Z,_,_,Z,Z,_,Z,?_⟩
    by_cases c4:b<=122
    ·refine gc (ai (by rw[oz];omega)) ?_;refine⟨_,Z,_,Z,Z,_,_,Z,Z,_,_,b,Z,Z,fZ (by rw[jr,pK];decide),?_,?_⟩
     ·rw[jr];show mo (txt "abcdefghijklmnopqrstuvwxyz") ((b:Int)-(((Str.ofString "a").cps.getD 0 0:Nat):Int))=some b;rw[oa,show txt "abcdefghijklmnopqrstuvwxyz"=List.range' 97 26 from by decide,show(b:Int)-97=((b-97:Nat):Int) by omega];exact AR (by rw[List.getElem?_range' (by omega)];congr 1;omega)
     ·have:jl b=b:=by unfold jl;rw[aw (.inr ⟨c3,c4⟩)]
      rw[this] at hq;exact hq
    ·refine gu (ae (by rw[oz];omega)) ?_;have:jl b=63:=by unfold jl;rw[am (by omega)]
     rw[this] at hq;have e:(V.str (gK [63]):V)=V.str "?":=by rw[show(("?":Str))=gK (txt "?") from jr "?"];rfl
     rw[e] at hq;exact hq
   ·refine gu (ae (by rw[oa];omega)) ?_;refine⟨_,Z,?_⟩;refine gu Z ?_;have:jl b=63:=by unfold jl;rw[am (by omega)]
    rw[this] at hq;have e:(V.str (gK [63]):V)=V.str "?":=by rw[show(("?":Str))=gK (txt "?") from jr "?"];rfl
    rw[e] at hq;exact hq
  refine⟨_,Z,Z,_,Z,_,_,Z,Z,_,Z,?_⟩
  by_cases c1:48<=b
  ·refine gc (ai (by rw[o0];omega)) ?_;refine⟨_,Z,Z,_,_,Z,Z,_,Z,?_⟩
   by_cases c2:b<=57
   ·refine gc (ai (by rw[o9];omega)) ?_;refine⟨_,Z,_,Z,Z,_,_,Z,Z,_,_,b,Z,Z,fZ (by rw[jr,pK];decide),?_,?_⟩
    ·rw[jr];show mo (txt "0123456789") ((b:Int)-(((Str.ofString "0").cps.getD 0 0:Nat):Int))=some b;rw[o0,show txt "0123456789"=List.range' 48 10 from by decide,show(b:Int)-48=((b-48:Nat):Int) by omega];exact AR (by rw[List.getElem?_range' (by omega)];congr 1;omega)
    ·have:jl b=b:=by unfold jl;rw[aw (.inl ⟨c1,c2⟩)]
     rw[this] at hq;exact hq
   ·refine gu (ae (by rw[o9];omega)) ?_;exact Ol (by omega)
  ·refine gu (ae (by rw[o0];omega)) ?_;refine⟨_,Z,?_⟩;refine gu Z ?_;exact Ol (by omega)
end
end FE
namespace L2
open PySem
theorem AJ{K:PySem.W.Frag}{a:Addr}{xs:List V}{g:TG}{tb:TS}{D:oQ}{σ:St}{H:Hp}(Pv:Nat->St->Hp->Prop)(h0:Pv 0 σ H)(hl:∀i σ H,i<=xs.length->Pv i σ H->fS K H a xs)
 (hs:∀i x p σ H,xs[i]? =some x->Pv i σ H->H p=none->g (.ref p) σ (fN H p (.tup [.int (i:Nat),x])) fun gw H2=>tb {D with nx:=Pv (i+1),ct:=Pv (i+1),bk:=D.nx} gw H2) (hd:∀σ H,Pv xs.length σ H->D.nx σ H):
 ∃W:Nat->Nat->St->Hp->Prop,(∃m,W 0 m σ H)/\∀i m σ H,W i m σ H->
  ((tF K a).stop i H/\D.nx σ H)\/((tF K a).go i H/\∃N:St->Hp->Prop,(∀gy H',N gy H'->∃m',m'<m/\W (i+1) m' gy H')/\∀x H',(tF K a).mH i H x H'->g x σ H' fun gw H2=>tb {D with nx:=N,ct:=N,bk:=D.nx} gw H2):=by
 refine⟨fun i m σ H=>m=xs.length-i/\i<=xs.length/\Pv i σ H,⟨xs.length,by simp,aN _,h0⟩,?_⟩;rintro i m σ H ⟨rfl,hi,p⟩;have q:=hl i σ H hi p
 by_cases ia:i<xs.length
 ·refine .inr ⟨⟨xs,xs[i],q,by simp[ia]⟩,Pv (i+1),fun gy H' p'=>⟨xs.length-(i+1),by omega,Z,ia,p'⟩,fun v H' y=> ?_⟩;obtain⟨T,x,rfl,hT,rfl,y⟩:=y;exact hs i x T σ H (y xs q) p hT
 ·have e:i=xs.length:=by omega
  subst e;exact .inl ⟨⟨xs,q,aA _⟩,hd σ H p⟩
theorem Yz{K:PySem.W.Frag}{a:Addr}{xs:List V}{g:TG}{tt:TT}{te:TE}{vs:List Nat}{σ:St}{H1:Hp}{D:Addr}{Qd:Hp->Prop}(Pv:Nat->Hp->Prop)(h0:Pv 0 (fN H1 D (.lst [])))(hl:∀i H,i<=xs.length->Pv i H->fS K H a xs)
 (hs:∀i x p H,xs[i]? =some x->Pv i H->H p=none->g (.ref p) (iB σ vs) (fN H p (.tup [.int (i:Nat),x])) fun gw H2=>iB gw vs=iB σ vs/\tt gw H2 fun b H3=>
   if b=true then te gw H3 fun y H4=>∃acc,H4 D=some (.lst acc)/\acc.length<sizeLine/\Pv (i+1) (fN H4 D (.lst (acc++[y]))) else Pv (i+1) H3) (hd:∀H,Pv xs.length H->Qd H):
 ∃W:Nat->Nat->Hp->Prop,(∃m,W 0 m (fN H1 D (.lst [])))/\∀i m H,W i m H->
  ((tF K a).stop i H/\Qd H)\/((tF K a).go i H/\∃Nx:Hp->Prop,(∀H',Nx H'->∃m',m'<m/\W (i+1) m' H')/\∀x H',(tF K a).mH i H x H'->g x (iB σ vs) H' fun gw H2=>iB gw vs=iB σ vs/\tt gw H2 fun b H3=>
    if b=true then te gw H3 fun y H4=>∃acc,H4 D=some (.lst acc)/\acc.length<sizeLine/\Nx (fN H4 D (.lst (acc++[y]))) else Nx H3):=by
 refine⟨fun i m H=>m=xs.length-i/\i<=xs.length/\Pv i H,⟨xs.length,by simp,aN _,h0⟩,?_⟩;rintro i m H ⟨rfl,hi,p⟩;have q:=hl i H hi p
 by_cases ia:i<xs.length
 ·refine .inr ⟨⟨xs,xs[i],q,by simp[ia]⟩,Pv (i+1),fun H' p'=>⟨xs.length-(i+1),by omega,Z,ia,p'⟩,fun v H' y=> ?_⟩;obtain⟨T,x,rfl,hT,rfl,y⟩:=y;exact hs i x T H (y xs q) p hT
 ·have e:i=xs.length:=by omega
  subst e;exact .inl ⟨⟨xs,q,aA _⟩,hd H p⟩
end L2
namespace FE
open PySem PySem.Spec PyProof.Rows L2
open Vbkdaa (Book Channel ahead behind depth rate high low delayOf gapOf isHigh signal busyNow)
structure gO where
 r:Addr
 dx:Addr
 ls:Addr
 lh:Addr
 lf:Addr
 lb:Addr
 ld:Addr
 lq:Addr
 rows:List Addr
 gE:List Addr
 hJ:List Addr
 gP:List Addr
 S:lm
def gO.mut(L:gO):List Addr:=[L.r,L.ls,L.lh,L.lf,L.lb,L.ld,L.lq]
def pw(L:gO)(gone most:Nat):List (Str×V):=
 [("settings",.ref L.S.s),("samples",.ref L.ls),("highs",.ref L.lh),("fates",.ref L.lf),("busies",.ref L.lb),("frames",.ref L.ld),("sent",.ref L.lq),("gone",.int gone),("most",.int most)]
def Iv(x:(Nat×Bool×List Nat)×Addr):HO:=.tup [bV x.1.2.1,.ref x.2]
structure ik(AA:gv)(H:Hp)(L:gO)(b:Book)(m:RS):Prop where
 ins:H L.r=some (.ins AA.hU L.dx (pw L m.gone m.most))
 jR:H L.ls=some (.lst (L.rows.map V.ref))
 rows:iH H (fun s:List Nat=>.lst (s.map nV)) L.rows m.samples
 i5:H L.lh=some (.lst (L.gE.map V.ref))
 gE:iH H (fun h:List Bool=>.lst (h.map V.bl)) L.gE m.highs
 iX:H L.lf=some (.lst (m.fates.map nV))
 jg:H L.lb=some (.lst (m.gC.map bV))
 jH:H L.ld=some (.dK (List.zipWith (fun(x:Nat×Bool×List Nat) (a:Addr)=>(Sum.inl (x.1:Int),V.ref a)) m.frames L.hJ))
 hJ:iH H Iv L.hJ (m.frames.zip L.gP)
 gP:iH H (fun x:Nat×Bool×List Nat=>.lst (x.2.2.map nV)) L.gP m.frames
 kN:H L.lq=some (.lst (m.iC.map nV))
 set:lY AA H L.S b
 nd:L.mut.Nodup
 sep:∀a∈L.rows++L.gE++L.gP++L.S.fp,a∉L.mut
 kn:m.gone<=m.iC.length
structure lQ(b:Book)(m:RS):Prop where
 s:m.samples.length<=400
 h:m.highs.length<=400
 f:m.fates.length<=400
 bl:m.gC.length<=400
 q:m.iC.length<=100*m.fates.length
 fr:m.frames.length<=400
 hr:∀x∈m.highs,x.length=b.channels.length
 sr:∀x∈m.samples,x.length=b.channels.length
 sn:∀x∈m.samples,∀y∈x,y<4096
 ah:ahead b<=4
 be:behind b<=4
 dp:depth b<=400
 rt:rate b<=50
 hi:high b<=400
 lo:low b<=400
 de:delayOf b<=8
 ga:gapOf b<=10
theorem ik.rl{AA:gv}{H:Hp}{L:gO}{b:Book}{m:RS}(h:ik AA H L b m):∀y∈L.mut,∀xs,H y≠some (.tup xs):=by
 intro y hy xs z;simp only[gO.mut,az,bh,cN] at hy;rcases hy with rfl|rfl|rfl|rfl|rfl|rfl|rfl
 ·rw[h.ins] at z;cases z
 ·rw[h.jR] at z;cases z
 ·rw[h.i5] at z;cases z
 ·rw[h.iX] at z;cases z
 ·rw[h.jg] at z;cases z
 ·rw[h.jH] at z;cases z
 ·rw[h.kN] at z;cases z
theorem ik.lM{AA:gv}{H:Hp}{L:gO}{b:Book}{m:RS}(h:ik AA H L b m):∀y∈L.mut,(H y).isSome=true:=by
 intro y hy;simp only[gO.mut,az,bh,cN] at hy;rcases hy with rfl|rfl|rfl|rfl|rfl|rfl|rfl
 ·rw[h.ins];rfl
 ·rw[h.jR];rfl
 ·rw[h.i5];rfl
 ·rw[h.iX];rfl
 ·rw[h.jg];rfl
 ·rw[h.jH];rfl
 ·rw[h.kN];rfl
theorem ik.keep{AA:gv}{H H':Hp}{L:gO}{b:Book}{m:RS}{ys:List Addr}(h:ik AA H L b m)(o:gF ys H H')(n1:∀a∈L.mut,a∉ys)(n2:∀a∈L.rows++L.gE++L.gP++L.S.fp,a∉ys)(n3:∀y∈ys,∀xs,H y≠some (.tup xs)):ik AA H' L b m where
 ins:=o _ _ h.ins (n1 _ (by simp[gO.mut]))
 jR:=o _ _ h.jR (n1 _ (by simp[gO.mut]))
 rows:=h.rows.keep o fun a ha=>n2 a (by simp[ha])
 i5:=o _ _ h.i5 (n1 _ (by simp[gO.mut]))
 gE:=h.gE.keep o fun a ha=>n2 a (by simp[ha])
 iX:=o _ _ h.iX (n1 _ (by simp[gO.mut]))
 jg:=o _ _ h.jg (n1 _ (by simp[gO.mut]))
 jH:=o _ _ h.jH (n1 _ (by simp[gO.mut]))
 hJ:=⟨h.hJ.1,fun i a x h1 h2=>kR o n3 (h.hJ.2 i a x h1 h2)⟩
 gP:=h.gP.keep o fun a ha=>n2 a (by simp[ha])
 kN:=o _ _ h.kN (n1 _ (by simp[gO.mut]))
 set:=h.set.keep o (fun a ha=>n2 a (by simp[ha])) n3
 nd:=h.nd
 sep:=h.sep
 kn:=h.kn
theorem ik.same{AA:gv}{H H':Hp}{L:gO}{b:Book}{m:RS}(h:ik AA H L b m)(s:fR H H'):ik AA H' L b m:=h.keep (ys:=[]) s.own (fun _ _ z=>by cases z) (fun _ _ z=>by cases z) (fun _ z=>by cases z)
def YA(AA:gv):Sp:=fun vs H Q _=>∃(L:gO) (b:Book) (m:RS),vs=[.ref L.r]/\ik AA H L b m/\lQ b m/\Q (.int m.gC.length) H
def ZP(AA:gv):Sp:=fun vs H Q _=>∃(L:gO) (b:Book) (m:RS),vs=[.ref L.r]/\ik AA H L b m/\lQ b m/\Q (.int (ig m)) H
def YB(AA:gv):Sp:=fun vs H Q _=>∃(L:gO) (b:Book) (m:RS),vs=[.ref L.r]/\ik AA H L b m/\lQ b m/\Q (.int (lj b m.highs.length)) H
def MZ(K:PySem.W.Frag):Sp:=fun vs H Q _=>∃(a:Addr) (bs:List Bool) (c:Int),vs=[.ref a,.int c]/\fS K H a (bs.map bV)/\c<bs.length/\Q (bV (decide (0<=c)&&bs.getD c.toNat false)) H
def NQ(AA:gv):Sp:=fun vs H Q _=>∃(L:lm) (b:Book) (n:Nat) (nH:Bool),vs=[.ref L.s,.int n,bV nH]/\lY AA H L b/\Q (bV (busyNow b nH n)) H
def ZQ(AA:gv):Sp:=fun vs H Q _=>∃(L:gO) (b:Book) (m:RS) (c:Int),vs=[.ref L.r,.int c]/\ik AA H L b m/\c-(delayOf b:Int)-1<m.gC.length/\Q (.bl (decide (0<=c-(delayOf b:Int)-1)&&m.gC.getD (c-(delayOf b:Int)-1).toNat false)) H
def ZR(AA:gv):Sp:=fun vs H Q _=>∃(L:gO) (b:Book) (m:RS) (asked:Bool),vs=[.ref L.r,bV asked]/\ik AA H L b m/\lQ b m/\m.fates.length=m.gC.length/\∀H',fR H H'->Q (nV (kT b m.fates m.gC asked)) H'
section
variable {P:Program} {w:World} {K:PySem.W.Frag} {mg:Str->Option Value} {base:Heap} {AA:gv}
theorem Rv:gQ ["self"] ["self"] (gM (i0 (fY 35) 3)):=gY (by decide+kernel)
theorem xG(T:Tx P w K mg AA):gL P w K mg base gU 1 AA.C4 AA.C5 ["self"] (YA AA):=by
 have SC:=Rv;refine T.RF.ok SC (fun vs H Q E h=> ?_) (fun gz A outer s H vs Q E hr h=> ?_)
 ·obtain⟨L,b,m,rfl,_⟩:=h;rfl
 ·obtain⟨L,b,m,rfl,hR,hF,hq⟩:=h;refine⟨_,(fW (gD (gW iM (by rfl) T.len aF (fO (gf (pv 0) Z) fQ)))),?_⟩;refine⟨_,Z,L.r,_,L.dx,_,_,Z,hR.ins,T.gI,T.r0,Z,L.lb,_,Z,.inl (fS.of hR.jg),?_⟩;rw[ac];exact hq
theorem RT:gQ ["self"] ["self"] (gM (i0 (fY 35) 4)):=gY (by decide+kernel)
theorem xI(T:Tx P w K mg AA):gL P w K mg base gU 1 AA.Dd AA.De ["self"] (ZP AA):=by
 have SC:=RT;refine T.R1.ok SC (fun vs H Q E h=> ?_) (fun gz A outer s H vs Q E hr h=> ?_)
 ·obtain⟨L,b,m,rfl,_⟩:=h;rfl
 ·obtain⟨L,b,m,rfl,hR,hF,hq⟩:=h;refine⟨_,(fW (gD (gB jL (gW iM (by rfl) T.len aF (fO (gf (pv 0) Z) fQ)) (gf (pv 0) Z)))),?_⟩;refine⟨_,Z,L.r,_,L.dx,_,_,Z,hR.ins,T.gI,T.zO,Z,L.lq,_,Z,.inl (fS.of hR.kN),_,Z,L.r,_,L.dx,_,_,Z,hR.ins,T.gI,T.xO,Z,_,_,Z,Z,?_⟩;have e:((m.iC.map nV).length:Int)-(m.gone:Int)=(ig m:Int):=by rw[ac];unfold ig;have:=hR.kn;omega
  show Q (V.int (((m.iC.map nV).length:Int)-(m.gone:Int))) H;rw[e];exact hq
theorem Sc:gQ ["self"] ["self"] (gM (i0 (fY 35) 5)):=gY (by decide+kernel)
theorem Do(T:Tx P w K mg AA):gL P w K mg base gU 1 AA.Dr AA.Ds ["self"] (YB AA):=by
 have SC:=Sc;refine T.Sn.ok SC (fun vs H Q E h=> ?_) (fun gz A outer s H vs Q E hr h=> ?_)
 ·obtain⟨L,b,m,rfl,_⟩:=h;rfl
 ·obtain⟨L,b,m,rfl,hR,hF,hq⟩:=h;refine⟨_,(fW (gD (gW (r9 Z) (by rfl) T.max fC (fO fX (fO (gB jL (gW iM (by rfl) T.len aF (fO (gf (pv 0) Z) fQ)) (gf (gf (pv 0) Z) Z)) fQ))))),?_⟩;refine⟨_,Z,L.r,_,L.dx,_,_,Z,hR.ins,T.gI,T.t7,Z,L.lh,_,Z,.inl (fS.of hR.i5),_,Z,L.r,_,L.dx,_,_,Z,hR.ins,T.gI,T.lz,Z,L.S.s,_,L.S.dx,_,_,Z,hR.set.ins,T.io,T.t5,Z,_,_,Z,Z,_,_,Z,?_⟩;have el:(L.gE.map V.ref).length=m.highs.length:=by rw[ac];exact hR.gE.1
  show Q (V.int (if ((L.gE.map V.ref).length:Int)-(ahead b:Int)>0 then((L.gE.map V.ref).length:Int)-(ahead b:Int) else 0)) H;have e:(if ((L.gE.map V.ref).length:Int)-(ahead b:Int)>0 then((L.gE.map V.ref).length:Int)-(ahead b:Int) else 0)=((lj b m.highs.length:Nat):Int):=by rw[el];unfold lj;split<;>omega
  rw[e];exact hq
theorem Sd:gQ ["settings","waiting","busy_before"] ["settings","waiting","busy_before"] (gM (fY 20)):=gY (by decide+kernel)
theorem JP(T:Tx P w K mg AA):gL P w K mg base gU 1 AA.JR AA.JS ["settings","waiting","busy_before"] (NQ AA):=by
 have SC:=Sd;refine T.t8.fn.ok SC (fun vs H Q E h=> ?_) (fun gz A outer s H vs Q E hr h=> ?_)
 ·obtain⟨L,b,n,nH,rfl,_⟩:=h;rfl
 ·obtain⟨L,b,n,nH,rfl,hS,hq⟩:=h
  refine⟨_,(fT (gZ (ip mR (pv 1) (gf (pv 0) Z) (ij _))
   (fW (gD fX))
   ic)
   (fT (gZ (ip jv (pv 1) (gf (pv 0) Z) (ij _))
     (fW (gD fX))
     ic)
   (fW (gD (pv 2))))),?_⟩
  refine⟨_,Z,_,Z,L.s,_,L.dx,_,_,Z,hS.ins,T.io,T.tX,Z,_,_,Z,Z,_,Z,?_⟩;unfold busyNow at hq
  by_cases c1:high b<n
  ·refine gc (ai (by show(high b:Int)<(n:Int);omega)) ?_;rw[aw c1] at hq;exact hq
  ·refine gu (ae (by show¬(high b:Int)<(n:Int);omega)) ?_;rw[am c1] at hq;refine⟨_,Z,_,Z,L.s,_,L.dx,_,_,Z,hS.ins,T.io,T.Dc,Z,_,_,Z,Z,_,Z,?_⟩
   by_cases c2:n<=low b
   ·refine gc (ai (by show(n:Int)<=(low b:Int);omega)) ?_;rw[aw c2] at hq;exact hq
   ·refine gu (ae (by show¬(n:Int)<=(low b:Int);omega)) ?_;rw[am c2] at hq;exact⟨_,Z,hq⟩
theorem SV:gQ ["busies","crossing"] ["busies","crossing"] (gM (fY 21)):=gY (by decide+kernel)
theorem DM(T:Tx P w K mg AA):gL P w K mg base gU 1 AA.J9 AA.Ka ["busies","crossing"] (MZ K):=by
 have SC:=SV;refine T.nL.fn.ok SC (fun vs H Q E h=> ?_) (fun gz A outer s H vs Q E hr h=> ?_)
 ·obtain⟨a,bs,c,rfl,_⟩:=h;rfl
 ·obtain⟨a,bs,c,rfl,hA,hc,hq⟩:=h;refine⟨_,(fW (gD (yc (ip wg (pv 1) fX (ij _)) (hZ jc (pv 0) (pv 1) (fun _ _=>rfl)) fX))),?_⟩;refine⟨_,Z,_,_,Z,Z,_,Z,?_⟩
  by_cases h0:0<=c
  ·refine gc (ai h0) ?_;have ia:c.toNat<bs.length:=by omega
   have ei:mo (bs.map bV) c=some (bV bs[c.toNat]):=iu (j:=c.toNat) (by omega) (by rw[au,ak ia];rfl);refine⟨_,Z,_,Z,a,_,_,_,Z,Z,hA,ei,?_⟩;rw[ai h0,dQ,aE,ak ia] at hq;exact hq
  ·refine gu (ae h0) ?_;rw[ae h0,cV] at hq;exact hq
theorem Rw:gQ ["self","crossing"] ["self","crossing"] (gM (i0 (fY 35) 6)):=gY (by decide+kernel)
theorem Jz(T:Tx P w K mg AA):gL P w K mg base gU 2 AA.C6 AA.C7 ["self","crossing"] (ZQ AA):=by
 have vH:=DM (base:=base) T;have SC:=Rw;refine T.RG.ok SC (fun vs H Q E h=> ?_) (fun gz A outer s H vs Q E hr h=> ?_)
 ·obtain⟨L,b,m,c,rfl,_⟩:=h;rfl
 ·obtain⟨L,b,m,c,rfl,hR,hc,hq⟩:=h;refine⟨_,(fW (gD (su nk (ie vH (hr.mono (by decide)) Z T.nL.mg T.nL.fn.kp T.nL.b .nil gH (fO (gf (pv 0) Z) (fO (gB jL (gB jL (pv 1) (gf (gf (pv 0) Z) Z)) fX) fQ))) fX (ij _)))),?_⟩;refine⟨_,Z,L.r,_,L.dx,_,_,Z,hR.ins,T.gI,T.r0,Z,_,Z,_,Z,L.r,_,L.dx,_,_,Z,hR.ins,T.gI,T.lz,Z,L.S.s,_,L.S.dx,_,_,Z,hR.set.ins,T.io,T.vG,Z,_,_,Z,Z,_,_,Z,Z,L.lb,m.gC,_,Z,fS.of hR.jg,hc,Z,?_⟩;generalize (decide (0<=c-(delayOf b:Int)-1)&&m.gC.getD (c-(delayOf b:Int)-1).toNat false)=z at hq;cases z<;>exact hq
end
theorem uG{x y:Nat}:nV x=nV y↔x=y:=by
 unfold nV;constructor
 ·intro h;injection h with h
  omega
 ·rintro rfl;rfl
theorem XH(l:List Nat)(n:Nat):pc (V.int n) (l.map nV)=l.contains n:=by
 unfold pc;rw[fi,eG]
 congr 1
 funext y
 show(decide ((y:Int)=(n:Int)):Bool)=_
 by_cases h:y=n
 ·subst h;simp
 ·rw[ae (by omega)]
  symm
  simpa using fun z=>h z.symm
theorem WF(l:List Nat):(l.map nV).all qE=true:=by
 rw[dq,a9];intro x _;rfl
theorem kg{K:PySem.W.Frag}{H:Hp}{a:Addr}{xs:List V}(h:H a=some (.tup xs)):iO K H a xs:=iO.of h
theorem wa{xs:List V}{k:Nat}{v:V}(hk:0<k)(hl:k<=xs.length)(h:xs[xs.length-k]? =some v):mo xs (-(k:Int))=some v:=by
 unfold mo qI;rw[am (by omega),aw (by omega)];show xs[(-(k:Int)+(xs.length:Int)).toNat]? =some v;rw[show(-(k:Int)+(xs.length:Int)).toNat=xs.length-k by omega];exact h
def YC(AA:gv)(K:PySem.W.Frag):Sp:=fun vs H Q _=>∃(L:gO) (b:Book) (m:RS) (a:Addr) (s:List Nat),vs=[.ref L.r,.ref a]/\ik AA H L b m/\lQ b m/\fS K H a (s.map nV)/\s.length=b.channels.length/\
 ∀H' p,fR H H'->H p=none->H' p=some (.lst ((iW b m.highs s).map V.bl))->Q (.ref p) H'
section
variable {P:Program} {w:World} {K:PySem.W.Frag} {mg:Str->Option Value} {base:Heap} {AA:gv}
theorem RU:gQ ["self","asked","now"] ["self","asked"] (gM (i0 (fY 35) 8)):=gY (by decide+kernel)
theorem RV(T:Tx P w K mg AA):gL P w K mg base gU 3 AA.Df AA.Dg ["self","asked"] (ZR AA):=by
 have C8:=Jz (base:=base) T;have SC:=RU;refine T.R4.ok SC (fun vs H Q E h=> ?_) (fun gz A outer s H vs Q E hr h=> ?_)
 ·obtain⟨L,b,m,asked,rfl,_⟩:=h;rfl
 ·obtain⟨L,b,m,asked,rfl,hR,hF,hfb,hq⟩:=h
  refine⟨_,(fT (gm (i:=2) SC.nd Z (Or.inl Z) (gW iM (by rfl) T.len aF (fO (gf (pv 0) Z) fQ)))
   (fT (gZ (ip nk (pv 1) fX (ij _))
     (fW (gD (gA Z T.FG)))
     ic)
   (fT (gZ (ip xZ (gA Z T.sK) (oE oH (gf (pv 0) Z) (kq (gW (r9 Z) (by rfl) T.max fC (fO fX (fO (gB jL (pv 2) (gf (gf (pv 0) Z) Z)) fQ)))) Gs) (by with_unfolding_all Z))
     (fW (gD (gA Z T.Le)))
     ic)
   (fT (gZ (lU (oG (pv 0) T.gI T.JL C8 (hr.mono (by decide)) T.JF .nil gH (fO (pv 2) fQ)))
     (fW (gD (gA Z T.KI)))
     ic)
   (fW (gD (gA Z T.sK))))))),?_⟩
  refine⟨_,Z,L.r,_,L.dx,_,_,Z,hR.ins,T.gI,T.qk,Z,L.lf,_,Z,.inl (fS.of hR.iX),?_⟩;rw[ac];refine⟨_,Z,Z,_,Z,?_⟩;unfold kT at hq;cases asked with
  |false=>
   refine gc Z ?_;exact hq H fR.kH
  |true=>
   refine gu Z ?_;simp only[Bool.true_eq_false,cX] at hq;refine⟨_,Z,L.r,_,L.dx,_,_,Z,hR.ins,T.gI,T.qk,Z,_,Z,_,Z,L.r,_,L.dx,_,_,Z,hR.ins,T.gI,T.lz,Z,L.S.s,_,L.S.dx,_,_,Z,hR.set.ins,T.io,T.DV,Z,_,_,Z,Z,_,_,Z,_,Z,L.lf,_,Z,fS.of hR.iX,fun q1 n1=> ?_⟩;have e1:(if (m.fates.length:Int)-(gapOf b:Int)>0 then(m.fates.length:Int)-(gapOf b:Int) else 0)=((m.fates.length-gapOf b:Nat):Int):=by split<;>omega
   have e2:j0 (m.fates.map nV) (some (if (m.fates.length:Int)-(gapOf b:Int)>0 then(m.fates.length:Int)-(gapOf b:Int) else 0)) none=(m.fates.drop (m.fates.length-gapOf b)).map nV:=by rw[e1,Xg,cq]
   rw[e2];have s1:fR H (fN H q1 (.lst ((m.fates.drop (m.fates.length-gapOf b)).map nV))):=fR.new n1;refine⟨q1,_,Z,.inl (fS.of fP),Z,WF _,_,Z,?_⟩;have e3:pc (V.int 1) ((m.fates.drop (m.fates.length-gapOf b)).map nV)=(m.fates.drop (m.fates.length-gapOf b)).contains 1:=XH _ 1;show(if pc (V.int 1) ((m.fates.drop (m.fates.length-gapOf b)).map nV)=true then _ else _);rw[e3]
   by_cases c1:(m.fates.drop (m.fates.length-gapOf b)).contains 1=true
   ·refine gc c1 ?_;rw[aw c1] at hq;exact hq _ s1
   ·refine gu (by simpa using c1) ?_;rw[am c1] at hq;have iK:=hR.same s1;refine⟨_,Z,L.r,L.dx,_,Z,iK.ins,Z,_,Z,L,b,m,_,Z,iK,by omega,_,Z,?_⟩
    have e4:(decide (0<=(m.fates.length:Int)-(delayOf b:Int)-1)&&m.gC.getD ((m.fates.length:Int)-(delayOf b:Int)-1).toNat false)=vK m.gC m.gC.length (delayOf b+1):=by
     unfold vK;rw[hfb]
     by_cases c:delayOf b+1<=m.gC.length
     ·rw[aw c,ai (by omega),dQ,show((m.gC.length:Int)-(delayOf b:Int)-1).toNat=m.gC.length-(delayOf b+1) by omega]
     ·rw[am c,ae (by omega),cV]
    rw[e4];cases c2:vK m.gC m.gC.length (delayOf b+1) with
    |true=>
     rw[c2] at hq;exact gc Z (hq _ s1)
    |false=>
     rw[c2] at hq;exact gu Z (hq _ s1)
theorem RI:gQ ["self","samples","found","place","channel","signal","was_high"] ["self","samples"] (gM (i0 (fY 35) 7)):=gY (by decide+kernel)
theorem RJ(T:Tx P w K mg AA):gL P w K mg base gU 1 AA.Da AA.Db ["self","samples"] (YC AA K):=by
 have SC:=RI;refine T.RP.ok SC (fun vs H Q E h=> ?_) (fun gz A outer s H vs Q E hr h=> ?_)
 ·obtain⟨L,b,m,a,sl,rfl,_⟩:=h;rfl
 ·obtain⟨L,b,m,a,sl,rfl,hR,hF,hA,px,hq⟩:=h
  refine⟨_,(fT (gm (i:=2) SC.nd Z (Or.inl Z) (gJ fQ))
   (fT (lG bg Z (yh Z T.enumerate (fO (gf (gf (pv 0) Z) Z) fQ)) (rf Z (lT (iJ (i:=3) SC.nd Z (Or.inl Z)) (lT (iJ (i:=4) SC.nd Z (Or.inl Z)) qZ)))
     (fT (gm (i:=5) SC.nd Z (Or.inl Z) (gW (r9 Z) (by rfl) T.max fC (fO fX (fO (gB jL (hZ jc (pv 1) (pv 3) (fun _ _=>rfl)) (hZ jI (pv 4) fX (fun _ _=>rfl))) fQ))))
     (fT (gm (i:=6) SC.nd Z (Or.inl Z) (GI (su mR (gW iM (by rfl) T.len aF (fO (gf (pv 0) Z) fQ)) fX (ij _)) (A4 (hZ jc (hZ jc (gf (pv 0) Z) (qC qy fX) (fun _ _=>rfl)) (pv 3) (fun _ _=>rfl)))))
     (fW (iS (iU ax aI aL kF (pv 2) (fO (Z9 (su wg (pv 5) (hZ jI (pv 4) fX (fun _ _=>rfl)) (ij _)) (A4 (GI (pv 6) (A4 (su wg (pv 5) (hZ jI (pv 4) fX (fun _ _=>rfl)) (ij _)))))) fQ)))))))
   (fW (gD (pv 2))))),?_⟩
  refine⟨aN _,fun q1 n1=> ?_⟩;have s1:fR H (fN H q1 (.lst [])):=fR.new n1;have iK:=hR.same s1;have iD:=hR.set.iD
  refine⟨_,Z,L.r,_,L.dx,_,_,Z,iK.ins,T.gI,T.lz,Z,L.S.s,_,L.S.dx,_,_,Z,iK.set.ins,T.io,T.nK,Z,L.S.lc,_,Z,fS.of iK.set.mv,
   AJ (K:=K) (a:=L.S.lc) (xs:=L.S.cs.map V.ref) (fun i σ H'=>∃v3 v4 v5 v6,σ=[some (.ref L.r),some (.ref a),some (.ref q1),v3,v4,v5,v6]/\fR H H'/\H' q1=some (.lst (((iW b m.highs sl).take i).map V.bl)))
    ⟨none,none,none,none,Z,s1,fP⟩ (fun i σ H' _ ⟨_,_,_,_,_,s2,_⟩=>fS.of (s2 _ _ hR.set.mv)) ?_ ?_⟩
  ·rintro i x p σ H2 hx ⟨v3,v4,v5,v6,rfl,s2,g2⟩ np;rw[au] at hx;cases hc:L.S.cs[i]? with
   |none=>rw[hc] at hx;cases hx
   |some c=>
    rw[hc] at hx;have ex:x=V.ref c:=(af hx).symm;subst ex;have s3:fR H (fN H2 p (.tup [.int (i:Nat),.ref c])):=s2.more np;have kC:=hR.same s3;have nq:q1≠p:=gh g2 np;have g3:(fN H2 p (.tup [.int (i:Nat),.ref c])) q1=some (.lst (((iW b m.highs sl).take i).map V.bl)):=by rw[fU nq];exact g2
    obtain⟨ch,ki,Cm⟩:=kC.set.mw.get hc;have hi:i<b.channels.length:=(ap.mp ki).1;have Cd:i<sl.length:=by omega
    generalize yO:fN H2 p (.tup [.int (i:Nat),.ref c])=H3 at s3 kC g3 Cm;have oy:H3 p=some (.tup [.int (i:Nat),.ref c]):=by rw[<-yO];exact fP
    refine⟨p,_,Z,kg oy,Z,_,_,Z,_,_,Z,Z,?_⟩;have ixs:mo (sl.map nV) (i:Int)=some (nV sl[i]):=iu (j:=i) Z (by rw[au,ak Cd];rfl);refine⟨_,Z,_,Z,a,_,_,_,Z,Z,s3.seq hA,ixs,_,Z,c,_,_,_,Z,Z,kg Cm,iu (j:=1) Z Z,_,_,Z,Z,_,_,Z,?_⟩;have P4:(if (sl[i]:Int)-(ch.pedestal:Int)>0 then(sl[i]:Int)-(ch.pedestal:Int) else 0)=((signal ch sl[i]:Nat):Int):=by unfold signal;split<;>omega
    have hHi:isHigh ch ((m.highs.getLast?.getD []).getD i false) sl[i]=(iW b m.highs sl)[i]'(by simpa [iW] using hi):=by
     unfold iW;rw[List.getElem_map,List.getElem_zipIdx]
     have e1:b.channels[i]=ch:=by
      have:=ak hi;rw[this] at ki;exact af ki
     simp only[dF];rw[e1,aE (l:=sl),ak Cd];rfl
    have aaC:(iW b m.highs sl).take (i+1)=(iW b m.highs sl).take i++[isHigh ch ((m.highs.getLast?.getD []).getD i false) sl[i]]:=by
     rw[hHi,bC,ak (by simpa [iW] using hi)];rfl
    have hz:(((iW b m.highs sl).take i).map V.bl).length<sizeLine:=by rw[ac,aD];exact iV (by simp[iW];omega)
    have fin:∀(nH:Bool),nH=(m.highs.getLast?.getD []).getD i false->∀v5:V,v5=V.int (signal ch sl[i]:Int)->
     (we (u9 K "list" uz (iP 2) (i8 (OR (kA (kY fun i j=>V.bl (decide (j<=i))) (iP 5) (kA (wA K) (iP 4) (tC (V.int 2)))) (Os (iP 6) (kA (kY fun i j=>V.bl (decide (j<=i))) (iP 5) (kA (wA K) (iP 4) (tC (V.int 3)))))) jx)))
       ⟨fun σ H'=>∃v3 v4 v5 v6,σ=[some (.ref L.r),some (.ref a),some (.ref q1),v3,v4,v5,v6]/\fR H H'/\H' q1=some (.lst (((iW b m.highs sl).take (i+1)).map V.bl)),fun _ _=>True,fun _ _=>True,fun _ _=>True⟩
       [some (.ref L.r),some (.ref a),some (.ref q1),some (.int i),some (.ref c),some v5,some (.bl nH)] H3:=by
     rintro nH hw v5 rfl;refine⟨_,Z,.inl ⟨Z,_,fS.of g3⟩,_,Z,_,Z,c,_,_,_,Z,Z,kg Cm,iu (j:=2) Z Z,_,_,Z,Z,_,Z,?_⟩
     have Hv:∀y:Bool,y=isHigh ch nH sl[i]->(uz (V.ref q1) [V.bl y] H3 fun _ H1=>∃v3 v4 v5 v6,([some (.ref L.r),some (.ref a),some (.ref q1),some (.int i),some (.ref c),some (V.int (signal ch sl[i]:Int)),some (.bl nH)]:L2.St)=[some (.ref L.r),some (.ref a),some (.ref q1),v3,v4,v5,v6]/\fR H H1/\H1 q1=some (.lst (((iW b m.highs sl).take (i+1)).map V.bl))):=by
      intro y hy;refine⟨q1,_,_,Z,Z,g3,hz,_,_,_,_,Z,s3.put n1,?_⟩;rw[fP,aaC,ao,hy,hw];rfl
     by_cases c1:ch.on<=signal ch sl[i]
     ·refine gc (ai (by omega)) (Hv true ?_);unfold isHigh;rw[ai c1];rfl
     ·refine gu (ae (by omega)) ?_;refine⟨_,Z,_,Z,?_⟩;cases nH with
      |false=>
       refine gu Z (Hv false ?_);unfold isHigh;rw[ae c1];rfl
      |true=>
       refine gc Z ⟨_,Z,_,Z,c,_,_,_,Z,Z,kg Cm,iu (j:=3) Z Z,_,_,Z,Z,Hv _ ?_⟩;unfold isHigh;rw[ae c1,Bool.false_or,dQ]
       by_cases c2:ch.off<=signal ch sl[i]
       ·rw[ai c2,ai (by omega)]
       ·rw[ae c2,ae (by omega)]
    refine⟨_,Z,L.r,_,L.dx,_,_,Z,kC.ins,T.gI,T.t7,Z,L.lh,_,Z,.inl (fS.of kC.i5),_,_,Z,Z,_,Z,?_⟩;have vj:(L.gE.map V.ref).length=m.highs.length:=by rw[ac];exact hR.gE.1
    rw[vj]
    by_cases c0:0<m.highs.length
    ·refine gc (ai (by omega)) ?_;have Bs:m.highs[m.highs.length-1]? =some (m.highs[m.highs.length-1]'(by omega)):=ak (by omega);generalize m.highs[m.highs.length-1]'(by omega)=AY at Bs;obtain⟨la,hla,hlV⟩:=kC.gE.addr Bs;have P5:AY.length=b.channels.length:=hF.hr _ (aS Bs);have e1:mo (L.gE.map V.ref) (-1)=some (V.ref la):=wa (k:=1) (by decide) (by omega) (by rw[vj,au,hla];rfl);have Cn:i<AY.length:=by omega
     refine⟨_,Z,L.r,_,L.dx,_,_,Z,kC.ins,T.gI,T.t7,Z,_,Z,L.lh,_,_,_,Z,Z,fS.of kC.i5,e1,_,Z,la,_,_,_,Z,Z,fS.of hlV,iu (j:=i) Z (by rw[au,ak Cn];rfl),?_⟩;refine fin AY[i] ?_ _ (congrArg V.int P4);rw[cy,Bs];show _=AY.getD i false;rw[aE,ak Cn];rfl
    ·refine gu (ae (by omega)) ?_;refine fin false ?_ _ (congrArg V.int P4);have:m.highs=[]:=aM.mp (by omega);rw[this];rfl
  ·rintro σ H2 ⟨v3,v4,v5,v6,rfl,s2,g2⟩;refine⟨_,Z,?_⟩;have e:(iW b m.highs sl).take (L.S.cs.map V.ref).length=iW b m.highs sl:=aV (by rw[ac,hR.set.mw.1];simp[iW]);rw[e] at g2;exact hq H2 q1 s2 n1 g2
end
open VbkdCore (txt)
def ll(H0 H:Hp)(av ts:List Addr)(ls:List mE):Prop:=ts.length=ls.length/\∀(i:Nat) (t:Addr) (l:mE),ts[i]? =some t->ls[i]? =some l->
 ∃(q:Addr) (ws:List Addr),H t=some (.tup [.ref q,.int l.2])/\H q=some (.lst (ws.map V.ref))/\iH H pq ws l.1/\q∉av/\H0 q=none
theorem ll.at{H0 H:Hp}{av ts:List Addr}{ls:List mE}(h:ll H0 H av ts ls):rb H0 H ts ls:=⟨h.1,fun i t l h1 h2=>let ⟨q,ws,a,b,c,_,d⟩:=h.2 i t l h1 h2;⟨q,ws,a,b,c,d⟩⟩
theorem ll.keep{H0 H H':Hp}{av ts:List Addr}{ls:List mE}(h:ll H0 H av ts ls)(o:gF av H H')(m:∀y∈av,∀xs,H y≠some (.tup xs)):ll H0 H' av ts ls:=
 ⟨h.1,fun i t l h1 h2=>by
   obtain⟨q,ws,a,b,c,d,d0⟩:=h.2 i t l h1 h2;exact⟨q,ws,kR o m a,o _ _ b d,⟨c.1,fun j a x h3 h4=>kR o m (c.2 j a x h3 h4)⟩,d,d0⟩⟩
theorem ll.same{H0 H H':Hp}{av ts:List Addr}{ls:List mE}(h:ll H0 H av ts ls)(s:fR H H'):ll H0 H' av ts ls:=
 ⟨h.1,fun i t l h1 h2=>by
   obtain⟨q,ws,a,b,c,d,d0⟩:=h.2 i t l h1 h2;exact⟨q,ws,s _ _ a,s _ _ b,c.same s,d,d0⟩⟩
theorem ll.snoc{H0 H:Hp}{av ts:List Addr}{ls:List mE}{t q:Addr}{ws:List Addr}{l:mE}(h:ll H0 H av ts ls)(h1:H t=some (.tup [.ref q,.int l.2]))(h2:H q=some (.lst (ws.map V.ref)))(h3:iH H pq ws l.1)(h4:q∉av)(h5:H0 q=none):ll H0 H av (ts++[t]) (ls++[l]):=by
 refine⟨by simp[h.1],fun i b y k1 k2=> ?_⟩
 by_cases hi:i<ts.length
 ·rw[bp hi] at k1;rw[bp (by rw[<-h.1];exact hi)] at k2;exact h.2 i b y k1 k2
 ·rw[bv (by omega)] at k1;rw[bv (by rw[<-h.1];omega)] at k2
  have e1:i-ts.length=0:=by
   have:=(ap.mp k1).1;simp at this;omega
  rw[e1] at k1;rw[<-h.1,e1] at k2;simp at k1 k2;subst k1 k2;exact⟨q,ws,h1,h2,h3,h4,h5⟩
theorem ll.other{H0 H:Hp}{av P6 ts:List Addr}{ls:List mE}(h:ll H0 H av ts ls)(m:∀q,(H q).isSome=true->q∉av->q∉P6):ll H0 H P6 ts ls:=
 ⟨h.1,fun i t l h1 h2=>by
   obtain⟨q,ws,a,b,c,d,d0⟩:=h.2 i t l h1 h2;exact⟨q,ws,a,b,c,m q (by rw[b];rfl) d,d0⟩⟩
theorem WG(w:List Nat)(b:Nat):ii w++gK [jl b]=ii (w++[b]):=by
 unfold ii gK;rw[ao];show(⟨(w.map jl).toArray++[jl b].toArray⟩:Str)=_;simp
theorem vQ:ii []=("":Str):=by rw[show(("":Str))=gK (txt "") from jr ""];rfl
structure zk(n:Nat)(st:qd):Prop where
 w:st.word.length<=n
 k:st.words.length<=n
 ws:∀x∈st.words,x.1≠ []/\x.1.length<=n
 ls:∀l∈st.lines,l.1.length<=n/\∀x∈l.1,x.1≠ []/\x.1.length<=n
theorem zk.more{n m:Nat}{st:qd}(h:zk n st)(hm:n<=m):zk m st:=
 ⟨by have:=h.w;omega,by have:=h.k;omega,fun x hx=>⟨(h.ws x hx).1,by have:=(h.ws x hx).2;omega⟩,fun l hl=>⟨by have:=(h.ls l hl).1;omega,fun x hx=>⟨((h.ls l hl).2 x hx).1,by have:=((h.ls l hl).2 x hx).2;omega⟩⟩⟩
theorem GB(t:List Nat):∀i,zk i (kJ ⟨[],[],[]⟩ 0 (t.take i))
 |0=>⟨aA _,aA _,fun x hx=>by simp[kJ] at hx,fun x hx=>by simp[kJ] at hx⟩
 |i+1=>by
  cases h:t[i]? with
  |none=>
   have:t.take (i+1)=t.take i:=by rw[bC,h];simp
   rw[this];exact(GB t i).more (by omega)
  |some b=>
   rw[take_snoc h,Ar];have ih:=GB t i;generalize kJ ⟨[],[],[]⟩ 0 (t.take i)=st at ih
   have f:∀p,zk (i+1) (je st p):=by
    intro p;unfold je;split
    ·exact ih.more (by omega)
    ·rename_i c;refine⟨aN _,?_,?_,(ih.more (by omega)).ls⟩
     ·have:=ih.k;simp only[ag,aj,aZ];omega
     ·intro x hx;rcases aG.mp hx with hx|hx
      ·exact(ih.more (m:=i+1) (by omega)).ws x hx
      ·rw[aq.mp hx];exact⟨c,by have:=ih.w;show st.word.length<=i+1;omega⟩
   unfold jM;split
   ·have Iw:=ih.more (m:=i+1) (by omega);exact⟨by have:=ih.w;simp only[ag,aj,aZ];omega,Iw.k,Iw.ws,Iw.ls⟩
   ·split
    ·have f1:=f (0+(t.take i).length);refine⟨f1.w,aN _,fun x hx=>(by cases hx),fun l hl=> ?_⟩;rcases aG.mp hl with hl|hl
     ·exact f1.ls l hl
     ·rw[aq.mp hl];exact⟨f1.k,f1.ws⟩
    ·exact f _
theorem NR(t:List Nat)(i:Nat):(kJ ⟨[],[],[]⟩ 0 (t.take i)).word.length<=i/\(kJ ⟨[],[],[]⟩ 0 (t.take i)).words.length<=i/\(kJ ⟨[],[],[]⟩ 0 (t.take i)).lines.length<=i:=by
 induction i with
 |zero=>exact⟨aA _,aA _,aA _⟩
 |succ i ih=>
  cases h:t[i]? with
  |none=>
   have:t.take (i+1)=t.take i:=by rw[bC,h];simp
   rw[this];omega
  |some b=>
   rw[take_snoc h,Ar];generalize kJ ⟨[],[],[]⟩ 0 (t.take i)=st at ih
   have f:∀p,(je st p).word.length<=i/\(je st p).words.length<=i+1/\(je st p).lines.length<=i:=by
    intro p;unfold je;split
    ·exact⟨ih.1,by omega,ih.2.2⟩
    ·simp only[ag,aj,aZ];omega
   unfold jM;split
   ·simp only[ag,aj,aZ];omega
   ·split
    ·have:=f (0+(t.take i).length);simp only[ag,aj,aZ];omega
    ·have:=f (0+(t.take i).length);omega
section
variable {P:Program} {w:World} {K:PySem.W.Frag} {mg:Str->Option Value} {base:Heap} {AA:gv}
theorem US:gQ ["text","lines","words","word","place","byte"] ["text"] (gM (fY 59)):=gY (by decide+kernel)
theorem UT(T:Tx P w K mg AA):gL P w K mg base gU 2 AA.LD AA.LF ["text"] (Yy K):=by
 have WH:=Vy (base:=base) T;have SC:=US;refine T.AE.fn.ok SC (fun vs H Q E h=> ?_) (fun gz A outer s H vs Q E hr h=> ?_)
 ·obtain⟨a,t,rfl,_⟩:=h;rfl
 ·obtain⟨a,t,rfl,ha,hl,hq⟩:=h
  refine⟨_,(fT (gm (i:=1) SC.nd Z (Or.inl Z) (gJ fQ))
   (fT (gm (i:=2) SC.nd Z (Or.inl Z) (gJ fQ))
   (fT (gm (i:=3) SC.nd Z (Or.inl Z) ku)
   (fT (lG bg Z (yh Z T.enumerate (fO (gB j3 (pv 0) (gJ (fO (gA Z T.Ga) fQ))) fQ)) (rf Z (lT (iJ (i:=4) SC.nd Z (Or.inl Z)) (lT (iJ (i:=5) SC.nd Z (Or.inl Z)) qZ)))
     (fT (gZ (PW.pt (A3 (ip rg (pv 5) (gA Z T.aaz) (ij _)) (AO (ip rg (pv 5) (gA Z T.Ga) (ij _)))))
       (fT (vW (i:=3) SC.nd Z (Or.inl Z) (ie WH (hr.mono (by decide)) Z T.sign_of.mg T.sign_of.fn.kp T.sign_of.b .nil gH (fO (pv 5) fQ)) Uy)
       (fW KO))
       ic)
     (fT (gZ (ip rg (pv 3) ku (ij _))
       (fT (iS (iU ax aI aL kF (pv 2) (fO (vY (fO (pv 3) (fO (gB jL (pv 4) (gW zS (by rfl) T.len aF (fO (pv 3) fQ))) fQ))) fQ)))
       (fW (gm (i:=3) SC.nd Z (Or.inl Z) ku)))
       ic)
     (fW (gZ (ip nk (pv 5) (gA Z T.Ga) (ij _))
       (fT (iS (iU ax aI aL kF (pv 1) (fO (vY (fO (pv 2) (fO (pv 4) fQ))) fQ)))
       (fW (gm (i:=2) SC.nd Z (Or.inl Z) (gJ fQ))))
       ic)))))
   (fW (gD (pv 1))))))),?_⟩
  refine⟨aN _,fun q1 n1=> ?_⟩;refine⟨aN _,fun q2 n2=> ?_⟩;have s1:fR H (fN H q1 (.lst [])):=fR.new n1;have s2:fR H (fN (fN H q1 (.lst [])) q2 (.lst [])):=s1.more n2;have l8:q1≠q2:=fun z=>by rw[<-z,fP] at n2;cases n2
  refine⟨_,Z,fZ (by simp),fun q3 n3=> ?_⟩;have s3:=s2.more (o:=.lst [V.int 10]) n3;refine⟨a,q3,_,_,Z,Z,s3 _ _ ha,fP,fZ (by simp;omega),fun q4 n4=> ?_⟩;have eT:t.map nV++[V.int 10]=(t++[10]).map nV:=by rw[ao];rfl
  rw[eT];have g1:(fN (fN H q1 (.lst [])) q2 (.lst [])) q1=some (.lst []):=by rw[fU l8,fP]
  have g2:(fN (fN H q1 (.lst [])) q2 (.lst [])) q2=some (.lst []):=fP;have P7:=(fR.new (o:=.lst ((t++[10]).map nV)) n4) _ _ ((fR.new (o:=.lst [V.int 10]) n3) _ _ g1);have pz:=(fR.new (o:=.lst ((t++[10]).map nV)) n4) _ _ ((fR.new (o:=.lst [V.int 10]) n3) _ _ g2);have s4:=s3.more (o:=.lst ((t++[10]).map nV)) n4;have f4:H q4=none:=s3.free n4;have g4:(fN (fN (fN (fN H q1 (.lst [])) q2 (.lst [])) q3 (.lst [V.int 10])) q4 (.lst ((t++[10]).map nV))) q4=some (.lst ((t++[10]).map nV)):=fP;have mZ:q1≠q4:=gh ((fR.new (o:=.lst [V.int 10]) n3) _ _ g1) n4;have zh:q2≠q4:=gh ((fR.new (o:=.lst [V.int 10]) n3) _ _ g2) n4;generalize fN (fN (fN (fN H q1 (.lst [])) q2 (.lst [])) q3 (.lst [V.int 10])) q4 (.lst ((t++[10]).map nV))=H4 at s4 P7 pz g4;have f2:H q2=none:=s1.free n2;generalize hTX:t++[10]=tx at g4 hq;have tl:tx.length<=1001:=by rw[<-hTX];simp;omega
  refine⟨q4,_,Z,fS.of g4,AJ (K:=K) (a:=q4) (xs:=tx.map nV) (fun i σ H'=>∃v4 v5 qw ts ws,σ=[some (.ref a),some (.ref q1),some (.ref qw),some (.str (ii (kJ ⟨[],[],[]⟩ 0 (tx.take i)).word)),v4,v5]/\fR H H'/\H' q4=some (.lst (tx.map nV))/\H' q1=some (.lst (ts.map V.ref))/\ll H H' [q1,qw] ts (kJ ⟨[],[],[]⟩ 0 (tx.take i)).lines/\H' qw=some (.lst (ws.map V.ref))/\iH H' pq ws (kJ ⟨[],[],[]⟩ 0 (tx.take i)).words/\H qw=none/\q1≠qw/\qw≠q4)
   ⟨none,none,q2,[],[],?_,s4,g4,P7,⟨Z,fun i t l h=>by simp at h⟩,pz,iH.nil,f2,l8,zh⟩ (fun i σ H' _ ⟨_,_,_,_,_,_,_,e,_⟩=>fS.of e) ?_ ?_⟩
  ·show[some (.ref a),some (.ref q1),some (.ref q2),some (V.str ""),none,none]=_;rw[<-vQ];rfl
  ·rintro i x p σ H5 hx ⟨v4,v5,qw,ts,ws,rfl,s5,xi,ow,hL,P8,hW,fw,xj,Co⟩ np;obtain⟨b,hb,rfl⟩:=kG hx;have hi:i<tx.length:=(ap.mp hb).1;have j7:(tx.take i).length=i:=by rw[aD];omega
   have s6:fR H (fN H5 p (.tup [.int (i:Nat),nV b])):=s5.more np;have sp:=fR.new (H:=H5) (o:=.tup [.int (i:Nat),nV b]) np;have P9:(fN H5 p (.tup [.int (i:Nat),nV b])) p=some (.tup [.int (i:Nat),nV b]):=fP;have tP:=sp _ _ xi;have mr:=sp _ _ ow;have rJ:=hL.same sp;have vk:=sp _ _ P8;have vm:=hW.same sp;generalize fN H5 p (.tup [.int (i:Nat),nV b])=H6 at s6 P9 tP mr rJ vk vm;obtain⟨Ix,ph,Cp⟩:=NR tx i;rw[take_snoc hb,Ar,j7,dF];generalize kJ ⟨[],[],[]⟩ 0 (tx.take i)=st at rJ vm Ix ph Cp;have zl:ws.length=st.words.length:=vm.1;have Qa:ts.length=st.lines.length:=rJ.1;refine⟨p,_,Z,kg P9,Z,_,_,Z,_,_,Z,Z,?_⟩
   have Hw:∀(Hx:Hp),Hx q1=some (.lst (ts.map V.ref))->(∃z,Hx qw=some (.lst z))->∀y∈([q1,qw]:List Addr),∀xs,Hx y≠some (.tup xs):=by
    intro Hx h1 ⟨z,h2⟩ y hy xs h;rcases az.mp hy with rfl|hy
    ·rw[h1] at h;cases h
    ·rw[aq.mp hy,h2] at h;cases h
   have fin:¬(b≠32/\b≠10)->∀(H7:Hp) (xk:List Addr),fR H H7->H7 q4=some (.lst (tx.map nV))->H7 q1=some (.lst (ts.map V.ref))->ll H H7 [q1,qw] ts st.lines->H7 qw=some (.lst (xk.map V.ref))->iH H7 pq xk (je st i).words->
    uR (sH (kA HG (iP 5) (tC (V.int 10)))) (jS (we (u9 K "list" uz (iP 1) (i8 (By (i8 (iP 2) (i8 (iP 4) jx))) jx))) (uS (yy jx) (sE 2))) uJ
     ⟨fun σ H'=>∃v4 v5 qw ts ws,σ=[some (.ref a),some (.ref q1),some (.ref qw),some (.str (ii (jM st i b).word)),v4,v5]/\fR H H'/\H' q4=some (.lst (tx.map nV))/\H' q1=some (.lst (ts.map V.ref))/\ll H H' [q1,qw] ts (jM st i b).lines/\H' qw=some (.lst (ws.map V.ref))/\iH H' pq ws (jM st i b).words/\H qw=none/\q1≠qw/\qw≠q4,fun _ _=>True,fun _ _=>True,fun _ _=>True⟩
     [some (.ref a),some (.ref q1),some (.ref qw),some (.str ""),some (.int (i:Nat)),some (nV b)] H7:=by
    intro hn H7 xk s7 Qb qQ Qc Cq zm;have ew:(je st i).word=[]:=Vv st i;refine⟨_,Z,Z,_,Z,?_⟩
    by_cases c:b=10
    ·refine gc (by rw[c];rfl) ?_;have es:jM st i b=⟨(je st i).lines++[((je st i).words,i)],[],(je st i).word⟩:=by unfold jM;rw[am hn,aw c]
     rw[es,ew,vQ,Li];refine⟨_,Z,.inl ⟨Z,_,fS.of qQ⟩,_,Z,_,Z,(by show 2<=sizeLine;decide),fun q8 n8=> ?_⟩;have rK:=fR.new (H:=H7) (o:=.tup [V.ref qw,V.int (i:Nat)]) n8;have n18:=gh qQ n8;refine⟨q1,_,_,Z,Z,rK _ _ qQ,iV (by rw[ac];omega),?_⟩;refine⟨aN _,fun q9 n9=> ?_⟩;have s8:fR H (fN (fN H7 q8 (.tup [V.ref qw,V.int (i:Nat)])) q1 (.lst (ts.map V.ref++[V.ref q8]))):=(s7.more n8).put n1;have o8:gF [q1,qw] (fN H7 q8 (.tup [V.ref qw,V.int (i:Nat)])) (fN (fN H7 q8 (.tup [V.ref qw,V.int (i:Nat)])) q1 (.lst (ts.map V.ref++[V.ref q8]))):=gF.refl.put (by simp);have Qe:ll H (fN (fN H7 q8 (.tup [V.ref qw,V.int (i:Nat)])) q1 (.lst (ts.map V.ref++[V.ref q8]))) [q1,qw] ts st.lines:=(Qc.same rK).keep o8 (Hw _ (rK _ _ qQ) ⟨_,rK _ _ Cq⟩);have Iy:(fN (fN H7 q8 (.tup [V.ref qw,V.int (i:Nat)])) q1 (.lst (ts.map V.ref++[V.ref q8]))) qw=some (.lst (xk.map V.ref)):=by rw[fU xj.symm];exact rK _ _ Cq
     have Qg:iH (fN (fN H7 q8 (.tup [V.ref qw,V.int (i:Nat)])) q1 (.lst (ts.map V.ref++[V.ref q8]))) pq xk (je st i).words:=⟨zm.1,fun j a x h3 h4=>kR o8 (Hw _ (rK _ _ qQ) ⟨_,rK _ _ Cq⟩) ((zm.same rK).2 j a x h3 h4)⟩;have Qh:(fN (fN H7 q8 (.tup [V.ref qw,V.int (i:Nat)])) q1 (.lst (ts.map V.ref++[V.ref q8]))) q8=some (.tup [V.ref qw,V.int (i:Nat)]):=by rw[fU n18.symm,fP]
     have rL:(fN (fN H7 q8 (.tup [V.ref qw,V.int (i:Nat)])) q1 (.lst (ts.map V.ref++[V.ref q8]))) q1=some (.lst ((ts++[q8]).map V.ref)):=by rw[fP,ao];rfl
     have Iz:(fN (fN H7 q8 (.tup [V.ref qw,V.int (i:Nat)])) q1 (.lst (ts.map V.ref++[V.ref q8]))) q4=some (.lst (tx.map nV)):=by rw[fU mZ.symm];exact rK _ _ Qb
     have tQ:(fN (fN H7 q8 (.tup [V.ref qw,V.int (i:Nat)])) q1 (.lst (ts.map V.ref++[V.ref q8]))) q9=none:=n9;generalize fN (fN H7 q8 (.tup [V.ref qw,V.int (i:Nat)])) q1 (.lst (ts.map V.ref++[V.ref q8]))=H8 at s8 Qe Iy Qg Qh rL Iz tQ;have xl:=fR.new (H:=H8) (o:=.lst []) tQ;have nw9:qw≠q9:=gh Iy tQ;have IA:q1≠q9:=gh rL tQ;have n49:q4≠q9:=gh Iz tQ
     have hL9:ll H H8 [q1,q9] ts st.lines:=Qe.other fun q kD qN z=>by
      rcases az.mp z with rfl|z
      ·exact qN (by simp)
      ·rw[aq.mp z,tQ] at kD;cases kD
     refine⟨some (.int (i:Nat)),some (nV b),q9,ts++[q8],[],Z,s8.more tQ,xl _ _ Iz,xl _ _ rL,(hL9.same xl).snoc (xl _ _ Qh) (xl _ _ Iy) (Qg.same xl) (by simp[xj.symm,nw9]) fw,fP,iH.nil,s8.free tQ,IA,n49.symm⟩
    ·refine gu (ae (fun z=>c (uG.mp z))) ?_;have es:jM st i b=je st i:=by unfold jM;rw[am hn,am c]
     rw[es,ew,vQ,Li];exact⟨some (.int (i:Nat)),some (nV b),qw,ts,xk,Z,s7,Qb,qQ,Qc,Cq,zm,fw,xj,Co⟩
   have Qi:¬(b≠32/\b≠10)->
    jS (uR (sH (kA Pr (iP 3) (tC (V.str "")))) (jS (we (u9 K "list" uz (iP 2) (i8 (By (i8 (iP 3) (i8 (kA (kY fun i j=>V.int (i-j)) (iP 4) (oh (fun xs H Q=>∃z,xs=[V.str z]/\z.length<=sizeLine/\Q (V.int z.length) H) (i8 (iP 3) jx))) jx))) jx))) (uS (tC (V.str "")) (sE 3))) uJ)
     (uR (sH (kA HG (iP 5) (tC (V.int 10)))) (jS (we (u9 K "list" uz (iP 1) (i8 (By (i8 (iP 2) (i8 (iP 4) jx))) jx))) (uS (yy jx) (sE 2))) uJ)
     ⟨fun σ H'=>∃v4 v5 qw ts ws,σ=[some (.ref a),some (.ref q1),some (.ref qw),some (.str (ii (jM st i b).word)),v4,v5]/\fR H H'/\H' q4=some (.lst (tx.map nV))/\H' q1=some (.lst (ts.map V.ref))/\ll H H' [q1,qw] ts (jM st i b).lines/\H' qw=some (.lst (ws.map V.ref))/\iH H' pq ws (jM st i b).words/\H qw=none/\q1≠qw/\qw≠q4,fun _ _=>True,fun _ _=>True,fun _ _=>True⟩
     [some (.ref a),some (.ref q1),some (.ref qw),some (.str (ii st.word)),some (.int (i:Nat)),some (nV b)] H6:=by
    intro hn;refine⟨_,Z,Z,_,Z,?_⟩
    by_cases c:st.word=[]
    ·refine gu ?_ ?_
     ·rw[c,vQ];simp
     ·rw[c,vQ];have ef:(je st i).words=st.words:=by unfold je;rw[aw c]
      exact fin hn H6 ws s6 tP mr rJ vk (by rw[ef];exact vm)
    ·refine gc ?_ ?_
     ·rw[<-vQ]
      have:ii st.word≠ii []:=fun z=>c (by
       have:=congrArg Str.length z;rw[mz,mz] at this;exact aM.mp this)
      simpa using this
     ·refine⟨_,Z,.inl ⟨Z,_,fS.of vk⟩,_,Z,_,Z,_,Z,_,Z,fZ (by rw[mz];omega),_,_,Z,Z,(by show 2<=sizeLine;decide),fun q7 n7=> ?_⟩;have kZ:=fR.new (H:=H6) (o:=.tup [V.str (ii st.word),V.int ((i:Int)-((ii st.word).length:Int))]) n7;have nw7:=gh vk n7;refine⟨qw,_,_,Z,Z,kZ _ _ vk,iV (by rw[ac];omega),?_⟩;refine ?_;have ef:(je st i).words=st.words++[(st.word,i-st.word.length)]:=by unfold je;rw[am c]
      have o7:gF [q1,qw] (fN H6 q7 (.tup [V.str (ii st.word),V.int ((i:Int)-((ii st.word).length:Int))])) (fN (fN H6 q7 (.tup [V.str (ii st.word),V.int ((i:Int)-((ii st.word).length:Int))])) qw (.lst (ws.map V.ref++[V.ref q7]))):=gF.refl.put (by simp);have mt:=Hw _ (kZ _ _ mr) ⟨_,kZ _ _ vk⟩;refine fin hn _ (ws++[q7]) ((s6.more n7).put fw) ?_ ?_ ((rJ.same kZ).keep o7 mt) ?_ ?_
      ·rw[fU Co.symm];exact kZ _ _ tP
      ·rw[fU xj];exact kZ _ _ mr
      ·rw[fP,ao];rfl
      ·rw[ef];have zm:iH (fN (fN H6 q7 (.tup [V.str (ii st.word),V.int ((i:Int)-((ii st.word).length:Int))])) qw (.lst (ws.map V.ref++[V.ref q7]))) pq ws st.words:=⟨vm.1,fun j a x h3 h4=>kR o7 mt ((vm.same kZ).2 j a x h3 h4)⟩;refine zm.snoc ?_;rw[fU nw7.symm,fP];unfold pq;rw[mz,show(i:Int)-(st.word.length:Int)=((i-st.word.length:Nat):Int) by omega]
   refine⟨_,Z,Z,_,Z,?_⟩
   by_cases c1:b=32
   ·refine gu (by rw[c1];rfl) ?_;refine gu Z ?_;exact Qi (by omega)
   ·refine gc (by rw[cG];exact ae (fun z=>c1 (uG.mp z))) ?_;refine⟨_,Z,Z,_,Z,?_⟩
    by_cases c2:b=10
    ·refine gu (by rw[c2];rfl) ?_;exact Qi (by omega)
    ·refine gc (by rw[cG];exact ae (fun z=>c2 (uG.mp z))) ?_;have es:jM st i b=⟨st.lines,st.words,st.word++[b]⟩:=by unfold jM;rw[aw ⟨c1,c2⟩]
     rw[es];refine⟨_,Z,_,Z,b,Z,_,_,Z,Z,fZ (by rw[mz,pK];simp;omega),?_⟩;rw[WG];exact⟨some (.int (i:Nat)),some (nV b),qw,ts,ws,Z,s6,tP,mr,rJ,vk,vm,fw,xj,Co⟩
  ·rintro σ H5 ⟨v4,v5,qw,ts,ws,rfl,s5,xi,ow,hL,P8,hW,fw,xj,Co⟩;rw[ac,aT] at hL;exact⟨_,Z,hq H5 q1 ts s5 n1 ow hL.at⟩
end
open VbkdCore (numeral isSmall isDigit)
theorem mem_range'{x s n:Nat}:x∈List.range' s n↔s<=x/\x<s+n:=by
 rw[List.mem_range'];constructor
 ·rintro⟨i,hi,rfl⟩;omega
 ·intro h;exact⟨x-s,by omega,by omega⟩
theorem XI(b:Nat):decide (jl b∈(Str.ofString "abcdefghijklmnopqrstuvwxyz").cps.toList)=isSmall b:=by
 rw[jr];show decide (jl b∈txt "abcdefghijklmnopqrstuvwxyz")=_;rw[show txt "abcdefghijklmnopqrstuvwxyz"=List.range' 97 26 from by decide];unfold isSmall jl;rw[bJ,aH,aJ,aJ,aJ,mem_range'];split<;>omega
theorem XJ(b:Nat):decide (jl b∈(Str.ofString "0123456789").cps.toList)=isDigit b:=by
 rw[jr];show decide (jl b∈txt "0123456789")=_;rw[show txt "0123456789"=List.range' 48 10 from by decide];unfold isDigit jl;rw[bJ,aH,aJ,aJ,aJ,mem_range'];split<;>omega
theorem ye(w:List Nat):∀ks:List (List Nat),(∀k∈ks,lI k=true)->pc (.str (ii w)) (ks.map fun k=>V.str (gK k))=ks.contains w
 |[],_=>rfl
 |k::ks,h=>by
  have hk:=h k (by simp);have ih:=ye w ks fun k hk=>h k (by simp[hk])
  unfold pc at ih⊢;rw[aB,dv,ih,List.contains_cons]
  congr 1
  show(gK k==ii w)=(w==k);rw[bJ,ci,ci];exact⟨fun z=>(yj hk).mp z.symm,fun z=>((yj hk).mpr z).symm⟩
theorem As(ks:List (List Nat)):(ks.map fun k=>V.str (gK k)).all qE=true:=by
 rw[dq,a9];intro x _;rfl
theorem Lj{w:List Nat}(h:w.all isSmall=true):lI w=true:=by
 unfold lI;rw[a9] at h⊢;intro x hx;have:=h x hx;unfold isSmall at this;rw[this,Bool.or_true]
theorem UU{w:List Nat}(h:w.all isDigit=true):lI w=true:=by
 unfold lI;rw[a9] at h⊢;intro x hx;have:=h x hx;unfold isDigit at this;rw[this,Bool.true_or]
theorem XM{w:List Nat}(h:w.all isDigit=true)(hw:w≠ [])(hl:w.length<=640):PySem.intText? (ii w)=some ((VbkdCore.valueOf w:Nat):Int):=by
 rw[Af (UU h)];have e:(gK w).cps.toList=w:=by simp[gK]
 have:=PySem.intText_digits (x:=gK w) (by
  rw[e];intro c hc;have:=a9.mp h c hc;unfold isDigit at this;simpa using this) (by rw[e];exact hw) (by rw[pK];omega)
 rw[e] at this
 have e2:PySem.NumText.digitsVal w=VbkdCore.valueOf w:=by
  unfold PySem.NumText.digitsVal VbkdCore.valueOf
  congr 1
  funext n c
  omega
 rw[e2] at this;exact this
def ZS(AA:gv)(K:PySem.W.Frag):Sp:=fun vs H Q E=>∃(w:List Nat) (p:Nat) (a:Addr) (ns:List (List Nat)),vs=[.str (ii w),.int p,.ref a]/\fS K H a (ns.map fun n=>V.str (gK n))/\(∀n∈ns,lI n=true)/\w≠ []/\w.length<=2000/\
 (Vbkdaa.isName w=false->mI AA H E 1 p)/\(Vbkdaa.isName w=true->ns.contains w=true->mI AA H E 4 p)/\(Vbkdaa.isName w=true->ns.contains w=false->∀H',fR H H'->Q (.str (gK w)) H')
def aaD(AA:gv):Sp:=fun vs H Q E=>∃(w:List Nat) (p hi:Nat),vs=[.str (ii w),.int p,.int hi]/\w≠ []/\w.length<=2000/\
 (numeral w=none->mI AA H E 1 p)/\(∀n,numeral w=some n->hi<n->mI AA H E 2 p)/\(∀n,numeral w=some n->n<=hi->∀H',fR H H'->Q (.int n) H')
section
variable {P:Program} {w:World} {K:PySem.W.Frag} {mg:Str->Option Value} {base:Heap} {AA:gv}
theorem Ua:gQ ["word","place","names","sign"] ["word","place","names"] (gM (fY 63)):=gY (by decide+kernel)
theorem Ub(T:Tx P w K mg AA):gL P w K mg base (jG P w AA.m9) 3 AA.K2 AA.K3 ["word","place","names"] (ZS AA K):=by
 have mC:=AI (base:=base) T;have SC:=Ua;refine T.Ao.fn.p5 SC (fun vs H Q E h=> ?_) (fun gz A outer s H vs Q E hr h=> ?_)
 ·obtain⟨w,p,a,ns,rfl,_⟩:=h;rfl
 ·obtain⟨wd,p,a,ns,rfl,hA,yW,vn,rM,kD,zf,hq⟩:=h
  refine⟨_,(fT (gZ (PW.pt (pO (ip mR (gW zS (by rfl) T.len aF (fO (pv 0) fQ)) (gA Z T.T4) (ij _)) (qx (ip xZ (pv 0) (m8 Z T.Wj) (by with_unfolding_all Z)))))
   (fW (nP T.xc mC (hr.mono (by decide)) Z T.mM T.nW (fO (gA Z T.r6) (fO (pv 1) fQ))))
   ic)
   (fT (gZ (li (lU (gW (yn Z) (by rfl) T.all boot_all (fO (PE.rA (mi (own:=[("sign",3)]) Z SC.nd (GN (pv 0)) (lD (by kernel_rfl)) (fun s H C cl fp=>(iJ (i:=3) SC.nd Z (Or.inl Z) (.inr Z))) (fun s H C cl fp=>me) (fun s H C cl fp=>(su Lq (pv 3) (uB Z T.NL) (by with_unfolding_all Z))))) fQ))))
     (fW (nP T.xc mC (hr.mono (by decide)) Z T.mM T.nW (fO (gA Z T.r6) (fO (pv 1) fQ))))
     ic)
   (fT (gZ (ip xZ (pv 0) (pv 2) (by with_unfolding_all Z))
     (fW (nP T.xc mC (hr.mono (by decide)) Z T.mM T.nW (fO (gA Z T.KJ) (fO (pv 1) fQ))))
     ic)
   (fW (gD (pv 0)))))),?_⟩
  have Bt:Vbkdaa.isName wd=(decide (wd.length<=8)&&(wd.all isSmall&& !Vbkdaa.KEYS.contains wd)):=by
   unfold Vbkdaa.isName
   have:1<=wd.length:=by
    cases wd with
    |nil=>exact absurd Z vn
    |cons _ _=>simp
   rw[show decide (1<=wd.length/\wd.length<=8)=decide (wd.length<=8) from by simp[this]]
  refine⟨_,Z,_,Z,fZ (by rw[mz];omega),_,_,Z,Z,_,Z,?_⟩;rw[mz]
  by_cases c1:8<wd.length
  ·refine gc (ai (by omega)) ?_;refine gc Z ?_;refine⟨_,Z,_,_,Z,?_⟩;exact(kD (by rw[Bt,ae (by omega)];rfl)).go fR.kH
  ·refine gu (ae (by omega)) ?_
   have ek:(Vbkdaa.KEYS.map fun k=>V.str (gK k))=[.str "channel",.str "pedestal",.str "on",.str "off",.str "keep",.str "buffer",.str "rate",.str "high",.str "low",.str "delay",.str "gap"]:=by
    unfold Vbkdaa.KEYS;simp only[aB,cg,<-jr]
   have kk:=T.Vn;rw[<-ek] at kk;refine⟨_,Z,AA.Ep,_,Z,.inr kk.sq,Z,As _,_,Z,?_⟩;show(if pc (.str (ii wd)) (Vbkdaa.KEYS.map fun k=>V.str (gK k))=true then _ else _);rw[ye wd Vbkdaa.KEYS (by decide)]
   by_cases c2:Vbkdaa.KEYS.contains wd=true
   ·refine gc c2 ?_;refine⟨_,Z,_,_,Z,?_⟩;exact(kD (by rw[Bt,c2];simp)).go fR.kH
   ·have Qj:Vbkdaa.KEYS.contains wd=false:=by simpa using c2
    refine gu Qj ?_;refine⟨_,Z,_,Z,fun q1 n1=> ?_⟩;refine GW (x:=ii wd) (fun i H'=>H'=fN H q1 (.lst (((wd.take i).map isSmall).map V.bl))) Z ?_ ?_
    ·rintro i c H' hc rfl;have qG:(wd.map jl)[i]? =some c:=by rw[<-FJ,Array.getElem?_toList];exact hc
     obtain⟨b,hb,rfl⟩:=kG qG;have hi:i<wd.length:=(ap.mp hb).1;refine⟨Z,?_⟩;refine⟨_,Z,jl b,_,Z,Z,_,fP,iV (by rw[ac,ac,aD];omega),?_⟩;rw[jo,take_snoc hb,ao,ao,XI];rfl
    ·rintro H' rfl;have es:(ii wd).cps.size=wd.length:=mz wd;rw[es,aT];refine⟨q1,wd.map isSmall,Z,fS.of fP,_,Z,?_⟩;have ea:(wd.map isSmall).all id=wd.all isSmall:=by rw[dq];rfl
     rw[ea];have s1:fR H (fN H q1 (.lst ((wd.map isSmall).map V.bl))):=fR.new n1
     by_cases c3:wd.all isSmall=true
     ·refine gu (by rw[c3];rfl) ?_;have hn:Vbkdaa.isName wd=true:=by rw[Bt,c3,Qj,ai (by omega)];rfl
      refine⟨_,Z,_,Z,a,_,Z,.inl (s1.seq hA),Z,As _,_,Z,?_⟩;show(if pc (.str (ii wd)) (ns.map fun k=>V.str (gK k))=true then _ else _);rw[ye wd ns yW]
      by_cases c4:ns.contains wd=true
      ·refine gc c4 ?_;refine⟨_,Z,_,_,Z,?_⟩;exact(zf hn c4).go s1
      ·have Qk:ns.contains wd=false:=by simpa using c4
       refine gu Qk ?_;refine⟨_,Z,?_⟩;rw[Af (Lj c3)];exact hq hn Qk _ s1
     ·have zn:wd.all isSmall=false:=by simpa using c3
      refine gc (by rw[zn];rfl) ?_;refine⟨_,Z,_,_,Z,?_⟩;exact(kD (by rw[Bt,zn];simp)).go s1
theorem SW:gQ ["word","place","most","sign"] ["word","place","most"] (gM (fY 64)):=gY (by decide+kernel)
theorem SX(T:Tx P w K mg AA):gL P w K mg base (jG P w AA.m9) 3 AA.Kd AA.Ke ["word","place","most"] (aaD AA):=by
 have mC:=AI (base:=base) T;have SC:=SW;refine T.zZ.fn.p5 SC (fun vs H Q E h=> ?_) (fun gz A outer s H vs Q E hr h=> ?_)
 ·obtain⟨w,p,hi,rfl,_⟩:=h;rfl
 ·obtain⟨wd,p,hi,rfl,vn,rM,kD,qN,hq⟩:=h
  refine⟨_,(fT (gZ (PW.pt (pO (ip mR (gW zS (by rfl) T.len aF (fO (pv 0) fQ)) (gA Z T.UL) (ij _)) (qx (li (lU (gW (yn Z) (by rfl) T.all boot_all (fO (PE.rA (mi (own:=[("sign",3)]) Z SC.nd (GN (pv 0)) (lD (by kernel_rfl)) (fun s H C cl fp=>(iJ (i:=3) SC.nd Z (Or.inl Z) (.inr Z))) (fun s H C cl fp=>me) (fun s H C cl fp=>(su Lq (pv 3) (uB Z T.Oi) (by with_unfolding_all Z))))) fQ)))))))
   (fW (nP T.xc mC (hr.mono (by decide)) Z T.mM T.nW (fO (gA Z T.r6) (fO (pv 1) fQ))))
   ic)
   (fT (gZ (PW.pt (A3 (ip mR (gW zS (by rfl) T.len aF (fO (pv 0) fQ)) fX (ij _)) (AO (ip nk (hZ GL (pv 0) fX (fun _ _=>rfl)) ku (ij _)))))
     (fW (nP T.xc mC (hr.mono (by decide)) Z T.mM T.nW (fO (gA Z T.r6) (fO (pv 1) fQ))))
     ic)
   (fT (gZ (ip mR (xY Kq (by rfl) T.int boot_int (fO (pv 0) fQ)) (pv 2) (ij _))
     (fW (nP T.xc mC (hr.mono (by decide)) Z T.mM T.nW (fO (gA Z T.ZK) (fO (pv 1) fQ))))
     ic)
   (fW (gD (xY Kq (by rfl) T.int boot_int (fO (pv 0) fQ))))))),?_⟩
  have h1:1<=wd.length:=by
   cases wd with
   |nil=>exact absurd Z vn
   |cons _ _=>simp
  have BE:numeral wd=if (decide (wd.length<=7)&&(wd.all isDigit&&(wd.length==1||wd.headD 48 !=48)))=true then some (VbkdCore.valueOf wd) else none:=by
   unfold numeral;rw[ai h1,dQ]
  refine⟨_,Z,_,Z,fZ (by rw[mz];omega),_,_,Z,Z,_,Z,?_⟩;rw[mz]
  by_cases c1:7<wd.length
  ·refine gc (ai (by omega)) ?_;refine gc Z ?_;refine⟨_,Z,_,_,Z,?_⟩;exact(kD (by rw[BE,ae (by omega)];rfl)).go fR.kH
  ·refine gu (ae (by omega)) ?_;refine⟨_,Z,_,Z,fun q1 n1=> ?_⟩;refine GW (x:=ii wd) (fun i H'=>H'=fN H q1 (.lst (((wd.take i).map isDigit).map V.bl))) Z ?_ ?_
   ·rintro i c H' hc rfl;have qG:(wd.map jl)[i]? =some c:=by rw[<-FJ,Array.getElem?_toList];exact hc
    obtain⟨b,hb,rfl⟩:=kG qG;have hi:i<wd.length:=(ap.mp hb).1;refine⟨Z,?_⟩;refine⟨_,Z,jl b,_,Z,Z,_,fP,iV (by rw[ac,ac,aD];omega),?_⟩;rw[jo,take_snoc hb,ao,ao,XJ];rfl
   ·rintro H' rfl;have es:(ii wd).cps.size=wd.length:=mz wd;rw[es,aT];refine⟨q1,wd.map isDigit,Z,fS.of fP,_,Z,?_⟩;have ea:(wd.map isDigit).all id=wd.all isDigit:=by rw[dq];rfl
    rw[ea];have s1:fR H (fN H q1 (.lst ((wd.map isDigit).map V.bl))):=fR.new n1
    by_cases c3:wd.all isDigit=true
    ·refine gu (by rw[c3];rfl) ?_;refine⟨_,Z,_,Z,fZ (by rw[mz];omega),_,_,Z,Z,_,Z,?_⟩;rw[mz]
     have fin:(wd.length==1||wd.headD 48 !=48)=true->
      jS (uR (sH (kA (kY fun i j=>V.bl (decide (j<i))) (oh (fun xs H Q=>∃a n,xs=[V.str a]/\PySem.intText? a=some n/\a.length<=640/\Q (V.int n) H) (i8 (iP 0) jx)) (iP 2))) (GP AA.m9 E (i8 (tC (V.int 2)) (i8 (iP 1) jx))) uJ)
       (wy (oh (fun xs H Q=>∃a n,xs=[V.str a]/\PySem.intText? a=some n/\a.length<=640/\Q (V.int n) H) (i8 (iP 0) jx))) ⟨fun _ H'=>Q .gT H',Q,fun _ _=>True,fun _ _=>True⟩ [some (.str (ii wd)),some (.int p),some (.int hi),none] (fN H q1 (.lst ((wd.map isDigit).map V.bl))):=by
      intro hz;have hv:numeral wd=some (VbkdCore.valueOf wd):=by rw[BE,c3,hz,ai (by omega)];rfl
      have ht:=XM c3 vn (by omega);refine⟨_,Z,_,_,Z,ht,by rw[mz];omega,_,Z,_,_,Z,Z,_,Z,?_⟩
      by_cases c5:hi<VbkdCore.valueOf wd
      ·refine gc (ai (by omega)) ?_;refine⟨_,Z,_,_,Z,?_⟩;exact(qN _ hv c5).go s1
      ·refine gu (ae (by omega)) ?_;refine⟨_,Z,_,_,Z,ht,by rw[mz];omega,?_⟩;exact hq _ hv (by omega) _ s1
     by_cases c4:1<wd.length
     ·refine gc (ai (by omega)) ?_
      have hh:∃x r,wd=x::r:=by
       cases wd with
       |nil=>exact absurd Z vn
       |cons x r=>exact⟨x,r,Z⟩
      obtain⟨x,r,hx⟩:=hh;have Ql:isDigit x=true:=by rw[hx,cR,aH] at c3;exact c3.1
      have hsx:jl x=x:=(FI (by unfold isDigit at Ql;rw[Ql];rfl)).1;refine⟨_,Z,_,_,x,Z,Z,fZ (by rw[mz];omega),?_,Z,_,Z,?_⟩
      ·have hl0:(ii wd).cps.toList[0]? =some x:=by rw[FJ,hx,aB,hsx];rfl
       exact AR hl0
      have e0:(V.str ⟨#[x]⟩=V.str "0")↔x=48:=by
       rw[show(("0":Str))=gK (txt "0") from jr "0"];constructor
       ·intro z;have:=V.str.inj z;have:=congrArg (fun y:Str=>y.cps.toList) this;simpa [gK,txt] using this
       ·rintro rfl;rfl
      by_cases c6:x=48
      ·refine gc (ai (e0.mpr c6)) ?_;refine⟨_,Z,_,_,Z,?_⟩;refine(kD ?_).go s1;rw[BE,c3,hx,c6]
       have:((48::r).length==1)=false:=by
        rw[<-c6,<-hx];simpa using (show wd.length≠1 by omega)
       rw[this];simp
      ·refine gu (ae (fun z=>c6 (e0.mp z))) ?_;exact fin (by rw[hx];simp[c6])
     ·refine gu (ae (by omega)) ?_;refine gu Z ?_;exact fin (by rw[show wd.length=1 by omega];rfl)
    ·have zn:wd.all isDigit=false:=by simpa using c3
     refine gc (by rw[zn];rfl) ?_;refine⟨_,Z,_,_,Z,?_⟩;exact(kD (by rw[BE,zn];simp)).go s1
end
def iy(k:Key):Str:=gK (ju k)
theorem FK(k:Key):lI (ju k)=true:=by cases k<;>decide
theorem E6{w:List Nat}{k:Key}(h:nY w=some k):w=ju k:=by
 unfold nY at h;split at h
 ·rw[<-af h];assumption
 ·split at h
  ·rw[<-af h];assumption
  ·split at h
   ·rw[<-af h];assumption
   ·split at h
    ·rw[<-af h];assumption
    ·split at h
     ·rw[<-af h];assumption
     ·cases h
theorem ue:iy .jd="channel"/\iy .keep="keep"/\iy .buffer="buffer"/\iy .delay="delay"/\iy .gap="gap":=⟨(jr _).symm,(jr _).symm,(jr _).symm,(jr _).symm,(jr _).symm⟩
theorem Ag{j k:Key}:iy j=iy k↔j=k:=by
 unfold iy;rw[Gd];constructor
 ·intro h;cases j<;>cases k<;>first|rfl|(exfalso;revert h;decide)
 ·rintro rfl;rfl
theorem Ge{w:List Nat}{k:Key}(h:nY w=some k):ii w=iy k:=by rw[E6 h];exact Af (FK k)
theorem NS{w:List Nat}{k:Key}:ii w=iy k↔w=ju k:=yj (FK k)
def mO(AA:gv):Key->Addr
 |.jd=>AA.uf|.keep=>AA.uh|.buffer=>AA.ui|.delay=>AA.uj|.gap=>AA.um
def NT(AA:gv):List (L2.Key×V):=[(Sum.inr "channel",.ref AA.uf),(Sum.inr "keep",.ref AA.uh),(Sum.inr "buffer",.ref AA.ui),(Sum.inr "delay",.ref AA.uj),(Sum.inr "gap",.ref AA.um)]
theorem Gf(AA:gv)(w:List Nat):i6 (NT AA) (Sum.inr (ii w))=(nY w).map fun k=>V.ref (mO AA k):=by
 obtain⟨e1,e2,e3,e4,e5⟩:=ue;unfold NT;rw[<-e1,<-e2,<-e3,<-e4,<-e5]
 have step:∀(k:Key) (v:V) (r:List (L2.Key×V)),i6 ((Sum.inr (iy k),v)::r) (Sum.inr (ii w))=if w=ju k then some v else i6 r (Sum.inr (ii w)):=by
  intro k v r
  by_cases h:w=ju k
  ·rw[aw h];exact vO (p:=(Sum.inr (iy k),v)) (by rw[NS.mpr h])
  ·rw[am h];exact uu (p:=(Sum.inr (iy k),v)) (fun z=>h (NS.mp (Sum.inr.inj z).symm))
 rw[step,step,step,step,step];unfold nY
 by_cases h1:w=txt "channel"
 ·rw[aw (show w=ju .jd from h1),aw h1];rfl
 ·rw[am h1,am (show¬w=ju .jd from h1)]
  by_cases h2:w=txt "keep"
  ·rw[aw (show w=ju .keep from h2),aw h2];rfl
  ·rw[am h2,am (show¬w=ju .keep from h2)]
   by_cases h3:w=txt "buffer"
   ·rw[aw (show w=ju .buffer from h3),aw h3];rfl
   ·rw[am h3,am (show¬w=ju .buffer from h3)]
    by_cases h4:w=txt "delay"
    ·rw[aw (show w=ju .delay from h4),aw h4];rfl
    ·rw[am h4,am (show¬w=ju .delay from h4)]
     by_cases h5:w=txt "gap"
     ·rw[aw (show w=ju .gap from h5),aw h5];rfl
     ·rw[am h5,am (show¬w=ju .gap from h5)];rfl
def iN(b:Book):Key->Option (List Nat)
 |.jd=>none
 |.keep=>b.keep.map fun x=>[x.1,x.2]
 |.buffer=>b.buffer.map fun x=>[x.1,x.2.1,x.2.2.1,x.2.2.2]
 |.delay=>b.delay.map fun n=>[n]
 |.gap=>b.gap.map fun n=>[n]
theorem nQ(b:Book)(s:Str)(l:List Nat):(s,l)∈uF b↔∃k,s=iy k/\iN b k=some l:=by
 obtain⟨e1,e2,e3,e4,e5⟩:=ue;unfold uF;rw[<-e2,<-e3,<-e4,<-e5];simp only[aG];constructor
 ·rintro(((h|h)|h)|h)
  ·cases hb:b.keep with
   |none=>rw[hb] at h;cases h
   |some x=>rw[hb] at h;simp at h;exact⟨.keep,h.1,by rw[h.2];simp[iN,hb]⟩
  ·cases hb:b.buffer with
   |none=>rw[hb] at h;cases h
   |some x=>rw[hb] at h;simp at h;exact⟨.buffer,h.1,by rw[h.2];simp[iN,hb]⟩
  ·cases hb:b.delay with
   |none=>rw[hb] at h;cases h
   |some x=>rw[hb] at h;simp at h;exact⟨.delay,h.1,by rw[h.2];simp[iN,hb]⟩
  ·cases hb:b.gap with
   |none=>rw[hb] at h;cases h
   |some x=>rw[hb] at h;simp at h;exact⟨.gap,h.1,by rw[h.2];simp[iN,hb]⟩
 ·rintro⟨k,rfl,h⟩;cases k with
  |jd=>cases h
  |keep=>
   unfold iN at h;cases hb:b.keep with
   |none=>rw[hb] at h;cases h
   |some x=>rw[hb] at h;simp at h;subst h;simp
  |buffer=>
   unfold iN at h;cases hb:b.buffer with
   |none=>rw[hb] at h;cases h
   |some x=>rw[hb] at h;simp at h;subst h;simp
  |delay=>
   unfold iN at h;cases hb:b.delay with
   |none=>rw[hb] at h;cases h
   |some x=>rw[hb] at h;simp at h;subst h;simp
  |gap=>
   unfold iN at h;cases hb:b.gap with
   |none=>rw[hb] at h;cases h
   |some x=>rw[hb] at h;simp at h;subst h;simp
theorem Mp(b:Book)(k:Key):(iN b k).isSome=mf b k:=by
 cases k<;>simp[iN,mf]
theorem YD{ts:List (Str×Addr)}{s:Str}:(i6 (ts.map fun x=>((Sum.inr x.1:L2.Key),V.ref x.2)) (Sum.inr s))=(ts.find? fun x=>decide (x.1=s)).map fun x=>V.ref x.2:=by
 unfold i6;rw[List.find?_map,Option.map_map]
 congr 1
 congr 1
 funext x
 show decide ((Sum.inr x.1:L2.Key)=Sum.inr s)=_;exact N8 _ _
theorem lV.val{H:Hp}{ld:Addr}{ts:List (Str×Addr)}{b:Book}(h:lV H ld ts b)(k:Key):
 (iN b k=none/\i6 (ts.map fun x=>((Sum.inr x.1:L2.Key),V.ref x.2)) (Sum.inr (iy k))=none)\/∃l a,iN b k=some l/\H a=some (Hu l)/\i6 (ts.map fun x=>((Sum.inr x.1:L2.Key),V.ref x.2)) (Sum.inr (iy k))=some (.ref a):=by
 rw[YD];cases hf:ts.find? fun x=>decide (x.1=iy k) with
 |none=>
  left;refine⟨?_,Z⟩;cases ht:iN b k with
  |none=>rfl
  |some l=>
   obtain⟨a,h1,_⟩:=(h.all (iy k,l)).mp ((nQ b _ _).mpr ⟨k,Z,ht⟩);have:=List.find?_eq_none.mp hf _ h1;simp at this
 |some x=>
  right;have hx:=List.mem_of_find?_eq_some hf;have hs:x.1=iy k:=by have:=List.find?_some hf;simpa using this
  obtain⟨l,hl⟩:=h.only x hx;rw[hs] at hl;obtain⟨j,hj,ht⟩:=(nQ b _ _).mp hl;have:k=j:=Ag.mp hj;subst this;obtain⟨a,h1,h2⟩:=(h.all (iy k,l)).mp hl
  have ea:a=x.2:=by
   obtain⟨i,hi⟩:=b8.mp h1;obtain⟨i2,mJ⟩:=b8.mp hx;have e:i=i2:=G1 h.nd (by rw[au,hi];rfl) (by rw[au,mJ,Option.map_some,hs]);rw[e,mJ] at hi;exact(congrArg Prod.snd (af hi)).symm
  exact⟨l,x.2,ht,by rw[<-ea];exact h2,Z⟩
def oM:Key->Bool
 |.jd=>true
 |_=>false
def YE(AA:gv)(K:PySem.W.Frag):Sp:=fun vs H Q E=>∃(t:Addr) (w:List Nat) (p:Nat) (lc:Addr) (cs:List Addr) (ld:Addr) (ts:List (Str×Addr)) (b:Book),vs=[.ref t,.ref lc,.ref ld]/\H t=some (pq (w,p))/\H lc=some (.lst (cs.map V.ref))/\cs.length=b.channels.length/\lV H ld ts b/\
 (nY w=none->mI AA H E 1 p)/\∀k,nY w=some k->(mf b k=true->mI AA H E 4 p)/\(mf b k=false->oM k=true->b.channels.length=8->mI AA H E 5 p)/\(mf b k=false->¬(oM k=true/\b.channels.length=8)->Q .gT H)
section
variable {P:Program} {w:World} {K:PySem.W.Frag} {mg:Str->Option Value} {base:Heap} {AA:gv}
theorem RK:gQ ["first","channels","told","keyword","place"] ["first","channels","told"] (gM (fY 61)):=gY (by decide+kernel)
theorem RL(T:Tx P w K mg AA):gL P w K mg base (jG P w AA.m9) 3 AA.JD AA.JE ["first","channels","told"] (YE AA K):=by
 have mC:=AI (base:=base) T;have SC:=RK;refine T.zL.fn.p5 SC (fun vs H Q E h=> ?_) (fun gz A outer s H vs Q E hr h=> ?_)
 ·obtain⟨t,w,p,lc,cs,ld,ts,b,rfl,_⟩:=h;rfl
 ·obtain⟨t,wd,p,lc,cs,ld,ts,b,rfl,ht,Cr,mq,hT,kD,hqk⟩:=h;have hu:=wk hr
  refine⟨_,(fT (gm (i:=3) SC.nd Z (Or.inl Z) (hZ jI (pv 0) fX (fun _ _=>rfl)))
   (fT (gm (i:=4) SC.nd Z (Or.inl Z) (hZ jI (pv 0) fX (fun _ _=>rfl)))
   (fT (gZ (qv (Wd T.GS (pv 3) (m8 Z T.G6)))
     (fW (nP T.xc mC (hr.mono (by decide)) Z T.mM T.nW (fO (gA Z T.r6) (fO (pv 4) fQ))))
     ic)
   (fT (gZ (qv (Of hu (pv 3) (pv 2)))
     (fW (nP T.xc mC (hr.mono (by decide)) Z T.mM T.nW (fO (gA Z T.KJ) (fO (pv 4) fQ))))
     ic)
   (fW (gZ (PW.pt (A3 (ip nk (pv 3) ku (ij _)) (AO (ip nk (gW iM (by rfl) T.len aF (fO (pv 1) fQ)) (gA Z T.zQ) (ij _)))))
     (fW (nP T.xc mC (hr.mono (by decide)) Z T.mM T.nW (fO (gA Z T.Ti) (fO (pv 4) fQ))))
     ic)))))),?_⟩
  refine⟨_,Z,t,_,_,_,Z,Z,kg ht,iu (j:=0) Z Z,?_⟩;refine⟨_,Z,t,_,_,_,Z,Z,kg ht,iu (j:=1) Z Z,?_⟩;refine⟨_,Z,Sum.inr (ii wd),Z,_,Z,?_⟩;have ef:i6 [((Sum.inr "channel":L2.Key),V.ref AA.uf),(Sum.inr "keep",.ref AA.uh),(Sum.inr "buffer",.ref AA.ui),(Sum.inr "delay",.ref AA.uj),(Sum.inr "gap",.ref AA.um)] (Sum.inr (ii wd))=(nY wd).map fun k=>V.ref (mO AA k):=Gf AA wd
  rw[ef,Option.isSome_map];cases hk:nY wd with
  |none=>
   refine gc Z ?_;refine⟨_,Z,_,_,Z,?_⟩;exact(kD hk).go fR.kH
  |some k=>
   refine gu Z ?_;obtain⟨h4,h5,h0⟩:=hqk k hk;have ek:ii wd=iy k:=Ge hk;refine⟨_,Z,_,Z,ld,_,Z,lL.k (k:=Sum.inr (ii wd)) hT.dict,_,Z,?_⟩;rw[ek]
   have es:(i6 (ts.map fun x=>((Sum.inr x.1:L2.Key),V.ref x.2)) (Sum.inr (iy k))).isSome=mf b k:=by
    rw[<-Mp];rcases hT.val k with⟨z1,z2⟩|⟨l,a,z1,_,z2⟩
    ·rw[z1,z2];rfl
    ·rw[z1,z2];rfl
   rw[es];cases qe:mf b k with
   |true=>
    refine gc Z ?_;refine⟨_,Z,_,_,Z,?_⟩;exact(h4 qe).go fR.kH
   |false=>
    refine gu Z ?_;refine⟨_,Z,Z,_,Z,?_⟩
    have ec:decide (V.str (iy k)=V.str "channel")=oM k:=by
     rw[<-ue.1];have:(V.str (iy k)=V.str (iy .jd))↔k=.jd:=by rw[V.str.injEq];exact Ag
     cases k
     ·exact ai (this.mpr Z)
     all_goals exact ae (fun z=>by have:=this.mp z;cases this)
    rw[ec];cases hc:oM k with
    |false=>
     refine gu Z ?_;refine gu Z ?_;exact h0 qe (by rw[hc];simp)
    |true=>
     refine gc Z ?_;refine⟨_,Z,lc,_,Z,.inl (fS.of Cr),Z,_,Z,?_⟩;rw[ac,mq]
     by_cases c8:b.channels.length=8
     ·refine gc (ai (by rw[c8];rfl)) ?_;refine⟨_,Z,_,_,Z,?_⟩;exact(h5 qe hc c8).go fR.kH
     ·refine gu (ae (fun z=>c8 (by have:=V.int.inj z;omega))) ?_;exact h0 qe (fun z=>c8 z.2)
end
open VbkdCore (Fault)
open Vbkdaa (isName)
def mT:Due->V
 |.name=>.str "NAME"
 |.word k=>.str (gK k)
 |.num hi=>.int hi
def k8:im->V
 |.inl n=>.str (gK n)
 |.inr n=>.int n
theorem M0{P:Program}{w:World}{K:PySem.W.Frag}{mg:Str->Option Value}{AA:gv}(T:Tx P w K mg AA)(k:Key):iY K (mO AA k) ((jZ k).map mT):=by
 cases k with
 |jd=>
  have:=T.Xi;simp only[jr] at this;exact this
 |keep=>exact T.Xj
 |buffer=>
  have:=T.Xk;simp only[jr] at this;exact this
 |delay=>exact T.Xl
 |gap=>exact T.Xm
theorem NU(k:List Nat)(h:lI k=true):V.str (gK k)≠V.str "NAME":=by
 rw[show(("NAME":Str))=gK (txt "NAME") from jr "NAME"];intro z;have:=Gd.mp (V.str.inj z);rw[this] at h;revert h;decide
def G8:Due->Bool
 |.word k=>lI k
 |_=>true
theorem NV(k:Key):(jZ k).all G8=true:=by cases k<;>decide
theorem Gg(k:Key):(jZ k).length<=7/\1<=(jZ k).length:=by cases k<;>decide
theorem At{α:Type}{l:List α}{i:Nat}{x:α}(h:l[i]? =some x):l.drop i=x::l.drop (i+1):=by
 have hi:=(ap.mp h).1;rw[List.drop_eq_getElem_cons hi]
 congr 1
 exact(ap.mp h).2
theorem M1(e:Nat)(ns:List VbkdCore.Bytes)(ds:List Due)(h1 h2:Nat)(kw:VbkdCore.Bytes)(r:List j4)(vs us:List im)(h:iG e ns (ds++[.num h1,.word kw,.num h2]) r vs=.ok us):∃pre m n,us=pre++[.inr m,.inr n]:=by
 rw[Ex] at h;cases hd:iG e ns ds r vs with
 |error f=>rw[hd] at h;cases h
 |ok ws=>
  rw[hd] at h;simp only at h;generalize r.drop ds.length=q at h
  match q,h with
  |[],h=>simp[iG] at h
  |[a],h=>
   simp only[iG,jj] at h;split at h
   ·cases h
   ·cases h
  |[a,b],h=>
   simp only[iG] at h;split at h
   ·cases h
   ·split at h
    ·cases h
    ·cases h
  |a::b::c::q,h=>
   simp only[iG] at h;cases ha:jj ns (.num h1) a with
   |error f=>rw[ha] at h;cases h
   |ok va=>
    rw[ha] at h;simp only at h;cases hb:jj ns (.word kw) b with
    |error f=>rw[hb] at h;cases h
    |ok vb=>
     rw[hb] at h;simp only at h;cases hc:jj ns (.num h2) c with
     |error f=>rw[hc] at h;cases h
     |ok vc=>
      rw[hc] at h;simp only[Except.ok.injEq] at h
      have na:∃m,va=[.inr m]:=by
       simp only[jj] at ha;split at ha
       ·cases ha
       ·split at ha
        ·cases ha
        ·exact⟨_,(dN ha).symm⟩
      have nb:vb=[]:=by
       simp only[jj] at hb;split at hb
       ·exact(dN hb).symm
       ·cases hb
      have nc:∃n,vc=[.inr n]:=by
       simp only[jj] at hc;split at hc
       ·cases hc
       ·split at hc
        ·cases hc
        ·exact⟨_,(dN hc).symm⟩
      obtain⟨m,rfl⟩:=na;obtain⟨n,rfl⟩:=nc;subst nb;exact⟨ws,m,n,by rw[<-h];simp⟩
theorem YF(e:Nat)(ns:List VbkdCore.Bytes)(k:Key)(hk:qA k=true)(r:List j4)(us:List im)(h:iG e ns (jZ k) r []=.ok us):∃pre m n,us=pre++[.inr m,.inr n]:=by
 cases k with
 |jd=>exact M1 e ns [.name,.word (txt "pedestal"),.num 4095,.word (txt "on")] 4095 4095 (txt "off") r [] us h
 |buffer=>exact M1 e ns [.num 400,.word (txt "rate"),.num 50,.word (txt "high")] 400 400 (txt "low") r [] us h
 |keep=>cases hk
 |delay=>cases hk
 |gap=>cases hk
def ZT(AA:gv)(K:PySem.W.Frag):Sp:=fun vs H Q E=>∃(q:Addr) (ws:List Addr) (w0:j4) (r:List j4) (e:Nat) (a:Addr) (ns:List (List Nat)) (k:Key),vs=[.ref q,.int e,.ref a]/\H q=some (.lst (ws.map V.ref))/\iH H pq ws (w0::r)/\nY w0.1=some k/\fS K H a (ns.map fun n=>V.str (gK n))/\(∀n∈ns,lI n=true)/\
 (∀x∈r,x.1≠ []/\x.1.length<=2000)/\r.length<=2000/\(∀f,jn e ns (qA k) (jZ k) r=.error f->mI AA H E f.kind f.place)/\
 ∀us,jn e ns (qA k) (jZ k) r=.ok us->∀(H':Hp) (p:Addr),fR H H'->H p=none->H' p=some (.lst (us.map k8))->Q (.ref p) H'
section
variable {P:Program} {w:World} {K:PySem.W.Frag} {mg:Str->Option Value} {base:Heap} {AA:gv}
theorem SY:gQ ["words","end","names","keyword","form","values","number","due","word","place"] ["words","end","names"] (gM (fY 62)):=gY (by decide+kernel)
theorem SZ(T:Tx P w K mg AA):gL P w K mg base (jG P w AA.m9) 4 AA.Kb AA.Kc ["words","end","names"] (ZT AA K):=by
 have mC:=AI (base:=base) T;have UV:=Ub (base:=base) T;have To:=SX (base:=base) T;have SC:=SY;refine T.zY.fn.p5 SC (fun vs H Q E h=> ?_) (fun gz A outer s H vs Q E hr h=> ?_)
 ·obtain⟨q,ws,w0,r,e,a,ns,k,rfl,_⟩:=h;rfl
 ·obtain⟨q,ws,w0,r,e,a,ns,k,rfl,vo,hW,hk,hA,yW,zo,xm,hE,hq⟩:=h
  refine⟨_,(fT (gm (i:=3) SC.nd Z (Or.inl Z) (hZ jI (hZ jc (pv 0) fX (fun _ _=>rfl)) fX (fun _ _=>rfl)))
   (fT (gm (i:=4) SC.nd Z (Or.inl Z) (ra T.GS (m8 Z T.G6) (pv 3) (fun _ _=>rfl)))
   (fT (gm (i:=5) SC.nd Z (Or.inl Z) (gJ fQ))
   (fT (lG O7 Z (Xe Z T.enumerate (fO (pv 4) fQ) (yf fX ym)) (rf Z (lT (iJ (i:=6) SC.nd Z (Or.inl Z)) (lT (iJ (i:=7) SC.nd Z (Or.inl Z)) qZ)))
     (fT (gZ (ip nk (pv 6) (gW iM (by rfl) T.len aF (fO (pv 0) fQ)) (ij _))
       (fW (nP T.xc mC (hr.mono (by decide)) Z T.mM T.nW (fO (gA Z T.r6) (fO (pv 1) fQ))))
       ic)
     (fT (gm (i:=8) SC.nd Z (Or.inl Z) (hZ jI (hZ jc (pv 0) (pv 6) (fun _ _=>rfl)) fX (fun _ _=>rfl)))
     (fT (gm (i:=9) SC.nd Z (Or.inl Z) (hZ jI (hZ jc (pv 0) (pv 6) (fun _ _=>rfl)) fX (fun _ _=>rfl)))
     (fW (gZ (ip nk (pv 7) (uB Z T.O9) (ij _))
       (fW (iS (iU ax aI aL kF (pv 5) (fO (ie UV (hr.mono (by decide)) Z T.Ao.mg T.Ao.fn.kp T.Ao.b .nil Bo (fO (pv 8) (fO (pv 9) (fO (pv 2) fQ)))) fQ))))
       (fW (gZ (lU (gW Lu (by rfl) T.isinstance boot_isinstance (fO (pv 7) (fO (Nl (v:=V.ty "int") Z T.int boot_int Z) fQ))))
         (fW (iS (iU ax aI aL kF (pv 5) (fO (ie To (hr.mono (by decide)) Z T.zZ.mg T.zZ.fn.kp T.zZ.b .nil Bo (fO (pv 8) (fO (pv 9) (fO (pv 7) fQ)))) fQ))))
         (fW (gZ (ip rg (pv 8) (pv 7) (ij _))
           (fW (nP T.xc mC (hr.mono (by decide)) Z T.mM T.nW (fO (gA Z T.r6) (fO (pv 9) fQ))))
           ic))))))))))
   (fT (gZ (PW.pt (A3 (ip xZ (pv 3) (m8 Z T.Ys) (by with_unfolding_all Z)) (AO (ip mR (hZ jc (pv 5) (qC qy fX) (fun _ _=>rfl)) (hZ jc (pv 5) (qC qy fX) (fun _ _=>rfl)) (ij _)))))
     (fW (nP T.xc mC (hr.mono (by decide)) Z T.mM T.nW (fO (gA Z T.aaA) (fO (hZ jI (hZ jc (pv 0) (gW iM (by rfl) T.len aF (fO (pv 4) fQ)) (fun _ _=>rfl)) fX (fun _ _=>rfl)) fQ))))
     ic)
   (fT (gZ (ip mR (gW iM (by rfl) T.len aF (fO (pv 0) fQ)) (gB jh (gW iM (by rfl) T.len aF (fO (pv 4) fQ)) fX) (ij _))
     (fW (nP T.xc mC (hr.mono (by decide)) Z T.mM T.nW (fO (gA Z T.r6) (fO (hZ jI (hZ jc (pv 0) (gB jh (gW iM (by rfl) T.len aF (fO (pv 4) fQ)) fX) (fun _ _=>rfl)) fX (fun _ _=>rfl)) fQ))))
     ic)
   (fW (gD (pv 5))))))))),?_⟩
  have wl:ws.length=r.length+1:=by rw[hW.1];rfl
  have Bu:∀(Hx:Hp) (j:Nat) (x:j4),fR H Hx->(w0::r)[j]? =some x->∃t,(ws.map V.ref)[j]? =some (V.ref t)/\Hx t=some (.tup [.str (ii x.1),.int x.2]):=by
   intro Hx j x sx hx;obtain⟨t,h1,h2⟩:=hW.addr hx;exact⟨t,by rw[au,h1];rfl,sx _ _ h2⟩
  obtain⟨t0,Cs,vn⟩:=Bu H 0 w0 fR.kH Z;have ek:ii w0.1=iy k:=Ge hk;refine⟨_,Z,q,_,_,_,Z,Z,fS.of vo,iu (j:=0) Z Cs,t0,_,_,_,Z,Z,kg vn,iu (j:=0) Z Z,?_⟩;have ef:i6 [((Sum.inr "channel":L2.Key),V.ref AA.uf),(Sum.inr "keep",.ref AA.uh),(Sum.inr "buffer",.ref AA.ui),(Sum.inr "delay",.ref AA.uj),(Sum.inr "gap",.ref AA.um)] (Sum.inr (ii w0.1))=some (V.ref (mO AA k)):=(Gf AA w0.1).trans (by rw[hk];rfl);refine⟨_,Z,Sum.inr (ii w0.1),_,Z,ef,?_⟩;refine⟨aN _,fun q1 n1=> ?_⟩;have s1:fR H (fN H q1 (.lst [])):=fR.new n1;have kt:=M0 T k;obtain⟨IB,IC⟩:=Gg k;have zp:=NV k;generalize Qm:jZ k=ds at kt IB IC zp hE hq;have Qn:∀f,iG e ns ds r []=.error f->jn e ns (qA k) ds r=.error f:=fun f hf=>by unfold jn;rw[hf]
  refine⟨_,Z,mO AA k,_,Z,Z,kt.sq,NE (sq:=fun H xs=>iO K H (mO AA k) xs) (xs:=ds.map mT) (fun i σ H'=>∃v6 v7 v8 v9 us,σ=[some (.ref q),some (.int e),some (.ref a),some (.str (ii w0.1)),some (.ref (mO AA k)),some (.ref q1),v6,v7,v8,v9]/\fR H H'/\H' q1=some (.lst (us.map k8))/\i<=r.length/\us.length<=i/\iG e ns ds r []=iG e ns (ds.drop i) (r.drop i) us)
   ⟨none,none,none,none,[],Z,s1,fP,aN _,aA _,Z⟩ (fun i σ H' _ _=>kt.sq) ?_ ?_⟩
  ·rintro i x p σ H2 hx ⟨v6,v7,v8,v9,us,rfl,s2,g2,Qo,Qp,mG⟩ np;obtain⟨d,hd,rfl⟩:=kG hx;have hi:i<ds.length:=(ap.mp hd).1;have dk:G8 d=true:=a9.mp zp d (aS hd);have s3:fR H (fN H2 p (.tup [.int ((i+1:Nat):Int),mT d])):=s2.more np;have sp:=fR.new (H:=H2) (o:=.tup [.int ((i+1:Nat):Int),mT d]) np;have oy:(fN H2 p (.tup [.int ((i+1:Nat):Int),mT d])) p=some (.tup [.int ((i+1:Nat):Int),mT d]):=fP;have g3:=sp _ _ g2;generalize fN H2 p (.tup [.int ((i+1:Nat):Int),mT d])=H3 at s3 oy g3;rw[At hd] at mG;refine⟨p,_,Z,kg oy,Z,_,_,Z,_,_,Z,Z,?_⟩;refine⟨_,Z,_,Z,q,_,Z,.inl (fS.of (s3 _ _ vo)),Z,_,Z,?_⟩;rw[ac,wl]
   by_cases c1:i=r.length
   ·refine gc (ai (by rw[c1])) ?_;refine⟨_,Z,_,_,Z,?_⟩;rw[c1,eA] at mG;exact(hE ⟨1,e⟩ (Qn _ (by rw[mG];rfl))).go s3
   ·refine gu (ae (fun z=>c1 (by have:=V.int.inj z;omega))) ?_;have abE:i<r.length:=by omega
    have pA:r[i]? =some r[i]:=ak abE;generalize Qq:r[i]=x at pA;have Ct:=zo x (aS pA);rw[At pA] at mG;obtain⟨tw,xn,wG⟩:=Bu H3 (i+1) x s3 (by simpa using pA);refine⟨_,Z,_,Z,q,_,_,_,Z,Z,fS.of (s3 _ _ vo),iu (j:=i+1) Z xn,tw,_,_,_,Z,Z,kg wG,iu (j:=0) Z Z,?_⟩;refine⟨_,Z,_,Z,q,_,_,_,Z,Z,fS.of (s3 _ _ vo),iu (j:=i+1) Z xn,tw,_,_,_,Z,Z,kg wG,iu (j:=1) Z Z,?_⟩;have next:∀v,jj ns d x=.ok v->iG e ns ds r []=iG e ns (ds.drop (i+1)) (r.drop (i+1)) (us++v):=fun v hv=>by rw[mG];simp only[iG,hv]
    have bad:∀f,jj ns d x=.error f->mI AA H E f.kind f.place:=fun f hf=>hE f (Qn f (by rw[mG];simp only[iG,hf]))
    have Qr:H q1=none:=n1;cases d with
    |name=>
     refine⟨_,Z,Z,_,Z,?_⟩;refine gc (ai Z) ?_;refine⟨_,Z,.inl ⟨Z,_,fS.of g3⟩,_,Z,_,Z,_,Z,x.1,x.2,a,ns,Z,s3.seq hA,yW,Ct.1,Ct.2,fun hn=> ?_,fun hn hc=> ?_,fun hn hc H4 s4=> ?_⟩
     ·exact(bad ⟨1,x.2⟩ (by unfold jj;simp only;rw[aw hn])).at s3
     ·exact(bad ⟨4,x.2⟩ (by unfold jj;simp only;rw[am (by rw[hn];simp),aw hc])).at s3
     ·refine⟨q1,_,_,Z,Z,s4 _ _ g3,iV (by rw[ac];omega),?_⟩;refine⟨some (.int ((i+1:Nat):Int)),some (mT .name),some (.str (ii x.1)),some (.int x.2),us++[.inl x.1],Z,(s3.trans s4).put Qr,?_,by omega,by simp;omega,next _ (by unfold jj;simp only;rw[am (by rw[hn];simp),am (by rw[hc];simp)])⟩;rw[fP,ao];rfl
    |num hi=>
     refine⟨_,Z,Z,_,Z,?_⟩;refine gu (ae (by intro z;cases z)) ?_;refine⟨_,Z,_,Z,.inl ⟨_,Z⟩,_,Z,?_⟩;refine gc Z ?_;refine⟨_,Z,.inl ⟨Z,_,fS.of g3⟩,_,Z,_,Z,_,Z,x.1,x.2,hi,Z,Ct.1,Ct.2,fun hn=> ?_,fun n hn hc=> ?_,fun n hn hc H4 s4=> ?_⟩
     ·exact(bad ⟨1,x.2⟩ (by unfold jj;simp only;rw[hn])).at s3
     ·exact(bad ⟨2,x.2⟩ (by unfold jj;simp only;rw[hn];simp only;rw[aw hc])).at s3
     ·refine⟨q1,_,_,Z,Z,s4 _ _ g3,iV (by rw[ac];omega),?_⟩;refine⟨some (.int ((i+1:Nat):Int)),some (mT (.num hi)),some (.str (ii x.1)),some (.int x.2),us++[.inr n],Z,(s3.trans s4).put Qr,?_,by omega,by simp;omega,next _ (by unfold jj;simp only;rw[hn];simp only;rw[am (by omega)])⟩;rw[fP,ao];rfl
    |word kw=>
     refine⟨_,Z,Z,_,Z,?_⟩;refine gu (ae (NU kw dk)) ?_;refine⟨_,Z,_,Z,.inr ⟨_,Z⟩,_,Z,?_⟩;refine gu Z ?_;refine⟨_,Z,_,Z,Z,_,Z,?_⟩;have ew:(V.str (ii x.1)=V.str (gK kw))↔x.1=kw:=by rw[V.str.injEq];exact yj dk
     by_cases c2:x.1=kw
     ·refine gu (by rw[Bool.not_eq_false'];exact ai (ew.mpr c2)) ?_;exact⟨some (.int ((i+1:Nat):Int)),some (mT (.word kw)),some (.str (ii x.1)),some (.int x.2),us,Z,s3,g3,by omega,by omega,by rw[next [] (by unfold jj;simp only;rw[aw c2]),bc]⟩
     ·refine gc (by rw[cG];exact ae (fun z=>c2 (ew.mp z))) ?_;refine⟨_,Z,_,_,Z,?_⟩;exact(bad ⟨1,x.2⟩ (by unfold jj;simp only;rw[am c2])).go s3
  ·rintro σ H2 ⟨v6,v7,v8,v9,us,rfl,s2,g2,Qo,Qp,mG⟩;rw[ac] at Qo Qp mG;rw[eA] at mG;have gj:iG e ns ds r []=.ok us:=by rw[mG];cases r.drop ds.length<;>rfl
   have w9:=(AH e ns ds r [] us gj).2;have ID:iO K H2 (mO AA k) (ds.map mT):=kt.sq
   have fin:(¬(qA k=true/\numOf us[us.length-2]? <numOf us[us.length-1]?))->
    jS (uR (sH (kA (kY fun i j=>V.bl (decide (j<i))) (oh (fun xs H Q=>∃p ys,xs=[V.ref p]/\(fS K H p ys\/iO K H p ys)/\Q (V.int (ys.length:Nat)) H) (i8 (iP 0) jx)) (kA (kY fun i j=>V.int (i+j)) (oh (fun xs H Q=>∃p ys,xs=[V.ref p]/\(fS K H p ys\/iO K H p ys)/\Q (V.int (ys.length:Nat)) H) (i8 (iP 4) jx)) (tC (V.int 1)))))
     (GP AA.m9 E (i8 (tC (V.int 1)) (i8 (kA (wA K) (kA (wz K) (iP 0) (kA (kY fun i j=>V.int (i+j)) (oh (fun xs H Q=>∃p ys,xs=[V.ref p]/\(fS K H p ys\/iO K H p ys)/\Q (V.int (ys.length:Nat)) H) (i8 (iP 4) jx)) (tC (V.int 1)))) (tC (V.int 1))) jx))) uJ) (wy (iP 5)) ⟨fun _ H'=>Q .gT H',Q,fun _ _=>True,fun _ _=>True⟩
     [some (.ref q),some (.int e),some (.ref a),some (.str (ii w0.1)),some (.ref (mO AA k)),some (.ref q1),v6,v7,v8,v9] H2:=by
    intro tE;refine⟨_,Z,q,_,Z,.inl (fS.of (s2 _ _ vo)),_,Z,mO AA k,_,Z,.inr ID,_,_,Z,Z,_,_,Z,Z,_,Z,?_⟩;rw[ac,ac,wl]
    by_cases c1:ds.length<r.length
    ·refine gc (ai (by omega)) ?_;have pA:r[ds.length]? =some r[ds.length]:=ak c1;generalize Qq:r[ds.length]=x at pA;obtain⟨tw,xn,wG⟩:=Bu H2 (ds.length+1) x s2 (by simpa using pA);refine⟨_,Z,_,Z,mO AA k,_,Z,.inr ID,_,_,Z,Z,q,_,_,_,Z,Z,fS.of (s2 _ _ vo),iu (j:=ds.length+1) (by rw[ac];omega) xn,tw,_,_,_,Z,Z,kg wG,iu (j:=1) Z Z,_,_,Z,?_⟩;refine(hE ⟨1,x.2⟩ ?_).go s2;unfold jn;rw[gj];simp only;rw[am tE,pA]
    ·refine gu (ae (by omega)) ?_;refine⟨_,Z,?_⟩;refine hq us ?_ H2 q1 s2 n1 g2;unfold jn;rw[gj];simp only;rw[am tE,bA (by omega)]
   have eo:[V.str "channel",V.str "buffer"]=([txt "channel",txt "buffer"].map fun k=>V.str (gK k)):=by simp only[aB,cg,<-jr]
   have ko:=T.Xn;rw[eo] at ko;refine⟨_,Z,AA.Fm,_,Z,.inr ko.sq,Z,As _,_,Z,?_⟩;show(if pc (.str (ii w0.1)) ([txt "channel",txt "buffer"].map fun k=>V.str (gK k))=true then _ else _);rw[ye w0.1 [txt "channel",txt "buffer"] (by decide)]
   have ec:[txt "channel",txt "buffer"].contains w0.1=qA k:=by
    rw[E6 hk];cases k<;>decide
   rw[ec];cases IE:qA k with
   |false=>
    refine gu Z ?_;refine gu Z ?_;exact fin (by rw[IE];simp)
   |true=>
    refine gc Z ?_;obtain⟨pre,m,n,tH⟩:=YF e ns k IE r us (by rw[Qm];exact gj);have ul:us.length=pre.length+2:=by rw[tH];simp
    have e1:us[us.length-1]? =some (.inr n):=by rw[ul,tH];simp
    have e2:us[us.length-2]? =some (.inr m):=by rw[ul,tH];simp
    have a1:mo (us.map k8) (-1)=some (V.int n):=wa (k:=1) (by decide) (by rw[ac];omega) (by rw[ac,au,e1];rfl);have a2:mo (us.map k8) (-2)=some (V.int m):=wa (k:=2) (by decide) (by rw[ac];omega) (by rw[ac,au,e2];rfl);refine⟨_,Z,_,Z,q1,_,_,_,Z,Z,fS.of g2,a1,_,Z,_,Z,q1,_,_,_,Z,Z,fS.of g2,a2,_,_,Z,Z,_,Z,?_⟩;have en:(numOf us[us.length-2]? <numOf us[us.length-1]?)↔m<n:=by rw[e1,e2];rfl
    by_cases c3:m<n
    ·refine gc (ai (by omega)) ?_;have pA:r[ds.length-1]? =some (r[ds.length-1]'(by omega)):=ak (by omega);generalize Qq:r[ds.length-1]'(by omega)=x at pA;obtain⟨tw,xn,wG⟩:=Bu H2 ds.length x s2 (by rw[show ds.length=(ds.length-1)+1 by omega];simpa using pA);refine⟨_,Z,_,Z,mO AA k,_,Z,.inr ID,q,_,_,_,Z,Z,fS.of (s2 _ _ vo),iu (j:=ds.length) (by rw[ac]) xn,tw,_,_,_,Z,Z,kg wG,iu (j:=1) Z Z,_,_,Z,?_⟩;refine(hE ⟨6,x.2⟩ ?_).go s2;unfold jn;rw[gj];simp only;rw[aw ⟨IE,en.mpr c3⟩,pA];rfl
    ·refine gu (ae (by omega)) ?_;exact fin (fun z=>c3 (en.mp z.2))
end
open Vbkdaa (encoded bitsOf keptOf frameBits width signs)
def XN(AA:gv):Sp:=fun vs H Q _=>∃(L:gO) (b:Book) (m:RS) (t i:Nat),vs=[.ref L.r,.int t,.int i]/\ik AA H L b m/\lQ b m/\i<b.channels.length/\∀H',fR H H'->Q (.bl (ni b m.highs t i)) H'
def YG(AA:gv):Sp:=fun vs H Q _=>∃(L:gO) (b:Book) (m:RS) (t:Nat),vs=[.ref L.r,.int t]/\ik AA H L b m/\lQ b m/\t<m.samples.length/\∀H' p,fR H H'->H p=none->H' p=some (.lst ((lC b m.highs m.samples t).map oV))->Q (.ref p) H'
section
variable {P:Program} {w:World} {K:PySem.W.Frag} {mg:Str->Option Value} {base:Heap} {AA:gv}
theorem RW:gQ ["self","crossing","place","first","end","highs"] ["self","crossing","place"] (gM (i0 (fY 35) 11)):=gY (by decide+kernel)
theorem JG(T:Tx P w K mg AA):gL P w K mg base gU 1 AA.Dh AA.Di ["self","crossing","place"] (XN AA):=by
 have SC:=RW;refine T.R5.ok SC (fun vs H Q E h=> ?_) (fun gz A outer s H vs Q E hr h=> ?_)
 ·obtain⟨L,b,m,t,i,rfl,_⟩:=h;rfl
 ·obtain⟨L,b,m,t,i,rfl,hR,hF,hi,hq⟩:=h
  refine⟨_,(fT (gm (i:=3) SC.nd Z (Or.inl Z) (gW (r9 Z) (by rfl) T.max fC (fO fX (fO (gB jL (pv 1) (gf (gf (pv 0) Z) Z)) fQ))))
   (fT (gm (i:=4) SC.nd Z (Or.inl Z) (gB jh (gB jh (pv 1) (gf (gf (pv 0) Z) Z)) fX))
   (fW (gD (gW (Zq Z) (by rfl) T.any boot_any (fO (mi (own:=[("highs",5)]) Z SC.nd (md (oE (r:=Hl K) oH (show PE _ _ (yx K _ _) from gf (pv 0) Z) (kq (pv 3)) (kq (pv 4)))) (lD (by kernel_rfl)) (fun s H C cl fp=>(iJ (i:=5) SC.nd Z (Or.inl Z) (.inr Z))) (fun s H C cl fp=>me) (fun s H C cl fp=>(hZ (r:=wz K) jc (pv 5) (pv 2) (fun _ _=>rfl)))) fQ)))))),?_⟩
  refine⟨_,Z,_,Z,L.r,_,L.dx,_,_,Z,hR.ins,T.gI,T.lz,Z,L.S.s,_,L.S.dx,_,_,Z,hR.set.ins,T.io,T.Dn,Z,_,_,Z,Z,_,_,Z,?_⟩;refine⟨_,Z,_,Z,L.r,_,L.dx,_,_,Z,hR.ins,T.gI,T.lz,Z,L.S.s,_,L.S.dx,_,_,Z,hR.set.ins,T.io,T.t5,Z,_,_,Z,Z,_,_,Z,Z,?_⟩;have e1:(if (t:Int)-(behind b:Int)>0 then(t:Int)-(behind b:Int) else 0)=((t-behind b:Nat):Int):=by split<;>omega
  have e2:(t:Int)+(ahead b:Int)+1=((t+ahead b+1:Nat):Int):=by omega
  generalize hc:(m.highs.take (t+ahead b+1)).drop (t-behind b)=wH;have BB:((m.highs.drop (t-behind b)).take (t+ahead b+1-(t-behind b)))=wH:=by rw[<-hc,List.drop_take]
  refine⟨_,Z,L.r,_,L.dx,_,_,Z,hR.ins,T.gI,T.t7,Z,_,Z,_,Z,_,Z,_,Z,L.lh,_,Z,fS.of hR.i5,fun q1 n1=> ?_⟩;have e3:j0 (L.gE.map V.ref) (some (if (t:Int)-(behind b:Int)>0 then(t:Int)-(behind b:Int) else 0)) (some ((t:Int)+(ahead b:Int)+1))=((L.gE.drop (t-behind b)).take (t+ahead b+1-(t-behind b))).map V.ref:=by rw[e1,e2,sy,<-cq,<-b9]
  rw[e3];generalize hA:(L.gE.drop (t-behind b)).take (t+ahead b+1-(t-behind b))=as;have abF:as.length=wH.length:=by rw[<-hA,<-BB,aD,aD,aW,aW,hR.gE.1]
  have abG:∀(j:Nat) (x:Addr),as[j]? =some x->∃h,wH[j]? =some h/\H x=some (.lst (h.map V.bl))/\h.length=b.channels.length:=fun j x hx=>by
   have hj:j<as.length:=(ap.mp hx).1;have pB:j<t+ahead b+1-(t-behind b):=by rw[<-hA,aD] at hj;omega
   rw[<-hA,dr pB,cZ] at hx;obtain⟨h,h1,h2⟩:=hR.gE.get hx;refine⟨h,?_,h2,hF.hr _ (aS h1)⟩;rw[<-BB,dr pB,cZ];exact h1
  have alt:as.length<=1000:=by rw[<-hA,aD,aW];have:=hF.h;have:=hR.gE.1;omega
  have s1:fR H (fN H q1 (.lst (as.map V.ref))):=fR.new n1;generalize Cf:fN H q1 (.lst (as.map V.ref))=H1 at s1;have g1:H1 q1=some (.lst (as.map V.ref)):=by rw[<-Cf];exact fP
  refine⟨q1,Z,⟨_,fS.of g1⟩,fun q2 n2=> ?_⟩;have nq:q1≠q2:=gh g1 n2;refine sw (K:=K) (a:=q1) (xs:=as.map V.ref) (fun j H'=>H'=fN H1 q2 (.lst (((wH.take j).map fun h=>h.getD i false).map V.bl))) Z (fun j H' _ e=>by rw[e];exact fS.of (by rw[fU nq];exact g1)) ?_ ?_
  ·rintro j x H' hx rfl;rw[au] at hx;cases hy:as[j]? with
   |none=>rw[hy] at hx;cases hx
   |some y=>
    rw[hy] at hx;have ex:x=V.ref y:=(af hx).symm;subst ex;obtain⟨h,h1,h2,h3⟩:=abG j y hy;have rN:(fN H1 q2 (.lst (((wH.take j).map fun h=>h.getD i false).map V.bl))) y=some (.lst (h.map V.bl)):=by rw[fU (gh (s1 _ _ h2) n2)];exact s1 _ _ h2
    have mJ:i<h.length:=by omega
    refine⟨Z,?_⟩;refine⟨_,Z,_,Z,y,_,_,_,Z,Z,fS.of rN,iu (j:=i) Z (by rw[au,ak mJ];rfl),_,fP,?_,?_⟩
    ·rw[ac,ac,aD];exact iV (by omega)
    ·rw[jo,bC,h1,ao,ao]
     congr 3
     show[V.bl h[i]]=[V.bl (h.getD i false)];rw[aE,ak mJ];rfl
  ·rintro H' rfl;rw[ac,abF,aT];refine⟨q2,_,Z,fS.of fP,?_⟩
   have e4:(wH.map fun h=>h.getD i false).any id=ni b m.highs t i:=by
    unfold ni;rw[hc,fi];rfl
   rw[e4];exact hq _ (s1.more n2)
theorem Re:gQ ["self","crossing","samples","place","sample"] ["self","crossing"] (gM (i0 (fY 35) 10)):=gY (by decide+kernel)
theorem Rf(T:Tx P w K mg AA):gL P w K mg base gU 2 AA.CT AA.CU ["self","crossing"] (YG AA):=by
 have Dj:=JG (base:=base) T;have SC:=Re;refine T.Rg.ok SC (fun vs H Q E h=> ?_) (fun gz A outer s H vs Q E hr h=> ?_)
 ·obtain⟨L,b,m,t,rfl,_⟩:=h;rfl
 ·obtain⟨L,b,m,t,rfl,hR,hF,ht,hq⟩:=h
  refine⟨_,(fT (gm (i:=2) SC.nd Z (Or.inl Z) (hZ jc (gf (pv 0) Z) (pv 1) (fun _ _=>rfl)))
   (fW (gD (mi (own:=[("place",3),("sample",4)]) Z SC.nd (yh Z T.enumerate (fO (pv 2) fQ)) (lD (by kernel_rfl)) (fun s H C cl fp=>(show PG _ _ (OT K 2 _) from rf Z (lT (iJ (i:=3) SC.nd Z (Or.inl Z) (.inr Z)) (lT (iJ (i:=4) SC.nd Z (Or.inl Z) (.inr Z)) qZ)))) (fun s H C cl fp=>me) (fun s H C cl fp=>(yc (lU (oG (pv 0) T.gI T.JY Dj (hr.mono (by decide)) T.JO .nil gH (fO (pv 1) (fO (pv 3) fQ)))) (pv 4) uE)))))),?_⟩
  have hs:m.samples[t]? =some m.samples[t]:=ak ht;generalize hS:m.samples[t]=sl at hs;obtain⟨a,ha,Qs⟩:=hR.rows.addr hs;have px:sl.length=b.channels.length:=hF.sr _ (aS hs);have iD:=hR.set.iD;refine⟨_,Z,L.r,_,L.dx,_,_,Z,hR.ins,T.gI,T.Dm,Z,_,Z,L.ls,_,_,_,Z,Z,fS.of hR.jR,iu (j:=t) Z (by rw[au,ha];rfl),?_⟩
  have vf:∀j y,sl[j]? =some y->(lC b m.highs m.samples t).take (j+1)=(lC b m.highs m.samples t).take j++[if ni b m.highs t j=true then some y else none]:=fun j y hy=>by
   rw[bC]
   congr 1
   unfold lC;rw[aE,hs];simp only[Option.getD_some];rw[au,List.getElem?_zipIdx,hy];simp
  have Qt:(lC b m.highs m.samples t).length=sl.length:=by unfold lC;rw[aE,hs];simp
  refine⟨_,Z,a,_,Z,fS.of Qs,fun q1 n1=> ?_⟩;refine Yz (K:=K) (a:=a) (xs:=sl.map nV) (fun j H'=>fR H H'/\H' q1=some (.lst (((lC b m.highs m.samples t).take j).map oV))) ⟨fR.new n1,fP⟩ (fun j H' _ e=>fS.of (e.1 _ _ Qs)) ?_ ?_
  ·rintro j x p H2 hx ⟨s2,g2⟩ np;rw[au] at hx;cases hy:sl[j]? with
   |none=>rw[hy] at hx;cases hx
   |some y=>
    rw[hy] at hx;have ex:x=nV y:=(af hx).symm;subst ex;have hj:j<sl.length:=(ap.mp hy).1;have s3:fR H (fN H2 p (.tup [.int (j:Nat),nV y])):=s2.more np;have nq:q1≠p:=gh g2 np;refine⟨p,_,Z,kg fP,Z,_,_,Z,_,_,Z,Z,Z,?_⟩;have kC:=hR.same s3;refine⟨_,Z,L.r,L.dx,_,Z,kC.ins,Z,_,Z,_,Z,L,b,m,t,j,Z,kC,hF,by omega,fun H4 s4=>⟨_,Z,?_⟩⟩;have g4:H4 q1=some (.lst (((lC b m.highs m.samples t).take j).map oV)):=s4 _ _ (by rw[fU nq];exact g2);have hz:(((lC b m.highs m.samples t).take j).map oV).length<sizeLine:=by rw[ac,aD];exact iV (by omega)
    rw[vf j y hy];cases c:ni b m.highs t j with
    |true=>
     refine gc Z ⟨_,Z,_,g4,hz,(s3.trans s4).put n1,?_⟩;rw[fP,ao];rfl
    |false=>
     refine gu Z ⟨_,g4,hz,(s3.trans s4).put n1,?_⟩;rw[fP,ao];rfl
  ·rintro H2 ⟨s2,g2⟩;rw[ac,aV (by omega)] at g2;exact hq H2 q1 s2 n1 g2
end
theorem GC{α β γ:Type}(f:α->β->γ):∀(l:List α) (l2:List β) (x:α) (y:β),l.length=l2.length->List.zipWith f l l2++[f x y]=List.zipWith f (l++[x]) (l2++[y])
 |[],[],x,y,_=>rfl
 |a::l,b::l2,x,y,h=>by
  simp only[bL,cQ];rw[GC f l l2 x y (by simpa using h)]
theorem M3{α β:Type}(l:List α)(l2:List β)(x:α)(y:β)(h:l.length=l2.length):(l++[x]).zip (l2++[y])=l.zip l2++[(x,y)]:=(GC Prod.mk l l2 x y h).symm
theorem XQ(fs:List (Nat×Bool×List Nat))(ts:List Addr)(t:Nat)(h:∀x∈fs,x.1≠t):i6 (List.zipWith (fun(x:Nat×Bool×List Nat) (a:Addr)=>((Sum.inl (x.1:Int):Key),V.ref a)) fs ts) (Sum.inl (t:Int))=none:=by
 induction fs generalizing ts with
 |nil=>rfl
 |cons x r ih=>
  cases ts with
  |nil=>rfl
  |cons a r2=>
   rw[cQ,uu (by
    intro z;have:=Sum.inl.inj z;exact h x (by simp) (by omega))]
   exact ih _ fun y hy=>h y (by simp[hy])
theorem ik.putN{AA:gv}{H:Hp}{L:gO}{b:Book}{m:RS}(h:ik AA H L b m)(g k:Nat)(hg:g<=m.iC.length):ik AA (fN H L.r (.ins AA.hU L.dx (pw L g k))) L b {m with gone:=g,most:=k}:=by
 have hn:=h.nd;unfold gO.mut at hn;have o:gF [L.r] H (fN H L.r (.ins AA.hU L.dx (pw L g k))):=gF.refl.put (by simp);have n2:∀a∈L.rows++L.gE++L.gP++L.S.fp,a∉ [L.r]:=fun a ha z=>h.sep a ha (by simp at z;simp[gO.mut,z])
 have n3:∀y∈ [L.r],∀xs,H y≠some (.tup xs):=fun y hy=>h.rl y (by simp at hy;simp[gO.mut,hy])
 exact{
  ins:=fP
  jR:=by rw[fU (by intro z;rw[z] at hn;simp at hn)];exact h.jR
  i5:=by rw[fU (by intro z;rw[z] at hn;simp at hn)];exact h.i5
  iX:=by rw[fU (by intro z;rw[z] at hn;simp at hn)];exact h.iX
  jg:=by rw[fU (by intro z;rw[z] at hn;simp at hn)];exact h.jg
  jH:=by rw[fU (by intro z;rw[z] at hn;simp at hn)];exact h.jH
  kN:=by rw[fU (by intro z;rw[z] at hn;simp at hn)];exact h.kN
  rows:=h.rows.keep o fun a ha=>n2 a (by simp[ha])
  gE:=h.gE.keep o fun a ha=>n2 a (by simp[ha])
  hJ:=⟨h.hJ.1,fun i a x h1 h2=>kR o n3 (h.hJ.2 i a x h1 h2)⟩
  gP:=h.gP.keep o fun a ha=>n2 a (by simp[ha])
  set:=h.set.keep o (fun a ha=>n2 a (by simp[ha])) n3
  nd:=h.nd
  sep:=h.sep
  kn:=hg}
theorem ik.abH{AA:gv}{H:Hp}{L:gO}{b:Book}{m:RS}(h:ik AA H L b m)(a:Addr)(s:List Nat)(ha:H a=some (.lst (s.map nV)))(na:a∉L.mut):ik AA (fN H L.ls (.lst (L.rows.map V.ref++[V.ref a]))) {L with rows:=L.rows++[a]} b {m with samples:=m.samples++[s]}:=by
 have hn:=h.nd;unfold gO.mut at hn;have o:gF [L.ls] H (fN H L.ls (.lst (L.rows.map V.ref++[V.ref a]))):=gF.refl.put (by simp);have n2:∀a∈L.rows++L.gE++L.gP++L.S.fp,a∉ [L.ls]:=fun a ha z=>h.sep a ha (by simp at z;simp[gO.mut,z])
 have n3:∀y∈ [L.ls],∀xs,H y≠some (.tup xs):=fun y hy=>h.rl y (by simp at hy;simp[gO.mut,hy])
 exact{
  ins:=by rw[fU (by intro z;rw[z] at hn;simp at hn)];exact h.ins
  jR:=by rw[fP,ao];rfl
  i5:=by rw[fU (by intro z;rw[z] at hn;simp at hn)];exact h.i5
  iX:=by rw[fU (by intro z;rw[z] at hn;simp at hn)];exact h.iX
  jg:=by rw[fU (by intro z;rw[z] at hn;simp at hn)];exact h.jg
  jH:=by rw[fU (by intro z;rw[z] at hn;simp at hn)];exact h.jH
  kN:=by rw[fU (by intro z;rw[z] at hn;simp at hn)];exact h.kN
  rows:=(h.rows.keep o fun a ha=>n2 a (by simp[ha])).snoc (by rw[fU (fun z=>na (by rw[z];simp[gO.mut]))];exact ha)
  gE:=h.gE.keep o fun a ha=>n2 a (by simp[ha])
  hJ:=⟨h.hJ.1,fun i a x h1 h2=>kR o n3 (h.hJ.2 i a x h1 h2)⟩
  gP:=h.gP.keep o fun a ha=>n2 a (by simp[ha])
  set:=h.set.keep o (fun a ha=>n2 a (by simp[ha])) n3
  nd:=h.nd
  sep:=by intro x hx;simp only[aG,az,bh,cN] at hx;rcases hx with((((hx|rfl)|hx)|hx)|hx);exact h.sep x (by simp[hx]);exact na;all_goals exact h.sep x (by simp[hx])
  kn:=h.kn}
theorem ik.abI{AA:gv}{H:Hp}{L:gO}{b:Book}{m:RS}(h:ik AA H L b m)(a:Addr)(s:List Bool)(ha:H a=some (.lst (s.map V.bl)))(na:a∉L.mut):ik AA (fN H L.lh (.lst (L.gE.map V.ref++[V.ref a]))) {L with gE:=L.gE++[a]} b {m with highs:=m.highs++[s]}:=by
 have hn:=h.nd;unfold gO.mut at hn;have o:gF [L.lh] H (fN H L.lh (.lst (L.gE.map V.ref++[V.ref a]))):=gF.refl.put (by simp);have n2:∀a∈L.rows++L.gE++L.gP++L.S.fp,a∉ [L.lh]:=fun a ha z=>h.sep a ha (by simp at z;simp[gO.mut,z])
 have n3:∀y∈ [L.lh],∀xs,H y≠some (.tup xs):=fun y hy=>h.rl y (by simp at hy;simp[gO.mut,hy])
 exact{
  ins:=by rw[fU (by intro z;rw[z] at hn;simp at hn)];exact h.ins
  jR:=by rw[fU (by intro z;rw[z] at hn;simp at hn)];exact h.jR
  i5:=by rw[fP,ao];rfl
  iX:=by rw[fU (by intro z;rw[z] at hn;simp at hn)];exact h.iX
  jg:=by rw[fU (by intro z;rw[z] at hn;simp at hn)];exact h.jg
  jH:=by rw[fU (by intro z;rw[z] at hn;simp at hn)];exact h.jH
  kN:=by rw[fU (by intro z;rw[z] at hn;simp at hn)];exact h.kN
  rows:=h.rows.keep o fun a ha=>n2 a (by simp[ha])
  gE:=(h.gE.keep o fun a ha=>n2 a (by simp[ha])).snoc (by rw[fU (fun z=>na (by rw[z];simp[gO.mut]))];exact ha)
  hJ:=⟨h.hJ.1,fun i a x h1 h2=>kR o n3 (h.hJ.2 i a x h1 h2)⟩
  gP:=h.gP.keep o fun a ha=>n2 a (by simp[ha])
  set:=h.set.keep o (fun a ha=>n2 a (by simp[ha])) n3
  nd:=h.nd
  sep:=by intro x hx;simp only[aG,az,bh,cN] at hx;rcases hx with(((hx|(hx|rfl))|hx)|hx);exact h.sep x (by simp[hx]);exact h.sep x (by simp[hx]);exact na;all_goals exact h.sep x (by simp[hx])
  kn:=h.kn}
theorem ik.jC{AA:gv}{H:Hp}{L:gO}{b:Book}{m:RS}(h:ik AA H L b m)(k:Nat):ik AA (fN H L.lf (.lst (m.fates.map nV++[nV k]))) L b {m with fates:=m.fates++[k]}:=by
 have hn:=h.nd;unfold gO.mut at hn;have o:gF [L.lf] H (fN H L.lf (.lst (m.fates.map nV++[nV k]))):=gF.refl.put (by simp);have n2:∀a∈L.rows++L.gE++L.gP++L.S.fp,a∉ [L.lf]:=fun a ha z=>h.sep a ha (by simp at z;simp[gO.mut,z])
 have n3:∀y∈ [L.lf],∀xs,H y≠some (.tup xs):=fun y hy=>h.rl y (by simp at hy;simp[gO.mut,hy])
 exact{
  ins:=by rw[fU (by intro z;rw[z] at hn;simp at hn)];exact h.ins
  jR:=by rw[fU (by intro z;rw[z] at hn;simp at hn)];exact h.jR
  i5:=by rw[fU (by intro z;rw[z] at hn;simp at hn)];exact h.i5
  iX:=by rw[fP,ao];rfl
  jg:=by rw[fU (by intro z;rw[z] at hn;simp at hn)];exact h.jg
  jH:=by rw[fU (by intro z;rw[z] at hn;simp at hn)];exact h.jH
  kN:=by rw[fU (by intro z;rw[z] at hn;simp at hn)];exact h.kN
  rows:=h.rows.keep o fun a ha=>n2 a (by simp[ha])
  gE:=h.gE.keep o fun a ha=>n2 a (by simp[ha])
  hJ:=⟨h.hJ.1,fun i a x h1 h2=>kR o n3 (h.hJ.2 i a x h1 h2)⟩
  gP:=h.gP.keep o fun a ha=>n2 a (by simp[ha])
  set:=h.set.keep o (fun a ha=>n2 a (by simp[ha])) n3
  nd:=h.nd
  sep:=h.sep
  kn:=h.kn}
theorem ik.abJ{AA:gv}{H:Hp}{L:gO}{b:Book}{m:RS}(h:ik AA H L b m)(k:Bool):ik AA (fN H L.lb (.lst (m.gC.map bV++[bV k]))) L b {m with gC:=m.gC++[k]}:=by
 have hn:=h.nd;unfold gO.mut at hn;have o:gF [L.lb] H (fN H L.lb (.lst (m.gC.map bV++[bV k]))):=gF.refl.put (by simp);have n2:∀a∈L.rows++L.gE++L.gP++L.S.fp,a∉ [L.lb]:=fun a ha z=>h.sep a ha (by simp at z;simp[gO.mut,z])
 have n3:∀y∈ [L.lb],∀xs,H y≠some (.tup xs):=fun y hy=>h.rl y (by simp at hy;simp[gO.mut,hy])
 exact{
  ins:=by rw[fU (by intro z;rw[z] at hn;simp at hn)];exact h.ins
  jR:=by rw[fU (by intro z;rw[z] at hn;simp at hn)];exact h.jR
  i5:=by rw[fU (by intro z;rw[z] at hn;simp at hn)];exact h.i5
  iX:=by rw[fU (by intro z;rw[z] at hn;simp at hn)];exact h.iX
  jg:=by rw[fP,ao];rfl
  jH:=by rw[fU (by intro z;rw[z] at hn;simp at hn)];exact h.jH
  kN:=by rw[fU (by intro z;rw[z] at hn;simp at hn)];exact h.kN
  rows:=h.rows.keep o fun a ha=>n2 a (by simp[ha])
  gE:=h.gE.keep o fun a ha=>n2 a (by simp[ha])
  hJ:=⟨h.hJ.1,fun i a x h1 h2=>kR o n3 (h.hJ.2 i a x h1 h2)⟩
  gP:=h.gP.keep o fun a ha=>n2 a (by simp[ha])
  set:=h.set.keep o (fun a ha=>n2 a (by simp[ha])) n3
  nd:=h.nd
  sep:=h.sep
  kn:=h.kn}
theorem ik.abK{AA:gv}{H:Hp}{L:gO}{b:Book}{m:RS}(h:ik AA H L b m)(y:List Nat):ik AA (fN H L.lq (.lst (m.iC.map nV++y.map nV))) L b {m with iC:=m.iC++y}:=by
 have hn:=h.nd;unfold gO.mut at hn;have o:gF [L.lq] H (fN H L.lq (.lst (m.iC.map nV++y.map nV))):=gF.refl.put (by simp);have n2:∀a∈L.rows++L.gE++L.gP++L.S.fp,a∉ [L.lq]:=fun a ha z=>h.sep a ha (by simp at z;simp[gO.mut,z])
 have n3:∀y∈ [L.lq],∀xs,H y≠some (.tup xs):=fun y hy=>h.rl y (by simp at hy;simp[gO.mut,hy])
 exact{
  ins:=by rw[fU (by intro z;rw[z] at hn;simp at hn)];exact h.ins
  jR:=by rw[fU (by intro z;rw[z] at hn;simp at hn)];exact h.jR
  i5:=by rw[fU (by intro z;rw[z] at hn;simp at hn)];exact h.i5
  iX:=by rw[fU (by intro z;rw[z] at hn;simp at hn)];exact h.iX
  jg:=by rw[fU (by intro z;rw[z] at hn;simp at hn)];exact h.jg
  jH:=by rw[fU (by intro z;rw[z] at hn;simp at hn)];exact h.jH
  kN:=by rw[fP,ao]
  rows:=h.rows.keep o fun a ha=>n2 a (by simp[ha])
  gE:=h.gE.keep o fun a ha=>n2 a (by simp[ha])
  hJ:=⟨h.hJ.1,fun i a x h1 h2=>kR o n3 (h.hJ.2 i a x h1 h2)⟩
  gP:=h.gP.keep o fun a ha=>n2 a (by simp[ha])
  set:=h.set.keep o (fun a ha=>n2 a (by simp[ha])) n3
  nd:=h.nd
  sep:=h.sep
  kn:=by have:=h.kn;simp only[ag];omega}
theorem ik.putD{AA:gv}{H:Hp}{L:gO}{b:Book}{m:RS}(h:ik AA H L b m)(t:Nat)(r:Bool)(y:List Nat)(q p:Addr)(hp:H p=some (.lst (y.map nV)))(hq:H q=some (.tup [bV r,.ref p]))(np:p∉L.mut)(ht:∀x∈m.frames,x.1≠t):ik AA (fN H L.ld (.dK (lK (List.zipWith (fun(x:Nat×Bool×List Nat) (a:Addr)=>(Sum.inl (x.1:Int),V.ref a)) m.frames L.hJ) (Sum.inl (t:Int)) (V.ref q)))) {L with hJ:=L.hJ++[q],gP:=L.gP++[p]} b {m with frames:=m.frames++[(t,r,y)]}:=by
 have hn:=h.nd;unfold gO.mut at hn;have o:gF [L.ld] H (fN H L.ld (.dK (lK (List.zipWith (fun(x:Nat×Bool×List Nat) (a:Addr)=>(Sum.inl (x.1:Int),V.ref a)) m.frames L.hJ) (Sum.inl (t:Int)) (V.ref q)))):=gF.refl.put (by simp);have n2:∀a∈L.rows++L.gE++L.gP++L.S.fp,a∉ [L.ld]:=fun a ha z=>h.sep a ha (by simp at z;simp[gO.mut,z])
 have n3:∀y∈ [L.ld],∀xs,H y≠some (.tup xs):=fun y hy=>h.rl y (by simp at hy;simp[gO.mut,hy])
 have hl:m.frames.length=L.hJ.length:=by rw[h.hJ.1,cM,h.gP.1];omega
 have hv:i6 (List.zipWith (fun(x:Nat×Bool×List Nat) (a:Addr)=>((Sum.inl (x.1:Int):Key),V.ref a)) m.frames L.hJ) (Sum.inl (t:Int))=none:=XQ _ _ _ ht
 exact{
  ins:=by rw[fU (by intro z;rw[z] at hn;simp at hn)];exact h.ins
  jR:=by rw[fU (by intro z;rw[z] at hn;simp at hn)];exact h.jR
  i5:=by rw[fU (by intro z;rw[z] at hn;simp at hn)];exact h.i5
  iX:=by rw[fU (by intro z;rw[z] at hn;simp at hn)];exact h.iX
  jg:=by rw[fU (by intro z;rw[z] at hn;simp at hn)];exact h.jg
  jH:=by rw[fP,MP _ hv];exact congrArg (fun z=>some (HO.dK z)) (GC (fun(x:Nat×Bool×List Nat) (a:Addr)=>((Sum.inl (x.1:Int):Key),V.ref a)) m.frames L.hJ (t,r,y) q hl)
  kN:=by rw[fU (by intro z;rw[z] at hn;simp at hn)];exact h.kN
  rows:=h.rows.keep o fun a ha=>n2 a (by simp[ha])
  gE:=h.gE.keep o fun a ha=>n2 a (by simp[ha])
  hJ:=by
   rw[M3 _ _ _ _ (h.gP.1.symm)];exact iH.snoc ⟨h.hJ.1,fun i a x h1 h2=>kR o n3 (h.hJ.2 i a x h1 h2)⟩ (by rw[fU (pN hq h.jH (by intro z;cases z))];exact hq)
  gP:=(h.gP.keep o fun a ha=>n2 a (by simp[ha])).snoc (by rw[fU (fun z=>np (by rw[z];simp[gO.mut]))];exact hp)
  set:=h.set.keep o (fun a ha=>n2 a (by simp[ha])) n3
  nd:=h.nd
  sep:=by intro x hx;simp only[aG,az,bh,cN] at hx;rcases hx with(((hx|hx)|(hx|rfl))|hx);exact h.sep x (by simp[hx]);exact h.sep x (by simp[hx]);exact h.sep x (by simp[hx]);exact np;exact h.sep x (by simp[hx])
  kn:=h.kn}
theorem XR(w:Nat)(l:List Nat):(l.flatMap (bitsOf w)).length=l.length*w:=by
 induction l with
 |nil=>simp
 |cons x r ih=>rw[br,ag,ih,jY,aj,eu];omega
theorem YH(t:Nat)(ss:List (Option Nat))(h8:ss.length<=8)(hb:∀n,some n∈ss->n<4096):(frameBits ⟨t,ss⟩).length<=120:=by
 have hk:(keptOf ⟨t,ss⟩).length<=8:=a8 (cf _ _) h8
 have hw:width (keptOf ⟨t,ss⟩)<=12:=by
  have kl:∀x∈keptOf ⟨t,ss⟩,x<4096:=fun x hx=>by
   obtain⟨y,hy,rfl⟩:=ck.mp hx;exact hb x hy
  rw[F1 _ kl];exact AV (wo _ 4096 kl (by decide))
 unfold frameBits;simp only[ag,jY,ac,XR];have:(keptOf ⟨t,ss⟩).length*width (keptOf ⟨t,ss⟩)<=8*12:=Nat.mul_le_mul hk hw;omega
theorem AZ(t:Nat)(ss:List (Option Nat))(h8:ss.length<=8)(hb:∀n,some n∈ss->n<4096):(encoded ⟨t,ss⟩).length<=50:=by
 have h:=YH t ss h8 hb;have h1:=vT (frameBits ⟨t,ss⟩).length;have h2:jJ (frameBits ⟨t,ss⟩).length<7:=by unfold jJ;omega
 unfold encoded Vbkdaa.frameSigns Vbkdaa.checked;simp only[aj,ag,Fj,aZ];omega
def jA(b:Book)(m:RS)(c:Int):RS:=
 if 0<=c/\m.fates.getD c.toNat 0=1 then
  {m with iC:=if ig m+(mD b m.highs m.samples c.toNat).length<=depth b then m.iC++mD b m.highs m.samples c.toNat else m.iC,
          frames:=m.frames++[(c.toNat,decide (ig m+(mD b m.highs m.samples c.toNat).length<=depth b),mD b m.highs m.samples c.toNat)]}
 else m
def j5(H:Hp)(lr new:List Addr):Prop:=∀x∈new,x∈lr\/H x=none
theorem j5.kH{H:Hp}{l:List Addr}:j5 H l l:=fun _ h=>.inl h
theorem j5.snoc{H:Hp}{l:List Addr}{p:Addr}(h:H p=none):j5 H l (l++[p]):=fun x hx=>(aG.mp hx).elim .inl fun z=>.inr (by rw[aq.mp z];exact h)
theorem ik.free{AA:gv}{H H':Hp}{L:gO}{b:Book}{m:RS}(h:ik AA H' L b m)(o:gF L.mut H H'){x:Addr}(hx:H' x=none):H x=none:=qr o (fun z=>by have:=h.lM x z;rw[hx] at this;cases this) hx
theorem j5.back{H H':Hp}{l l2 l3:List Addr}(h1:j5 H l l2)(h2:j5 H' l2 l3)(hf:∀x,H' x=none->H x=none):j5 H l l3:=fun x hx=>(h2 x hx).elim (h1 x) fun z=>.inr (hf x z)
def ZU(AA:gv):Sp:=fun vs H Q _=>∃(L:gO) (b:Book) (m:RS) (c:Int),vs=[.ref L.r,.int c]/\ik AA H L b m/\lQ b m/\(0<=c->c.toNat<m.fates.length/\c.toNat<m.samples.length)/\(∀x∈m.frames,(x.1:Int)≠c)/\
 ∀(H':Hp) (ts fs:List Addr),j5 H L.gP fs->gF L.mut H H'->ik AA H' {L with hJ:=ts,gP:=fs} b (jA b m c)->Q .gT H'
theorem E7{b:Book}{m:RS}(hF:lQ b m)(iD:b.channels.length<=8)(t:Nat)(ht:t<m.samples.length):(lC b m.highs m.samples t).length<=8/\∀n,some n∈lC b m.highs m.samples t->n<4096:=by
 have hs:m.samples[t]? =some m.samples[t]:=ak ht;have hm:=aS hs;unfold lC;rw[aE,hs];refine⟨by simp[hF.sr _ hm];exact iD,fun n hn=> ?_⟩;simp only[Option.getD_some,bi] at hn;obtain⟨x,hx,e⟩:=hn;split at e
 ·have:x.1=n:=af e;rw[<-this];exact hF.sn _ hm x.1 (List.fst_mem_of_mem_zipIdx hx)
 ·cases e
section
variable {P:Program} {w:World} {K:PySem.W.Frag} {mg:Str->Option Value} {base:Heap} {AA:gv}
theorem Rm:gQ ["self","crossing","frame"] ["self","crossing"] (gM (i0 (fY 35) 9)):=gY (by decide+kernel)
theorem Rn(T:Tx P w K mg AA):gL P w K mg base gU 4 AA.C0 AA.C1 ["self","crossing"] (ZU AA):=by
 have xV:=Ev (base:=base) T;have Rh:=Rf (base:=base) T;have pG:=xI (base:=base) T;have SC:=Rm;refine T.Rt.ok SC (fun vs H Q E h=> ?_) (fun gz A outer s H vs Q E hr h=> ?_)
 ·obtain⟨L,b,m,c,rfl,_⟩:=h;rfl
 ·obtain⟨L,b,m,c,rfl,hR,hF,hc,yz,hq⟩:=h;have hu:=wk hr
  refine⟨_,(fT (gZ (PW.pt (pO (ip sG (pv 1) fX (ij _)) (qx (ip rg (hZ jc (gf (pv 0) Z) (pv 1) (fun _ _=>rfl)) (gA Z T.sK) (ij _)))))
   (fW Ya)
   ic)
   (fT (gm (i:=2) SC.nd Z (Or.inl Z) (ie xV (hr.mono (by decide)) Z T.qp.mg T.qp.fn.kp T.qp.b .nil gH (fO (pv 1) (fO (oG (pv 0) T.gI T.Ru Rh (hr.mono (by decide)) T.Rl .nil gH (fO (pv 1) fQ)) fQ))))
   (fW (gZ (ip jv (gB jh (ma (pv 0) T.gI T.t6 pG (hr.mono (by decide)) T.tZ .nil gH) (gW iM (by rfl) T.len aF (fO (pv 2) fQ))) (gf (gf (pv 0) Z) Z) (ij _))
     (fT (iS (iU ax a0 a5 m7 (gf (pv 0) Z) (fO (pv 2) fQ)))
     (fW (Gw hu (gf (pv 0) Z) (pv 1) (vY (fO (gA Z T.NK) (fO (pv 2) fQ))) Z)))
     (fW (Gw hu (gf (pv 0) Z) (pv 1) (vY (fO (gA Z T.aby) (fO (pv 2) fQ))) Z)))))),?_⟩
  have iD:=hR.set.iD;refine⟨_,Z,_,_,Z,Z,_,Z,?_⟩
  by_cases h0:0<=c
  ·refine gu (ae (by omega)) ?_;obtain⟨t,rfl⟩:=bB h0;obtain⟨IF,Ce⟩:=hc h0;simp only[a6] at IF Ce;refine⟨_,Z,L.r,_,L.dx,_,_,Z,hR.ins,T.gI,T.qk,Z,_,Z,L.lf,_,_,_,Z,Z,fS.of hR.iX,iu (j:=t) Z (by rw[au,ak IF];rfl),Z,_,Z,?_⟩;have eg:m.fates.getD t 0=m.fates[t]:=by rw[aE,ak IF];rfl
   by_cases ht:m.fates[t]=1
   ·refine gu (by rw[ht];rfl) ?_;obtain⟨k1,k2⟩:=E7 hF iD t Ce;refine⟨_,Z,_,Z,L.r,L.dx,_,Z,hR.ins,Z,_,Z,L,b,m,t,Z,hR,hF,Ce,fun H1 p1 s1 f1 g1=> ?_⟩;refine⟨t,p1,lC b m.highs m.samples t,Z,fS.of g1,k1,k2,fun H2 p2 s2 f2 g2=> ?_⟩;have ey:encoded ⟨t% 4096,lC b m.highs m.samples t⟩=mD b m.highs m.samples t:=rfl;rw[ey] at g2;generalize hy:mD b m.highs m.samples t=y at g2;have yl:y.length<=50:=by rw[<-hy];exact AZ _ _ k1 k2
    have nG:fR H H2:=s1.trans s2;have iT:=hR.same nG;have IG:H p2=none:=s1.free f2
    have np:p2∉L.mut:=fun z=>by
     have:=hR.lM p2 z;rw[IG] at this;cases this
    have em:jA b m (t:Int)={m with iC:=if ig m+y.length<=depth b then m.iC++y else m.iC,frames:=m.frames++[(t,decide (ig m+y.length<=depth b),y)]}:=by
     unfold jA;rw[aw ⟨by omega,by rw[a6,eg];exact ht⟩];simp only[a6,hy]
    rw[em] at hq;refine⟨_,Z,L.r,L.dx,_,Z,iT.ins,Z,L,b,m,Z,iT,hF,_,Z,p2,_,Z,.inl (fS.of g2),_,_,Z,Z,_,Z,L.r,_,L.dx,_,_,Z,iT.ins,T.gI,T.lz,Z,L.S.s,_,L.S.dx,_,_,Z,iT.set.ins,T.io,T.xL,Z,_,_,Z,Z,_,Z,?_⟩;rw[ac];have Qu:∀x∈m.frames,x.1≠t:=fun x hx z=>yz x hx (by rw[z])
    have kl:(List.zipWith (fun(x:Nat×Bool×List Nat) (a:Addr)=>((Sum.inl (x.1:Int):Key),V.ref a)) m.frames L.hJ).length<sizeLine:=by
     rw[fG];exact iV (a8 (Nat.min_le_left _ _) (a8 hF.fr (by decide)))
    by_cases hd:ig m+y.length<=depth b
    ·refine gc (ai (by omega)) ?_;rw[aw hd,ai hd] at hq;refine⟨_,Z,L.r,_,L.dx,_,_,Z,iT.ins,T.gI,T.zO,Z,.inl ⟨Z,_,fS.of iT.kN⟩,_,Z,L.lq,p2,_,_,Z,Z,iT.kN,g2,fZ (by have:=hF.q;have:=hF.f;simp only[ac];omega),?_⟩;have kC:=iT.abK y;have nq:p2≠L.lq:=fun z=>np (by rw[z];simp[gO.mut])
     refine⟨_,Z,(by show 2<=sizeLine;decide),fun q3 n3=> ?_⟩;have g3:(fN H2 L.lq (.lst (m.iC.map nV++y.map nV))) p2=some (.lst (y.map nV)):=by rw[fU nq];exact g2
     have lx:=kC.same (fR.new (o:=.tup [V.int 1,V.ref p2]) n3);refine⟨_,Z,L.r,_,L.dx,_,_,Z,lx.ins,T.gI,T.vF,Z,_,Z,L.ld,_,Z,uY.k (k:=Sum.inl (t:Int)) lx.jH kl,?_⟩;have g4:(fN (fN H2 L.lq (.lst (m.iC.map nV++y.map nV))) q3 (.tup [V.int 1,V.ref p2])) p2=some (.lst (y.map nV)):=by rw[fU (gh g3 n3)];exact g3
     refine hq _ _ _ (j5.snoc IG) ?_ (lx.putD t true y q3 p2 g4 fP np Qu);exact(((nG.own).put (by simp[gO.mut])).trans (fR.new n3).own).put (by simp[gO.mut])
    ·refine gu (ae (by omega)) ?_;rw[am hd,ae hd] at hq;refine⟨_,Z,(by show 2<=sizeLine;decide),fun q3 n3=> ?_⟩;have lx:=iT.same (fR.new (o:=.tup [V.int 0,V.ref p2]) n3);refine⟨_,Z,L.r,_,L.dx,_,_,Z,lx.ins,T.gI,T.vF,Z,_,Z,L.ld,_,Z,uY.k (k:=Sum.inl (t:Int)) lx.jH kl,?_⟩;have g4:(fN H2 q3 (.tup [V.int 0,V.ref p2])) p2=some (.lst (y.map nV)):=by rw[fU (gh g2 n3)];exact g2
     refine hq _ _ _ (j5.snoc IG) ?_ (lx.putD t false y q3 p2 g4 fP np Qu);exact((nG.trans (fR.new n3)).own).put (by simp[gO.mut])
   ·refine gc (by rw[cG];exact ae (fun z=>ht (uG.mp z))) ?_;have em:jA b m (t:Int)=m:=by unfold jA;rw[am (fun z=>ht (by rw[a6,eg] at z;exact z.2))]
    rw[em] at hq;exact hq H L.hJ L.gP j5.kH gF.refl hR
  ·refine gc (ai (by omega)) ?_;refine gc Z ?_;have em:jA b m c=m:=by unfold jA;rw[am (fun z=>h0 z.1)]
   rw[em] at hq;exact hq H L.hJ L.gP j5.kH gF.refl hR
end
open Vbkdaa (Front cross crossTimes)
structure nX(b:Book):Prop where
 ch:b.channels.length<=8
 cn:∀c∈b.channels,c.name.length<=8/\c.pedestal<=4095/\c.on<=4095/\c.off<=4095
 ah:ahead b<=4
 be:behind b<=4
 dp:depth b<=400
 rt:rate b<=50
 hi:high b<=400
 lo:low b<=400
 de:delayOf b<=8
 ga:gapOf b<=10
structure Good(b:Book)(m:RS)(f:Front):Prop where
 rel:j8 b m f
 q:m.iC.length<=100*m.fates.length
 sn:∀x∈m.samples,∀y∈x,y<4096
 n:f.done.length<=400
 bk:nX b
theorem Good.key{b:Book}{m:RS}{f:Front}(g:Good b m f):∀x∈m.frames,x.1<f.done.length-ahead b:=fun x hx=>by
 have h:=fF (f:=(·.1)) hx;rw[g.rel.key] at h;exact d9.mp (eQ.mp h).1
theorem Good.iD{b:Book}{m:RS}{f:Front}(g:Good b m f):lQ b m where
 s:=by rw[g.rel.wF];exact g.n
 h:=by rw[g.rel.sS];exact g.n
 f:=by rw[g.rel.oX];exact g.n
 bl:=by rw[g.rel.oY];exact g.n
 q:=g.q
 fr:=by
  have h:=congrArg List.length g.rel.key;rw[ac] at h;rw[h];refine a8 (cz _ _) ?_;rw[e8];have:=g.n;omega
 hr:=fun x hx=>by
  rw[g.rel.i5,List.mem_reverse,bi] at hx;obtain⟨d,hd,rfl⟩:=hx;exact(g.rel.len d hd).2
 sr:=fun x hx=>by
  rw[g.rel.jR,List.mem_reverse,bi] at hx;obtain⟨d,hd,rfl⟩:=hx;exact(g.rel.len d hd).1
 sn:=g.sn
 ah:=g.bk.ah
 be:=g.bk.be
 dp:=g.bk.dp
 rt:=g.bk.rt
 hi:=g.bk.hi
 lo:=g.bk.lo
 de:=g.bk.de
 ga:=g.bk.ga
theorem aaE{b:Book}(h:nX b):Good b ox Vbkdaa.fresh:=⟨abC b,aN _,fun x hx=>by simp[ox] at hx,aN _,h⟩
def m4(b:Book)(m:RS)(asked:Bool)(s:List Nat):RS:=
 {m with gone:=m.gone+min (rate b) (ig m),samples:=m.samples++[s],highs:=m.highs++[iW b m.highs s],fates:=m.fates++[kT b m.fates m.gC asked]}
def m5(b:Book)(m:RS)(asked:Bool)(s:List Nat):RS:=jA b (m4 b m asked s) ((lj b (m.highs.length+1):Nat)-1:Int)
theorem GD(b:Book)(m:RS)(asked:Bool)(s:List Nat):pP b m asked s=
 {m5 b m asked s with gC:=m.gC++[busyNow b (m.gC.getLast?.getD false) (ig (m5 b m asked s))],most:=max m.most (ig (m5 b m asked s))}:=by
 unfold m5 jA pP;simp only[m4,ig,ag,aj,aZ,lj]
 by_cases ha:ahead b<m.highs.length+(0+1)
 ·have e:(((m.highs.length+1-ahead b:Nat):Int)-1).toNat=m.highs.length+(0+1)-1-ahead b:=by omega
  have c1:(0:Int)<=((m.highs.length+1-ahead b:Nat):Int)-1:=by omega
  by_cases hf:(m.fates++[kT b m.fates m.gC asked]).getD (m.highs.length+(0+1)-1-ahead b) 0=1
  ·simp only[e,ha,c1,hf,and_self,dA,Option.any_some,Option.getD_some];generalize mD b (m.highs++[iW b m.highs s]) (m.samples++[s]) (m.highs.length+(0+1)-1-ahead b)=y
   by_cases hd:m.iC.length-(m.gone+min (rate b) (m.iC.length-m.gone))+y.length<=depth b
   ·simp only[hd,decide_true,dA]
   ·simp only[hd,decide_false,cX,bo]
  ·simp only[e,hf,and_false,cX,Option.any_none,bo]
 ·have c1:¬(0:Int)<=((m.highs.length+1-ahead b:Nat):Int)-1:=by omega
  simp only[ha,c1,false_and,cX,Option.any_none,bo]
theorem XS{b:Book}{m:RS}(hF:lQ b m)(iD:b.channels.length<=8)(c:Int)(hc:0<=c->c.toNat<m.samples.length):(jA b m c).iC.length<=m.iC.length+50:=by
 unfold jA;split
 ·rename_i h;obtain⟨k1,k2⟩:=E7 hF iD c.toNat (hc h.1);have:=AZ (c.toNat% 4096) (lC b m.highs m.samples c.toNat) k1 k2;show(if _ then _ else _:List Nat).length<=_;split
  ·rw[ag];unfold mD;omega
  ·omega
 ·omega
theorem Mq{b:Book}{m:RS}{c:Int}:(jA b m c).samples=m.samples/\(jA b m c).highs=m.highs/\(jA b m c).fates=m.fates/\(jA b m c).gC=m.gC/\(jA b m c).gone=m.gone/\(jA b m c).most=m.most/\(jA b m c).frames.length<=m.frames.length+1:=by
 unfold jA;split
 ·refine⟨Z,Z,Z,Z,Z,Z,?_⟩;simp
 ·exact⟨Z,Z,Z,Z,Z,Z,by omega⟩
theorem BF{b:Book}{m:RS}{f:Front}(g:Good b m f)(hn:f.done.length<400)(asked:Bool)(s:List Nat)(hs:s.length=b.channels.length)(hv:∀y∈s,y<4096):lQ b (m4 b m asked s):=by
 have F:=g.iD;have e1:=g.rel.wF;have e2:=g.rel.sS;have e3:=g.rel.oX;refine⟨?_,?_,?_,F.bl,?_,F.fr,?_,?_,?_,F.ah,F.be,F.dp,F.rt,F.hi,F.lo,F.de,F.ga⟩
 ·simp only[m4,ag,aj,aZ];omega
 ·simp only[m4,ag,aj,aZ];omega
 ·simp only[m4,ag,aj,aZ];omega
 ·have:=F.q;simp only[m4,ag,aj,aZ];omega
 ·intro x hx;rcases aG.mp hx with hx|hx
  ·exact F.hr x hx
  ·rw[aq.mp hx];simp[iW]
 ·intro x hx;rcases aG.mp hx with hx|hx
  ·exact F.sr x hx
  ·rw[aq.mp hx];exact hs
 ·intro x hx;rcases aG.mp hx with hx|hx
  ·exact F.sn x hx
  ·rw[aq.mp hx];exact hv
theorem Hy{b:Book}{m:RS}{f:Front}(g:Good b m f)(hn:f.done.length<400)(asked:Bool)(s:List Nat)(hs:s.length=b.channels.length)(hv:∀y∈s,y<4096):lQ b (m5 b m asked s):=by
 have F:=BF g hn asked s hs hv;have iD:=g.bk.ch;obtain⟨k1,k2,k3,k4,k5,k6,k7⟩:=Mq (b:=b) (m:=m4 b m asked s) (c:=((lj b (m.highs.length+1):Nat)-1:Int))
 have hl:=XS F iD ((lj b (m.highs.length+1):Nat)-1:Int) (fun h=>by
  have e1:=g.rel.wF;have e2:=g.rel.sS;unfold lj at h⊢;simp only[m4,ag,aj,aZ];omega)
 have jz:m.frames.length+1<=400:=by
  have h:=congrArg List.length g.rel.key;rw[ac] at h;have h2:=cz (fun t=>m.fates.getD t 0==1) (List.range (f.done.length-ahead b));rw[e8] at h2;omega
 refine⟨?_,?_,?_,?_,?_,?_,?_,?_,?_,F.ah,F.be,F.dp,F.rt,F.hi,F.lo,F.de,F.ga⟩
 ·show(jA _ _ _).samples.length<=400;rw[k1];exact F.s
 ·show(jA _ _ _).highs.length<=400;rw[k2];exact F.h
 ·show(jA _ _ _).fates.length<=400;rw[k3];exact F.f
 ·show(jA _ _ _).gC.length<=400;rw[k4];exact F.bl
 ·show(jA _ _ _).iC.length<=100*(jA _ _ _).fates.length;rw[k3];have:=g.iD.q;have e:(m4 b m asked s).fates.length=m.fates.length+1:=by simp[m4]
  have e':(m4 b m asked s).iC=m.iC:=rfl;rw[e'] at hl;omega
 ·show(jA _ _ _).frames.length<=400;have e':(m4 b m asked s).frames=m.frames:=rfl;rw[e'] at k7;omega
 ·show∀x∈(jA _ _ _).highs,_;rw[k2];exact F.hr
 ·show∀x∈(jA _ _ _).samples,_;rw[k1];exact F.sr
 ·show∀x∈(jA _ _ _).samples,_;rw[k1];exact F.sn
theorem Good.yI{b:Book}{m:RS}{f:Front}(g:Good b m f)(hn:f.done.length<400)(asked:Bool)(s:List Nat)(hs:s.length=b.channels.length)(hv:∀y∈s,y<4096):Good b (pP b m asked s) (cross b f asked s) where
 rel:=XA g.rel asked s hs
 q:=by rw[GD];exact(Hy g hn asked s hs hv).q
 sn:=by rw[GD];exact(Hy g hn asked s hs hv).sn
 n:=by show(_::f.done).length<=400;rw[aj];omega
 bk:=g.bk
def ZV(AA:gv):Sp:=fun vs H Q _=>∃(L:gO) (b:Book) (m:RS) (f:Front) (asked:Bool) (a:Addr) (s:List Nat),vs=[.ref L.r,bV asked,.ref a]/\ik AA H L b m/\Good b m f/\f.done.length<400/\H a=some (.lst (s.map nV))/\a∉L.mut/\s.length=b.channels.length/\(∀y∈s,y<4096)/\
 ∀(H':Hp) (rs hs ts fs:List Addr),(∀x∈rs,x∈L.rows\/x=a)->j5 H L.gE hs->j5 H L.gP fs->gF L.mut H H'->ik AA H' {L with rows:=rs,gE:=hs,hJ:=ts,gP:=fs} b (pP b m asked s)->Q .gT H'
theorem XT(L:gO)(g k n:Nat):L2.jC "gone" (.int n) (pw L g k)=pw L n k:=by rfl
theorem XU(L:gO)(g k n:Nat):L2.jC "most" (.int n) (pw L g k)=pw L g n:=by rfl
section
variable {P:Program} {w:World} {K:PySem.W.Frag} {mg:Str->Option Value} {base:Heap} {AA:gv}
theorem Sv:gQ ["self","asked","samples","busy_before"] ["self","asked","samples"] (gM (i0 (fY 35) 1)):=gY (by decide+kernel)
theorem JZ(T:Tx P w K mg AA):gL P w K mg base gU 5 AA.DG AA.DH ["self","asked","samples"] (ZV AA):=by
 have Rx:=Rn (base:=base) T;have vH:=DM (base:=base) T;have pG:=xI (base:=base) T;have RX:=RJ (base:=base) T;have R6:=RV (base:=base) T;have Dx:=JP (base:=base) T;have xM:=Do (base:=base) T;have SC:=Sv;refine T.SM.ok SC (fun vs H Q E h=> ?_) (fun gz A outer s H vs Q E hr h=> ?_)
 ·obtain⟨L,b,m,f,asked,a,sl,rfl,_⟩:=h;rfl
 ·obtain⟨L,b,m,f,asked,a,sl,rfl,hR,hG,hn,ha,na,px,hv,hq⟩:=h
  refine⟨_,(fT (Ai (pv 0) (gW (Fe Z) (by rfl) T.min boot_min (fO (gf (gf (pv 0) Z) Z) (fO (ma (pv 0) T.gI T.t6 pG (hr.mono (by decide)) T.tZ .nil gH) fQ))) A8)
   (fT (iS (iU ax aI aL kF (gf (pv 0) Z) (fO (pv 2) fQ)))
   (fT (iS (iU ax aI aL kF (gf (pv 0) Z) (fO (oG (pv 0) T.gI T.R9 RX (hr.mono (by decide)) T.R3 .nil gH (fO (pv 2) fQ)) fQ)))
   (fT (iS (iU ax aI aL kF (gf (pv 0) Z) (fO (oG (pv 0) T.gI T.So R6 (hr.mono (by decide)) T.Sa .nil gH (fO (pv 1) fQ)) fQ)))
   (fT (iS (oG (pv 0) T.gI T.RQ Rx (hr.mono (by decide)) T.RH .nil gH (fO (gB jL (ma (pv 0) T.gI T.DW xM (hr.mono (by decide)) T.DK .nil gH) fX) fQ)))
   (fT (gm (i:=3) SC.nd Z (Or.inl Z) (ie vH (hr.mono (by decide)) Z T.nL.mg T.nL.fn.kp T.nL.b .nil gH (fO (gf (pv 0) Z) (fO (gB jL (gW iM (by rfl) T.len aF (fO (gf (pv 0) Z) fQ)) fX) fQ))))
   (fT (iS (iU ax aI aL kF (gf (pv 0) Z) (fO (ie Dx (hr.mono (by decide)) Z T.t8.mg T.t8.fn.kp T.t8.b .nil gH (fO (gf (pv 0) Z) (fO (ma (pv 0) T.gI T.t6 pG (hr.mono (by decide)) T.tZ .nil gH) (fO (pv 3) fQ)))) fQ)))
   (fW (jt (pv 0) (gW (r9 Z) (by rfl) T.max fC (fO (gf (pv 0) Z) (fO (ma (pv 0) T.gI T.t6 pG (hr.mono (by decide)) T.tZ .nil gH) fQ))) Z))))))))),?_⟩
  have hF:=hG.iD;have iD:=hR.set.iD;have lH:=hG.rel.sS;have lS:=hG.rel.wF;have lF:=hG.rel.oX;have lB:=hG.rel.oY;refine⟨_,Z,L.r,_,L.dx,_,_,Z,hR.ins,T.gI,T.xO,Z,_,Z,L.r,_,L.dx,_,_,Z,hR.ins,T.gI,T.lz,Z,L.S.s,_,L.S.dx,_,_,Z,hR.set.ins,T.io,T.qW,Z,_,Z,L.r,L.dx,_,Z,hR.ins,Z,L,b,m,Z,hR,hF,_,_,Z,_,_,Z,Z,L.dx,_,hR.ins,(by show 9<1000;decide),?_⟩;have e1:(m.gone:Int)+(if (ig m:Int)<(rate b:Int) then(ig m:Int) else(rate b:Int))=((m.gone+min (rate b) (ig m):Nat):Int):=by split<;>omega
  rw[e1,XT];have wl:ig m=m.iC.length-m.gone:=rfl;have gl:=hR.kn;have iK:=hR.putN (m.gone+min (rate b) (ig m)) m.most (by omega);have o1:gF L.mut H (fN H L.r (.ins AA.hU L.dx (pw L (m.gone+min (rate b) (ig m)) m.most))):=gF.refl.put (by simp[gO.mut]);generalize Cf:fN H L.r (.ins AA.hU L.dx (pw L (m.gone+min (rate b) (ig m)) m.most))=H1 at iK o1;have a1:H1 a=some (.lst (sl.map nV)):=o1 _ _ ha na;refine⟨_,Z,L.r,_,L.dx,_,_,Z,iK.ins,T.gI,T.Dm,Z,.inl ⟨Z,_,fS.of iK.jR⟩,_,Z,L.ls,_,_,Z,Z,iK.jR,iV (by rw[ac,iK.rows.1];have:=hF.s;show m.samples.length<=_;omega),?_⟩;have iT:=iK.abH a sl a1 na;have o2:=o1.put (o:=.lst (L.rows.map V.ref++[V.ref a])) (p:=L.ls) (by simp[gO.mut]);generalize xb:fN H1 L.ls (.lst (L.rows.map V.ref++[V.ref a]))=H2 at iT o2;have a2:H2 a=some (.lst (sl.map nV)):=o2 _ _ ha na
  have F2:lQ b {m with gone:=m.gone+min (rate b) (ig m),samples:=m.samples++[sl]}:=by
   have F:=BF hG hn asked sl px hv;exact⟨F.s,hF.h,hF.f,hF.bl,hF.q,hF.fr,hF.hr,F.sr,F.sn,F.ah,F.be,F.dp,F.rt,F.hi,F.lo,F.de,F.ga⟩
  refine⟨_,Z,L.r,_,L.dx,_,_,Z,iT.ins,T.gI,T.t7,Z,.inl ⟨Z,_,fS.of iT.i5⟩,_,Z,L.r,L.dx,_,Z,iT.ins,Z,_,Z,{L with rows:=L.rows++[a]},b,_,a,sl,Z,iT,F2,fS.of a2,px,fun H3 p3 s3 f3 g3=> ?_⟩;have kC:=iT.same s3
  have np3:p3∉L.mut:=fun z=>by
   have:=iT.lM p3 z;rw[f3] at this;cases this
  refine⟨L.lh,_,_,Z,Z,kC.i5,iV (by rw[ac,kC.gE.1];have:=hF.h;show m.highs.length<=_;omega),?_⟩;have lx:=kC.abI p3 _ g3 np3;have o4:=(o2.trans s3.own).put (o:=.lst (L.gE.map V.ref++[V.ref p3])) (p:=L.lh) (by simp[gO.mut]);generalize Ik:fN H3 L.lh (.lst (L.gE.map V.ref++[V.ref p3]))=H4 at lx o4
  have F4:lQ b {m with gone:=m.gone+min (rate b) (ig m),samples:=m.samples++[sl],highs:=m.highs++[iW b m.highs sl]}:=by
   have F:=BF hG hn asked sl px hv;exact⟨F.s,F.h,hF.f,hF.bl,hF.q,hF.fr,F.hr,F.sr,F.sn,F.ah,F.be,F.dp,F.rt,F.hi,F.lo,F.de,F.ga⟩
  refine⟨_,Z,L.r,_,L.dx,_,_,Z,lx.ins,T.gI,T.qk,Z,.inl ⟨Z,_,fS.of lx.iX⟩,_,Z,L.r,L.dx,_,Z,lx.ins,Z,_,Z,{L with rows:=L.rows++[a],gE:=L.gE++[p3]},b,_,asked,Z,lx,F4,by show m.fates.length=m.gC.length;omega,fun H5 s5=> ?_⟩;have xp:=lx.same s5;refine⟨L.lf,_,_,Z,Z,xp.iX,iV (by rw[ac];have:=hF.f;show m.fates.length<=_;omega),?_⟩;have qf:=xp.jC (kT b m.fates m.gC asked);have o6:=(o4.trans s5.own).put (o:=.lst (m.fates.map nV++[nV (kT b m.fates m.gC asked)])) (p:=L.lf) (by simp[gO.mut]);have F6:lQ b (m4 b m asked sl):=BF hG hn asked sl px hv;generalize hH6:fN H5 L.lf (.lst (m.fates.map nV++[nV (kT b m.fates m.gC asked)]))=H6 at qf o6;refine⟨_,Z,L.r,L.dx,_,Z,qf.ins,Z,_,Z,L.r,L.dx,_,Z,qf.ins,Z,{L with rows:=L.rows++[a],gE:=L.gE++[p3]},b,_,Z,qf,F6,_,_,Z,Z,{L with rows:=L.rows++[a],gE:=L.gE++[p3]},b,m4 b m asked sl,_,Z,qf,F6,?_,?_,fun H7 ts fs nf7 o7 nI=> ?_⟩
  ·intro h;show _<(m4 b m asked sl).fates.length/\_<(m4 b m asked sl).samples.length;have eh:({m with gone:=m.gone+min (rate b) (ig m),samples:=m.samples++[sl],highs:=m.highs++[iW b m.highs sl],fates:=m.fates++[kT b m.fates m.gC asked]}:RS).highs.length=m.highs.length+1:=by simp
   rw[eh] at h⊢;unfold lj at h⊢;simp only[m4,ag,aj,aZ];omega
  ·intro x hx z;have hk:=hG.key x hx;have eh:({m with gone:=m.gone+min (rate b) (ig m),samples:=m.samples++[sl],highs:=m.highs++[iW b m.highs sl],fates:=m.fates++[kT b m.fates m.gC asked]}:RS).highs.length=m.highs.length+1:=by simp
   rw[eh] at z;unfold lj at z;omega
  have e5:jA b (m4 b m asked sl) ((lj b (m4 b m asked sl).highs.length:Nat)-1:Int)=m5 b m asked sl:=by
   unfold m5;have eh:(m4 b m asked sl).highs.length=m.highs.length+1:=by simp[m4]
   rw[eh]
  have nI:ik AA H7 {L with rows:=L.rows++[a],gE:=L.gE++[p3],hJ:=ts,gP:=fs} b (m5 b m asked sl):=by rw[<-e5];exact nI
  obtain⟨k1,k2,k3,k4,k5,k6,k7⟩:=Mq (b:=b) (m:=m4 b m asked sl) (c:=((lj b (m.highs.length+1):Nat)-1:Int));have kb:(m5 b m asked sl).gC=m.gC:=k4;have km:(m5 b m asked sl).most=m.most:=k6;have F7:=Hy hG hn asked sl px hv;refine⟨_,Z,L.r,_,L.dx,_,_,Z,nI.ins,T.gI,T.r0,Z,_,Z,L.r,_,L.dx,_,_,Z,nI.ins,T.gI,T.r0,Z,L.lb,_,Z,.inl (fS.of nI.jg),_,_,Z,Z,L.lb,(m5 b m asked sl).gC,_,Z,fS.of nI.jg,by rw[ac];omega,?_⟩;rw[ac,kb]
  have e:(decide (0<=(m.gC.length:Int)-1)&&m.gC.getD ((m.gC.length:Int)-1).toNat false)=m.gC.getLast?.getD false:=by
   rw[cy,<-aE,show((m.gC.length:Int)-1).toNat=m.gC.length-1 by omega];cases hb:m.gC with
   |nil=>rfl
   |cons x r=>simp
  rw[e];refine⟨_,Z,L.r,_,L.dx,_,_,Z,nI.ins,T.gI,T.r0,Z,.inl ⟨Z,_,fS.of nI.jg⟩,_,Z,L.r,_,L.dx,_,_,Z,nI.ins,T.gI,T.lz,Z,_,Z,L.r,L.dx,_,Z,nI.ins,Z,{L with rows:=L.rows++[a],gE:=L.gE++[p3],hJ:=ts,gP:=fs},b,_,Z,nI,F7,_,Z,L.S,b,ig (m5 b m asked sl),m.gC.getLast?.getD false,Z,nI.set,?_⟩;refine⟨L.lb,_,_,Z,Z,nI.jg,iV (by rw[ac,kb];have:=hF.bl;omega),?_⟩;have xq:=nI.abJ (busyNow b (m.gC.getLast?.getD false) (ig (m5 b m asked sl)));have o7':gF L.mut H H7:=o6.trans o7;have o8:=o7'.put (o:=.lst ((m5 b m asked sl).gC.map bV++[bV (busyNow b (m.gC.getLast?.getD false) (ig (m5 b m asked sl)))])) (p:=L.lb) (by simp[gO.mut])
  have F8:lQ b {m5 b m asked sl with gC:=(m5 b m asked sl).gC++[busyNow b (m.gC.getLast?.getD false) (ig (m5 b m asked sl))]}:=by
   refine⟨F7.s,F7.h,F7.f,?_,F7.q,F7.fr,F7.hr,F7.sr,F7.sn,F7.ah,F7.be,F7.dp,F7.rt,F7.hi,F7.lo,F7.de,F7.ga⟩;show((m5 b m asked sl).gC++[_]).length<=400;rw[kb,ag];show m.gC.length+1<=400;omega
  refine⟨_,Z,L.r,_,L.dx,_,_,Z,xq.ins,T.gI,T.zP,Z,_,Z,L.r,L.dx,_,Z,xq.ins,Z,{L with rows:=L.rows++[a],gE:=L.gE++[p3],hJ:=ts,gP:=fs},b,_,Z,xq,F8,_,_,Z,_,Z,L.r,_,L.dx,_,Z,xq.ins,T.gI,T.zP,(by show 9<1000;decide),?_⟩;have hw:ig {m5 b m asked sl with gC:=(m5 b m asked sl).gC++[busyNow b (m.gC.getLast?.getD false) (ig (m5 b m asked sl))]}=ig (m5 b m asked sl):=rfl;have e9:(if (ig (m5 b m asked sl):Int)>((m5 b m asked sl).most:Int) then(ig (m5 b m asked sl):Int) else((m5 b m asked sl).most:Int))=((max m.most (ig (m5 b m asked sl)):Nat):Int):=by rw[km];split<;>omega
  have hR9:=xq.putN (m5 b m asked sl).gone (max m.most (ig (m5 b m asked sl))) xq.kn;have ec:({m5 b m asked sl with gC:=(m5 b m asked sl).gC++[busyNow b (m.gC.getLast?.getD false) (ig (m5 b m asked sl))],most:=max m.most (ig (m5 b m asked sl))}:RS)=pP b m asked sl:=by rw[GD,kb]
  refine hq _ (L.rows++[a]) (L.gE++[p3]) ts fs (fun x hx=>(aG.mp hx).imp id (fun z=>aq.mp z)) (j5.snoc (iT.free o2 f3)) (j5.kH.back nf7 fun x hx=>qf.free o6 hx) (o8.put (p:=L.r) (by simp[gO.mut])) ?_;rw[<-ec]
  have eo:L2.jC "most" (V.int (if (ig (m5 b m asked sl):Int)>((m5 b m asked sl).most:Int) then(ig (m5 b m asked sl):Int) else((m5 b m asked sl).most:Int))) (pw {L with rows:=L.rows++[a],gE:=L.gE++[p3],hJ:=ts,gP:=fs} (m5 b m asked sl).gone (m5 b m asked sl).most)=pw {L with rows:=L.rows++[a],gE:=L.gE++[p3],hJ:=ts,gP:=fs} (m5 b m asked sl).gone (max m.most (ig (m5 b m asked sl))):=by
   rw[e9,XU]
  have:=hR9;rw[<-eo] at this;exact this
end
def Au(AA:gv):Key->Addr
 |.jd=>0|.keep=>AA.z8|.buffer=>AA.z9|.delay=>AA.Aa|.gap=>AA.Ab
def dflt:Key->List Nat
 |.jd=>[]|.keep=>[0,0]|.buffer=>[400,20,200,100]|.delay=>[0]|.gap=>[0]
theorem Ah(AA:gv)(k:Key)(h:oM k=false):i6 [((Sum.inr "keep":L2.Key),V.ref AA.z8),(Sum.inr "buffer",.ref AA.z9),(Sum.inr "delay",.ref AA.Aa),(Sum.inr "gap",.ref AA.Ab)] (Sum.inr (iy k))=some (V.ref (Au AA k)):=by
 obtain⟨e1,e2,e3,e4,e5⟩:=ue;rw[<-e2,<-e3,<-e4,<-e5]
 have step:∀(j:Key) (v:V) (r:List (L2.Key×V)),i6 ((Sum.inr (iy j),v)::r) (Sum.inr (iy k))=if j=k then some v else i6 r (Sum.inr (iy k)):=by
  intro j v r
  by_cases h:j=k
  ·rw[aw h];exact vO (p:=(Sum.inr (iy j),v)) (by rw[h])
  ·rw[am h];exact uu (p:=(Sum.inr (iy j),v)) (fun z=>h (Ag.mp (Sum.inr.inj z)))
 rw[step,step,step,step];cases k
 ·cases h
 ·rfl
 ·rfl
 ·rfl
 ·rfl
theorem Vz{P:Program}{w:World}{K:PySem.W.Frag}{mg:Str->Option Value}{AA:gv}(T:Tx P w K mg AA)(k:Key)(h:oM k=false):iY K (Au AA k) ((dflt k).map nV):=by
 cases k with
 |jd=>cases h
 |keep=>exact T.Wk
 |buffer=>exact T.Wl
 |delay=>exact T.Wm
 |gap=>exact T.Wn
theorem AK{P:Program}{w:World}{K:PySem.W.Frag}{mg:Str->Option Value}{AA:gv}(T:Tx P w K mg AA){H:Hp}{ld:Addr}{ts:List (Str×Addr)}{b:Book}(hT:lV H ld ts b)(k:Key)(h:oM k=false):
 ∃p,(i6 (ts.map fun x=>((Sum.inr x.1:L2.Key),V.ref x.2)) (Sum.inr (iy k))).getD (V.ref (Au AA k))=V.ref p/\iO K H p (((iN b k).getD (dflt k)).map nV):=by
 rcases hT.val k with⟨z1,z2⟩|⟨l,a,z1,z3,z2⟩
 ·rw[z1,z2];exact⟨Au AA k,Z,(Vz T k h).sq⟩
 ·rw[z1,z2];exact⟨a,Z,kg z3⟩
theorem si{K:PySem.W.Frag}{Hx:Hp}{x C dx p:Addr}{fs:List (Str×V)}{o:HO}{xs:List V}(hx:Hx x=some (.ins C dx fs))(h:iO K Hx p xs):iO K (fN Hx x o) p xs:=by
 rcases h with(h|⟨u,h⟩)|h
 ·exact .inl (.inl (by rw[fU (pN h hx (by intro z;cases z))];exact h))
 ·exact .inl (.inr ⟨u,by rw[fU (pN h hx (by intro z;cases z))];exact h⟩)
 ·exact .inr h
def YI(AA:gv):Sp:=fun vs H Q _=>∃(x dx lc:Addr) (cs:List Addr) (ld:Addr) (ts:List (Str×Addr)) (b:Book),vs=[.ref x,.ref lc,.ref ld]/\H x=some (.ins AA.lR dx [])/\H lc=some (.lst (cs.map V.ref))/\iH H Ck cs b.channels/\lV H ld ts b/\b.channels.length<=8/\
 ∀H',gF [x] H H'->lY AA H' ⟨x,dx,lc,ld,cs,ts⟩ b->Q .gT H'
section
variable {P:Program} {w:World} {K:PySem.W.Frag} {mg:Str->Option Value} {base:Heap} {AA:gv}
theorem Se:gQ ["self","channels","told","keep","buffer"] ["self","channels","told"] (gM (i0 (fY 57) 0)):=gY (by decide+kernel)
theorem Lk(T:Tx P w K mg AA):gL P w K mg base gU 1 AA.Dt AA.Du ["self","channels","told"] (YI AA):=by
 have SC:=Se;refine T.Sq.ok SC (fun vs H Q E h=> ?_) (fun gz A outer s H vs Q E hr h=> ?_)
 ·obtain⟨x,dx,lc,cs,ld,ts,b,rfl,_⟩:=h;rfl
 ·obtain⟨x,dx,lc,cs,ld,ts,b,rfl,hx,Cr,hC,hT,h8,hq⟩:=h;have hu:=wk hr
  refine⟨_,(fT (jt (pv 0) (pv 1) Z)
   (fT (jt (pv 0) (pv 2) Z)
   (fT (gm (i:=3) SC.nd Z (Or.inl Z) (Az hu (pv 2) ku (ra T.AX (m8 Z T.Be) ku (fun _ _=>rfl)) ⟨Z,Z,Z,Z⟩))
   (fT (jt (pv 0) (hZ jI (pv 3) fX (fun _ _=>rfl)) Z)
   (fT (jt (pv 0) (hZ jI (pv 3) fX (fun _ _=>rfl)) Z)
   (fT (gm (i:=4) SC.nd Z (Or.inl Z) (Az hu (pv 2) ku (ra T.AX (m8 Z T.Be) ku (fun _ _=>rfl)) ⟨Z,Z,Z,Z⟩))
   (fT (jt (pv 0) (hZ jI (pv 4) fX (fun _ _=>rfl)) Z)
   (fT (jt (pv 0) (hZ jI (pv 4) fX (fun _ _=>rfl)) Z)
   (fT (jt (pv 0) (hZ jI (pv 4) fX (fun _ _=>rfl)) Z)
   (fT (jt (pv 0) (hZ jI (pv 4) fX (fun _ _=>rfl)) Z)
   (fT (jt (pv 0) (hZ jI (Az hu (pv 2) ku (ra T.AX (m8 Z T.Be) ku (fun _ _=>rfl)) ⟨Z,Z,Z,Z⟩) fX (fun _ _=>rfl)) Z)
   (fW (jt (pv 0) (hZ jI (Az hu (pv 2) ku (ra T.AX (m8 Z T.Be) ku (fun _ _=>rfl)) ⟨Z,Z,Z,Z⟩) fX (fun _ _=>rfl)) Z))))))))))))),?_⟩
  have nxl:lc≠x:=pN Cr hx (by intro z;cases z);have Qv:ld≠x:=pN hT.dict hx (by intro z;cases z);have hd:∀u,(fN H x u) ld=_:=fun u=>(fU Qv).trans hT.dict
  obtain⟨e1,e2,e3,e4,e5⟩:=ue;obtain⟨pk,gk,sk⟩:=AK T hT .keep Z;obtain⟨pb,gb,sb⟩:=AK T hT .buffer Z;obtain⟨pd,gd,sd⟩:=AK T hT .delay Z;obtain⟨pg,gg,sg⟩:=AK T hT .gap Z;have uk:=Ah AA .keep Z;have ub:=Ah AA .buffer Z;have ud:=Ah AA .delay Z;have ug:=Ah AA .gap Z;rw[e2] at gk uk;rw[e3] at gb ub;rw[e4] at gd ud;rw[e5] at gg ug;have lk:(iN b .keep).getD (dflt .keep)=[ahead b,behind b]:=by unfold ahead behind iN;cases b.keep<;>rfl
  have lb:(iN b .buffer).getD (dflt .buffer)=[depth b,rate b,high b,low b]:=by unfold depth rate high low Vbkdaa.bufferOf iN;cases b.buffer<;>rfl
  have ldd:(iN b .delay).getD (dflt .delay)=[delayOf b]:=by unfold delayOf iN;cases b.delay<;>rfl
  have lg:(iN b .gap).getD (dflt .gap)=[gapOf b]:=by unfold gapOf iN;cases b.gap<;>rfl
  rw[lk] at sk;rw[lb] at sb;rw[ldd] at sd;rw[lg] at sg;refine⟨_,Z,_,Z,x,_,dx,_,Z,hx,T.io,T.nK,(by show 0<1000;decide),?_⟩;refine⟨_,Z,_,Z,x,_,dx,_,Z,fP,T.io,T.DJ,(by show 1<1000;decide),?_⟩;rw[jo];refine⟨_,Z,ld,Z,.inl ⟨_,.inl (hd _)⟩,Sum.inr "keep",_,Z,uk,_,lL.k (k:=Sum.inr "keep") (hd _),?_⟩;rw[gk];refine⟨_,Z,pk,_,_,_,Z,Z,si hx sk,iu (j:=0) Z Z,_,Z,x,_,dx,_,Z,fP,T.io,T.t5,(by show 2<1000;decide),?_⟩;rw[jo];refine⟨_,Z,pk,_,_,_,Z,Z,si hx sk,iu (j:=1) Z Z,_,Z,x,_,dx,_,Z,fP,T.io,T.Dn,(by show 3<1000;decide),?_⟩;rw[jo];refine⟨_,Z,ld,Z,.inl ⟨_,.inl (hd _)⟩,Sum.inr "buffer",_,Z,ub,_,lL.k (k:=Sum.inr "buffer") (hd _),?_⟩;rw[gb];refine⟨_,Z,pb,_,_,_,Z,Z,si hx sb,iu (j:=0) Z Z,_,Z,x,_,dx,_,Z,fP,T.io,T.xL,(by show 4<1000;decide),?_⟩;rw[jo];refine⟨_,Z,pb,_,_,_,Z,Z,si hx sb,iu (j:=1) Z Z,_,Z,x,_,dx,_,Z,fP,T.io,T.qW,(by show 5<1000;decide),?_⟩;rw[jo];refine⟨_,Z,pb,_,_,_,Z,Z,si hx sb,iu (j:=2) Z Z,_,Z,x,_,dx,_,Z,fP,T.io,T.tX,(by show 6<1000;decide),?_⟩;rw[jo];refine⟨_,Z,pb,_,_,_,Z,Z,si hx sb,iu (j:=3) Z Z,_,Z,x,_,dx,_,Z,fP,T.io,T.Dc,(by show 7<1000;decide),?_⟩;rw[jo];refine⟨_,Z,ld,Z,.inl ⟨_,.inl (hd _)⟩,Sum.inr "delay",_,Z,ud,_,lL.k (k:=Sum.inr "delay") (hd _),?_⟩;rw[gd];refine⟨pd,_,_,_,Z,Z,si hx sd,iu (j:=0) Z Z,_,Z,x,_,dx,_,Z,fP,T.io,T.vG,(by show 8<1000;decide),?_⟩;rw[jo];refine⟨_,Z,ld,Z,.inl ⟨_,.inl (hd _)⟩,Sum.inr "gap",_,Z,ug,_,lL.k (k:=Sum.inr "gap") (hd _),?_⟩;rw[gg];refine⟨pg,_,_,_,Z,Z,si hx sg,iu (j:=0) Z Z,_,Z,x,_,dx,_,Z,fP,T.io,T.DV,(by show 9<1000;decide),?_⟩;rw[jo];have o1:gF [x] H (fN H x (.ins AA.lR dx (Pf lc ld b))):=gF.refl.put (by simp);have nt:∀y∈([x]:List Addr),∀xs,H y≠some (.tup xs):=fun y hy xs z=>by rw[aq.mp hy,hx] at z;cases z
  refine hq _ o1 ⟨fP,(fU nxl).trans Cr,⟨hC.1,fun i a y h1 h2=>kR o1 nt (hC.2 i a y h1 h2)⟩,?_,h8⟩;exact hT.keep o1 (by simpa using Qv) nt
end
open VbkdCore (linesFrom wordsFrom Bytes)
open Vbkdaa (lineIn bookFrom noBook)
inductive mU:List Due->List im->Prop
 |nil:mU [] []
 |word {k:Bytes} {ds:List Due} {us:List im}:mU ds us->mU (.word k::ds) us
 |num {hi n:Nat} {ds:List Due} {us:List im}:n<=hi->mU ds us->mU (.num hi::ds) (.inr n::us)
 |name {n:Bytes} {ds:List Due} {us:List im}:isName n=true->mU ds us->mU (.name::ds) (.inl n::us)
theorem M4(e:Nat)(ns:List Bytes):∀(ds:List Due) (ws:List j4) (vs us:List im),iG e ns ds ws vs=.ok us->∃ys,us=vs++ys/\mU ds ys
 |[],ws,vs,us,h=>by
  simp only[iG,Except.ok.injEq] at h;exact⟨[],by rw[h];simp,.nil⟩
 |d::ds,[],vs,us,h=>by simp[iG] at h
 |d::ds,w::ws,vs,us,h=>by
  simp only[iG] at h;cases q:jj ns d w with
  |error f=>rw[q] at h;cases h
  |ok v=>
   rw[q] at h;obtain⟨ys,h1,h2⟩:=M4 e ns ds ws _ us h;cases d with
   |name=>
    simp only[jj] at q;split at q
    ·cases q
    ·rename_i hn;split at q
     ·cases q
     ·have:=dN q;subst this;exact⟨.inl w.1::ys,by rw[h1];simp,.name (by simpa using hn) h2⟩
   |word k=>
    simp only[jj] at q;split at q
    ·have:=dN q;subst this;exact⟨ys,by rw[h1];simp,.word h2⟩
    ·cases q
   |num hi=>
    simp only[jj] at q;split at q
    ·cases q
    ·split at q
     ·cases q
     ·rename_i n _ hn;have:=dN q;subst this;exact⟨.inr n::ys,by rw[h1];simp,.num (by omega) h2⟩
theorem XV{e:Nat}{ns:List Bytes}{o:Bool}{ds:List Due}{r:List j4}{us:List im}(h:jn e ns o ds r=.ok us):mU ds us:=by
 unfold jn at h;cases hd:iG e ns ds r [] with
 |error f=>rw[hd] at h;cases h
 |ok vs=>
  rw[hd] at h;simp only at h;split at h
  ·cases h
  ·split at h
   ·cases h
   ·have:=dN h;subst this;obtain⟨ys,h1,h2⟩:=M4 e ns ds r [] vs hd;rw[h1];exact h2
theorem Ll{us:List im}(h:mU vP us):∃n p a b,us=[.inl n,.inr p,.inr a,.inr b]/\isName n=true/\p<=4095/\a<=4095/\b<=4095:=by
 unfold vP at h;cases h with|name hn h=>cases h with|word h=>cases h with|num h1 h=>cases h with|word h=>cases h with|num h2 h=>cases h with|word h=>cases h with|num h3 h=>cases h with|nil=>exact⟨_,_,_,_,Z,hn,h1,h2,h3⟩
theorem M5{us:List im}(h:mU wu us):∃a b,us=[.inr a,.inr b]/\a<=4/\b<=4:=by
 unfold wu at h;cases h with|num h1 h=>cases h with|num h2 h=>cases h with|nil=>exact⟨_,_,Z,h1,h2⟩
theorem LP{us:List im}(h:mU vU us):∃a b c d,us=[.inr a,.inr b,.inr c,.inr d]/\a<=400/\b<=50/\c<=400/\d<=400:=by
 unfold vU at h;cases h with|num h1 h=>cases h with|word h=>cases h with|num h2 h=>cases h with|word h=>cases h with|num h3 h=>cases h with|word h=>cases h with|num h4 h=>cases h with|nil=>exact⟨_,_,_,_,Z,h1,h2,h3,h4⟩
theorem A0{hi:Nat}{us:List im}(h:mU [.num hi] us):∃a,us=[.inr a]/\a<=hi:=by
 cases h with|num h1 h=>cases h with|nil=>exact⟨_,Z,h1⟩
structure uO(b:Book):Prop where
 ch:b.channels.length<=8
 cn:∀c∈b.channels,c.name.length<=8/\c.pedestal<=4095/\c.on<=4095/\c.off<=4095
 nm:∀n∈names b,lI n=true
 ke:∀x,b.keep=some x->x.1<=4/\x.2<=4
 bu:∀x,b.buffer=some x->x.1<=400/\x.2.1<=50/\x.2.2.1<=400/\x.2.2.2<=400
 de:∀x,b.delay=some x->x<=8
 ga:∀x,b.gap=some x->x<=10
theorem ZW:uO noBook:=⟨aN _,fun c hc=>(by simp[noBook] at hc),fun n hn=>(by simp[names,noBook] at hn),fun x h=>(by cases h),fun x h=>(by cases h),fun x h=>(by cases h),fun x h=>(by cases h)⟩
theorem uO.ok{b:Book}(h:uO b):nX b:=by
 refine⟨h.ch,h.cn,?_,?_,?_,?_,?_,?_,?_,?_⟩
 ·unfold ahead;cases hb:b.keep with|none=>simp|some x=>exact(h.ke x hb).1
 ·unfold behind;cases hb:b.keep with|none=>simp|some x=>exact(h.ke x hb).2
 ·unfold depth Vbkdaa.bufferOf;cases hb:b.buffer with|none=>simp|some x=>exact(h.bu x hb).1
 ·unfold rate Vbkdaa.bufferOf;cases hb:b.buffer with|none=>simp|some x=>exact(h.bu x hb).2.1
 ·unfold high Vbkdaa.bufferOf;cases hb:b.buffer with|none=>simp|some x=>exact(h.bu x hb).2.2.1
 ·unfold low Vbkdaa.bufferOf;cases hb:b.buffer with|none=>simp|some x=>exact(h.bu x hb).2.2.2
 ·unfold delayOf;cases hb:b.delay with|none=>simp|some x=>exact h.de x hb
 ·unfold gapOf;cases hb:b.gap with|none=>simp|some x=>exact h.ga x hb
theorem VA{n:Bytes}(h:isName n=true):lI n=true:=by
 unfold isName at h;simp only[aH] at h;exact Lj h.2.1
theorem uO.add{b:Book}(h:uO b){k:Key}{us:List im}(hf:mU (jZ k) us)(h8:¬(oM k=true/\b.channels.length=8)):uO (lW b us k):=by
 cases k with
 |jd=>
  obtain⟨n,p,a,c,rfl,hn,hn1,u8,hn3⟩:=Ll hf;have hl:=h.ch;have hn8:n.length<=8:=by unfold isName at hn;simp only[aH,aJ] at hn;exact hn.1.2
  refine⟨?_,?_,?_,h.ke,h.bu,h.de,h.ga⟩
  ·show(b.channels++[_]).length<=8;rw[ag];have:b.channels.length≠8:=fun z=>h8 ⟨Z,z⟩
   simp only[aj,aZ];omega
  ·intro x hx;rcases aG.mp hx with hx|hx
   ·exact h.cn x hx
   ·rw[aq.mp hx];exact⟨hn8,hn1,u8,hn3⟩
  ·intro m hm;have:names (lW b [.inl n,.inr p,.inr a,.inr c] .jd)=names b++[n]:=by simp[names,lW,xU,GV]
   rw[this] at hm;rcases aG.mp hm with hm|hm
   ·exact h.nm m hm
   ·rw[aq.mp hm];exact VA hn
 |keep=>
  obtain⟨a,c,rfl,h1,h2⟩:=M5 hf;exact⟨h.ch,h.cn,h.nm,fun x hx=>by have:=af hx;subst this;exact⟨h1,h2⟩,h.bu,h.de,h.ga⟩
 |buffer=>
  obtain⟨a,c,d,e,rfl,h1,h2,h3,h4⟩:=LP hf;exact⟨h.ch,h.cn,h.nm,h.ke,fun x hx=>by have:=af hx;subst this;exact⟨h1,h2,h3,h4⟩,h.de,h.ga⟩
 |delay=>
  obtain⟨a,rfl,h1⟩:=A0 hf;exact⟨h.ch,h.cn,h.nm,h.ke,h.bu,fun x hx=>by have:=af hx;subst this;exact h1,h.ga⟩
 |gap=>
  obtain⟨a,rfl,h1⟩:=A0 hf;exact⟨h.ch,h.cn,h.nm,h.ke,h.bu,h.de,fun x hx=>by have:=af hx;subst this;exact h1⟩
theorem XW{b:Book}{k:Key}{us:List im}(hf:mU (jZ k) us)(hc:oM k=false):∃l,us.map k8=l.map nV/\∀j,iN (lW b us k) j=if j=k then some l else iN b j:=by
 cases k with
 |jd=>cases hc
 |keep=>
  obtain⟨a,c,rfl,h1,h2⟩:=M5 hf;exact⟨[a,c],Z,fun j=>by cases j<;>rfl⟩
 |buffer=>
  obtain⟨a,c,d,e,rfl,_⟩:=LP hf;exact⟨[a,c,d,e],Z,fun j=>by cases j<;>rfl⟩
 |delay=>
  obtain⟨a,rfl,h1⟩:=A0 hf;exact⟨[a],Z,fun j=>by cases j<;>rfl⟩
 |gap=>
  obtain⟨a,rfl,h1⟩:=A0 hf;exact⟨[a],Z,fun j=>by cases j<;>rfl⟩
theorem WI{b:Book}{us:List im}:∀j,iN (lW b us .jd) j=iN b j:=fun j=>by cases j<;>rfl
theorem XX{b:Book}{k:Key}{us:List im}(hc:oM k=false):(lW b us k).channels=b.channels:=by cases k<;>first|rfl|cases hc
theorem lV.add{H H':Hp}{ld t:Addr}{ts:List (Str×Addr)}{b b':Book}{k:Key}{l:List Nat}(h:lV H ld ts b)(hn:iN b k=none)(hb:∀j,iN b' j=if j=k then some l else iN b j)
 (o:∀a l,H a=some (.tup l)->H' a=some (.tup l)) (hd:H' ld=some (.dK (lK (ts.map fun x=>((Sum.inr x.1:L2.Key),V.ref x.2)) (Sum.inr (iy k)) (V.ref t)))) (ht:H' t=some (Hu l)):lV H' ld (ts++[(iy k,t)]) b':=by
 have hv:i6 (ts.map fun x=>((Sum.inr x.1:L2.Key),V.ref x.2)) (Sum.inr (iy k))=none:=by
  rcases h.val k with⟨_,z⟩|⟨l,a,z,_⟩
  ·exact z
  ·rw[hn] at z;cases z
 have tE:∀x∈ts,x.1≠iy k:=fun x hx z=>by
  obtain⟨l2,ph⟩:=h.only x hx;rw[z] at ph;obtain⟨j,hj,pB⟩:=(nQ b _ _).mp ph;rw[<-Ag.mp hj,hn] at pB;cases pB
 refine⟨?_,?_,?_,?_⟩
 ·rw[hd,MP _ hv,ao];rfl
 ·rw[ao]
  exact NC h.nd (fun z=>by
   obtain⟨x,hx,e⟩:=bi.mp z;exact tE x hx e)
 ·rintro⟨s,l2⟩;rw[nQ];constructor
  ·rintro⟨j,rfl,hj⟩;rw[hb j] at hj
   by_cases c:j=k
   ·rw[aw c] at hj;rw[c,<-af hj];exact⟨t,by simp,ht⟩
   ·rw[am c] at hj;obtain⟨a,h1,h2⟩:=(h.all (iy j,l2)).mp ((nQ b _ _).mpr ⟨j,Z,hj⟩);exact⟨a,by simp[h1],o _ _ h2⟩
  ·rintro⟨a,h1,h2⟩;rcases aG.mp h1 with h1|h1
   ·obtain⟨l3,Cp⟩:=h.only _ h1;obtain⟨j,hj,pB⟩:=(nQ b _ _).mp Cp;have cj:j≠k:=fun z=>tE _ h1 (by rw[hj,z])
    refine⟨j,hj,?_⟩;rw[hb j,am cj,pB];obtain⟨a2,g1,g2⟩:=(h.all (s,l3)).mp Cp
    have ea:a=a2:=by
     obtain⟨i,hi⟩:=b8.mp h1;obtain⟨i2,mJ⟩:=b8.mp g1;have e:i=i2:=G1 h.nd (by rw[au,hi];rfl) (by rw[au,mJ];rfl);rw[e,mJ] at hi;exact(congrArg Prod.snd (af hi)).symm
    have g3:=o _ _ g2;rw[<-ea,h2] at g3;have:=HO.tup.inj (af g3);exact congrArg some (Gb this).symm
   ·have:=aq.mp h1;have e1:s=iy k:=congrArg Prod.fst this;have e2:a=t:=congrArg Prod.snd this;refine⟨k,e1,?_⟩;rw[hb k,aw Z];rw[e2,ht] at h2;exact congrArg some (Gb (HO.tup.inj (af h2)))
 ·intro x hx;rcases aG.mp hx with hx|hx
  ·obtain⟨l2,ph⟩:=h.only x hx;obtain⟨j,hj,pB⟩:=(nQ b _ _).mp ph;have cj:j≠k:=fun z=>tE _ hx (by rw[hj,z])
   exact⟨l2,(nQ b' _ _).mpr ⟨j,hj,by rw[hb j,am cj];exact pB⟩⟩
  ·rw[aq.mp hx];exact⟨l,(nQ b' _ _).mpr ⟨k,Z,by rw[hb k,aw Z]⟩⟩
theorem lV.other{H:Hp}{ld:Addr}{ts:List (Str×Addr)}{b b':Book}(h:lV H ld ts b)(hb:∀j,iN b' j=iN b j):lV H ld ts b' where
 dict:=h.dict
 nd:=h.nd
 all:=fun x=>by
  rw[show(x∈uF b'↔x∈uF b) from by
   obtain⟨s,l⟩:=x;rw[nQ,nQ];constructor
   ·rintro⟨k,h1,h2⟩;exact⟨k,h1,by rw[<-hb];exact h2⟩
   ·rintro⟨k,h1,h2⟩;exact⟨k,h1,by rw[hb];exact h2⟩]
  exact h.all x
 only:=fun x hx=>by
  obtain⟨l,hl⟩:=h.only x hx;obtain⟨k,h1,h2⟩:=(nQ b _ _).mp hl;exact⟨l,(nQ b' _ _).mpr ⟨k,h1,by rw[hb];exact h2⟩⟩
theorem OK{H:Hp}{ld:Addr}(h:H ld=some (.dK [])):lV H ld [] noBook where
 dict:=h
 nd:=List.nodup_nil
 all:=fun x=>by
  constructor
  ·intro hx;simp[uF,noBook] at hx
  ·rintro⟨a,h1,_⟩;cases h1
 only:=fun x hx=>by cases hx
def YJ(AA:gv)(K:PySem.W.Frag):Sp:=fun vs H Q E=>∃(a:Addr) (t:List Nat),vs=[.ref a]/\H a=some (.lst (t.map nV))/\t.length<=1000/\(∀f,Vbkdaa.read t=.error f->mI AA H E f.kind f.place)/\
 ∀b,Vbkdaa.read t=.ok b->∀(H':Hp) (L:lm),fR H H'->lY AA H' L b->nX b->(∀n∈names b,lI n=true)->(∀y∈L.fp,H y=none)->Q (.ref L.s) H'
section
variable {P:Program} {w:World} {K:PySem.W.Frag} {mg:Str->Option Value} {base:Heap} {AA:gv}
theorem Sf:gQ ["text","channels","told","words","end","keyword","channel","values"] ["text"] (gM (fY 58)):=gY (by decide+kernel)
theorem JQ(T:Tx P w K mg AA):gL P w K mg base (jG P w AA.m9) 5 AA.JT AA.JU ["text"] (YJ AA K):=by
 have VB:=UT (base:=base) T;have E8:=Lk (base:=base) T;have RY:=RL (base:=base) T;have Tp:=SZ (base:=base) T;have SC:=Sf;refine T.t9.fn.p5 SC (fun vs H Q E h=> ?_) (fun gz A outer s H vs Q E hr h=> ?_)
 ·obtain⟨a,t,rfl,_⟩:=h;rfl
 ·obtain⟨a,t,rfl,ha,hl,hE,hq⟩:=h;have hu:=wk hr
  refine⟨_,(fT (gm (i:=1) SC.nd Z (Or.inl Z) (gJ fQ))
   (fT (gm (i:=2) SC.nd Z (Or.inl Z) FY)
   (fT (lG O7 Z (md (ie VB (hr.mono (by decide)) Z T.AE.mg T.AE.fn.kp T.AE.b .nil gH (fO (pv 0) fQ))) (rf Z (lT (iJ (i:=3) SC.nd Z (Or.inl Z)) (lT (iJ (i:=4) SC.nd Z (Or.inl Z)) qZ)))
     (fW (gZ (ip mR (gW iM (by rfl) T.len aF (fO (pv 3) fQ)) fX (ij _))
       (fT (iS (ie RY (hr.mono (by decide)) Z T.zL.mg T.zL.fn.kp T.zL.b .nil Bo (fO (hZ jc (pv 3) fX (fun _ _=>rfl)) (fO (pv 1) (fO (pv 2) fQ)))))
       (fT (gm (i:=5) SC.nd Z (Or.inl Z) (hZ jI (hZ jc (pv 3) fX (fun _ _=>rfl)) fX (fun _ _=>rfl)))
       (fT (gm (i:=7) SC.nd Z (Or.inl Z) (ie Tp (hr.mono (by decide)) Z T.zY.mg T.zY.fn.kp T.zY.b .nil Bo (fO (pv 3) (fO (pv 4) (fO (PE.rA (mi (own:=[("channel",6)]) Z SC.nd (md (pv 1)) (lD (by kernel_rfl)) (fun s H C cl fp=>(iJ (i:=6) SC.nd Z (Or.inl Z) (.inr Z))) (fun s H C cl fp=>me) (fun s H C cl fp=>(hZ (r:=wA K) jI (pv 6) fX (fun _ _=>rfl))))) fQ)))))
       (fW (gZ (ip xZ (pv 5) (m8 Z T.Pa) (by with_unfolding_all Z))
         (fW (Gw hu (pv 2) (pv 5) (xY J6 (by rfl) T.tuple boot_tuple (fO (pv 7) fQ)) Z))
         (fW (iS (iU ax aI aL kF (pv 1) (fO (xY J6 (by rfl) T.tuple boot_tuple (fO (pv 7) fQ)) fQ)))))))))
       ic)))
   (fW (gD (uy T.Mm E8 (hr.mono (by decide)) Z T.LK T.Mn .nil gH (fO (pv 1) (fO (pv 2) fQ)))))))),?_⟩
  refine⟨aN _,fun q1 n1=> ?_⟩;refine fun q2 n2=> ?_
  have s1:fR H (fN H q1 (.lst [])):=fR.new n1;have s2:fR H (fN (fN H q1 (.lst [])) q2 (.dK [])):=s1.more n2;have l8:q1≠q2:=fun z=>by rw[<-z,fP] at n2;cases n2
  have f2:H q2=none:=s1.free n2;have g1:(fN (fN H q1 (.lst [])) q2 (.dK [])) q1=some (.lst []):=by rw[fU l8,fP]
  have g2:(fN (fN H q1 (.lst [])) q2 (.dK [])) q2=some (.dK []):=fP;show jS _ _ _ _ (fN (fN H q1 (.lst [])) q2 (.dK []));generalize fN (fN H q1 (.lst [])) q2 (.dK [])=H2 at s2 g1 g2;refine⟨_,Z,a,t,Z,s2 _ _ ha,hl,fun H3 p3 vp s3 f3 g3 Cu=> ?_⟩;have IH:=XF t;have wd:=GB (t++[10]) (t++[10]).length;rw[aT,IH] at wd;have vj:=(NR (t++[10]) (t++[10]).length).2.2;rw[aT,IH] at vj;simp only[ac] at vj;rw[IH] at Cu;simp only at Cu;have tl:(t++[10]).length<=1001:=by simp;omega
  generalize hTL:(t++[10]).length=tL at wd tl vj;have aaF:Vbkdaa.read t=bookFrom noBook (linesFrom 0 t):=rfl;rw[aaF] at hE hq;generalize hLS:linesFrom 0 t=LS at Cu hE hq wd vj;have h3p:H3 p3=some (.lst (vp.map V.ref)):=g3;have qb:q1≠p3:=gh g1 f3;have qa:q2≠p3:=gh g2 f3;have fp3:H p3=none:=s2.free f3
  refine⟨p3,Z,⟨_,fS.of g3⟩,qY (K:=K) (a:=p3) (xs:=vp.map V.ref) (fun i σ H'=>∃v3 v4 v5 v6 v7 cs ts b,σ=[some (.ref a),some (.ref q1),some (.ref q2),v3,v4,v5,v6,v7]/\fR H H'/\H' p3=some (.lst (vp.map V.ref))/\rb H2 H' vp (LS.map oP)/\H' q1=some (.lst (cs.map V.ref))/\iH H' Ck cs b.channels/\lV H' q2 ts b/\uO b/\ts.length<=i/\bookFrom noBook LS=bookFrom b (LS.drop i))
   ⟨none,none,none,none,none,[],[],noBook,Z,s2.trans s3,g3,Cu,s3 _ _ g1,iH.nil,OK (s3 _ _ g2),ZW,aA _,Z⟩ (fun i σ H' _ ⟨_,_,_,_,_,_,_,_,_,_,e,_⟩=>fS.of e) ?_ ?_⟩
  ·rintro i x σ H4 hx ⟨v3,v4,v5,v6,v7,cs,ts,b,rfl,s4,vq,xr,mY,xt,zq,hB,hti,mG⟩;obtain⟨tp,Qw,rfl⟩:=kG hx;have hi:i<vp.length:=(ap.mp Qw).1;have Qx:vp.length=LS.length:=by rw[xr.1,ac]
   have II:LS[i]? =some LS[i]:=ak (by omega);generalize hln:LS[i]=ln at II;have Ir:(LS.map oP)[i]? =some (oP ln):=by rw[au,II];rfl
   obtain⟨qw,ws,a1,a2,a3,a4⟩:=xr.2 i tp (oP ln) Qw Ir;obtain⟨w1,w2⟩:=wd.ls (oP ln) (aS Ir);rw[At II] at mG;have wI:bookFrom noBook LS=match lineIn b (ln.1+ln.2.length) (wordsFrom ln.1 none ln.2) with|.error f=>.error f|.ok c=>bookFrom c (LS.drop (i+1)):=mG
   refine⟨tp,_,Z,kg a1,Z,_,_,Z,_,_,Z,Z,?_⟩;refine⟨_,Z,qw,_,Z,.inl (fS.of a2),_,_,Z,Z,_,Z,?_⟩;have zl:ws.length=(wordsFrom ln.1 none ln.2).length:=by rw[a3.1];simp[oP]
   rw[ac];cases IJ:wordsFrom ln.1 none ln.2 with
   |nil=>
    rw[IJ] at zl wI;refine gu (ae (by rw[zl];simp)) ?_;exact⟨_,_,v5,v6,v7,cs,ts,b,Z,s4,vq,xr,mY,xt,zq,hB,by omega,wI⟩
   |cons w0 r=>
    rw[IJ] at zl wI;refine gc (ai (by rw[zl];simp)) ?_;have Qy:(oP ln).1=iq w0::r.map iq:=by unfold oP;rw[IJ];rfl
    rw[Qy] at a3 w2;have hby:lineIn b (ln.1+ln.2.length) (w0::r)=qB b (ln.1+ln.2.length) (iq w0) (r.map iq):=WE b _ w0 r hB.ch;rw[hby] at wI;have bad:∀f,qB b (ln.1+ln.2.length) (iq w0) (r.map iq)=.error f->mI AA H E f.kind f.place:=fun f hf=>hE f (by rw[wI,hf])
    obtain⟨t0,Cs,Pg⟩:=a3.addr (i:=0) (x:=iq w0) Z;have Cv:cs.length=b.channels.length:=xt.1;refine⟨_,Z,qw,_,_,_,Z,Z,fS.of a2,iu (j:=0) Z (by rw[au,Cs];rfl),_,Z,_,Z,t0,(iq w0).1,(iq w0).2,q1,cs,q2,ts,b,Z,Pg,mY,Cv,zq,fun hk=> ?_,fun k hk=>⟨fun qe=> ?_,fun qe hc h8=> ?_,fun qe qK=> ?_⟩⟩
    ·exact(bad ⟨1,(iq w0).2⟩ (by unfold qB;rw[hk])).at s4
    ·exact(bad ⟨4,(iq w0).2⟩ (by unfold qB;rw[hk];simp only;rw[aw qe])).at s4
    ·refine(bad ⟨5,(iq w0).2⟩ ?_).at s4;unfold qB;rw[hk];simp only;rw[am (by rw[qe];simp)];cases k<;>first|cases hc|afk
     rw[aw (ai h8)]
    have oO:qB b (ln.1+ln.2.length) (iq w0) (r.map iq)=(jn (ln.1+ln.2.length) (names b) (qA k) (jZ k) (r.map iq)).map fun vs=>lW b vs k:=by
     unfold qB;rw[hk];simp only;rw[am (by rw[qe];simp),am];cases k<;>simp;intro z;exact qK ⟨Z,z⟩
    refine⟨_,Z,qw,_,_,_,Z,Z,fS.of a2,iu (j:=0) Z (by rw[au,Cs];rfl),t0,_,_,_,Z,Z,kg Pg,iu (j:=0) Z Z,?_⟩;refine⟨_,Z,_,Z,_,Z,q1,Z,⟨_,fS.of mY⟩,fun q5 n5=> ?_⟩;have tM:=gh mY n5;refine sw (K:=K) (a:=q1) (xs:=cs.map V.ref) (fun j H'=>H'=fN H4 q5 (.lst ((((names b).take j).map fun n=>V.str (gK n))))) Z (fun j H' _ e=>by rw[e];exact fS.of (by rw[fU tM];exact mY)) ?_ ?_
    ·rintro j y H' hy rfl;obtain⟨c,hc,rfl⟩:=kG hy;obtain⟨chn,ki,BG⟩:=xt.get hc;have hj:j<b.channels.length:=(ap.mp ki).1;have hnj:(names b)[j]? =some chn.name:=by unfold names;rw[au,ki];rfl
     refine⟨Z,?_⟩;refine⟨_,Z,c,_,_,_,Z,Z,kg (by rw[fU (gh BG n5)];exact BG),iu (j:=0) Z Z,_,fP,iV (by rw[ac,aD];have:=hB.ch;unfold names;rw[ac];omega),?_⟩;rw[jo,take_snoc hnj,ao];rfl
    ·rintro H5 rfl;have enl:(names b).take (cs.map V.ref).length=names b:=aV (by rw[ac,Cv];unfold names;simp);rw[enl];have rO:=fR.new (H:=H4) (o:=.lst ((names b).map fun n=>V.str (gK n))) n5;have s5:=s4.trans rO;have Qz:(fN H4 q5 (.lst ((names b).map fun n=>V.str (gK n)))) q5=some (.lst ((names b).map fun n=>V.str (gK n))):=fP;have xu:=rO _ _ vq;have QA:=xr.same rO;have ow:=rO _ _ mY;have QB:=xt.same rO;have QC:=zq.keep (ys:=[]) rO.own (by simp) (fun _ z=>by cases z);have IK:=rO _ _ a1;have Cw:=rO _ _ a2;have Cy:=a3.same rO;generalize fN H4 q5 (.lst ((names b).map fun n=>V.str (gK n)))=H5 at s5 Qz xu QA ow QB QC IK Cw Cy;refine⟨qw,ws,iq w0,r.map iq,ln.1+ln.2.length,q5,names b,k,Z,Cw,Cy,hk,fS.of Qz,hB.nm,fun x hx=> ?_,?_,fun f hf=> ?_,fun us tH H6 p6 s6 f6 g6=> ?_⟩
     ·have:=w2 x (by simp[hx]);exact⟨this.1,by omega⟩
     ·rw[Qy] at w1;simp only[aj] at w1;omega
     ·exact(bad f (by rw[oO,hf];rfl)).at s5
     have sR:=XV tH;have Bq:bookFrom noBook LS=bookFrom (lW b us k) (LS.drop (i+1)):=by rw[wI,oO,tH];rfl
     have xf:=hB.add sR qK;have tR:=s5.trans s6;have mr:=s6 _ _ ow;have QD:=QC.keep (ys:=[]) s6.own (by simp) (fun _ z=>by cases z);have Cz:=QB.same s6;have rJ:=QA.same s6;have xw:=s6 _ _ xu;have eo:[V.str "keep",V.str "buffer",V.str "delay",V.str "gap"]=([txt "keep",txt "buffer",txt "delay",txt "gap"].map fun k=>V.str (gK k)):=by simp only[aB,cg,<-jr]
     have ko:=T.OI;rw[eo] at ko;refine⟨_,Z,AA.yp,_,Z,.inr ko.sq,Z,As _,_,Z,?_⟩;show(if pc (.str (ii (iq w0).1)) ([txt "keep",txt "buffer",txt "delay",txt "gap"].map fun k=>V.str (gK k))=true then _ else _);rw[ye (iq w0).1 [txt "keep",txt "buffer",txt "delay",txt "gap"] (by decide)]
     have ec:[txt "keep",txt "buffer",txt "delay",txt "gap"].contains (iq w0).1= !oM k:=by
      rw[E6 hk];cases k<;>decide
     rw[ec];have ekp:ii (iq w0).1=iy k:=Ge hk
     have QE:∀y∈([q1,q2]:List Addr),(H2 y).isSome=true:=fun y hy=>by
      rcases az.mp hy with rfl|hy
      ·rw[g1];rfl
      ·rw[aq.mp hy,g2];rfl
     cases ki:oM k with
     |false=>
      refine gc Z ?_;obtain⟨l,Ix,ph⟩:=XW (b:=b) sR ki;refine⟨_,Z,p6,_,Z,.inl ⟨fS.of g6,fun q7 n7=> ?_⟩⟩;have kZ:=fR.new (H:=H6) (o:=.tup (us.map k8)) n7;have zr:=QD.keep (ys:=[]) kZ.own (by simp) (fun _ z=>by cases z);have Qa:ts.length<sizeLine:=iV (by omega);refine⟨_,Z,_,Z,q2,_,Z,uY.k (k:=Sum.inr (ii (iq w0).1)) zr.dict (by rw[ac];exact Qa),?_⟩;rw[ekp];have IL:=zr.dict
      have ot:∀a l,(fN H6 q7 (.tup (us.map k8))) a=some (.tup l)->(fN (fN H6 q7 (.tup (us.map k8))) q2 (.dK (lK (ts.map fun x=>((Sum.inr x.1:L2.Key),V.ref x.2)) (Sum.inr (iy k)) (V.ref q7)))) a=some (.tup l):=fun a l z=>by
       rw[fU (pN z IL (by intro y;cases y))];exact z
      have n27:q7≠q2:=pN (o:=.tup (us.map k8)) fP IL (by intro y;cases y)
      have HZ:iN b k=none:=by
       have:=Mp b k;rw[qe] at this;cases h:iN b k with
       |none=>rfl
       |some l=>rw[h] at this;cases this
      have IM:lV (fN (fN H6 q7 (.tup (us.map k8))) q2 (.dK (lK (ts.map fun x=>((Sum.inr x.1:L2.Key),V.ref x.2)) (Sum.inr (iy k)) (V.ref q7)))) q2 (ts++[(iy k,q7)]) (lW b us k):=
       zr.add HZ ph ot fP (by rw[fU n27,fP,Ix];rfl)
      have o8:gF [q2] (fN H6 q7 (.tup (us.map k8))) (fN (fN H6 q7 (.tup (us.map k8))) q2 (.dK (lK (ts.map fun x=>((Sum.inr x.1:L2.Key),V.ref x.2)) (Sum.inr (iy k)) (V.ref q7)))):=gF.refl.put (by simp);have xx:∀y∈([q2]:List Addr),∀xs,(fN H6 q7 (.tup (us.map k8))) y≠some (.tup xs):=fun y hy xs z=>by rw[aq.mp hy,IL] at z;cases z
      refine⟨_,_,_,v6,_,cs,ts++[(iy k,q7)],lW b us k,Z,(tR.trans kZ).put f2,?_,(rJ.same kZ).keep o8 (fun y hy=>QE y (by simp at hy;simp[hy])) xx,?_,?_,IM,xf,by simp;omega,Bq⟩
      ·rw[fU qa.symm];exact kZ _ _ xw
      ·rw[fU l8];exact kZ _ _ mr
      ·rw[XX ki];exact⟨Cz.1,fun j a y h1 h2=>kR o8 xx ((Cz.same kZ).2 j a y h1 h2)⟩
     |true=>
      refine gu Z ?_;have ekc:k=.jd:=by cases k<;>first|rfl|cases ki
      subst ekc;obtain⟨n,pp,aa,bb,rfl,hnm,_⟩:=Ll sR;refine⟨_,Z,.inl ⟨Z,_,fS.of mr⟩,_,Z,p6,_,Z,.inl ⟨fS.of g6,fun q7 n7=> ?_⟩⟩;have kZ:=fR.new (H:=H6) (o:=.tup ([Sum.inl n,Sum.inr pp,Sum.inr aa,Sum.inr bb].map k8)) n7;have qQ:=kZ _ _ mr;refine⟨q1,_,_,Z,Z,qQ,iV (by rw[ac,Cv];have:=hB.ch;omega),?_⟩;have o8:gF [q1] (fN H6 q7 (.tup ([Sum.inl n,Sum.inr pp,Sum.inr aa,Sum.inr bb].map k8))) (fN (fN H6 q7 (.tup ([Sum.inl n,Sum.inr pp,Sum.inr aa,Sum.inr bb].map k8))) q1 (.lst (cs.map V.ref++[V.ref q7]))):=gF.refl.put (by simp);have xx:∀y∈([q1]:List Addr),∀xs,(fN H6 q7 (.tup ([Sum.inl n,Sum.inr pp,Sum.inr aa,Sum.inr bb].map k8))) y≠some (.tup xs):=fun y hy xs z=>by rw[aq.mp hy,qQ] at z;cases z
      have zr:=QD.keep (ys:=[]) kZ.own (by simp) (fun _ z=>by cases z);have IM:=(zr.keep o8 (by simpa using l8.symm) xx).other (b':=lW b [.inl n,.inr pp,.inr aa,.inr bb] .jd) WI;have hC8:iH (fN (fN H6 q7 (.tup ([Sum.inl n,Sum.inr pp,Sum.inr aa,Sum.inr bb].map k8))) q1 (.lst (cs.map V.ref++[V.ref q7]))) Ck cs b.channels:=⟨Cz.1,fun j a y h1 h2=>kR o8 xx ((Cz.same kZ).2 j a y h1 h2)⟩;have IN:q7≠q1:=pN (o:=.tup ([Sum.inl n,Sum.inr pp,Sum.inr aa,Sum.inr bb].map k8)) fP qQ (by intro y;cases y);refine⟨_,_,_,v6,_,cs++[q7],ts,lW b [.inl n,.inr pp,.inr aa,.inr bb] .jd,Z,(tR.trans kZ).put n1,?_,(rJ.same kZ).keep o8 (fun y hy=>QE y (by simp at hy;simp[hy])) xx,?_,?_,IM,xf,by omega,Bq⟩
      ·rw[fU qb.symm];exact kZ _ _ xw
      ·rw[fP,ao];rfl
      ·refine hC8.snoc ?_;rw[fU IN,fP];rfl
  ·rintro σ H4 ⟨v3,v4,v5,v6,v7,cs,ts,b,rfl,s4,vq,xr,mY,xt,zq,hB,hti,mG⟩;have Qx:vp.length=LS.length:=by rw[xr.1,ac]
   rw[ac,Qx,eA] at mG;have gj:bookFrom noBook LS=.ok b:=mG;refine⟨_,Z,_,Z,?_⟩;intro x dx nx CA ne;have sA:fR H4 (fN (fN H4 dx (.own x)) x (.ins AA.lR dx [])):=(fR.new CA).more (by rw[fU ne.symm];exact nx);refine⟨x,dx,q1,cs,q2,ts,b,Z,fP,sA _ _ mY,xt.same sA,zq.keep (ys:=[]) sA.own (by simp) (fun _ z=>by cases z),hB.ch,fun H5 o5 hS5=>⟨Z,?_⟩⟩;have fx:H x=none:=s4.free nx;refine hq b gj H5 ⟨x,dx,q1,q2,cs,ts⟩ ?_ hS5 hB.ok hB.nm ?_
   ·intro c o e;refine o5 _ _ (sA _ _ (s4 _ _ e)) ?_;simp only[aq];intro z;rw[z,fx] at e;cases e
   ·intro y hy;simp only[lm.fp,az,bh,cN] at hy;rcases hy with rfl|rfl|rfl
    ·exact fx
    ·exact n1
    ·exact f2
end
end FE
namespace L2
open PySem PySem.Spec PyProof.Rows
theorem Uc{X:Cx}:mQ X (.type "str") (fun xs H Q=>(∃i,xs=[.int i]/\i.natAbs.log2<1920/\Q (.str (toString i)) H)\/∃z,xs=[.str z]/\Q (.str z) H):=by
 intro fM s σ H xs us Q I r h;rcases h with h|⟨z,rfl,q⟩
 ·exact TW fM s σ H xs us Q I r h
 ·obtain⟨u,rfl,t,rfl⟩:=vals1 r;exact PySem.P.str_of_str ⟨.str z,H,I,⟨_,Z⟩,q⟩
end L2
namespace FE
open PySem PySem.Spec PyProof.Rows L2
open VbkdCore (txt decimal between Bytes)
open Vbkdaa (Book Channel lineOf printed)
inductive pU:List Due->List im->Prop
 |nil:pU [] []
 |word {k:Bytes} {ds:List Due} {us:List im}:pU ds us->pU (.word k::ds) us
 |num {hi n:Nat} {ds:List Due} {us:List im}:pU ds us->pU (.num hi::ds) (.inr n::us)
 |name {n:Bytes} {ds:List Due} {us:List im}:pU ds us->pU (.name::ds) (.inl n::us)
def uH:im->Bytes
 |.inl n=>n
 |.inr n=>decimal n
def j2:List Due->List im->List Bytes
 |.word k::ds,us=>k::j2 ds us
 |.num _::ds,u::us=>uH u::j2 ds us
 |.name::ds,u::us=>uH u::j2 ds us
 |_,_=>[]
def nZ(k:Key)(us:List im):Bytes:=between 32 (ju k::j2 (jZ k) us)++[10]
def wv:im->Prop
 |.inl n=>n.length<=8
 |.inr n=>n<=4095
theorem AQ(n:Nat):(toString (n:Int):String)=String.ofList (Nat.toDigits 10 n):=by
 show Int.repr (n:Int)=_;simp[Int.repr,Nat.repr]
theorem YK(n:Nat):Str.ofString (toString (n:Int))=gK (decimal n):=by
 rw[jr,AQ];unfold txt decimal;simp
theorem NW{n:Nat}(h:n<=4095):(decimal n).length<=4:=by
 unfold decimal;rw[ac];exact(Nat.length_toDigits_le_iff (by decide) (by decide)).mpr (by omega)
theorem NX{v:im}(h:wv v):(uH v).length<=8:=by
 cases v with
 |inl n=>exact h
 |inr n=>
  have:=NW (n:=n) h;show(decimal n).length<=8;omega
theorem NY:∀(w:Bytes) (ws:List Bytes) (acc:Bytes),((ws.map gK).foldl (fun acc p=>acc++(gK [32]).cps++p.cps) (acc++w).toArray)=(acc++between 32 (w::ws)).toArray
 |w,[],acc=>by simp[between]
 |w,x::ws,acc=>by
  rw[aB,bI];have e:(acc++w).toArray++(gK [32]).cps++(gK x).cps=((acc++w++[32])++x).toArray:=by simp[gK]
  rw[e,NY x ws (acc++w++[32])]
  congr 1
  show acc++w++[32]++between 32 (x::ws)=acc++(w++(32::between 32 (x::ws)));simp
theorem LQ(w:Bytes)(ws:List Bytes):Txt.join (Str.ofString " ") ((w::ws).map gK)=gK (between 32 (w::ws)):=by
 show Builtin.Str.glued (Str.ofString " ") _=_;unfold Builtin.Str.glued;rw[show Str.ofString " "=gK [32] from by rw[jr];rfl];have:=NY w ws [];simp only[List.nil_append] at this;rw[aB,List.drop_one,List.tail_cons,List.headD_cons];show(⟨(ws.map gK).foldl _ w.toArray⟩:Str)=_;rw[this];rfl
theorem WJ(ws:List Bytes):Txt.join (Str.ofString "") (ws.map gK)=gK ws.flatten:=by
 show Builtin.Str.glued (Str.ofString "") _=_;unfold Builtin.Str.glued;rw[show Str.ofString ""=gK [] from by rw[jr];rfl];cases ws with
 |nil=>rfl
 |cons w ws=>
  rw[aB,List.drop_one,List.tail_cons,List.headD_cons]
  have:∀(ws:List Bytes) (acc:Bytes),((ws.map gK).foldl (fun acc p=>acc++(gK []).cps++p.cps) acc.toArray)=(acc++ws.flatten).toArray:=by
   intro ws
   induction ws with
   |nil=>intro acc;simp
   |cons x ws ih=>
    intro acc;rw[aB,bI];have e:acc.toArray++(gK []).cps++(gK x).cps=(acc++x).toArray:=by simp[gK]
    rw[e,ih];simp
  show(⟨(ws.map gK).foldl _ w.toArray⟩:Str)=_;rw[this ws w];simp[gK]
theorem Ey:∀ws:List Bytes,(∀w∈ws,w.length<=20)->(between 32 ws).length<=21*ws.length
 |[],_=>by simp[between]
 |[w],h=>by have:=h w (by simp);simp[between];omega
 |w::x::ws,h=>by
  have:=Ey (x::ws) fun y hy=>h y (by simp[hy])
  have h2:=h w (by simp);show(w++(32::between 32 (x::ws))).length<=_;simp only[ag,aj] at this⊢;omega
theorem WK(k:Key):nY (ju k)=some k:=by cases k<;>decide
def ZX(AA:gv)(K:PySem.W.Frag):Sp:=fun vs H Q _=>∃(k:Key) (p:Addr) (us:List im),vs=[.str (iy k),.ref p]/\iO K H p (us.map k8)/\pU (jZ k) us/\(∀u∈us,wv u)/\∀H',fR H H'->Q (.str (gK (nZ k us))) H'
def ZY(AA:gv)(K:PySem.W.Frag):Sp:=fun vs H Q _=>∃(L:lm) (b:Book),vs=[.ref L.s]/\lY AA H L b/\nX b/\∀(H':Hp) (p:Addr),fR H H'->H p=none->H' p=some (.lst ((printed b).map nV))->Q (.ref p) H'
theorem NZ{k:Key}:∀w∈ju k::(jZ k).filterMap (fun d=>match d with|.word w=>some w|_=>none),w.length<=8:=by
 cases k<;>decide
theorem WL{n:Nat}(h:n<=4095):((n:Int).natAbs).log2<1920:=by
 show n.log2<1920
 by_cases h0:n=0
 ·subst h0;decide
 ·exact aU ((Nat.log2_lt h0).mpr (show n<2^12 by omega)) (by decide)
section
variable {P:Program} {w:World} {K:PySem.W.Frag} {mg:Str->Option Value} {base:Heap} {AA:gv}
theorem VC:gQ ["keyword","values","words","used","due"] ["keyword","values"] (gM (fY 66)):=gY (by decide+kernel)
theorem VD(T:Tx P w K mg AA):gL P w K mg base gU 1 AA.Mg AA.Mh ["keyword","values"] (ZX AA K):=by
 have SC:=VC;refine T.uC.fn.ok SC (fun vs H Q E h=> ?_) (fun gz A outer s H vs Q E hr h=> ?_)
 ·obtain⟨k,p,us,rfl,_⟩:=h;rfl
 ·obtain⟨k,p,us,rfl,hP,sR,gj,hq⟩:=h
  refine⟨_,(fT (gm (i:=2) SC.nd Z (Or.inl Z) (gJ (fO (pv 0) fQ)))
   (fT (gm (i:=3) SC.nd Z (Or.inl Z) fX)
   (fT (lG bg Z (GJ (ra T.GS (m8 Z T.G6) (pv 0) (fun _ _=>rfl))) (iJ (i:=4) SC.nd Z (Or.inl Z))
     (fW (gZ (PW.pt (pO (ip nk (pv 4) (uB Z T.O9) (ij _)) (qx (lU (gW Lu (by rfl) T.isinstance boot_isinstance (fO (pv 4) (fO (Nl (v:=V.ty "int") Z T.int boot_int Z) fQ)))))))
       (fT (iS (iU ax aI aL kF (pv 2) (fO (xY Uc (by rfl) T.str boot_str (fO (hZ jI (pv 1) (pv 3) (fun _ _=>rfl)) fQ)) fQ)))
       (fW (vW (i:=3) SC.nd Z (Or.inl Z) fX A5)))
       (fW (iS (iU ax aI aL kF (pv 2) (fO (pv 4) fQ)))))))
   (fW (gD (gB Ve (NB ku (pv 2)) ku)))))),?_⟩
  have kt:=M0 T k;obtain⟨IB,IC⟩:=Gg k;have zp:=NV k;have dl:=NZ (k:=k);refine⟨_,Z,fZ (by simp),fun q1 n1=> ?_⟩;have s1:fR H (fN H q1 (.lst [V.str (iy k)])):=fR.new n1
  have ef:i6 [((Sum.inr "channel":L2.Key),V.ref AA.uf),(Sum.inr "keep",.ref AA.uh),(Sum.inr "buffer",.ref AA.ui),(Sum.inr "delay",.ref AA.uj),(Sum.inr "gap",.ref AA.um)] (Sum.inr (iy k))=some (V.ref (mO AA k)):=by
   have:=Gf AA (ju k);rw[Af (FK k)] at this;exact this.trans (by rw[WK];rfl)
  have QF:nZ k us=between 32 (ju k::j2 (jZ k) us)++[10]:=rfl;generalize Qm:jZ k=ds at kt IB IC zp dl sR QF
  refine⟨_,Z,Sum.inr (iy k),_,Z,ef,mO AA k,Z,⟨_,kt.sq⟩,Nm (K:=K) (a:=mO AA k) (xs:=ds.map mT) (fun i σ H'=>∃(v4:Option V) (ws:List Bytes) (j:Nat),σ=[some (.str (iy k)),some (.ref p),some (.ref q1),some (.int j),v4]/\fR H H'/\H' q1=some (.lst (ws.map fun x=>V.str (gK x)))/\ws.length=i+1/\(∀x∈ws,x.length<=20)/\pU (ds.drop i) (us.drop j)/\ju k::j2 ds us=ws++j2 (ds.drop i) (us.drop j))
   ⟨none,[ju k],0,Z,s1,fP,Z,fun x hx=>by rw[aq.mp hx];have:=dl (ju k) (by simp);omega,sR,Z⟩ (fun i σ H' _ _=>kt.sq) ?_ ?_⟩
  ·rintro i x σ H2 hx ⟨v4,ws,j,rfl,s2,g2,rM,u1,hf,lP⟩;obtain⟨d,hd,rfl⟩:=kG hx;have hi:i<ds.length:=(ap.mp hd).1;have dk:G8 d=true:=a9.mp zp d (aS hd);rw[At hd] at hf lP;have hz:(ws.map fun x=>V.str (gK x)).length<sizeLine:=iV (by rw[ac];omega);cases d with
   |word kw=>
    refine⟨_,Z,Z,_,Z,?_⟩;refine gu (ae (NU kw dk)) ?_;refine⟨_,Z,_,Z,.inr ⟨_,Z⟩,_,Z,?_⟩;refine gu Z ?_;refine⟨_,Z,.inl ⟨Z,_,fS.of g2⟩,_,Z,q1,_,_,Z,Z,g2,hz,?_⟩;cases hf with
    |word hf=>
     refine⟨some (mT (.word kw)),ws++[kw],j,Z,s2.put n1,?_,by simp;omega,fun x hx=> ?_,hf,?_⟩
     ·rw[fP,ao];rfl
     ·rcases aG.mp hx with hx|hx
      ·exact u1 x hx
      ·rw[aq.mp hx]
       have:=dl kw (by
        refine aX _ (ck.mpr ⟨.word kw,aS hd,Z⟩))
       omega
     ·rw[lP,a7];rfl
   |num mJ=>
    refine⟨_,Z,Z,_,Z,?_⟩;refine gu (ae (by intro z;cases z)) ?_;refine⟨_,Z,_,Z,.inl ⟨_,Z⟩,_,Z,?_⟩;refine gc Z ?_;generalize hu:us.drop j=ur at hf lP;cases hf with
    | @num _ n _ tJ hf=>
      have zt:us[j]? =some (.inr n):=by
       have:(us.drop j)[0]? =some (.inr n):=by rw[hu];rfl
       rwa [cZ,Nat.add_zero] at this
      have hn:n<=4095:=gj _ (aS zt);refine⟨_,Z,.inl ⟨Z,_,fS.of g2⟩,_,Z,_,Z,p,_,_,_,Z,Z,O8 s2 hP,iu (j:=j) Z (by rw[au,zt];rfl),.inl ⟨_,Z,WL hn,?_⟩⟩;refine⟨q1,_,_,Z,Z,g2,hz,?_⟩;refine⟨_,Z,_,_,Z,Z,?_⟩;refine⟨some (mT (.num mJ)),ws++[decimal n],j+1,Z,s2.put n1,?_,by simp;omega,fun x hx=> ?_,?_,?_⟩
      ·rw[fP,ao];show some (HO.lst (ws.map (fun x=>V.str (gK x))++[V.str (Str.ofString (toString (n:Int)))]))=_;rw[YK];rfl
      ·rcases aG.mp hx with hx|hx
       ·exact u1 x hx
       ·rw[aq.mp hx];have:=NW hn;omega
      ·have:us.drop (j+1)=tJ:=by rw[<-bw,hu];rfl
       rw[this];exact hf
      ·have:us.drop (j+1)=tJ:=by rw[<-bw,hu];rfl
       rw[this,lP,a7];rfl
   |name=>
    refine⟨_,Z,Z,_,Z,?_⟩;refine gc (ai Z) ?_;refine gc Z ?_;generalize hu:us.drop j=ur at hf lP;cases hf with
    | @name n _ tJ hf=>
      have zt:us[j]? =some (.inl n):=by
       have:(us.drop j)[0]? =some (.inl n):=by rw[hu];rfl
       rwa [cZ,Nat.add_zero] at this
      have hn:n.length<=8:=gj _ (aS zt);refine⟨_,Z,.inl ⟨Z,_,fS.of g2⟩,_,Z,_,Z,p,_,_,_,Z,Z,O8 s2 hP,iu (j:=j) Z (by rw[au,zt];rfl),.inr ⟨_,Z,?_⟩⟩;refine⟨q1,_,_,Z,Z,g2,hz,?_⟩;refine⟨_,Z,_,_,Z,Z,?_⟩;refine⟨some (mT .name),ws++[n],j+1,Z,s2.put n1,?_,by simp;omega,fun x hx=> ?_,?_,?_⟩
      ·rw[fP,ao];rfl
      ·rcases aG.mp hx with hx|hx
       ·exact u1 x hx
       ·rw[aq.mp hx];omega
      ·have:us.drop (j+1)=tJ:=by rw[<-bw,hu];rfl
       rw[this];exact hf
      ·have:us.drop (j+1)=tJ:=by rw[<-bw,hu];rfl
       rw[this,lP,a7];rfl
  ·rintro σ H2 ⟨v4,ws,j,rfl,s2,g2,rM,u1,hf,lP⟩;rw[ac,eA] at hf lP;rw[ac] at rM;have wJ:ju k::j2 ds us=ws:=by rw[lP];cases us.drop j<;>simp[j2]
   have em:ws.map (fun x=>V.str (gK x))=(ws.map gK).map V.str:=by rw[bE];rfl
   rw[em] at g2;have zi:=Ey ws u1
   have afl:((ws.map gK).map (·.length)).sum<=20*ws.length:=by
    clear wJ lP em g2 rM zi
    induction ws with
    |nil=>simp
    |cons x r ih=>
     have h1:=u1 x (by simp);have h2:=ih fun y hy=>u1 y (by simp[hy])
     rw[aB,aB,List.sum_cons,pK,aj];omega
   have l1:(Str.ofString " ").length=1:=by rw[jr,pK];rfl
   have l2:(Str.ofString "\n").length=1:=by rw[jr,pK];rfl
   refine⟨⟨_,Z⟩,_,Z,_,q1,ws.map gK,Z,Z,.inl (fS.of g2),?_,_,_,Z,Z,?_,?_⟩
   ·rw[l1,ac];omega
   ·rw[<-wJ,LQ,pK,l2,wJ];exact fZ (by omega)
   ·rw[<-wJ,LQ,wJ]
    have e:gK (between 32 ws)++Str.ofString "\n"=gK (between 32 ws++[10]):=by
     rw[jr];show(⟨(between 32 ws).toArray++(txt "\n").toArray⟩:Str)=_;rw[show txt "\n"=[10] from by decide];unfold gK;simp
    rw[e];have:=hq H2 s2;rw[QF,wJ] at this;exact this
end
open Vbkdaa (ahead behind depth rate high low delayOf gapOf)
def uI(c:Channel):List im:=[.inl c.name,.inr c.pedestal,.inr c.on,.inr c.off]
def oF:List Key:=[.keep,.buffer,.delay,.gap]
def kP(b:Book)(k:Key):List Bytes:=match iN b k with
 |some l=>[nZ k (l.map Sum.inr)]
 |none=>[]
def oB(b:Book):List Bytes:=b.channels.map (fun c=>nZ .jd (uI c))++oF.flatMap (kP b)
theorem E9(b:Book):(oB b).flatten=printed b:=by
 unfold oB printed oF;rw[eE]
 congr 1
 ·have e:[Key.keep,Key.buffer,Key.delay,Key.gap].flatMap (kP b)=kP b .keep++(kP b .buffer++(kP b .delay++kP b .gap)):=by simp
  rw[e,eE,eE,eE]
  congr 1
  ·unfold kP iN;cases b.keep<;>simp[nZ,ju,jZ,wu,j2,uH,lineOf]
  ·congr 1
   ·unfold kP iN;cases b.buffer<;>simp[nZ,ju,jZ,vU,j2,uH,lineOf]
   ·congr 1
    ·unfold kP iN;cases b.delay<;>simp[nZ,ju,jZ,Bf,j2,uH,lineOf]
    ·unfold kP iN;cases b.gap<;>simp[nZ,ju,jZ,BC,j2,uH,lineOf]
theorem N0{b:Book}(h:nX b){k:Key}{l:List Nat}(ht:iN b k=some l):(∀u∈l.map (Sum.inr:Nat->im),wv u)/\pU (jZ k) (l.map Sum.inr):=by
 have h1:=h.ah;have h2:=h.be;have h3:=h.dp;have h4:=h.rt;have h5:=h.hi;have h6:=h.lo;have h7:=h.de;have h8:=h.ga;cases k with
 |jd=>cases ht
 |keep=>
  unfold iN at ht;cases hb:b.keep with
  |none=>rw[hb] at ht;cases ht
  |some x=>
   rw[hb] at ht;have:=af ht;subst this;unfold ahead at h1;unfold behind at h2;rw[hb] at h1 h2;refine⟨?_,.num (.num .nil)⟩;simp only[Option.getD_some] at h1 h2;intro u hu;simp only[aB,cg,az,bh,cN] at hu;rcases hu with rfl|rfl<;>(show _<=4095)<;>omega
 |buffer=>
  unfold iN at ht;cases hb:b.buffer with
  |none=>rw[hb] at ht;cases ht
  |some x=>
   rw[hb] at ht;have:=af ht;subst this;unfold depth Vbkdaa.bufferOf at h3;unfold rate Vbkdaa.bufferOf at h4;unfold high Vbkdaa.bufferOf at h5;unfold low Vbkdaa.bufferOf at h6;rw[hb] at h3 h4 h5 h6;refine⟨?_,.num (.word (.num (.word (.num (.word (.num .nil))))))⟩;simp only[Option.getD_some] at h3 h4 h5 h6;intro u hu;simp only[aB,cg,az,bh,cN] at hu;rcases hu with rfl|rfl|rfl|rfl<;>(show _<=4095)<;>omega
 |delay=>
  unfold iN at ht;cases hb:b.delay with
  |none=>rw[hb] at ht;cases ht
  |some x=>
   rw[hb] at ht;have:=af ht;subst this;unfold delayOf at h7;rw[hb] at h7;refine⟨?_,.num .nil⟩;simp only[Option.getD_some] at h7;intro u hu;simp only[aB,cg,az,bh,cN] at hu;subst hu;show _<=4095;omega
 |gap=>
  unfold iN at ht;cases hb:b.gap with
  |none=>rw[hb] at ht;cases ht
  |some x=>
   rw[hb] at ht;have:=af ht;subst this;unfold gapOf at h8;rw[hb] at h8;refine⟨?_,.num .nil⟩;simp only[Option.getD_some] at h8;intro u hu;simp only[aB,cg,az,bh,cN] at hu;subst hu;show _<=4095;omega
theorem OL{b:Book}(h:nX b){c:Channel}(hc:c∈b.channels):(∀u∈uI c,wv u)/\pU (jZ .jd) (uI c):=by
 obtain⟨h1,h2,h3,h4⟩:=h.cn c hc;refine⟨?_,.name (.word (.num (.word (.num (.word (.num .nil))))))⟩;intro u hu;unfold uI at hu;simp only[az,bh,cN] at hu;rcases hu with rfl|rfl|rfl|rfl
 ·exact h1
 ·exact h2
 ·exact h3
 ·exact h4
theorem AL:∀(ds:List Due) (us:List im),(∀w,Due.word w∈ds->w.length<=8)->(∀u∈us,wv u)->(∀w∈j2 ds us,w.length<=20)/\(j2 ds us).length<=ds.length
 |[],us,_,_=>⟨fun w hw=>by simp[j2] at hw,by simp[j2]⟩
 |.word k::ds,us,h1,h2=>by
  obtain⟨a,b⟩:=AL ds us (fun w hw=>h1 w (by simp[hw])) h2;unfold j2;refine⟨fun w hw=> ?_,by simp only[aj];omega⟩;rcases az.mp hw with rfl|hw
  ·have:=h1 w (by simp);omega
  ·exact a w hw
 |.num hi::ds,[],_,_=>⟨fun w hw=>by simp[j2] at hw,by simp[j2]⟩
 |.num hi::ds,u::us,h1,h2=>by
  obtain⟨a,b⟩:=AL ds us (fun w hw=>h1 w (by simp[hw])) (fun v hv=>h2 v (by simp[hv]));unfold j2;refine⟨fun w hw=> ?_,by simp only[aj];omega⟩;rcases az.mp hw with rfl|hw
  ·have:=NX (h2 u (by simp));omega
  ·exact a w hw
 |.name::ds,[],_,_=>⟨fun w hw=>by simp[j2] at hw,by simp[j2]⟩
 |.name::ds,u::us,h1,h2=>by
  obtain⟨a,b⟩:=AL ds us (fun w hw=>h1 w (by simp[hw])) (fun v hv=>h2 v (by simp[hv]));unfold j2;refine⟨fun w hw=> ?_,by simp only[aj];omega⟩;rcases az.mp hw with rfl|hw
  ·have:=NX (h2 u (by simp));omega
  ·exact a w hw
theorem Mr{k:Key}{us:List im}(h:∀u∈us,wv u):(nZ k us).length<=200:=by
 have dl:=NZ (k:=k);obtain⟨a,b⟩:=AL (jZ k) us (fun w hw=>dl w (aX _ (ck.mpr ⟨.word w,hw,Z⟩))) h;have b7:=(Gg k).1;unfold nZ
 have:=Ey (ju k::j2 (jZ k) us) (fun w hw=>by
  rcases az.mp hw with rfl|hw
  ·have:=dl (ju k) (by simp);omega
  ·exact a w hw)
 rw[ag];simp only[aj,aZ] at this⊢;omega
theorem M6{b:Book}(h:nX b):(∀x∈oB b,x.length<=200)/\(oB b).length<=12:=by
 have h8:=h.ch;unfold oB;constructor
 ·intro x hx;rcases aG.mp hx with hx|hx
  ·obtain⟨c,hc,rfl⟩:=bi.mp hx;exact Mr (OL h hc).1
  ·obtain⟨k,_,hk⟩:=List.mem_flatMap.mp hx;unfold kP at hk;cases ht:iN b k with
   |none=>rw[ht] at hk;cases hk
   |some l=>
    rw[ht] at hk;rw[aq.mp hk];exact Mr (N0 h ht).1
 ·have e:∀k,(kP b k).length<=1:=fun k=>by unfold kP;split<;>simp
  have e1:=e .keep;have e2:=e .buffer;have e3:=e .delay;have e4:=e .gap;unfold oF;simp only[ag,ac,br,List.flatMap_nil,aZ];omega
theorem M7:∀ws:List Bytes,((ws.map gK).map (·.length)).sum=ws.flatten.length
 |[]=>rfl
 |w::ws=>by rw[aB,aB,List.sum_cons,pK,M7 ws,cu,ag]
theorem GF:∀ws:List Bytes,(∀x∈ws,x.length<=200)->ws.flatten.length<=200*ws.length
 |[],_=>by simp
 |w::ws,h=>by
  have h1:=h w (by simp);have h2:=GF ws fun x hx=>h x (by simp[hx])
  rw[cu,ag,aj];omega
section
variable {P:Program} {w:World} {K:PySem.W.Frag} {mg:Str->Option Value} {base:Heap} {AA:gv}
theorem UW:gQ ["settings","channel","lines","keyword","sign"] ["settings"] (gM (fY 65)):=gY (by decide+kernel)
theorem UX(T:Tx P w K mg AA):gL P w K mg base gU 2 AA.LG AA.LH ["settings"] (ZY AA K):=by
 have Ms:=VD (base:=base) T;have SC:=UW;refine T.AF.fn.ok SC (fun vs H Q E h=> ?_) (fun gz A outer s H vs Q E hr h=> ?_)
 ·obtain⟨L,b,rfl,_⟩:=h;rfl
 ·obtain⟨L,b,rfl,hS,hB,hq⟩:=h;have hu:=wk hr
  refine⟨_,(fT (MO (i:=2) (own:=[("channel",1)]) Z SC.nd Z Z (Nv Z Z Z (by kernel_rfl)) (md (show PE _ _ (yx K _ _) from gf (pv 0) Z)) (lD (by kernel_rfl)) (fun s H C cl fp=>(iJ (i:=1) SC.nd Z (Or.inl Z) (.inr Z))) (fun s H C cl fp=>me) (fun s H C cl fp=>(ie Ms (hr.mono (by decide)) Z T.uC.mg T.uC.fn.kp T.uC.b .nil gH (fO ku (fO (pv 1) fQ)))))
   (fT (lG bg Z (GJ (m8 Z T.Pa)) (iJ (i:=3) SC.nd Z (Or.inl Z))
     (fW (gZ (qv (Of hu (pv 3) (gf (pv 0) Z)))
       (fW (iS (iU ax aI aL kF (pv 2) (fO (ie Ms (hr.mono (by decide)) Z T.uC.mg T.uC.fn.kp T.uC.b .nil gH (fO (pv 3) (fO (Nz hu (gf (pv 0) Z) (pv 3) (fun _ _=>rfl)) fQ))) fQ))))
       ic)))
   (fW (gD (mi (own:=[("sign",4)]) Z SC.nd (GN (NB ku (pv 2))) (lD (by kernel_rfl)) (fun s H C cl fp=>(iJ (i:=4) SC.nd Z (Or.inl Z) (.inr Z))) (fun s H C cl fp=>me) (fun s H C cl fp=>(gW ut (by rfl) T.ord boot_ord (fO (pv 4) fQ)))))))),?_⟩
  obtain⟨tl1,tl2⟩:=M6 hB;have h8:=hB.ch;generalize CB:b.channels.map (fun c=>nZ .jd (uI c))=CL;have cll:CL.length=b.channels.length:=by rw[<-CB,ac]
  have Cv:L.cs.length=b.channels.length:=hS.mw.1;refine⟨_,Z,L.s,_,L.dx,_,_,Z,hS.ins,T.io,T.nK,Z,L.lc,Z,⟨_,fS.of hS.mv⟩,fun q1 n1=> ?_⟩;refine sw (K:=K) (a:=L.lc) (xs:=L.cs.map V.ref) (fun j H'=>fR H H'/\H' q1=some (.lst ((CL.take j).map fun x=>V.str (gK x)))) ⟨fR.new n1,fP⟩ (fun j H' _ e=>fS.of (e.1 _ _ hS.mv)) ?_ ?_
  ·rintro j y H2 hy ⟨s2,g2⟩;obtain⟨c,hc,rfl⟩:=kG hy;obtain⟨ch,ki,BG⟩:=hS.mw.get hc;obtain⟨o1,o2⟩:=OL hB (aS ki);have mq:CL[j]? =some (nZ .jd (uI ch)):=by rw[<-CB,au,ki];rfl
   have hj:j<CL.length:=(ap.mp mq).1;refine⟨Z,?_⟩;refine⟨_,Z,.jd,c,uI ch,by rw[ue.1];rfl,kg (s2 _ _ BG),o2,o1,fun H3 s3=> ?_⟩;refine⟨_,s3 _ _ g2,iV (by rw[ac,aD];omega),(s2.trans s3).put n1,?_⟩;rw[fP,take_snoc mq,ao];rfl
  ·rintro H2 ⟨s2,g2⟩;rw[ac,aV (by omega)] at g2;have ko:=T.OI
   have ek:[V.str "keep",V.str "buffer",V.str "delay",V.str "gap"]=oF.map fun k=>V.str (iy k):=by
    obtain⟨e1,e2,e3,e4,e5⟩:=ue;unfold oF;simp only[aB,cg,e2,e3,e4,e5]
   rw[ek] at ko
   refine⟨AA.yp,Z,⟨_,ko.sq⟩,Nm (K:=K) (a:=AA.yp) (xs:=oF.map fun k=>V.str (iy k)) (fun i σ H'=>∃(v1 v3 v4:Option V),σ=[some (.ref L.s),v1,some (.ref q1),v3,v4]/\fR H H'/\H' q1=some (.lst ((CL++(oF.take i).flatMap (kP b)).map fun x=>V.str (gK x))))
    ⟨none,none,none,Z,s2,by rw[g2];simp⟩ (fun i σ H' _ _=>ko.sq) ?_ ?_⟩
   ·rintro i x σ H3 hx ⟨v1,v3,v4,rfl,s3,g3⟩;obtain⟨k,hk,rfl⟩:=kG hx;have oA:=hS.same s3;have hi:i<oF.length:=(ap.mp hk).1
    have j7:(CL++(oF.take i).flatMap (kP b)).length<=12:=by
     refine a8 ?_ tl2;unfold oB;rw[CB,ag,ag]
     have:((oF.take i).flatMap (kP b)).length<=(oF.flatMap (kP b)).length:=by
      conv=>rhs;rw[<-bQ i oF,bO,ag]
      omega
     omega
    rw[take_snoc hk,bO];refine⟨_,Z,_,Z,L.s,_,L.dx,_,_,Z,oA.ins,T.io,T.DJ,Z,L.ld,_,Z,lL.k (k:=Sum.inr (iy k)) oA.told.dict,_,Z,?_⟩;rcases oA.told.val k with⟨z1,z2⟩|⟨l,a,z1,z3,z2⟩
    ·have IP:kP b k=[]:=by unfold kP;rw[z1]
     refine gu (by rw[z2];rfl) ?_;refine⟨v1,some (.str (iy k)),v4,Z,s3,?_⟩;rw[g3];simp[IP]
    ·have IP:kP b k=[nZ k (l.map Sum.inr)]:=by unfold kP;rw[z1]
     refine gc (by rw[z2];rfl) ?_;obtain⟨o1,o2⟩:=N0 hB z1
     have hg:lL H3 L.ld (V.str (iy k)) (some (V.ref a)):=by
      have:=lL.k (k:=Sum.inr (iy k)) oA.told.dict;rw[z2] at this;exact this
     refine⟨_,Z,.inl ⟨Z,_,fS.of g3⟩,_,Z,_,Z,L.s,_,L.dx,_,_,Z,oA.ins,T.io,T.DJ,Z,_,Z,L.ld,_,Z,hg,k,a,l.map Sum.inr,Z,?_,o2,o1,fun H4 s4=> ?_⟩
     ·have:=kg (K:=K) (H:=H3) (a:=a) z3;rw[show l.map nV=(l.map (Sum.inr:Nat->im)).map k8 from by rw[bE];rfl] at this;exact this
     refine⟨q1,_,_,Z,Z,s4 _ _ g3,iV (by rw[ac];omega),?_⟩;refine⟨v1,some (.str (iy k)),v4,Z,(s3.trans s4).put n1,?_⟩;rw[fP];simp[IP]
   ·rintro σ H3 ⟨v1,v3,v4,rfl,s3,g3⟩;rw[ac,aT,<-CB] at g3;have QG:H3 q1=some (.lst ((oB b).map fun x=>V.str (gK x))):=g3;have em:(oB b).map (fun x=>V.str (gK x))=((oB b).map gK).map V.str:=by rw[bE];rfl
    rw[em] at QG;have tN:=GF (oB b) tl1;refine⟨⟨_,Z⟩,_,Z,_,q1,(oB b).map gK,Z,Z,.inl (fS.of QG),?_,?_⟩
    ·have l0:(Str.ofString "").length=0:=by rw[jr,pK];rfl
     rw[M7,l0];omega
    rw[WJ,E9];rw[E9] at tN;generalize printed b=pr at hq tN;refine⟨_,Z,fun q2 n2=> ?_⟩;refine GW (x:=gK pr) (fun i H'=>H'=fN H3 q2 (.lst ((pr.take i).map nV))) Z ?_ ?_
    ·rintro i c H' hc rfl
     have qG:pr[i]? =some c:=by
      have:(gK pr).cps=pr.toArray:=rfl;rw[this,List.getElem?_toArray] at hc;exact hc
     refine⟨Z,?_⟩;refine⟨_,Z,_,Z,Z,_,fP,iV (by rw[ac,aD];omega),?_⟩;rw[jo,take_snoc qG,ao];rfl
    ·rintro H' rfl;have es:(gK pr).cps.size=pr.length:=pK pr;rw[es,aT];exact hq _ q2 (s3.more n2) (s3.free n2) fP
end
open Vbkdaa (Front isHigh signal busyNow encoded bitsOf keptOf frameBits width signs cross crossTimes)
def pM(b:Book):Nat->RS->Bool->List Nat->RS
 |0,m,_,_=>m
 |k+1,m,a,s=>pP b (pM b k m a s) a s
theorem zM(b:Book):∀(k:Nat) (f:Front) (a:Bool) (s:List Nat),crossTimes b (k+1) f a s=cross b (crossTimes b k f a s) a s
 |0,f,a,s=>rfl
 |k+1,f,a,s=>by
  show crossTimes b (k+1) (cross b f a s) a s=_;rw[zM b k];rfl
theorem WM(b:Book)(f:Front)(a:Bool)(s:List Nat):(cross b f a s).done.length=f.done.length+1:=rfl
theorem FL(b:Book):∀(k:Nat) (f:Front) (a:Bool) (s:List Nat),(crossTimes b k f a s).done.length=f.done.length+k
 |0,f,a,s=>rfl
 |k+1,f,a,s=>by rw[zM,WM,FL b k];omega
theorem Fa{b:Book}{m:RS}{f:Front}(g:Good b m f)(asked:Bool)(s:List Nat)(hs:s.length=b.channels.length)(hv:∀y∈s,y<4096):∀k:Nat,f.done.length+k<=400->Good b (pM b k m asked s) (crossTimes b k f asked s)
 |0,_=>g
 |k+1,hk=>by
  rw[zM];exact(Fa g asked s hs hv k (by omega)).yI (by rw[FL];omega) asked s hs hv
def YL(AA:gv):Sp:=fun vs H Q _=>∃(L:gO) (b:Book) (m:RS) (f:Front) (n:Nat) (asked:Bool) (a:Addr) (s:List Nat),vs=[.ref L.r,.int n,bV asked,.ref a]/\ik AA H L b m/\Good b m f/\f.done.length+n<=400/\H a=some (.lst (s.map nV))/\a∉L.mut/\s.length=b.channels.length/\(∀y∈s,y<4096)/\
 ∀(H':Hp) (rs hs ts fs:List Addr),(∀x∈rs,x∈L.rows\/x=a)->j5 H L.gE hs->j5 H L.gP fs->gF L.mut H H'->ik AA H' {L with rows:=rs,gE:=hs,hJ:=ts,gP:=fs} b (pM b n m asked s)->Q .gT H'
def YM(AA:gv):Sp:=fun vs H Q _=>∃(x dx:Addr) (LS:lm) (b:Book),vs=[.ref x,.ref LS.s]/\H x=some (.ins AA.hU dx [])/\lY AA H LS b/\x∉LS.fp/\
 ∀(H':Hp) (L:gO),L.r=x->L.S=LS->gF [x] H H'->ik AA H' L b ox->(∀y∈L.mut,y=x\/H y=none)->L.rows=[]->L.gE=[]->L.gP=[]->Q .gT H'
theorem wb{H:Hp}{q x:Addr}{u o:HO}{o0:HO}(hx:H x=some o0)(nq:H q=none):(fN (fN H q u) x o) q=some u:=by rw[fU (fun z=>by rw[z,hx] at nq;cases nq),fP]
theorem mL{H:Hp}{q x:Addr}{u o w:HO}{c:Addr}(nq:H q=none)(hc:H c=some w)(nc:c≠x):(fN (fN H q u) x o) c=some w:=by rw[fU nc,fU (gh hc nq)];exact hc
theorem vR{H H0:Hp}{q x:Addr}{u o:HO}(s:gF [x] H0 H)(nq:H q=none):gF [x] H0 (fN (fN H q u) x o):=(s.trans (fR.new nq).own).put (by simp)
section
variable {P:Program} {w:World} {K:PySem.W.Frag} {mg:Str->Option Value} {base:Heap} {AA:gv}
theorem Ro:gQ ["self","often","asked","samples","turn"] ["self","often","asked","samples"] (gM (i0 (fY 35) 2)):=gY (by decide+kernel)
theorem Rp(T:Tx P w K mg AA):gL P w K mg base gU 6 AA.CY AA.CZ ["self","often","asked","samples"] (YL AA):=by
 have DN:=JZ (base:=base) T;have SC:=Ro;refine T.Rs.ok SC (fun vs H Q E h=> ?_) (fun gz A outer s H vs Q E hr h=> ?_)
 ·obtain⟨L,b,m,f,n,asked,a,sl,rfl,_⟩:=h;rfl
 ·obtain⟨L,b,m,f,n,asked,a,sl,rfl,hR,hG,hn,ha,na,px,hv,hq⟩:=h
  refine⟨_,(fW (lG bg Z (xW Z T.range (fO (pv 1) fQ)) (iJ (i:=4) SC.nd Z (Or.inl Z))
   (fW (iS (oG (pv 0) T.gI T.KH DN (hr.mono (by decide)) T.Kn .nil gH (fO (pv 2) (fO (pv 3) fQ))))))),?_⟩
  refine⟨_,Z,(n:Int),Z,by omega,by omega,V0 (n:=(n:Int).toNat) (fun i σ H'=>∃v4 rs hs ts fs,σ=[some (.ref L.r),some (.int n),some (bV asked),some (.ref a),v4]/\(∀x∈rs,x∈L.rows\/x=a)/\j5 H L.gE hs/\j5 H L.gP fs/\gF L.mut H H'/\ik AA H' {L with rows:=rs,gE:=hs,hJ:=ts,gP:=fs} b (pM b i m asked sl))
   ⟨none,L.rows,L.gE,L.hJ,L.gP,Z,fun _ z=>.inl z,j5.kH,j5.kH,gF.refl,hR⟩ ?_ ?_⟩
  ·rintro i σ H1 hi ⟨v4,rs,hs,ts,fs,rfl,IQ,tS,qg,o1,iK⟩;have hi:i<n:=by omega
   refine⟨_,Z,L.r,L.dx,_,Z,iK.ins,Z,_,Z,_,Z,{L with rows:=rs,gE:=hs,hJ:=ts,gP:=fs},b,pM b i m asked sl,crossTimes b i f asked sl,asked,a,sl,Z,iK,Fa hG asked sl px hv i (by omega),by rw[FL];omega,o1 _ _ ha na,na,px,hv,fun H2 rs2 tj ts2 fs2 nr2 nh2 rP o2 iT=> ?_⟩;have fr:∀x,H1 x=none->H x=none:=fun x hx=>iK.free (L:={L with rows:=rs,gE:=hs,hJ:=ts,gP:=fs}) o1 hx
   exact⟨_,rs2,tj,ts2,fs2,Z,fun x hx=>(nr2 x hx).elim (IQ x) .inr,tS.back nh2 fr,qg.back rP fr,o1.trans o2,iT⟩
  ·rintro σ H1 ⟨v4,rs,hs,ts,fs,rfl,IQ,tS,qg,o1,iK⟩;rw[a6] at iK;exact hq H1 rs hs ts fs IQ tS qg o1 iK
theorem Sw:gQ ["self","settings"] ["self","settings"] (gM (i0 (fY 35) 0)):=gY (by decide+kernel)
theorem LU(T:Tx P w K mg AA):gL P w K mg base gU 1 AA.DE AA.DF ["self","settings"] (YM AA):=by
 have SC:=Sw;refine T.SL.ok SC (fun vs H Q E h=> ?_) (fun gz A outer s H vs Q E hr h=> ?_)
 ·obtain⟨x,dx,LS,b,rfl,_⟩:=h;rfl
 ·obtain⟨x,dx,LS,b,rfl,hx,hS,nx,hq⟩:=h
  refine⟨_,(fT (jt (pv 0) (pv 1) Z)
   (fT (jt (pv 0) (gJ fQ) Z)
   (fT (jt (pv 0) (gJ fQ) Z)
   (fT (jt (pv 0) (gJ fQ) Z)
   (fT (jt (pv 0) (gJ fQ) Z)
   (fT (jt (pv 0) FY Z)
   (fT (jt (pv 0) (gJ fQ) Z)
   (fT (jt (pv 0) fX Z)
   (fW (jt (pv 0) fX Z)))))))))),?_⟩
  refine⟨_,Z,_,Z,x,_,dx,_,Z,hx,T.gI,T.lz,(by show 0<1000;decide),?_⟩;have o1:gF [x] H (fN H x (.ins AA.hU dx [("settings",.ref LS.s)])):=gF.refl.put (by simp);have x1:(fN H x (.ins AA.hU dx [("settings",.ref LS.s)])) x=some (.ins AA.hU dx [("settings",.ref LS.s)]):=fP;show jS _ _ _ _ (fN H x (.ins AA.hU dx [("settings",.ref LS.s)]));generalize fN H x (.ins AA.hU dx [("settings",.ref LS.s)])=H1 at o1 x1;refine⟨aN _,fun q1 n1=> ?_⟩;have e1:(fN H1 q1 (.lst [])) x=some (.ins AA.hU dx [("settings",.ref LS.s)]):=(fR.new n1) _ _ x1;refine⟨_,Z,x,_,dx,_,Z,e1,T.gI,T.Dm,(by show 1<1000;decide),?_⟩;have o2:=vR (u:=.lst []) (o:=.ins AA.hU dx [("settings",.ref LS.s),("samples",.ref q1)]) o1 n1;have x2:(fN (fN H1 q1 (.lst [])) x (.ins AA.hU dx [("settings",.ref LS.s),("samples",.ref q1)])) x=_:=fP;have qO:=wb (u:=.lst []) (o:=.ins AA.hU dx [("settings",.ref LS.s),("samples",.ref q1)]) x1 n1;have d1:q1≠x:=(gh x1 n1).symm;have f1:H q1=none:=qr o1 (by simpa using d1) n1;show jS _ _ _ _ (fN (fN H1 q1 (.lst [])) x (.ins AA.hU dx [("settings",.ref LS.s),("samples",.ref q1)]));generalize fN (fN H1 q1 (.lst [])) x (.ins AA.hU dx [("settings",.ref LS.s),("samples",.ref q1)])=H2 at o2 x2 qO;refine⟨aN _,fun q2 n2=> ?_⟩;refine⟨_,Z,x,_,dx,_,Z,(fR.new n2) _ _ x2,T.gI,T.t7,(by show 2<1000;decide),?_⟩;have o3:=vR (u:=.lst []) (o:=.ins AA.hU dx [("settings",.ref LS.s),("samples",.ref q1),("highs",.ref q2)]) o2 n2;have x3:(fN (fN H2 q2 (.lst [])) x (.ins AA.hU dx [("settings",.ref LS.s),("samples",.ref q1),("highs",.ref q2)])) x=_:=fP;have qh:=wb (u:=.lst []) (o:=.ins AA.hU dx [("settings",.ref LS.s),("samples",.ref q1),("highs",.ref q2)]) x2 n2;have rQ:=mL (u:=.lst []) (o:=.ins AA.hU dx [("settings",.ref LS.s),("samples",.ref q1),("highs",.ref q2)]) n2 qO d1;have d2:q2≠x:=(gh x2 n2).symm;have f2:H q2=none:=qr o2 (by simpa using d2) n2;show jS _ _ _ _ (fN (fN H2 q2 (.lst [])) x (.ins AA.hU dx [("settings",.ref LS.s),("samples",.ref q1),("highs",.ref q2)]));generalize fN (fN H2 q2 (.lst [])) x (.ins AA.hU dx [("settings",.ref LS.s),("samples",.ref q1),("highs",.ref q2)])=H3 at o3 x3 rQ qh;refine⟨aN _,fun q3 n3=> ?_⟩;refine⟨_,Z,x,_,dx,_,Z,(fR.new n3) _ _ x3,T.gI,T.qk,(by show 3<1000;decide),?_⟩;have o4:=vR (u:=.lst []) (o:=.ins AA.hU dx [("settings",.ref LS.s),("samples",.ref q1),("highs",.ref q2),("fates",.ref q3)]) o3 n3;have x4:(fN (fN H3 q3 (.lst [])) x (.ins AA.hU dx [("settings",.ref LS.s),("samples",.ref q1),("highs",.ref q2),("fates",.ref q3)])) x=_:=fP;have vq:=wb (u:=.lst []) (o:=.ins AA.hU dx [("settings",.ref LS.s),("samples",.ref q1),("highs",.ref q2),("fates",.ref q3)]) x3 n3;have mY:=mL (u:=.lst []) (o:=.ins AA.hU dx [("settings",.ref LS.s),("samples",.ref q1),("highs",.ref q2),("fates",.ref q3)]) n3 rQ d1;have qc:=mL (u:=.lst []) (o:=.ins AA.hU dx [("settings",.ref LS.s),("samples",.ref q1),("highs",.ref q2),("fates",.ref q3)]) n3 qh d2;have d3:q3≠x:=(gh x3 n3).symm;have f3:H q3=none:=qr o3 (by simpa using d3) n3;show jS _ _ _ _ (fN (fN H3 q3 (.lst [])) x (.ins AA.hU dx [("settings",.ref LS.s),("samples",.ref q1),("highs",.ref q2),("fates",.ref q3)]));generalize fN (fN H3 q3 (.lst [])) x (.ins AA.hU dx [("settings",.ref LS.s),("samples",.ref q1),("highs",.ref q2),("fates",.ref q3)])=H4 at o4 x4 mY qc vq;refine⟨aN _,fun q4 n4=> ?_⟩;refine⟨_,Z,x,_,dx,_,Z,(fR.new n4) _ _ x4,T.gI,T.r0,(by show 4<1000;decide),?_⟩;have o5:=vR (u:=.lst []) (o:=.ins AA.hU dx [("settings",.ref LS.s),("samples",.ref q1),("highs",.ref q2),("fates",.ref q3),("busies",.ref q4)]) o4 n4;have x5:(fN (fN H4 q4 (.lst [])) x (.ins AA.hU dx [("settings",.ref LS.s),("samples",.ref q1),("highs",.ref q2),("fates",.ref q3),("busies",.ref q4)])) x=_:=fP;have xi:=wb (u:=.lst []) (o:=.ins AA.hU dx [("settings",.ref LS.s),("samples",.ref q1),("highs",.ref q2),("fates",.ref q3),("busies",.ref q4)]) x4 n4;have ow:=mL (u:=.lst []) (o:=.ins AA.hU dx [("settings",.ref LS.s),("samples",.ref q1),("highs",.ref q2),("fates",.ref q3),("busies",.ref q4)]) n4 mY d1;have tK:=mL (u:=.lst []) (o:=.ins AA.hU dx [("settings",.ref LS.s),("samples",.ref q1),("highs",.ref q2),("fates",.ref q3),("busies",.ref q4)]) n4 qc d2;have xu:=mL (u:=.lst []) (o:=.ins AA.hU dx [("settings",.ref LS.s),("samples",.ref q1),("highs",.ref q2),("fates",.ref q3),("busies",.ref q4)]) n4 vq d3;have d4:q4≠x:=(gh x4 n4).symm;have f4:H q4=none:=qr o4 (by simpa using d4) n4;show jS _ _ _ _ (fN (fN H4 q4 (.lst [])) x (.ins AA.hU dx [("settings",.ref LS.s),("samples",.ref q1),("highs",.ref q2),("fates",.ref q3),("busies",.ref q4)]));generalize fN (fN H4 q4 (.lst [])) x (.ins AA.hU dx [("settings",.ref LS.s),("samples",.ref q1),("highs",.ref q2),("fates",.ref q3),("busies",.ref q4)])=H5 at o5 x5 ow tK xu xi;refine fun q5 n5=> ?_
  refine⟨_,Z,x,_,dx,_,Z,(fR.new n5) _ _ x5,T.gI,T.vF,(by show 5<1000;decide),?_⟩;have o6:=vR (u:=.dK []) (o:=.ins AA.hU dx [("settings",.ref LS.s),("samples",.ref q1),("highs",.ref q2),("fates",.ref q3),("busies",.ref q4),("frames",.ref q5)]) o5 n5;have x6:(fN (fN H5 q5 (.dK [])) x (.ins AA.hU dx [("settings",.ref LS.s),("samples",.ref q1),("highs",.ref q2),("fates",.ref q3),("busies",.ref q4),("frames",.ref q5)])) x=_:=fP;have IR:=wb (u:=.dK []) (o:=.ins AA.hU dx [("settings",.ref LS.s),("samples",.ref q1),("highs",.ref q2),("fates",.ref q3),("busies",.ref q4),("frames",.ref q5)]) x5 n5;have mr:=mL (u:=.dK []) (o:=.ins AA.hU dx [("settings",.ref LS.s),("samples",.ref q1),("highs",.ref q2),("fates",.ref q3),("busies",.ref q4),("frames",.ref q5)]) n5 ow d1;have pj:=mL (u:=.dK []) (o:=.ins AA.hU dx [("settings",.ref LS.s),("samples",.ref q1),("highs",.ref q2),("fates",.ref q3),("busies",.ref q4),("frames",.ref q5)]) n5 tK d2;have xw:=mL (u:=.dK []) (o:=.ins AA.hU dx [("settings",.ref LS.s),("samples",.ref q1),("highs",.ref q2),("fates",.ref q3),("busies",.ref q4),("frames",.ref q5)]) n5 xu d3;have tP:=mL (u:=.dK []) (o:=.ins AA.hU dx [("settings",.ref LS.s),("samples",.ref q1),("highs",.ref q2),("fates",.ref q3),("busies",.ref q4),("frames",.ref q5)]) n5 xi d4;have d5:q5≠x:=(gh x5 n5).symm;have f5:H q5=none:=qr o5 (by simpa using d5) n5;show jS _ _ _ _ (fN (fN H5 q5 (.dK [])) x (.ins AA.hU dx [("settings",.ref LS.s),("samples",.ref q1),("highs",.ref q2),("fates",.ref q3),("busies",.ref q4),("frames",.ref q5)]));generalize fN (fN H5 q5 (.dK [])) x (.ins AA.hU dx [("settings",.ref LS.s),("samples",.ref q1),("highs",.ref q2),("fates",.ref q3),("busies",.ref q4),("frames",.ref q5)])=H6 at o6 x6 mr pj xw tP IR;refine⟨aN _,fun q6 n6=> ?_⟩;refine⟨_,Z,x,_,dx,_,Z,(fR.new n6) _ _ x6,T.gI,T.zO,(by show 6<1000;decide),?_⟩;refine⟨_,Z,x,_,dx,_,Z,fP,T.gI,T.xO,(by show 7<1000;decide),?_⟩;refine⟨_,Z,x,_,dx,_,Z,fP,T.gI,T.zP,(by show 8<1000;decide),?_⟩;rw[jo,jo];have d6:q6≠x:=(gh x6 n6).symm;have f6:H q6=none:=qr o6 (by simpa using d6) n6
  have nd:([x,q1,q2,q3,q4,q5,q6]:List Addr).Nodup:=by
   have a12:=gh qO n2;have a13:=gh rQ n3;have a14:=gh mY n4;have IK:=gh ow n5;have a16:=gh mr n6;have a23:=gh qh n3;have a24:=gh qc n4;have Cw:=gh tK n5;have a26:=gh pj n6;have a34:=gh vq n4;have Cy:=gh xu n5;have a36:=gh xw n6;have a45:=gh xi n5;have a46:=gh tP n6;have a56:=gh IR n6;simp only[bj,az,bh,cN,not_or,not_false_eq_true,List.nodup_nil,and_true];exact⟨⟨d1.symm,d2.symm,d3.symm,d4.symm,d5.symm,d6.symm⟩,⟨a12,a13,a14,IK,a16⟩,⟨a23,a24,Cw,a26⟩,⟨a34,Cy,a36⟩,⟨a45,a46⟩,a56⟩
  have o7:=vR (u:=.lst []) (o:=.ins AA.hU dx (pw ⟨x,dx,q1,q2,q3,q4,q5,q6,[],[],[],[],LS⟩ 0 0)) o6 n6;refine hq _ ⟨x,dx,q1,q2,q3,q4,q5,q6,[],[],[],[],LS⟩ Z Z o7 ?_ ?_ Z Z Z
  ·have hS7:lY AA _ LS b:=hS.keep o7 (fun a ha z=>nx (by rw[<-aq.mp z];exact ha)) (fun y hy xs z=>by rw[aq.mp hy,hx] at z;cases z)
   exact{
    ins:=fP
    jR:=mL n6 mr d1
    rows:=iH.nil
    i5:=mL n6 pj d2
    gE:=iH.nil
    iX:=mL n6 xw d3
    jg:=mL n6 tP d4
    jH:=mL n6 IR d5
    hJ:=iH.nil
    gP:=iH.nil
    kN:=wb x6 n6
    set:=hS7
    nd:=nd
    sep:=by
     intro a ha z;have ha:a∈LS.fp:=by simpa using ha
     have hs:(H a).isSome=true:=hS.xh a ha;simp only[gO.mut,az,bh,cN] at z;rcases z with rfl|rfl|rfl|rfl|rfl|rfl|rfl
     ·exact nx ha
     ·rw[f1] at hs;cases hs
     ·rw[f2] at hs;cases hs
     ·rw[f3] at hs;cases hs
     ·rw[f4] at hs;cases hs
     ·rw[f5] at hs;cases hs
     ·rw[f6] at hs;cases hs
    kn:=aA _}
  ·intro y hy;simp only[gO.mut,az,bh,cN] at hy;rcases hy with rfl|rfl|rfl|rfl|rfl|rfl|rfl
   ·exact .inl Z
   ·exact .inr f1
   ·exact .inr f2
   ·exact .inr f3
   ·exact .inr f4
   ·exact .inr f5
   ·exact .inr f6
end
open Vbkdaa (bitsIn shift remainder checked Frame samplesIn decoded frameSigns)
theorem YN(a b:Nat)(y:Bool):2*(a^^^b)+iw y=(2*a)^^^(2*b+iw y):=by
 apply Nat.eq_of_testBit_eq;intro i;cases i with
 |zero=>cases y<;>simp[iw,Nat.testBit_zero,eP]<;>omega
 |succ i=>
  have e1:(2*(a^^^b)+iw y)/2=a^^^b:=by cases y<;>simp[iw]<;>omega
  have e2:(2*b+iw y)/2=b:=by cases y<;>simp[iw]<;>omega
  have e3:2*a/2=a:=by omega
  rw[eP,Nat.testBit_succ,Nat.testBit_succ,Nat.testBit_succ,e1,e2,e3,eP]
theorem YO{u:Nat}(h:u<32768):decide (16384<=u)=u.testBit 14:=by
 have e:u.testBit 14=decide (u/2^14% 2=1):=by rw[dh]
 rw[e]
 congr 1
 apply propext;simp only[show(2:Nat)^14=16384 by decide];omega
theorem WN(r:Nat)(b:Bool):shift r b=if (2*r+iw b).testBit 14=true/\2*r+iw b<32768\/32768<=2*r+iw b then(2*r+iw b)^^^17475 else 2*r+iw b:=by
 unfold shift iw Vbkdaa.TOP Vbkdaa.POLY;simp only;generalize 2*r+(if b=true then 1 else 0)=x
 by_cases h:x<32768
 ·have:=YO h
  by_cases c:16384<=x
  ·rw[ai c] at this;rw[aw c,aw (.inl ⟨this.symm,h⟩)]
  ·rw[ae c] at this;rw[am c,am (by rintro(⟨z,_⟩|z);rw[<-this] at z;cases z;omega)]
 ·rw[aw (by omega),aw (.inr (by omega))]
theorem FM{r:Nat}(h:r<16384)(b:Bool):shift r b=if (2*r+iw b).testBit 14=true then(2*r+iw b)^^^17475 else 2*r+iw b:=by
 have hx:2*r+iw b<32768:=by cases b<;>simp[iw]<;>omega
 rw[WN]
 by_cases c:(2*r+iw b).testBit 14=true
 ·rw[aw (.inl ⟨c,hx⟩),aw c]
 ·rw[am (by rintro(⟨z,_⟩|z);exact c z;omega),am c]
theorem WO{a b:Nat}(ha:a<16384)(hb:b<16384)(y:Bool):shift (a^^^b) y=shift a false^^^shift b y:=by
 have IS:a^^^b<16384:=Nat.xor_lt_two_pow (n:=14) ha hb;rw[FM IS,FM ha,FM hb,YN];have e0:2*a+iw false=2*a:=by simp[iw]
 rw[e0];generalize 2*a=u;generalize 2*b+iw y=v;rw[eP];cases hu:u.testBit 14<;>cases hv:v.testBit 14<;>simp
 ·rw[eI]
 ·rw[eI,Nat.xor_comm v 17475,<-eI]
 ·rw[eI,Nat.xor_comm 17475 (v^^^17475),eI v,Nat.xor_self,Nat.xor_zero]
theorem M8:∀(l:List Bool) (a b:Nat),a<16384->b<16384->l.foldl shift (a^^^b)=(List.replicate l.length false).foldl shift a^^^l.foldl shift b
 |[],a,b,_,_=>rfl
 |y::l,a,b,ha,hb=>by
  rw[bI,WO ha hb,M8 l _ _ (F0 _ _ ha) (F0 _ _ hb)];rfl
theorem LV:∀(l:List Bool) (n:Nat),n<16384->(l.foldl (fun n b=>n*2+iw b) n)<16384->l.foldl shift n=l.foldl (fun n b=>n*2+iw b) n
 |[],n,_,_=>rfl
 |y::l,n,h,hz=>by
  rw[bI] at hz⊢
  have mono:∀(l:List Bool) (m:Nat),m<=l.foldl (fun n b=>n*2+iw b) m:=by
   intro l
   induction l with
   |nil=>intro m;exact aA _
   |cons x l ih=>intro m;rw[bI];exact a8 (by omega) (ih _)
  have hm:=mono l (n*2+iw y)
  have e:shift n y=n*2+iw y:=by
   unfold shift Vbkdaa.TOP;simp only;have:2*n+(if y=true then 1 else 0)=n*2+iw y:=by unfold iw;omega
   rw[this,am (by omega)]
  rw[bI,e];exact LV l _ (by omega) hz
theorem Lm(k n:Nat):bitsOf (k+1) n=bitsOf k (n/2)++[n% 2==1]:=by
 apply List.ext_getElem?;intro i
 by_cases hi:i<k
 ·rw[Al (by omega),bp (by rw[jY];exact hi),Al hi];rw[show k+1-1-i=(k-1-i)+1 by omega,Nat.pow_succ,Nat.mul_comm,<-Nat.div_div_eq_div_mul]
 ·by_cases mJ:i=k
  ·subst mJ;rw[Al (by omega),bv (by rw[jY];omega),jY];simp
  ·rw[bA (by rw[jY];omega),bA (by simp[jY];omega)]
theorem xQ(k n:Nat)(h:n<2^k):Vbkdaa.valueOf (bitsOf k n)=n:=by
 induction k generalizing n with
 |zero=>
  have:n=0:=by simp at h;omega
  subst this;rfl
 |succ k ih=>
  rw[Lm,pI,bY];have:=ih (n/2) (by rw[Nat.pow_succ] at h;omega);rw[pI] at this;rw[this];show n/2*2+iw (n% 2==1)=n;rw[NF];omega
theorem Ud(l:List Bool)(x:Bool):Vbkdaa.valueOf (l++[x])=Vbkdaa.valueOf l*2+iw x:=by
 rw[pI,pI,bY];rfl
theorem Gh:∀(m:List Bool) (n:Nat),m.foldl (fun n b=>n*2+iw b) n=n*2^m.length+m.foldl (fun n b=>n*2+iw b) 0
 |[],n=>by simp
 |x::m,n=>by
  rw[bI,bI,Gh m (n*2+iw x),Gh m (0*2+iw x),aj,Nat.pow_succ,Nat.add_mul,Nat.zero_mul,dF,Nat.mul_assoc,Nat.mul_comm 2 (2^m.length),Nat.add_assoc]
theorem UY(l m:List Bool):Vbkdaa.valueOf (l++m)=Vbkdaa.valueOf l*2^m.length+Vbkdaa.valueOf m:=by
 rw[pI,pI,pI,bY,Gh m]
theorem xR:∀(k:Nat) (l:List Bool),l.length=k->bitsOf k (Vbkdaa.valueOf l)=l
 |0,l,h=>by
  have:l=[]:=aM.mp h;subst this;rfl
 |k+1,l,h=>by
  have ne:l≠ []:=by intro z;rw[z] at h;simp at h
  have e:=List.dropLast_concat_getLast ne;generalize hl:l.dropLast=l' at e;generalize l.getLast ne=x at e;have HB:l'.length=k:=by rw[<-hl,List.length_dropLast];omega
  rw[<-e,Ud,Lm];have e1:(Vbkdaa.valueOf l'*2+iw x)/2=Vbkdaa.valueOf l':=by cases x<;>simp[iw]<;>omega
  have e2:((Vbkdaa.valueOf l'*2+iw x)% 2==1)=x:=by
   cases x
   ·rw[show(Vbkdaa.valueOf l'*2+iw false)% 2=0 by simp[iw]];rfl
   ·rw[show(Vbkdaa.valueOf l'*2+iw true)% 2=1 by simp[iw]];rfl
  rw[e1,e2,xR k l' HB]
theorem N1(l:List Nat)(c d:Nat)(hc:c<128)(hd:d<128):remainder (l++[c,d])=remainder (l++[0,0])^^^(c*128+d):=by
 have split:∀u v:Nat,(bitsIn (l++[u,v])).foldl shift 0=(bitsOf 7 u++bitsOf 7 v).foldl shift ((bitsIn l).foldl shift 0):=by
  intro u v;unfold bitsIn;rw[bO,bY];simp
 unfold remainder;rw[split,split];have hr:(bitsIn l).foldl shift 0<16384:=AU _ _ (by decide);generalize (bitsIn l).foldl shift 0=r at hr
 have QH:∀u v:Nat,u<128->v<128->(bitsOf 7 u++bitsOf 7 v).foldl shift r=(List.replicate 14 false).foldl shift r^^^(u*128+v):=by
  intro u v hu hv;have e:=M8 (bitsOf 7 u++bitsOf 7 v) r 0 hr (by decide);rw[Nat.xor_zero] at e
  have QI:Vbkdaa.valueOf (bitsOf 7 u++bitsOf 7 v)=u*128+v:=by
   rw[UY,xQ 7 u (by simpa using hu),xQ 7 v (by simpa using hv),jY]
  have hs:=LV (bitsOf 7 u++bitsOf 7 v) 0 (by decide) (by rw[<-pI,QI];omega);rw[<-pI,QI] at hs;rw[e,hs,ag,jY,jY]
 rw[QH c d hc hd,QH 0 0 (by decide) (by decide)];simp
theorem VE(l:List Nat):remainder (checked l)=0:=by
 unfold checked;simp only;have h:=zT (l++[0,0]);rw[N1 l _ _ (by omega) (by omega)];rw[show remainder (l++[0,0])/128*128+remainder (l++[0,0])% 128=remainder (l++[0,0]) by omega,Nat.xor_self]
theorem Tq(l:List Nat)(c d:Nat)(hc:c<128)(hd:d<128)(h:remainder (l++[c,d])=0):checked l=l++[c,d]:=by
 rw[N1 l c d hc hd] at h
 have e:remainder (l++[0,0])=c*128+d:=by
  have:=congrArg (·^^^(c*128+d)) h;simpa [eI] using this
 unfold checked;simp only;rw[e,show(c*128+d)/128=c by omega,show(c*128+d)% 128=d by omega]
theorem r8(l:List Nat):(bitsIn l).length=7*l.length:=by
 unfold bitsIn
 induction l with
 |nil=>rfl
 |cons x r ih=>rw[br,ag,jY,ih,aj];omega
theorem LW:∀(l m:List Nat),(∀x∈l,x<128)->(∀x∈m,x<128)->bitsIn l=bitsIn m->l=m
 |[],[],_,_,_=>rfl
 |[],y::m,_,_,h=>by
  have:=congrArg List.length h;rw[r8,r8] at this;simp at this
 |x::l,[],_,_,h=>by
  have:=congrArg List.length h;rw[r8,r8] at this;simp at this
 |x::l,y::m,hl,hm,h=>by
  unfold bitsIn at h;rw[br,br] at h;obtain⟨h1,h2⟩:=List.append_inj h (by rw[jY,jY]);have hx:=xQ 7 x (hl x (by simp));have hy:=xQ 7 y (hm y (by simp));rw[h1,hy] at hx;rw[hx,LW l m (fun z hz=>hl z (by simp[hz])) (fun z hz=>hm z (by simp[hz])) h2]
theorem Ko:∀(k:Nat) (l:List Bool),l.length=7*k->bitsIn ((List.range k).map (lX l))=l
 |0,l,h=>by
  have:l=[]:=aM.mp (by omega);subst this;rfl
 |k+1,l,h=>by
  unfold bitsIn;rw[bS,aB,br,bE]
  have e0:bitsOf 7 (lX l 0)=l.take 7:=by
   unfold lX;simp only[Nat.mul_zero,List.drop_zero];exact xR 7 _ (by rw[aD];omega)
  have e1:(List.range k).map (lX l∘Nat.succ)=(List.range k).map (lX (l.drop 7)):=by
   apply bW;intro i _;show lX l (i+1)=lX (l.drop 7) i;unfold lX;rw[bw]
   congr 3
   omega
  rw[e0,e1];have:=Ko k (l.drop 7) (by rw[aW];omega);unfold bitsIn at this;rw[this,bQ]
theorem KN(l:List Bool):bitsIn (signs l)=l++List.replicate (jJ l.length) false:=by
 rw[AB];exact Ko _ _ (by rw[ag,bP];exact vT _)
def ir(gS:List Bool):Nat:=(gS.filter fun m=>m).length
theorem AM(w:Nat):∀(gS hV:List Bool),(samplesIn w gS hV).map (fun x=>x.isSome)=gS
 |[],_=>rfl
 |true::ms,l=>by unfold samplesIn;simp[AM w ms]
 |false::ms,l=>by unfold samplesIn;simp[AM w ms]
theorem GG(w:Nat)(gS hV:List Bool):(samplesIn w gS hV).length=gS.length:=by
 have:=congrArg List.length (AM w gS hV)
 rwa [ac] at this
theorem Gi(w:Nat):∀(gS hV:List Bool),((samplesIn w gS hV).filterMap fun x=>x).length=ir gS
 |[],_=>rfl
 |true::ms,l=>by
  unfold samplesIn ir;simp only[dA,bU,aj,cT];rw[Gi w ms];rfl
 |false::ms,l=>by
  unfold samplesIn ir;simp only[bo,cX,bU,cT];exact Gi w ms l
theorem Bh(w:Nat):∀(gS hV:List Bool) (n:Nat),some n∈samplesIn w gS hV->n<2^w
 |[],_,n,h=>by simp[samplesIn] at h
 |m::ms,l,n,h=>by
  unfold samplesIn at h;split at h
  ·rcases az.mp h with h|h
   ·have:=af h;subst this;exact aU (EC _) (di (by decide) (by rw[aD];omega))
   ·exact Bh w ms _ n h
  ·rcases az.mp h with h|h
   ·cases h
   ·exact Bh w ms _ n h
theorem Gj(w:Nat):∀(gS hV:List Bool),ir gS*w<=hV.length->((samplesIn w gS hV).filterMap fun x=>x).flatMap (bitsOf w)=hV.take (ir gS*w)
 |[],hV,_=>by simp[samplesIn,ir]
 |true::ms,l,h=>by
  have hm:ir (true::ms)=ir ms+1:=by simp[ir]
  rw[hm] at h⊢;rw[eu] at h⊢;unfold samplesIn;simp only[dA,bU,br];rw[xR w (l.take w) (by rw[aD];omega),Gj w ms (l.drop w) (by rw[aW];omega),Nat.add_comm,fB]
 |false::ms,l,h=>by
  have hm:ir (false::ms)=ir ms:=by simp[ir]
  rw[hm] at h⊢;unfold samplesIn;simp only[bo,cX,bU];exact Gj w ms l h
theorem YQ(gS:List Bool):ir gS<=gS.length:=cz _ _
def kh(l:List Nat):List Nat:=(l.drop 1).take (l.length-3)
def qt(n:Nat)(gX:List Bool):Frame:=⟨Vbkdaa.valueOf (gX.take 12),samplesIn (Vbkdaa.valueOf ((gX.drop (12+n)).take 4)) ((gX.drop 12).take n) (gX.drop (16+n))⟩
def G9(n:Nat)(l:List Nat):Option Frame:=
 if (bitsIn (kh l)).length<16+n\/12<Vbkdaa.valueOf (((bitsIn (kh l)).drop (12+n)).take 4) then none
 else if encoded (qt n (bitsIn (kh l)))=128::(l++[129]) then some (qt n (bitsIn (kh l))) else none
theorem YR{a b:List Nat}:(128::(a++[129])=128::(b++[129]))↔a=b:=by
 constructor
 ·intro h;have:=dw h;exact(List.append_inj' this.2 rfl).1
 ·rintro rfl;rfl
theorem ZZ(n:Nat):jJ n<7:=by unfold jJ;omega
theorem YS(n:Nat)(h8:n<=8)(l:List Nat):decoded n l=G9 n l:=by
 unfold G9;cases l with
 |nil=>
  have:(bitsIn (kh [])).length<16+n:=by rw[r8];simp[kh];omega
  rw[aw (.inl this)];rfl
 |cons k r=>
  unfold decoded;simp only
  by_cases Bj:(bitsIn (kh (k::r))).length<16+n\/12<Vbkdaa.valueOf (((bitsIn (kh (k::r))).drop (12+n)).take 4)
  ·rw[aw Bj]
   by_cases jy:((k::r).all fun x=>decide (x<128))=false\/r.length≠k+2\/remainder (k::r)≠0
   ·rw[aw jy]
   ·rw[am jy]
    have j7:r.length=k+2:=by
     apply da;intro z;exact jy (.inr (.inl z))
    have ec:kh (k::r)=r.take k:=by unfold kh;simp[j7]
    rw[ec] at Bj;rw[aw];rcases Bj with h|h
    ·left;omega
    ·right;left;exact h
  ·rw[am Bj];have xy:16+n<=(bitsIn (kh (k::r))).length:=by omega
   have tj:Vbkdaa.valueOf (((bitsIn (kh (k::r))).drop (12+n)).take 4)<=12:=by omega
   generalize hB:bitsIn (kh (k::r))=gX at xy tj;generalize hw:Vbkdaa.valueOf ((gX.drop (12+n)).take 4)=w at tj;generalize yw:(gX.drop 12).take n=gS;generalize uP:gX.drop (16+n)=hV;have hml:gS.length=n:=by rw[<-yw,aD,aW];omega
   have hf:qt n gX=⟨Vbkdaa.valueOf (gX.take 12),samplesIn w gS hV⟩:=by unfold qt;rw[hw,yw,uP]
   rw[hf];generalize hF:(⟨Vbkdaa.valueOf (gX.take 12),samplesIn w gS hV⟩:Frame)=f;have fs:f.samples=samplesIn w gS hV:=by rw[<-hF]
   have fc:f.crossing=Vbkdaa.valueOf (gX.take 12):=by rw[<-hF]
   have kl:(keptOf f).length=ir gS:=by unfold keptOf;rw[fs];exact Gi w gS hV
   have zg:∀x∈keptOf f,x<4096:=by
    intro x hx;unfold keptOf at hx;rw[fs] at hx;obtain⟨y,hy,e⟩:=ck.mp hx;subst e;exact aU (Bh w gS hV x hy) (show 2^w<=2^12 from di (by decide) tj)
   have hW:width (keptOf f)<=12:=by rw[F1 _ zg];exact AV (wo _ 4096 zg (by decide))
   have aaG:ir gS<=8:=by have:=YQ gS;omega
   have fb:frameBits f=gX.take (12+n)++(bitsOf 4 (width (keptOf f))++(keptOf f).flatMap (bitsOf (width (keptOf f)))):=by
    unfold frameBits;simp only;rw[fs,AM,fc,xR 12 _ (by rw[aD];omega),<-yw,fB,a7]
   have QJ:(frameBits f).length=16+n+ir gS*width (keptOf f):=by
    rw[fb]
    have:∀(q:List Nat) (v:Nat),(q.flatMap (bitsOf v)).length=q.length*v:=by
     intro q v
     induction q with
     |nil=>simp
     |cons x q ih=>rw[br,ag,ih,jY,aj,eu];omega
    rw[ag,ag,aD,jY,this,kl];omega
   have fbs:(frameBits f).length<=120:=by
    have:ir gS*width (keptOf f)<=8*12:=Nat.mul_le_mul aaG hW;omega
   by_cases BH:encoded f=128::(k::r++[129])
   ·rw[aw BH];have hl:frameSigns f=k::r:=YR.mp BH;have IT:frameSigns f=checked ((signs (frameBits f)).length::signs (frameBits f)):=rfl;have hz:remainder (k::r)=0:=by rw[<-hl,IT];exact VE _
    generalize hS:signs (frameBits f)=S at IT;have hSl:S.length=sJ (frameBits f).length:=by rw[<-hS,Fj]
    have jq:=vT (frameBits f).length;have hp7:=ZZ (frameBits f).length;have aaH:∀x∈S,x<128:=fun x hx=>by rw[<-hS] at hx;exact MT hx
    have afm:=zT (S.length::S++[0,0]);have xz:k::r=(S.length::S)++[remainder (S.length::S++[0,0])/128,remainder (S.length::S++[0,0])% 128]:=by rw[<-hl,IT];rfl
    have hk:k=S.length:=(dw xz).1;have hr:r=S++[remainder (S.length::S++[0,0])/128,remainder (S.length::S++[0,0])% 128]:=(dw xz).2;have xm:r.length=k+2:=by rw[hr,hk];simp
    have hrt:r.take k=S:=by rw[hr,hk];simp
    have oU:((k::r).all fun x=>decide (x<128))=true:=by
     rw[a9];intro x hx;rw[xz] at hx;apply ai;rcases aG.mp hx with hx|hx
     ·rcases az.mp hx with rfl|hx
      ·omega
      ·exact aaH x hx
     ·simp only[az,bh,cN] at hx;rcases hx with rfl|rfl
      ·omega
      ·omega
    have Ha:gX=frameBits f++List.replicate (jJ (frameBits f).length) false:=by
     rw[<-hB];have ec:kh (k::r)=r.take k:=by unfold kh;simp[xm]
     rw[ec,hrt,<-hS,KN]
    have IU:w=width (keptOf f):=by
     have e1:(gX.drop (12+n)).take 4=bitsOf 4 (width (keptOf f)):=by
      have e2:gX.take (12+n)++gX.drop (12+n)=gX.take (12+n)++((bitsOf 4 (width (keptOf f))++(keptOf f).flatMap (bitsOf (width (keptOf f))))++List.replicate (jJ (frameBits f).length) false):=by
       rw[bQ,<-a7,<-fb];exact Ha
      rw[List.append_cancel_left e2,a7,cE (by rw[jY];omega),aV (by rw[jY];omega)]
     rw[<-hw,e1,xQ 4 _ (by omega)]
    rw[am (by rw[oU,xm,hz];simp)];have zi:gX.length=16+n+ir gS*w+jJ (frameBits f).length:=by rw[Ha,ag,QJ,bP,IU]
    have zu:bitsIn (r.take k)=gX:=by
     rw[<-hB];have ec:kh (k::r)=r.take k:=by unfold kh;simp[xm]
     rw[ec]
    rw[zu,yw,hw,uP,hF];have IV:(gS.filter fun m=>m).length=ir gS:=rfl;rw[IV,am];rintro(z|z|z|z|z)
    ·omega
    ·omega
    ·omega
    ·have:hV.drop (ir gS*w)=List.replicate (jJ (frameBits f).length) false:=by
      rw[<-uP,bw,Ha,IU,<-QJ,List.drop_left]
     rw[this] at z;rw[List.all_replicate] at z;simp at z
    ·exact z IU.symm
   ·rw[am BH]
    by_cases jy:((k::r).all fun x=>decide (x<128))=false\/r.length≠k+2\/remainder (k::r)≠0
    ·rw[aw jy]
    ·rw[am jy]
     have oU:((k::r).all fun x=>decide (x<128))=true:=by
      cases h:((k::r).all fun x=>decide (x<128)) with
      |true=>rfl
      |false=>exact absurd (.inl h) jy
     have xm:r.length=k+2:=da fun z=>jy (.inr (.inl z))
     have hz:remainder (k::r)=0:=da fun z=>jy (.inr (.inr z))
     have zu:bitsIn (r.take k)=gX:=by
      rw[<-hB];have ec:kh (k::r)=r.take k:=by unfold kh;simp[xm]
      rw[ec]
     rw[zu,yw,hw,uP,hF];have IV:(gS.filter fun m=>m).length=ir gS:=rfl;rw[IV];split
     ·rfl
     ·rename_i OM;exfalso;apply BH;have g1:16+n+ir gS*w<=gX.length:=by omega
      have g3:gX.length-(16+n+ir gS*w)<7:=by omega
      have g4:((hV.drop (ir gS*w)).all fun b=> !b)=true:=by
       cases h:((hV.drop (ir gS*w)).all fun b=> !b) with
       |true=>rfl
       |false=>exact absurd (.inr (.inr (.inr (.inl h)))) OM
      have g5:width (keptOf f)=w:=da fun z=>OM (.inr (.inr (.inr (.inr z))))
      have zi:gX.length=7*k:=by rw[<-zu,r8,aD];omega
      have abL:hV.length=gX.length-(16+n):=by rw[<-uP,aW]
      have e1:frameBits f=gX.take (16+n+ir gS*w):=by
       have e2:(keptOf f).flatMap (bitsOf w)=hV.take (ir gS*w):=by
        unfold keptOf;rw[fs];exact Gj w gS hV (by omega)
       have t1:gX.take ((12+n)+(4+ir gS*w))=gX.take (12+n)++(gX.drop (12+n)).take (4+ir gS*w):=fB;have t2:(gX.drop (12+n)).take (4+ir gS*w)=(gX.drop (12+n)).take 4++((gX.drop (12+n)).drop 4).take (ir gS*w):=fB;have t3:bitsOf 4 w=(gX.drop (12+n)).take 4:=by rw[<-hw];exact xR 4 _ (by rw[aD,aW];omega)
       rw[bw,show 12+n+4=16+n by omega,uP] at t2;rw[fb,g5,e2,t3,show 16+n+ir gS*w=(12+n)+(4+ir gS*w) by omega,t1,t2]
      have aaI:gX.drop (16+n+ir gS*w)=List.replicate (gX.length-(16+n+ir gS*w)) false:=by
       rw[<-bw,uP];apply List.eq_replicate_iff.mpr;refine⟨by rw[aW,abL];omega,fun x hx=> ?_⟩;have:=a9.mp g4 x hx;simpa using this
      have abM:jJ (frameBits f).length=gX.length-(16+n+ir gS*w):=by
       rw[e1,aD,cx g1];unfold jJ;omega
      have hSr:signs (frameBits f)=r.take k:=by
       apply LW
       ·intro x hx;exact MT hx
       ·intro x hx;exact cF (a9.mp oU x (aX _ (List.mem_of_mem_take hx)))
       ·rw[KN,zu,abM,<-aaI,e1,bQ]
      have px:(r.take k).length=k:=by rw[aD];omega
      have hdr:∃c d,r.drop k=[c,d]:=by
       have hd:(r.drop k).length=2:=by rw[aW];omega
       match h:r.drop k,hd with
       |[c,d],_=>exact⟨c,d,Z⟩
      obtain⟨c,d,og⟩:=hdr;have qi:r=r.take k++[c,d]:=by rw[<-og,bQ]
      have mq:c<128/\d<128:=by
       have hh:∀x∈r,x<128:=fun x hx=>cF (a9.mp oU x (aX _ hx))
       exact⟨hh c (by rw[qi];simp),hh d (by rw[qi];simp)⟩
      have hz2:remainder ((k::r.take k)++[c,d])=0:=by
       rw[bL,<-qi];exact hz
      have xz:=Tq (k::r.take k) c d mq.1 mq.2 hz2;rw[bL,<-qi] at xz;show 128::(frameSigns f++[129])=_;unfold frameSigns;simp only;rw[hSr,px,xz]
theorem XY(xs:List V)(b:Nat):j0 xs none (some (b:Int))=xs.take b:=by
 unfold j0;rw[HT.yg,HT.ML]
 by_cases h:b<=xs.length
 ·rw[cx h];simp
 ·rw[show min b xs.length=xs.length by omega,aV (by simp),aV (by omega)];simp
theorem VF(l:List Nat):j0 (l.map nV) (some 1) (some (-2))=(kh l).map nV:=by
 unfold j0 kh;have e1:HT.kM (l.map nV).length 0 (some 1)=min 1 l.length:=by rw[show(1:Int)=((1:Nat):Int) from Z,HT.yg,ac]
 have e2:HT.kM (l.map nV).length (l.map nV).length (some (-2))=l.length-2:=by
  simp only[HT.kM,ac];rw[aw (by decide)];omega
 rw[e1,e2]
 by_cases h:1<=l.length
 ·rw[cx h,<-cq,<-b9,show l.length-2-1=l.length-3 by omega]
 ·have:l=[]:=aM.mp (by omega);subst this;rfl
theorem Gk(w:Nat):∀(ms hV:List Bool) (m:Bool),samplesIn w (ms++[m]) hV=samplesIn w ms hV++[if m=true then some (Vbkdaa.valueOf ((hV.drop (ir ms*w)).take w)) else none]
 |[],hV,m=>by
  cases m<;>simp[samplesIn,ir]
 |true::ms,hV,m=>by
  have hm:ir (true::ms)=ir ms+1:=by simp[ir]
  rw[bL,hm];unfold samplesIn;simp only[dA];rw[Gk w ms (hV.drop w) m,bw,eu,Nat.add_comm w];rfl
 |false::ms,hV,m=>by
  have hm:ir (false::ms)=ir ms:=by simp[ir]
  rw[bL,hm];unfold samplesIn;simp only[bo,cX];rw[Gk w ms hV m];rfl
theorem WP(ms:List Bool)(m:Bool):ir (ms++[m])=ir ms+iw m:=by
 unfold ir iw;rw[List.filter_append,ag];cases m<;>rfl
theorem M9:∀{p q:List Nat},p.map (fun(x:Nat)=>(x:Int))=q.map (fun(x:Nat)=>(x:Int))->p=q
 |[],[],_=>rfl
 |[],y::q,h=>by cases h
 |x::p,[],h=>by cases h
 |x::p,y::q,h=>by
  rw[aB,aB] at h;obtain⟨h1,h2⟩:=dw h;rw[show x=y by omega,M9 h2]
theorem UZ(l:List Nat)(x:Nat):bitsIn (l++[x])=bitsIn l++bitsOf 7 x:=by unfold bitsIn;rw[bO];simp
def Z0:Sp:=fun vs H Q _=>∃(a:Addr) (l:List Nat) (n:Nat),vs=[.ref a,.int n]/\H a=some (.lst (l.map nV))/\l.length<=50000/\n<=8/\(decoded n l=none->∀H',fR H H'->Q .gT H')/\
 ∀f,decoded n l=some f->∀(H':Hp) (p q:Addr),fR H H'->H p=none->H q=none->H' p=some (.tup [nV f.crossing,.ref q])->H' q=some (.lst (f.samples.map oV))->Q (.ref p) H'
section
variable {P:Program} {w:World} {K:PySem.W.Frag} {mg:Str->Option Value} {base:Heap} {AA:gv}
theorem Tr:gQ ["inside","channels","bits","sign","marks_end","place","width","crossing","samples","mark"] ["inside","channels"] (gM (fY 17)):=gY (by decide+kernel)
theorem Ts(T:Tx P w K mg AA):gL P w K mg base gU 4 AA.Ku AA.Kv ["inside","channels"] Z0:=by
 have xT:=KM (base:=base) T;have xV:=Ev (base:=base) T;have uq:=E3 (base:=base) T;have SC:=Tr;refine T.Ac.fn.ok SC (fun vs H Q E h=> ?_) (fun gz A outer s H vs Q E hr h=> ?_)
 ·obtain⟨a,l,n,rfl,_⟩:=h;rfl
 ·obtain⟨a,l,n,rfl,ha,hl,h8,my,kD⟩:=h
  refine⟨_,(fT (gm (i:=2) SC.nd Z (Or.inl Z) (gJ fQ))
   (fT (lG bg Z (md (oE oH (pv 0) (kq fX) (kq (qC qy fX)))) (iJ (i:=3) SC.nd Z (Or.inl Z))
     (fW (iS (iU ax a0 a5 m7 (pv 2) (fO (ie uq (hr.mono (by decide)) Z T.mB.mg T.mB.fn.kp T.mB.b .nil gH (fO (pv 3) (fO (gA Z T.uo) fQ))) fQ)))))
   (fT (gm (i:=4) SC.nd Z (Or.inl Z) (gB jh (gA Z T.xS) (pv 1)))
   (fT (gm (i:=5) SC.nd Z (Or.inl Z) (gB jh (pv 4) (gA Z T.E1)))
   (fT (gm (i:=6) SC.nd Z (Or.inl Z) (ie xT (hr.mono (by decide)) Z T.nO.mg T.nO.fn.kp T.nO.b .nil gH (fO (oE oH (pv 2) (kq (pv 4)) (kq (pv 5))) fQ)))
   (fT (gZ (PW.pt (pO (ip sG (gW iM (by rfl) T.len aF (fO (pv 2) fQ)) (pv 5) (ij _)) (qx (ip mR (pv 6) (gA Z T.Ld) (ij _)))))
     (fW (gD uE))
     ic)
   (fT (gm (i:=7) SC.nd Z (Or.inl Z) (ie xT (hr.mono (by decide)) Z T.nO.mg T.nO.fn.kp T.nO.b .nil gH (fO (oE oH (pv 2) Gs (kq (gA Z T.xS))) fQ)))
   (fT (gm (i:=8) SC.nd Z (Or.inl Z) (gJ fQ))
   (fT (lG bg Z (md (oE oH (pv 2) (kq (gA Z T.xS)) (kq (pv 4)))) (iJ (i:=9) SC.nd Z (Or.inl Z))
     (fW (gZ (ip nk (pv 9) fX (ij _))
       (fW (iS (iU ax aI aL kF (pv 8) (fO uE fQ))))
       (fT (iS (iU ax aI aL kF (pv 8) (fO (ie xT (hr.mono (by decide)) Z T.nO.mg T.nO.fn.kp T.nO.b .nil gH (fO (oE oH (pv 2) (kq (pv 5)) (kq (gB jh (pv 5) (pv 6)))) fQ)) fQ)))
       (fW (vW (i:=5) SC.nd Z (Or.inl Z) (pv 6) A5))))))
   (fT (gZ (ip (ZG hr.units) (ie xV (hr.mono (by decide)) Z T.qp.mg T.qp.fn.kp T.qp.b .nil gH (fO (pv 7) (fO (pv 8) fQ))) (gB j3 (gB j3 (gJ (fO (gA Z T.Ee) fQ)) (pv 0)) (gJ (fO (gA Z T.EZ) fQ))) (ij _))
     (fW (gD uE))
     ic)
   (fW (gD (vY (fO (pv 7) (fO (pv 8) fQ))))))))))))))),?_⟩
  rw[YS n h8 l] at my kD;unfold G9 at my kD;refine⟨aN _,fun q1 n1=> ?_⟩;have s1:fR H (fN H q1 (.lst [])):=fR.new n1;refine⟨_,Z,_,Z,_,Z,_,Z,a,_,Z,fS.of (s1 _ _ ha),fun q2 n2=> ?_⟩;have ec:j0 (l.map nV) (some 1) (some (-(2:Int)))=(kh l).map nV:=VF l;rw[ec];generalize hC:kh l=rR at my kD;have cl:rR.length<=50000:=by rw[<-hC];unfold kh;rw[aD,aW];omega
  have l8:q1≠q2:=fun z=>by rw[<-z,fP] at n2;cases n2
  have s2:fR H (fN (fN H q1 (.lst [])) q2 (.lst (rR.map nV))):=s1.more n2
  refine⟨q2,Z,⟨_,fS.of fP⟩,qY (K:=K) (a:=q2) (xs:=rR.map nV) (fun i σ H'=>∃v3,σ=[some (.ref a),some (.int n),some (.ref q1),v3,none,none,none,none,none,none]/\fR H H'/\H' q2=some (.lst (rR.map nV))/\H' q1=some (.lst ((bitsIn (rR.take i)).map bV)))
   ⟨none,Z,s2,fP,by rw[fU l8,fP];rfl⟩ (fun i σ H' _ ⟨_,_,_,e,_⟩=>fS.of e) ?_ ?_⟩
  ·rintro i x σ H3 hx ⟨v3,rfl,s3,g2,g1⟩;obtain⟨y,hy,rfl⟩:=kG hx;refine⟨_,Z,.inl ⟨Z,_,fS.of g1⟩,_,Z,y,7,Z,by decide,fun q3 n3=> ?_⟩;have qb:=gh g1 n3;have qa:=gh g2 n3;have bl:=r8 (rR.take i);have tl:(rR.take i).length<=50000:=by rw[aD];omega
   refine⟨q1,q3,_,_,Z,Z,(by rw[fU qb];exact g1),fP,fZ (by simp only[ac,jY];omega),?_⟩;refine⟨_,Z,(s3.more n3).put n1,(by rw[fU l8.symm,fU qa];exact g2),?_⟩;rw[fP,take_snoc hy,UZ,ao]
  ·rintro σ H3 ⟨v3,rfl,s3,g2,g1⟩;rw[ac,aT] at g1;have bl:=r8 rR;generalize hB:bitsIn rR=gX at g1 bl my kD;refine⟨_,Z,_,_,Z,Z,?_⟩;refine⟨_,Z,_,_,Z,Z,?_⟩;refine⟨_,Z,_,Z,_,Z,_,Z,_,Z,q1,_,Z,fS.of g1,fun q4 n4=> ?_⟩
   have e4:j0 (gX.map bV) (some ((12:Int)+(n:Int))) (some ((12:Int)+(n:Int)+4))=((gX.drop (12+n)).take 4).map bV:=by
    rw[show(12:Int)+(n:Int)=((12+n:Nat):Int) by omega,show((12+n:Nat):Int)+4=((16+n:Nat):Int) by omega,sy,<-cq,<-b9,show 16+n-(12+n)=4 by omega]
   rw[e4];have s4:=s3.more (o:=.lst (((gX.drop (12+n)).take 4).map bV)) n4;refine⟨q4,_,Z,fS.of fP,?_⟩;have mZ:=gh g1 n4;have zw:(fN H3 q4 (.lst (((gX.drop (12+n)).take 4).map bV))) q1=some (.lst (gX.map bV)):=by rw[fU mZ];exact g1
   show jS _ _ _ _ (fN H3 q4 (.lst (((gX.drop (12+n)).take 4).map bV)));generalize fN H3 q4 (.lst (((gX.drop (12+n)).take 4).map bV))=H4 at s4 zw;have jz:qt n gX=⟨Vbkdaa.valueOf (gX.take 12),samplesIn (Vbkdaa.valueOf ((gX.drop (12+n)).take 4)) ((gX.drop 12).take n) (gX.drop (16+n))⟩:=rfl;generalize hW:Vbkdaa.valueOf ((gX.drop (12+n)).take 4)=W at my kD jz;refine⟨_,Z,q1,_,Z,.inl (fS.of zw),_,Z,_,_,Z,Z,_,Z,?_⟩;rw[ac]
   by_cases c1:gX.length<16+n
   ·refine gc (ai (by omega)) ?_;refine gc Z ?_;rw[aw (.inl c1)] at my;exact my Z H4 s4
   ·refine gu (ae (by omega)) ?_;refine⟨_,Z,_,_,Z,Z,_,Z,?_⟩
    by_cases c2:12<W
    ·refine gc (ai (by omega)) ?_;rw[aw (.inr c2)] at my;exact my Z H4 s4
    ·refine gu (ae (by omega)) ?_;rw[am (by omega)] at my kD;refine⟨_,Z,_,Z,q1,_,Z,fS.of zw,fun q5 n5=> ?_⟩;have e5:j0 (gX.map bV) none (some (12:Int))=(gX.take 12).map bV:=by rw[show(12:Int)=((12:Nat):Int) from Z,XY,<-b9]
     rw[e5];have s5:=s4.more (o:=.lst ((gX.take 12).map bV)) n5;refine⟨q5,_,Z,fS.of fP,?_⟩;have tM:=gh zw n5;have IW:(fN H4 q5 (.lst ((gX.take 12).map bV))) q1=some (.lst (gX.map bV)):=by rw[fU tM];exact zw
     show jS _ _ _ _ (fN H4 q5 (.lst ((gX.take 12).map bV)));generalize fN H4 q5 (.lst ((gX.take 12).map bV))=H5 at s5 IW;refine⟨aN _,fun q6 n6=> ?_⟩;have IX:=gh IW n6;have f6:H q6=none:=s5.free n6;have IY:(fN H5 q6 (.lst [])) q1=some (.lst (gX.map bV)):=by rw[fU IX];exact IW
     have s6:=s5.more (o:=.lst []) n6;refine⟨_,Z,_,Z,_,Z,_,Z,q1,_,Z,fS.of IY,fun q7 n7=> ?_⟩
     have e7:j0 (gX.map bV) (some (12:Int)) (some ((12:Int)+(n:Int)))=((gX.drop 12).take n).map bV:=by
      rw[show(12:Int)=((12:Nat):Int) from Z,show((12:Nat):Int)+(n:Int)=((12+n:Nat):Int) by omega,sy,<-cq,<-b9,show 12+n-12=n by omega]
     rw[e7];generalize hM:(gX.drop 12).take n=gS at jz;generalize hR:gX.drop (16+n)=hV at jz;have ml:gS.length=n:=by rw[<-hM,aD,aW];omega
     have IN:=gh IY n7;have IZ:q6≠q7:=fun z=>by rw[<-z,fP] at n7;cases n7
     have s7:=s6.more (o:=.lst (gS.map bV)) n7
     refine⟨q7,Z,⟨_,fS.of fP⟩,qY (K:=K) (a:=q7) (xs:=gS.map bV) (fun i σ H'=>∃v9,σ=[some (.ref a),some (.int n),some (.ref q1),v3,some (.int ((12:Int)+(n:Int))),some (.int (((16+n+ir (gS.take i)*W:Nat)):Int)),some (.int W),some (.int (Vbkdaa.valueOf (gX.take 12))),some (.ref q6),v9]/\fR H H'/\H' q7=some (.lst (gS.map bV))/\H' q1=some (.lst (gX.map bV))/\H' q6=some (.lst ((samplesIn W (gS.take i) hV).map oV)))
      ⟨none,?_,s7,fP,by rw[fU IN];exact IY,by rw[fU IZ,fP];rfl⟩ (fun i σ H' _ ⟨_,_,_,e,_⟩=>fS.of e) ?_ ?_⟩
     ·have:(12:Int)+(n:Int)+4=((16+n+ir (gS.take 0)*W:Nat):Int):=by simp[ir];omega
      rw[<-this];rfl
     ·rintro i x σ H8 hx ⟨v9,rfl,s8,CC,rL,qR⟩;obtain⟨m,hm,rfl⟩:=kG hx;have hi:i<gS.length:=(ap.mp hm).1;have sl:(samplesIn W (gS.take i) hV).length<=8:=by rw[GG,aD];omega
      rw[take_snoc hm,Gk,WP];refine⟨_,Z,Z,_,Z,?_⟩;cases m with
      |false=>
       refine gc Z ?_;refine⟨_,Z,.inl ⟨Z,_,fS.of qR⟩,q6,_,_,Z,Z,qR,iV (by rw[ac];omega),?_⟩;refine⟨some (bV false),Z,s8.put f6,?_,?_,?_⟩
       ·rw[fU IZ.symm];exact CC
       ·rw[fU IX];exact rL
       ·rw[fP,ao];rfl
      |true=>
       refine gu Z ?_;refine⟨_,Z,.inl ⟨Z,_,fS.of qR⟩,_,Z,_,Z,_,Z,_,Z,_,Z,_,_,Z,Z,_,Z,q1,_,Z,fS.of rL,fun q9 n9=> ?_⟩
       have e9:j0 (gX.map bV) (some ((16+n+ir (gS.take i)*W:Nat):Int)) (some (((16+n+ir (gS.take i)*W:Nat):Int)+(W:Int)))=((hV.drop (ir (gS.take i)*W)).take W).map bV:=by
        rw[show((16+n+ir (gS.take i)*W:Nat):Int)+(W:Int)=((16+n+ir (gS.take i)*W+W:Nat):Int) by omega,sy,<-cq,<-b9,<-hR,bw]
        congr 2
        omega
       rw[e9];have n69:=gh qR n9;have n79:=gh CC n9;have IA:=gh rL n9;refine⟨q9,_,Z,fS.of fP,q6,_,_,Z,Z,(by rw[fU n69];exact qR),iV (by rw[ac];omega),?_⟩;refine⟨_,Z,_,Z,_,_,Z,Z,?_⟩;refine⟨some (bV true),?_,(s8.more n9).put f6,?_,?_,?_⟩
       ·have:((16+n+ir (gS.take i)*W:Nat):Int)+(W:Int)=((16+n+(ir (gS.take i)+iw true)*W:Nat):Int):=by
         show _=((16+n+(ir (gS.take i)+1)*W:Nat):Int);rw[eu];omega
        rw[<-this];rfl
       ·rw[fU IZ.symm,fU n79];exact CC
       ·rw[fU IX,fU IA];exact rL
       ·rw[fP,ao];rfl
     ·rintro σ H8 ⟨v9,rfl,s8,CC,rL,qR⟩;rw[ac,aT] at qR⊢;generalize QK:samplesIn W gS hV=ss at qR jz;have ssl:ss.length<=8:=by rw[<-QK,GG];omega
      have ssb:∀k,some k∈ss->k<4096:=fun k hk=>by
       rw[<-QK] at hk;exact aU (Bh W gS hV k hk) (show 2^W<=2^12 from di (by decide) (by omega))
      have QL:Vbkdaa.valueOf (gX.take 12)<4096:=aU (EC _) (show 2^(gX.take 12).length<=2^12 from di (by decide) (by rw[aD];omega));generalize Vbkdaa.valueOf (gX.take 12)=cr at QL jz;refine⟨_,Z,_,Z,cr,q6,ss,Z,fS.of qR,ssl,ssb,fun H9 p9 s9 f9 g9=> ?_⟩;rw[Nat.mod_eq_of_lt QL,<-jz] at g9;have s89:fR H H9:=s8.trans s9;refine⟨fZ (by simp),fun tO rH=> ?_⟩;have HQ:=s89.more (o:=.lst [V.int 128]) rH;refine⟨_,Z,tO,a,_,_,Z,Z,fP,HQ _ _ ha,fZ (by simp;omega),fun vh xg=> ?_⟩;have yP:=HQ.more (o:=.lst ([V.int 128]++l.map nV)) xg;refine⟨fZ (by simp),fun QM yJ=> ?_⟩;have nG:=yP.more (o:=.lst [V.int 129]) yJ;have nn:vh≠QM:=fun z=>by rw[<-z,fP] at yJ;cases yJ
      refine⟨vh,QM,_,_,Z,Z,(by rw[fU nn];exact fP),fP,fZ (by simp;omega),fun Cg qb=> ?_⟩;have I0:=nG.more (o:=.lst ([V.int 128]++l.map nV++[V.int 129])) qb;have g10:=(fR.new (o:=.lst [V.int 128]) rH) _ _ g9;have Io:=(fR.new (o:=.lst ([V.int 128]++l.map nV)) xg) _ _ g10;have Ip:=(fR.new (o:=.lst [V.int 129]) yJ) _ _ Io;have QN:=(fR.new (o:=.lst ([V.int 128]++l.map nV++[V.int 129])) qb) _ _ Ip;have Ph:∀z:List Nat,z.map nV=(z.map fun(x:Nat)=>(x:Int)).map V.int:=fun z=>by rw[bE];rfl
      have ei:[V.int 128]++l.map nV++[V.int 129]=((128::(l++[129])).map fun(x:Nat)=>(x:Int)).map V.int:=by rw[<-Ph];simp[nV]
      rw[Ph (encoded (qt n gX))] at QN;refine⟨p9,Cg,(encoded (qt n gX)).map (fun(x:Nat)=>(x:Int)),(128::(l++[129])).map (fun(x:Nat)=>(x:Int)),Z,Z,QN,(by rw[fP,ei]),_,Z,?_⟩
      have Pi:((encoded (qt n gX)).map (fun(x:Nat)=>(x:Int))=(128::(l++[129])).map (fun(x:Nat)=>(x:Int)))↔encoded (qt n gX)=128::(l++[129]):=by
       constructor
       ·intro z;exact M9 z
       ·intro z;rw[z]
      by_cases c3:encoded (qt n gX)=128::(l++[129])
      ·refine gu (by rw[ai (Pi.mpr c3)];rfl) ?_;rw[aw c3] at kD;refine⟨_,Z,_,Z,(by show 2<=sizeLine;decide),fun Ch mZ=> ?_⟩;refine kD _ Z _ Ch q6 (I0.more mZ) (I0.free mZ) f6 ?_ ?_
       ·rw[fP,jz];rfl
       ·have h1:=s9 _ _ qR;have h2:=(fR.new (o:=.lst [V.int 128]) rH) _ _ h1;have h3:=(fR.new (o:=.lst ([V.int 128]++l.map nV)) xg) _ _ h2;have h4:=(fR.new (o:=.lst [V.int 129]) yJ) _ _ h3;have h5:=(fR.new (o:=.lst ([V.int 128]++l.map nV++[V.int 129])) qb) _ _ h4;rw[fU (gh h5 mZ),jz];exact h5
      ·refine gc (by rw[ae (fun z=>c3 (Pi.mp z))];rfl) ?_;rw[am c3] at my;exact my Z _ I0
end
open Vbkdaa
open VbkdCore (addSpan joined normal Spans)
def pL(st:List Nat×Bool)(p:Nat)(mark:Bool):List Nat×Bool:=if mark=st.2 then st else(st.1++[p],mark)
def kd:List Nat×Bool->Nat->List Bool->List Nat×Bool
 |st,_,[]=>st
 |st,p,x::r=>kd (pL st p x) (p+1) r
theorem zV:∀(l:List Bool) (st:List Nat×Bool) (p:Nat) (x:Bool),kd st p (l++[x])=pL (kd st p l) (p+l.length) x
 |[],st,p,x=>by simp[kd]
 |y::r,st,p,x=>by
  show kd (pL st p y) (p+1) (r++[x])=pL (kd (pL st p y) (p+1) r) (p+(r.length+1)) x;rw[zV r,show p+1+r.length=p+(r.length+1) by omega]
def sM(l:List Bool):List Nat:=(kd ([],false) 0 l).1++(if (kd ([],false) 0 l).2=true then[l.length] else[])
def ny(s:Spans):List Nat:=s.flatMap fun x=>[x.1,x.2]
theorem Mt(s t:Spans):ny (s++t)=ny s++ny t:=by simp[ny]
theorem WQ(s:Spans):(ny s).length=2*s.length:=by
 induction s with
 |nil=>rfl
 |cons x r ih=>
  show(x.1::x.2::ny r).length=_;simp only[aj,ih];omega
theorem Ez{a b:Nat}(IS:a<b):∀(s t:Spans),(∀x∈s,x.2<a)->addSpan a b (s++t)=s++addSpan a b t
 |[],t,_=>rfl
 |x::r,t,h=>by
  show addSpan a b (x::(r++t))=_;have e:addSpan a b (x::(r++t))=(if b<=a then x::(r++t) else if x.2<a then x::addSpan a b (r++t) else if b<x.1 then(a,b)::x::(r++t) else addSpan (min a x.1) (max b x.2) (r++t)):=by rw[addSpan]
  rw[e,am (by omega),aw (h x bx),Ez IS r t fun y hy=>h y (aX _ hy)];rfl
theorem S0(l:List Bool)(x:Bool):stretches (l++[x])=if x=true then addSpan l.length (l.length+1) (stretches l) else stretches l:=by
 unfold stretches normal joined;rw[List.zipIdx_append,List.filterMap_append,bY];cases x<;>simp
theorem snocInd{α:Type}{P:List α->Prop}(h0:P [])(hs:∀l x,P l->P (l++[x]))(l:List α):P l:=by
 have h:∀l:List α,P l.reverse:=by
  intro l
  induction l with
  |nil=>exact h0
  |cons x r ih=>rw[bX];exact hs _ _ ih
 have:=h l.reverse
 rwa [List.reverse_reverse] at this
theorem U0:∀l:List Bool,
 ((kd ([],false) 0 l).2=false/\ny (stretches l)=(kd ([],false) 0 l).1/\∀x∈stretches l,x.2<l.length)\/
 ((kd ([],false) 0 l).2=true/\∃s a,stretches l=s++[(a,l.length)]/\a<l.length/\(∀x∈s,x.2<a)/\(kd ([],false) 0 l).1=ny s++[a]):=by
 intro l
 refine snocInd (P:=fun l=>((kd ([],false) 0 l).2=false/\ny (stretches l)=(kd ([],false) 0 l).1/\∀x∈stretches l,x.2<l.length)\/
  ((kd ([],false) 0 l).2=true/\∃s a,stretches l=s++[(a,l.length)]/\a<l.length/\(∀x∈s,x.2<a)/\(kd ([],false) 0 l).1=ny s++[a])) ?_ ?_ l
 ·exact .inl ⟨Z,Z,fun x hx=>absurd hx (by simp[stretches,normal,joined])⟩
 ·intro l x ih;rw[zV,S0,dF,ag,bD];generalize kL:kd ([],false) 0 l=st at ih;obtain⟨es,ins⟩:=st;simp only at ih;rcases ih with⟨rfl,h1,h2⟩|⟨rfl,s,a,h1,h2,h3,h4⟩
  ·cases x with
   |false=>
    left;refine⟨Z,?_,?_⟩
    ·simpa [pL] using h1
    ·intro y hy;have:=h2 y (by simpa using hy);omega
   |true=>
    right;refine⟨Z,stretches l,l.length,?_,by omega,h2,?_⟩
    ·rw[aw Z];have:=Ez (show l.length<l.length+1 by omega) (stretches l) [] h2;rw[bc] at this;rw[this];simp[addSpan]
    ·simp[pL,h1]
  ·cases x with
   |false=>
    left;refine⟨Z,?_,?_⟩
    ·simp[pL,h1,h4,Mt,ny]
    ·intro y hy;have hy':y∈s++[(a,l.length)]:=by rw[<-h1];simpa using hy
     rcases aG.mp hy' with z|z
     ·have:=h3 y z;omega
     ·have:y=(a,l.length):=by simpa using z
      rw[this];show l.length<l.length+1;omega
   |true=>
    right;refine⟨Z,s,a,?_,by omega,h3,?_⟩
    ·rw[aw Z,h1,Ez (by omega) s _ (fun y hy=>by have:=h3 y hy;omega)]
     congr 1
     unfold addSpan;rw[am (by omega),am (by simp),am (by simp;omega)];rw[show min l.length a=a by omega,show max (l.length+1) l.length=l.length+1 by omega];unfold addSpan;rw[aw (by omega)]
    ·simp[pL,h4]
theorem LX(l:List Bool):spansTold (stretches l)=nat ((sM l).length/2)::(sM l).map nat:=by
 have e:ny (stretches l)=sM l:=by
  unfold sM;rcases U0 l with⟨h0,h1,_⟩|⟨h0,s,a,h1,_,_,h4⟩
  ·rw[h0,h1];simp
  ·rw[h0,h1,h4,Mt];simp[ny]
 unfold spansTold;rw[<-e,WQ,show 2*(stretches l).length/2=(stretches l).length by omega]
 congr 1
 unfold ny;rw[List.map_flatMap];rfl
structure jP where
 h:Addr
 dx:Addr
 lb:Option Addr
def Pj:Option Addr->V
 |none=>.gT
 |some p=>.ref p
def CD(L:jP)(n rd bad:Nat):List (Str×V):=[("channels",.int n),("begun",Pj L.lb),("read",.int rd),("bad",.int bad)]
def jP.mut(L:jP):List Addr:=L.h::L.lb.toList
def aaJ(H:Hp)(h:Addr):Option Addr->Option (List Nat)->Prop
 |none,none=>True
 |some p,some l=>H p=some (.lst (l.map nV))/\p≠h
 |_,_=>False
structure kz(AA:gv)(H:Hp)(L:jP)(n:Nat)(e:Ear):Prop where
 ins:H L.h=some (.ins AA.mK L.dx (CD L n e.read e.bad))
 rS:aaJ H L.h L.lb e.inside
theorem kz.keep{AA:gv}{H H':Hp}{L:jP}{n:Nat}{e:Ear}{ys:List Addr}(h:kz AA H L n e)(o:gF ys H H')(m:∀a∈L.mut,a∉ys):kz AA H' L n e where
 ins:=o _ _ h.ins (m _ (by simp[jP.mut]))
 rS:=by
  have hb:=h.rS;cases e1:L.lb with
  |none=>rw[e1] at hb;cases e2:e.inside with
   |none=>trivial
   |some l=>rw[e2] at hb;exact hb
  |some p=>rw[e1] at hb;cases e2:e.inside with
   |none=>rw[e2] at hb;exact hb
   |some l=>rw[e2] at hb;exact⟨o _ _ hb.1 (m _ (by simp[jP.mut,e1])),hb.2⟩
theorem kz.same{AA:gv}{H H':Hp}{L:jP}{n:Nat}{e:Ear}(h:kz AA H L n e)(s:fR H H'):kz AA H' L n e:=h.keep (ys:=[]) s.own fun _ _ z=>by cases z
theorem kz.lM{AA:gv}{H:Hp}{L:jP}{n:Nat}{e:Ear}(h:kz AA H L n e):∀y∈L.mut,(H y).isSome=true:=by
 intro y hy;rcases az.mp hy with rfl|hy
 ·rw[h.ins];rfl
 ·have hb:=h.rS;cases e1:L.lb with
  |none=>rw[e1] at hy;cases hy
  |some p=>
   rw[e1] at hy hb;have:y=p:=by simpa using hy
   subst this;cases e2:e.inside with
   |none=>rw[e2] at hb;exact hb.elim
   |some l=>rw[e2] at hb;rw[hb.1];rfl
theorem kz.rl{AA:gv}{H:Hp}{L:jP}{n:Nat}{e:Ear}(h:kz AA H L n e):∀y∈L.mut,∀xs,H y≠some (.tup xs):=by
 intro y hy xs z;rcases az.mp hy with rfl|hy
 ·rw[h.ins] at z;cases z
 ·have hb:=h.rS;cases e1:L.lb with
  |none=>rw[e1] at hy;cases hy
  |some p=>
   rw[e1] at hy hb;have:y=p:=by simpa using hy
   subst this;cases e2:e.inside with
   |none=>rw[e2] at hb;exact hb.elim
   |some l=>rw[e2] at hb;rw[hb.1] at z;cases z
structure sN(H:Hp)(ts qs:List Addr)(fs:List Vbkdaa.Frame):Prop where
 t:iH H (fun x:Vbkdaa.Frame×Addr=>.tup [nV x.1.crossing,.ref x.2]) ts (fs.zip qs)
 q:iH H (fun f:Vbkdaa.Frame=>.lst (f.samples.map oV)) qs fs
theorem sN.keep{H H':Hp}{ts qs:List Addr}{fs:List Vbkdaa.Frame}{ys:List Addr}(h:sN H ts qs fs)(o:gF ys H H')(n:∀a∈qs,a∉ys)(m:∀y∈ys,∀xs,H y≠some (.tup xs)):sN H' ts qs fs:=
 ⟨⟨h.t.1,fun i a x h1 h2=>kR o m (h.t.2 i a x h1 h2)⟩,h.q.keep o n⟩
theorem sN.snoc{H:Hp}{ts qs:List Addr}{fs:List Vbkdaa.Frame}{t q:Addr}{f:Vbkdaa.Frame}(h:sN H ts qs fs)(ht:H t=some (.tup [nV f.crossing,.ref q]))(hq:H q=some (.lst (f.samples.map oV))):sN H (ts++[t]) (qs++[q]) (fs++[f]):=
 ⟨by rw[M3 _ _ _ _ h.q.1.symm];exact h.t.snoc ht,h.q.snoc hq⟩
theorem zW(n:Nat):∀(l:List Nat) (e:Ear) (c:Nat),hearAll n e (l++[c])=((hear n (hearAll n e l).1 c).1,(hearAll n e l).2++(hear n (hearAll n e l).1 c).2)
 |[],e,c=>by simp[hearAll]
 |x::l,e,c=>by
  rw[bL];unfold hearAll;simp only;rw[zW n l,a7]
theorem VG(n:Nat)(e:Ear):hear n e 128=({e with inside:=some [],bad:=e.bad+(if e.inside.isSome=true then 1 else 0)},[]):=by unfold hear;rw[aw (by rfl)]
theorem XZ{n:Nat}{e:Ear}{c:Nat}(h:c≠128)(h2:e.inside=none):hear n e c=(e,[]):=by unfold hear;rw[am (by exact h),h2]
theorem X0{n:Nat}{e:Ear}{l:List Nat}(h2:e.inside=some l)(hd:decoded n l=none):hear n e 129=(⟨none,e.read,e.bad+1⟩,[]):=by
 unfold hear;rw[am (by decide),h2];simp only;rw[aw (by rfl),hd]
theorem WR{n:Nat}{e:Ear}{l:List Nat}{f:Vbkdaa.Frame}(h2:e.inside=some l)(hd:decoded n l=some f):hear n e 129=(⟨none,e.read+1,e.bad⟩,[f]):=by
 unfold hear;rw[am (by decide),h2];simp only;rw[aw (by rfl),hd]
theorem WS{n:Nat}{e:Ear}{c:Nat}{l:List Nat}(h:c≠128)(h3:c≠129)(h2:e.inside=some l):hear n e c=({e with inside:=some (l++[c])},[]):=by
 unfold hear;rw[am (by exact h),h2];simp only;rw[am (by exact h3)]
theorem X1(n:Nat)(e:Ear)(c:Nat):(((hear n e c).1.inside).getD []).length<=(e.inside.getD []).length+1:=by
 unfold hear;split
 ·simp
 ·split
  ·simp
  ·rename_i l hl;split
   ·split<;>simp
   ·simp[hl]
theorem Mu(n:Nat)(e:Ear)(l:List Nat):(((hearAll n e l).1.inside).getD []).length<=(e.inside.getD []).length+l.length:=by
 refine snocInd (P:=fun l=>(((hearAll n e l).1.inside).getD []).length<=(e.inside.getD []).length+l.length) (aA _) (fun l x ih=> ?_) l;rw[zW,ag];have:=X1 n (hearAll n e l).1 x;simp only[aj,aZ];omega
def YT(AA:gv):Sp:=fun vs H Q _=>∃(x dx:Addr) (n:Nat),vs=[.ref x,.int n]/\H x=some (.ins AA.mK dx [])/\∀H',gF [x] H H'->kz AA H' ⟨x,dx,none⟩ n quiet->Q .gT H'
def YU(AA:gv):Sp:=fun vs H Q _=>∃(L:jP) (n:Nat) (e:Ear),vs=[.ref L.h]/\kz AA H L n e/\∀(H':Hp) (p:Addr),H p=none->j1 H H'->gF [L.h] H H'->kz AA H' {L with lb:=some p} n {e with inside:=some [],bad:=e.bad+(if e.inside.isSome=true then 1 else 0)}->Q .gT H'
def aaK(AA:gv):Sp:=fun vs H Q _=>∃(L:jP) (n:Nat) (e:Ear) (l:List Nat),vs=[.ref L.h]/\kz AA H L n e/\e.inside=some l/\l.length<=50000/\n<=8/\
 (decoded n l=none->∀(H':Hp) (p:Addr),H p=none->j1 H H'->gF [L.h] H H'->kz AA H' {L with lb:=none} n ⟨none,e.read,e.bad+1⟩->H' p=some (.lst [])->Q (.ref p) H')/\
 ∀f,decoded n l=some f->∀(H':Hp) (p t q:Addr),H p=none->H t=none->H q=none->j1 H H'->gF [L.h] H H'->kz AA H' {L with lb:=none} n ⟨none,e.read+1,e.bad⟩->H' p=some (.lst [.ref t])->H' t=some (.tup [nV f.crossing,.ref q])->H' q=some (.lst (f.samples.map oV))->Q (.ref p) H'
section
variable {P:Program} {w:World} {K:PySem.W.Frag} {mg:Str->Option Value} {base:Heap} {AA:gv}
theorem Sx:gQ ["self","channels"] ["self","channels"] (gM (i0 (fY 27) 0)):=gY (by decide+kernel)
theorem Fb(T:Tx P w K mg AA):gL P w K mg base gU 1 AA.DA AA.DB ["self","channels"] (YT AA):=by
 have SC:=Sx;refine T.SJ.ok SC (fun vs H Q E h=> ?_) (fun gz A outer s H vs Q E hr h=> ?_)
 ·obtain⟨x,dx,n,rfl,_⟩:=h;rfl
 ·obtain⟨x,dx,n,rfl,hx,hq⟩:=h
  refine⟨_,(fT (jt (pv 0) (pv 1) Z)
   (fT (jt (pv 0) uE Z)
   (fT (jt (pv 0) fX Z)
   (fW (jt (pv 0) fX Z))))),?_⟩
  refine⟨_,Z,_,Z,x,_,dx,_,Z,hx,T.kc,T.JK,(by show 0<1000;decide),?_⟩;refine⟨_,Z,x,_,dx,_,Z,fP,T.kc,T.qj,(by show 1<1000;decide),?_⟩;refine⟨_,Z,x,_,dx,_,Z,fP,T.kc,T.DU,(by show 2<1000;decide),?_⟩;refine⟨_,Z,x,_,dx,_,Z,fP,T.kc,T.vI,(by show 3<1000;decide),?_⟩;rw[jo,jo,jo];exact hq _ (gF.refl.put (by simp)) ⟨fP,trivial⟩
theorem Ri:gQ ["self"] ["self"] (gM (i0 (fY 27) 2)):=gY (by decide+kernel)
theorem Rj(T:Tx P w K mg AA):gL P w K mg base gU 1 AA.CV AA.CW ["self"] (YU AA):=by
 have SC:=Ri;refine T.Rk.ok SC (fun vs H Q E h=> ?_) (fun gz A outer s H vs Q E hr h=> ?_)
 ·obtain⟨L,n,e,rfl,_⟩:=h;rfl
 ·obtain⟨L,n,e,rfl,hE,hq⟩:=h
  refine⟨_,(fT (gZ (qv (Gq (gf (pv 0) Z)))
   (fW (Ai (pv 0) fX A8))
   ic)
   (fW (jt (pv 0) (gJ fQ) Z))),?_⟩
  have hb:=hE.rS;refine⟨_,Z,L.h,_,L.dx,_,_,Z,hE.ins,T.kc,T.qj,Z,_,Z,?_⟩
  have fin:∀(H1:Hp) (k:Nat),j1 H H1->gF [L.h] H H1->H1 L.h=some (.ins AA.mK L.dx (CD L n e.read k))->k=e.bad+(if e.inside.isSome=true then 1 else 0)->
   OW K (iP 0) (yy jx) "begun" ⟨fun _ H'=>Q .gT H',Q,fun _ _=>True,fun _ _=>True⟩ [some (.ref L.h)] H1:=by
   rintro H1 k gr1 o1 h1 rfl;refine⟨aN _,fun q1 n1=> ?_⟩;refine⟨_,Z,L.h,_,L.dx,_,Z,(fR.new n1) _ _ h1,T.kc,T.qj,(by show 4<1000;decide),?_⟩;have nq:q1≠L.h:=(gh h1 n1).symm;refine hq _ q1 (qr o1 (by simpa using nq) n1) (gr1.trans (fR.new n1).grow).put ((o1.trans (fR.new n1).own).put (by simp)) ⟨fP,?_⟩;exact⟨by rw[fU nq,fP];rfl,nq⟩
  cases e1:L.lb with
  |none=>
   rw[e1] at hb;cases e2:e.inside with
   |some l=>rw[e2] at hb;exact hb.elim
   |none=>
    refine gu Z ?_;refine fin H e.bad j1.refl gF.refl hE.ins (by rw[e2];rfl)
  |some p=>
   rw[e1] at hb;cases e2:e.inside with
   |none=>rw[e2] at hb;exact hb.elim
   |some l=>
    refine gc Z ?_;refine⟨_,Z,L.h,_,L.dx,_,_,Z,hE.ins,T.kc,T.vI,Z,_,_,Z,Z,L.dx,_,hE.ins,(by show 4<1000;decide),?_⟩;exact fin _ (e.bad+1) j1.refl.put (gF.refl.put (by simp)) fP (by rw[e2];rfl)
theorem Ry:gQ ["self","found"] ["self"] (gM (i0 (fY 27) 3)):=gY (by decide+kernel)
theorem Rz(T:Tx P w K mg AA):gL P w K mg base gU 5 AA.C2 AA.C3 ["self"] (aaK AA):=by
 have Ue:=Ts (base:=base) T;have SC:=Ry;refine T.RD.ok SC (fun vs H Q E h=> ?_) (fun gz A outer s H vs Q E hr h=> ?_)
 ·obtain⟨L,n,e,l,rfl,_⟩:=h;rfl
 ·obtain⟨L,n,e,l,rfl,hE,zx,hl,h8,my,kD⟩:=h
  refine⟨_,(fT (gm (i:=1) SC.nd Z (Or.inl Z) (ie Ue (hr.mono (by decide)) Z T.Ac.mg T.Ac.fn.kp T.Ac.b .nil gH (fO (gf (pv 0) Z) (fO (gf (pv 0) Z) fQ))))
   (fT (jt (pv 0) uE Z)
   (fT (gZ (qv (A2 (pv 1)))
     (fT (Ai (pv 0) fX A8)
     (fW (gD (gJ fQ))))
     ic)
   (fT (Ai (pv 0) fX A8)
   (fW (gD (gJ (fO (pv 1) fQ)))))))),?_⟩
  have hb:=hE.rS;rw[zx] at hb;cases e1:L.lb with
  |none=>rw[e1] at hb;exact hb.elim
  |some p=>
   rw[e1] at hb;have hbv:Pj L.lb=V.ref p:=by rw[e1];rfl
   refine⟨_,Z,L.h,_,L.dx,_,_,Z,hE.ins,T.kc,T.qj,Z,_,Z,L.h,_,L.dx,_,_,Z,hE.ins,T.kc,T.JK,Z,p,l,n,by rw[hbv];rfl,hb.1,hl,h8,fun hd H1 s1=> ?_,fun f hd H1 t q s1 ft fq gt gq=> ?_⟩
   ·have iI:=hE.same s1;refine⟨_,Z,L.h,_,L.dx,_,Z,iI.ins,T.kc,T.qj,(by show 4<1000;decide),?_⟩;refine⟨_,Z,_,Z,?_⟩;refine gc Z ?_;refine⟨_,Z,L.h,_,L.dx,_,_,Z,fP,T.kc,T.vI,Z,_,_,Z,Z,L.dx,_,fP,(by show 4<1000;decide),?_⟩;rw[jo];have o2:gF [L.h] H (fN H1 L.h (.ins AA.mK L.dx (CD {L with lb:=none} n e.read (e.bad+1)))):=s1.own.put (by simp);refine⟨aN _,fun q1 n1=> ?_⟩;have o3:=o2.trans (fR.new (o:=.lst []) n1).own
    have nq:q1≠L.h:=fun z=>by
     have zy:(fN H1 L.h _) q1=none:=n1;rw[z,fP] at zy;cases zy
    exact my hd _ q1 (qr o2 (by simpa using nq) n1) (s1.grow.put.trans (fR.new n1).grow) o3 ⟨(fR.new n1) _ _ fP,trivial⟩ fP
   ·have iI:=hE.same s1;refine⟨_,Z,L.h,_,L.dx,_,Z,iI.ins,T.kc,T.qj,(by show 4<1000;decide),?_⟩;refine⟨_,Z,_,Z,?_⟩;refine gu Z ?_;refine⟨_,Z,L.h,_,L.dx,_,_,Z,fP,T.kc,T.DU,Z,_,_,Z,Z,L.dx,_,fP,(by show 4<1000;decide),?_⟩;rw[jo];have o2:gF [L.h] H (fN H1 L.h (.ins AA.mK L.dx (CD {L with lb:=none} n (e.read+1) e.bad))):=s1.own.put (by simp);have nt:t≠L.h:=fun z=>by rw[z,hE.ins] at ft;cases ft
    have nqq:q≠L.h:=fun z=>by rw[z,hE.ins] at fq;cases fq
    refine⟨_,Z,fZ (by simp),fun q1 n1=> ?_⟩;have o3:=o2.trans (fR.new (o:=.lst [.ref t]) n1).own
    have nq:q1≠L.h:=fun z=>by
     have zy:(fN H1 L.h _) q1=none:=n1;rw[z,fP] at zy;cases zy
    refine kD f hd _ q1 t q (qr o2 (by simpa using nq) n1) ft fq (s1.grow.put.trans (fR.new n1).grow) o3 ⟨(fR.new n1) _ _ fP,trivial⟩ fP ?_ ?_
    ·refine(fR.new n1) _ _ ?_;show(fN H1 L.h _) t=_;rw[fU nt];exact gt
    ·refine(fR.new n1) _ _ ?_;show(fN H1 L.h _) q=_;rw[fU nqq];exact gq
end
def Z1(AA:gv):Sp:=fun vs H Q _=>∃(L:jP) (n:Nat) (e:Ear) (a:Addr) (l:List Nat),vs=[.ref L.h,.ref a]/\kz AA H L n e/\H a=some (.lst (l.map nV))/\a∉L.mut/\(e.inside.getD []).length+l.length<=49999/\n<=8/\
 ∀(H':Hp) (lb:Option Addr) (p:Addr) (ts qs:List Addr),gF L.mut H H'->j1 H H'->kz AA H' {L with lb:=lb} n (hearAll n e l).1->(∀x,lb=some x->x∈L.mut\/H x=none)->H p=none->H' p=some (.lst (ts.map V.ref))->sN H' ts qs (hearAll n e l).2->(hearAll n e l).2.length<=l.length->Q (.ref p) H'
theorem Na(n:Nat)(e:Ear)(l:List Nat):(hearAll n e l).2.length<=l.length:=by
 refine snocInd (P:=fun l=>(hearAll n e l).2.length<=l.length) (aA _) (fun l x ih=> ?_) l;rw[zW,ag,ag]
 have:(hear n (hearAll n e l).1 x).2.length<=1:=by
  unfold hear;split
  ·simp
  ·split
   ·simp
   ·split
    ·split<;>simp
    ·simp
 simp only[aj,aZ];omega
section
variable {P:Program} {w:World} {K:PySem.W.Frag} {mg:Str->Option Value} {base:Heap} {AA:gv}
theorem Sy:gQ ["self","octets","frames","octet"] ["self","octets"] (gM (i0 (fY 27) 1)):=gY (by decide+kernel)
theorem Sz(T:Tx P w K mg AA):gL P w K mg base gU 6 AA.DC AA.DD ["self","octets"] (Z1 AA):=by
 have Rq:=Rj (base:=base) T;have RM:=Rz (base:=base) T;have SC:=Sy;refine T.SK.ok SC (fun vs H Q E h=> ?_) (fun gz A outer s H vs Q E hr h=> ?_)
 ·obtain⟨L,n,e,a,l,rfl,_⟩:=h;rfl
 ·obtain⟨L,n,e,a,l,rfl,hE,ha,na,hl,h8,hq⟩:=h
  refine⟨_,(fT (gm (i:=2) SC.nd Z (Or.inl Z) (gJ fQ))
   (fT (lG bg Z (md (pv 1)) (iJ (i:=3) SC.nd Z (Or.inl Z))
     (fW (gZ (ip nk (pv 3) (gA Z T.Ee) (ij _))
       (fW (iS (ma (pv 0) T.kc T.RC Rq (hr.mono (by decide)) T.Rr .nil gH)))
       (fW (gZ (qv (A2 (gf (pv 0) Z)))
         (fW KO)
         (fW (gZ (ip nk (pv 3) (gA Z T.EZ) (ij _))
           (fW (iS (iU ax a0 a5 m7 (pv 2) (fO (ma (pv 0) T.kc T.R0 RM (hr.mono (by decide)) T.RN .nil gH) fQ))))
           (fW (iS (iU ax aI aL kF (gf (pv 0) Z) (fO (pv 3) fQ)))))))))))
   (fW (gD (pv 2))))),?_⟩
  refine⟨aN _,fun q1 n1=> ?_⟩;have s1:fR H (fN H q1 (.lst [])):=fR.new n1
  refine⟨_,Z,a,Z,⟨_,fS.of (s1 _ _ ha)⟩,qY (K:=K) (a:=a) (xs:=l.map nV) (fun i σ H'=>∃v3 lb ts qs,σ=[some (.ref L.h),some (.ref a),some (.ref q1),v3]/\gF L.mut H H'/\j1 H H'/\kz AA H' {L with lb:=lb} n (hearAll n e (l.take i)).1/\(∀x,lb=some x->x∈L.mut\/H x=none)/\lb≠some q1/\H' q1=some (.lst (ts.map V.ref))/\sN H' ts qs (hearAll n e (l.take i)).2/\∀q∈qs,H q=none/\q≠q1/\lb≠some q)
   ⟨none,L.lb,[],[],Z,s1.own,s1.grow,hE.same s1,fun x hx=>.inl (by simp[jP.mut,hx]),?_,fP,⟨iH.nil,iH.nil⟩,fun q hq=>by cases hq⟩ (fun i σ H' _ ⟨_,_,_,_,_,o,_,_⟩=>fS.of (o _ _ ha na)) ?_ ?_⟩
  ·intro z;have:=hE.lM q1 (by simp[jP.mut,z]);rw[n1] at this;cases this
  ·rintro i x σ H2 hx ⟨v3,lb,ts,qs,rfl,o2,l9,jm,qS,xA,g2,m6,nJ⟩;obtain⟨c,hc,rfl⟩:=kG hx;have hi:i<l.length:=(ap.mp hc).1;have zx:=Mu n e (l.take i);have htl:(l.take i).length=i:=by rw[aD];omega
   have tN:=Na n e (l.take i);rw[take_snoc hc,zW];generalize hearAll n e (l.take i)=st at jm m6 zx tN;have hhm:L.h∈L.mut:=by simp[jP.mut]
   have wE:∀y∈([L.h]:List Addr),y∈L.mut:=fun y hy=>by rw[aq.mp hy];exact hhm
   have hLm:∀y∈L.mut,(H y).isSome=true:=hE.lM;have tS:q1≠L.h:=fun z=>by rw[z,hE.ins] at n1;cases n1
   have Ja:∀y∈([L.h]:List Addr),∀xs,H2 y≠some (.tup xs):=fun y hy xs z=>by
    rw[aq.mp hy,jm.ins] at z;cases z
   have Jb:∀q∈qs,q∉([L.h]:List Addr):=fun q hq z=>by
    have:=(nJ q hq).1;rw[aq.mp z,hE.ins] at this;cases this
   refine⟨_,Z,Z,_,Z,?_⟩
   by_cases c1:c=128
   ·refine gc (by rw[c1];rfl) ?_;refine⟨_,Z,L.h,L.dx,_,Z,jm.ins,Z,{L with lb:=lb},n,st.1,Z,jm,fun H3 p3 f3 zz o3 kO=> ?_⟩;rw[c1,VG,bc];refine⟨_,some p3,ts,qs,Z,o2.trans (o3.mono wE),l9.trans zz,kO,fun x hx=> ?_,?_,o3 _ _ g2 (by simpa using tS),m6.keep o3 Jb Ja,fun q hq=> ?_⟩
    ·rw[<-af hx];exact .inr (l9 _ f3)
    ·intro z;rw[af z,g2] at f3;cases f3
    ·refine⟨(nJ q hq).1,(nJ q hq).2.1,fun z=> ?_⟩;obtain⟨j,hj⟩:=b8.mp hq;obtain⟨y,_,hy⟩:=m6.q.get hj;rw[af z,hy] at f3;cases f3
   ·refine gu (ae (fun z=>c1 (uG.mp z))) ?_;refine⟨_,Z,L.h,_,L.dx,_,_,Z,jm.ins,T.kc,T.qj,Z,_,Z,?_⟩;have hb:=jm.rS;cases e1:lb with
    |none=>
     rw[e1] at hb;cases e2:st.1.inside with
     |some z=>rw[e2] at hb;exact hb.elim
     |none=>
      refine gc Z ?_;rw[XZ c1 e2,bc];rw[e1] at jm xA nJ;exact⟨_,none,ts,qs,Z,o2,l9,jm,fun x hx=>(by cases hx),xA,g2,m6,nJ⟩
    |some p=>
     rw[e1] at hb jm xA nJ qS;cases e2:st.1.inside with
     |none=>rw[e2] at hb;exact hb.elim
     |some z=>
      rw[e2] at hb zx;simp only[Option.getD_some] at zx;refine gu Z ?_;refine⟨_,Z,Z,_,Z,?_⟩
      by_cases c2:c=129
      ·refine gc (by rw[c2];rfl) ?_;refine⟨_,Z,.inl ⟨Z,_,fS.of g2⟩,_,Z,L.h,L.dx,_,Z,jm.ins,Z,{L with lb:=some p},n,st.1,z,Z,jm,e2,by omega,h8,fun hd H3 p3 f3 zz o3 kO g3=> ?_,fun f hd H3 p3 t3 q3 f3 ft fq zz o3 kO g3 gt gq=> ?_⟩
       ·rw[c2,X0 e2 hd,bc];have pz:=o3 _ _ g2 (by simpa using tS);refine⟨q1,p3,_,_,Z,Z,pz,g3,fZ (by rw[ac,m6.t.1,cM];simp;omega),?_⟩;rw[bc]
        have eid:fN H3 q1 (.lst (ts.map V.ref))=H3:=by
         funext b
         by_cases QO:b=q1
         ·rw[QO,fP,pz]
         ·rw[fU QO]
        rw[eid];exact⟨_,none,ts,qs,Z,o2.trans (o3.mono wE),l9.trans zz,kO,fun x hx=>(by cases hx),fun h=>(by cases h),pz,m6.keep o3 Jb Ja,fun q hq=>⟨(nJ q hq).1,(nJ q hq).2.1,fun h=>by cases h⟩⟩
       ·rw[c2,WR e2 hd];have pz:=o3 _ _ g2 (by simpa using tS);refine⟨q1,p3,_,_,Z,Z,pz,g3,fZ (by rw[ac,m6.t.1,cM];simp;omega),?_⟩;have hF3:=(m6.keep o3 Jb Ja).snoc gt gq;have n1t:t3≠q1:=fun h=>by rw[h,g2] at ft;cases ft
        have QP:q3≠q1:=fun h=>by rw[h,g2] at fq;cases fq
        have o4:gF [q1] H3 (fN H3 q1 (.lst (ts.map V.ref++[V.ref t3]))):=gF.refl.put (by simp);have fq':H q3=none:=l9 _ fq;refine⟨_,none,ts++[t3],qs++[q3],Z,(o2.trans (o3.mono wE)).new n1,(l9.trans zz).put,kO.keep o4 ?_,fun x hx=>(by cases hx),fun h=>(by cases h),?_,hF3.keep o4 ?_ ?_,?_⟩
        ·intro y hy rN;rw[aq.mp rN] at hy;rcases az.mp hy with h|h
         ·exact tS h
         ·cases h
        ·rw[fP,ao];rfl
        ·intro q hq qN;rw[aq.mp qN] at hq;rcases aG.mp hq with h|h
         ·exact(nJ q1 h).2.1 rfl
         ·exact QP (aq.mp h).symm
        ·intro y hy xs h;rw[aq.mp hy,pz] at h;cases h
        ·intro q hq;rcases aG.mp hq with h|h
         ·exact⟨(nJ q h).1,(nJ q h).2.1,fun h=>by cases h⟩
         ·rw[aq.mp h];exact⟨fq',QP,fun h=>by cases h⟩
      ·refine gu (ae (fun z=>c2 (uG.mp z))) ?_;rw[WS c1 c2 e2,bc];refine⟨_,Z,L.h,_,L.dx,_,_,Z,jm.ins,T.kc,T.qj,Z,.inl ⟨Z,_,fS.of hb.1⟩,_,Z,p,_,_,Z,Z,hb.1,iV (by rw[ac];omega),?_⟩;have npq:p≠q1:=fun h=>xA (by rw[h])
       have o4:gF [p] H2 (fN H2 p (.lst (z.map nV++[nV c]))):=gF.refl.put (by simp);refine⟨_,some p,ts,qs,Z,?_,l9.put,⟨?_,?_⟩,qS,xA,?_,m6.keep o4 ?_ ?_,nJ⟩
       ·rcases qS p Z with h|h
        ·exact o2.put h
        ·exact o2.new h
       ·show(fN H2 p _) L.h=_;rw[fU hb.2.symm];exact jm.ins
       ·refine⟨?_,hb.2⟩;rw[fP,ao];rfl
       ·rw[fU npq.symm];exact g2
       ·intro q hq h;exact(nJ q hq).2.2 (by rw[aq.mp h])
       ·intro y hy xs h;rw[aq.mp hy,hb.1] at h;cases h
  ·rintro σ H2 ⟨v3,lb,ts,qs,rfl,o2,l9,jm,qS,xA,g2,m6,nJ⟩;rw[ac,aT] at jm m6;exact⟨_,Z,hq H2 lb q1 ts qs o2 l9 jm qS n1 g2 m6 (Na n e l)⟩
end
theorem Gm{α:Type}(x:α)(k:Nat):(List.replicate k [x]).flatten=List.replicate k x:=by
 induction k with
 |zero=>rfl
 |succ k ih=>rw[bN,cu,ih,bN];rfl
theorem N2(l:List Bool)(k:Nat)(z:Int)(hz:z=(l.length:Int)-(k:Int)-1):(decide (0<=z)&&l.reverse.getD z.toNat false)=l[k]?.getD false:=by
 subst hz
 by_cases h:k<l.length
 ·rw[ai (by omega),dQ,aE,show((l.length:Int)-(k:Int)-1).toNat=l.length-1-k by omega,b6 (by omega),show l.length-1-(l.length-1-k)=k by omega]
 ·rw[ae (by omega),cV,bA (by omega)];rfl
def YV(AA:gv):Sp:=fun vs H Q _=>∃(L:lm) (b:Book),vs=[.ref L.s]/\lY AA H L b/\nX b/\∀(H':Hp) (p:Addr),fR H H'->H p=none->H' p=some (.lst ((worst b).map nV))->Q (.ref p) H'
def Z2(AA:gv)(K:PySem.W.Frag):Sp:=fun vs H Q _=>∃(L:lm) (b:Book) (a:Addr) (l:List Nat),vs=[.ref L.s,.ref a]/\lY AA H L b/\fS K H a (l.map nV)/\l.length<=1000/\
 ∀(H':Hp) (p:Addr),fR H H'->H p=none->H' p=some (.lst [nV (play b l).most,nV (play b l).shut,nV (play b l).now])->Q (.ref p) H'
theorem Mv(b:Book)(l:List Nat)(y:Nat):play b (l++[y])=playOne b (play b l) y:=by unfold play;rw[bY];rfl
theorem X2(b:Book)(l:List Nat):(play b l).busy.length=l.length:=by
 refine snocInd (P:=fun l=>(play b l).busy.length=l.length) Z (fun l x ih=> ?_) l;rw[Mv];show(_::(play b l).busy).length=_;rw[aj,ih,ag];rfl
section
variable {P:Program} {w:World} {K:PySem.W.Frag} {mg:Str->Option Value} {base:Heap} {AA:gv}
theorem Uf:gQ ["settings","greatest","unseen","rising"] ["settings"] (gM (fY 24)):=gY (by decide+kernel)
theorem Ug(T:Tx P w K mg AA):gL P w K mg base gU 2 AA.K0 AA.K1 ["settings"] (YV AA):=by
 have ua:=zR (base:=base) T;have SC:=Uf;refine T.An.fn.ok SC (fun vs H Q E h=> ?_) (fun gz A outer s H vs Q E hr h=> ?_)
 ·obtain⟨L,b,rfl,_⟩:=h;rfl
 ·obtain⟨L,b,rfl,hS,hB,hq⟩:=h
  refine⟨_,(fT (gm (i:=1) SC.nd Z (Or.inl Z) (ie ua (hr.mono (by decide)) Z T.nM.mg T.nM.fn.kp T.nM.b .nil gH (fO (gW iM (by rfl) T.len aF (fO (gf (pv 0) Z) fQ)) fQ)))
   (fT (gZ (ip jv (pv 1) (gf (pv 0) Z) (ij _))
     (fW (gD (gJ (fO (pv 1) fQ))))
     ic)
   (fT (gm (i:=2) SC.nd Z (Or.inl Z) (gB Ba (gJ (fO (pv 1) fQ)) (gB jh (gB jh (gf (pv 0) Z) (gf (pv 0) Z)) fX)))
   (fT (gZ (ip jv (gf (pv 0) Z) (pv 1) (ij _))
     (fW (gD (gB j3 (gJ (fO (gf (pv 0) Z) fQ)) (pv 2))))
     ic)
   (fT (gm (i:=3) SC.nd Z (Or.inl Z) (gB Ba (gJ (fO (gB jh (gf (pv 0) Z) fX) fQ)) (gB jL (gf (pv 0) Z) (pv 1))))
   (fW (gD (gB j3 (gB j3 (gJ (fO (pv 1) fQ)) (pv 3)) (pv 2))))))))),?_⟩
  have iD:=hS.iD;have kI:(L.cs.map V.ref).length=b.channels.length:=by rw[ac];exact hS.mw.1
  refine⟨_,Z,L.s,_,L.dx,_,_,Z,hS.ins,T.io,T.nK,Z,L.lc,_,Z,.inl (fS.of hS.mv),b.channels.length,by rw[kI];rfl,by omega,?_⟩;have hw:worst b=(let y:=yieldMost b.channels.length;if y<=rate b then[y] else(if high b<=y then[high b] else y::List.replicate (high b-y) (rate b+1))++List.replicate (loop b+1) y):=rfl;simp only at hw;generalize hY:yieldMost b.channels.length=y at hw;have hB1:=hB.ah;have xf:=hB.de;have Il:=hB.hi;have hB4:=hB.rt;refine⟨_,Z,_,Z,L.s,_,L.dx,_,_,Z,hS.ins,T.io,T.qW,Z,_,_,Z,Z,_,Z,?_⟩
  by_cases c:y<=rate b
  ·refine gc (ai (by show(y:Int)<=(rate b:Int);omega)) ?_;rw[aw c] at hw;refine⟨_,Z,fZ (by simp),fun q1 n1=> ?_⟩;exact hq _ q1 (fR.new n1) n1 (by rw[fP,hw];rfl)
  ·refine gu (ae (by show¬(y:Int)<=(rate b:Int);omega)) ?_;rw[am c] at hw;refine⟨_,Z,fZ (by simp),fun q1 n1=> ?_⟩;have pC:=hS.same (fR.new (o:=.lst [V.int (y:Int)]) n1);refine⟨_,Z,L.s,_,L.dx,_,_,Z,pC.ins,T.io,T.t5,Z,_,Z,L.s,_,L.dx,_,_,Z,pC.ins,T.io,T.vG,Z,_,_,Z,Z,_,_,Z,Z,q1,_,_,Z,Z,fP,by omega,by omega,fZ (by simp;omega),fun q2 n2=> ?_⟩;rw[Gm,show((ahead b:Int)+(delayOf b:Int)+1).toNat=loop b+1 by unfold loop;omega];have s2:fR H (fN (fN H q1 (.lst [V.int (y:Int)])) q2 (.lst (List.replicate (loop b+1) (V.int (y:Int))))):=(fR.new n1).more n2;have g2:(fN (fN H q1 (.lst [V.int (y:Int)])) q2 (.lst (List.replicate (loop b+1) (V.int (y:Int))))) q2=some (.lst ((List.replicate (loop b+1) y).map nV)):=by rw[fP,List.map_replicate];rfl
   show jS _ _ _ _ (fN (fN H q1 (.lst [V.int (y:Int)])) q2 (.lst (List.replicate (loop b+1) (V.int (y:Int)))));generalize fN (fN H q1 (.lst [V.int (y:Int)])) q2 (.lst (List.replicate (loop b+1) (V.int (y:Int))))=H2 at s2 g2;have Jc:=hS.same s2;refine⟨_,Z,L.s,_,L.dx,_,_,Z,Jc.ins,T.io,T.tX,Z,_,Z,_,_,Z,Z,_,Z,?_⟩
   by_cases c2:high b<=y
   ·refine gc (ai (by show(high b:Int)<=(y:Int);omega)) ?_;rw[aw c2] at hw;refine⟨_,Z,L.s,_,L.dx,_,_,Z,Jc.ins,T.io,T.tX,Z,fZ (by simp),fun q3 n3=> ?_⟩;have qa:=gh g2 n3;refine⟨_,Z,q3,q2,_,_,Z,Z,fP,(by rw[fU qa];exact g2),fZ (by simp;unfold loop;omega),fun q4 n4=> ?_⟩;have s4:=(s2.more (o:=.lst [V.int (high b:Int)]) n3);refine hq _ q4 (s4.more n4) (s4.free n4) ?_;rw[fP,hw,ao];rfl
   ·refine gu (ae (by show¬(high b:Int)<=(y:Int);omega)) ?_;rw[am c2] at hw;refine⟨_,Z,L.s,_,L.dx,_,_,Z,Jc.ins,T.io,T.qW,Z,_,_,Z,Z,fZ (by simp),fun q3 n3=> ?_⟩;have oA:=hS.same (s2.more (o:=.lst [V.int ((rate b:Int)+1)]) n3);have qa:=gh g2 n3;refine⟨_,Z,L.s,_,L.dx,_,_,Z,oA.ins,T.io,T.tX,Z,_,Z,_,_,Z,Z,q3,_,_,Z,Z,fP,by omega,by omega,fZ (by simp;omega),fun q4 n4=> ?_⟩;rw[Gm,show((high b:Int)-(y:Int)).toNat=high b-y by omega];have s4:=(s2.more (o:=.lst [V.int ((rate b:Int)+1)]) n3).more (o:=.lst (List.replicate (high b-y) (V.int ((rate b:Int)+1)))) n4;have pz:(fN H2 q3 (.lst [V.int ((rate b:Int)+1)])) q2=some (.lst ((List.replicate (loop b+1) y).map nV)):=by rw[fU qa];exact g2
    have zh:=gh pz n4;have qc:(fN (fN H2 q3 (.lst [V.int ((rate b:Int)+1)])) q4 (.lst (List.replicate (high b-y) (V.int ((rate b:Int)+1))))) q2=some (.lst ((List.replicate (loop b+1) y).map nV)):=by rw[fU zh];exact pz
    have Jd:(fN (fN H2 q3 (.lst [V.int ((rate b:Int)+1)])) q4 (.lst (List.replicate (high b-y) (V.int ((rate b:Int)+1))))) q4=some (.lst ((List.replicate (high b-y) (rate b+1)).map nV)):=by rw[fP,List.map_replicate];rfl
    generalize fN (fN H2 q3 (.lst [V.int ((rate b:Int)+1)])) q4 (.lst (List.replicate (high b-y) (V.int ((rate b:Int)+1))))=H4 at s4 qc Jd;refine⟨_,Z,fZ (by simp),fun q5 n5=> ?_⟩;have Ii:=gh Jd n5;have Im:=gh qc n5;refine⟨_,Z,q5,q4,_,_,Z,Z,fP,(by rw[fU Ii];exact Jd),fZ (by simp;omega),fun q6 n6=> ?_⟩;have tK:(fN H4 q5 (.lst [V.int (y:Int)])) q2=some (.lst ((List.replicate (loop b+1) y).map nV)):=by rw[fU Im];exact qc
    have n26:=gh tK n6;refine⟨_,Z,q6,q2,_,_,Z,Z,fP,(by rw[fU n26];exact tK),fZ (by simp;unfold loop;omega),fun q7 n7=> ?_⟩;have s6:=(s4.more (o:=.lst [V.int (y:Int)]) n5).more (o:=.lst ([V.int (y:Int)]++(List.replicate (high b-y) (rate b+1)).map nV)) n6;refine hq _ q7 (s6.more n7) (s6.free n7) ?_;rw[fP,hw,ao,aB];rfl
theorem U1:gQ ["settings","yields","late","waiting","most","busies","stopped","now","coming"] ["settings","yields"] (gM (fY 25)):=gY (by decide+kernel)
theorem U2(T:Tx P w K mg AA):gL P w K mg base gU 2 AA.LB AA.LC ["settings","yields"] (Z2 AA K):=by
 have vH:=DM (base:=base) T;have Dx:=JP (base:=base) T;have SC:=U1;refine T.AD.fn.ok SC (fun vs H Q E h=> ?_) (fun gz A outer s H vs Q E hr h=> ?_)
 ·obtain⟨L,b,a,l,rfl,_⟩:=h;rfl
 ·obtain⟨L,b,a,l,rfl,hS,hA,hl,hq⟩:=h
  refine⟨_,(fT (gm (i:=2) SC.nd Z (Or.inl Z) (gB jh (gB jh (gf (pv 0) Z) (gf (pv 0) Z)) fX))
   (fT (gm (i:=3) SC.nd Z (Or.inl Z) fX)
   (fT (gm (i:=4) SC.nd Z (Or.inl Z) fX)
   (fT (gm (i:=5) SC.nd Z (Or.inl Z) (gJ fQ))
   (fT (gm (i:=6) SC.nd Z (Or.inl Z) fX)
   (fT (lG bg Z (yh Z T.enumerate (fO (pv 1) fQ)) (rf Z (lT (iJ (i:=7) SC.nd Z (Or.inl Z)) (lT (iJ (i:=8) SC.nd Z (Or.inl Z)) qZ)))
     (fT (vW (i:=3) SC.nd Z (Or.inl Z) (gW (Fe Z) (by rfl) T.min boot_min (fO (gf (pv 0) Z) (fO (pv 3) fQ))) Zi)
     (fT (gZ (ip nk (ie vH (hr.mono (by decide)) Z T.nL.mg T.nL.fn.kp T.nL.b .nil gH (fO (pv 5) (fO (gB jL (pv 7) (pv 2)) fQ))) fX (ij _))
       (fW (vW (i:=6) SC.nd Z (Or.inl Z) fX A5))
       (fW (vW (i:=3) SC.nd Z (Or.inl Z) (pv 8) A5)))
     (fT (iS (iU ax aI aL kF (pv 5) (fO (ie Dx (hr.mono (by decide)) Z T.t8.mg T.t8.fn.kp T.t8.b .nil gH (fO (pv 0) (fO (pv 3) (fO (ie vH (hr.mono (by decide)) Z T.nL.mg T.nL.fn.kp T.nL.b .nil gH (fO (pv 5) (fO (gB jL (pv 7) fX) fQ))) fQ)))) fQ)))
     (fW (gm (i:=4) SC.nd Z (Or.inl Z) (gW (r9 Z) (by rfl) T.max fC (fO (pv 4) (fO (pv 3) fQ)))))))))
   (fW (gD (gJ (fO (pv 4) (fO (pv 6) (fO (pv 3) fQ)))))))))))),?_⟩
  refine⟨_,Z,L.s,_,L.dx,_,_,Z,hS.ins,T.io,T.t5,Z,_,Z,L.s,_,L.dx,_,_,Z,hS.ins,T.io,T.vG,Z,_,_,Z,Z,_,_,Z,Z,?_⟩;refine⟨aN _,fun q1 n1=> ?_⟩;have s1:fR H (fN H q1 (.lst [])):=fR.new n1
  refine⟨_,Z,a,_,Z,s1.seq hA,AJ (K:=K) (a:=a) (xs:=l.map nV) (fun i σ H'=>∃v7 v8,σ=[some (.ref L.s),some (.ref a),some (.int ((ahead b:Int)+(delayOf b:Int)+1)),some (nV (play b (l.take i)).now),some (nV (play b (l.take i)).most),some (.ref q1),some (nV (play b (l.take i)).shut),v7,v8]/\fR H H'/\H' q1=some (.lst ((play b (l.take i)).busy.reverse.map bV)))
   ⟨none,none,Z,s1,fP⟩ (fun i σ H' _ ⟨_,_,_,s2,_⟩=>s2.seq hA) ?_ ?_⟩
  ·rintro i x p σ H2 hx ⟨v7,v8,rfl,s2,g2⟩ np;obtain⟨y,hy,rfl⟩:=kG hx;have hi:i<l.length:=(ap.mp hy).1;have j7:(play b (l.take i)).busy.length=i:=by rw[X2,aD];omega
   have s3:fR H (fN H2 p (.tup [.int (i:Nat),nV y])):=s2.more np;have nq:=gh g2 np;have g3:(fN H2 p (.tup [.int (i:Nat),nV y])) q1=some (.lst ((play b (l.take i)).busy.reverse.map bV)):=by rw[fU nq];exact g2
   have oy:(fN H2 p (.tup [.int (i:Nat),nV y])) p=some (.tup [.int (i:Nat),nV y]):=fP;generalize fN H2 p (.tup [.int (i:Nat),nV y])=H3 at s3 g3 oy;rw[take_snoc hy,Mv];generalize hp:play b (l.take i)=pl at g3 j7;have oA:=hS.same s3;refine⟨p,_,Z,kg oy,Z,_,_,Z,_,_,Z,Z,?_⟩;refine⟨_,Z,_,Z,L.s,_,L.dx,_,_,Z,oA.ins,T.io,T.qW,Z,_,Z,_,_,Z,_,_,Z,Z,?_⟩;have e1:(pl.now:Int)-(if (pl.now:Int)<(rate b:Int) then(pl.now:Int) else(rate b:Int))=((pl.now-rate b:Nat):Int):=by split<;>omega
   dsimp only;rw[e1];refine⟨_,Z,_,Z,_,Z,_,_,Z,Z,q1,pl.busy.reverse,_,Z,fS.of g3,by rw[cv];omega,Z,_,Z,?_⟩;rw[N2 pl.busy (loop b) _ (by unfold loop;omega)]
   have fin:∀(n sh:Nat),(n:Int)=((pl.now-rate b+(if (pl.busy[loop b]?).getD false=true then 0 else y):Nat):Int)->(sh:Int)=((pl.shut+(if (pl.busy[loop b]?).getD false=true then 1 else 0):Nat):Int)->
    jS (we (u9 K "list" uz (iP 5) (i8 (GZ (NQ AA) [] E0 (i8 (iP 0) (i8 (iP 3) (i8 (GZ (MZ K) [] E0 (i8 (iP 5) (i8 (kA (kY fun i j=>V.int (i-j)) (iP 7) (tC (V.int 1))) jx))) jx)))) jx))) (uS (oh (fun xs H Q=>∃i j,xs=[V.int i,V.int j]/\Q (V.int (if j>i then j else i)) H) (i8 (iP 4) (i8 (iP 3) jx))) (sE 4))
     ⟨fun σ H'=>∃v7 v8,σ=[some (.ref L.s),some (.ref a),some (.int ((ahead b:Int)+(delayOf b:Int)+1)),some (nV (playOne b pl y).now),some (nV (playOne b pl y).most),some (.ref q1),some (nV (playOne b pl y).shut),v7,v8]/\fR H H'/\H' q1=some (.lst ((playOne b pl y).busy.reverse.map bV)),fun _ _=>True,fun _ _=>True,fun _ _=>True⟩
     [some (.ref L.s),some (.ref a),some (.int ((ahead b:Int)+(delayOf b:Int)+1)),some (.int n),some (nV pl.most),some (.ref q1),some (.int sh),some (.int (i:Nat)),some (nV y)] H3:=by
    intro n sh hn Ij;refine⟨_,Z,.inl ⟨Z,_,fS.of g3⟩,_,Z,_,Z,_,Z,_,Z,_,_,Z,Z,q1,pl.busy.reverse,_,Z,fS.of g3,by rw[cv];omega,?_⟩;rw[N2 pl.busy 0 _ (by omega)];refine⟨L,b,n,(pl.busy[0]?).getD false,Z,oA,?_⟩;refine⟨q1,_,_,Z,Z,g3,iV (by rw[ac,cv];omega),?_⟩;refine⟨_,Z,_,Z,_,_,Z,?_⟩;have en:(playOne b pl y).now=n:=by show pl.now-rate b+_=n;omega
    have es:(playOne b pl y).shut=sh:=by show pl.shut+_=sh;omega
    have em:(playOne b pl y).most=max pl.most n:=by show max pl.most (pl.now-rate b+_)=_;rw[<-en];rfl
    have eb:(playOne b pl y).busy=busyNow b ((pl.busy[0]?).getD false) n::pl.busy:=by
     show busyNow b ((pl.busy.head?).getD false) (pl.now-rate b+_)::pl.busy=_;rw[List.head?_eq_getElem?,<-en];rfl
    refine⟨some (.int (i:Nat)),some (nV y),?_,s3.put n1,?_⟩
    ·rw[en,es,em];show[_,_,_,_,some (V.int (if (n:Int)>(pl.most:Int) then(n:Int) else(pl.most:Int))),_,_,_,_]=_;rw[show(if (n:Int)>(pl.most:Int) then(n:Int) else(pl.most:Int))=((max pl.most n:Nat):Int) by split<;>omega];rfl
    ·rw[fP,eb,bX,ao];rfl
   cases c:(pl.busy[loop b]?).getD false with
   |true=>
    refine gc Z ?_;refine⟨_,Z,_,_,Z,Z,?_⟩;have:=fin (pl.now-rate b) (pl.shut+1) (by rw[c];rfl) (by rw[c];rfl);exact this
   |false=>
    refine gu Z ?_;refine⟨_,Z,_,Z,_,_,Z,Z,?_⟩;have:=fin (pl.now-rate b+y) pl.shut (by rw[c];rfl) (by rw[c];rfl);exact this
  ·rintro σ H2 ⟨v7,v8,rfl,s2,g2⟩;rw[ac,aT];refine⟨_,Z,_,Z,_,Z,fZ (by simp),fun q2 n2=> ?_⟩;exact hq _ q2 (s2.more n2) (s2.free n2) fP
end
def WT(K:PySem.W.Frag):Sp:=fun vs H Q _=>∃(a:Addr) (l:List Bool),vs=[.ref a]/\fS K H a (l.map V.bl)/\l.length<=1000/\∀(H':Hp) (p:Addr),fR H H'->H p=none->H' p=some (.lst ((spansTold (stretches l)).map V.int))->Q (.ref p) H'
def aaL:Sp:=fun vs H Q _=>∃n k:Nat,vs=[.int n,.int k]/\1<=k/\n<=1000/\k<=1000/\∀p,H p=none->Q (.ref p) (fN H p (.lst [nV (n/Nat.gcd n k),nV (k/Nat.gcd n k)]))
theorem Gn(l:List Bool):(kd ([],false) 0 l).1.length<=l.length:=by
 refine snocInd (P:=fun l=>(kd ([],false) 0 l).1.length<=l.length) (aA _) (fun l x ih=> ?_) l;rw[zV,ag];unfold pL;split
 ·simp only[aj,aZ];omega
 ·simp only[ag,aj,aZ];omega
section
variable {P:Program} {w:World} {K:PySem.W.Frag} {mg:Str->Option Value} {base:Heap} {AA:gv}
theorem SA:gQ ["marks","edges","inside","place","mark"] ["marks"] (gM (fY 68)):=gY (by decide+kernel)
theorem Dy(T:Tx P w K mg AA):gL P w K mg base gU 1 AA.J2 AA.J3 ["marks"] (WT K):=by
 have SC:=SA;refine T.ql.fn.ok SC (fun vs H Q E h=> ?_) (fun gz A outer s H vs Q E hr h=> ?_)
 ·obtain⟨a,l,rfl,_⟩:=h;rfl
 ·obtain⟨a,l,rfl,hA,hl,hq⟩:=h
  refine⟨_,(fT (gm (i:=1) SC.nd Z (Or.inl Z) (gJ fQ))
   (fT (gm (i:=2) SC.nd Z (Or.inl Z) Oq)
   (fT (lG bg Z (yh Z T.enumerate (fO (pv 0) fQ)) (rf Z (lT (iJ (i:=3) SC.nd Z (Or.inl Z)) (lT (iJ (i:=4) SC.nd Z (Or.inl Z)) qZ)))
     (fW (gZ (ip rg (pv 4) (pv 2) (ij _))
       (fT (iS (iU ax aI aL kF (pv 1) (fO (pv 3) fQ)))
       (fW (gm (i:=2) SC.nd Z (Or.inl Z) (pv 4))))
       ic)))
   (fT (gZ (lU (pv 2))
     (fW (iS (iU ax aI aL kF (pv 1) (fO (gW iM (by rfl) T.len aF (fO (pv 0) fQ)) fQ))))
     ic)
   (fW (gD (gB j3 (gJ (fO (gB vS (gW iM (by rfl) T.len aF (fO (pv 1) fQ)) fX) fQ)) (pv 1)))))))),?_⟩
  refine⟨aN _,fun q1 n1=> ?_⟩;have s1:fR H (fN H q1 (.lst [])):=fR.new n1
  refine⟨_,Z,a,_,Z,s1.seq hA,AJ (K:=K) (a:=a) (xs:=l.map V.bl) (fun i σ H'=>∃v3 v4,σ=[some (.ref a),some (.ref q1),some (.bl (kd ([],false) 0 (l.take i)).2),v3,v4]/\fR H H'/\H' q1=some (.lst ((kd ([],false) 0 (l.take i)).1.map nV)))
   ⟨none,none,Z,s1,fP⟩ (fun i σ H' _ ⟨_,_,_,s2,_⟩=>s2.seq hA) ?_ ?_⟩
  ·rintro i x p σ H2 hx ⟨v3,v4,rfl,s2,g2⟩ np;obtain⟨y,hy,rfl⟩:=kG hx;have hi:i<l.length:=(ap.mp hy).1;have j7:(l.take i).length=i:=by rw[aD];omega
   have s3:fR H (fN H2 p (.tup [.int (i:Nat),.bl y])):=s2.more np;have nq:=gh g2 np;have g3:(fN H2 p (.tup [.int (i:Nat),.bl y])) q1=some (.lst ((kd ([],false) 0 (l.take i)).1.map nV)):=by rw[fU nq];exact g2
   have oy:(fN H2 p (.tup [.int (i:Nat),.bl y])) p=some (.tup [.int (i:Nat),.bl y]):=fP;generalize fN H2 p (.tup [.int (i:Nat),.bl y])=H3 at s3 g3 oy;have rD:=Gn (l.take i);rw[take_snoc hy,zV,j7,dF];generalize kd ([],false) 0 (l.take i)=st at g3 rD;refine⟨p,_,Z,kg oy,Z,_,_,Z,_,_,Z,Z,?_⟩;refine⟨_,Z,_,Z,Z,_,Z,?_⟩;unfold pL
   by_cases c:y=st.2
   ·refine gu (by rw[c];simp) ?_;rw[aw c];exact⟨_,_,Z,s3,g3⟩
   ·refine gc (by simpa using c) ?_;rw[am c];refine⟨_,Z,.inl ⟨Z,_,fS.of g3⟩,_,Z,q1,_,_,Z,Z,g3,iV (by rw[ac];omega),?_⟩;refine⟨_,Z,?_⟩;refine⟨some (.int (i:Nat)),some (.bl y),Z,s3.put n1,?_⟩;rw[fP,ao];rfl
  ·rintro σ H2 ⟨v3,v4,rfl,s2,g2⟩;rw[ac,aT] at g2⊢;have rD:=Gn l;have hE:Vbkdaa.spansTold (stretches l)=nat ((sM l).length/2)::(sM l).map nat:=LX l;unfold sM at hE;generalize kd ([],false) 0 l=st at g2 rD hE
   have fin:∀(H3:Hp) (es:List Nat),fR H H3->H3 q1=some (.lst (es.map nV))->es=st.1++(if st.2=true then[l.length] else[])->es.length<=1001->
    wy (kA O1 (yy (i8 (kA (rI OU fun i j=>V.int (i/j)) (oh (fun xs H Q=>∃p ys,xs=[V.ref p]/\(fS K H p ys\/iO K H p ys)/\Q (V.int (ys.length:Nat)) H) (i8 (iP 1) jx)) (tC (V.int 2))) jx)) (iP 1)) ⟨fun _ H'=>Q .gT H',Q,fun _ _=>True,fun _ _=>True⟩ [some (.ref a),some (.ref q1),some (.bl st.2),v3,v4] H3:=by
    intro H3 es s3 g3 he hz;refine⟨_,Z,q1,_,Z,.inl (fS.of g3),_,_,Z,Z,⟨by decide,by decide⟩,fZ (by simp),fun q2 n2=> ?_⟩;have l8:=gh g3 n2;refine⟨_,Z,q2,q1,_,_,Z,Z,fP,(by rw[fU l8];exact g3),fZ (by simp;omega),fun q3 n3=> ?_⟩;have s4:=s3.more (o:=.lst [V.int (((es.map nV).length:Int)/2)]) n2;refine hq _ q3 (s4.more n3) (s4.free n3) ?_;rw[fP,hE,<-he,aB,bE,ac];rfl
   refine⟨_,Z,_,Z,?_⟩;cases c:st.2 with
   |true=>
    refine gc Z ?_;rw[<-c];refine⟨_,Z,.inl ⟨Z,_,fS.of g2⟩,_,Z,a,_,Z,.inl (s2.seq hA),q1,_,_,Z,Z,g2,iV (by rw[ac];omega),?_⟩;refine fin _ (st.1++[l.length]) (s2.put n1) ?_ (by rw[aw c]) (by simp;omega);rw[fP,ao,ac];rfl
   |false=>
    refine gu Z ?_;rw[<-c];exact fin _ st.1 s2 g2 (by rw[c];simp) (by omega)
theorem SB:gQ ["part","whole","common","rest","remainder"] ["part","whole"] (gM (fY 69)):=gY (by decide+kernel)
theorem SD(T:Tx P w K mg AA):gL P w K mg base gU 1 AA.J4 AA.J5 ["part","whole"] aaL:=by
 have SC:=SB;refine T.zU.fn.ok SC (fun vs H Q E h=> ?_) (fun gz A outer s H vs Q E hr h=> ?_)
 ·obtain⟨n,k,rfl,_⟩:=h;rfl
 ·obtain⟨n,k,rfl,hk,hn,Je,hq⟩:=h
  refine⟨_,(fT (gm (i:=2) SC.nd Z (Or.inl Z) (pv 1))
   (fT (gm (i:=3) SC.nd Z (Or.inl Z) (pv 0))
   (fT (MG bg (ip mR (pv 3) fX (ij _))
     (fT (gm (i:=4) SC.nd Z (Or.inl Z) (gB A7 (pv 2) (pv 3)))
     (fT (gm (i:=2) SC.nd Z (Or.inl Z) (pv 3))
     (fW (gm (i:=3) SC.nd Z (Or.inl Z) (pv 4))))))
   (fW (gD (gJ (fO (gB vS (pv 0) (pv 2)) (fO (gB vS (pv 1) (pv 2)) fQ)))))))),?_⟩
  refine⟨_,Z,_,Z,?_⟩
  refine MH (fun σ H'=>∃(c r:Nat) (v4:Option V),σ=[some (.int n),some (.int k),some (.int c),some (.int r),v4]/\H'=H/\1<=c/\c<=1000/\r<=1000/\Nat.gcd r c=Nat.gcd n k) (fun σ _=>match σ with|[_,_,_,some (.int r),_]=>r.toNat|_=>0)
   ⟨k,n,none,Z,Z,hk,Je,hn,Z⟩ ?_ ?_
  ·rintro σ H' ⟨c,r,v4,rfl,rfl,h1,h2,h3,hg⟩;refine⟨_,Z,_,_,Z,Z,_,Z,?_⟩
   by_cases h0:0<r
   ·refine gc (ai (by omega)) ?_;refine⟨_,Z,_,Z,_,_,Z,Z,(by show(0:Int)<(r:Int);omega),?_⟩;refine⟨_,Z,_,Z,?_⟩;refine⟨⟨r,c% r,some (.int ((c% r:Nat):Int)),Z,Z,h0,h3,?_,?_⟩,?_⟩
    ·have:=Nat.mod_lt c h0;omega
    ·rw[<-Nat.gcd_rec];exact hg
    ·show((c% r:Nat):Int).toNat<(r:Int).toNat;have:=Nat.mod_lt c h0;omega
   ·refine gu (ae (by omega)) ?_;have zo:r=0:=by omega
    rw[zo,Nat.gcd_zero_left] at hg;refine⟨_,Z,_,Z,_,_,Z,Z,⟨by show(0:Int)<(c:Int);omega,?_⟩,_,Z,_,Z,_,_,Z,Z,⟨by show(0:Int)<(c:Int);omega,?_⟩,fZ (by simp),fun q1 n1=> ?_⟩
    ·show(c:Int)<1073741824;omega
    ·show(c:Int)<1073741824;omega
    ·have:=hq q1 n1;rw[<-hg] at this;exact this
  ·rintro σ H' Q1 Q2 hm ⟨v,hv,i,j,e1,e2,c,e3,q⟩;exact⟨v,hv,i,j,e1,e2,c,e3,hm _ _ q⟩
end
def pairsOf(ss:List (Option Nat)):List Int:=ss.zipIdx.flatMap fun x=>match x.1 with
 |some n=>[nat (x.2+1),nat n]
 |none=>[]
theorem N3(f:Vbkdaa.Frame):frameTold f=nat f.crossing::nat (keptOf f).length::pairsOf f.samples:=rfl
theorem VH(ss:List (Option Nat))(i:Nat)(y:Option Nat)(h:ss[i]? =some y):pairsOf (ss.take (i+1))=pairsOf (ss.take i)++(match y with|some n=>[nat (i+1),nat n]|none=>[]):=by
 have hi:=(ap.mp h).1;unfold pairsOf;rw[take_snoc h,List.zipIdx_append,bO,aD,cx (by omega)];simp;cases y<;>rfl
theorem pairs_len(ss:List (Option Nat)):(pairsOf ss).length=2*(ss.filterMap fun x=>x).length:=by
 have:∀(ss:List (Option Nat)) (k:Nat),((ss.zipIdx k).flatMap fun x=>(match x.1 with|some n=>[nat (x.2+1),nat n]|none=>[]:List Int)).length=2*(ss.filterMap fun x=>x).length:=by
  intro ss
  induction ss with
  |nil=>intro k;rfl
  |cons y r ih=>
   intro k;rw[List.zipIdx_cons,br,ag,ih];cases y<;>simp<;>omega
 exact this ss 0
def YW(K:PySem.W.Frag):Sp:=fun vs H Q _=>∃(a:Addr) (ss:List (Option Nat)),vs=[.ref a]/\fS K H a (ss.map oV)/\ss.length<=8/\
 ∀(H':Hp) (p:Addr),fR H H'->H p=none->H' p=some (.lst ((nat (ss.filterMap fun x=>x).length::pairsOf ss).map V.int))->Q (.ref p) H'
section
variable {P:Program} {w:World} {K:PySem.W.Frag} {mg:Str->Option Value} {base:Heap} {AA:gv}
theorem Sg:gQ ["samples","pairs","channel","sample"] ["samples"] (gM (fY 70)):=gY (by decide+kernel)
theorem Sh(T:Tx P w K mg AA):gL P w K mg base gU 1 AA.JV AA.JW ["samples"] (YW K):=by
 have SC:=Sg;refine T.zN.fn.ok SC (fun vs H Q E h=> ?_) (fun gz A outer s H vs Q E hr h=> ?_)
 ·obtain⟨a,ss,rfl,_⟩:=h;rfl
 ·obtain⟨a,ss,rfl,hA,hl,hq⟩:=h
  refine⟨_,(fT (gm (i:=1) SC.nd Z (Or.inl Z) (gJ fQ))
   (fT (lG bg Z (Xd Z T.enumerate (fO (pv 0) fQ) (yf fX ym)) (rf Z (lT (iJ (i:=2) SC.nd Z (Or.inl Z)) (lT (iJ (i:=3) SC.nd Z (Or.inl Z)) qZ)))
     (fW (gZ (qv (Gq (pv 3)))
       (fW (iS (iU ax a0 a5 m7 (pv 1) (fO (gJ (fO (pv 2) (fO (pv 3) fQ))) fQ))))
       ic)))
   (fW (gD (gB j3 (gJ (fO (gB vS (gW iM (by rfl) T.len aF (fO (pv 1) fQ)) fX) fQ)) (pv 1)))))),?_⟩
  have Pk:∀i,(pairsOf (ss.take i)).length<=16:=fun i=>by
   rw[pairs_len];have:=cf (fun x=>x) (ss.take i);rw[aD] at this;omega
  refine⟨aN _,fun q1 n1=> ?_⟩;have s1:fR H (fN H q1 (.lst [])):=fR.new n1
  refine⟨_,Z,a,_,Z,Z,s1.seq hA,NE (sq:=fun H xs=>fS K H a xs) (xs:=ss.map oV) (fun i σ H'=>∃v2 v3,σ=[some (.ref a),some (.ref q1),v2,v3]/\fR H H'/\H' q1=some (.lst ((pairsOf (ss.take i)).map V.int)))
   ⟨none,none,Z,s1,fP⟩ (fun i σ H' _ ⟨_,_,_,s2,_⟩=>s2.seq hA) ?_ ?_⟩
  ·rintro i x p σ H2 hx ⟨v2,v3,rfl,s2,g2⟩ np;obtain⟨y,hy,rfl⟩:=kG hx;have s3:fR H (fN H2 p (.tup [.int ((i+1:Nat):Int),oV y])):=s2.more np;have nq:=gh g2 np;have g3:(fN H2 p (.tup [.int ((i+1:Nat):Int),oV y])) q1=some (.lst ((pairsOf (ss.take i)).map V.int)):=by rw[fU nq];exact g2
   have oy:(fN H2 p (.tup [.int ((i+1:Nat):Int),oV y])) p=some (.tup [.int ((i+1:Nat):Int),oV y]):=fP;generalize fN H2 p (.tup [.int ((i+1:Nat):Int),oV y])=H3 at s3 g3 oy;refine⟨p,_,Z,kg oy,Z,_,_,Z,_,_,Z,Z,?_⟩;rw[VH ss i y hy];refine⟨_,Z,_,Z,?_⟩;cases y with
   |none=>
    refine gu Z ?_;rw[bc];exact⟨_,_,Z,s3,g3⟩
   |some n=>
    refine gc Z ?_;refine⟨_,Z,.inl ⟨Z,_,fS.of g3⟩,_,Z,_,Z,fZ (by simp),fun q4 n4=> ?_⟩;have mZ:=gh g3 n4;refine⟨q1,q4,_,_,Z,Z,(by rw[fU mZ];exact g3),fP,fZ (by have:=Pk i;simp;omega),?_⟩;refine⟨some (.int ((i+1:Nat):Int)),some (nV n),Z,(s3.more n4).put n1,?_⟩;rw[fP,ao];rfl
  ·rintro σ H2 ⟨v2,v3,rfl,s2,g2⟩;have jq:=Pk ss.length;rw[ac,aT] at g2;rw[aT] at jq;refine⟨_,Z,q1,_,Z,.inl (fS.of g2),_,_,Z,Z,⟨by decide,by decide⟩,fZ (by simp),fun q2 n2=> ?_⟩;have l8:=gh g2 n2;refine⟨_,Z,q2,q1,_,_,Z,Z,fP,(by rw[fU l8];exact g2),fZ (by simp;omega),fun q3 n3=> ?_⟩;have s4:=s2.more (o:=.lst [V.int ((((pairsOf ss).map V.int).length:Int)/2)]) n2;refine hq _ q3 (s4.more n3) (s4.free n3) ?_;have e:((((pairsOf ss).map V.int).length:Int)/2)=nat (ss.filterMap fun x=>x).length:=by rw[ac,pairs_len];unfold nat;omega
   show fN _ q3 (.lst ([V.int ((((pairsOf ss).map V.int).length:Int)/2)]++(pairsOf ss).map V.int)) q3=_;rw[fP,e];rfl
end
structure iz where
 f:Addr
 dx:Addr
 R:gO
 E:jP
def iz.mut(F:iz):List Addr:=F.f::(F.R.mut++F.E.mut)
def iz.deep(F:iz):List Addr:=F.R.rows++F.R.gE++F.R.gP++F.R.S.fp
def qT(F:iz):List (Str×V):=[("readout",.ref F.R.r),("hearing",.ref F.E.h)]
structure jf(AA:gv)(H:Hp)(F:iz)(s:State)(m:RS)(c:Nat):Prop where
 ins:H F.f=some (.ins AA.j9 F.dx (qT F))
 rd:ik AA H F.R s.book m
 gd:Good s.book m s.front
 ea:kz AA H F.E s.book.channels.length s.ear
 nd:F.mut.Nodup
 sep:∀a∈F.deep,a∉F.mut
 el:(s.ear.inside.getD []).length<=400*c
theorem jf.lM{AA:gv}{H:Hp}{F:iz}{s:State}{m:RS}{c:Nat}(h:jf AA H F s m c):∀y∈F.mut,(H y).isSome=true:=by
 intro y hy;rcases az.mp hy with rfl|hy
 ·rw[h.ins];rfl
 ·rcases aG.mp hy with hy|hy
  ·exact h.rd.lM y hy
  ·exact h.ea.lM y hy
theorem jf.keep{AA:gv}{H H':Hp}{F:iz}{s:State}{m:RS}{c:Nat}{ys:List Addr}(h:jf AA H F s m c)(o:gF ys H H')(n1:∀a∈F.mut,a∉ys)(n2:∀a∈F.deep,a∉ys)(n3:∀y∈ys,∀xs,H y≠some (.tup xs)):jf AA H' F s m c where
 ins:=o _ _ h.ins (n1 _ (by simp[iz.mut]))
 rd:=h.rd.keep o (fun a ha=>n1 a (by simp[iz.mut,ha])) n2 n3
 gd:=h.gd
 ea:=h.ea.keep o (fun a ha=>n1 a (by simp[iz.mut,ha]))
 nd:=h.nd
 sep:=h.sep
 el:=h.el
theorem jf.same{AA:gv}{H H':Hp}{F:iz}{s:State}{m:RS}{c:Nat}(h:jf AA H F s m c)(e:fR H H'):jf AA H' F s m c:=h.keep (ys:=[]) e.own (fun _ _ z=>by cases z) (fun _ _ z=>by cases z) (fun _ z=>by cases z)
theorem jf.later{AA:gv}{H:Hp}{F:iz}{s:State}{m:RS}{c:Nat}(h:jf AA H F s m c):jf AA H F s m (c+1):=⟨h.ins,h.rd,h.gd,h.ea,h.nd,h.sep,by have:=h.el;omega⟩
def iF(p:Int)(Bk:Bool)(ns row:List Int):List (List Int):=if Bk=true then[p::ns,row] else[p::ns]
def kE(AA:gv)(p:Int)(Bk:Bool)(k:Nat):Sp:=fun vs H Q _=>∃(F:iz) (s:State) (m:RS) (c:Nat) (an ar:Addr) (ns row:List Int),vs=[.ref F.f,.ref an,.ref ar]/\jf AA H F s m c/\c<120/\H an=some (.lst (ns.map V.int))/\H ar=some (.lst (row.map V.int))/\an∉F.mut/\ar∉F.mut/\ns.length=k/\row.length<=1100/\
 ∀(H':Hp) (F':iz) (m':RS) (q:Addr),F'.f=F.f->gF F.mut H H'->j1 H H'->jf AA H' F' (stepNumbers s (iF p Bk ns row)).1 m' (c+1)->(∀a∈F'.mut,a∈F.mut\/H a=none)->(∀a∈F'.deep,a∈F.deep\/a=ar\/H a=none)->H' q=some (.lst ((stepNumbers s (iF p Bk ns row)).2.map V.int))->H q=none->Q (.ref q) H'
theorem iR{AA:gv}{ar:Addr}{H:Hp}{F:iz}{s:State}{m:RS}{c:Nat}{Q:VK}{call:List (List Int)}{QQ:List Int}(h:jf AA H F s m c)(e:stepNumbers s call=(s,QQ))
 (hq:∀(H':Hp) (F':iz) (m':RS) (q:Addr),F'.f=F.f->gF F.mut H H'->j1 H H'->jf AA H' F' (stepNumbers s call).1 m' (c+1)->(∀a∈F'.mut,a∈F.mut\/H a=none)->(∀a∈F'.deep,a∈F.deep\/a=ar\/H a=none)->H' q=some (.lst ((stepNumbers s call).2.map V.int))->H q=none->Q (.ref q) H'):
 ∀(H':Hp) (q:Addr),fR H H'->H' q=some (.lst (QQ.map V.int))->H q=none->Q (.ref q) H':=fun H' q sm g fr=>by
 refine hq H' F m q Z sm.own sm.grow ?_ (fun a ha=>.inl ha) (fun a ha=>.inl ha) ?_ fr
 ·rw[e];exact(h.same sm).later
 ·rw[e];exact g
theorem oC{s:State}{call:List (List Int)}(h:decode call=none):stepNumbers s call=(s,[-1]):=by unfold stepNumbers;rw[h]
theorem jb{s:State}{call:List (List Int)}{x:Vbkdaa.Call}(h:decode call=some x):stepNumbers s call=Vbkdaa.step s x:=by unfold stepNumbers;rw[h]
theorem kS{s t:State}{x:Vbkdaa.Call}{l:List Int}(h:Vbkdaa.does s x=.ok (t,l)):Vbkdaa.step s x=(t,0::l):=by unfold Vbkdaa.step;rw[h]
theorem nS{s:State}{x:Vbkdaa.Call}{e:Int}(h:Vbkdaa.does s x=.error e):Vbkdaa.step s x=(s,[e]):=by unfold Vbkdaa.step;rw[h]
theorem oJ{b:Bool}{x:Vbkdaa.Call}(h:b=true):Vbkdaa.guard b x=some x:=by unfold Vbkdaa.guard;rw[aw h]
theorem oK{b:Bool}{x:Vbkdaa.Call}(h:b=false):Vbkdaa.guard b x=none:=by unfold Vbkdaa.guard;rw[h];rfl
theorem ya(l:List Nat):l.map nV=(l.map Vbkdaa.nat).map V.int:=by rw[bE];rfl
def Z3(K:PySem.W.Frag):Sp:=fun vs H Q _=>∃(a:Addr) (row:List Int) (lo:Nat) (hi:Int),vs=[.ref a,.int lo,.int hi]/\fS K H a (row.map V.int)/\row.length<=100000/\∀H',fR H H'->Q (.bl (decide (row.length<=lo)&&row.all fun n=>inside_ n 0 hi)) H'
def Z4(K:PySem.W.Frag):Sp:=fun vs H Q _=>∃(a:Addr) (row:List Int),vs=[.ref a]/\fS K H a (row.map V.int)/\row.length<=100000/\∀H',fR H H'->Q (.bl (Vbkdaa.areSamples row)) H'
def YX(AA:gv)(K:PySem.W.Frag):Sp:=fun vs H Q _=>∃(L:gO) (b:Book) (m:RS) (k:Int) (a:Addr) (row:List Int),vs=[.ref L.r,.int k,.ref a]/\ik AA H L b m/\lQ b m/\fS K H a (row.map V.int)/\row.length<=100000/\
 Q (.int (if row.length≠b.channels.length then-6 else if 400<(m.gC.length:Int)+k then-4 else 0)) H
def YY(AA:gv):Sp:=fun vs H Q _=>∃(L:gO) (b:Book) (m:RS) (k:Int),vs=[.ref L.r,.int k]/\ik AA H L b m/\Q (.int (if (1<=k/\k<=8) then(if (b.channels.length:Int)<k then-5 else 0) else-1)) H
section
variable {P:Program} {w:World} {K:PySem.W.Frag} {mg:Str->Option Value} {base:Heap} {AA:gv}
theorem U3:gQ ["row","longest","greatest","number"] ["row","longest","greatest"] (gM (fY 95)):=gY (by decide+kernel)
theorem vJ(T:Tx P w K mg AA):gL P w K mg base gU 1 AA.LI AA.LJ ["row","longest","greatest"] (Z3 K):=by
 have SC:=U3;refine T.lE.fn.ok SC (fun vs H Q E h=> ?_) (fun gz A outer s H vs Q E hr h=> ?_)
 ·obtain⟨a,row,lo,hi,rfl,_⟩:=h;rfl
 ·obtain⟨a,row,lo,hi,rfl,hA,hl,hq⟩:=h;refine⟨_,(fW (gD (GI (su jv (gW iM (by rfl) T.len aF (fO (pv 0) fQ)) (pv 1) (ij _)) (A4 (gW (yn Z) (by rfl) T.all boot_all (fO (mi (own:=[("number",3)]) Z SC.nd (md (pv 0)) (lD (by kernel_rfl)) (fun s H C cl fp=>(iJ (i:=3) SC.nd Z (Or.inl Z) (.inr Z))) (fun s H C cl fp=>me) (fun s H C cl fp=>(MI jv jv fX (pv 3) (pv 2)))) fQ)))))),?_⟩;refine⟨_,Z,a,_,Z,.inl hA,_,Z,_,_,Z,Z,_,Z,?_⟩;rw[ac]
  by_cases c1:row.length<=lo
  ·refine gc (ai (by omega)) ?_;rw[ai c1,dQ] at hq;refine⟨_,Z,a,Z,⟨_,hA⟩,fun q1 n1=> ?_⟩;have s1:∀o,fR H (fN H q1 o):=fun o=>fR.new n1
   refine sw (K:=K) (a:=a) (xs:=row.map V.int) (fun i H'=>H'=fN H q1 (.lst (((row.take i).map fun n=>inside_ n 0 hi).map V.bl))) Z (fun i H' _ e=>by rw[e];exact(s1 _).seq hA) ?_ ?_
   ·rintro i x H' hx rfl;obtain⟨n,hn,rfl⟩:=kG hx;have hi':i<row.length:=(ap.mp hn).1
    have fin:∀z:Bool,z=inside_ n 0 hi->∃acc,(fN H q1 (.lst (((row.take i).map fun n=>inside_ n 0 hi).map V.bl))) q1=some (.lst acc)/\acc.length<sizeLine/\fN (fN H q1 (.lst (((row.take i).map fun n=>inside_ n 0 hi).map V.bl))) q1 (.lst (acc++[V.bl z]))=fN H q1 (.lst (((row.take (i+1)).map fun n=>inside_ n 0 hi).map V.bl)):=by
     intro z hz;refine⟨_,fP,iV (by rw[ac,ac,aD];omega),?_⟩;rw[jo,take_snoc hn,ao,ao,hz];rfl
    refine⟨Z,?_⟩;refine⟨_,Z,_,_,Z,Z,_,Z,?_⟩
    by_cases c2:0<=n
    ·refine gc (ai c2) ?_;refine⟨_,Z,_,_,Z,Z,?_⟩;exact fin _ (by unfold inside_;rw[ai c2];rfl)
    ·refine gu (ae c2) ?_;exact fin false (by unfold inside_;rw[ae c2];rfl)
   ·rintro H' rfl;rw[ac,aT];refine⟨q1,_,Z,fS.of fP,?_⟩;have e:(row.map fun n=>inside_ n 0 hi).all id=row.all fun n=>inside_ n 0 hi:=by rw[dq];rfl
    rw[e];exact hq _ (s1 _)
  ·refine gu (ae (by omega)) ?_;rw[ae c1,cV] at hq;exact hq H fR.kH
theorem S1:gQ ["samples"] ["samples"] (gM (fY 96)):=gY (by decide+kernel)
theorem DO(T:Tx P w K mg AA):gL P w K mg base gU 2 AA.Kf AA.Kg ["samples"] (Z4 K):=by
 have pJ:=vJ (base:=base) T;have SC:=S1;refine T.qm.fn.ok SC (fun vs H Q E h=> ?_) (fun gz A outer s H vs Q E hr h=> ?_)
 ·obtain⟨a,row,rfl,_⟩:=h;rfl
 ·obtain⟨a,row,rfl,hA,hl,hq⟩:=h;refine⟨_,(fW (gD (ie pJ (hr.mono (by decide)) Z T.lE.mg T.lE.fn.kp T.lE.b .nil gH (fO (pv 0) (fO (gA Z T.zQ) (fO (gA Z T.Ss) fQ)))))),?_⟩;exact⟨_,Z,a,row,8,4095,Z,hA,hl,hq⟩
theorem RA:gQ ["readout","often","samples"] ["readout","often","samples"] (gM (fY 97)):=gY (by decide+kernel)
theorem JA(T:Tx P w K mg AA):gL P w K mg base gU 2 AA.JB AA.JC ["readout","often","samples"] (YX AA K):=by
 have qV:=xG (base:=base) T;have SC:=RA;refine T.tY.fn.ok SC (fun vs H Q E h=> ?_) (fun gz A outer s H vs Q E hr h=> ?_)
 ·obtain⟨L,b,m,k,a,row,rfl,_⟩:=h;rfl
 ·obtain⟨L,b,m,k,a,row,rfl,hR,hF,hA,hl,hq⟩:=h
  refine⟨_,(fT (gZ (ip rg (gW iM (by rfl) T.len aF (fO (pv 2) fQ)) (gW iM (by rfl) T.len aF (fO (gf (gf (pv 0) Z) Z) fQ)) (ij _))
   (fW (gD (gA Z T.T5)))
   ic)
   (fT (gZ (ip mR (gB jh (ma (pv 0) T.gI T.xK qV (hr.mono (by decide)) T.xH .nil gH) (pv 1)) (gA Z T.SQ) (ij _))
     (fW (gD (gA Z T.RR)))
     ic)
   (fW (gD fX)))),?_⟩
  have kI:(L.S.cs.map V.ref).length=b.channels.length:=by rw[ac];exact hR.set.mw.1
  refine⟨_,Z,a,_,Z,.inl hA,_,Z,L.r,_,L.dx,_,_,Z,hR.ins,T.gI,T.lz,Z,L.S.s,_,L.S.dx,_,_,Z,hR.set.ins,T.io,T.nK,Z,L.S.lc,_,Z,.inl (fS.of hR.set.mv),Z,_,Z,?_⟩;rw[ac,kI]
  by_cases c1:row.length=b.channels.length
  ·refine gu (by rw[Bool.not_eq_false'];exact ai (by rw[c1])) ?_;rw[am (by simpa using c1)] at hq;refine⟨_,Z,L.r,L.dx,_,Z,hR.ins,Z,L,b,m,Z,hR,hF,_,Z,_,_,Z,Z,_,_,Z,Z,_,Z,?_⟩
   by_cases c2:400<(m.gC.length:Int)+k
   ·refine gc (ai c2) ?_;rw[aw c2] at hq;exact hq
   ·refine gu (ae c2) ?_;rw[am c2] at hq;exact hq
  ·refine gc (by rw[cG];exact ae (fun z=>c1 (by have:=V.int.inj z;omega))) ?_;rw[aw c1] at hq;exact hq
theorem RZ:gQ ["readout","channel"] ["readout","channel"] (gM (fY 98)):=gY (by decide+kernel)
theorem JH(T:Tx P w K mg AA):gL P w K mg base gU 1 AA.JI AA.JJ ["readout","channel"] (YY AA):=by
 have SC:=RZ;refine T.t4.fn.ok SC (fun vs H Q E h=> ?_) (fun gz A outer s H vs Q E hr h=> ?_)
 ·obtain⟨L,b,m,k,rfl,_⟩:=h;rfl
 ·obtain⟨L,b,m,k,rfl,hR,hq⟩:=h
  refine⟨_,(fT (gZ (li (qo jv jv fX (pv 1) (gA Z T.zQ)))
   (fW (gD (gA Z T.pH)))
   ic)
   (fT (gZ (ip mR (pv 1) (gW iM (by rfl) T.len aF (fO (gf (gf (pv 0) Z) Z) fQ)) (ij _))
     (fW (gD (gA Z T.FH)))
     ic)
   (fW (gD fX)))),?_⟩
  have kI:(L.S.cs.map V.ref).length=b.channels.length:=by rw[ac];exact hR.set.mw.1
  refine⟨_,Z,_,_,Z,Z,_,Z,?_⟩
  by_cases c1:1<=k
  ·refine gc (ai c1) ?_;refine⟨_,_,Z,Z,_,Z,?_⟩
   by_cases c2:k<=8
   ·refine gu (by rw[ai c2];rfl) ?_;rw[aw ⟨c1,c2⟩] at hq;refine⟨_,Z,_,Z,L.r,_,L.dx,_,_,Z,hR.ins,T.gI,T.lz,Z,L.S.s,_,L.S.dx,_,_,Z,hR.set.ins,T.io,T.nK,Z,L.S.lc,_,Z,.inl (fS.of hR.set.mv),_,_,Z,Z,_,Z,?_⟩;rw[kI]
    by_cases c3:(b.channels.length:Int)<k
    ·refine gc (ai c3) ?_;rw[aw c3] at hq;exact hq
    ·refine gu (ae c3) ?_;rw[am c3] at hq;exact hq
   ·refine gc (by rw[ae c2];rfl) ?_;rw[am (fun z=>c2 z.2)] at hq;exact hq
  ·refine gu (ae c1) ?_;refine⟨_,Z,?_⟩;refine gc Z ?_;rw[am (fun z=>c1 z.1)] at hq;exact hq
end
theorem WU{b:Book}(h:nX b):(Vbkdaa.worst b).length<=1000:=by
 have l3:=h.hi;have l4:=h.ah;have l5:=h.de;unfold Vbkdaa.worst loop;simp only;split
 ·simp
 ·split
  ·simp;omega
  ·simp;omega
theorem jf.iD{AA:gv}{H:Hp}{F:iz}{s:State}{m:RS}{c:Nat}(h:jf AA H F s m c):lQ s.book m:=h.gd.iD
section
variable {P:Program} {w:World} {K:PySem.W.Frag} {mg:Str->Option Value} {base:Heap} {AA:gv}
theorem Tt:gQ ["front","numbers","row","settings","answer"] ["front","numbers","row"] (gM (fY 121)):=gY (by decide+kernel)
theorem Tu(T:Tx P w K mg AA):gL P w K mg base gU 2 AA.Eb AA.KG ["front","numbers","row"] (kE AA 20 false 0):=by
 have qV:=xG (base:=base) T;have SC:=Tt;refine T.EY.fn.ok SC (fun vs H Q E h=> ?_) (fun gz A outer s H vs Q E hr h=> ?_)
 ·obtain⟨F,st,m,c,an,ar,ns,row,rfl,_⟩:=h;rfl
 ·obtain⟨F,st,m,c,an,ar,ns,row,rfl,hE,hc,hn,i7,ly,jX,hk,jV,hq⟩:=h;obtain rfl:=aM.mp hk;have hq:=iR hE (call:=iF 20 false [] row) ((jb Z).trans (kS Z)) hq
  refine⟨_,(fT (gm (i:=3) SC.nd Z (Or.inl Z) (gf (gf (pv 0) Z) Z))
   (fT (gm (i:=4) SC.nd Z (Or.inl Z) (gJ (fO fX (fO (gW iM (by rfl) T.len aF (fO (gf (pv 3) Z) fQ)) (fO (gf (pv 3) Z) (fO (gf (pv 3) Z) fQ))))))
   (fT (iS (iU ax a0 a5 m7 (pv 4) (fO (gJ (fO (gf (pv 3) Z) (fO (gf (pv 3) Z) (fO (gf (pv 3) Z) (fO (gf (pv 3) Z) fQ))))) fQ)))
   (fT (iS (iU ax a0 a5 m7 (pv 4) (fO (gJ (fO (gf (pv 3) Z) (fO (gf (pv 3) Z) (fO (ma (gf (pv 0) Z) T.gI T.xK qV (hr.mono (by decide)) T.xH .nil gH) fQ)))) fQ)))
   (fW (gD (pv 4))))))),?_⟩
  have kI:(F.R.S.cs.map V.ref).length=st.book.channels.length:=by rw[ac];exact hE.rd.set.mw.1
  refine⟨_,Z,F.f,_,F.dx,_,_,Z,hE.ins,T.ka,T.lA,Z,F.R.r,_,F.R.dx,_,_,Z,hE.rd.ins,T.gI,T.lz,Z,?_⟩;have hS:=hE.rd.set;refine⟨_,Z,F.R.S.s,_,F.R.S.dx,_,_,Z,hS.ins,T.io,T.nK,Z,F.R.S.lc,_,Z,.inl (fS.of hS.mv),_,Z,F.R.S.s,_,F.R.S.dx,_,_,Z,hS.ins,T.io,T.t5,Z,_,Z,F.R.S.s,_,F.R.S.dx,_,_,Z,hS.ins,T.io,T.Dn,Z,fZ (by simp),fun q1 n1=> ?_⟩;rw[kI];have s1:∀o,fR H (fN H q1 o):=fun o=>fR.new n1
  refine⟨_,Z,.inl ⟨Z,_,fS.of fP⟩,?_⟩;have iI:=hE.same (s1 (.lst [V.int 0,V.int st.book.channels.length,V.int (ahead st.book),V.int (behind st.book)]));have pC:=iI.rd.set;refine⟨_,Z,F.R.S.s,_,F.R.S.dx,_,_,Z,pC.ins,T.io,T.xL,Z,_,Z,F.R.S.s,_,F.R.S.dx,_,_,Z,pC.ins,T.io,T.qW,Z,_,Z,F.R.S.s,_,F.R.S.dx,_,_,Z,pC.ins,T.io,T.tX,Z,_,Z,F.R.S.s,_,F.R.S.dx,_,_,Z,pC.ins,T.io,T.Dc,Z,fZ (by simp),fun q2 n2=> ?_⟩;have vt:=gh fP n2;refine⟨q1,q2,_,_,Z,Z,(by rw[fU vt];exact fP),fP,fZ (by simp),?_⟩;have s3:=((s1 (.lst [V.int 0,V.int st.book.channels.length,V.int (ahead st.book),V.int (behind st.book)])).more (o:=.lst [V.int (depth st.book),V.int (rate st.book),V.int (high st.book),V.int (low st.book)]) n2).put (o:=.lst ([V.int 0,V.int st.book.channels.length,V.int (ahead st.book),V.int (behind st.book)]++[V.int (depth st.book),V.int (rate st.book),V.int (high st.book),V.int (low st.book)])) n1;have kO:=hE.same s3;have oA:=kO.rd.set;refine⟨_,Z,.inl ⟨Z,_,fS.of fP⟩,?_⟩;refine⟨_,Z,F.R.S.s,_,F.R.S.dx,_,_,Z,oA.ins,T.io,T.vG,Z,_,Z,F.R.S.s,_,F.R.S.dx,_,_,Z,oA.ins,T.io,T.DV,Z,_,Z,F.f,_,F.dx,_,_,Z,kO.ins,T.ka,T.lA,Z,F.R.r,F.R.dx,_,Z,kO.rd.ins,Z,F.R,st.book,m,Z,kO.rd,kO.iD,fZ (by simp),fun q4 n4=> ?_⟩;have d14:=gh fP n4;refine⟨q1,q4,_,_,Z,Z,(by rw[fU d14];exact fP),fP,fZ (by simp),?_⟩;refine⟨_,Z,?_⟩;refine hq _ q1 ((s3.more n4).put n1) ?_ n1;rw[fP,hE.gd.rel.oY];rfl
theorem S2:gQ ["front","numbers","row","settings","margin"] ["front","numbers","row"] (gM (fY 111)):=gY (by decide+kernel)
theorem S3(T:Tx P w K mg AA):gL P w K mg base gU 3 AA.DR AA.Kj ["front","numbers","row"] (kE AA 10 false 0):=by
 have U4:=T8 (base:=base) T;have SC:=S2;refine T.Et.fn.ok SC (fun vs H Q E h=> ?_) (fun gz A outer s H vs Q E hr h=> ?_)
 ·obtain⟨F,st,m,c,an,ar,ns,row,rfl,_⟩:=h;rfl
 ·obtain⟨F,st,m,c,an,ar,ns,row,rfl,hE,hc,hn,i7,ly,jX,hk,jV,hq⟩:=h;obtain rfl:=aM.mp hk;have hq:=iR hE (call:=iF 10 false [] row) ((jb Z).trans (kS Z)) hq
  refine⟨_,(fT (gm (i:=3) SC.nd Z (Or.inl Z) (gf (gf (pv 0) Z) Z))
   (fT (gm (i:=4) SC.nd Z (Or.inl Z) (ie U4 (hr.mono (by decide)) Z T.Am.mg T.Am.fn.kp T.Am.b .nil gH (fO (pv 3) fQ)))
   (fW (gD (gJ (fO fX (fO (pv 4) (fO (gf (pv 3) Z) (fO (yc (ip jv (pv 4) (gf (pv 3) Z) (ij _)) fX fX) fQ))))))))),?_⟩
  have hB:=hE.gd.bk;have hS:=hE.rd.set;have l1:=hB.dp;have l2:=hB.rt;have l3:=hB.hi;have l4:=hB.ah;have l5:=hB.de;refine⟨_,Z,F.f,_,F.dx,_,_,Z,hE.ins,T.ka,T.lA,Z,F.R.r,_,F.R.dx,_,_,Z,hE.rd.ins,T.gI,T.lz,Z,?_⟩;refine⟨_,Z,F.R.S,st.book,Z,hS,by omega,by omega,by omega,by unfold loop;omega,?_⟩;refine⟨_,Z,_,Z,F.R.S.s,_,F.R.S.dx,_,_,Z,hS.ins,T.io,T.xL,Z,_,Z,_,Z,F.R.S.s,_,F.R.S.dx,_,_,Z,hS.ins,T.io,T.xL,Z,_,_,Z,Z,_,Z,?_⟩
  by_cases c1:mostOf st.book<=depth st.book
  ·refine gc (ai (by omega)) ?_;refine⟨fZ (by simp),fun q1 n1=> ?_⟩;refine hq _ q1 (fR.new n1) ?_ n1;rw[fP,ai c1];rfl
  ·refine gu (ae (by omega)) ?_;refine⟨fZ (by simp),fun q1 n1=> ?_⟩;refine hq _ q1 (fR.new n1) ?_ n1;rw[fP,ae c1];rfl
theorem Tv:gQ ["front","numbers","row","yields"] ["front","numbers","row"] (gM (fY 112)):=gY (by decide+kernel)
theorem Tw(T:Tx P w K mg AA):gL P w K mg base gU 3 AA.D6 AA.KB ["front","numbers","row"] (kE AA 11 false 0):=by
 have U5:=Ug (base:=base) T;have SC:=Tv;refine T.ES.fn.ok SC (fun vs H Q E h=> ?_) (fun gz A outer s H vs Q E hr h=> ?_)
 ·obtain⟨F,st,m,c,an,ar,ns,row,rfl,_⟩:=h;rfl
 ·obtain⟨F,st,m,c,an,ar,ns,row,rfl,hE,hc,hn,i7,ly,jX,hk,jV,hq⟩:=h;obtain rfl:=aM.mp hk;have hq:=iR hE (call:=iF 11 false [] row) ((jb Z).trans (kS Z)) hq
  refine⟨_,(fT (gm (i:=3) SC.nd Z (Or.inl Z) (ie U5 (hr.mono (by decide)) Z T.An.mg T.An.fn.kp T.An.b .nil gH (fO (gf (gf (pv 0) Z) Z) fQ)))
   (fW (gD (gB j3 (gJ (fO fX (fO (gW iM (by rfl) T.len aF (fO (pv 3) fQ)) fQ))) (pv 3))))),?_⟩
  have hB:=hE.gd.bk;have hS:=hE.rd.set;refine⟨_,Z,F.f,_,F.dx,_,_,Z,hE.ins,T.ka,T.lA,Z,F.R.r,_,F.R.dx,_,_,Z,hE.rd.ins,T.gI,T.lz,Z,F.R.S,st.book,Z,hS,hB,fun H1 p1 s1 f1 g1=> ?_⟩;refine⟨_,Z,p1,_,Z,.inl (fS.of g1),fZ (by simp),fun q2 n2=> ?_⟩;have vt:=gh g1 n2;have wl:(Vbkdaa.worst st.book).length<=1000:=WU hB;refine⟨_,Z,q2,p1,_,_,Z,Z,fP,(by rw[fU vt];exact g1),fZ (by simp;omega),fun q3 n3=> ?_⟩;refine hq _ q3 ((s1.more n2).more n3) ?_ ((s1.more n2).free n3);rw[fP,ac,ya];rfl
theorem Tz:gQ ["front","numbers","row","hearing"] ["front","numbers","row"] (gM (fY 116)):=gY (by decide+kernel)
theorem TB(T:Tx P w K mg AA):gL P w K mg base gU 1 AA.D9 AA.KE ["front","numbers","row"] (kE AA 15 false 0):=by
 have SC:=Tz;refine T.EV.fn.ok SC (fun vs H Q E h=> ?_) (fun gz A outer s H vs Q E hr h=> ?_)
 ·obtain⟨F,st,m,c,an,ar,ns,row,rfl,_⟩:=h;rfl
 ·obtain⟨F,st,m,c,an,ar,ns,row,rfl,hE,hc,hn,i7,ly,jX,hk,jV,hq⟩:=h;obtain rfl:=aM.mp hk;have hq:=iR hE (call:=iF 15 false [] row) ((jb Z).trans (kS Z)) hq
  refine⟨_,(fT (gm (i:=3) SC.nd Z (Or.inl Z) (gf (pv 0) Z))
   (fW (gD (gJ (fO fX (fO (gf (pv 3) Z) (fO (gf (pv 3) Z) (fO (yc (qv (A2 (gf (pv 3) Z))) (qC qy fX) (gW iM (by rfl) T.len aF (fO (gf (pv 3) Z) fQ))) fQ)))))))),?_⟩
  have hA:=hE.ea;refine⟨_,Z,F.f,_,F.dx,_,_,Z,hE.ins,T.ka,T.xJ,Z,?_⟩;refine⟨_,Z,F.E.h,_,F.E.dx,_,_,Z,hA.ins,T.kc,T.DU,Z,_,Z,F.E.h,_,F.E.dx,_,_,Z,hA.ins,T.kc,T.vI,Z,_,Z,F.E.h,_,F.E.dx,_,_,Z,hA.ins,T.kc,T.qj,Z,_,Z,?_⟩;have hb:=hA.rS;cases e1:F.E.lb with
  |none=>
   rw[e1] at hb;cases e2:st.ear.inside with
   |some l=>rw[e2] at hb;cases hb
   |none=>
    refine gc Z ?_;refine⟨_,Z,fZ (by simp),fun q1 n1=> ?_⟩;refine hq _ q1 (fR.new n1) ?_ n1;rw[fP,e2];rfl
  |some p=>
   rw[e1] at hb;cases e2:st.ear.inside with
   |none=>rw[e2] at hb;cases hb
   |some l=>
    rw[e2] at hb;refine gu Z ?_;refine⟨_,Z,F.E.h,_,F.E.dx,_,_,Z,hA.ins,T.kc,T.qj,Z,p,_,by rw[e1];rfl,.inl (fS.of hb.1),fZ (by simp),fun q1 n1=> ?_⟩;refine hq _ q1 (fR.new n1) ?_ n1;rw[fP,e2,ac];rfl
end
theorem uD{row:List Int}{hi:Int}(h:(row.all fun n=>inside_ n 0 hi)=true):row.map V.int=(nats row).map nV:=by
 unfold nats;rw[bE];apply bW;intro x hx;have h1:=a9.mp h x hx;unfold inside_ at h1;rw[aH,aJ,aJ] at h1;show V.int x=V.int ((x.toNat:Nat):Int);rw[fH h1.1]
theorem N4{row:List Int}{hi:Int}{k:Nat}(h:(row.all fun n=>inside_ n 0 hi)=true)(hk:hi<k):∀y∈nats row,y<k:=by
 intro y hy;unfold nats at hy;obtain⟨x,hx,rfl⟩:=bi.mp hy;have h1:=a9.mp h x hx;unfold inside_ at h1;rw[aH,aJ,aJ] at h1;omega
theorem sj(row:List Int):(nats row).length=row.length:=by unfold nats;rw[ac]
theorem U6{b:Book}(h:nX b):(printed b).length<=2400:=by
 obtain⟨h1,h2⟩:=M6 h;rw[<-E9];have:=GF (oB b) h1;omega
theorem iH.Hb{α:Type}{H:Hp}{g:α->HO}{as:List Addr}{xs:List α}(h:iH H g as xs):∀a∈as,(H a).isSome=true:=by
 intro a ha;obtain⟨i,hi,e⟩:=fK ha;have h2:i<xs.length:=by rw[<-h.1];exact hi
 rw[h.2 i a xs[i] (by rw[ak hi,e]) (ak h2)];rfl
theorem ik.Hc{AA:gv}{H:Hp}{L:gO}{b:Book}{m:RS}(h:ik AA H L b m):∀a∈L.rows++L.gE++L.gP++L.S.fp,(H a).isSome=true:=by
 intro a ha;simp only[aG] at ha;rcases ha with((ha|ha)|ha)|ha
 ·exact h.rows.Hb a ha
 ·exact h.gE.Hb a ha
 ·exact h.gP.Hb a ha
 ·exact h.set.xh a ha
theorem jf.build{AA:gv}{H1:Hp}{F:iz}{s:State}{m:RS}{c:Nat}{fs:List (Str×V)}(hf:H1 F.f=some (.ins AA.j9 F.dx fs))(rd:ik AA H1 F.R s.book m)(gd:Good s.book m s.front)(ea:kz AA H1 F.E s.book.channels.length s.ear)
 (nd:F.mut.Nodup) (sep:∀a∈F.deep,a∉F.mut) (el:(s.ear.inside.getD []).length<=400*c):jf AA (fN H1 F.f (.ins AA.j9 F.dx (qT F))) F s m c:=by
 have o:gF [F.f] H1 (fN H1 F.f (.ins AA.j9 F.dx (qT F))):=gF.refl.put (by simp);have nf:F.f∉F.R.mut++F.E.mut:=(bj.mp nd).1
 exact{
  ins:=fP
  rd:=rd.keep o (fun a ha z=>nf (by rw[<-aq.mp z];simp[ha])) (fun a ha z=>sep a ha (by rw[aq.mp z];simp[iz.mut])) (fun y hy xs z=>by rw[aq.mp hy,hf] at z;cases z)
  gd:=gd
  ea:=ea.keep o (fun a ha z=>nf (by rw[<-aq.mp z];simp[ha]))
  nd:=nd
  sep:=sep
  el:=el}
theorem jf.abN{AA:gv}{H H1:Hp}{F:iz}{s:State}{m:RS}{c:Nat}{E':jP}{e':Ear}(h:jf AA H F s m c)(s1:fR H H1)(hA:kz AA H1 E' s.book.channels.length e')(nd:E'.mut.Nodup)(fr:∀a∈E'.mut,H a=none)(el:(e'.inside.getD []).length<=400*c):
 jf AA (fN H1 F.f (.ins AA.j9 F.dx (qT {F with E:=E'}))) {F with E:=E'} {s with ear:=e'} m c:=by
 have n0:=h.nd;unfold iz.mut at n0;have n1:=bj.mp n0;have n2:=dj.mp n1.2;have nE:∀a∈E'.mut,∀o,H a≠some o:=fun a ha o z=>by rw[fr a ha] at z;cases z
 refine jf.build (F:={F with E:=E'}) (s:={s with ear:=e'}) (s1 _ _ h.ins) (h.rd.same s1) h.gd hA ?_ ?_ el
 ·show(F.f::(F.R.mut++E'.mut)).Nodup;refine bj.mpr ⟨fun z=> ?_,dj.mpr ⟨n2.1,nd,fun a ha b hb e=> ?_⟩⟩
  ·rcases aG.mp z with z|z
   ·exact n1.1 (dm _ z)
   ·exact nE _ z _ h.ins
  ·have:=h.rd.lM a ha;rw[e,fr b hb] at this;cases this
 ·intro a ha z;have QR:(H a).isSome=true:=h.rd.Hc a ha;rcases az.mp z with z|z
  ·exact h.sep a ha (by rw[z];simp[iz.mut])
  ·rcases aG.mp z with z|z
   ·exact h.sep a ha (by simp[iz.mut,z])
   ·rw[fr a z] at QR;cases QR
theorem uc{b:Book}{m:RS}{f:Front}(r:j8 b m f)(k:Nat):(m.fates.map Int.ofNat).count (k:Int)=fates f k:=by
 have e:(m.fates.map Int.ofNat).count (k:Int)=m.fates.count k:=by
  rw[dX,dL,dX]
  congr 1
  funext x
  show(Int.ofNat x==(k:Int))=(x==k);rw[bJ,ci,ci];exact⟨fun z=>Int.ofNat.inj z,fun z=>by rw[z];rfl⟩
 rw[e,r.iX,List.count_reverse,dX,dL,bK];rfl
theorem Nb(f:Front)(k:Nat):fates f k<=f.done.length:=cz _ _
theorem FN(l:List Bool):(Vbkdaa.spansTold (Vbkdaa.stretches l)).length<=l.length+2:=by
 rw[LX,aj,ac];unfold sM;have:=Gn l;rw[ag];split<;>simp at this⊢ <;>omega
theorem X3(f:Front):fates f 0+fates f 1<=f.done.length:=by
 unfold fates;generalize f.done=l
 induction l with
 |nil=>exact aA _
 |cons d r ih=>
  rw[cT,cT,aj]
  by_cases h0:d.fate=0
  ·rw[aw (by rw[h0];rfl),am (by rw[h0];decide),aj];omega
  ·rw[am (by simpa using h0)];split
   ·rw[aj];omega
   ·omega
theorem YZ(f:Front):[VbkdCore.mk (nat (fates f 1)) (f.done.length-fates f 0)|>.n,nat (VbkdCore.mk (nat (fates f 1)) (f.done.length-fates f 0)).d]=[nat (fates f 1/Nat.gcd (fates f 1) (max 1 (f.done.length-fates f 0))),nat (max 1 (f.done.length-fates f 0)/Nat.gcd (fates f 1) (max 1 (f.done.length-fates f 0)))]:=by
 have h:=X3 f;unfold VbkdCore.mk
 by_cases h0:f.done.length-fates f 0=0
 ·have h1:fates f 1=0:=by omega
  rw[aw h0,h0,h1];rfl
 ·rw[am h0,show max 1 (f.done.length-fates f 0)=f.done.length-fates f 0 by omega];rfl
theorem Y0{b:Book}{m:RS}{f:Front}(r:j8 b m f)(t:Nat)(ht:t<f.done.length):(decide (0<=(t:Int)-(delayOf b:Int)-1)&&m.gC.getD ((t:Int)-(delayOf b:Int)-1).toNat false)=Vbkdaa.seen b (f.done.drop (f.done.length-t)):=by
 unfold Vbkdaa.seen;rw[r.jg,cZ]
 by_cases h:delayOf b+1<=t
 ·rw[ai (by omega),dQ,aE,b6 (by rw[ac];omega),au,ac,show f.done.length-1-((t:Int)-(delayOf b:Int)-1).toNat=f.done.length-t+delayOf b by omega]
 ·rw[ae (by omega),cV,bA (by omega)];rfl
section
variable {P:Program} {w:World} {K:PySem.W.Frag} {mg:Str->Option Value} {base:Heap} {AA:gv}
theorem R7:gQ ["front","numbers","row"] ["front","numbers","row"] (gM (fY 103)):=gY (by decide+kernel)
theorem R8(T:Tx P w K mg AA):gL P w K mg base gU 3 AA.Dl AA.JN ["front","numbers","row"] (kE AA 2 false 0):=by
 have VI:=UX (base:=base) T;have SC:=R7;refine T.DI.fn.ok SC (fun vs H Q E h=> ?_) (fun gz A outer s H vs Q E hr h=> ?_)
 ·obtain⟨F,st,m,c,an,ar,ns,row,rfl,_⟩:=h;rfl
 ·obtain⟨F,st,m,c,an,ar,ns,row,rfl,hE,hc,hn,i7,ly,jX,hk,jV,hq⟩:=h;obtain rfl:=aM.mp hk;have hq:=iR hE (call:=iF 2 false [] row) ((jb Z).trans (kS Z)) hq;refine⟨_,(fW (gD (gB j3 (gJ (fO fX fQ)) (ie VI (hr.mono (by decide)) Z T.AF.mg T.AF.fn.kp T.AF.b .nil gH (fO (gf (gf (pv 0) Z) Z) fQ))))),?_⟩;have hB:=hE.gd.bk;refine⟨fZ (by simp),fun q1 n1=> ?_⟩;have iI:=hE.same (fR.new (o:=.lst [V.int 0]) n1);refine⟨_,Z,F.f,_,F.dx,_,_,Z,iI.ins,T.ka,T.lA,Z,F.R.r,_,F.R.dx,_,_,Z,iI.rd.ins,T.gI,T.lz,Z,F.R.S,st.book,Z,iI.rd.set,hB,fun H2 p2 s2 f2 g2=> ?_⟩;refine⟨q1,p2,_,_,Z,Z,s2 _ _ fP,g2,fZ (by have:=U6 hB;simp;omega),fun q3 n3=> ?_⟩;refine hq _ q3 (((fR.new n1).trans s2).more n3) ?_ (((fR.new n1).trans s2).free n3);rw[fP,ya];rfl
theorem Y1:gQ ["front","numbers","row"] ["front","numbers","row"] (gM (fY 118)):=gY (by decide+kernel)
theorem Y2(T:Tx P w K mg AA):gL P w K mg base gU 3 AA.GR AA.Oh ["front","numbers","row"] (kE AA 17 false 0):=by
 have yb:=Fb (base:=base) T;have SC:=Y1;refine T.hush.fn.ok SC (fun vs H Q E h=> ?_) (fun gz A outer s H vs Q E hr h=> ?_)
 ·obtain⟨F,st,m,c,an,ar,ns,row,rfl,_⟩:=h;rfl
 ·obtain⟨F,st,m,c,an,ar,ns,row,rfl,hE,hc,hn,i7,ly,jX,hk,jV,hq⟩:=h;obtain rfl:=aM.mp hk
  refine⟨_,(fT (jt (pv 0) (uy T.F3 yb (hr.mono (by decide)) Z T.FF T.F9 .nil gH (fO (gW iM (by rfl) T.len aF (fO (gf (gf (gf (pv 0) Z) Z) Z) fQ)) fQ)) Z)
   (fW (gD (gJ (fO fX fQ))))),?_⟩
  have kI:(F.R.S.cs.map V.ref).length=st.book.channels.length:=by rw[ac];exact hE.rd.set.mw.1
  refine⟨_,Z,F.f,_,F.dx,_,_,Z,hE.ins,T.ka,T.lA,Z,F.R.r,_,F.R.dx,_,_,Z,hE.rd.ins,T.gI,T.lz,Z,F.R.S.s,_,F.R.S.dx,_,_,Z,hE.rd.set.ins,T.io,T.nK,Z,F.R.S.lc,_,Z,.inl (fS.of hE.rd.set.mv),?_⟩;rw[kI];intro x dx nx nd CA;refine⟨x,dx,st.book.channels.length,Z,fP,fun H1 o1 rT=>⟨Z,?_⟩⟩;have s1:fR H H1:=fR.made nx nd fun b o e n=>o1 b o e (by simpa using n)
  refine⟨_,Z,F.f,_,F.dx,_,Z,s1 _ _ hE.ins,T.ka,T.xJ,(by show 2<1000;decide),?_⟩;have jm:=hE.abN s1 rT (by simp[jP.mut]) (fun a ha=>by rw[show a=x by simpa [jP.mut] using ha];exact nx) (aN _);refine⟨fZ (by simp),fun q3 n3=> ?_⟩;refine hq _ {F with E:=⟨x,dx,none⟩} m q3 Z ?_ ?_ ?_ ?_ ?_ ?_ ((s1.grow.put) _ n3)
  ·exact((s1.own).put (by simp[iz.mut])).trans (fR.new n3).own
  ·exact(s1.grow.put).put
  ·exact(jm.same (fR.new n3)).later
  ·intro a ha;rcases az.mp ha with rfl|ha
   ·exact .inl (by simp[iz.mut])
   ·rcases aG.mp ha with ha|ha
    ·exact .inl (by simp[iz.mut,ha])
    ·exact .inr (by rw[show a=x by simpa [jP.mut] using ha];exact nx)
  ·exact fun a ha=>.inl ha
  ·rw[fP];rfl
theorem TC:gQ ["front","numbers","signs"] ["front","numbers","signs"] (gM (fY 117)):=gY (by decide+kernel)
theorem TD(T:Tx P w K mg AA):gL P w K mg base gU 3 AA.Ea AA.KF ["front","numbers","signs"] (kE AA 16 true 0):=by
 have pJ:=vJ (base:=base) T;have E4:=Lf (base:=base) T;have SC:=TC;refine T.EW.fn.ok SC (fun vs H Q E h=> ?_) (fun gz A outer s H vs Q E hr h=> ?_)
 ·obtain⟨F,st,m,c,an,ar,ns,row,rfl,_⟩:=h;rfl
 ·obtain⟨F,st,m,c,an,ar,ns,row,rfl,hE,hc,hn,i7,ly,jX,hk,jV,hq⟩:=h;obtain rfl:=aM.mp hk
  refine⟨_,(fT (gZ (li (lU (ie pJ (hr.mono (by decide)) Z T.lE.mg T.lE.fn.kp T.lE.b .nil gH (fO (pv 2) (fO (gA Z T.Vq) (fO (gA Z T.Tk) fQ))))))
   (fW (gD (gJ (fO (gA Z T.pH) fQ))))
   ic)
   (fW (gD (gB j3 (gJ (fO fX fQ)) (ie E4 (hr.mono (by decide)) Z T.uv.mg T.uv.fn.kp T.uv.b .nil gH (fO (pv 2) fQ)))))),?_⟩
  refine⟨_,Z,ar,row,100,127,Z,fS.of i7,by omega,fun H1 s1=> ?_⟩;refine⟨_,Z,?_⟩;have kK:=s1 _ _ i7
  by_cases hb:(decide (row.length<=100)&&row.all fun n=>inside_ n 0 127)=true
  ·refine gu (by rw[hb];rfl) ?_;have hq:=iR hE (call:=iF 16 true [] row) ((jb (show decode [[16],row]=some (.crc row) from oJ hb)).trans (kS Z)) hq;rw[aH,aJ] at hb;refine⟨fZ (by simp),fun q2 n2=> ?_⟩;rw[uD hb.2] at kK;refine⟨_,Z,ar,nats row,Z,(fR.new n2) _ _ kK,by rw[sj];omega,fun H3 p3 s3 f3 g3=> ?_⟩;refine⟨q2,p3,_,_,Z,Z,s3 _ _ fP,g3,fZ (by simp),fun q4 n4=> ?_⟩;refine hq _ q4 ((s1.trans ((fR.new n2).trans s3)).more n4) ?_ ((s1.trans ((fR.new n2).trans s3)).free n4);rw[fP];unfold Vbkdaa.checked;simp only;rw[List.drop_left' (sj row)];rfl
  ·rw[bT] at hb;refine gc (by rw[hb];rfl) ?_;have hq:=iR hE (call:=iF 16 true [] row) (oC (show decode [[16],row]=none from oK hb)) hq;refine⟨fZ (by simp),fun q2 n2=> ?_⟩;exact hq _ q2 (s1.more n2) fP (s1.free n2)
theorem Uh:gQ ["front","numbers","row","skipped","most","readout","shown"] ["front","numbers","row"] (gM (fY 106)):=gY (by decide+kernel)
theorem Ui(T:Tx P w K mg AA):gL P w K mg base gU 2 AA.Ek AA.K6 ["front","numbers","row"] (kE AA 5 false 2):=by
 have SC:=Uh;refine T.Fy.fn.ok SC (fun vs H Q E h=> ?_) (fun gz A outer s H vs Q E hr h=> ?_)
 ·obtain⟨F,st,m,c,an,ar,ns,row,rfl,_⟩:=h;rfl
 ·obtain⟨F,st,m,c,an,ar,ns,row,rfl,hE,hc,hn,i7,ly,jX,hk,jV,hq⟩:=h
  obtain⟨i,k,rfl⟩:∃i k,ns=[i,k]:=by
   match ns,hk with
   |[i,k],_=>exact⟨i,k,Z⟩
  refine⟨_,(fT (gm (i:=3) SC.nd Z (Or.inl Z) (hZ jc (pv 1) fX (fun _ _=>rfl)))
   (fT (gm (i:=4) SC.nd Z (Or.inl Z) (hZ jc (pv 1) fX (fun _ _=>rfl)))
   (fT (gZ (PW.pt (pO (li (qo jv jv fX (pv 3) (gA Z T.Tj))) (qx (li (qo jv jv fX (pv 4) (gA Z T.Sb))))))
     (fW (gD (gJ (fO (gA Z T.pH) fQ))))
     ic)
   (fT (gm (i:=5) SC.nd Z (Or.inl Z) (gf (pv 0) Z))
   (fT (gm (i:=6) SC.nd Z (Or.inl Z) (oE oH (gf (pv 5) Z) (kq (pv 3)) (kq (gW (Fe Z) (by rfl) T.min boot_min (fO (gB jh (pv 3) (pv 4)) (fO (gf (pv 5) Z) fQ))))))
   (fW (gD (gB j3 (gJ (fO fX (fO (gW iM (by rfl) T.len aF (fO (pv 6) fQ)) fQ))) (pv 6))))))))),?_⟩
  refine⟨_,Z,an,_,_,_,Z,Z,fS.of hn,iu (j:=0) Z Z,?_⟩;refine⟨_,Z,an,_,_,_,Z,Z,fS.of hn,iu (j:=1) Z Z,?_⟩;have jy:(inside_ i 0 20000&&inside_ k 0 300)=false->∀q,H q=none->Q (.ref q) (fN H q (.lst [V.int (-1)])):=fun h q n=>iR hE (call:=iF 5 false [i,k] row) (oC (show decode [[5,i,k]]=none from oK h)) hq _ q (fR.new n) fP n
  refine⟨_,Z,_,_,Z,Z,_,Z,?_⟩
  by_cases c1:0<=i
  ·refine gc (ai c1) ?_;refine⟨_,_,Z,Z,_,Z,?_⟩
   by_cases c2:i<=20000
   ·refine gu (by rw[ai c2];rfl) ?_;refine⟨_,Z,_,_,Z,Z,_,Z,?_⟩
    by_cases c3:0<=k
    ·refine gc (ai c3) ?_;refine⟨_,_,Z,Z,_,Z,?_⟩
     by_cases c4:k<=300
     ·refine gu (by rw[ai c4];rfl) ?_;obtain⟨i,rfl⟩:=bB c1;obtain⟨k,rfl⟩:=bB c3;have hq:=iR hE (call:=iF 5 false [(i:Int),(k:Int)] row) ((jb (show decode [[5,(i:Int),(k:Int)]]=some (.wire (i:Int).toNat (k:Int).toNat) from oJ (by unfold inside_;rw[ai c1,ai c2,ai c3,ai c4];rfl))).trans (kS Z)) hq;rw[a6,a6] at hq;have hR:=hE.rd;refine⟨_,Z,F.f,_,F.dx,_,_,Z,hE.ins,T.ka,T.lA,Z,?_⟩;refine⟨_,Z,F.R.r,_,F.R.dx,_,_,Z,hR.ins,T.gI,T.zO,Z,_,Z,_,Z,_,Z,_,Z,_,_,Z,Z,_,Z,F.R.r,_,F.R.dx,_,_,Z,hR.ins,T.gI,T.xO,Z,_,_,Z,_,Z,F.R.lq,_,Z,fS.of hR.kN,fun q1 n1=> ?_⟩
      have ec:j0 (m.iC.map nV) (some (i:Int)) (some (if (m.gone:Int)<(i:Int)+(k:Int) then(m.gone:Int) else(i:Int)+(k:Int)))=((st.front.wire.drop i).take k).map nV:=by
       rw[show(if (m.gone:Int)<(i:Int)+(k:Int) then(m.gone:Int) else(i:Int)+(k:Int))=((min (i+k) m.gone:Nat):Int) by split<;>omega,sy,hE.gd.rel.Cj,List.drop_take,List.take_take,b9,cq,show min (i+k) m.gone-i=min k (m.gone-i) by omega]
      rw[ec];generalize hW:(st.front.wire.drop i).take k=W at hq;have wl:W.length<=300:=by rw[<-hW,aD];omega
      refine⟨_,Z,q1,_,Z,.inl (fS.of fP),fZ (by simp),fun q2 n2=> ?_⟩;have vt:=gh fP n2;refine⟨_,Z,q2,q1,_,_,Z,Z,fP,(by rw[fU vt];exact fP),fZ (by simp;omega),fun q3 n3=> ?_⟩;refine hq _ q3 (((fR.new n1).more n2).more n3) ?_ (((fR.new n1).more n2).free n3);rw[fP,ac,ya];rfl
     ·refine gc (by rw[ae c4];rfl) ?_;exact⟨fZ (by simp),jy (by unfold inside_;rw[ae c4];simp)⟩
    ·refine gu (ae c3) ?_;refine⟨_,Z,?_⟩;refine gc Z ?_;exact⟨fZ (by simp),jy (by unfold inside_;rw[ae c3];simp)⟩
   ·refine gc (by rw[ae c2];rfl) ?_;refine gc Z ?_;exact⟨fZ (by simp),jy (by unfold inside_;rw[ae c2];simp)⟩
  ·refine gu (ae c1) ?_;refine⟨_,Z,?_⟩;refine gc Z ?_;refine gc Z ?_;exact⟨fZ (by simp),jy (by unfold inside_;rw[ae c1];simp)⟩
theorem Uj:gQ ["front","numbers","row","readout","crossing"] ["front","numbers","row"] (gM (fY 120)):=gY (by decide+kernel)
theorem Uk(T:Tx P w K mg AA):gL P w K mg base gU 3 AA.Eo AA.La ["front","numbers","row"] (kE AA 19 false 0):=by
 have xN:=Dy (base:=base) T;have C8:=Jz (base:=base) T;have qV:=xG (base:=base) T;have SC:=Uj;refine T.FD.fn.ok SC (fun vs H Q E h=> ?_) (fun gz A outer s H vs Q E hr h=> ?_)
 ·obtain⟨F,st,m,c,an,ar,ns,row,rfl,_⟩:=h;rfl
 ·obtain⟨F,st,m,c,an,ar,ns,row,rfl,hE,hc,hn,i7,ly,jX,hk,jV,hq⟩:=h;obtain rfl:=aM.mp hk;have hq:=iR hE (call:=iF 19 false [] row) ((jb Z).trans (kS Z)) hq
  refine⟨_,(fT (gm (i:=3) SC.nd Z (Or.inr Z) (gf (pv 0) Z))
   (fW (gD (gB j3 (gJ (fO fX fQ)) (ie xN (hr.mono (by decide)) Z T.ql.mg T.ql.fn.kp T.ql.b .nil gH (fO (mi (own:=[("crossing",4)]) Z SC.nd (xW Z T.range (fO (ma (pv 3) T.gI T.xK qV (hr.mono (by decide)) T.xH .nil gH) fQ)) (lD (by kernel_rfl)) (fun s H C cl fp=>(iJ (i:=4) SC.nd Z (Or.inl Z) (.inr Z))) (fun s H C cl fp=>me) (fun s H C cl fp=>(oG (pv 3) T.gI T.JL C8 (hr.mono (by decide)) T.JF .nil gH (fO (pv 4) fQ)))) fQ)))))),?_⟩
  refine⟨_,Z,F.f,_,F.dx,_,_,Z,hE.ins,T.ka,T.lA,Z,?_⟩;refine⟨fZ (by simp),fun q1 n1=> ?_⟩;have iI:=hE.same (fR.new (o:=.lst [V.int 0]) n1);have s1:fR H (fN H q1 (.lst [V.int 0])):=fR.new n1;have g1:(fN H q1 (.lst [V.int 0])) q1=some (.lst [V.int 0]):=fP;generalize fN H q1 (.lst [V.int 0])=H1 at iI s1 g1;have iK:=iI.rd;have lB:=hE.gd.rel.oY;have l4:=hE.gd.n;refine⟨_,Z,F.R.r,F.R.dx,_,Z,iK.ins,Z,F.R,st.book,m,Z,iK,hE.iD,(m.gC.length:Int),Z,by omega,by omega,fun D hD=> ?_⟩;refine Ay (n:=(m.gC.length:Int).toNat) (fun i H'=>H'=fN H1 D (.lst (((List.range i).map fun t=>Vbkdaa.seen st.book (st.front.done.drop (st.front.done.length-t))).map V.bl))) Z (fun i H' hi hH=> ?_) (fun H' hH=> ?_)
  ·subst hH;have hi:i<m.gC.length:=by omega
   have iT:=iK.same (fR.new (o:=.lst (((List.range i).map fun t=>Vbkdaa.seen st.book (st.front.done.drop (st.front.done.length-t))).map V.bl)) hD);refine⟨Z,?_⟩;refine⟨_,Z,F.R.r,F.R.dx,_,Z,iT.ins,Z,_,Z,F.R,st.book,m,(0+(i:Int)),Z,iT,by omega,_,fP,iV (by simp;omega),?_⟩;rw[jo,eM,ao,ao,Int.zero_add,Y0 hE.gd.rel i (by omega)];rfl
  ·subst hH;have iT:=iK.same (fR.new (o:=.lst (((List.range (m.gC.length:Int).toNat).map fun t=>Vbkdaa.seen st.book (st.front.done.drop (st.front.done.length-t))).map V.bl)) hD);refine⟨D,(List.range (m.gC.length:Int).toNat).map fun t=>Vbkdaa.seen st.book (st.front.done.drop (st.front.done.length-t)),Z,fS.of fP,by simp;omega,fun H2 p2 s2 f2 g2=> ?_⟩;refine⟨q1,p2,_,_,Z,Z,s2 _ _ (by rw[fU (gh g1 hD)];exact g1),g2,fZ ?_,fun q3 n3=> ?_⟩
   ·rw[ac];have:=FN ((List.range (m.gC.length:Int).toNat).map fun t=>Vbkdaa.seen st.book (st.front.done.drop (st.front.done.length-t)));simp at this⊢;omega
   ·refine hq _ q3 (((s1.more hD).trans s2).more n3) ?_ (((s1.more hD).trans s2).free n3);rw[fP,a6,lB];rfl
theorem Ul:gQ ["front","numbers","row","fates","asked"] ["front","numbers","row"] (gM (fY 119)):=gY (by decide+kernel)
theorem Um(T:Tx P w K mg AA):gL P w K mg base gU 3 AA.En AA.K9 ["front","numbers","row"] (kE AA 18 false 0):=by
 have S4:=SD (base:=base) T;have SC:=Ul;refine T.FC.fn.ok SC (fun vs H Q E h=> ?_) (fun gz A outer s H vs Q E hr h=> ?_)
 ·obtain⟨F,st,m,c,an,ar,ns,row,rfl,_⟩:=h;rfl
 ·obtain⟨F,st,m,c,an,ar,ns,row,rfl,hE,hc,hn,i7,ly,jX,hk,jV,hq⟩:=h;obtain rfl:=aM.mp hk;have hq:=iR hE (call:=iF 18 false [] row) ((jb Z).trans (kS Z)) hq
  refine⟨_,(fT (gm (i:=3) SC.nd Z (Or.inl Z) (gf (gf (pv 0) Z) Z))
   (fT (gm (i:=4) SC.nd Z (Or.inl Z) (gB jL (gW iM (by rfl) T.len aF (fO (pv 3) fQ)) (iU ax cH cI x9 (pv 3) (fO (gA Z T.FG) fQ))))
   (fW (gD (gB j3 (gJ (fO fX fQ)) (ie S4 (hr.mono (by decide)) Z T.zU.mg T.zU.fn.kp T.zU.b .nil gH (fO (iU ax cH cI x9 (pv 3) (fO (gA Z T.sK) fQ)) (fO (gW (r9 Z) (by rfl) T.max fC (fO fX (fO (pv 4) fQ))) fQ)))))))),?_⟩
  refine⟨_,Z,F.f,_,F.dx,_,_,Z,hE.ins,T.ka,T.lA,Z,F.R.r,_,F.R.dx,_,_,Z,hE.rd.ins,T.gI,T.qk,Z,?_⟩;refine⟨_,Z,F.R.lf,_,Z,.inl (fS.of hE.rd.iX),?_⟩;have rel:=hE.gd.rel;have wK:H F.R.lf=some (.lst ((m.fates.map Int.ofNat).map V.int)):=by rw[hE.rd.iX,bE];rfl
  refine⟨_,Z,.inl ⟨Z,_,fS.of hE.rd.iX⟩,F.R.lf,m.fates.map Int.ofNat,0,Z,Z,fS.of wK,_,_,Z,Z,?_⟩;refine⟨fZ (by simp),fun q1 n1=> ?_⟩;have s1:fR H (fN H q1 (.lst [V.int 0])):=fR.new n1;have c0:=uc rel 0;have c1:=uc rel 1;have lF:=rel.oX;have l4:=hE.gd.n;have l0:=Nb st.front 0;have l1:=Nb st.front 1;refine⟨_,Z,.inl ⟨Z,_,fS.of (s1 _ _ hE.rd.iX)⟩,F.R.lf,m.fates.map Int.ofNat,1,Z,Z,fS.of (s1 _ _ wK),_,Z,_,_,Z,fates st.front 1,max 1 (st.front.done.length-fates st.front 0),?_,by omega,by omega,by omega,fun p2 n2=> ?_⟩
  ·rw[show(1:Int)=((1:Nat):Int) from Z,c1,show(0:Int)=((0:Nat):Int) from Z,c0,ac,lF];have e:(if (st.front.done.length:Int)-(fates st.front 0:Int)>((1:Nat):Int) then(st.front.done.length:Int)-(fates st.front 0:Int) else((1:Nat):Int))=((max 1 (st.front.done.length-fates st.front 0):Nat):Int):=by split<;>omega
   rw[e];rfl
  ·have vt:=gh fP n2;refine⟨q1,p2,_,_,Z,Z,(by rw[fU vt];exact fP),fP,fZ (by simp),fun q3 n3=> ?_⟩;refine hq _ q3 ((s1.more n2).more n3) ?_ ((s1.more n2).free n3);rw[fP,aB,YZ];rfl
end
end FE
namespace L2
open PySem PySem.Spec PyProof.Rows
theorem Y3{d:Addr}{o:Obj}{kvs:List (Key×V)}{g:TG}{tt:TT}{te:TE}{vs:List Nat}{σ:St}{H1:Hp}{D:Addr}{Qd:Hp->Prop}(Pv:Nat->Hp->Prop)(h0:Pv 0 (fN H1 D (.lst [])))(hl:∀i H,i<=kvs.length->Pv i H->H d=some (.jQ o (.dK kvs)))
 (hs:∀i k x H,kvs[i]? =some (k,x)->Pv i H->g x (iB σ vs) H fun gw H2=>iB gw vs=iB σ vs/\tt gw H2 fun b H3=>
   if b=true then te gw H3 fun y H4=>∃acc,H4 D=some (.lst acc)/\acc.length<sizeLine/\Pv (i+1) (fN H4 D (.lst (acc++[y]))) else Pv (i+1) H3) (hd:∀H,Pv kvs.length H->Qd H):
 ∃W:Nat->Nat->Hp->Prop,(∃m,W 0 m (fN H1 D (.lst [])))/\∀i m H,W i m H->
  ((yT d o kvs).stop i H/\Qd H)\/((yT d o kvs).go i H/\∃Nx:Hp->Prop,(∀H',Nx H'->∃m',m'<m/\W (i+1) m' H')/\∀x H',(yT d o kvs).mH i H x H'->g x (iB σ vs) H' fun gw H2=>iB gw vs=iB σ vs/\tt gw H2 fun b H3=>
    if b=true then te gw H3 fun y H4=>∃acc,H4 D=some (.lst acc)/\acc.length<sizeLine/\Nx (fN H4 D (.lst (acc++[y]))) else Nx H3):=by
 refine⟨fun i m H=>m=kvs.length-i/\i<=kvs.length/\Pv i H,⟨kvs.length,by simp,aN _,h0⟩,?_⟩;rintro i m H ⟨rfl,hi,p⟩;have q:=hl i H hi p
 by_cases ia:i<kvs.length
 ·refine .inr ⟨⟨q,ia⟩,Pv (i+1),fun H' p'=>⟨kvs.length-(i+1),by omega,Z,ia,p'⟩,fun x H' y=> ?_⟩;obtain⟨e,k,y⟩:=y;subst e;exact hs i k x _ y p
 ·have e:i=kvs.length:=by omega
  subst e;exact .inl ⟨⟨q,aA _⟩,hd H p⟩
end L2
namespace FE
open PySem PySem.Spec PyProof.Rows L2
open Vbkdaa (Book inside_ State stepNumbers decode Ear nat nats ahead behind depth rate high low delayOf gapOf printed fates Front keptAll keptNow guards noChannel isC isT)
theorem vL{g:Bool×Int}{x:Vbkdaa.Res}(h:g.1=true):guards [g] x=.error g.2:=by unfold guards;rw[e6 h]
theorem vM{g:Bool×Int}{x:Vbkdaa.Res}(h:g.1=false):guards [g] x=x:=by unfold guards;rw[fk (by rw[h];decide)];rfl
theorem vN{g k:Bool×Int}{x:Vbkdaa.Res}(h:g.1=false):guards [g,k] x=guards [k] x:=by unfold guards;rw[fk (by rw[h];decide)]
theorem FO{g k:Bool×Int}{x:Vbkdaa.Res}(h:g.1=true):guards [g,k] x=.error g.2:=by unfold guards;rw[e6 h]
theorem VJ{b:Book}{m:RS}{f:Front}(r:j8 b m f){i:Nat}(hi:i<b.channels.length):keptAll b f i=(List.range (lj b m.highs.length)).map fun t=>ni b m.highs t i:=by
 unfold keptAll lj;rw[r.sS];apply bW;intro t ht;have ht:t<f.done.length-ahead b:=d9.mp ht;have hl:(f.done.drop (f.done.length-1-ahead b-t)).length=t+ahead b+1:=by rw[aW];omega
 rw[NM _ i hi (by omega),hl,show t+ahead b+1-1-ahead b=t by omega]
 have e:m.highs=((f.done.drop (f.done.length-1-ahead b-t)).map (·.high)).reverse++((f.done.take (f.done.length-1-ahead b-t)).map (·.high)).reverse:=by
  rw[r.i5,<-fE,<-ao,bQ]
 rw[e,Lh];rw[cv,ac,hl];omega
section
variable {P:Program} {w:World} {K:PySem.W.Frag} {mg:Str->Option Value} {base:Heap} {AA:gv}
theorem Uo:gQ ["front","numbers","row","channel","readout","refusal","crossing"] ["front","numbers","row"] (gM (fY 107)):=gY (by decide+kernel)
theorem Up(T:Tx P w K mg AA):gL P w K mg base gU 3 AA.El AA.K7 ["front","numbers","row"] (kE AA 6 false 1):=by
 have Dk:=JH (base:=base) T;have xN:=Dy (base:=base) T;have Dj:=JG (base:=base) T;have xM:=Do (base:=base) T;have SC:=Uo;refine T.Fz.fn.ok SC (fun vs H Q E h=> ?_) (fun gz A outer s H vs Q E hr h=> ?_)
 ·obtain⟨F,st,m,c,an,ar,ns,row,rfl,_⟩:=h;rfl
 ·obtain⟨F,st,m,c,an,ar,ns,row,rfl,hE,hc,hn,i7,ly,jX,hk,jV,hq⟩:=h;obtain⟨k,rfl⟩:=cP.mp hk
  refine⟨_,(fT (gm (i:=3) SC.nd Z (Or.inr Z) (hZ jc (pv 1) fX (fun _ _=>rfl)))
   (fT (gm (i:=4) SC.nd Z (Or.inr Z) (gf (pv 0) Z))
   (fT (gm (i:=5) SC.nd Z (Or.inl Z) (ie Dk (hr.mono (by decide)) Z T.t4.mg T.t4.fn.kp T.t4.b .nil gH (fO (pv 4) (fO (pv 3) fQ))))
   (fT (gZ (ip sG (pv 5) fX (ij _))
     (fW (gD (gJ (fO (pv 5) fQ))))
     ic)
   (fW (gD (gB j3 (gJ (fO fX fQ)) (ie xN (hr.mono (by decide)) Z T.ql.mg T.ql.fn.kp T.ql.b .nil gH (fO (mi (own:=[("crossing",6)]) Z SC.nd (xW Z T.range (fO (ma (pv 4) T.gI T.DW xM (hr.mono (by decide)) T.DK .nil gH) fQ)) (lD (by kernel_rfl)) (fun s H C cl fp=>(iJ (i:=6) SC.nd Z (Or.inl Z) (.inr Z))) (fun s H C cl fp=>me) (fun s H C cl fp=>(oG (pv 4) T.gI T.JY Dj (hr.mono (by decide)) T.JO .nil gH (fO (pv 6) (fO (gB jL (pv 3) fX) fQ))))) fQ))))))))),?_⟩
  refine⟨_,Z,an,_,_,_,Z,Z,fS.of hn,iu (j:=0) Z Z,?_⟩;refine⟨_,Z,F.f,_,F.dx,_,_,Z,hE.ins,T.ka,T.lA,Z,?_⟩;refine⟨_,Z,_,Z,F.R,st.book,m,k,Z,hE.rd,?_⟩;refine⟨_,Z,_,_,Z,Z,_,Z,?_⟩
  by_cases c1:1<=k/\k<=8
  ·obtain⟨k,rfl⟩:=bB (show 0<=k by omega);have ed:decode (iF 6 false [(k:Int)] row)=some (.kept (k:Int).toNat):=oJ (by unfold isC inside_;rw[ai c1.1,ai c1.2];rfl);rw[a6] at ed;rw[aw c1]
   by_cases c2:st.book.channels.length<k
   ·rw[aw (show(st.book.channels.length:Int)<(k:Int) by omega)];refine gc Z ?_;have hq:=iR hE ((jb ed).trans (nS (vL (by unfold noChannel;exact ai (.inr c2))))) hq;exact⟨_,Z,fZ (by simp),fun q n=>hq _ q (fR.new n) fP n⟩
   ·rw[am (show¬(st.book.channels.length:Int)<(k:Int) by omega)];refine gu Z ?_;have hq:=iR hE ((jb ed).trans (kS (vM (by unfold noChannel;exact ae (by omega))))) hq;have hi:k-1<st.book.channels.length:=by omega
    rw[VJ hE.gd.rel hi] at hq;refine⟨fZ (by simp),fun q1 n1=> ?_⟩;have iI:=hE.same (fR.new (o:=.lst [V.int 0]) n1);have s1:fR H (fN H q1 (.lst [V.int 0])):=fR.new n1;have g1:(fN H q1 (.lst [V.int 0])) q1=some (.lst [V.int 0]):=fP;generalize fN H q1 (.lst [V.int 0])=H1 at iI s1 g1;have iK:=iI.rd;have lH:=hE.gd.rel.sS;have l4:=hE.gd.n;have kl:lj st.book m.highs.length<=400:=by unfold lj;omega
    refine⟨_,Z,F.R.r,F.R.dx,_,Z,iK.ins,Z,F.R,st.book,m,Z,iK,hE.iD,((lj st.book m.highs.length:Nat):Int),Z,by omega,by omega,fun D hD=> ?_⟩;refine Ay (n:=((lj st.book m.highs.length:Nat):Int).toNat) (fun i H'=>fR H1 H'/\H' D=some (.lst (((List.range i).map fun t=>ni st.book m.highs t (k-1)).map V.bl))) ⟨fR.new hD,fP⟩ (fun i H' mJ hH=> ?_) (fun H' hH=> ?_)
    ·obtain⟨s2,g2⟩:=hH;have iT:=iK.same s2;refine⟨Z,?_⟩;refine⟨_,Z,F.R.r,F.R.dx,_,Z,iT.ins,Z,_,Z,_,Z,_,_,Z,Z,F.R,st.book,m,i,k-1,?_,iT,hE.iD,hi,fun H3 s3=> ?_⟩
     ·show[V.ref F.R.r,V.int (0+(i:Int)),V.int ((k:Int)-1)]=_;rw[Int.zero_add,show(k:Int)-1=((k-1:Nat):Int) by omega]
     ·refine⟨_,s3 _ _ g2,iV (by simp;omega),(s2.trans s3).put hD,?_⟩;rw[fP,eM,ao,ao];rfl
    ·obtain⟨s2,g2⟩:=hH;rw[a6] at g2;refine⟨D,_,Z,fS.of g2,by simp;omega,fun H3 p3 s3 f3 g3=> ?_⟩;refine⟨q1,p3,_,_,Z,Z,s3 _ _ (s2 _ _ g1),g3,fZ ?_,fun q4 n4=> ?_⟩
     ·rw[ac];have:=FN ((List.range (lj st.book m.highs.length)).map fun t=>ni st.book m.highs t (k-1));simp at this⊢;omega
     ·refine hq _ q4 ((s1.trans (s2.trans s3)).more n4) ?_ ((s1.trans (s2.trans s3)).free n4);rw[fP];rfl
  ·rw[am c1];refine gc Z ?_;have hq:=iR hE (oC (show decode (iF 6 false [k] row)=none from oK (by unfold isC inside_;by_cases c2:1<=k;rw[ae (fun z=>c1 ⟨c2,z⟩),dB];rw[ae c2,cV]))) hq;exact⟨_,Z,fZ (by simp),fun q n=>hq _ q (fR.new n) fP n⟩
theorem Uq:gQ ["front","numbers","row","channel","readout","refusal","highs"] ["front","numbers","row"] (gM (fY 108)):=gY (by decide+kernel)
theorem Ur(T:Tx P w K mg AA):gL P w K mg base gU 3 AA.Em AA.K8 ["front","numbers","row"] (kE AA 7 false 1):=by
 have Dk:=JH (base:=base) T;have xN:=Dy (base:=base) T;have SC:=Uq;refine T.FA.fn.ok SC (fun vs H Q E h=> ?_) (fun gz A outer s H vs Q E hr h=> ?_)
 ·obtain⟨F,st,m,c,an,ar,ns,row,rfl,_⟩:=h;rfl
 ·obtain⟨F,st,m,c,an,ar,ns,row,rfl,hE,hc,hn,i7,ly,jX,hk,jV,hq⟩:=h;obtain⟨k,rfl⟩:=cP.mp hk
  refine⟨_,(fT (gm (i:=3) SC.nd Z (Or.inr Z) (hZ jc (pv 1) fX (fun _ _=>rfl)))
   (fT (gm (i:=4) SC.nd Z (Or.inl Z) (gf (pv 0) Z))
   (fT (gm (i:=5) SC.nd Z (Or.inl Z) (ie Dk (hr.mono (by decide)) Z T.t4.mg T.t4.fn.kp T.t4.b .nil gH (fO (pv 4) (fO (pv 3) fQ))))
   (fT (gZ (ip sG (pv 5) fX (ij _))
     (fW (gD (gJ (fO (pv 5) fQ))))
     ic)
   (fW (gD (gB j3 (gJ (fO fX fQ)) (ie xN (hr.mono (by decide)) Z T.ql.mg T.ql.fn.kp T.ql.b .nil gH (fO (mi (own:=[("highs",6)]) Z SC.nd (md (show PE _ _ (yx K _ _) from gf (pv 4) Z)) (lD (by kernel_rfl)) (fun s H C cl fp=>(iJ (i:=6) SC.nd Z (Or.inl Z) (.inr Z))) (fun s H C cl fp=>me) (fun s H C cl fp=>(hZ (r:=wz K) jc (pv 6) (gB jL (pv 3) fX) (fun _ _=>rfl)))) fQ))))))))),?_⟩
  refine⟨_,Z,an,_,_,_,Z,Z,fS.of hn,iu (j:=0) Z Z,?_⟩;refine⟨_,Z,F.f,_,F.dx,_,_,Z,hE.ins,T.ka,T.lA,Z,?_⟩;refine⟨_,Z,_,Z,F.R,st.book,m,k,Z,hE.rd,?_⟩;refine⟨_,Z,_,_,Z,Z,_,Z,?_⟩
  by_cases c1:1<=k/\k<=8
  ·obtain⟨k,rfl⟩:=bB (show 0<=k by omega);have ed:decode (iF 7 false [(k:Int)] row)=some (.high (k:Int).toNat):=oJ (by unfold isC inside_;rw[ai c1.1,ai c1.2];rfl);rw[a6] at ed;rw[aw c1]
   by_cases c2:st.book.channels.length<k
   ·rw[aw (show(st.book.channels.length:Int)<(k:Int) by omega)];refine gc Z ?_;have hq:=iR hE ((jb ed).trans (nS (vL (by unfold noChannel;exact ai (.inr c2))))) hq;exact⟨_,Z,fZ (by simp),fun q n=>hq _ q (fR.new n) fP n⟩
   ·rw[am (show¬(st.book.channels.length:Int)<(k:Int) by omega)];refine gu Z ?_;have hq:=iR hE ((jb ed).trans (kS (vM (by unfold noChannel;exact ae (by omega))))) hq;have hi:k-1<st.book.channels.length:=by omega
    have eh:(st.front.done.reverse.map fun d=>d.high.getD (k-1) false)=m.highs.map fun h=>h.getD (k-1) false:=by
     rw[hE.gd.rel.i5,<-List.map_reverse,bE];rfl
    rw[eh] at hq;refine⟨fZ (by simp),fun q1 n1=> ?_⟩;have iI:=hE.same (fR.new (o:=.lst [V.int 0]) n1);have s1:fR H (fN H q1 (.lst [V.int 0])):=fR.new n1;have g1:(fN H q1 (.lst [V.int 0])) q1=some (.lst [V.int 0]):=fP;generalize fN H q1 (.lst [V.int 0])=H1 at iI s1 g1;have iK:=iI.rd;have hF:=hE.iD;have lh:=hF.h;refine⟨_,Z,F.R.r,_,F.R.dx,_,_,Z,iK.ins,T.gI,T.t7,Z,F.R.lh,Z,⟨_,fS.of iK.i5⟩,fun D hD=> ?_⟩;refine sw (K:=K) (a:=F.R.lh) (xs:=F.R.gE.map V.ref) (fun j H'=>H'=fN H1 D (.lst (((m.highs.take j).map fun h=>h.getD (k-1) false).map V.bl))) Z (fun j H' _ e=>by rw[e];exact fS.of (by rw[fU (gh iK.i5 hD)];exact iK.i5)) ?_ ?_
    ·rintro j x H' hx rfl;rw[au] at hx;cases hy:F.R.gE[j]? with
     |none=>rw[hy] at hx;cases hx
     |some y=>
      rw[hy] at hx;have ex:x=V.ref y:=(af hx).symm;subst ex;obtain⟨h,h1,h2⟩:=iK.gE.get hy;have h3:=hF.hr _ (aS h1);have hj:=(ap.mp h1).1;have rN:(fN H1 D (.lst (((m.highs.take j).map fun h=>h.getD (k-1) false).map V.bl))) y=some (.lst (h.map V.bl)):=by rw[fU (gh h2 hD)];exact h2
      have mJ:k-1<h.length:=by omega
      refine⟨Z,?_⟩;refine⟨_,Z,_,Z,_,_,Z,Z,y,_,_,_,Z,Z,fS.of rN,iu (j:=k-1) (by omega) (by rw[au,ak mJ];rfl),_,fP,?_,?_⟩
      ·rw[ac,ac,aD];exact iV (by omega)
      ·rw[jo,bC,h1,ao,ao]
       congr 3
       show[V.bl h[k-1]]=[V.bl (h.getD (k-1) false)];rw[aE,ak mJ];rfl
    ·rintro H' rfl;rw[ac,iK.gE.1,aT];refine⟨D,_,Z,fS.of fP,by simp;omega,fun H3 p3 s3 f3 g3=> ?_⟩;refine⟨q1,p3,_,_,Z,Z,s3 _ _ (by rw[fU (gh g1 hD)];exact g1),g3,fZ ?_,fun q4 n4=> ?_⟩
     ·rw[ac];have:=FN (m.highs.map fun h=>h.getD (k-1) false);simp at this⊢;omega
     ·refine hq _ q4 (((s1.more hD).trans s3).more n4) ?_ (((s1.more hD).trans s3).free n4);rw[fP];rfl
  ·rw[am c1];refine gc Z ?_;have hq:=iR hE (oC (show decode (iF 7 false [k] row)=none from oK (by unfold isC inside_;by_cases c2:1<=k;rw[ae (fun z=>c1 ⟨c2,z⟩),dB];rw[ae c2,cV]))) hq;exact⟨_,Z,fZ (by simp),fun q n=>hq _ q (fR.new n) fP n⟩
end
end FE
namespace L2
open PySem PySem.Spec PyProof.Rows
def uQ(xs:List V)(lo:Option Int)(k:Int):List V:=(sliceRange (sliceBounds lo none (some k) xs.length).1 (sliceBounds lo none (some k) xs.length).2.1 (sliceBounds lo none (some k) xs.length).2.2).filterMap (xs[·]?)
theorem gG.pick{xs:List V}{us:List Value}(r:gG xs us):∀ix:List Nat,gG (ix.filterMap (xs[·]?)) (ix.filterMap (us[·]?))
 |[]=>.nil
 |i::ix=>by
  cases e:xs[i]? with
  |none=>rw[List.filterMap_cons_none e,List.filterMap_cons_none (r.none_of e)];exact r.pick ix
  |some x=>
   obtain⟨u,e2,q⟩:=r.get e;rw[du e,du e2];exact .cons q (r.pick ix)
def abO(K:PySem.W.Frag)(te:TE)(tl:TO)(ts:TE):TE:=fun σ H Q=>te σ H fun x H1=>tl σ H1 fun l H2=>ts σ H2 fun z H3=>∃(a:Addr) (xs:List V) (k:Int),x=.ref a/\z=.int k/\k≠0/\fS K H3 a xs/\(uQ xs l k).length<=sizeLine/\∀p,H3 p=none->Q (.ref p) (fN H3 p (.lst (uQ xs l k)))
section
variable {X:Cx} {e es:Expr} {te ts:TE} {lo:Option Expr} {tl:TO} {pos p2:Pos}
theorem Mw(he:PE X e te)(hl:PO X lo tl)(kL:PE X es ts):PE X (.Subscript e (.Slice lo none (some es) p2) pos) (abO X.K te tl ts):=by
 intro fM s σ H Q I h;refine Subscript_ (gn (he fM s σ H _ I h) fun v s1 ⟨x,H1,I1,r1,q1⟩=> ?_);refine wpAny_Slice (gn (hl fM s1 σ H1 _ I1 q1) fun vl s2 ⟨l,H2,I2,pl,q2⟩=> ?_);rw[evalPart_none];refine aY ?_;rw[evalPart_some];refine gn (kL fM s2 σ H2 _ I2 q2) fun vu s3 ⟨z,H3,I3,rz,a,xs,k,ex,ez,k0,hx,jq,q⟩=> ?_
 subst ex;subst ez;cases r1;obtain⟨t,rfl⟩:=rz;have I4:Inv X fM σ H3 {s3 with heap:=s3.heap.push {cls:=.type "slice",data:=.fields #[vl,.none,.int k t]}}:=I3.kept (t':=s3.toks) fun b ob q=>aC _ q
 obtain⟨fV,r,ht,hz⟩:=I4.list hx;have j7:=r.length;show wpAny (model X.prog X.w) X.A (subscriptTail e (.Slice lo none (some es) p2) (.ref a) (.ref s3.heap.objs.size)) (EP X fM σ Q) X.xe {s3 with heap:=s3.heap.push {cls:=.type "slice",data:=.fields #[vl,.none,.int k t]}};refine tail_any (ops:=[.ref a,.ref s3.heap.objs.size]) ht.isList.typeIs slot_list_getitem.lookup ?_ (by with_unfolding_all Z);refine wpAny_getItem_list_slice ht.isList (Heap.IsSliceOf.new ..) pl .none (.int k t) (fun z=>k0 (af z)) ?_ (by rw[aR]<;>omega)
 have ep:slicePick fV.toArray l none (some k)=((sliceRange (sliceBounds l none (some k) xs.length).1 (sliceBounds l none (some k) xs.length).2.1 (sliceBounds l none (some k) xs.length).2.2).filterMap (fV[·]?)).toArray:=by
  unfold slicePick;rw[aR,j7]
  congr 1
  congr 1
  funext i
  simp
 rw[ep];refine⟨.ref _,_,I4.laid (t':=s3.toks) (o:=.lst (uQ xs l k)) (fun b ob q=>aC _ q) (aA _) ?_,Z,q _ (I4.gj.fresh (aA _))⟩;exact⟨jq,_,0,r.pick _,aO _ Z⟩
end
end L2
namespace FE
open PySem PySem.Spec PyProof.Rows L2
def i9{α:Type}:List α->List α
 |[]=>[]
 |[a]=>[a]
 |a::_::r=>a::i9 r
def ja{α:Type}:List α->List α
 |[]=>[]
 |[_]=>[]
 |_::b::r=>b::ja r
theorem LY{α:Type}:∀xs:List α,(List.range ((xs.length+1)/2)).filterMap (fun k=>xs[2*k]?)=i9 xs
 |[]=>by simp[i9]
 |[a]=>by simp[i9]
 |a::b::r=>by
  have ih:=LY r;rw[show((a::b::r).length+1)/2=(r.length+1)/2+1 by simp only[aj];omega,bS,du (b:=a) (by rfl),eV];show a::(List.range ((r.length+1)/2)).filterMap (fun k=>(a::b::r)[2*(k+1)]?)=a::i9 r;rw[<-ih];rfl
theorem Mx{α:Type}:∀xs:List α,(List.range (xs.length/2)).filterMap (fun k=>xs[2*k+1]?)=ja xs
 |[]=>by simp[ja]
 |[a]=>by simp[ja]
 |a::b::r=>by
  have ih:=Mx r;rw[show((a::b::r).length)/2=r.length/2+1 by simp only[aj];omega,bS,du (b:=b) (by rfl),eV];show b::(List.range (r.length/2)).filterMap (fun k=>(a::b::r)[2*(k+1)+1]?)=b::ja r;rw[<-ih];rfl
theorem ON(xs:List V):uQ xs (some 0) 2=i9 xs:=by
 unfold uQ
 have e1:sliceBounds (some 0) none (some 2) xs.length=(0,(xs.length:Int),2):=by
  unfold sliceBounds;simp;omega
 rw[e1];show(sliceRange 0 (xs.length:Int) 2).filterMap (xs[·]?)=_
 have e2:sliceRange 0 (xs.length:Int) 2=(List.range ((xs.length+1)/2)).map fun k=>2*k:=by
  unfold sliceRange;simp only[show(2:Int)>0 by decide,dA];rw[show((if (0:Int)<(xs.length:Int) then((xs.length:Int)-0+2-1)/2 else 0)).toNat=(xs.length+1)/2 by split<;>omega];apply bW;intro k _;omega
 rw[e2,eV,<-LY];rfl
theorem OO(xs:List V):uQ xs (some 1) 2=ja xs:=by
 unfold uQ
 by_cases h:xs=[]
 ·rw[h];rfl
 have hl:1<=xs.length:=by cases xs with|nil=>exact absurd Z h|cons a r=>simp
 have e1:sliceBounds (some 1) none (some 2) xs.length=(1,(xs.length:Int),2):=by
  unfold sliceBounds;simp;omega
 rw[e1];show(sliceRange 1 (xs.length:Int) 2).filterMap (xs[·]?)=_
 have e2:sliceRange 1 (xs.length:Int) 2=(List.range (xs.length/2)).map fun k=>2*k+1:=by
  unfold sliceRange;simp only[show(2:Int)>0 by decide,dA];rw[show((if (1:Int)<(xs.length:Int) then((xs.length:Int)-1+2-1)/2 else 0)).toNat=xs.length/2 by split<;>omega];apply bW;intro k _;omega
 rw[e2,eV,<-Mx];rfl
end FE
namespace L2
open PySem PySem.Spec PyProof.Rows
theorem Y4{K:PySem.W.Frag}{a b:Addr}{xs ys:List V}{g:TG}{tb:TS}{D:oQ}{σ:St}{H:Hp}(he:xs.length=ys.length)(Pv:Nat->St->Hp->Prop)(h0:Pv 0 σ H)(hl:∀i σ H,i<=xs.length->Pv i σ H->fS K H a xs/\fS K H b ys)
 (hs:∀i x y T σ H,xs[i]? =some x->ys[i]? =some y->Pv i σ H->H T=none->g (.ref T) σ (fN H T (.tup [x,y])) fun gw H2=>tb {D with nx:=Pv (i+1),ct:=Pv (i+1),bk:=D.nx} gw H2) (hd:∀σ H,Pv xs.length σ H->D.nx σ H):
 ∃W:Nat->Nat->St->Hp->Prop,(∃m,W 0 m σ H)/\∀i m σ H,W i m σ H->
  ((yV K a b).stop i H/\D.nx σ H)\/((yV K a b).go i H/\∃N:St->Hp->Prop,(∀gy H',N gy H'->∃m',m'<m/\W (i+1) m' gy H')/\∀x H',(yV K a b).mH i H x H'->g x σ H' fun gw H2=>tb {D with nx:=N,ct:=N,bk:=D.nx} gw H2):=by
 refine⟨fun i m σ H=>m=xs.length-i/\i<=xs.length/\Pv i σ H,⟨xs.length,by simp,aN _,h0⟩,?_⟩;rintro i m σ H ⟨rfl,hi,p⟩;obtain⟨q1,q2⟩:=hl i σ H hi p
 by_cases ia:i<xs.length
 ·have abP:i<ys.length:=by omega
  refine .inr ⟨⟨xs,ys,xs[i],ys[i],q1,q2,by simp[ia],by simp[abP]⟩,Pv (i+1),fun gy H' p'=>⟨xs.length-(i+1),by omega,Z,ia,p'⟩,fun x H' y=> ?_⟩;obtain⟨T,x1,y1,rfl,hT,rfl,g1,g2⟩:=y;exact hs i x1 y1 T σ H (g1 xs q1) (g2 ys q2) p hT
 ·have e:i=xs.length:=by omega
  subst e;exact .inl ⟨⟨xs,ys,q1,q2,.inl (aA _)⟩,hd σ H p⟩
end L2
namespace FE
open PySem PySem.Spec PyProof.Rows L2
open Vbkdaa (Book inside_ State stepNumbers decode Ear nat nats isT areSamples arePairs pairsIn risingPairs packed noChannel guards encoded)
theorem My{α:Type}:∀l:List α,(i9 l).length<=l.length
 |[]=>aA _
 |[_]=>aA _
 |_::_::r=>by have:=My r;simp only[i9,aj];omega
theorem Nc{α:Type}:∀l:List α,(ja l).length<=l.length
 |[]=>aA _
 |[_]=>aN _
 |_::_::r=>by have:=Nc r;simp only[ja,aj];omega
theorem FP{α β:Type}(f:α->β):∀l:List α,i9 (l.map f)=(i9 l).map f
 |[]=>rfl
 |[_]=>rfl
 |_::_::r=>by simp only[i9,aB];rw[FP f r]
theorem Go{α β:Type}(f:α->β):∀l:List α,ja (l.map f)=(ja l).map f
 |[]=>rfl
 |[_]=>rfl
 |_::_::r=>by simp only[ja,aB];rw[Go f r]
def rm(cs ss:List Int):Bool:=decide (cs.length=ss.length)&&(areSamples ss&&cs.all fun c=>inside_ c 1 8)
theorem FQ:∀l:List Int,arePairs l=(decide ((i9 l).length=(ja l).length)&&((ja l).all (fun n=>inside_ n 0 4095)&&(i9 l).all fun c=>inside_ c 1 8))/\(arePairs l=true->l.length=2*(ja l).length)
 |[]=>⟨Z,fun _=>rfl⟩
 |[_]=>⟨Z,fun h=>by cases h⟩
 |a::n::r=>by
  obtain⟨h1,h2⟩:=FQ r;refine⟨?_,fun h=> ?_⟩
  ·show(inside_ a 1 8&&(inside_ n 0 4095&&arePairs r))=_;have e:decide ((i9 (a::n::r)).length=(ja (a::n::r)).length)=decide ((i9 r).length=(ja r).length):=decide_eq_decide.mpr (by show(i9 r).length+1=(ja r).length+1↔_;omega);rw[h1,e];show _=(decide ((i9 r).length=(ja r).length)&&((inside_ n 0 4095&&(ja r).all (fun n=>inside_ n 0 4095))&&(inside_ a 1 8&&(i9 r).all fun c=>inside_ c 1 8)));cases decide ((i9 r).length=(ja r).length)<;>cases inside_ a 1 8<;>cases inside_ n 0 4095<;>cases ((ja r).all (fun n=>inside_ n 0 4095))<;>rfl
  ·have h:(inside_ a 1 8&&(inside_ n 0 4095&&arePairs r))=true:=h;rw[aH,aH] at h;have:=h2 h.2.2;simp only[ja,aj];omega
theorem Z5(l:List Int):rm (i9 l) (ja l)=(decide (l.length<=16)&&arePairs l):=by
 obtain⟨h1,h2⟩:=FQ l;unfold rm areSamples;rw[h1];cases e1:decide ((i9 l).length=(ja l).length) with
 |false=>simp
 |true=>
  cases e2:(ja l).all fun n=>inside_ n 0 4095 with
  |false=>simp
  |true=>
   cases e3:(i9 l).all fun c=>inside_ c 1 8 with
   |false=>simp
   |true=>
    have:=h2 (by rw[h1,e1,e2,e3];rfl)
    by_cases h:l.length<=16
    ·rw[ai h,ai (by omega)];rfl
    ·rw[ae h,ae (by omega)];rfl
theorem Mz:∀l:List Int,arePairs l=true->(pairsIn l).map (fun x=>(x.1:Int))=i9 l/\(pairsIn l).map (fun x=>(x.2:Int))=ja l
 |[],_=>⟨Z,Z⟩
 |[_],h=>by cases h
 |a::n::r,h=>by
  have h:(inside_ a 1 8&&(inside_ n 0 4095&&arePairs r))=true:=h;rw[aH,aH] at h;obtain⟨h1,h2⟩:=Mz r h.2.2;have ha:=h.1;have hn:=h.2.1;unfold inside_ at ha hn;rw[aH,aJ,aJ] at ha hn;simp only[pairsIn,i9,ja,aB,h1,h2];exact⟨by rw[fH (by omega)],by rw[fH (by omega)]⟩
def sO(l:List Int):Bool:=(List.range (l.length-1)).all fun i=>decide (l.getD i 0<l.getD (i+1) 0)
theorem WV(a b:Int)(r:List Int):sO (a::b::r)=(decide (a<b)&&sO (b::r)):=by
 unfold sO;rw[show(a::b::r).length-1=(b::r).length-1+1 by simp,bS,cR,dq];rfl
theorem LZ:∀ps:List (Nat×Nat),sO (ps.map fun x=>(x.1:Int))=risingPairs ps
 |[]=>rfl
 |[_]=>rfl
 |x::y::r=>by
  have ih:=LZ (y::r);show sO ((x.1:Int)::(y.1:Int)::r.map fun x=>(x.1:Int))=(decide (x.1<y.1)&&risingPairs (y::r));rw[WV,<-ih]
  congr 1
  exact decide_eq_decide.mpr (by omega)
theorem FR:∀(ps:List (Nat×Nat)),risingPairs ps=true->∀(i j:Nat) (x y:Nat×Nat),ps[i]? =some x->ps[j]? =some y->i<j->x.1<y.1
 |[],_,_,_,_,_,h,_,_=>by simp at h
 |[z],_,i,j,x,y,h1,h2,hl=>by
  have:=(ap.mp h2).1;simp at this;omega
 |z::u::r,h,i,j,x,y,h1,h2,hl=>by
  have h:(decide (z.1<u.1)&&risingPairs (u::r))=true:=h;rw[aH,aJ] at h;obtain⟨j,rfl⟩:∃k,j=k+1:=⟨j-1,by omega⟩;rw[dC] at h2;cases i with
  |zero=>
   have e:z=x:=af h1;rw[<-e];cases j with
   |zero=>have e2:u=y:=af h2;rw[<-e2];exact h.1
   |succ j=>exact Nat.lt_trans h.1 (FR (u::r) h.2 0 (j+1) u y Z h2 (by omega))
  |succ i=>exact FR (u::r) h.2 i j x y h1 h2 (by omega)
def kU(n:Nat)(ps:List (Nat×Nat)):List (Option Nat):=(List.range n).map fun i=>(ps.find? fun x=>x.1==i+1).map fun x=>x.2
theorem X4(n:Nat):(kU n []).map oV=List.replicate n V.gT:=by
 unfold kU;rw[bE];apply List.ext_getElem
 ·simp
 ·intro i h1 h2;simp[oV]
theorem WW(n:Nat)(ps:List (Nat×Nat))(x:Nat×Nat)(h1:1<=x.1)(hx:∀y∈ps,y.1<x.1):kU n (ps++[x])=(kU n ps).set (x.1-1) (some x.2):=by
 unfold kU;apply List.ext_getElem
 ·simp
 ·intro i h2 h3;rw[List.getElem_set];simp only[List.getElem_map,List.getElem_range,List.find?_append]
  by_cases e:x.1-1=i
  ·rw[aw e,List.find?_eq_none.mpr (fun y hy z=>by have h4:=hx y hy;have h5:y.1=i+1:=ci.mp z;omega),e6 (by rw[ci];omega)];rfl
  ·rw[am e,fk (by rw[ci];omega),List.find?_nil,Option.or_none]
def abQ(K:PySem.W.Frag):Sp:=fun vs H Q _=>∃(a b:Addr) (cs ss:List Int),vs=[.ref a,.ref b]/\fS K H a (cs.map V.int)/\fS K H b (ss.map V.int)/\cs.length<=100000/\ss.length<=100000/\∀H',fR H H'->Q (.bl (rm cs ss)) H'
def Z6(K:PySem.W.Frag):Sp:=fun vs H Q _=>∃(a:Addr) (cs:List Int),vs=[.ref a]/\fS K H a (cs.map V.int)/\cs.length<=100000/\∀H',fR H H'->Q (.bl (sO cs)) H'
section
variable {P:Program} {w:World} {K:PySem.W.Frag} {mg:Str->Option Value} {base:Heap} {AA:gv}
theorem Us:gQ ["channels","samples","channel"] ["channels","samples"] (gM (fY 99)):=gY (by decide+kernel)
theorem Ut(T:Tx P w K mg AA):gL P w K mg base gU 3 AA.K4 AA.K5 ["channels","samples"] (abQ K):=by
 have xP:=DO (base:=base) T;have SC:=Us;refine T.Ap.fn.ok SC (fun vs H Q E h=> ?_) (fun gz A outer s H vs Q E hr h=> ?_)
 ·obtain⟨a,b,cs,ss,rfl,_⟩:=h;rfl
 ·obtain⟨a,b,cs,ss,rfl,hA,hB,hl,ph,hq⟩:=h
  refine⟨_,(fT (gZ (PW.pt (pO (ip rg (gW iM (by rfl) T.len aF (fO (pv 0) fQ)) (gW iM (by rfl) T.len aF (fO (pv 1) fQ)) (ij _)) (qx (li (lU (ie xP (hr.mono (by decide)) Z T.qm.mg T.qm.fn.kp T.qm.b .nil gH (fO (pv 1) fQ)))))))
   (fW (gD Oq))
   ic)
   (fW (gD (gW (yn Z) (by rfl) T.all boot_all (fO (mi (own:=[("channel",2)]) Z SC.nd (md (pv 0)) (lD (by kernel_rfl)) (fun s H C cl fp=>(iJ (i:=2) SC.nd Z (Or.inl Z) (.inr Z))) (fun s H C cl fp=>me) (fun s H C cl fp=>(MI jv jv fX (pv 2) (gA Z T.zQ)))) fQ))))),?_⟩
  refine⟨_,Z,a,_,Z,.inl hA,_,Z,b,_,Z,.inl hB,Z,_,Z,?_⟩;rw[ac,ac]
  by_cases c1:cs.length=ss.length
  ·refine gu (by rw[Bool.not_eq_false'];exact ai (by rw[c1])) ?_;refine⟨_,Z,b,ss,Z,hB,ph,fun H1 s1=> ?_⟩;refine⟨_,Z,?_⟩
   by_cases c2:areSamples ss=true
   ·refine gu (by rw[c2];rfl) ?_;have ef:rm cs ss=cs.all fun c=>inside_ c 1 8:=by unfold rm;rw[ai c1,c2];rfl
    rw[ef] at hq;have rT:=s1.seq hA;refine⟨_,Z,a,Z,⟨_,rT⟩,fun q1 n1=> ?_⟩;have s2:∀o,fR H1 (fN H1 q1 o):=fun o=>fR.new n1
    refine sw (K:=K) (a:=a) (xs:=cs.map V.int) (fun i H'=>H'=fN H1 q1 (.lst (((cs.take i).map fun n=>inside_ n 1 8).map V.bl))) Z (fun i H' _ e=>by rw[e];exact(s2 _).seq rT) ?_ ?_
    ·rintro i x H' hx rfl;obtain⟨n,hn,rfl⟩:=kG hx;have hi':i<cs.length:=(ap.mp hn).1
     have fin:∀z:Bool,z=inside_ n 1 8->∃acc,(fN H1 q1 (.lst (((cs.take i).map fun n=>inside_ n 1 8).map V.bl))) q1=some (.lst acc)/\acc.length<sizeLine/\fN (fN H1 q1 (.lst (((cs.take i).map fun n=>inside_ n 1 8).map V.bl))) q1 (.lst (acc++[V.bl z]))=fN H1 q1 (.lst (((cs.take (i+1)).map fun n=>inside_ n 1 8).map V.bl)):=by
      intro z hz;refine⟨_,fP,iV (by rw[ac,ac,aD];omega),?_⟩;rw[jo,take_snoc hn,ao,ao,hz];rfl
     refine⟨Z,?_⟩;refine⟨_,Z,_,_,Z,Z,_,Z,?_⟩
     by_cases c3:1<=n
     ·refine gc (ai c3) ?_;refine⟨_,_,Z,Z,?_⟩;exact fin _ (by unfold inside_;rw[ai c3];rfl)
     ·refine gu (ae c3) ?_;exact fin false (by unfold inside_;rw[ae c3];rfl)
    ·rintro H' rfl;rw[ac,aT];refine⟨q1,_,Z,fS.of fP,?_⟩;have e:(cs.map fun n=>inside_ n 1 8).all id=cs.all fun n=>inside_ n 1 8:=by rw[dq];rfl
     rw[e];exact hq _ (s1.trans (s2 _))
   ·rw[bT] at c2;refine gc (by rw[c2];rfl) ?_;have ef:rm cs ss=false:=by unfold rm;rw[c2];simp
    rw[ef] at hq;exact hq _ s1
  ·refine gc (by rw[cG];exact ae (fun z=>c1 (by have:=V.int.inj z;omega))) ?_;refine gc Z ?_;have ef:rm cs ss=false:=by unfold rm;rw[ae c1];rfl
   rw[ef] at hq;exact hq _ fR.kH
theorem X5:gQ ["row","place"] ["row"] (gM (fY 100)):=gY (by decide+kernel)
theorem X6(T:Tx P w K mg AA):gL P w K mg base gU 1 AA.NG AA.NH ["row"] (Z6 K):=by
 have SC:=X5;refine T.Br.fn.ok SC (fun vs H Q E h=> ?_) (fun gz A outer s H vs Q E hr h=> ?_)
 ·obtain⟨a,cs,rfl,_⟩:=h;rfl
 ·obtain⟨a,cs,rfl,hA,hl,hq⟩:=h;refine⟨_,(fW (gD (gW (yn Z) (by rfl) T.all boot_all (fO (mi (own:=[("place",1)]) Z SC.nd (xW Z T.range (fO (gB jL (gW iM (by rfl) T.len aF (fO (pv 0) fQ)) fX) fQ)) (lD (by kernel_rfl)) (fun s H C cl fp=>(iJ (i:=1) SC.nd Z (Or.inl Z) (.inr Z))) (fun s H C cl fp=>me) (fun s H C cl fp=>(su sG (hZ (r:=wz K) jc (pv 0) (pv 1) (fun _ _=>rfl)) (hZ (r:=wz K) jc (pv 0) (gB jh (pv 1) fX) (fun _ _=>rfl)) (ij _)))) fQ)))),?_⟩;refine⟨_,Z,a,_,Z,.inl hA,_,_,Z,Z,_,Z,by rw[ac];omega,by rw[ac];omega,fun D hD=> ?_⟩;have el:((cs.map V.int).length:Int)-1=(cs.length:Int)-1:=by rw[ac]
  rw[el];have s1:∀o,fR H (fN H D o):=fun o=>fR.new hD
  refine Ay (n:=((cs.length:Int)-1).toNat) (fun i H'=>H'=fN H D (.lst (((List.range i).map fun i=>decide (cs.getD i 0<cs.getD (i+1) 0)).map V.bl))) Z (fun i H' hi hH=> ?_) (fun H' hH=> ?_)
  ·subst hH;have hi:i+1<cs.length:=by omega
   have xB:=(s1 (.lst (((List.range i).map fun i=>decide (cs.getD i 0<cs.getD (i+1) 0)).map V.bl))).seq hA;have e1:(cs.map V.int)[i]? =some (V.int (cs.getD i 0)):=by rw[au,aE,ak (by omega)];rfl
   have e2:(cs.map V.int)[i+1]? =some (V.int (cs.getD (i+1) 0)):=by rw[au,aE,ak hi];rfl
   refine⟨Z,?_⟩;refine⟨_,Z,_,Z,a,_,_,_,Z,Z,xB,iu (j:=i) (by omega) e1,_,Z,_,Z,_,_,Z,Z,a,_,_,_,Z,Z,xB,iu (j:=i+1) (by omega) e2,_,_,Z,Z,_,fP,iV (by simp;omega),?_⟩;rw[jo,eM,ao,ao];rfl
  ·subst hH;refine⟨D,_,Z,fS.of fP,?_⟩
   have e:((List.range ((cs.length:Int)-1).toNat).map fun i=>decide (cs.getD i 0<cs.getD (i+1) 0)).all id=sO cs:=by
    unfold sO;rw[dq,show((cs.length:Int)-1).toNat=cs.length-1 by omega];rfl
   rw[e];exact hq _ (s1 _)
theorem TF:gQ ["front","numbers","pairs","crossing","channels","samples","told","channel","sample"] ["front","numbers","pairs"] (gM (fY 114)):=gY (by decide+kernel)
theorem TH(T:Tx P w K mg AA):gL P w K mg base gU 4 AA.D7 AA.KC ["front","numbers","pairs"] (kE AA 13 true 1):=by
 have Y5:=X6 (base:=base) T;have xV:=Ev (base:=base) T;have U7:=Ut (base:=base) T;have SC:=TF;refine T.ET.fn.ok SC (fun vs H Q E h=> ?_) (fun gz A outer s H vs Q E hr h=> ?_)
 ·obtain⟨F,st,m,c,an,ar,ns,row,rfl,_⟩:=h;rfl
 ·obtain⟨F,st,m,c,an,ar,ns,row,rfl,hE,hc,hn,i7,ly,jX,hk,jV,hq⟩:=h;obtain⟨k,rfl⟩:=cP.mp hk
  refine⟨_,(fT (gm (i:=3) SC.nd Z (Or.inl Z) (hZ jc (pv 1) fX (fun _ _=>rfl)))
   (fT (gm (i:=4) SC.nd Z (Or.inl Z) (Mw (pv 2) (kq fX) fX))
   (fT (gm (i:=5) SC.nd Z (Or.inl Z) (Mw (pv 2) (kq fX) fX))
   (fT (gZ (PW.pt (pO (li (qo jv jv fX (pv 3) (gA Z T.JM))) (qx (li (lU (ie U7 (hr.mono (by decide)) Z T.Ap.mg T.Ap.fn.kp T.Ap.b .nil gH (fO (pv 4) (fO (pv 5) fQ))))))))
     (fW (gD (gJ (fO (gA Z T.pH) fQ))))
     ic)
   (fT (gm (i:=6) SC.nd Z (Or.inl Z) (gB Ba (gJ (fO uE fQ)) (gW iM (by rfl) T.len aF (fO (gf (gf (gf (pv 0) Z) Z) Z) fQ))))
   (fT (gZ (ip mR (Gz Z Z T.max (fO (pv 4) fQ) (yf fX ym)) (gW iM (by rfl) T.len aF (fO (pv 6) fQ)) (ij _))
     (fW (gD (gJ (fO (gA Z T.FH) fQ))))
     ic)
   (fT (gZ (li (lU (ie Y5 (hr.mono (by decide)) Z T.Br.mg T.Br.fn.kp T.Br.b .nil gH (fO (pv 4) fQ))))
     (fW (gD (gJ (fO (gA Z T.Vo) fQ))))
     ic)
   (fT (lG bg Z (ZB Z T.zip (fO (pv 4) (fO (pv 5) fQ))) (rf Z (lT (iJ (i:=7) SC.nd Z (Or.inl Z)) (lT (iJ (i:=8) SC.nd Z (Or.inl Z)) qZ)))
     (fW (Zh (pv 8) (Zg (pv 6) (gB jL (pv 7) fX) W7))))
   (fW (gD (gB j3 (gJ (fO fX fQ)) (ie xV (hr.mono (by decide)) Z T.qp.mg T.qp.fn.kp T.qp.b .nil gH (fO (pv 3) (fO (pv 6) fQ)))))))))))))),?_⟩
  refine⟨_,Z,an,_,_,_,Z,Z,fS.of hn,iu (j:=0) Z Z,?_⟩;have le:=My row;have lo:=Nc row;refine⟨_,Z,_,Z,ar,_,2,Z,Z,by decide,fS.of i7,fZ (by rw[ON,FP,ac];omega),fun q1 n1=> ?_⟩;rw[ON,FP];have s1:fR H (fN H q1 (.lst ((i9 row).map V.int))):=fR.new n1;have g1:(fN H q1 (.lst ((i9 row).map V.int))) q1=some (.lst ((i9 row).map V.int)):=fP;show jS _ _ _ _ (fN H q1 (.lst ((i9 row).map V.int)));generalize fN H q1 (.lst ((i9 row).map V.int))=H1 at s1 g1;refine⟨_,Z,_,Z,ar,_,2,Z,Z,by decide,fS.of (s1 _ _ i7),fZ (by rw[OO,Go,ac];omega),fun q2 n2=> ?_⟩;rw[OO,Go];have s2:fR H (fN H1 q2 (.lst ((ja row).map V.int))):=s1.more n2;have Jf:(fN H1 q2 (.lst ((ja row).map V.int))) q2=some (.lst ((ja row).map V.int)):=fP;have qO:(fN H1 q2 (.lst ((ja row).map V.int))) q1=some (.lst ((i9 row).map V.int)):=(fU (gh g1 n2)).trans g1;show jS _ _ _ _ (fN H1 q2 (.lst ((ja row).map V.int)));generalize fN H1 q2 (.lst ((ja row).map V.int))=H2 at s2 Jf qO;have jy:(isT k&&(decide (row.length<=16)&&arePairs row))=false->∀H3,fR H H3->∀q,H3 q=none->Q (.ref q) (fN H3 q (.lst [V.int (-1)])):=fun h H3 s3 q n=>iR hE (call:=iF 13 true [k] row) (oC (show decode [[13,k],row]=none from oK h)) hq _ q (s3.more n) fP (s3.free n)
  refine⟨_,Z,_,_,Z,Z,_,Z,?_⟩
  by_cases c1:0<=k
  ·refine gc (ai c1) ?_;refine⟨_,_,Z,Z,_,Z,?_⟩
   by_cases c2:k<=4095
   ·refine gu (by rw[ai c2];rfl) ?_;refine⟨_,Z,_,Z,q1,q2,i9 row,ja row,Z,fS.of qO,fS.of Jf,by omega,by omega,fun H3 s3=> ?_⟩;refine⟨_,Z,?_⟩;rw[Z5];have tT:=s2.trans s3
    by_cases hb:(decide (row.length<=16)&&arePairs row)=true
    ·refine gu (by rw[hb];rfl) ?_;obtain⟨t,rfl⟩:=bB c1;have ed:decode (iF 13 true [(t:Int)] row)=some (.pack (t:Int).toNat row):=oJ (by rw[hb];unfold isT inside_;rw[ai c1,ai c2];rfl);rw[a6] at ed;rw[aH,aJ] at hb;obtain⟨w8,lw⟩:=hb;obtain⟨z1,z2⟩:=Mz row lw;obtain⟨i1,i2⟩:=FQ row;have i1:=i1.symm.trans lw;rw[aH,aH,aJ] at i1;obtain⟨il,i3,i4⟩:=i1;have rQ:=s3 _ _ qO;have qh:=s3 _ _ Jf;have kO:=hE.same tT;generalize hPS:pairsIn row=ps at z1 z2
     have pr:∀x∈ps,1<=x.1/\x.1<=8/\x.2<4096:=by
      intro x hx;have h1:=a9.mp i4 (x.1:Int) (by rw[<-z1];exact bi.mpr ⟨x,hx,Z⟩);have h2:=a9.mp i3 (x.2:Int) (by rw[<-z2];exact bi.mpr ⟨x,hx,Z⟩);unfold inside_ at h1 h2;rw[aH,aJ,aJ] at h1 h2;omega
     have iD:=kO.rd.set.iD;have kI:(F.R.S.cs.map V.ref).length=st.book.channels.length:=by rw[ac];exact kO.rd.set.mw.1
     refine⟨fZ (by simp),fun q4 n4=> ?_⟩;have s4:fR H3 (fN H3 q4 (.lst [V.gT])):=fR.new n4;have CF:=kO.same s4;refine⟨_,Z,F.f,_,F.dx,_,_,Z,CF.ins,T.ka,T.lA,Z,F.R.r,_,F.R.dx,_,_,Z,CF.rd.ins,T.gI,T.lz,Z,F.R.S.s,_,F.R.S.dx,_,_,Z,CF.rd.set.ins,T.io,T.nK,Z,F.R.S.lc,_,Z,.inl (fS.of CF.rd.set.mv),q4,_,_,Z,Z,fP,by rw[kI];omega,by rw[kI];omega,fZ (by rw[kI];simp;omega),fun q5 n5=> ?_⟩;rw[kI,Gm,a6,<-X4];have s5:fR H3 (fN (fN H3 q4 (.lst [V.gT])) q5 (.lst ((kU st.book.channels.length []).map oV))):=s4.more n5;have g5:(fN (fN H3 q4 (.lst [V.gT])) q5 (.lst ((kU st.book.channels.length []).map oV))) q5=some (.lst ((kU st.book.channels.length []).map oV)):=fP;have f5:H3 q5=none:=s4.free n5;show jS _ _ _ _ (fN (fN H3 q4 (.lst [V.gT])) q5 (.lst ((kU st.book.channels.length []).map oV)));generalize fN (fN H3 q4 (.lst [V.gT])) q5 (.lst ((kU st.book.channels.length []).map oV))=H5 at s5 g5;have tl:∀l,((kU st.book.channels.length l).map oV).length=st.book.channels.length:=fun l=>by unfold kU;simp
     refine⟨_,Z,q1,i9 row,0,Z,Z,fS.of (s5 _ _ rQ),fun mx m1 m2=> ?_⟩;refine⟨_,Z,q5,_,Z,.inl (fS.of g5),_,_,Z,Z,_,Z,?_⟩;rw[tl]
     have ey:decide (mx>(st.book.channels.length:Int))=ps.any fun x=>(noChannel st x.1).1:=by
      rw[bJ,aJ,List.any_eq_true]
      by_cases h0:i9 row=[]
      ·rw[m1 h0];have p0:ps=[]:=by rw[h0] at z1;exact List.map_eq_nil_iff.mp z1
       rw[p0];constructor
       ·intro z;omega
       ·rintro⟨x,hx,_⟩;cases hx
      ·obtain⟨h1,h2⟩:=m2 h0;constructor
       ·intro z;rw[<-z1] at h1;obtain⟨x,hx,ex⟩:=bi.mp h1;refine⟨x,hx,?_⟩;unfold noChannel;exact ai (.inr (by omega))
       ·rintro⟨x,hx,hl⟩;have h3:=h2 (x.1:Int) (by rw[<-z1];exact bi.mpr ⟨x,hx,Z⟩);have h4:=pr x hx;unfold noChannel at hl;have:=cF hl;omega
     have er:Vbkdaa.does st (.pack t row)=guards [(ps.any fun x=>(noChannel st x.1).1,-5),(!risingPairs ps,-7)] (.ok (st,(encoded ⟨t,kU st.book.channels.length ps⟩).map nat)):=by rw[<-hPS];rfl
     cases ha:ps.any fun x=>(noChannel st x.1).1 with
     |true=>
      refine gc (ey.trans ha) ?_;have hq:=iR hE ((jb ed).trans (nS (er.trans (FO ha)))) hq;exact⟨fZ (by simp),fun q n=>hq _ q ((tT.trans s5).more n) fP ((tT.trans s5).free n)⟩
     |false=>
      refine gu (ey.trans ha) ?_;refine⟨_,Z,q1,i9 row,Z,fS.of (s5 _ _ rQ),by omega,fun H6 s6=> ?_⟩;refine⟨_,Z,?_⟩;rw[<-z1,LZ];have zA:=s5.trans s6
      by_cases qi:risingPairs ps=true
      ·refine gu (by rw[qi];rfl) ?_;have hq:=iR hE ((jb ed).trans (kS (er.trans ((vN ha).trans (vM (by rw[qi];rfl)))))) hq
       have cn:∀x∈ps,x.1<=st.book.channels.length:=by
        intro x hx;have h1:=List.any_eq_false.mp ha x hx;unfold noChannel at h1;have h2:=of_decide_eq_false (Bool.eq_false_iff.mpr h1);omega
       have eN:(i9 row).map V.int=ps.map fun x=>nV x.1:=by rw[<-z1,bE];rfl
       have oN:(ja row).map V.int=ps.map fun x=>nV x.2:=by rw[<-z2,bE];rfl
       rw[eN] at rQ;rw[oN] at qh;have pl:ps.length<=16:=by have:=congrArg List.length z1;rw[ac] at this;omega
       have r1:=zA _ _ rQ;have r2:=zA _ _ qh;have r5:=s6 _ _ g5
       refine⟨_,Z,_,Z,q1,q2,_,_,Z,fS.of r1,fS.of r2,Y4 (K:=K) (a:=q1) (b:=q2) (xs:=ps.map fun x=>nV x.1) (ys:=ps.map fun x=>nV x.2) (by simp) (fun i σ H'=>∃v7 v8,σ=[some (.ref F.f),some (.ref an),some (.ref ar),some (.int (t:Int)),some (.ref q1),some (.ref q2),some (.ref q5),v7,v8]/\fR H3 H'/\H' q5=some (.lst ((kU st.book.channels.length (ps.take i)).map oV)))
        ⟨none,none,Z,zA,r5⟩ (fun i σ H' _ ⟨_,_,_,s,_⟩=>⟨fS.of (s _ _ rQ),fS.of (s _ _ qh)⟩) ?_ ?_⟩
       ·rintro i x y T' σ H' hx hy ⟨v7,v8,rfl,s7,g7⟩ QS;obtain⟨p,hp,rfl⟩:=kG hx;obtain⟨p',hp',rfl⟩:=kG hy;obtain rfl:p=p':=af (hp.symm.trans hp');obtain⟨h1,h2,h3⟩:=pr p (aS hp);have h4:=cn p (aS hp);have QT:(fN H' T' (.tup [nV p.1,nV p.2])) T'=some (.tup [nV p.1,nV p.2]):=fP;have g8:(fN H' T' (.tup [nV p.1,nV p.2])) q5=_:=(fU (gh g7 QS)).trans g7;have s8:fR H3 (fN H' T' (.tup [nV p.1,nV p.2])):=s7.more QS;generalize fN H' T' (.tup [nV p.1,nV p.2])=H8 at QT g8 s8;refine⟨T',_,Z,kg QT,Z,_,_,Z,_,_,Z,Z,?_⟩
        have hix:qI ((kU st.book.channels.length (ps.take i)).map oV).length ((p.1:Int)-1)=some (p.1-1):=by
         rw[tl];unfold qI;rw[aw (by omega),aw (by omega),show((p.1:Int)-1).toNat=p.1-1 by omega]
        refine⟨_,Z,_,Z,_,Z,_,_,Z,Z,q5,_,_,_,Z,Z,g8,hix,?_⟩;refine⟨_,_,Z,s8.put f5,?_⟩;rw[fP,take_snoc hp,WW _ _ _ h1,List.map_set]
        ·rfl
        ·intro y hy;obtain⟨j,hj,ej⟩:=fK hy;have pB:j<i:=by rw[aD] at hj;omega
         refine FR ps qi j i y p ?_ hp pB;rw[<-dr pB,ak hj,ej]
       ·rintro σ H' ⟨v7,v8,rfl,s7,g7⟩;rw[ac,aT] at g7;refine⟨fZ (by simp),fun q8 n8=> ?_⟩;have s8:fR H' (fN H' q8 (.lst [V.int 0])):=fR.new n8;have afn:(kU st.book.channels.length ps).length=st.book.channels.length:=by unfold kU;simp
        have tf:∀n,some n∈kU st.book.channels.length ps->n<4096:=by
         intro n hn;unfold kU at hn;obtain⟨i,_,e⟩:=bi.mp hn;cases hf:ps.find? fun x=>x.1==i+1 with
         |none=>rw[hf] at e;cases e
         |some x=>
          rw[hf] at e;have e:x.2=n:=af e;rw[<-e];exact(pr x (List.mem_of_find?_eq_some hf)).2.2
        refine⟨_,Z,_,Z,t,q5,kU st.book.channels.length ps,Z,fS.of (s8 _ _ g7),by omega,?_,fun H9 p9 s9 f9 g9=> ?_⟩
        ·exact tf
        ·rw[show t% 4096=t by omega] at g9;refine⟨q8,p9,_,_,Z,Z,s9 _ _ fP,g9,fZ (by have:=AZ t (kU st.book.channels.length ps) (by omega) tf;simp;omega),fun tO rH=> ?_⟩;refine hq _ tO ((tT.trans (s7.trans (s8.trans s9))).more rH) ?_ ((tT.trans (s7.trans (s8.trans s9))).free rH);rw[fP,ya];rfl
      ·rw[bT] at qi;refine gc (by rw[qi];rfl) ?_;have hq:=iR hE ((jb ed).trans (nS (er.trans ((vN ha).trans (vL (by rw[qi];rfl)))))) hq;exact⟨fZ (by simp),fun q n=>hq _ q ((tT.trans zA).more n) fP ((tT.trans zA).free n)⟩
    ·rw[bT] at hb;refine gc (by rw[hb];rfl) ?_;exact⟨fZ (by simp),jy (by rw[hb,dB]) H3 tT⟩
   ·refine gc (by rw[ae c2];rfl) ?_;refine gc Z ?_;exact⟨fZ (by simp),jy (by unfold isT inside_;rw[ae c2];simp) H2 s2⟩
  ·refine gu (ae c1) ?_;refine⟨_,Z,?_⟩;refine gc Z ?_;refine gc Z ?_;exact⟨fZ (by simp),jy (by unfold isT inside_;rw[ae c1];simp) H2 s2⟩
end
end FE
namespace L2
open PySem PySem.Spec PyProof.Rows
theorem X7{H:Hp}{d D:Addr}{u v o:HO}(n:D≠d)(h:H d=some u):fN (fN (fN H d v) D o) d u=fN H D o:=by
 funext b
 unfold fN
 by_cases h1:b=d
 ·rw[aw h1,am (by rw[h1];exact n.symm),h1,h]
 ·rw[am h1]
  by_cases h2:b=D
  ·rw[aw h2,aw h2]
  ·rw[am h2,am h2,am h1]
abbrev Y6(K:PySem.W.Frag):V->List V->Hp->VK->Prop:=fun x xs H Q=>∃(a:Addr) (ns:List Int) (k:Int),x=.ref a/\xs=[.int k]/\fS K H a (ns.map V.int)/\Q (.int (ns.count k:Nat)) H
end L2
namespace FE
open PySem PySem.Spec PyProof.Rows L2
open Vbkdaa (Book inside_ State stepNumbers decode Ear nat nats ahead behind depth rate high low delayOf gapOf fates Front isT from_ frameNow encoded flag Done)
theorem Om:∀(fs:List (Nat×Bool×List Nat)) (ts:List Addr) (j:Nat) (x:Nat×Bool×List Nat) (a:Addr),(fs.map (·.1)).Nodup->fs[j]? =some x->ts[j]? =some a->i6 (List.zipWith (fun(x:Nat×Bool×List Nat) (a:Addr)=>((Sum.inl (x.1:Int):L2.Key),V.ref a)) fs ts) (Sum.inl (x.1:Int))=some (V.ref a)
 |[],_,j,x,a,_,h,_=>by simp at h
 |y::fs,[],j,x,a,_,_,h=>by simp at h
 |y::fs,b::ts,0,x,a,_,h1,h2=>by
  simp at h1 h2;rw[cQ,vO (by rw[h1]),h2]
 |y::fs,b::ts,j+1,x,a,hn,h1,h2=>by
  rw[dC] at h1 h2;rw[aB,bj] at hn;rw[cQ,uu (fun z=>hn.1 (bi.mpr ⟨x,aS h1,by have:=Sum.inl.inj z;show x.1=y.1;omega⟩))];exact Om fs ts j x a hn.2 h1 h2
theorem MA{b:Book}{m:RS}{f:Front}(r:j8 b m f):(m.frames.map (·.1)).Nodup:=by
 rw[r.key];exact List.Nodup.sublist List.filter_sublist List.nodup_range
theorem VL{fs:List (Nat×Bool×List Nat)}(h:(fs.map (·.1)).Nodup){x y:Nat×Bool×List Nat}(hx:x∈fs)(hy:y∈fs)(e:x.1=y.1):x=y:=by
 induction fs with
 |nil=>cases hx
 |cons z r ih=>
  rw[aB,bj] at h;rcases az.mp hx with rfl|QU
  ·rcases az.mp hy with rfl|rN
   ·rfl
   ·exact absurd (show _∈r.map (·.1) from bi.mpr ⟨y,rN,e.symm⟩) h.1
  ·rcases az.mp hy with rfl|rN
   ·exact absurd (show _∈r.map (·.1) from bi.mpr ⟨x,QU,e⟩) h.1
   ·exact ih h.2 QU rN
theorem WX{b:Book}{m:RS}{f:Front}(r:j8 b m f){x:Nat×Bool×List Nat}(hx:x∈m.frames):f.made.contains (x.1,true)=x.2.1:=by
 rw[r.vi];cases e:x.2.1 with
 |true=>exact fz.mpr (bi.mpr ⟨x,hx,by rw[e]⟩)
 |false=>
  rw[Bool.eq_false_iff];intro z;obtain⟨y,hy,e2⟩:=bi.mp (fz.mp z);have h1:y.1=x.1:=congrArg (fun p:Nat×Bool=>p.1) e2;have h2:y.2.1=true:=congrArg (fun p:Nat×Bool=>p.2) e2;have:=VL (MA r) hy hx h1;rw[this,e] at h2;cases h2
theorem A1{b:Book}{m:RS}{f:Front}(r:j8 b m f){t:Nat}(ht:t<f.done.length):∃d,f.done[f.done.length-1-t]? =some d/\m.fates[t]? =some d.fate:=by
 have h:f.done.length-1-t<f.done.length:=by omega
 refine⟨f.done[f.done.length-1-t],ak h,?_⟩;rw[r.iX,b6 (by rw[ac];exact ht),au,ac,ak h];rfl
theorem L0{α:Type}(p:α->Bool):∀l:List α,(l.filter p).length+(l.filter fun x=> !p x).length=l.length
 |[]=>rfl
 |x::l=>by
  have ih:=L0 p l;rw[cT,cT,aj];cases p x<;>simp<;>omega
theorem Y7{b:Book}{m:RS}{f:Front}(r:j8 b m f):m.frames.length<=fates f 1:=by
 have e1:m.frames.length=((List.range (f.done.length-ahead b)).filter fun t=>m.fates.getD t 0==1).length:=by rw[<-r.key,ac]
 have e2:fates f 1=((List.range m.fates.length).filter fun t=>m.fates.getD t 0==1).length:=by
  rw[<-uc r 1]
  have e3:m.fates=(List.range m.fates.length).map fun t=>m.fates.getD t 0:=by
   apply List.ext_getElem
   ·simp
   ·intro i h1 h2;simp[ak h1]
  have e4:(m.fates.map Int.ofNat).count ((1:Nat):Int)=m.fates.countP fun x=>x==1:=by
   rw[dX,dL]
   congr 1
   funext x
   show(Int.ofNat x==((1:Nat):Int))=(x==1);rw[bJ,ci,ci];exact⟨fun z=>Int.ofNat.inj z,fun z=>by rw[z];rfl⟩
  rw[e4]
  conv=>lhs;rw[e3]
  rw[dL,bK];rfl
 rw[e1,e2,<-r.oX];have hs:(List.range (m.fates.length-ahead b)).Sublist (List.range m.fates.length):=List.range_sublist.mpr (by omega);exact(hs.filter _).length_le
section
variable {st:State} {m:RS} (r:j8 st.book m st.front) (t:Nat)
include r
theorem WY(h:st.front.done.length<=t):Vbkdaa.does st (.frame t)=.error (-5):=by
 show(match (if t<st.front.done.length then some (from_ st.front t) else none) with|none=>_|some l=>_)=_;rw[am (by omega)]
theorem WZ{k:Nat}(h:t<st.front.done.length)(hk:m.fates[t]? =some k)(h1:k≠1):Vbkdaa.does st (.frame t)=.error (-7):=by
 obtain⟨d,hd,hf⟩:=A1 r h;have e:d.fate=k:=af (hf.symm.trans hk);show(match (if t<st.front.done.length then some (from_ st.front t) else none) with|none=>_|some l=>_)=_;rw[aw h];show(if ((from_ st.front t).head?.map fun d=>d.fate)≠some 1 then _ else _)=_;rw[aw];unfold from_;rw[cK,hd];intro z;exact h1 (by rw[<-e];exact af z)
theorem VM(h:t<st.front.done.length)(hk:m.fates[t]? =some 1)(h1:st.front.done.length<=t+ahead st.book):Vbkdaa.does st (.frame t)=.error (-8):=by
 obtain⟨d,hd,hf⟩:=A1 r h;have e:d.fate=1:=af (hf.symm.trans hk);show(match (if t<st.front.done.length then some (from_ st.front t) else none) with|none=>_|some l=>_)=_;rw[aw h];show(if ((from_ st.front t).head?.map fun d=>d.fate)≠some 1 then _ else _)=_;rw[am,aw h1];unfold from_;rw[cK,hd];intro z;exact z (by rw[<-e];rfl)
theorem U8(h:t<st.front.done.length)(hk:m.fates[t]? =some 1)(h1:t+ahead st.book<st.front.done.length):∃x∈m.frames,x.1=t/\Vbkdaa.does st (.frame t)=.ok (st,flag x.2.1::x.2.2.map nat):=by
 obtain⟨d,hd,hf⟩:=A1 r h;have e:d.fate=1:=af (hf.symm.trans hk)
 have hm:t∈m.frames.map (·.1):=by
  rw[r.key,eQ,d9];refine⟨by omega,?_⟩;rw[aE,hk];rfl
 obtain⟨x,hx,ex⟩:=bi.mp hm;refine⟨x,hx,ex,?_⟩;show(match (if t<st.front.done.length then some (from_ st.front t) else none) with|none=>_|some l=>_)=_;rw[aw h];show(if ((from_ st.front t).head?.map fun d=>d.fate)≠some 1 then _ else _)=_;rw[am (by unfold from_;rw[cK,hd];intro z;exact z (by rw[<-e];rfl)),am (by omega)];have hl:(from_ st.front (t+ahead st.book)).length=t+ahead st.book+1:=by unfold from_;rw[aW];omega
 have hg:(from_ st.front (t+ahead st.book))[ahead st.book]? =some d:=by
  unfold from_;rw[cZ,show st.front.done.length-1-(t+ahead st.book)+ahead st.book=st.front.done.length-1-t by omega];exact hd
 have en:=Lg (b:=st.book) (from_ st.front (t+ahead st.book)) d hg (r.len d (aS hd)).1;rw[aw e,hl,show t+ahead st.book+1-1-ahead st.book=t by omega] at en;rw[en];show Except.ok (st,flag (st.front.made.contains (t,true))::(encoded ⟨t% 4096,_⟩).map nat)=_
 have ef:x.2.2=mD st.book ((from_ st.front (t+ahead st.book)).map (·.high)).reverse ((from_ st.front (t+ahead st.book)).map (·.samples)).reverse t:=by
  rw[r.jH x hx,ex]
  have e1:m.highs=((from_ st.front (t+ahead st.book)).map (·.high)).reverse++((st.front.done.take (st.front.done.length-1-(t+ahead st.book))).map (·.high)).reverse:=by
   rw[r.i5,<-fE,<-ao];unfold from_;rw[bQ]
  have e2:m.samples=((from_ st.front (t+ahead st.book)).map (·.samples)).reverse++((st.front.done.take (st.front.done.length-1-(t+ahead st.book))).map (·.samples)).reverse:=by
   rw[r.jR,<-fE,<-ao];unfold from_;rw[bQ]
  rw[e1,e2,LL]
  ·rw[cv,ac,hl];omega
  ·rw[cv,ac,hl];omega
 rw[<-WX r hx,ex,ef];rfl
end
section
variable {P:Program} {w:World} {K:PySem.W.Frag} {mg:Str->Option Value} {base:Heap} {AA:gv}
theorem TJ:gQ ["front","numbers","row","crossing","readout","frame"] ["front","numbers","row"] (gM (fY 110)):=gY (by decide+kernel)
theorem TK(T:Tx P w K mg AA):gL P w K mg base gU 2 AA.D5 AA.KA ["front","numbers","row"] (kE AA 9 false 1):=by
 have qV:=xG (base:=base) T;have xM:=Do (base:=base) T;have SC:=TJ;refine T.ER.fn.ok SC (fun vs H Q E h=> ?_) (fun gz A outer s H vs Q E hr h=> ?_)
 ·obtain⟨F,st,m,c,an,ar,ns,row,rfl,_⟩:=h;rfl
 ·obtain⟨F,st,m,c,an,ar,ns,row,rfl,hE,hc,hn,i7,ly,jX,hk,jV,hq⟩:=h;have hu:=wk hr;obtain⟨k,rfl⟩:=cP.mp hk
  refine⟨_,(fT (gm (i:=3) SC.nd Z (Or.inl Z) (hZ jc (pv 1) fX (fun _ _=>rfl)))
   (fT (gm (i:=4) SC.nd Z (Or.inl Z) (gf (pv 0) Z))
   (fT (gZ (li (qo jv jv fX (pv 3) (gA Z T.JM)))
     (fW (gD (gJ (fO (gA Z T.pH) fQ))))
     ic)
   (fT (gZ (ip wg (pv 3) (ma (pv 4) T.gI T.xK qV (hr.mono (by decide)) T.xH .nil gH) (ij _))
     (fW (gD (gJ (fO (gA Z T.FH) fQ))))
     ic)
   (fT (gZ (ip rg (hZ jc (gf (pv 4) Z) (pv 3) (fun _ _=>rfl)) (gA Z T.sK) (ij _))
     (fW (gD (gJ (fO (gA Z T.Wo) fQ))))
     ic)
   (fT (gZ (ip wg (pv 3) (ma (pv 4) T.gI T.DW xM (hr.mono (by decide)) T.DK .nil gH) (ij _))
     (fW (gD (gJ (fO (gA Z T.Wp) fQ))))
     ic)
   (fT (gm (i:=5) SC.nd Z (Or.inl Z) (Nz hu (gf (pv 4) Z) (pv 3) (fun _ _=>rfl)))
   (fW (gD (gB j3 (gJ (fO fX (fO (hZ jI (pv 5) fX (fun _ _=>rfl)) fQ))) (hZ jI (pv 5) fX (fun _ _=>rfl)))))))))))),?_⟩
  refine⟨_,Z,an,_,_,_,Z,Z,fS.of hn,iu (j:=0) Z Z,?_⟩;refine⟨_,Z,F.f,_,F.dx,_,_,Z,hE.ins,T.ka,T.lA,Z,?_⟩;have rel:=hE.gd.rel;have hR:=hE.rd;have jy:inside_ k 0 4095=false->∀q,H q=none->Q (.ref q) (fN H q (.lst [V.int (-1)])):=fun h q n=>iR hE (call:=iF 9 false [k] row) (oC (show decode [[9,k]]=none from oK h)) hq _ q (fR.new n) fP n
  refine⟨_,Z,_,_,Z,Z,_,Z,?_⟩
  by_cases c1:0<=k
  ·refine gc (ai c1) ?_;refine⟨_,_,Z,Z,_,Z,?_⟩
   by_cases c2:k<=4095
   ·refine gu (by rw[ai c2];rfl) ?_;obtain⟨t,rfl⟩:=bB c1;have ed:decode (iF 9 false [(t:Int)] row)=some (.frame (t:Int).toNat):=oJ (by unfold isT inside_;rw[ai c1,ai c2];rfl);rw[a6] at ed;refine⟨_,Z,_,Z,F.R.r,F.R.dx,_,Z,hR.ins,Z,F.R,st.book,m,Z,hR,hE.iD,_,_,Z,Z,_,Z,?_⟩;have lB:=rel.oY;have lF:=rel.oX;have lH:=rel.sS
    by_cases c3:t<st.front.done.length
    ·refine gu (ae (by omega)) ?_;obtain⟨d,hd,hf⟩:=A1 rel c3;refine⟨_,Z,F.R.r,_,F.R.dx,_,_,Z,hR.ins,T.gI,T.qk,Z,_,Z,F.R.lf,_,_,_,Z,Z,fS.of hR.iX,iu (j:=t) Z (by rw[au,hf];rfl),Z,_,Z,?_⟩
     by_cases c4:d.fate=1
     ·refine gu (by rw[c4];rfl) ?_;rw[c4] at hf;refine⟨_,Z,_,Z,F.R.r,F.R.dx,_,Z,hR.ins,Z,F.R,st.book,m,Z,hR,hE.iD,_,_,Z,Z,_,Z,?_⟩;unfold lj
      by_cases c5:t+ahead st.book<st.front.done.length
      ·refine gu (ae (by omega)) ?_;obtain⟨x,hx,ex,er⟩:=U8 rel t c3 hf c5;have hq:=iR hE ((jb ed).trans (kS er)) hq;obtain⟨j,hj,exj⟩:=fK hx;have Jg:m.frames[j]? =some x:=by rw[ak hj,exj]
       have fl:F.R.gP.length=m.frames.length:=hR.gP.1;have ft:F.R.hJ.length=m.frames.length:=by rw[hR.hJ.1,cM];omega
       have h1:F.R.hJ[j]? =some F.R.hJ[j]:=ak (by omega);have h2:F.R.gP[j]? =some F.R.gP[j]:=ak (by omega);generalize F.R.hJ[j]=a at h1;generalize F.R.gP[j]=p at h2;have ga:=hR.hJ.2 j a (x,p) h1 (by rw[eB];exact⟨Jg,h2⟩);have gp:=hR.gP.2 j p x h2 Jg;have hv:=Om m.frames F.R.hJ j x a (MA rel) Jg h1;rw[ex] at hv
       have hg:lL H F.R.ld (V.int (t:Int)) (some (V.ref a)):=by
        have:=lL.k (k:=Sum.inl (t:Int)) hR.jH;rw[hv] at this;exact this
       refine⟨_,Z,F.R.r,_,F.R.dx,_,_,Z,hR.ins,T.gI,T.vF,Z,_,Z,F.R.ld,_,Z,hg,?_⟩
       have yl:x.2.2.length<=50:=by
        rw[rel.jH x hx];obtain⟨k1,k2⟩:=E7 hE.iD hR.set.iD x.1 (by rw[ex,rel.wF];exact c3);exact AZ _ _ k1 k2
       refine⟨_,Z,a,_,_,_,Z,Z,iO.of ga,iu (j:=0) Z Z,fZ (by simp),fun q1 n1=> ?_⟩;have s1:∀o,fR H (fN H q1 o):=fun o=>fR.new n1
       refine⟨_,Z,a,_,_,_,Z,Z,iO.of (s1 _ _ _ ga),iu (j:=1) Z Z,?_⟩;refine⟨q1,p,_,_,Z,Z,fP,s1 _ _ _ gp,fZ (by simp;omega),fun q2 n2=> ?_⟩;refine hq _ q2 ((s1 _).more n2) ?_ ((s1 _).free n2);rw[fP,ya];cases x.2.1<;>rfl
      ·refine gc (ai (by omega)) ?_;have hq:=iR hE ((jb ed).trans (nS (VM rel t c3 hf (by omega)))) hq;exact⟨fZ (by simp),fun q n=>hq _ q (fR.new n) fP n⟩
     ·refine gc (by rw[cG];exact ae (fun z=>c4 (uG.mp z))) ?_;have hq:=iR hE ((jb ed).trans (nS (WZ rel t c3 hf c4))) hq;exact⟨fZ (by simp),fun q n=>hq _ q (fR.new n) fP n⟩
    ·refine gc (ai (by omega)) ?_;have hq:=iR hE ((jb ed).trans (nS (WY rel t (by omega)))) hq;exact⟨fZ (by simp),fun q n=>hq _ q (fR.new n) fP n⟩
   ·refine gc (by rw[ae c2];rfl) ?_;exact⟨fZ (by simp),jy (by unfold inside_;rw[ae c2];simp)⟩
  ·refine gu (ae c1) ?_;refine⟨_,Z,?_⟩;refine gc Z ?_;exact⟨fZ (by simp),jy (by unfold inside_;rw[ae c1];simp)⟩
theorem S5:gQ ["front","numbers","row","readout","fates","made","frame","went_in","answer","fate"] ["front","numbers","row"] (gM (fY 109)):=gY (by decide+kernel)
theorem S6(T:Tx P w K mg AA):gL P w K mg base gU 2 AA.DQ AA.Ki ["front","numbers","row"] (kE AA 8 false 0):=by
 have qV:=xG (base:=base) T;have pG:=xI (base:=base) T;have SC:=S5;refine T.Es.fn.ok SC (fun vs H Q E h=> ?_) (fun gz A outer s H vs Q E hr h=> ?_)
 ·obtain⟨F,st,m,c,an,ar,ns,row,rfl,_⟩:=h;rfl
 ·obtain⟨F,st,m,c,an,ar,ns,row,rfl,hE,hc,hn,i7,ly,jX,hk,jV,hq⟩:=h;obtain rfl:=aM.mp hk;have hq:=iR hE (call:=iF 8 false [] row) ((jb Z).trans (kS Z)) hq
  refine⟨_,(fT (gm (i:=3) SC.nd Z (Or.inl Z) (gf (pv 0) Z))
   (fT (gm (i:=4) SC.nd Z (Or.inr Z) (gf (pv 3) Z))
   (fT (gm (i:=5) SC.nd Z (Or.inl Z) (gW Wb (by rfl) T.len aF (fO (gf (pv 3) Z) fQ)))
   (fT (gm (i:=7) SC.nd Z (Or.inl Z) (gW iM (by rfl) T.len aF (fO (Yj (mi (own:=[("frame",6)]) Z SC.nd (V8 (show PE _ _ (yx K _ _) from gf (pv 3) Z)) (lD (by kernel_rfl)) (fun s H C cl fp=>(iJ (i:=6) SC.nd Z (Or.inl Z) (.inr Z))) (fun s H C cl fp=>(Nt (ip nk (hZ (r:=wA K) jI (pv 6) fX (fun _ _=>rfl)) (gA Z T.NK) (ij _)))) (fun s H C cl fp=>(pv 6)))) fQ)))
   (fT (gm (i:=8) SC.nd Z (Or.inl Z) (gJ (fO fX (fO (ma (pv 3) T.gI T.xK qV (hr.mono (by decide)) T.xH .nil gH) fQ))))
   (fT (iS (iU ax a0 a5 m7 (pv 8) (fO (mi (own:=[("fate",9)]) Z SC.nd (GJ (vY (fO (gA Z T.FG) (fO (gA Z T.sK) (fO (gA Z T.Le) (fO (gA Z T.KI) fQ)))))) (lD (by kernel_rfl)) (fun s H C cl fp=>(iJ (i:=9) SC.nd Z (Or.inl Z) (.inr Z))) (fun s H C cl fp=>me) (fun s H C cl fp=>(show PE _ _ (u9 K "list" (Y6 K) _ _) from iU ax cH cI x9 (pv 4) (fO (pv 9) fQ)))) fQ)))
   (fT (iS (iU ax a0 a5 m7 (pv 8) (fO (gJ (fO (pv 7) (fO (gB jL (pv 5) (pv 7)) (fO (gB jL (iU ax cH cI x9 (pv 4) (fO (gA Z T.sK) fQ)) (pv 5)) fQ)))) fQ)))
   (fT (iS (iU ax a0 a5 m7 (pv 8) (fO (gJ (fO (gf (pv 3) Z) (fO (ma (pv 3) T.gI T.t6 pG (hr.mono (by decide)) T.tZ .nil gH) (fO (gf (pv 3) Z) fQ)))) fQ)))
   (fW (gD (pv 8))))))))))),?_⟩
  have rel:=hE.gd.rel;have hR:=hE.rd;have hF:=hE.iD;have fl:F.R.gP.length=m.frames.length:=hR.gP.1;have ft:F.R.hJ.length=m.frames.length:=by rw[hR.hJ.1,cM];omega
  refine⟨_,Z,F.f,_,F.dx,_,_,Z,hE.ins,T.ka,T.lA,Z,?_⟩;refine⟨_,Z,F.R.r,_,F.R.dx,_,_,Z,hR.ins,T.gI,T.qk,Z,?_⟩;refine⟨_,Z,F.R.r,_,F.R.dx,_,_,Z,hR.ins,T.gI,T.vF,Z,F.R.ld,_,Z,hR.jH,?_⟩;rw[fG,ft,Nat.min_self];refine⟨F.R.ld,_,hR.jH,trivial,fun od=> ?_⟩;generalize Jh:List.zipWith (fun(x:Nat×Bool×List Nat) (a:Addr)=>((Sum.inl (x.1:Int):L2.Key),V.ref a)) m.frames F.R.hJ=kvs;have hn:=hR.nd;unfold gO.mut at hn;have n1:F.R.r≠F.R.ld:=by intro z;rw[z] at hn;simp at hn
  have i1:(fN H F.R.ld (.jQ od (.dK kvs))) F.R.r=_:=(fU n1).trans hR.ins;refine⟨_,Z,F.R.r,_,F.R.dx,_,_,Z,i1,T.gI,T.vF,Z,F.R.ld,od,kvs,Z,fP,fun D hD=> ?_⟩
  have g0:∀(j:Nat) (k:L2.Key) (x:V),kvs[j]? =some (k,x)->∃(a p:Addr) (y:Nat×Bool×List Nat),x=V.ref a/\m.frames[j]? =some y/\H a=some (Iv (y,p)):=by
   intro j k x hx;rw[<-Jh,List.getElem?_zipWith] at hx;cases h1:m.frames[j]? with
   |none=>rw[h1] at hx;cases hx
   |some y=>
    cases h2:F.R.hJ[j]? with
    |none=>rw[h1,h2] at hx;cases hx
    |some a=>
     rw[h1,h2] at hx;have hj:=(ap.mp h1).1;have h3:F.R.gP[j]? =some F.R.gP[j]:=ak (by omega);exact⟨a,F.R.gP[j],y,(congrArg Prod.snd (af hx)).symm,Z,hR.hJ.2 j a (y,F.R.gP[j]) h2 (by rw[eB];exact⟨h1,h3⟩)⟩
  have kl:kvs.length=m.frames.length:=by rw[<-Jh,fG,ft,Nat.min_self]
  have lfr:=hF.fr;have gk:H F.R.ld=some (.dK kvs):=by rw[<-Jh];exact hR.jH
  have dD:D≠F.R.ld:=fun z=>by rw[z,fP] at hD;cases hD
  have QV:H D=none:=by rw[fU dD] at hD;exact hD
  refine Y3 (d:=F.R.ld) (o:=od) (kvs:=kvs) (fun j H'=>∃acc,H'=fN (fN H F.R.ld (.jQ od (.dK kvs))) D (.lst acc)/\acc.length=((m.frames.take j).filter fun x=>x.2.1).length) ⟨[],Z,Z⟩ (fun j H' _ ⟨acc,e,_⟩=>by rw[e,fU dD.symm];exact fP) ?_ ?_
  ·rintro j k x H' hx ⟨acc,rfl,ha⟩;obtain⟨a,p,y,rfl,hy,ga⟩:=g0 j k x hx;have hj:=(ap.mp hy).1
   have ga2:(fN (fN H F.R.ld (.jQ od (.dK kvs))) D (.lst acc)) a=some (Iv (y,p)):=by
    rw[fU (gh ga QV),fU (pN ga gk (by intro z;cases z))];exact ga
   have al:acc.length<=m.frames.length:=by
    rw[ha];exact a8 (cz _ _) (by rw[aD];omega)
   have nx:∀Ji:List V,Ji.length=acc.length+(if y.2.1=true then 1 else 0)->Ji.length=((m.frames.take (j+1)).filter fun x=>x.2.1).length:=by
    intro Ji h;rw[h,ha,bC,hy,List.filter_append,ag]
    congr 1
    show _=([y].filter fun x=>x.2.1).length;rw[cT,List.filter_nil]
    by_cases hb:y.2.1=true
    ·rw[aw hb,aw hb];rfl
    ·rw[am hb,am hb];rfl
   refine⟨Z,?_⟩;refine⟨_,Z,a,_,_,_,Z,Z,iO.of ga2,iu (j:=0) Z Z,Z,_,Z,?_⟩;cases hb:y.2.1 with
   |true=>
    refine gc (by rfl) ?_;exact⟨_,Z,_,fP,iV (by omega),_,jo,nx _ (by rw[hb,ag];rfl)⟩
   |false=>
    refine gu (by rfl) ?_;exact⟨_,Z,nx _ (by rw[hb];rfl)⟩
  ·rintro H' ⟨acc,rfl,ha⟩;rw[kl,aT] at ha;refine⟨by rw[fU dD.symm];exact fP,?_⟩;rw[X7 dD gk];refine⟨D,acc,Z,.inl (fS.of fP),?_⟩;have s1:fR H (fN H D (.lst acc)):=fR.new QV;rw[ha];generalize Jj:(m.frames.filter fun x=>x.2.1).length=wn at ha;show jS _ _ _ _ (fN H D (.lst acc));generalize fN H D (.lst acc)=H1 at s1;have iK:=hR.same s1;refine⟨_,Z,F.R.r,F.R.dx,_,Z,iK.ins,Z,F.R,st.book,m,Z,iK,hF,fZ (by simp),fun q2 n2=> ?_⟩;have f2:H q2=none:=s1.free n2;have s2:=s1.more (o:=.lst [V.int 0,V.int m.gC.length]) n2;have g2:(fN H1 q2 (.lst [V.int 0,V.int m.gC.length])) q2=some (.lst [V.int 0,V.int m.gC.length]):=fP;generalize fN H1 q2 (.lst [V.int 0,V.int m.gC.length])=H2 at s2 g2;refine⟨_,Z,.inl ⟨Z,_,fS.of g2⟩,fZ (by simp),fun q3 n3=> ?_⟩;have s3:=s2.more (o:=.tup [V.int 0,V.int 1,V.int 2,V.int 3]) n3;have qh:(fN H2 q3 (.tup [V.int 0,V.int 1,V.int 2,V.int 3])) q2=_:=(fU (gh g2 n3)).trans g2;have CG:(fN H2 q3 (.tup [V.int 0,V.int 1,V.int 2,V.int 3])) q3=some (.tup (([0,1,2,3]:List Nat).map nV)):=fP;generalize fN H2 q3 (.tup [V.int 0,V.int 1,V.int 2,V.int 3])=H3 at s3 qh CG;refine⟨q3,Z,⟨_,iO.of CG⟩,fun D2 CH=> ?_⟩;have wK:H F.R.lf=some (.lst ((m.fates.map Int.ofNat).map V.int)):=by rw[hR.iX,bE];rfl
   refine Zt (K:=K) (a:=q3) (xs:=([0,1,2,3]:List Nat).map nV) (fun j H'=>H'=fN H3 D2 (.lst ((([0,1,2,3]:List Nat).take j).map fun k=>nV (fates st.front k)))) Z (fun j H' _ e=>by rw[e];exact iO.of (by rw[fU (gh CG CH)];exact CG)) ?_ ?_
   ·rintro j x H' hx rfl;obtain⟨k,Je,rfl⟩:=kG hx;refine⟨Z,?_⟩;have QW:(fN H3 D2 (.lst ((([0,1,2,3]:List Nat).take j).map fun k=>nV (fates st.front k)))) F.R.lf=some (.lst ((m.fates.map Int.ofNat).map V.int)):=by rw[fU (gh (s3 _ _ wK) CH)];exact s3 _ _ wK
    refine⟨_,Z,.inl ⟨Z,_,fS.of QW⟩,_,Z,F.R.lf,m.fates.map Int.ofNat,(k:Int),Z,Z,fS.of QW,_,fP,iV (by simp;omega),?_⟩;rw[jo,take_snoc Je,ao,uc rel k];rfl
   ·rintro H' rfl;refine⟨q2,D2,_,_,Z,Z,(by rw[fU (gh qh CH)];exact qh),fP,fZ (by simp),?_⟩;have s4:=(s3.more (o:=.lst ((([0,1,2,3]:List Nat).take 4).map fun k=>nV (fates st.front k))) CH).put (o:=.lst ([V.int 0,V.int m.gC.length]++[nV (fates st.front 0),nV (fates st.front 1),nV (fates st.front 2),nV (fates st.front 3)])) f2;show jS _ _ _ _ (fN (fN H3 D2 (.lst ((([0,1,2,3]:List Nat).take 4).map fun k=>nV (fates st.front k)))) q2 (.lst ([V.int 0,V.int m.gC.length]++[nV (fates st.front 0),nV (fates st.front 1),nV (fates st.front 2),nV (fates st.front 3)])));have g4:(fN (fN H3 D2 (.lst ((([0,1,2,3]:List Nat).take 4).map fun k=>nV (fates st.front k)))) q2 (.lst ([V.int 0,V.int m.gC.length]++[nV (fates st.front 0),nV (fates st.front 1),nV (fates st.front 2),nV (fates st.front 3)]))) q2=_:=fP;generalize fN (fN H3 D2 (.lst ((([0,1,2,3]:List Nat).take 4).map fun k=>nV (fates st.front k)))) q2 (.lst ([V.int 0,V.int m.gC.length]++[nV (fates st.front 0),nV (fates st.front 1),nV (fates st.front 2),nV (fates st.front 3)]))=H4 at s4 g4;have QX:=s4 _ _ wK;refine⟨_,Z,.inl ⟨Z,_,fS.of g4⟩,_,Z,_,Z,_,Z,_,_,Z,Z,_,Z,.inl ⟨Z,_,fS.of QX⟩,F.R.lf,m.fates.map Int.ofNat,1,Z,Z,fS.of QX,_,Z,_,_,Z,Z,fZ (by simp),fun q5 n5=> ?_⟩;have mk0:=Y7 rel;have wl:wn<=m.frames.length:=by rw[<-Jj];exact cz _ _
    have e5:([V.int (wn:Int),V.int ((m.frames.length:Int)-(wn:Int)),V.int (((m.fates.map Int.ofNat).count 1:Int)-(m.frames.length:Int))]:List V)=[nV wn,nV (m.frames.length-wn),nV (fates st.front 1-m.frames.length)]:=by
     rw[show(1:Int)=((1:Nat):Int) from Z,uc rel 1];show _=[V.int _,V.int _,V.int _];rw[Int.ofNat_sub wl,Int.ofNat_sub mk0]
    rw[e5];have d25:=gh g4 n5;refine⟨q2,q5,_,_,Z,Z,(by rw[fU d25];exact g4),fP,fZ (by simp),?_⟩;have s5:=(s4.more (o:=.lst [nV wn,nV (m.frames.length-wn),nV (fates st.front 1-m.frames.length)]) n5).put (o:=.lst (([V.int 0,V.int m.gC.length]++[nV (fates st.front 0),nV (fates st.front 1),nV (fates st.front 2),nV (fates st.front 3)])++[nV wn,nV (m.frames.length-wn),nV (fates st.front 1-m.frames.length)])) f2;show jS _ _ _ _ (fN (fN H4 q5 (.lst [nV wn,nV (m.frames.length-wn),nV (fates st.front 1-m.frames.length)])) q2 (.lst (([V.int 0,V.int m.gC.length]++[nV (fates st.front 0),nV (fates st.front 1),nV (fates st.front 2),nV (fates st.front 3)])++[nV wn,nV (m.frames.length-wn),nV (fates st.front 1-m.frames.length)])));have g6:(fN (fN H4 q5 (.lst [nV wn,nV (m.frames.length-wn),nV (fates st.front 1-m.frames.length)])) q2 (.lst (([V.int 0,V.int m.gC.length]++[nV (fates st.front 0),nV (fates st.front 1),nV (fates st.front 2),nV (fates st.front 3)])++[nV wn,nV (m.frames.length-wn),nV (fates st.front 1-m.frames.length)]))) q2=_:=fP;generalize fN (fN H4 q5 (.lst [nV wn,nV (m.frames.length-wn),nV (fates st.front 1-m.frames.length)])) q2 (.lst (([V.int 0,V.int m.gC.length]++[nV (fates st.front 0),nV (fates st.front 1),nV (fates st.front 2),nV (fates st.front 3)])++[nV wn,nV (m.frames.length-wn),nV (fates st.front 1-m.frames.length)]))=H6 at s5 g6;have qf:=hR.same s5;refine⟨_,Z,.inl ⟨Z,_,fS.of g6⟩,_,Z,F.R.r,_,F.R.dx,_,_,Z,qf.ins,T.gI,T.xO,Z,_,Z,F.R.r,F.R.dx,_,Z,qf.ins,Z,F.R,st.book,m,Z,qf,hF,_,Z,F.R.r,_,F.R.dx,_,_,Z,qf.ins,T.gI,T.zP,Z,fZ (by simp),fun q7 n7=> ?_⟩;have d27:=gh g6 n7;refine⟨q2,q7,_,_,Z,Z,(by rw[fU d27];exact g6),fP,fZ (by simp),?_⟩;refine⟨_,Z,?_⟩;refine hq _ q2 ((s5.more n7).put f2) ?_ f2;rw[fP];have e1:(st.front.made.filter fun x=>x.2).length=wn:=by rw[rel.vi,<-bK,dL,bK];exact Jj
    have e2:(st.front.made.filter fun x=> !x.2).length=m.frames.length-wn:=by
     rw[rel.vi,<-bK,dL,<-Jj,bK];have:=L0 (fun x:Nat×Bool×List Nat=>x.2.1) m.frames;show(m.frames.filter fun x=> !x.2.1).length=_;omega
    have e3:st.front.made.length=m.frames.length:=by rw[rel.vi,ac]
    have e4:st.front.wire.length=m.gone:=by rw[rel.Cj,aD];have:=rel.kn;omega
    rw[e1,e2,e3,e4,rel.wait,rel.Iq,rel.oY];rfl
end
open Vbkdaa (guards yieldMost hearAll frameTold decoded samplesIn keptOf)
theorem N5(n:Nat)(e:Ear)(c:Nat):e.bad<=(Vbkdaa.hear n e c).1.bad/\∀f∈(Vbkdaa.hear n e c).2,f.samples.length<=n:=by
 unfold Vbkdaa.hear;split
 ·exact⟨cA _ _,fun f h=>by cases h⟩
 ·split
  ·exact⟨aA _,fun f h=>by cases h⟩
  ·split
   ·split
    ·rename_i f hd;refine⟨aA _,fun g hg=> ?_⟩;rw[aq.mp hg];unfold decoded at hd;split at hd
     ·cases hd
     ·split at hd
      ·cases hd
      ·simp only at hd;split at hd
       ·cases hd
       ·rw[<-af hd];show(samplesIn _ _ _).length<=n;rw[GG,aD];exact Nat.min_le_left _ _
    ·exact⟨Nat.le_succ _,fun f h=>by cases h⟩
   ·exact⟨aA _,fun f h=>by cases h⟩
theorem On(n:Nat):∀(e:Ear) (l:List Nat),e.bad<=(hearAll n e l).1.bad
 |e,[]=>aA _
 |e,c::r=>a8 (N5 n e c).1 (On n _ r)
theorem MB(n:Nat):∀(e:Ear) (l:List Nat),∀f∈(hearAll n e l).2,f.samples.length<=n
 |e,[],f,h=>by cases h
 |e,c::r,f,h=>by
  rcases aG.mp (show f∈(Vbkdaa.hear n e c).2++(hearAll n (Vbkdaa.hear n e c).1 r).2 from h) with h|h
  ·exact(N5 n e c).2 f h
  ·exact MB n _ r f h
section
variable {P:Program} {w:World} {K:PySem.W.Frag} {mg:Str->Option Value} {base:Heap} {AA:gv}
theorem S7:gQ ["front","numbers","yields","settings"] ["front","numbers","yields"] (gM (fY 113)):=gY (by decide+kernel)
theorem S8(T:Tx P w K mg AA):gL P w K mg base gU 3 AA.DS AA.Kk ["front","numbers","yields"] (kE AA 12 true 0):=by
 have pJ:=vJ (base:=base) T;have ua:=zR (base:=base) T;have VN:=U2 (base:=base) T;have SC:=S7;refine T.Eu.fn.ok SC (fun vs H Q E h=> ?_) (fun gz A outer s H vs Q E hr h=> ?_)
 ·obtain⟨F,st,m,c,an,ar,ns,row,rfl,_⟩:=h;rfl
 ·obtain⟨F,st,m,c,an,ar,ns,row,rfl,hE,hc,hn,i7,ly,jX,hk,jV,hq⟩:=h;obtain rfl:=aM.mp hk
  refine⟨_,(fT (gZ (li (lU (ie pJ (hr.mono (by decide)) Z T.lE.mg T.lE.fn.kp T.lE.b .nil gH (fO (pv 2) (fO (gA Z T.UM) (fO (gA Z T.SR) fQ))))))
   (fW (gD (gJ (fO (gA Z T.pH) fQ))))
   ic)
   (fT (gm (i:=3) SC.nd Z (Or.inl Z) (gf (gf (pv 0) Z) Z))
   (fT (gZ (ip mR (Gz Z Z T.max (fO (pv 2) fQ) (yf fX ym)) (ie ua (hr.mono (by decide)) Z T.nM.mg T.nM.fn.kp T.nM.b .nil gH (fO (gW iM (by rfl) T.len aF (fO (gf (pv 3) Z) fQ)) fQ)) (ij _))
     (fW (gD (gJ (fO (gA Z T.SO) fQ))))
     ic)
   (fW (gD (gB j3 (gJ (fO fX fQ)) (ie VN (hr.mono (by decide)) Z T.AD.mg T.AD.fn.kp T.AD.b .nil gH (fO (pv 3) (fO (pv 2) fQ))))))))),?_⟩
  refine⟨_,Z,ar,row,500,100,Z,fS.of i7,by omega,fun H1 s1=> ?_⟩;refine⟨_,Z,?_⟩;have kK:=s1 _ _ i7;have iI:=hE.same s1
  by_cases hb:(decide (row.length<=500)&&row.all fun n=>inside_ n 0 100)=true
  ·refine gu (by rw[hb];rfl) ?_;have ed:decode (iF 12 true [] row)=some (.play row):=oJ hb;rw[aH,aJ] at hb;refine⟨_,Z,F.f,_,F.dx,_,_,Z,iI.ins,T.ka,T.lA,Z,F.R.r,_,F.R.dx,_,_,Z,iI.rd.ins,T.gI,T.lz,Z,?_⟩;have pC:=iI.rd.set;have iD:=pC.iD;have kI:(F.R.S.cs.map V.ref).length=st.book.channels.length:=by rw[ac];exact pC.mw.1
   have zB:fS K H1 ar ((nats row).map nV):=by rw[<-uD hb.2];exact fS.of kK
   refine⟨_,Z,ar,row,0,Z,Z,fS.of kK,fun mx m1 m2=> ?_⟩;refine⟨_,Z,F.R.S.s,_,F.R.S.dx,_,_,Z,pC.ins,T.io,T.nK,Z,F.R.S.lc,_,Z,.inl (fS.of pC.mv),st.book.channels.length,by rw[kI];rfl,by omega,_,_,Z,Z,_,Z,?_⟩
   have e:decide (mx>((yieldMost st.book.channels.length:Nat):Int))=(nats row).any fun y=>decide (yieldMost st.book.channels.length<y):=by
    rw[bJ,aJ,List.any_eq_true]
    by_cases h0:row=[]
    ·rw[m1 h0,h0];constructor
     ·intro z;omega
     ·rintro⟨x,hx,_⟩;cases hx
    ·obtain⟨h1,h2⟩:=m2 h0;constructor
     ·intro z;exact⟨mx.toNat,bi.mpr ⟨mx,h1,Z⟩,ai (by omega)⟩
     ·rintro⟨x,hx,hl⟩;obtain⟨y,hy,rfl⟩:=bi.mp hx;have:=h2 y hy;have:=cF hl;omega
   cases ha:(nats row).any fun y=>decide (yieldMost st.book.channels.length<y) with
   |true=>
    refine gc (e.trans ha) ?_;have hq:=iR hE ((jb ed).trans (nS (vL ha))) hq;exact⟨fZ (by simp),fun q n=>hq _ q (s1.more n) fP (s1.free n)⟩
   |false=>
    refine gu (e.trans ha) ?_;have hq:=iR hE ((jb ed).trans (kS (vM ha))) hq;refine⟨fZ (by simp),fun q2 n2=> ?_⟩;have s2:=s1.more (o:=.lst [V.int 0]) n2;have jm:=hE.same s2;refine⟨_,Z,_,Z,F.R.S,st.book,ar,nats row,Z,jm.rd.set,(fR.new n2).seq zB,by rw[sj];omega,fun H3 p3 s3 f3 g3=> ?_⟩;refine⟨q2,p3,_,_,Z,Z,s3 _ _ fP,g3,fZ (by simp),fun q4 n4=> ?_⟩;refine hq _ q4 ((s2.trans s3).more n4) ?_ ((s2.trans s3).free n4);rw[fP];rfl
  ·rw[bT] at hb;refine gc (by rw[hb];rfl) ?_;have hq:=iR hE (call:=iF 12 true [] row) (oC (show decode [[12],row]=none from oK hb)) hq;exact⟨fZ (by simp),fun q n=>hq _ q (s1.more n) fP (s1.free n)⟩
theorem TL:gQ ["front","numbers","octets","hearing","bad_before","frames","answer","frame"] ["front","numbers","octets"] (gM (fY 115)):=gY (by decide+kernel)
theorem TM(T:Tx P w K mg AA):gL P w K mg base gU 7 AA.D8 AA.KD ["front","numbers","octets"] (kE AA 14 true 0):=by
 have S9:=Sz (base:=base) T;have pJ:=vJ (base:=base) T;have SE:=Sh (base:=base) T;have SC:=TL;refine T.EU.fn.ok SC (fun vs H Q E h=> ?_) (fun gz A outer s H vs Q E hr h=> ?_)
 ·obtain⟨F,st,m,c,an,ar,ns,row,rfl,_⟩:=h;rfl
 ·obtain⟨F,st,m,c,an,ar,ns,row,rfl,hE,hc,hn,i7,ly,jX,hk,jV,hq⟩:=h;obtain rfl:=aM.mp hk
  refine⟨_,(fT (gZ (li (lU (ie pJ (hr.mono (by decide)) Z T.lE.mg T.lE.fn.kp T.lE.b .nil gH (fO (pv 2) (fO (gA Z T.SS) (fO (gA Z T.DX) fQ))))))
   (fW (gD (gJ (fO (gA Z T.pH) fQ))))
   ic)
   (fT (gm (i:=3) SC.nd Z (Or.inl Z) (gf (pv 0) Z))
   (fT (gm (i:=4) SC.nd Z (Or.inl Z) (gf (pv 3) Z))
   (fT (gm (i:=5) SC.nd Z (Or.inl Z) (oG (pv 3) T.kc T.T1 S9 (hr.mono (by decide)) T.Th .nil gH (fO (pv 2) fQ)))
   (fT (gm (i:=6) SC.nd Z (Or.inl Z) (gJ (fO fX (fO (gW iM (by rfl) T.len aF (fO (pv 5) fQ)) fQ))))
   (fT (lG bg Z (md (pv 5)) (iJ (i:=7) SC.nd Z (Or.inl Z))
     (fT (iS (iU ax aI aL kF (pv 6) (fO (hZ jI (pv 7) fX (fun _ _=>rfl)) fQ)))
     (fW (iS (iU ax a0 a5 m7 (pv 6) (fO (ie SE (hr.mono (by decide)) Z T.zN.mg T.zN.fn.kp T.zN.b .nil gH (fO (hZ jI (pv 7) fX (fun _ _=>rfl)) fQ)) fQ))))))
   (fT (iS (iU ax aI aL kF (pv 6) (fO (gB jL (gf (pv 3) Z) (pv 4)) fQ)))
   (fW (gD (pv 6)))))))))),?_⟩
  refine⟨_,Z,ar,row,400,255,Z,fS.of i7,by omega,fun H1 s1=> ?_⟩;refine⟨_,Z,?_⟩;have kK:=s1 _ _ i7;have iI:=hE.same s1
  by_cases hb:(decide (row.length<=400)&&row.all fun n=>inside_ n 0 255)=true
  ·refine gu (by rw[hb];rfl) ?_;have ed:decode (iF 14 true [] row)=some (.feed row):=oJ hb;rw[aH,aJ] at hb;have rV:stepNumbers st (iF 14 true [] row)=({st with ear:=(hearAll st.book.channels.length st.ear (nats row)).1},0::(nat (hearAll st.book.channels.length st.ear (nats row)).2.length::(hearAll st.book.channels.length st.ear (nats row)).2.flatMap frameTold++[nat ((hearAll st.book.channels.length st.ear (nats row)).1.bad-st.ear.bad)])):=(jb ed).trans (kS Z);rw[rV] at hq;rw[uD hb.2] at kK;refine⟨_,Z,F.f,_,F.dx,_,_,Z,iI.ins,T.ka,T.xJ,Z,?_⟩;have rT:=iI.ea;refine⟨_,Z,F.E.h,_,F.E.dx,_,_,Z,rT.ins,T.kc,T.vI,Z,?_⟩;have iD:=iI.rd.set.iD;have nl:(nats row).length<=400:=by rw[sj];exact hb.1
   have el:=hE.el;refine⟨_,Z,F.E.h,F.E.dx,_,Z,rT.ins,Z,_,Z,F.E,st.book.channels.length,st.ear,ar,nats row,Z,rT,kK,fun z=>jX (by simp[iz.mut,z]),by omega,iD,fun H2 lb p2 ts qs o2 l9 xB qS fp g2 jz tN=> ?_⟩;have ml:=Mu st.book.channels.length st.ear (nats row);have bd:=On st.book.channels.length st.ear (nats row);have fc:=MB st.book.channels.length st.ear (nats row);generalize hearAll st.book.channels.length st.ear (nats row)=X at hq xB jz tN ml bd fc;have n0:=iI.nd;unfold iz.mut at n0;have tU:=bj.mp n0;have xC:=dj.mp tU.2
   have m6:jf AA H2 {F with E:={F.E with lb:=lb}} {st with ear:=X.1} m (c+1):={
    ins:=o2 _ _ iI.ins (fun z=>tU.1 (bn _ z))
    rd:=iI.rd.keep o2 (fun a ha z=>xC.2.2 a ha a z Z) (fun a ha z=>iI.sep a ha (by simp[iz.mut,z])) rT.rl
    gd:=hE.gd
    ea:=xB
    nd:=by
     show(F.f::(F.R.mut++(F.E.h::lb.toList))).Nodup
     have key:∀y∈lb.toList,y≠F.f/\y∉F.R.mut/\y≠F.E.h:=by
      intro y hy;have hy:lb=some y:=by simpa using hy
      refine⟨fun z=> ?_,fun z=> ?_,fun z=> ?_⟩
      ·rcases qS y hy with h|h
       ·exact tU.1 (by rw[<-z];exact bn _ h)
       ·rw[z,iI.ins] at h;cases h
      ·rcases qS y hy with h|h
       ·exact xC.2.2 y z y h Z
       ·have:=iI.rd.lM y z;rw[h] at this;cases this
      ·have lw:=xB.rS;rw[hy] at lw;cases e2:X.1.inside with
       |none=>rw[e2] at lw;exact lw
       |some l=>rw[e2] at lw;exact lw.2 z
     refine bj.mpr ⟨fun z=> ?_,dj.mpr ⟨xC.1,?_,fun a ha b lw e=> ?_⟩⟩
     ·rcases aG.mp z with z|z
      ·exact tU.1 (dm _ z)
      ·rcases az.mp z with z|z
       ·exact tU.1 (by rw[z];exact bn _ (by simp[jP.mut]))
       ·exact(key _ z).1 rfl
     ·refine bj.mpr ⟨fun z=>(key _ z).2.2 rfl,?_⟩;cases lb<;>simp
     ·rcases az.mp lw with z|z
      ·exact xC.2.2 a ha F.E.h (by simp[jP.mut]) (by rw[e,z])
      ·exact(key b z).2.1 (by rw[<-e];exact ha)
    sep:=by
     intro a ha z;have xy:=iI.sep a ha;rcases az.mp z with z|z
     ·exact xy (by rw[z];simp[iz.mut])
     ·rcases aG.mp z with z|z
      ·exact xy (by simp[iz.mut,z])
      ·rcases az.mp z with z|z
       ·exact xy (by rw[z];simp[iz.mut,jP.mut])
       ·have hy:lb=some a:=by simpa using z
        rcases qS a hy with h|h
        ·exact xy (by simp[iz.mut,h])
        ·have hd:(H1 a).isSome=true:=iI.rd.Hc a ha;rw[h] at hd;cases hd
    el:=by show(X.1.inside.getD []).length<=400*(c+1);omega}
   have tl:ts.length=X.2.length:=by rw[jz.t.1,cM,jz.q.1];omega
   refine⟨_,Z,p2,_,Z,.inl (fS.of g2),fZ (by simp),fun q3 n3=> ?_⟩;rw[ac,tl];have s3:fR H2 (fN H2 q3 (.lst [V.int 0,V.int (X.2.length:Int)])):=fR.new n3
   have yH:∀i,((X.2.take i).flatMap frameTold).length<=18*X.2.length:=by
    intro i
    have h1:∀(l:List Vbkdaa.Frame),(∀f∈l,f.samples.length<=8)->(l.flatMap frameTold).length<=18*l.length:=by
     intro l
     induction l with
     |nil=>intro _;exact aA _
     |cons f r ih=>
      intro h;have hf:=h f (by simp);have ih:=ih fun g hg=>h g (by simp[hg])
      rw[br,ag,aj,N3,aj,aj,pairs_len];have:=cf (fun x:Option Nat=>x) f.samples;omega
    have:=h1 (X.2.take i) fun f hf=>a8 (fc f (List.mem_of_mem_take hf)) iD
    rw[aD] at this;omega
   refine⟨_,Z,p2,Z,⟨_,fS.of (s3 _ _ g2)⟩,qY (K:=K) (a:=p2) (xs:=ts.map V.ref) (fun i σ H'=>∃v7,σ=[some (.ref F.f),some (.ref an),some (.ref ar),some (.ref F.E.h),some (.int st.ear.bad),some (.ref p2),some (.ref q3),v7]/\fR H2 H'/\H' q3=some (.lst ((0::nat X.2.length::(X.2.take i).flatMap frameTold).map V.int)))
    ⟨none,Z,s3,fP⟩ (fun i σ H' _ ⟨_,_,s,_⟩=>fS.of (s _ _ g2)) ?_ ?_⟩
   ·rintro i x σ H' hx ⟨v7,rfl,s4,g4⟩;obtain⟨t,ht,rfl⟩:=kG hx;have hi:i<X.2.length:=by rw[<-tl];exact(ap.mp ht).1
    have hf:X.2[i]? =some X.2[i]:=ak hi;generalize X.2[i]=f at hf;obtain⟨q,Jk⟩:∃q,qs[i]? =some q:=⟨_,ak (by rw[jz.q.1];exact hi)⟩;have gt:=s4 _ _ (jz.t.2 i t (f,q) ht (by rw[eB];exact⟨hf,Jk⟩));have gq:=s4 _ _ (jz.q.2 i q f Jk hf);have f8:f.samples.length<=8:=a8 (fc f (aS hf)) iD;have QY:=yH i;refine⟨_,Z,.inl ⟨Z,_,fS.of g4⟩,_,Z,t,_,_,_,Z,Z,iO.of gt,iu (j:=0) Z Z,q3,_,_,Z,Z,g4,iV (by simp only[ac,aj];omega),?_⟩;have s5:=s4.put (o:=.lst ((0::nat X.2.length::(X.2.take i).flatMap frameTold).map V.int++[nV f.crossing])) n3;have g5:(fN H' q3 (.lst ((0::nat X.2.length::(X.2.take i).flatMap frameTold).map V.int++[nV f.crossing]))) q3=_:=fP;have QZ:(fN H' q3 (.lst ((0::nat X.2.length::(X.2.take i).flatMap frameTold).map V.int++[nV f.crossing]))) t=_:=(fU (pN gt g4 (by intro z;cases z))).trans gt;have Q0:=s5 _ _ (jz.q.2 i q f Jk hf);generalize fN H' q3 (.lst ((0::nat X.2.length::(X.2.take i).flatMap frameTold).map V.int++[nV f.crossing]))=H5 at s5 g5 QZ Q0;refine⟨_,Z,.inl ⟨Z,_,fS.of g5⟩,_,Z,t,_,_,_,Z,Z,iO.of QZ,iu (j:=1) Z Z,q,f.samples,Z,fS.of Q0,f8,fun H6 p6 s6 f6 g6=> ?_⟩;have pl:=pairs_len f.samples;have pf:=cf (fun x:Option Nat=>x) f.samples;refine⟨q3,p6,_,_,Z,Z,s6 _ _ g5,g6,fZ (by simp only[ac,aj,ag,aZ];omega),?_⟩;refine⟨_,Z,(s5.trans s6).put n3,?_⟩;rw[fP,take_snoc hf,bO,br,List.flatMap_nil,N3];simp only[ao,aB,a7,bL,List.nil_append,bc];rfl
   ·rintro σ H' ⟨v7,rfl,s4,g4⟩;rw[ac,tl,aT] at g4;have QY:=yH X.2.length;rw[aT] at QY;have hF4:=m6.same s4;have CI:=hF4.ea;refine⟨_,Z,.inl ⟨Z,_,fS.of g4⟩,_,Z,F.E.h,_,F.E.dx,_,_,Z,CI.ins,T.kc,T.vI,Z,_,Z,_,_,Z,Z,q3,_,_,Z,Z,g4,iV (by simp only[ac,aj];omega),?_⟩;refine⟨_,Z,?_⟩;have s5:=s4.put (o:=.lst ((0::nat X.2.length::X.2.flatMap frameTold).map V.int++[V.int ((X.1.bad:Int)-(st.ear.bad:Int))])) n3;refine hq _ {F with E:={F.E with lb:=lb}} m q3 Z ?_ ?_ (m6.same s5) ?_ (fun a ha=>.inl ha) ?_ ((s1.grow.trans l9) _ n3)
    ·exact((s1.own).trans (o2.mono (fun y hy=>by simp[iz.mut,hy]))).trans s5.own
    ·exact(s1.grow.trans l9).trans s5.grow
    ·intro a ha;rcases az.mp ha with rfl|ha
     ·exact .inl (by simp[iz.mut])
     ·rcases aG.mp ha with ha|ha
      ·exact .inl (by simp[iz.mut,ha])
      ·rcases az.mp ha with rfl|ha
       ·exact .inl (by simp[iz.mut,jP.mut])
       ·rcases qS a (by simpa using ha) with h|h
        ·exact .inl (by simp[iz.mut,h])
        ·exact .inr (s1.free h)
    ·rw[fP];show some (HO.lst ((0::nat X.2.length::X.2.flatMap frameTold).map V.int++[V.int ((X.1.bad:Int)-(st.ear.bad:Int))]))=_;rw[<-Int.ofNat_sub bd];simp only[ao,aB,bL,cg];rfl
  ·rw[bT] at hb;refine gc (by rw[hb];rfl) ?_;have hq:=iR hE (call:=iF 14 true [] row) (oC (show decode [[14],row]=none from oK hb)) hq;exact⟨fZ (by simp),fun q n=>hq _ q (s1.more n) fP (s1.free n)⟩
end
open Vbkdaa (isBit areSamples wrongSamples cross crossTimes CROSSINGS)
theorem jf.yI{AA:gv}{H H':Hp}{F:iz}{s:State}{m m':RS}{c:Nat}{f':Front}{rs hs ts fs:List Addr}{ar:Addr}(h:jf AA H F s m c)(jX:ar∉F.mut)(nr:∀x∈rs,x∈F.R.rows\/x=ar)(nh:j5 H F.R.gE hs)(nf:j5 H F.R.gP fs)(o:gF F.R.mut H H')
 (hR:ik AA H' {F.R with rows:=rs,gE:=hs,hJ:=ts,gP:=fs} s.book m') (g:Good s.book m' f'):
 jf AA H' {F with R:={F.R with rows:=rs,gE:=hs,hJ:=ts,gP:=fs}} {s with front:=f'} m' (c+1)/\j1 H H'/\(∀a∈iz.deep {F with R:={F.R with rows:=rs,gE:=hs,hJ:=ts,gP:=fs}},a∈F.deep\/a=ar\/H a=none):=by
 have n0:=h.nd;unfold iz.mut at n0;have tU:=bj.mp n0;have xC:=dj.mp tU.2
 have dp:∀a∈iz.deep {F with R:={F.R with rows:=rs,gE:=hs,hJ:=ts,gP:=fs}},a∈F.deep\/a=ar\/H a=none:=by
  intro a ha;have ha:a∈rs++hs++fs++F.R.S.fp:=ha;simp only[aG] at ha;rcases ha with((ha|ha)|ha)|ha
  ·exact(nr a ha).imp (fun z=>by simp[iz.deep,z]) .inl
  ·exact(nh a ha).imp (fun z=>by simp[iz.deep,z]) .inr
  ·exact(nf a ha).imp (fun z=>by simp[iz.deep,z]) .inr
  ·exact .inl (by simp[iz.deep,ha])
 refine⟨{
  ins:=o _ _ h.ins (fun z=>tU.1 (dm _ z))
  rd:=hR
  gd:=g
  ea:=h.ea.keep o (fun a ha z=>xC.2.2 a z a ha Z)
  nd:=h.nd
  sep:= ?_
  el:=by have:=h.el;show(s.ear.inside.getD []).length<=400*(c+1);omega},?_,dp⟩
 ·intro a ha z;have z:a∈F.mut:=z;rcases dp a ha with h1|h1|h1
  ·exact h.sep a h1 z
  ·exact jX (by rw[<-h1];exact z)
  ·have:=h.lM a z;rw[h1] at this;cases this
 ·exact fun b hb=>hR.free (L:={F.R with rows:=rs,gE:=hs,hJ:=ts,gP:=fs}) o hb
theorem MC{b:Book}{m:RS}{f:Front}{d:Done}(r:j8 b m f)(h:f.done.head?=some d):0<m.fates.length/\m.fates[m.fates.length-1]? =some d.fate/\m.gC[m.gC.length-1]? =some d.busy:=by
 have e1:=AG f.done (·.fate);have e2:=AG f.done (·.busy);rw[<-r.iX,h,cy] at e1;rw[<-r.jg,h,cy] at e2;refine⟨?_,e1,e2⟩;rw[r.oX];cases e:f.done with
 |nil=>rw[e] at h;cases h
 |cons x l=>simp
theorem L1(b:Book)(f:Front)(a:Bool)(s:List Nat):∃d,(cross b f a s).done.head?=some d:=⟨_,Z⟩
theorem VO(b:Book)(f:Front)(a:Bool)(s:List Nat){n:Nat}(h:0<n):∃d,(crossTimes b n f a s).done.head?=some d:=by
 obtain⟨k,rfl⟩:∃k,n=k+1:=⟨n-1,by omega⟩;rw[zM];exact L1 _ _ _ _
theorem Ln(b:Book)(m:RS)(a:Bool)(s:List Nat):∀n:Nat,∃more,(pM b n m a s).fates=m.fates++more/\more.length=n
 |0=>⟨[],(bc _).symm,Z⟩
 |n+1=>by
  obtain⟨more,e,l⟩:=Ln b m a s n;refine⟨more++[kT b (pM b n m a s).fates (pM b n m a s).gC a],?_,by rw[ag,l];rfl⟩;rw[<-a7,<-e];rfl
theorem Y8(xs:List V){k:Nat}(h:0<k):j0 xs (some (-(k:Int))) none=xs.drop (xs.length-k):=by
 unfold j0
 have e1:HT.kM xs.length 0 (some (-(k:Int)))=xs.length-k:=by
  show(if (-(k:Int))<0 then(-(k:Int)+(xs.length:Int)).toNat else min (-(k:Int)).toNat xs.length)=xs.length-k;rw[aw (by omega)];omega
 have e2:HT.kM xs.length xs.length none=xs.length:=rfl;rw[e1,e2,aV (by rw[aW];omega)]
section
variable {P:Program} {w:World} {K:PySem.W.Frag} {mg:Str->Option Value} {base:Heap} {AA:gv}
theorem TN:gQ ["front","numbers","samples","asked","readout","refusal"] ["front","numbers","samples"] (gM (fY 104)):=gY (by decide+kernel)
theorem TQ(T:Tx P w K mg AA):gL P w K mg base gU 6 AA.D4 AA.Kz ["front","numbers","samples"] (kE AA 3 true 1):=by
 have C9:=JA (base:=base) T;have DN:=JZ (base:=base) T;have pG:=xI (base:=base) T;have xP:=DO (base:=base) T;have SC:=TN;refine T.EQ.fn.ok SC (fun vs H Q E h=> ?_) (fun gz A outer s H vs Q E hr h=> ?_)
 ·obtain⟨F,st,m,c,an,ar,ns,row,rfl,_⟩:=h;rfl
 ·obtain⟨F,st,m,c,an,ar,ns,row,rfl,hE,hc,hn,i7,ly,jX,hk,jV,hq⟩:=h;obtain⟨k,rfl⟩:=cP.mp hk
  refine⟨_,(fT (gm (i:=3) SC.nd Z (Or.inl Z) (hZ jc (pv 1) fX (fun _ _=>rfl)))
   (fT (gZ (PW.pt (pO (li (qo jv jv fX (pv 3) fX)) (qx (li (lU (ie xP (hr.mono (by decide)) Z T.qm.mg T.qm.fn.kp T.qm.b .nil gH (fO (pv 2) fQ)))))))
     (fW (gD (gJ (fO (gA Z T.pH) fQ))))
     ic)
   (fT (gm (i:=4) SC.nd Z (Or.inl Z) (gf (pv 0) Z))
   (fT (gm (i:=5) SC.nd Z (Or.inl Z) (ie C9 (hr.mono (by decide)) Z T.tY.mg T.tY.fn.kp T.tY.b .nil gH (fO (pv 4) (fO fX (fO (pv 2) fQ)))))
   (fT (gZ (ip sG (pv 5) fX (ij _))
     (fW (gD (gJ (fO (pv 5) fQ))))
     ic)
   (fT (iS (oG (pv 4) T.gI T.KH DN (hr.mono (by decide)) T.Kn .nil gH (fO (pv 3) (fO (pv 2) fQ))))
   (fW (gD (gJ (fO fX (fO (hZ jc (gf (pv 4) Z) (qC qy fX) (fun _ _=>rfl)) (fO (ma (pv 4) T.gI T.t6 pG (hr.mono (by decide)) T.tZ .nil gH) (fO (hZ jc (gf (pv 4) Z) (qC qy fX) (fun _ _=>rfl)) fQ))))))))))))),?_⟩
  refine⟨_,Z,an,_,_,_,Z,Z,fS.of hn,iu (j:=0) Z Z,?_⟩;have jy:(isBit k&&areSamples row)=false->∀H1,fR H H1->∀q,H1 q=none->Q (.ref q) (fN H1 q (.lst [V.int (-1)])):=fun h H1 s1 q n=>iR hE (call:=iF 3 true [k] row) (oC (show decode [[3,k],row]=none from oK h)) hq _ q (s1.more n) fP (s1.free n)
  refine⟨_,Z,_,_,Z,Z,_,Z,?_⟩
  by_cases c1:0<=k
  ·refine gc (ai c1) ?_;refine⟨_,_,Z,Z,_,Z,?_⟩
   by_cases c2:k<=1
   ·refine gu (by rw[ai c2];rfl) ?_;refine⟨_,Z,ar,row,Z,fS.of i7,by omega,fun H1 s1=> ?_⟩;refine⟨_,Z,?_⟩
    by_cases hb:areSamples row=true
    ·refine gu (by rw[hb];rfl) ?_
     obtain⟨asked,rfl⟩:∃b:Bool,k=(if b=true then 1 else 0):=by
      by_cases z:k=1
      ·exact⟨true,z⟩
      ·exact⟨false,by show k=0;omega⟩
     have ed:decode (iF 3 true [if asked=true then 1 else 0] row)=some (.cross (if asked=true then(1:Int) else 0).toNat row):=oJ (by rw[hb];unfold isBit inside_;rw[ai c1,ai c2];rfl);have ea:((if asked=true then(1:Int) else 0).toNat==1)=asked:=by cases asked<;>rfl
     unfold areSamples at hb;rw[aH,aJ] at hb;have iI:=hE.same s1;have iK:=iI.rd;have rel:=hE.gd.rel;have lB:=rel.oY;have kK:=s1 _ _ i7;refine⟨_,Z,F.f,_,F.dx,_,_,Z,iI.ins,T.ka,T.lA,Z,?_⟩;refine⟨_,Z,_,Z,F.R,st.book,m,1,ar,row,Z,iK,hE.iD,fS.of kK,by omega,?_⟩;refine⟨_,Z,_,_,Z,Z,_,Z,?_⟩
     by_cases d1:row.length=st.book.channels.length
     ·rw[am (show¬row.length≠st.book.channels.length from fun z=>z d1)];have g1:(wrongSamples st row).1=false:=by unfold wrongSamples;rw[d1];exact bne_self_eq_false _
      by_cases d2:CROSSINGS<=st.front.done.length
      ·rw[aw (show 400<(m.gC.length:Int)+1 by have:400<=st.front.done.length:=d2;omega)];refine gc Z ?_;have hq:=iR hE ((jb ed).trans (nS ((vN g1).trans (vL (ai d2))))) hq;exact⟨_,Z,fZ (by simp),fun q n=>hq _ q (s1.more n) fP (s1.free n)⟩
      ·have zC:st.front.done.length<400:=by have:¬400<=st.front.done.length:=d2;omega
       rw[am (show¬400<(m.gC.length:Int)+1 by omega)];refine gu Z ?_;have rV:=(jb (s:=st) ed).trans (kS ((vN g1).trans (vM (ae d2))));rw[ea] at rV;rw[rV] at hq;have zB:H1 ar=some (.lst ((nats row).map nV)):=by rw[<-uD hb.2];exact kK
       have sl:(nats row).length=st.book.channels.length:=by rw[sj];exact d1
       have sv:=N4 hb.2 (k:=4096) (by decide);refine⟨_,Z,F.R.r,F.R.dx,_,Z,iK.ins,Z,_,Z,_,Z,F.R,st.book,m,st.front,asked,ar,nats row,(by cases asked<;>rfl),iK,hE.gd,zC,zB,fun z=>jX (by simp[iz.mut,z]),sl,sv,fun H2 rs hs ts fs nr nh nf o2 iT=> ?_⟩;have G2:=hE.gd.yI zC asked (nats row) sl sv;obtain⟨jm,l9,Jl⟩:=iI.yI jX nr nh nf o2 iT G2;obtain⟨d,hd⟩:=L1 st.book st.front asked (nats row);obtain⟨l0,l1,l2⟩:=MC G2.rel hd;have Jm:(pP st.book m asked (nats row)).gC.length=(pP st.book m asked (nats row)).fates.length:=by rw[G2.rel.oY,G2.rel.oX]
       have wq:=G2.rel.wait;generalize cross st.book st.front asked (nats row)=f2 at hq jm G2 hd wq;generalize pP st.book m asked (nats row)=m2 at jm iT G2 l0 l1 l2 Jm wq;refine⟨_,Z,F.R.r,_,F.R.dx,_,_,Z,iT.ins,T.gI,T.qk,Z,_,Z,F.R.lf,_,_,_,Z,Z,fS.of iT.iX,wa (k:=1) (by decide) (by rw[ac];omega) (by rw[ac,au,l1];rfl),?_⟩;refine⟨_,Z,F.R.r,F.R.dx,_,Z,iT.ins,Z,{F.R with rows:=rs,gE:=hs,hJ:=ts,gP:=fs},st.book,m2,Z,iT,jm.iD,?_⟩;refine⟨_,Z,F.R.r,_,F.R.dx,_,_,Z,iT.ins,T.gI,T.r0,Z,_,Z,F.R.lb,_,_,_,Z,Z,fS.of iT.jg,wa (k:=1) (by decide) (by rw[ac];omega) (by rw[ac,au,l2];rfl),fZ (by simp),fun q3 n3=> ?_⟩;have s3:∀o,fR H2 (fN H2 q3 o):=fun o=>fR.new n3
       refine hq _ {F with R:={F.R with rows:=rs,gE:=hs,hJ:=ts,gP:=fs}} m2 q3 Z (((s1.own).trans (o2.mono fun y hy=>by simp[iz.mut,hy])).trans (s3 _).own) ((s1.grow.trans l9).trans (s3 _).grow) (jm.same (s3 _)) (fun a ha=>.inl ha) ?_ ?_ ((s1.grow.trans l9) _ n3)
       ·exact fun a ha=>(Jl a ha).imp id (fun z=>z.imp id fun y=>s1.free y)
       ·rw[fP,hd,wq];show _=some (HO.lst [V.int 0,V.int (d.fate:Int),V.int (ig m2:Int),V.int (flag d.busy)]);cases d.busy<;>rfl
     ·rw[aw d1];refine gc Z ?_;have hq:=iR hE ((jb ed).trans (nS (FO (by unfold wrongSamples;exact bne_iff_ne.mpr d1)))) hq;exact⟨_,Z,fZ (by simp),fun q n=>hq _ q (s1.more n) fP (s1.free n)⟩
    ·rw[bT] at hb;refine gc (by rw[hb];rfl) ?_;exact⟨fZ (by simp),jy (by rw[hb,dB]) H1 s1⟩
   ·refine gc (by rw[ae c2];rfl) ?_;refine gc Z ?_;exact⟨fZ (by simp),jy (by unfold isBit inside_;rw[ae c2];simp) H fR.kH⟩
  ·refine gu (ae c1) ?_;refine⟨_,Z,?_⟩;refine gc Z ?_;refine gc Z ?_;exact⟨fZ (by simp),jy (by unfold isBit inside_;rw[ae c1];simp) H fR.kH⟩
theorem Ta:gQ ["front","numbers","samples","often","asked","readout","refusal"] ["front","numbers","samples"] (gM (fY 105)):=gY (by decide+kernel)
theorem Tb(T:Tx P w K mg AA):gL P w K mg base gU 7 AA.DP AA.Kh ["front","numbers","samples"] (kE AA 4 true 2):=by
 have C9:=JA (base:=base) T;have RB:=Rp (base:=base) T;have pG:=xI (base:=base) T;have xP:=DO (base:=base) T;have SC:=Ta;refine T.Er.fn.ok SC (fun vs H Q E h=> ?_) (fun gz A outer s H vs Q E hr h=> ?_)
 ·obtain⟨F,st,m,c,an,ar,ns,row,rfl,_⟩:=h;rfl
 ·obtain⟨F,st,m,c,an,ar,ns,row,rfl,hE,hc,hn,i7,ly,jX,hk,jV,hq⟩:=h
  obtain⟨n,k,rfl⟩:∃n k,ns=[n,k]:=by
   match ns,hk with
   |[i,k],_=>exact⟨i,k,Z⟩
  refine⟨_,(fT (gm (i:=3) SC.nd Z (Or.inl Z) (hZ jc (pv 1) fX (fun _ _=>rfl)))
   (fT (gm (i:=4) SC.nd Z (Or.inl Z) (hZ jc (pv 1) fX (fun _ _=>rfl)))
   (fT (gZ (PW.pt (pO (li (qo jv jv fX (pv 3) (gA Z T.Vp))) (pO (li (qo jv jv fX (pv 4) fX)) (qx (li (lU (ie xP (hr.mono (by decide)) Z T.qm.mg T.qm.fn.kp T.qm.b .nil gH (fO (pv 2) fQ))))))))
     (fW (gD (gJ (fO (gA Z T.pH) fQ))))
     ic)
   (fT (gm (i:=5) SC.nd Z (Or.inl Z) (gf (pv 0) Z))
   (fT (gm (i:=6) SC.nd Z (Or.inl Z) (ie C9 (hr.mono (by decide)) Z T.tY.mg T.tY.fn.kp T.tY.b .nil gH (fO (pv 5) (fO (pv 3) (fO (pv 2) fQ)))))
   (fT (gZ (ip sG (pv 6) fX (ij _))
     (fW (gD (gJ (fO (pv 6) fQ))))
     ic)
   (fT (iS (oG (pv 5) T.gI T.RO RB (hr.mono (by decide)) T.RE .nil gH (fO (pv 3) (fO (pv 4) (fO (pv 2) fQ)))))
   (fW (gD (gJ (fO fX (fO (iU ax cH cI x9 (oE oH (gf (pv 5) Z) (kq (qC qy (pv 3))) Gs) (fO (gA Z T.sK) fQ)) (fO (ma (pv 5) T.gI T.t6 pG (hr.mono (by decide)) T.tZ .nil gH) (fO (hZ jc (gf (pv 5) Z) (qC qy fX) (fun _ _=>rfl)) fQ)))))))))))))),?_⟩
  refine⟨_,Z,an,_,_,_,Z,Z,fS.of hn,iu (j:=0) Z Z,?_⟩;refine⟨_,Z,an,_,_,_,Z,Z,fS.of hn,iu (j:=1) Z Z,?_⟩;have jy:(inside_ n 1 100&&(isBit k&&areSamples row))=false->∀H1,fR H H1->∀q,H1 q=none->Q (.ref q) (fN H1 q (.lst [V.int (-1)])):=fun h H1 s1 q n1=>iR hE (call:=iF 4 true [n,k] row) (oC (show decode [[4,n,k],row]=none from oK h)) hq _ q (s1.more n1) fP (s1.free n1)
  refine⟨_,Z,_,_,Z,Z,_,Z,?_⟩
  by_cases b1:1<=n
  ·refine gc (ai b1) ?_;refine⟨_,_,Z,Z,_,Z,?_⟩
   by_cases b2:n<=100
   ·refine gu (by rw[ai b2];rfl) ?_;refine⟨_,Z,_,_,Z,Z,_,Z,?_⟩
    by_cases c1:0<=k
    ·refine gc (ai c1) ?_;refine⟨_,_,Z,Z,_,Z,?_⟩
     by_cases c2:k<=1
     ·refine gu (by rw[ai c2];rfl) ?_;refine⟨_,Z,ar,row,Z,fS.of i7,by omega,fun H1 s1=> ?_⟩;refine⟨_,Z,?_⟩
      by_cases hb:areSamples row=true
      ·refine gu (by rw[hb];rfl) ?_
       obtain⟨asked,rfl⟩:∃b:Bool,k=(if b=true then 1 else 0):=by
        by_cases z:k=1
        ·exact⟨true,z⟩
        ·exact⟨false,by show k=0;omega⟩
       obtain⟨n,rfl⟩:=bB (show 0<=n by omega);have ed:decode (iF 4 true [(n:Int),if asked=true then 1 else 0] row)=some (.times (n:Int).toNat (if asked=true then(1:Int) else 0).toNat row):=oJ (by rw[hb];unfold isBit inside_;rw[ai b1,ai b2,ai c1,ai c2];rfl);have ea:((if asked=true then(1:Int) else 0).toNat==1)=asked:=by cases asked<;>rfl
       rw[a6] at ed;unfold areSamples at hb;rw[aH,aJ] at hb;have iI:=hE.same s1;have iK:=iI.rd;have rel:=hE.gd.rel;have lB:=rel.oY;have lF:=rel.oX;have kK:=s1 _ _ i7;refine⟨_,Z,F.f,_,F.dx,_,_,Z,iI.ins,T.ka,T.lA,Z,?_⟩;refine⟨_,Z,_,Z,_,Z,F.R,st.book,m,n,ar,row,Z,iK,hE.iD,fS.of kK,by omega,?_⟩;refine⟨_,Z,_,_,Z,Z,_,Z,?_⟩
       by_cases d1:row.length=st.book.channels.length
       ·rw[am (show¬row.length≠st.book.channels.length from fun z=>z d1)];have g1:(wrongSamples st row).1=false:=by unfold wrongSamples;rw[d1];exact bne_self_eq_false _
        by_cases d2:CROSSINGS<st.front.done.length+n
        ·rw[aw (show 400<(m.gC.length:Int)+(n:Int) by have:400<st.front.done.length+n:=d2;omega)];refine gc Z ?_;have hq:=iR hE ((jb ed).trans (nS ((vN g1).trans (vL (ai d2))))) hq;exact⟨_,Z,fZ (by simp),fun q n=>hq _ q (s1.more n) fP (s1.free n)⟩
        ·have zC:st.front.done.length+n<=400:=by have:¬400<st.front.done.length+n:=d2;omega
         rw[am (show¬400<(m.gC.length:Int)+(n:Int) by omega)];refine gu Z ?_;have rV:=(jb (s:=st) ed).trans (kS ((vN g1).trans (vM (ae d2))));rw[ea] at rV;rw[rV] at hq;have zB:H1 ar=some (.lst ((nats row).map nV)):=by rw[<-uD hb.2];exact kK
         have sl:(nats row).length=st.book.channels.length:=by rw[sj];exact d1
         have sv:=N4 hb.2 (k:=4096) (by decide);refine⟨_,Z,F.R.r,F.R.dx,_,Z,iK.ins,Z,_,Z,_,Z,_,Z,F.R,st.book,m,st.front,n,asked,ar,nats row,(by cases asked<;>rfl),iK,hE.gd,zC,zB,fun z=>jX (by simp[iz.mut,z]),sl,sv,fun H2 rs hs ts fs nr nh nf o2 iT=> ?_⟩;have G2:=Fa hE.gd asked (nats row) sl sv n zC;obtain⟨jm,l9,Jl⟩:=iI.yI jX nr nh nf o2 iT G2;obtain⟨d,hd⟩:=VO st.book st.front asked (nats row) (by omega:0<n);obtain⟨l0,l1,l2⟩:=MC G2.rel hd;obtain⟨more,em,eml⟩:=Ln st.book m asked (nats row) n;have Jm:(pM st.book n m asked (nats row)).gC.length=(pM st.book n m asked (nats row)).fates.length:=by rw[G2.rel.oY,G2.rel.oX]
         have wq:=G2.rel.wait;have k1:=uc G2.rel 1;have k0:=uc rel 1;generalize crossTimes st.book n st.front asked (nats row)=f2 at hq jm G2 hd wq k1;generalize pM st.book n m asked (nats row)=m2 at jm iT G2 l0 l1 l2 Jm wq em k1;refine⟨_,Z,F.R.r,_,F.R.dx,_,_,Z,iT.ins,T.gI,T.qk,Z,_,Z,_,Z,_,Z,F.R.lf,_,Z,fS.of iT.iX,fun q3 n3=> ?_⟩
         have ec:j0 (m2.fates.map nV) (some (-(n:Int))) none=(more.map Int.ofNat).map V.int:=by
          rw[Y8 _ (by omega),em,ac,ag,eml,ao,List.drop_left' (by rw[ac];omega),bE];rfl
         rw[ec];have s3:∀o,fR H2 (fN H2 q3 o):=fun o=>fR.new n3
         have kC:=iT.same (s3 (.lst ((more.map Int.ofNat).map V.int)));refine⟨.inl ⟨Z,_,fS.of fP⟩,q3,more.map Int.ofNat,1,Z,Z,fS.of fP,?_⟩;refine⟨_,Z,F.R.r,F.R.dx,_,Z,kC.ins,Z,{F.R with rows:=rs,gE:=hs,hJ:=ts,gP:=fs},st.book,m2,Z,kC,jm.iD,?_⟩;refine⟨_,Z,F.R.r,_,F.R.dx,_,_,Z,kC.ins,T.gI,T.r0,Z,_,Z,F.R.lb,_,_,_,Z,Z,fS.of kC.jg,wa (k:=1) (by decide) (by rw[ac];omega) (by rw[ac,au,l2];rfl),fZ (by simp),fun q4 n4=> ?_⟩;have s4:∀o,fR H2 (fN (fN H2 q3 (.lst ((more.map Int.ofNat).map V.int))) q4 o):=fun o=>(s3 _).more n4
         refine hq _ {F with R:={F.R with rows:=rs,gE:=hs,hJ:=ts,gP:=fs}} m2 q4 Z (((s1.own).trans (o2.mono fun y hy=>by simp[iz.mut,hy])).trans (s4 _).own) ((s1.grow.trans l9).trans (s4 _).grow) (jm.same (s4 _)) (fun a ha=>.inl ha) ?_ ?_ ((s1.grow.trans l9) _ ((s3 _).free n4))
         ·exact fun a ha=>(Jl a ha).imp id (fun z=>z.imp id fun y=>s1.free y)
         ·have k2:((more.map Int.ofNat).count 1:Nat)=fates f2 1-fates st.front 1:=by
           rw[em,ao,List.count_append] at k1;rw[<-k0,<-k1];show _=_+List.count (1:Int) _-_;omega
          rw[fP,hd,wq,<-k2];show _=some (HO.lst [V.int 0,V.int ((more.map Int.ofNat).count 1:Nat),V.int (ig m2:Int),V.int (flag d.busy)]);cases d.busy<;>rfl
       ·rw[aw d1];refine gc Z ?_;have hq:=iR hE ((jb ed).trans (nS (FO (by unfold wrongSamples;exact bne_iff_ne.mpr d1)))) hq;exact⟨_,Z,fZ (by simp),fun q n=>hq _ q (s1.more n) fP (s1.free n)⟩
      ·rw[bT] at hb;refine gc (by rw[hb];rfl) ?_;exact⟨fZ (by simp),jy (by rw[hb,dB,dB]) H1 s1⟩
     ·refine gc (by rw[ae c2];rfl) ?_;refine gc Z ?_;exact⟨fZ (by simp),jy (by unfold isBit inside_;rw[ae c2];simp) H fR.kH⟩
    ·refine gu (ae c1) ?_;refine⟨_,Z,?_⟩;refine gc Z ?_;refine gc Z ?_;exact⟨fZ (by simp),jy (by unfold isBit inside_;rw[ae c1];simp) H fR.kH⟩
   ·refine gc (by rw[ae b2];rfl) ?_;refine gc Z ?_;exact⟨fZ (by simp),jy (by unfold inside_;rw[ae b2];simp) H fR.kH⟩
  ·refine gu (ae b1) ?_;refine⟨_,Z,?_⟩;refine gc Z ?_;refine gc Z ?_;exact⟨fZ (by simp),jy (by unfold inside_;rw[ae b1];simp) H fR.kH⟩
end
open Vbkdaa (isText fresh quiet noBook)
theorem jf.made{AA:gv}{H5:Hp}{f dx x2 rW:Addr}{LR:gO}{b:Book}{fs:List (Str×V)}{c:Nat}(hf:H5 f=some (.ins AA.j9 dx fs))(hR:ik AA H5 LR b ox)(e1:LR.rows=[])(e2:LR.gE=[])(e3:LR.gP=[])(hA:kz AA H5 ⟨x2,rW,none⟩ b.channels.length quiet)
 (qg:f∉LR.mut) (rP:f≠x2) (nx:x2∉LR.mut) (BY:f∉LR.S.fp) (nxp:x2∉LR.S.fp) (hB:nX b):jf AA (fN H5 f (.ins AA.j9 dx (qT ⟨f,dx,LR,⟨x2,rW,none⟩⟩))) ⟨f,dx,LR,⟨x2,rW,none⟩⟩ ⟨b,fresh,quiet⟩ ox c:=by
 refine jf.build (F:=⟨f,dx,LR,⟨x2,rW,none⟩⟩) (s:=⟨b,fresh,quiet⟩) hf hR (aaE hB) hA ?_ ?_ (aN _)
 ·show(f::(LR.mut++[x2])).Nodup;refine bj.mpr ⟨fun z=> ?_,dj.mpr ⟨hR.nd,by simp,fun a ha b hb e=> ?_⟩⟩
  ·rcases aG.mp z with z|z
   ·exact qg z
   ·exact rP (aq.mp z)
  ·rw[aq.mp hb] at e;exact nx (by rw[<-e];exact ha)
 ·intro a ha z;have Jn:a∈LR.rows++LR.gE++LR.gP++LR.S.fp:=ha;have ha:a∈LR.S.fp:=by rw[e1,e2,e3] at Jn;simpa using Jn
  rcases az.mp z with z|z
  ·have z:a=f:=z;exact BY (by rw[<-z];exact ha)
  ·rcases aG.mp z with z|z
   ·exact hR.sep a Jn z
   ·have z:a=x2:=by simpa [jP.mut] using z
    exact nxp (by rw[<-z];exact ha)
section
variable {P:Program} {w:World} {K:PySem.W.Frag} {mg:Str->Option Value} {base:Heap} {AA:gv}
theorem Sj:gQ ["front","numbers","text","settings","channels"] ["front","numbers","text"] (gM (fY 101)):=gY (by decide+kernel)
theorem Sk(T:Tx P w K mg AA):gL P w K mg base gU 6 AA.Dq AA.JX ["front","numbers","text"] (kE AA 0 true 0):=by
 have FS:=LU (base:=base) T;have yb:=Fb (base:=base) T;have pJ:=vJ (base:=base) T;have Dz:=JQ (base:=base) T;have ua:=zR (base:=base) T;have SC:=Sj;refine T.DT.fn.ok SC (fun vs H Q E h=> ?_) (fun gz A outer s H vs Q E hr h=> ?_)
 ·obtain⟨F,st,m,c,an,ar,ns,row,rfl,_⟩:=h;rfl
 ·obtain⟨F,st,m,c,an,ar,ns,row,rfl,hE,hc,hn,i7,ly,jX,hk,jV,hq⟩:=h;obtain rfl:=aM.mp hk;obtain⟨EX,zD⟩:∃EX:XK,EX=fun v o H'=>∃f:VbkdCore.Fault,Vbkdaa.read (nats row)=.error f/\fR H H':=⟨_,Z⟩
  refine⟨_,(fT (gZ (li (lU (ie pJ (hr.mono (by decide)) Z T.lE.mg T.lE.fn.kp T.lE.b .nil gH (fO (pv 2) (fO (gA Z T.KL) (fO (gA Z T.DX) fQ))))))
   (fW (gD (gJ (fO (gA Z T.pH) fQ))))
   ic)
   (fT (ZE (E:=EX) Z Z T.xc Z T.mM (fun XE pn hp=>(fW (gm (i:=3) SC.nd Z (Or.inl Z) (ie Dz (hr.mono (by decide)) Z T.t9.mg T.t9.fn.kp T.t9.b .nil hp (fO (pv 2) fQ)))))
     (fun e=>(fW (gD (gJ (fO (gA Z T.SN) fQ))))))
   (fT (gm (i:=4) SC.nd Z (Or.inl Z) (gW iM (by rfl) T.len aF (fO (gf (pv 3) Z) fQ)))
   (fT (jt (pv 0) (uy T.MV FS (hr.mono (by decide)) Z T.Ml T.MW .nil gH (fO (pv 3) fQ)) Z)
   (fT (jt (pv 0) (uy T.F3 yb (hr.mono (by decide)) Z T.FF T.F9 .nil gH (fO (pv 4) fQ)) Z)
   (fW (gD (gJ (fO fX (fO (pv 4) (fO (ie ua (hr.mono (by decide)) Z T.nM.mg T.nM.fn.kp T.nM.b .nil gH (fO (pv 4) fQ)) fQ))))))))))),?_⟩
  refine⟨_,Z,ar,row,1000,255,Z,fS.of i7,by omega,fun H1 s1=> ?_⟩;refine⟨_,Z,?_⟩;have kK:=s1 _ _ i7;have iI:=hE.same s1
  by_cases hb:(decide (row.length<=1000)&&row.all fun n=>inside_ n 0 255)=true
  ·refine gu (by rw[hb];rfl) ?_;have ed:decode (iF 0 true [] row)=some (.settings row):=oJ hb;rw[aH,aJ] at hb;rw[uD hb.2] at kK;refine⟨⟨_,Z,ar,nats row,Z,kK,by rw[sj];exact hb.1,?_,?_⟩,?_⟩
   ·intro f hf H' dx s2 n2 g2;rw[zD];exact⟨f,hf,s1.trans s2⟩
   ·intro b tV H2 L s2 hS hB pl fp
    have er:Vbkdaa.does st (.settings row)=.ok (⟨b,fresh,quiet⟩,[nat b.channels.length,nat (yieldMost b.channels.length)]):=by
     show(match Vbkdaa.read (nats row) with|.error _=>_|.ok b=>_)=_;rw[tV]
    have rV:=(jb (s:=st) ed).trans (kS er);rw[rV] at hq;have nG:=s1.trans s2;have iD:=hS.iD;have kI:(L.cs.map V.ref).length=b.channels.length:=by rw[ac];exact hS.mw.1
    refine⟨_,Z,L.s,_,L.dx,_,_,Z,hS.ins,T.io,T.nK,Z,L.lc,_,Z,.inl (fS.of hS.mv),?_⟩;rw[kI];refine⟨_,Z,fun x dx nx nd CA=> ?_⟩;refine⟨x,dx,L,b,Z,fP,hS.same ((fR.new nd).put nx),(fun z=>(by have:=hS.xh x z;rw[nx] at this;cases this)),fun H3 LR eR eS o3 kC BR r1 r2 r3=>⟨Z,?_⟩⟩;subst eR;subst eS;have s3:fR H2 H3:=fR.made nx nd fun b o e n=>o3 b o e (by simpa using n)
    have f3:=s3 _ _ (nG _ _ hE.ins);refine⟨_,Z,F.f,_,F.dx,_,Z,f3,T.ka,T.lA,(by show 2<1000;decide),?_⟩
    have zE:∀y∈LR.mut,H2 y=none:=fun y hy=>by
     rcases BR y hy with h|h
     ·rw[h];exact nx
     ·exact((fR.new nd).put nx).free h
    have zF:∀y∈LR.S.fp,H1 y=none:=fp;have qg:F.f∉LR.mut:=fun z=>by have:=zE _ z;rw[nG _ _ hE.ins] at this;cases this
    have rP:F.f∉LR.S.fp:=fun z=>by have:=zF _ z;rw[s1 _ _ hE.ins] at this;cases this
    have o4:gF [F.f] H3 (fN H3 F.f (.ins AA.j9 F.dx (L2.jC "readout" (.ref LR.r) (qT F)))):=gF.refl.put (by simp);have g4:(fN H3 F.f (.ins AA.j9 F.dx (L2.jC "readout" (.ref LR.r) (qT F)))) F.f=_:=fP;have Q3:j1 H3 (fN H3 F.f (.ins AA.j9 F.dx (L2.jC "readout" (.ref LR.r) (qT F)))):=j1.refl.put;show jS _ _ _ _ (fN H3 F.f (.ins AA.j9 F.dx (L2.jC "readout" (.ref LR.r) (qT F))));generalize fN H3 F.f (.ins AA.j9 F.dx (L2.jC "readout" (.ref LR.r) (qT F)))=H4 at o4 g4 Q3
    have lx:ik AA H4 LR b ox:=kC.keep o4 (fun a ha z=>qg (by rw[<-aq.mp z];exact ha)) (fun a ha z=>by
     rw[r1,r2,r3] at ha;exact rP (by rw[<-aq.mp z];simpa using ha)) (fun y hy xs z=>by rw[aq.mp hy,f3] at z;cases z)
    refine⟨_,Z,fun x2 rW pD zG abR=> ?_⟩;refine⟨x2,rW,b.channels.length,Z,fP,fun H5 o5 hA5=>⟨Z,?_⟩⟩;have s5:fR H4 H5:=fR.made pD zG fun b o e n=>o5 b o e (by simpa using n)
    refine⟨_,Z,F.f,_,F.dx,_,Z,s5 _ _ g4,T.ka,T.xJ,(by show 2<1000;decide),?_⟩;have Jo:=jf.made (c:=c) (s5 _ _ g4) (lx.same s5) r1 r2 r3 hA5 qg (fun z=>by rw[<-z,g4] at pD;cases pD) (fun z=>by have:=lx.lM _ z;rw[pD] at this;cases this) rP (fun z=>by have:=lx.set.xh _ z;rw[pD] at this;cases this) hB;refine⟨_,Z,_,Z,b.channels.length,Z,by omega,fZ (by simp),fun q7 n7=> ?_⟩;have gr:j1 H H4:=((nG.trans s3).grow).trans Q3;refine hq _ ⟨F.f,F.dx,LR,⟨x2,rW,none⟩⟩ ox q7 Z ?_ ?_ ((Jo.same (fR.new n7)).later) ?_ ?_ ?_ (((gr.trans s5.grow).put) _ n7)
    ·exact((((((nG.trans s3).own).trans (o4.mono fun y hy=>by rw[aq.mp hy];simp[iz.mut])).trans s5.own).put (by simp[iz.mut]))).trans (fR.new n7).own
    ·exact((gr.trans s5.grow).put).put
    ·intro a ha;rcases az.mp ha with rfl|ha
     ·exact .inl (by simp[iz.mut])
     ·rcases aG.mp ha with ha|ha
      ·exact .inr (nG.free (zE a ha))
      ·have z:a=x2:=by simpa [jP.mut] using ha
       exact .inr (by rw[z];exact gr _ pD)
    ·intro a ha;have ha:a∈LR.rows++LR.gE++LR.gP++LR.S.fp:=ha;rw[r1,r2,r3] at ha;exact .inr (.inr (s1.free (zF a (by simpa using ha))))
    ·rw[fP];rfl
   ·intro dx gy H' hl hx;rw[zD] at hx;obtain⟨f,hf,sf⟩:=hx
    have er:Vbkdaa.does st (.settings row)=.error (-3):=by
     show(match Vbkdaa.read (nats row) with|.error _=>_|.ok b=>_)=_;rw[hf]
    have hq:=iR hE ((jb ed).trans (nS er)) hq;exact⟨fZ (by simp),fun q n=>hq _ q (sf.more n) fP (sf.free n)⟩
  ·rw[bT] at hb;refine gc (by rw[hb];rfl) ?_;have hq:=iR hE (call:=iF 0 true [] row) (oC (show decode [[0],row]=none from oK hb)) hq;exact⟨fZ (by simp),fun q n=>hq _ q (s1.more n) fP (s1.free n)⟩
theorem TR:gQ ["front","numbers","text","settings","fault"] ["front","numbers","text"] (gM (fY 102)):=gY (by decide+kernel)
theorem TU(T:Tx P w K mg AA):gL P w K mg base gU 6 AA.D3 AA.Ky ["front","numbers","text"] (kE AA 1 true 0):=by
 have pJ:=vJ (base:=base) T;have Dz:=JQ (base:=base) T;have SC:=TR;refine T.EO.fn.ok SC (fun vs H Q E h=> ?_) (fun gz A outer s H vs Q E hr h=> ?_)
 ·obtain⟨F,st,m,c,an,ar,ns,row,rfl,_⟩:=h;rfl
 ·obtain⟨F,st,m,c,an,ar,ns,row,rfl,hE,hc,hn,i7,ly,jX,hk,jV,hq⟩:=h;obtain rfl:=aM.mp hk;obtain⟨EX,zD⟩:∃EX:XK,EX=fun v o H'=>∃(f:VbkdCore.Fault) (dx:Addr),o=some dx/\Vbkdaa.read (nats row)=.error f/\fR H H'/\H' dx=some (XD dx [("kind",.int f.kind),("place",.int f.place)]):=⟨_,Z⟩
  refine⟨_,(fT (gZ (li (lU (ie pJ (hr.mono (by decide)) Z T.lE.mg T.lE.fn.kp T.lE.b .nil gH (fO (pv 2) (fO (gA Z T.KL) (fO (gA Z T.DX) fQ))))))
   (fW (gD (gJ (fO (gA Z T.pH) fQ))))
   ic)
   (fT (Xa (E:=EX) Z Z T.xc Z T.mM SC.nd (i:=4) Z Z (fun XE pn hp=>(fW (gm (i:=3) SC.nd Z (Or.inl Z) (ie Dz (hr.mono (by decide)) Z T.t9.mg T.t9.fn.kp T.t9.b .nil hp (fO (pv 2) fQ)))))
     (fun e=>(fW (gD (gJ (fO fX (fO fX (fO (OD T.xc (Or.inl Z) (pv 4) Z) (fO (OD T.xc (Or.inr Z) (pv 4) Z) fQ)))))))))
   (fW (gD (gJ (fO fX (fO fX (fO (gW iM (by rfl) T.len aF (fO (gf (pv 3) Z) fQ)) fQ)))))))),?_⟩
  refine⟨_,Z,ar,row,1000,255,Z,fS.of i7,by omega,fun H1 s1=> ?_⟩;refine⟨_,Z,?_⟩;have kK:=s1 _ _ i7
  by_cases hb:(decide (row.length<=1000)&&row.all fun n=>inside_ n 0 255)=true
  ·refine gu (by rw[hb];rfl) ?_;have ed:decode (iF 1 true [] row)=some (.check row):=oJ hb;rw[aH,aJ] at hb;rw[uD hb.2] at kK;refine⟨⟨_,Z,ar,nats row,Z,kK,by rw[sj];exact hb.1,?_,?_⟩,?_⟩
   ·intro f hf H' dx s2 n2 g2;rw[zD];exact⟨f,dx,Z,hf,s1.trans s2,g2⟩
   ·intro b tV H2 L s2 hS hB pl fp
    have er:Vbkdaa.does st (.check row)=.ok (st,[0,nat b.channels.length]):=by
     show(match Vbkdaa.read (nats row) with|.error _=>_|.ok b=>_)=_;rw[tV]
    have hq:=iR hE ((jb ed).trans (kS er)) hq;have kI:(L.cs.map V.ref).length=b.channels.length:=by rw[ac];exact hS.mw.1
    refine⟨_,Z,L.s,_,L.dx,_,_,Z,hS.ins,T.io,T.nK,Z,L.lc,_,Z,.inl (fS.of hS.mv),fZ (by simp),fun q3 n3=> ?_⟩;refine hq _ q3 ((s1.trans s2).more n3) ?_ ((s1.trans s2).free n3);rw[fP,kI];rfl
   ·intro e dx gy H' hl ne hx;rw[zD] at hx;obtain⟨f,BV,hd,hf,sf,gx⟩:=hx;obtain rfl:=af hd
    have er:Vbkdaa.does st (.check row)=.ok (st,[1,nat f.kind,nat f.place]):=by
     show(match Vbkdaa.read (nats row) with|.error _=>_|.ok b=>_)=_;rw[hf]
    have hq:=iR hE ((jb ed).trans (kS er)) hq;have hl5:gy.length=5:=hl;have hv:(gy.set 4 (some (.ref e)))[4]? =some (some (V.ref e)):=by rw[dG (by omega)]
    have de:dx≠e:=gh gx ne;refine⟨_,hv,e,dx,_,_,false,Z,fP,(fU de).trans gx,Z,?_⟩;refine⟨_,hv,e,dx,_,_,false,Z,fP,(fU de).trans gx,Z,fZ (by simp),fun q n=> ?_⟩;exact hq _ q ((sf.more ne).more n) fP ((sf.more ne).free n)
  ·rw[bT] at hb;refine gc (by rw[hb];rfl) ?_;have hq:=iR hE (call:=iF 1 true [] row) (oC (show decode [[1],row]=none from oK hb)) hq;exact⟨fZ (by simp),fun q n=>hq _ q (s1.more n) fP (s1.free n)⟩
end
open PyVbkdaa (shape)
def Z7(AA:gv):List (L2.Key×V):=[(Sum.inl 0,.ref AA.Fn),(Sum.inl 1,.ref AA.Fo),(Sum.inl 2,.ref AA.Fp),(Sum.inl 3,.ref AA.Fq),(Sum.inl 4,.ref AA.Fs),(Sum.inl 5,.ref AA.Ft),(Sum.inl 6,.ref AA.Fu),(Sum.inl 7,.ref AA.Fv),(Sum.inl 8,.ref AA.Fw),(Sum.inl 9,.ref AA.Fx),(Sum.inl 10,.ref AA.ED),(Sum.inl 11,.ref AA.EE),(Sum.inl 12,.ref AA.EF),(Sum.inl 13,.ref AA.EG),(Sum.inl 14,.ref AA.EH),(Sum.inl 15,.ref AA.EI),(Sum.inl 16,.ref AA.EJ),(Sum.inl 17,.ref AA.EK),(Sum.inl 18,.ref AA.EL),(Sum.inl 19,.ref AA.EM),(Sum.inl 20,.ref AA.EN)]
structure Row(P:Program)(w:World)(K:PySem.W.Frag)(mg:Str->Option Value)(base:Heap)(AA:gv)(p:Int)(k r:Nat)(a f:Addr)(fd:FuncData)(ps:List Str)(lv:Nat):Prop where
 val:i6 (Z7 AA) (Sum.inl p)=some (.ref a)
 tup:iY K a [.int k,.bl (r==1),.ref f]
 kp:PySem.W.keepIn K (.ref f)=true
 ok:gL P w K mg base gU lv f fd ps (kE AA p (r==1) k)
 b:Binds K fd ps []
 le:lv<=7
def aaM:Sp:=fun vs H Q _=>∃(p:Int) (k r:Nat),vs=[.int p]/\shape p=some (k,r)/\Q (.int k) H
def aaN:Sp:=fun vs H Q _=>∃(p:Int) (k r:Nat),vs=[.int p]/\shape p=some (k,r)/\Q (.bl (r==1)) H
def Y9(AA:gv):Sp:=fun vs H Q E=>∃(f:Addr) (p:Int) (an ar:Addr) (k r:Nat),vs=[.ref f,.int p,.ref an,.ref ar]/\shape p=some (k,r)/\kE AA p (r==1) k [.ref f,.ref an,.ref ar] H Q E0
section
variable {P:Program} {w:World} {K:PySem.W.Frag} {mg:Str->Option Value} {base:Heap} {AA:gv}
theorem GX(T:Tx P w K mg AA){p:Int}{k r:Nat}(h:shape p=some (k,r)):∃a f fd ps lv,Row P w K mg base AA p k r a f fd ps lv:=by
 unfold shape at h
 by_cases h0:p=0
 ·rw[aw h0] at h;obtain⟨rfl,rfl⟩:=aP (af h);subst h0;exact⟨_,_,_,_,_,Z,T.Xo,T.DT.fn.kp,Sk T,T.DT.b,by decide⟩
 rw[am h0] at h
 by_cases h1:p=1
 ·rw[aw h1] at h;obtain⟨rfl,rfl⟩:=aP (af h);subst h1;exact⟨_,_,_,_,_,Z,T.Xp,T.EO.fn.kp,TU T,T.EO.b,by decide⟩
 rw[am h1] at h
 by_cases h2:p=2
 ·rw[aw h2] at h;obtain⟨rfl,rfl⟩:=aP (af h);subst h2;exact⟨_,_,_,_,_,Z,T.Xq,T.DI.fn.kp,R8 T,T.DI.b,by decide⟩
 rw[am h2] at h
 by_cases h3:p=3
 ·rw[aw h3] at h;obtain⟨rfl,rfl⟩:=aP (af h);subst h3;exact⟨_,_,_,_,_,Z,T.Xr,T.EQ.fn.kp,TQ T,T.EQ.b,by decide⟩
 rw[am h3] at h
 by_cases h4:p=4
 ·rw[aw h4] at h;obtain⟨rfl,rfl⟩:=aP (af h);subst h4;exact⟨_,_,_,_,_,Z,T.Xs,T.Er.fn.kp,Tb T,T.Er.b,by decide⟩
 rw[am h4] at h
 by_cases h5:p=5
 ·rw[aw h5] at h;obtain⟨rfl,rfl⟩:=aP (af h);subst h5;exact⟨_,_,_,_,_,Z,T.Xt,T.Fy.fn.kp,Ui T,T.Fy.b,by decide⟩
 rw[am h5] at h
 by_cases h6:p=6
 ·rw[aw h6] at h;obtain⟨rfl,rfl⟩:=aP (af h);subst h6;exact⟨_,_,_,_,_,Z,T.Xu,T.Fz.fn.kp,Up T,T.Fz.b,by decide⟩
 rw[am h6] at h
 by_cases h7:p=7
 ·rw[aw h7] at h;obtain⟨rfl,rfl⟩:=aP (af h);subst h7;exact⟨_,_,_,_,_,Z,T.Xv,T.FA.fn.kp,Ur T,T.FA.b,by decide⟩
 rw[am h7] at h
 by_cases h8:p=8
 ·rw[aw h8] at h;obtain⟨rfl,rfl⟩:=aP (af h);subst h8;exact⟨_,_,_,_,_,Z,T.Xw,T.Es.fn.kp,S6 T,T.Es.b,by decide⟩
 rw[am h8] at h
 by_cases h9:p=9
 ·rw[aw h9] at h;obtain⟨rfl,rfl⟩:=aP (af h);subst h9;exact⟨_,_,_,_,_,Z,T.Xx,T.ER.fn.kp,TK T,T.ER.b,by decide⟩
 rw[am h9] at h
 by_cases mX:p=10
 ·rw[aw mX] at h;obtain⟨rfl,rfl⟩:=aP (af h);subst mX;exact⟨_,_,_,_,_,Z,T.Wq,T.Et.fn.kp,S3 T,T.Et.b,by decide⟩
 rw[am mX] at h
 by_cases rX:p=11
 ·rw[aw rX] at h;obtain⟨rfl,rfl⟩:=aP (af h);subst rX;exact⟨_,_,_,_,_,Z,T.Wr,T.ES.fn.kp,Tw T,T.ES.b,by decide⟩
 rw[am rX] at h
 by_cases vw:p=12
 ·rw[aw vw] at h;obtain⟨rfl,rfl⟩:=aP (af h);subst vw;exact⟨_,_,_,_,_,Z,T.Ws,T.Eu.fn.kp,S8 T,T.Eu.b,by decide⟩
 rw[am vw] at h
 by_cases rY:p=13
 ·rw[aw rY] at h;obtain⟨rfl,rfl⟩:=aP (af h);subst rY;exact⟨_,_,_,_,_,Z,T.Wt,T.ET.fn.kp,TH T,T.ET.b,by decide⟩
 rw[am rY] at h
 by_cases vx:p=14
 ·rw[aw vx] at h;obtain⟨rfl,rfl⟩:=aP (af h);subst vx;exact⟨_,_,_,_,_,Z,T.Wu,T.EU.fn.kp,TM T,T.EU.b,by decide⟩
 rw[am vx] at h
 by_cases vy:p=15
 ·rw[aw vy] at h;obtain⟨rfl,rfl⟩:=aP (af h);subst vy;exact⟨_,_,_,_,_,Z,T.Wv,T.EV.fn.kp,TB T,T.EV.b,by decide⟩
 rw[am vy] at h
 by_cases vz:p=16
 ·rw[aw vz] at h;obtain⟨rfl,rfl⟩:=aP (af h);subst vz;exact⟨_,_,_,_,_,Z,T.Ww,T.EW.fn.kp,TD T,T.EW.b,by decide⟩
 rw[am vz] at h
 by_cases vA:p=17
 ·rw[aw vA] at h;obtain⟨rfl,rfl⟩:=aP (af h);subst vA;exact⟨_,_,_,_,_,Z,T.Wx,T.hush.fn.kp,Y2 T,T.hush.b,by decide⟩
 rw[am vA] at h
 by_cases vB:p=18
 ·rw[aw vB] at h;obtain⟨rfl,rfl⟩:=aP (af h);subst vB;exact⟨_,_,_,_,_,Z,T.Wy,T.FC.fn.kp,Um T,T.FC.b,by decide⟩
 rw[am vB] at h
 by_cases vC:p=19
 ·rw[aw vC] at h;obtain⟨rfl,rfl⟩:=aP (af h);subst vC;exact⟨_,_,_,_,_,Z,T.Wz,T.FD.fn.kp,Uk T,T.FD.b,by decide⟩
 rw[am vC] at h
 by_cases vD:p=20
 ·rw[aw vD] at h;obtain⟨rfl,rfl⟩:=aP (af h);subst vD;exact⟨_,_,_,_,_,Z,T.WA,T.EY.fn.kp,Tu T,T.EY.b,by decide⟩
 rw[am vD] at h;cases h
theorem Tc:gQ ["call"] ["call"] (gM (fY 123)):=gY (by decide+kernel)
theorem Td(T:Tx P w K mg AA):gL P w K mg base gU 1 AA.Kl AA.Km ["call"] aaM:=by
 have SC:=Tc;refine T.z0.fn.ok SC (fun vs H Q E h=> ?_) (fun gz A outer s H vs Q E hr h=> ?_)
 ·obtain⟨p,k,r,rfl,_⟩:=h;rfl
 ·obtain⟨p,k,r,rfl,hs,hq⟩:=h;refine⟨_,(fW (gD (hZ jI (ra T.GU (m8 Z T.G7) (pv 0) (fun _ _=>rfl)) fX (fun _ _=>rfl)))),?_⟩;obtain⟨a,f,fd,ps,lv,R⟩:=GX (base:=base) T hs;exact⟨_,Z,Sum.inl p,_,Z,R.val,a,_,_,_,Z,Z,R.tup.sq,iu (j:=0) Z Z,hq⟩
theorem VP:gQ ["call"] ["call"] (gM (fY 124)):=gY (by decide+kernel)
theorem VQ(T:Tx P w K mg AA):gL P w K mg base gU 1 AA.Mi AA.Mj ["call"] aaN:=by
 have SC:=VP;refine T.AW.fn.ok SC (fun vs H Q E h=> ?_) (fun gz A outer s H vs Q E hr h=> ?_)
 ·obtain⟨p,k,r,rfl,_⟩:=h;rfl
 ·obtain⟨p,k,r,rfl,hs,hq⟩:=h;refine⟨_,(fW (gD (hZ jI (ra T.GU (m8 Z T.G7) (pv 0) (fun _ _=>rfl)) fX (fun _ _=>rfl)))),?_⟩;obtain⟨a,f,fd,ps,lv,R⟩:=GX (base:=base) T hs;exact⟨_,Z,Sum.inl p,_,Z,R.val,a,_,_,_,Z,Z,R.tup.sq,iu (j:=1) Z Z,hq⟩
theorem Uu:gQ ["front","call","numbers","row","handler"] ["front","call","numbers","row"] (gM (fY 125)):=gY (by decide+kernel)
theorem Uv(T:Tx P w K mg AA):gL P w K mg base gU 8 AA.Lb AA.Lc ["front","call","numbers","row"] (Y9 AA):=by
 have SC:=Uu;refine T.Aq.fn.ok SC (fun vs H Q E h=> ?_) (fun gz A outer s H vs Q E hr h=> ?_)
 ·obtain⟨f,p,an,ar,k,r,rfl,_⟩:=h;rfl
 ·obtain⟨f0,p,an,ar,k,r,rfl,hs,hh⟩:=h
  refine⟨_,(fT (gm (i:=4) SC.nd Z (Or.inl Z) (hZ jI (ra T.GU (m8 Z T.G7) (pv 1) (fun _ _=>rfl)) fX (fun _ _=>rfl)))
   (fW (gD (Xc (pv 4) (fO (pv 0) (fO (pv 2) (fO (pv 3) fQ))))))),?_⟩
  obtain⟨a,f,fd,ps,lv,R⟩:=GX (base:=base) T hs;refine⟨_,Z,Sum.inl p,_,Z,R.val,a,_,_,_,Z,Z,R.tup.sq,iu (j:=2) Z Z,?_⟩;refine⟨f,Z,R.kp,_,Z,_,Z,_,Z,lv,fd,ps,_,R.ok,hr.mono (by have:=R.le;omega),R.b,hh⟩
end
def Za(AA:gv):Sp:=fun vs H Q _=>∃(x dx:Addr),vs=[.ref x]/\H x=some (.ins AA.j9 dx [])/\
 ∀(H':Hp) (F:iz),F.f=x->gF [x] H H'->jf AA H' F Vbkdaa.start ox 0->(∀a∈F.mut,a=x\/H a=none)->(∀a∈F.deep,H a=none)->Q .gT H'
theorem aaO:nX noBook:=⟨by decide,(by intro c h;cases h),by decide,by decide,by decide,by decide,by decide,by decide,by decide,by decide⟩
section
variable {P:Program} {w:World} {K:PySem.W.Frag} {mg:Str->Option Value} {base:Heap} {AA:gv}
theorem Sl:gQ ["self"] ["self"] (gM (i0 (fY 94) 0)):=gY (by decide+kernel)
theorem U9(T:Tx P w K mg AA):gL P w K mg base gU 3 AA.Dv AA.Dw ["self"] (Za AA):=by
 have FS:=LU (base:=base) T;have yb:=Fb (base:=base) T;have E8:=Lk (base:=base) T;have SC:=Sl;refine T.Sr.ok SC (fun vs H Q E h=> ?_) (fun gz A outer s H vs Q E hr h=> ?_)
 ·obtain⟨x,dx,rfl,_⟩:=h;rfl
 ·obtain⟨x,dx,rfl,hx,hq⟩:=h
  refine⟨_,(fT (jt (pv 0) (uy T.MV FS (hr.mono (by decide)) Z T.Ml T.MW .nil gH (fO (uy T.Mm E8 (hr.mono (by decide)) Z T.LK T.Mn .nil gH (fO (gJ fQ) (fO FY fQ))) fQ)) Z)
   (fW (jt (pv 0) (uy T.F3 yb (hr.mono (by decide)) Z T.FF T.F9 .nil gH (fO fX fQ)) Z))),?_⟩
  refine⟨aN _,fun q1 n1=>fun q2 n2=>fun xs CJ CK Jp afo=> ?_⟩;have s1:fR H (fN H q1 (.lst [])):=fR.new n1;have s2:fR H (fN (fN H q1 (.lst [])) q2 (.dK [])):=s1.more n2;have g1:(fN (fN H q1 (.lst [])) q2 (.dK [])) q1=some (.lst []):=(fU (gh fP n2)).trans fP;have g2:(fN (fN H q1 (.lst [])) q2 (.dK [])) q2=some (.dK []):=fP;have f2:H q2=none:=s1.free n2;generalize fN (fN H q1 (.lst [])) q2 (.dK [])=H2 at s2 g1 g2 CK Jp;have s3:fR H2 (fN (fN H2 CJ (.own xs)) xs (.ins AA.lR CJ [])):=(fR.new Jp).put CK;refine⟨xs,CJ,q1,[],q2,[],noBook,Z,fP,s3 _ _ g1,iH.nil,OK (s3 _ _ g2),by decide,fun H3 o3 hS=>⟨Z,?_⟩⟩;have Q4:fR H2 H3:=fR.made CK Jp fun b o e n=>o3 b o e (by simpa using n)
  refine fun x2 rW pD zG abR=> ?_
  refine⟨x2,rW,⟨xs,CJ,q1,q2,[],[]⟩,noBook,Z,fP,hS.same ((fR.new zG).put pD),(fun z=>(by have:=hS.xh x2 z;rw[pD] at this;cases this)),fun H4 LR eR eS o4 lx fr4 r1 r2 r3=>⟨Z,?_⟩⟩;have s34:fR H3 H4:=fR.made pD zG fun b o e n=>o4 b o e (by simpa using n)
  have Jq:fR H H4:=s2.trans (Q4.trans s34);have f4:=Jq _ _ hx;refine⟨_,Z,x,_,dx,_,Z,f4,T.ka,T.lA,(by show 0<1000;decide),?_⟩
  have zE:∀y∈LR.mut,H y=none:=fun y hy=>by
   refine(s2.trans Q4).free ?_;rcases fr4 y hy with h|h
   ·rw[h];exact pD
   ·exact((fR.new zG).put pD).free h
  have zF:∀y∈LR.S.fp,H y=none:=fun y hy=>by
   rw[eS] at hy;simp only[lm.fp,az,bh,cN] at hy;rcases hy with rfl|rfl|rfl
   ·exact s2.free CK
   ·exact n1
   ·exact f2
  have qg:x∉LR.mut:=fun z=>by have:=zE _ z;rw[hx] at this;cases this
  have rP:x∉LR.S.fp:=fun z=>by have:=zF _ z;rw[hx] at this;cases this
  have o5:gF [x] H4 (fN H4 x (.ins AA.j9 dx [("readout",.ref x2)])):=gF.refl.put (by simp);have g5:(fN H4 x (.ins AA.j9 dx [("readout",.ref x2)])) x=some (.ins AA.j9 dx [("readout",.ref x2)]):=fP;have CM:j1 H4 (fN H4 x (.ins AA.j9 dx [("readout",.ref x2)])):=j1.refl.put;have e0:L2.jC "readout" (V.ref x2) []=[(("readout":Str),V.ref x2)]:=rfl;rw[e0];dsimp only;generalize fN H4 x (.ins AA.j9 dx [("readout",.ref x2)])=H5 at o5 g5 CM
  have xp:ik AA H5 LR noBook ox:=lx.keep o5 (fun a ha z=>qg (by rw[<-aq.mp z];exact ha)) (fun a ha z=>by
   rw[r1,r2,r3] at ha;exact rP (by rw[<-aq.mp z];simpa using ha)) (fun y hy xs z=>by rw[aq.mp hy,f4] at z;cases z)
  refine fun x3 Q5 xD nd3 afp=> ?_
  refine⟨x3,Q5,0,Z,fP,fun H6 o6 hA6=>⟨Z,?_⟩⟩;have CN:fR H5 H6:=fR.made xD nd3 fun b o e n=>o6 b o e (by simpa using n)
  refine⟨_,Z,x,_,dx,_,Z,CN _ _ g5,T.ka,T.xJ,(by show 1<1000;decide),?_⟩;have Jo:=jf.made (c:=0) (CN _ _ g5) (xp.same CN) r1 r2 r3 hA6 qg (fun z=>by rw[<-z,g5] at xD;cases xD) (fun z=>by have:=xp.lM _ z;rw[xD] at this;cases this) rP (fun z=>by have:=xp.set.xh _ z;rw[xD] at this;cases this) aaO;rw[<-eR];refine hq _ ⟨x,dx,LR,⟨x3,Q5,none⟩⟩ Z ?_ Jo ?_ ?_
  ·exact(((Jq.own).trans o5).trans CN.own).put (by simp)
  ·intro a ha;rcases az.mp ha with rfl|ha
   ·exact .inl Z
   ·rcases aG.mp ha with ha|ha
    ·exact .inr (zE a ha)
    ·have z:a=x3:=by simpa [jP.mut] using ha
     exact .inr (by rw[z];exact Jq.free (CM _ xD))
  ·intro a ha;have ha:a∈LR.rows++LR.gE++LR.gP++LR.S.fp:=ha;rw[r1,r2,r3] at ha;exact zF a (by simpa using ha)
end
theorem FT{p:Int}{k r:Nat}(h:shape p=some (k,r)):(r=0\/r=1)/\k<=2/\(r=1->(PyVbkdaa.bound p).2=[(-1000000000000000000,1000000000000000000,0,1100)]):=by
 unfold shape at h;unfold PyVbkdaa.bound
 by_cases h0:p=0
 ·rw[aw h0] at h;obtain⟨rfl,rfl⟩:=aP (af h);subst h0;exact⟨.inr Z,by decide,fun z=>by first|rfl|cases z⟩
 rw[am h0] at h
 by_cases h1:p=1
 ·rw[aw h1] at h;obtain⟨rfl,rfl⟩:=aP (af h);subst h1;exact⟨.inr Z,by decide,fun z=>by first|rfl|cases z⟩
 rw[am h1] at h
 by_cases h2:p=2
 ·rw[aw h2] at h;obtain⟨rfl,rfl⟩:=aP (af h);subst h2;exact⟨.inl Z,by decide,fun z=>by first|rfl|cases z⟩
 rw[am h2] at h
 by_cases h3:p=3
 ·rw[aw h3] at h;obtain⟨rfl,rfl⟩:=aP (af h);subst h3;exact⟨.inr Z,by decide,fun z=>by first|rfl|cases z⟩
 rw[am h3] at h
 by_cases h4:p=4
 ·rw[aw h4] at h;obtain⟨rfl,rfl⟩:=aP (af h);subst h4;exact⟨.inr Z,by decide,fun z=>by first|rfl|cases z⟩
 rw[am h4] at h
 by_cases h5:p=5
 ·rw[aw h5] at h;obtain⟨rfl,rfl⟩:=aP (af h);subst h5;exact⟨.inl Z,by decide,fun z=>by first|rfl|cases z⟩
 rw[am h5] at h
 by_cases h6:p=6
 ·rw[aw h6] at h;obtain⟨rfl,rfl⟩:=aP (af h);subst h6;exact⟨.inl Z,by decide,fun z=>by first|rfl|cases z⟩
 rw[am h6] at h
 by_cases h7:p=7
 ·rw[aw h7] at h;obtain⟨rfl,rfl⟩:=aP (af h);subst h7;exact⟨.inl Z,by decide,fun z=>by first|rfl|cases z⟩
 rw[am h7] at h
 by_cases h8:p=8
 ·rw[aw h8] at h;obtain⟨rfl,rfl⟩:=aP (af h);subst h8;exact⟨.inl Z,by decide,fun z=>by first|rfl|cases z⟩
 rw[am h8] at h
 by_cases h9:p=9
 ·rw[aw h9] at h;obtain⟨rfl,rfl⟩:=aP (af h);subst h9;exact⟨.inl Z,by decide,fun z=>by first|rfl|cases z⟩
 rw[am h9] at h
 by_cases mX:p=10
 ·rw[aw mX] at h;obtain⟨rfl,rfl⟩:=aP (af h);subst mX;exact⟨.inl Z,by decide,fun z=>by first|rfl|cases z⟩
 rw[am mX] at h
 by_cases rX:p=11
 ·rw[aw rX] at h;obtain⟨rfl,rfl⟩:=aP (af h);subst rX;exact⟨.inl Z,by decide,fun z=>by first|rfl|cases z⟩
 rw[am rX] at h
 by_cases vw:p=12
 ·rw[aw vw] at h;obtain⟨rfl,rfl⟩:=aP (af h);subst vw;exact⟨.inr Z,by decide,fun z=>by first|rfl|cases z⟩
 rw[am vw] at h
 by_cases rY:p=13
 ·rw[aw rY] at h;obtain⟨rfl,rfl⟩:=aP (af h);subst rY;exact⟨.inr Z,by decide,fun z=>by first|rfl|cases z⟩
 rw[am rY] at h
 by_cases vx:p=14
 ·rw[aw vx] at h;obtain⟨rfl,rfl⟩:=aP (af h);subst vx;exact⟨.inr Z,by decide,fun z=>by first|rfl|cases z⟩
 rw[am vx] at h
 by_cases vy:p=15
 ·rw[aw vy] at h;obtain⟨rfl,rfl⟩:=aP (af h);subst vy;exact⟨.inl Z,by decide,fun z=>by first|rfl|cases z⟩
 rw[am vy] at h
 by_cases vz:p=16
 ·rw[aw vz] at h;obtain⟨rfl,rfl⟩:=aP (af h);subst vz;exact⟨.inr Z,by decide,fun z=>by first|rfl|cases z⟩
 rw[am vz] at h
 by_cases vA:p=17
 ·rw[aw vA] at h;obtain⟨rfl,rfl⟩:=aP (af h);subst vA;exact⟨.inl Z,by decide,fun z=>by first|rfl|cases z⟩
 rw[am vA] at h
 by_cases vB:p=18
 ·rw[aw vB] at h;obtain⟨rfl,rfl⟩:=aP (af h);subst vB;exact⟨.inl Z,by decide,fun z=>by first|rfl|cases z⟩
 rw[am vB] at h
 by_cases vC:p=19
 ·rw[aw vC] at h;obtain⟨rfl,rfl⟩:=aP (af h);subst vC;exact⟨.inl Z,by decide,fun z=>by first|rfl|cases z⟩
 rw[am vC] at h
 by_cases vD:p=20
 ·rw[aw vD] at h;obtain⟨rfl,rfl⟩:=aP (af h);subst vD;exact⟨.inl Z,by decide,fun z=>by first|rfl|cases z⟩
 rw[am vD] at h;cases h
theorem X8(c:List (List Int)):PyVbkdaa.whole c=c:=by
 unfold PyVbkdaa.whole;split<;>rfl
theorem Zb{p:Int}{hV:List Int}{f:Nat}{cs:List (List (List Int))}(h:PyFlat.calls shape f (p::hV)=some cs):
 ∃(k r:Nat) (row t:List Int) (f':Nat) (pE:List (List (List Int))),shape p=some (k,r)/\k<=hV.length/\cs=iF p (r==1) (hV.take k) row::pE/\PyFlat.calls shape f' t=some pE/\
  ((r=0/\row=[]/\t=hV.drop k)\/(r=1/\∃(n:Nat) (jB:List Int),hV.drop k=(n:Int)::jB/\n<=jB.length/\row=jB.take n/\t=jB.drop n)):=by
 cases f with
 |zero=>cases h
 |succ f=>
  unfold PyFlat.calls at h;cases hc:PyFlat.call shape (p::hV) with
  |none=>rw[hc] at h;cases h
  |some ct=>
   obtain⟨c,t⟩:=ct;rw[hc] at h;simp only at h;cases pF:PyFlat.calls shape f t with
   |none=>rw[pF] at h;cases h
   |some pE=>
    rw[pF] at h;have h:c::pE=cs:=af h;unfold PyFlat.call at hc;simp only at hc;cases hs:shape p with
    |none=>rw[hs] at hc;cases hc
    |some kr=>
     obtain⟨k,r⟩:=kr;rw[hs] at hc;simp only at hc
     by_cases hl:hV.length<k
     ·rw[aw hl] at hc;cases hc
     ·rw[am hl] at hc;rcases(FT hs).1 with h0|h0
      ·subst h0;have hc:some ((p::hV.take k)::[],hV.drop k)=some (c,t):=hc;have e:=aP (af hc);exact⟨k,0,[],t,f,pE,Z,by omega,by rw[<-h,<-e.1];rfl,pF,.inl ⟨Z,Z,e.2.symm⟩⟩
      ·subst h0;cases hd:hV.drop k with
       |nil=>
        rw[hd] at hc;cases hc
       |cons n jB=>
        rw[hd] at hc
        by_cases hn:0<=n/\n.toNat<=jB.length
        ·have hr:PyFlat.rows 1 (n::jB)=some ([jB.take n.toNat],jB.drop n.toNat):=by
          have jV:PyFlat.row (n::jB)=some (jB.take n.toNat,jB.drop n.toNat):=by
           show(if 0<=n/\n.toNat<=jB.length then _ else _)=_;rw[aw hn]
          show(match PyFlat.row (n::jB) with|none=>none|some (x,s)=>_)=_;rw[jV];rfl
         rw[hr] at hc;have e:=aP (af hc);obtain⟨j,rfl⟩:=bB hn.1;rw[a6] at e hn;exact⟨k,1,jB.take j,t,f,pE,Z,by omega,by rw[<-h,<-e.1];rfl,pF,.inr ⟨Z,j,jB,hd,hn.2,Z,e.2.symm⟩⟩
        ·have hr:PyFlat.rows 1 (n::jB)=none:=by
          have jV:PyFlat.row (n::jB)=none:=by
           show(if 0<=n/\n.toNat<=jB.length then _ else _)=_;rw[am hn]
          show(match PyFlat.row (n::jB) with|none=>none|some (x,s)=>_)=_;rw[jV]
         rw[hr] at hc;cases hc
theorem W0{p:Int}{k r:Nat}{ns row:List Int}(hs:shape p=some (k,r))(h:PyInside.call PyVbkdaa.bound (iF p (r==1) ns row)=true)(h0:r=0->row=[]):row.length<=1100:=by
 rcases(FT hs).1 with e|e
 ·rw[h0 e];exact aN _
 ·subst e;have h:(PyInside.each (PyVbkdaa.bound p).1 ns&&PyInside.lists (PyVbkdaa.bound p).2 [row])=true:=h;rw[(FT hs).2.2 rfl,aH] at h;have h2:=h.2;unfold PyInside.lists at h2;rw[aH,aH,aH,aJ,aJ] at h2;exact h2.1.1.2
def after:State->List (List (List Int))->State
 |s,[]=>s
 |s,c::r=>after (stepNumbers s c).1 r
theorem L3(s:State)(l:List (List (List Int)))(c:List (List Int)):after s (l++[c])=(stepNumbers (after s l) c).1:=by
 induction l generalizing s with
 |nil=>rfl
 |cons x r ih=>exact ih _
theorem VR(s:State)(l r:List (List (List Int))):PyFlat.played stepNumbers s (l++r)=PyFlat.played stepNumbers s l++PyFlat.played stepNumbers (after s l) r:=by
 induction l generalizing s with
 |nil=>rfl
 |cons x t ih=>
  show _::PyFlat.played stepNumbers _ (t++r)=_::(PyFlat.played stepNumbers _ t++_);rw[ih];rfl
def kf(l:List (List (List Int))):List Int:=PyFlat.told (PyFlat.played stepNumbers Vbkdaa.start l)
theorem Nd(l r:List (List (List Int))):kf (l++r)=kf l++PyFlat.told (PyFlat.played stepNumbers (after Vbkdaa.start l) r):=by
 unfold kf PyFlat.told;rw[VR,bO]
theorem VS{l:List Int}{cs:List (List (List Int))}(h:PyFlat.calls shape l.length l=some cs):PyVbkdaa.answers l=kf cs:=by
 unfold PyVbkdaa.answers PyVbkdaa.calls;rw[h];show PyFlat.told (PyFlat.played VbkdaaNeutral.step VbkdaaNeutral.start (cs.map PyVbkdaa.whole))=_;rw[show cs.map PyVbkdaa.whole=cs by rw[bW (fun c _=>X8 c),List.map_id']];rfl
theorem Nf(l:List (List (List Int)))(c:List (List Int)):kf (l++[c])=kf l++((((stepNumbers (after Vbkdaa.start l) c).2.length:Nat):Int)::(stepNumbers (after Vbkdaa.start l) c).2):=by
 rw[Nd];show _++PyFlat.told [(stepNumbers (after Vbkdaa.start l) c).2]=_;unfold PyFlat.told;rw[br,List.flatMap_nil,bc]
theorem Ng(l r:List (List (List Int))):(kf l).length<=(kf (l++r)).length:=by rw[Nd,ag];omega
def GY(K:PySem.W.Frag):Sp:=fun vs H Q _=>∃(a:Addr) (l:List Int),vs=[.ref a]/\fS K H a (l.map V.int)/\PyVbkdaa.answers_asked l=true/\∀(H':Hp) (q:Addr),fR H H'->H' q=some (.lst ((PyVbkdaa.answers l).map V.int))->Q (.ref q) H'
section
variable {P:Program} {w:World} {K:PySem.W.Frag} {mg:Str->Option Value} {base:Heap} {AA:gv}
theorem VT:gQ ["calls","front","given","place","call","numbers_end","numbers","row","answer"] ["calls"] (gM (fY 127)):=gY (by decide+kernel)
theorem VU(T:Tx P w K mg AA):gL P w K mg base gU 9 AA.Fk AA.Fl ["calls"] (GY K):=by
 have VV:=U9 (base:=base) T;have W1:=VQ (base:=base) T;have Va:=Uv (base:=base) T;have TV:=Td (base:=base) T;have SC:=VT;refine T.answers.fn.ok SC (fun vs H Q E h=> ?_) (fun gz A outer s H vs Q E hr h=> ?_)
 ·obtain⟨a,l,rfl,_⟩:=h;rfl
 ·obtain⟨a,l,rfl,hA,rn,hq⟩:=h
  obtain⟨all,oU⟩:∃cs,PyFlat.calls shape l.length l=some cs:=by
   unfold PyVbkdaa.answers_asked at rn;cases e:PyFlat.calls shape l.length l with
   |none=>rw[e] at rn;cases rn
   |some cs=>exact⟨cs,Z⟩
  have my:=VS oU
  have hb:all.length<=120/\(∀c∈all,PyInside.call PyVbkdaa.bound c=true)/\(kf all).length<=10000000:=by
   unfold PyVbkdaa.answers_asked at rn;rw[oU] at rn;simp only[aH] at rn;obtain⟨⟨⟨⟨_,h1⟩,h2⟩,_⟩,h3⟩:=rn;unfold PyFlat.atMost at h1;unfold PyInside.calls at h2;unfold PyFlat.short at h3;rw[my] at h3;exact⟨cF h1,a9.mp h2,cF h3⟩
  obtain⟨w8,lw,hb3⟩:=hb;rw[my] at hq
  refine⟨_,(fT (gm (i:=1) SC.nd Z (Or.inl Z) (W6 T.Wh VV (hr.mono (by decide)) Z T.Vm T.Wi .nil gH))
   (fT (gm (i:=2) SC.nd Z (Or.inl Z) (gJ fQ))
   (fT (gm (i:=3) SC.nd Z (Or.inl Z) fX)
   (fT (MG bg (ip sG (pv 3) (gW iM (by rfl) T.len aF (fO (pv 0) fQ)) (ij _))
     (fT (gm (i:=4) SC.nd Z (Or.inl Z) (hZ jc (pv 0) (pv 3) (fun _ _=>rfl)))
     (fT (gm (i:=5) SC.nd Z (Or.inl Z) (gB jh (gB jh (pv 3) fX) (ie TV (hr.mono (by decide)) Z T.z0.mg T.z0.fn.kp T.z0.b .nil gH (fO (pv 4) fQ))))
     (fT (gm (i:=6) SC.nd Z (Or.inl Z) (oE oH (pv 0) (kq (gB jh (pv 3) fX)) (kq (pv 5))))
     (fT (gm (i:=7) SC.nd Z (Or.inl Z) (gJ fQ))
     (fT (gm (i:=3) SC.nd Z (Or.inl Z) (pv 5))
     (fT (gZ (lU (ie W1 (hr.mono (by decide)) Z T.AW.mg T.AW.fn.kp T.AW.b .nil gH (fO (pv 4) fQ)))
       (fT (gm (i:=3) SC.nd Z (Or.inl Z) (gB jh (gB jh (pv 5) fX) (hZ jc (pv 0) (pv 5) (fun _ _=>rfl))))
       (fW (gm (i:=7) SC.nd Z (Or.inl Z) (oE oH (pv 0) (kq (gB jh (pv 5) fX)) (kq (pv 3))))))
       ic)
     (fT (gm (i:=8) SC.nd Z (Or.inl Z) (ie Va (hr.mono (by decide)) Z T.Aq.mg T.Aq.fn.kp T.Aq.b .nil gH (fO (pv 1) (fO (pv 4) (fO (pv 6) (fO (pv 7) fQ))))))
     (fT (iS (iU ax aI aL kF (pv 2) (fO (gW iM (by rfl) T.len aF (fO (pv 8) fQ)) fQ)))
     (fW (iS (iU ax a0 a5 m7 (pv 2) (fO (pv 8) fQ)))))))))))))
   (fW (gD (pv 2))))))),?_⟩
  refine fun x dx nx nd CA=> ?_
  refine⟨x,dx,Z,fP,fun H1 F eF o1 iI Q6 fd1=>⟨Z,?_⟩⟩;have s1:fR H H1:=fR.made nx nd fun b o e n=>o1 b o e (by simpa using n)
  have yZ:∀y,(fN (fN H dx (.own x)) x (.ins AA.j9 dx [])) y=none->H y=none:=fun y hy=>((fR.new nd).put nx).free hy
  refine⟨aN _,fun g ng=> ?_⟩;have s2:fR H (fN H1 g (.lst [])):=s1.more ng;have g2:(fN H1 g (.lst [])) g=some (.lst []):=fP;have jm:=iI.same (fR.new (o:=.lst []) ng);have CO:H g=none:=s1.free ng
  refine MH (fun σ H'=>∃(F:iz) (m:RS) (dn cs:List (List (List Int))) (f j:Nat) (v4 v5 v6 v7 v8:Option V),σ=[some (.ref a),some (.ref x),some (.ref g),some (.int (j:Int)),v4,v5,v6,v7,v8]/\F.f=x/\fR H H'/\jf AA H' F (after Vbkdaa.start dn) m dn.length/\dn++cs=all/\PyFlat.calls shape f (l.drop j)=some cs/\j<=l.length/\H' g=some (.lst ((kf dn).map V.int))/\(∀y∈F.mut,H y=none/\y≠g)/\(∀y∈F.deep,y≠g))
   (fun σ _=>match σ with|[_,_,_,some (.int j),_,_,_,_,_]=>l.length-j.toNat|_=>0)
   ⟨F,ox,[],all,l.length,0,none,none,none,none,none,Z,eF,s2,jm,Z,oU,aN _,g2,fun y hy=>⟨?_,?_⟩,fun y hy z=> ?_⟩ ?_ ?_
  ·rcases Q6 y hy with h|h
   ·rw[h];exact nx
   ·exact yZ y h
  ·intro z;have:=iI.lM y hy;rw[z,ng] at this;cases this
  ·have:(H1 y).isSome=true:=iI.rd.Hc y hy;rw[z,ng] at this;cases this
  ·clear iI jm Q6 fd1 g2 s2 o1 eF;rintro σ H3 ⟨F,m,dn,cs,f,j,v4,v5,v6,v7,v8,rfl,eF,s3,kO,tW,pF,hj,g3,fm,fd⟩;subst eF;have CP:=s3.seq hA;refine⟨_,Z,_,Z,a,_,Z,.inl CP,_,_,Z,Z,_,Z,?_⟩;rw[ac]
   by_cases ia:j<l.length
   ·refine gc (ai (by omega)) ?_;have hd:l.drop j=l[j]::l.drop (j+1):=List.drop_eq_getElem_cons ia;have hp:l[j]? =some l[j]:=ak ia;rw[hd] at pF;generalize l[j]=p at pF hp;obtain⟨k,r,row,t,f',pE,hs,Qt,xE,Pl,jV⟩:=Zb pF;rw[aW] at Qt;have dl:dn.length+cs.length=all.length:=by rw[<-tW,ag]
    have cl:cs.length=pE.length+1:=by rw[xE,aj]
    have Q7:row.length<=1100:=by
     refine W0 (ns:=(l.drop (j+1)).take k) hs (lw _ ?_) ?_
     ·rw[<-tW,xE];simp
     ·rintro rfl;rcases jV with h|h
      ·exact h.2.1
      ·cases h.1
    refine⟨_,Z,_,Z,a,_,_,_,Z,Z,CP,iu (j:=j) Z (by rw[au,hp];rfl),?_⟩;refine⟨_,Z,_,_,Z,Z,_,Z,p,k,r,Z,hs,_,_,Z,Z,?_⟩;refine⟨_,Z,_,Z,_,_,Z,Z,_,Z,_,Z,_,Z,a,_,Z,CP,fun q1 n1=> ?_⟩
    have ec1:j0 (l.map V.int) (some ((j:Int)+1)) (some ((j:Int)+1+(k:Int)))=((l.drop (j+1)).take k).map V.int:=by
     rw[show(j:Int)+1=((j+1:Nat):Int) by omega,show((j+1:Nat):Int)+(k:Int)=((j+1+k:Nat):Int) by omega,sy,b9,cq,show j+1+k-(j+1)=k by omega]
    rw[ec1];have Q8:fR H3 (fN H3 q1 (.lst (((l.drop (j+1)).take k).map V.int))):=fR.new n1;have Q9:(fN H3 q1 (.lst (((l.drop (j+1)).take k).map V.int))) q1=_:=fP;refine⟨aN _,fun q2 n2=> ?_⟩;have zH:=Q8.more (o:=.lst []) n2;have CQ:(fN (fN H3 q1 (.lst (((l.drop (j+1)).take k).map V.int))) q2 (.lst [])) q1=some (.lst (((l.drop (j+1)).take k).map V.int)):=(fU (gh Q9 n2)).trans Q9;have Ra:(fN (fN H3 q1 (.lst (((l.drop (j+1)).take k).map V.int))) q2 (.lst [])) q2=some (.lst (([]:List Int).map V.int)):=fP;have nR2:H3 q2=none:=Q8.free n2;show jS _ _ _ _ (fN (fN H3 q1 (.lst (((l.drop (j+1)).take k).map V.int))) q2 (.lst []));generalize fN (fN H3 q1 (.lst (((l.drop (j+1)).take k).map V.int))) q2 (.lst [])=H4 at zH CQ Ra;refine⟨_,Z,?_⟩;refine⟨_,Z,p,k,r,Z,hs,_,Z,?_⟩;rcases jV with⟨zo,abS,hT⟩|⟨hr1,n,jB,hT0,hn,kK,hT⟩
    ·refine gu (by rw[zo];rfl) ?_;have qU:=zH;have gN:=CQ;have gR:=Ra;rw[<-abS] at gR;have nN:=n1;have nR:=nR2;have hT:t=l.drop (j+1+k):=by rw[hT,bw]
     have Jr:j+1+k<=l.length:=by omega
     refine⟨_,Z,_,Z,_,Z,_,Z,F.f,p,q1,q2,k,r,Z,hs,F,after Vbkdaa.start dn,m,dn.length,q1,q2,(l.drop (j+1)).take k,row,Z,kO.same qU,by omega,gN,gR,fun z=> ?_,fun z=> ?_,by rw[aD,aW];omega,Q7,fun H5 F5 m5 q5 e5 o5 CM zI Js Jt g5 f5=> ?_⟩
     ·have:=kO.lM _ z;rw[nN] at this;cases this
     ·have:=kO.lM _ z;rw[nR] at this;cases this
     have rZ:=qU _ _ g3;have vE:=o5 _ _ rZ (fun z=>(fm g z).2 rfl);have Ju:q5≠g:=fun z=>by rw[z,rZ] at f5;cases f5
     have j7:(kf (dn++[iF p (r==1) ((l.drop (j+1)).take k) row])).length<=10000000:=by
      have:=Ng (dn++[iF p (r==1) ((l.drop (j+1)).take k) row]) pE;rw[a7,c9,<-xE,tW] at this;omega
     have et:=Nf dn (iF p (r==1) ((l.drop (j+1)).take k) row);rw[et,ag,aj] at j7;have Jv:fR H H5:=fun b o e=>o5 b o ((s3.trans qU) b o e) (fun z=>by have:=(fm b z).1;rw[e] at this;cases this)
     have e7:=L3 Vbkdaa.start dn (iF p (r==1) ((l.drop (j+1)).take k) row);generalize hST:stepNumbers (after Vbkdaa.start dn) (iF p (r==1) ((l.drop (j+1)).take k) row)=ST at zI g5 et j7 e7;refine⟨_,Z,.inl ⟨Z,_,fS.of vE⟩,_,Z,q5,_,Z,.inl (fS.of g5),g,_,_,Z,Z,vE,cC (show _<=10000000 by rw[ac];omega) (by decide),?_⟩;rw[ac];have tR:=Jv.put (o:=.lst ((kf dn).map V.int++[V.int (ST.2.length:Int)])) CO;have g6:(fN H5 g (.lst ((kf dn).map V.int++[V.int (ST.2.length:Int)]))) g=_:=fP;have zJ:(fN H5 g (.lst ((kf dn).map V.int++[V.int (ST.2.length:Int)]))) q5=_:=(fU Ju).trans g5;have o6:gF [g] H5 (fN H5 g (.lst ((kf dn).map V.int++[V.int (ST.2.length:Int)]))):=gF.refl.put (by simp);generalize fN H5 g (.lst ((kf dn).map V.int++[V.int (ST.2.length:Int)]))=H6 at tR g6 zJ o6;refine⟨_,Z,.inl ⟨Z,_,fS.of g6⟩,_,Z,g,q5,_,_,Z,Z,g6,zJ,a8 (show _<=10000000 by rw[ag,ac,ac];simp only[aj,aZ];omega) (by decide),?_⟩;have o7:=o6.put (o:=.lst ((kf dn).map V.int++[V.int (ST.2.length:Int)]++ST.2.map V.int)) (p:=g) (by simp)
     have nm:∀y∈F5.mut,H y=none/\y≠g:=fun y hy=>by
      rcases Js y hy with h|h
      ·exact fm y h
      ·exact⟨(s3.trans qU).free h,fun z=>by rw[z,rZ] at h;cases h⟩
     have zK:∀y∈F5.deep,y≠g:=fun y hy z=>by
      rcases Jt y hy with h|h|h
      ·exact fd y h z
      ·rw[z] at h;rw[<-h,g3] at nR;cases nR
      ·rw[z,rZ] at h;cases h
     refine⟨⟨F5,m5,dn++[iF p (r==1) ((l.drop (j+1)).take k) row],pE,f',(j+1+k),_,_,_,_,_,Z,e5,tR.put CO,?_,?_,?_,Jr,?_,nm,zK⟩,?_⟩
     ·rw[e7,ag];exact zI.keep o7 (fun a ha z=>(nm a ha).2 (aq.mp z)) (fun a ha z=>zK a ha (aq.mp z)) (fun y hy xs z=>by rw[aq.mp hy,vE] at z;cases z)
     ·rw[a7,c9,<-xE];exact tW
     ·rw[<-hT];exact Pl
     ·rw[fP,et,ao,aB,a7];rfl
     ·show l.length-_<l.length-(j:Int).toNat;omega
    ·refine gc (by rw[hr1];rfl) ?_;have CI:=zH.seq CP;have Jw:l.drop (j+1+k)=(n:Int)::jB:=by rw[<-bw];exact hT0
     have hpn:l[j+1+k]? =some (n:Int):=by
      have:=congrArg List.head? Jw;rw[cK] at this;exact this
     have Rb:jB=l.drop (j+1+k+1):=by
      have:=congrArg List.tail Jw;rw[List.tail_drop] at this;exact this.symm
     have P5:(l.drop (j+1+k)).length=jB.length+1:=by rw[Jw,aj]
     rw[aW] at P5;refine⟨_,Z,_,_,Z,Z,_,Z,_,Z,a,_,_,_,Z,Z,CI,iu (j:=j+1+k) (by omega) (by rw[au,hpn];rfl),_,_,Z,Z,?_⟩;refine⟨_,Z,_,Z,_,_,Z,Z,_,Z,_,Z,_,Z,a,_,Z,CI,fun q3 n3=> ?_⟩
     have ec2:j0 (l.map V.int) (some ((j:Int)+1+(k:Int)+1)) (some ((j:Int)+1+(k:Int)+1+(n:Int)))=(jB.take n).map V.int:=by
      rw[show(j:Int)+1+(k:Int)+1=((j+1+k+1:Nat):Int) by omega,show((j+1+k+1:Nat):Int)+(n:Int)=((j+1+k+1+n:Nat):Int) by omega,sy,b9,Rb,cq,show j+1+k+1+n-(j+1+k+1)=n by omega]
     rw[ec2];have qU:=zH.more (o:=.lst ((jB.take n).map V.int)) n3;have gN:(fN H4 q3 (.lst ((jB.take n).map V.int))) q1=_:=(fU (gh CQ n3)).trans CQ;have gR:(fN H4 q3 (.lst ((jB.take n).map V.int))) q3=some (.lst ((jB.take n).map V.int)):=fP;have nN:=n1;have nR:H3 q3=none:=zH.free n3;generalize fN H4 q3 (.lst ((jB.take n).map V.int))=H4' at qU gN gR;have hT:t=l.drop (j+1+k+1+n):=by rw[hT,Rb,bw]
     have Jr:j+1+k+1+n<=l.length:=by omega
     rw[<-kK] at gR;refine⟨_,Z,_,Z,_,Z,_,Z,F.f,p,q1,q3,k,r,Z,hs,F,after Vbkdaa.start dn,m,dn.length,q1,q3,(l.drop (j+1)).take k,row,Z,kO.same qU,by omega,gN,gR,fun z=> ?_,fun z=> ?_,by rw[aD,aW];omega,Q7,fun H5 F5 m5 q5 e5 o5 CM zI Js Jt g5 f5=> ?_⟩
     ·have:=kO.lM _ z;rw[nN] at this;cases this
     ·have:=kO.lM _ z;rw[nR] at this;cases this
     have rZ:=qU _ _ g3;have vE:=o5 _ _ rZ (fun z=>(fm g z).2 rfl);have Ju:q5≠g:=fun z=>by rw[z,rZ] at f5;cases f5
     have j7:(kf (dn++[iF p (r==1) ((l.drop (j+1)).take k) row])).length<=10000000:=by
      have:=Ng (dn++[iF p (r==1) ((l.drop (j+1)).take k) row]) pE;rw[a7,c9,<-xE,tW] at this;omega
     have et:=Nf dn (iF p (r==1) ((l.drop (j+1)).take k) row);rw[et,ag,aj] at j7;have Jv:fR H H5:=fun b o e=>o5 b o ((s3.trans qU) b o e) (fun z=>by have:=(fm b z).1;rw[e] at this;cases this)
     have e7:=L3 Vbkdaa.start dn (iF p (r==1) ((l.drop (j+1)).take k) row);generalize hST:stepNumbers (after Vbkdaa.start dn) (iF p (r==1) ((l.drop (j+1)).take k) row)=ST at zI g5 et j7 e7;refine⟨_,Z,.inl ⟨Z,_,fS.of vE⟩,_,Z,q5,_,Z,.inl (fS.of g5),g,_,_,Z,Z,vE,cC (show _<=10000000 by rw[ac];omega) (by decide),?_⟩;rw[ac];have tR:=Jv.put (o:=.lst ((kf dn).map V.int++[V.int (ST.2.length:Int)])) CO;have g6:(fN H5 g (.lst ((kf dn).map V.int++[V.int (ST.2.length:Int)]))) g=_:=fP;have zJ:(fN H5 g (.lst ((kf dn).map V.int++[V.int (ST.2.length:Int)]))) q5=_:=(fU Ju).trans g5;have o6:gF [g] H5 (fN H5 g (.lst ((kf dn).map V.int++[V.int (ST.2.length:Int)]))):=gF.refl.put (by simp);generalize fN H5 g (.lst ((kf dn).map V.int++[V.int (ST.2.length:Int)]))=H6 at tR g6 zJ o6;refine⟨_,Z,.inl ⟨Z,_,fS.of g6⟩,_,Z,g,q5,_,_,Z,Z,g6,zJ,a8 (show _<=10000000 by rw[ag,ac,ac];simp only[aj,aZ];omega) (by decide),?_⟩;have o7:=o6.put (o:=.lst ((kf dn).map V.int++[V.int (ST.2.length:Int)]++ST.2.map V.int)) (p:=g) (by simp)
     have nm:∀y∈F5.mut,H y=none/\y≠g:=fun y hy=>by
      rcases Js y hy with h|h
      ·exact fm y h
      ·exact⟨(s3.trans qU).free h,fun z=>by rw[z,rZ] at h;cases h⟩
     have zK:∀y∈F5.deep,y≠g:=fun y hy z=>by
      rcases Jt y hy with h|h|h
      ·exact fd y h z
      ·rw[z] at h;rw[<-h,g3] at nR;cases nR
      ·rw[z,rZ] at h;cases h
     refine⟨⟨F5,m5,dn++[iF p (r==1) ((l.drop (j+1)).take k) row],pE,f',(j+1+k+1+n),_,_,_,_,_,Z,e5,tR.put CO,?_,?_,?_,Jr,?_,nm,zK⟩,?_⟩
     ·rw[e7,ag];exact zI.keep o7 (fun a ha z=>(nm a ha).2 (aq.mp z)) (fun a ha z=>zK a ha (aq.mp z)) (fun y hy xs z=>by rw[aq.mp hy,vE] at z;cases z)
     ·rw[a7,c9,<-xE];exact tW
     ·rw[<-hT];exact Pl
     ·rw[fP,et,ao,aB,a7];rfl
     ·show l.length-_<l.length-(j:Int).toNat;omega
   ·refine gu (ae (by omega)) ?_;have e:j=l.length:=by omega
    rw[e,eA] at pF;have pF:some []=some cs:=by cases f<;>exact pF
    rw[<-af pF,bc] at tW;refine⟨_,Z,?_⟩;refine hq H3 g s3 ?_;rw[<-tW];exact g3
  ·rintro σ H' Q1 Q2 hm ⟨v,hv,v0,hv0,p,ys,e0,sq,i,j,e1,e2,c,e3,q⟩;exact⟨v,hv,v0,hv0,p,ys,e0,sq,i,j,e1,e2,c,e3,hm _ _ q⟩
end
def Pm(w:World):List (L2.Key×V)->List DictEntry->Prop:=Paired fun p e=>sD p.1 e.key=true/\e.hash=Hd w p.1/\RelV p.2 e.val
theorem AN{P:Program}{w:World}{kvs:List (L2.Key×V)}{es:List DictEntry}(h:Pm w kvs es):KV kvs (List.zipWith (fun p e=>(p.1,e.val)) kvs es)/\(∀e∈es,∃k,sD k e.key=true/\e.hash=Hd w k)/\Pairs (k9 P w) es (List.zipWith (fun p e=>(p.1,e.val)) kvs es)/\(List.zipWith (fun p e=>(p.1,e.val)) kvs es).map (·.1)=kvs.map (·.1):=by
 induction h with
 |nil=>exact⟨.nil,(fun e h=>(by cases h)),.nil,Z⟩
 |cons h1 _ ih=>
  obtain⟨i1,i2,i3,i4⟩:=ih;refine⟨.cons ⟨Z,h1.2.2⟩ i1,fun e he=> ?_,.cons h1.1 rfl i3,?_⟩
  ·rcases az.mp he with rfl|he
   ·exact⟨_,h1.1,h1.2.1⟩
   ·exact i2 e he
  ·rw[cQ,aB,i4];rfl
theorem Nh{P:Program}{w:World}{K:PySem.W.Frag}{a:Addr}{es:List DictEntry}{ep:Nat}{kvs:List (L2.Key×V)}(l:K.lookup a=some ⟨.type "dict",none,.dict es.toArray ep,#[]⟩)(hs:(a==sysModules)=false)(he:Pm w kvs es)(hn:(kvs.map (·.1)).Nodup):wm P w K a kvs:=by
 refine⟨hs,List.zipWith (fun p e=>(p.1,e.val)) kvs es,?_,fun h X=>⟨_,es.toArray,ep,X _ _ l,⟨Z,Z,Z⟩,Z,?_,?_,?_⟩⟩
 ·exact(AN (P:=P) he).1
 ·exact fun e h=>(AN (P:=P) he).2.1 e (List.mem_toArray.mp h)
 ·exact(AN (P:=P) he).2.2.1
 ·rw[(AN (P:=P) he).2.2.2];exact hn
theorem N6{K:PySem.W.Frag}{a:Addr}{xs:List V}{o:Option Addr}{fV:List Value}{n:Nat}{sl:Array (Option Value)}(l:K.lookup a=some ⟨.type "tuple",o,.seq fV.toArray n,sl⟩)(h:fV.length<=sizeLine)(r:gG xs fV):iY K a xs:=⟨_,fV.toArray,_,l,Z,Z,by simpa using h,by simpa using r⟩
theorem Oo{K:PySem.W.Frag}{h:Heap}{mg:Str->Option Value}{x:Str}{st:Stmt}{ps:List Str}{f:Addr}{oc:Value}{od an:Option Addr}{oZ:Array (Option Value)}{kV doc pm gz ct:Value}(X:K.In h)(G:h.Ns mainGlobals mg)(a:PySem.W.nsIn K mainGlobals x=some (some (.ref f)))
 (l:K.lookup f=some ⟨oc,od,.func (PySem.W.fnOf x x (uA st) (q0 st) (gM st) .none kV doc pm an gz ct),oZ⟩) (c:PySem.W.codeIn K gz x=true) (k:PySem.W.keepIn K (.ref f)=true)
 (b:∀(kV doc pm:Value) (an:Option Addr) (gz ct:Value) (us:List Value),us.length=ps.length->bindArgs (PySem.W.fnOf x x (uA st) (q0 st) (gM st) .none kV doc pm an gz ct) ⟨us,[]⟩=pure (ps.zip us)):iA K mg x st ps f (PySem.W.fnOf x x (uA st) (q0 st) (gM st) .none kV doc pm an gz ct):=
 ⟨Bc l c k,eJ X G a,(Bc l c k).binds b⟩
def Ni(es:List DictEntry):Bool:=es.all fun e=>match e.key with
 |.str _ _=>true
 |_=>false
theorem VW{es:List DictEntry}(h:Ni es=true):StrKeys es.toArray:=fun e he=>by
 have z:=a9.mp h e (List.mem_toArray.mp he);revert z;cases e.key with
 |str n t=>exact fun _=>⟨n,t,Z⟩
 |_=>intro z;cases z
theorem N7{K:PySem.W.Frag}{C fI N:Addr}{nm q bs sn sub ab col dd k0 k1 k2 k3 k5}{oc:Value}{od:Option Addr}{sl:Array (Option Value)}{es:List DictEntry}{ep:Nat}{of:Option Addr}{df:Data}{sf:Array (Option Value)}
 (h0:PySem.W.findIn K (.ref C) "__init__"=some (some (.ref fI)))
 (h1:K.lookup C=some (excClassObj nm q C N bs FX.qL true sn sub ab col dd k0 k1 k2 k3 k5 "Exception.__new__")) (h2:K.lookup N=some ⟨oc,od,.dict es.toArray ep,sl⟩)
 (h4:Ni es=true) (h5:nsFind es.toArray "__init__"=some (.ref fI)) (h6:nsFind es.toArray "__setattr__"=none) (h7:nsFind es.toArray "__getattribute__"=none) (h8:nsFind es.toArray "__getattr__"=none) (h9:nsFind es.toArray "kind"=none) (mX:nsFind es.toArray "place"=none)
 (rX:K.lookup fI=some ⟨.type "function",of,df,sf⟩) (rY:PySem.W.keepIn K (.ref C)=true):pT K C fI:=
 ⟨⟨nm,q,N,bs,sn,sub,ab,col,dd,k0,k1,k2,k3,k5,_,_,ep,h1,h2,Z,VW h4,h5,h6,h7,h8,h9,mX⟩,⟨_,rX,Z⟩,rY⟩
theorem OP{K:PySem.W.Frag}{C:Addr}{f:Str}(h:PySem.W.findIn K (.ref C) f=some none):ji K C f:=h
theorem fin{P:Program}{w:World}{K:PySem.W.Frag}{mg:Str->Option Value}{AA:gv}{f:Addr}(T:Tx P w K mg AA)(e:AA.Fk=f)(b:∀(s:Shared) (us:List Value),us.length=(["calls"]:List Str).length->BindsTo s AA.Fl ⟨us,[]⟩ ((["calls"]:List Str).zip us)):
 ∃fd:FuncData,(∀(s:Shared) (us:List Value),us.length=(["calls"]:List Str).length->BindsTo s fd ⟨us,[]⟩ ((["calls"]:List Str).zip us))/\∀base:Heap,K.In base->base.Ns mainGlobals mg->gL P w K mg base gU 9 f fd ["calls"] (GY K):=by
 subst e;exact⟨_,b,fun base _ _=>VU T⟩
open PySem.W (WData Codec OpenSpec Well WellAll ReadsW ReadsAllW)
theorem MD{P:Params}{h:Heap}:∀(l:List Int) (us:List Value),WellAll P h us (l.map WData.int)->gG (l.map V.int) us
 |[],_,x=>by
  cases x;exact .nil
 |i::r,_,x=>by
  cases x with
  |cons h1 h2=>
   cases h1;exact .cons ⟨_,Z⟩ (MD r _ h2)
theorem FU{R:PySem.W.WRecords}{cl:Str->Option Addr}{h:Heap}:∀(l:List Int) (us:List Value),gG (l.map V.int) us->∃as,ReadsAllW R cl h us (l.map WData.int) as
 |[],_,x=>by
  cases x;exact⟨_,ReadsAllW.nil⟩
 |i::r,_,x=>by
  cases x with
  |cons h1 h2=>
   obtain⟨t,rfl⟩:=h1;obtain⟨as,q⟩:=FU r _ h2;exact⟨_,ReadsAllW.cons (ReadsW.int i t) q⟩
def Hz(K:PySem.W.Frag)(a:Addr)(o:Obj)(xs:List V):Hp:=fun b=>if b=a/\(K.lookup b).isNone=true then some (.jQ o (.lst xs)) else none
theorem walk{q:Program}{aaP:List Str}{XP:(Str->Option Value)->Heap->Prop}{YP:World->Heap->Prop}{d:DefRec}{K:Params->PySem.W.Frag}{sp:PySem.W.Frag->Sp}
 (aaQ:PySem.Challenge.rw_frontends_s01_answers.wellSaid=true)
 (hY:∀(w:World) (h:Heap),YP w h->(K w.params).In h)
 (F:∀(w:World) (mg:Str->Option Value) (fa:Addr) (h:Heap),YP w h->(K w.params).In h->h.Ns mainGlobals mg->mg d.name=some (.ref fa)->
   ∃fd:FuncData,(∀(s:Shared) (us:List Value),us.length=(["calls"]:List Str).length->BindsTo s fd ⟨us,[]⟩ ((["calls"]:List Str).zip us))/\
    ∀base:Heap,(K w.params).In base->base.Ns mainGlobals mg->gL PySem.Challenge.rw_frontends_s01_answers.prog w (K w.params) mg base gU 9 fa fd ["calls"] (sp (K w.params)))
 (tq:∀(K:PySem.W.Frag) (H:Hp) (a:Addr) (l:List Int),PyVbkdaa.answers_asked l=true->fS K H a (l.map V.int)->
   sp K [.ref a] H (fun v H'=>∃p,v=.ref p/\fS K H' p ((PyVbkdaa.answers l).map V.int)) fun _ _ _=>False):
 PySem.W.WalkOS q aaP XP YP PySem.Challenge.rw_frontends_s01_answers d [] (fun f vs=>PySem.call f vs):=by
 intro w kX iL mg mb G Y fa o pm cd doc dV kV ho hd og hD Jx hg args abT as abU abV tV rM hlo;obtain⟨a,e1,e2⟩:=PySem.W.os_pre_some abU;obtain⟨e3,Cn⟩:=Codec.encAll_of_decAll _ args a e1;subst e3;have KX:=hY w _ Y;obtain⟨fd,hbd,hF⟩:=F w mg fa _ Y KX G.T.g Jx;refine PySem.W.enter_call ?_;generalize hl:a.1=l at*;have rn:PyVbkdaa.answers_asked l=true:=by rw[<-hl];exact e2
 have rM:WellAll w.params iL.heap abT [.list (l.map WData.int)]:=by rw[<-hl];exact rM
 have hz:l.length<=sizeLine:=by
  have z:=(PySem.W.layableW_iff.mp (a9.mp abV (.list (a.1.map WData.int)) (bx ..))).2.2;have z2:WData.weightAll (a.1.map WData.int)<=1048576:=z;have z3:=PySem.W.length_le_weightAllW (a.1.map WData.int);rw[ac,hl] at z3;rw[hl] at z2;exact a8 z3 (a8 z2 (by decide))
 cases rM with
 |cons x1 x2=>
 cases x2;cases x1 with
 |list xF oU=>
 rename_i ad us;have hv:=MD l us oU;generalize Jy:({cls:=.type "list",data:=.seq us.toArray}:Obj)=ob at xF;generalize hH:Hz (K w.params) ad ob (l.map V.int)=H
 have hO:∀b u,H b=some u->b=ad/\(K w.params).lookup b=none/\u=.jQ ob (.lst (l.map V.int)):=fun b u e=>by
  rw[<-hH] at e;unfold Hz at e;split at e
  ·rename_i c;exact⟨c.1,Option.isNone_iff_eq_none.mp c.2,(af e).symm⟩
  ·cases e
 have gj:iZ PySem.Challenge.rw_frontends_s01_answers.prog w H iL.heap:=fun b u e=>by
  obtain⟨rfl,_,rfl⟩:=hO b u e;exact⟨xF,by rw[ac];exact hz,us,_,hv,by rw[xF,<-Jy]⟩
 have hS:fS (K w.params) H ad (l.map V.int):=by
  cases hk:(K w.params).lookup ad with
  |none=>exact .inl (.inr ⟨ob,by rw[<-hH];unfold Hz;rw[aw ⟨Z,by rw[hk];rfl⟩]⟩)
  |some o2=>
   have e2:=KX ad o2 hk;rw[xF] at e2;obtain rfl:=af e2;subst Jy;exact .inr ⟨_,us.toArray,_,hk,Z,Z,Z,by rw[aR,<-hv.length,ac];exact hz,by simpa using hv⟩
 have yM:∀{b:Addr} {o:Obj} {es:Array DictEntry} {ep:Nat},iL.heap.get? b=some o->o.data=.dict es ep->H b=none:=fun{b o es ep} e d=>by
  cases q:H b with
  |none=>rfl
  |some u=>
   obtain⟨rfl,_,_⟩:=hO b u q;rw[xF] at e;cases e;rw[<-Jy] at d;cases d
 have CS:∀{b:Addr} {m:Str->Option Value},iL.heap.Ns b m->(sP iL.heap H).Ns b m:=fun{b m} ⟨o,es,ep,e,d,r⟩=>⟨o,es,ep,ME e (yM e d),d,r⟩
 have Rc:(K w.params).In (sP iL.heap H):=fun b o e=>ME (KX b o e) (by
  cases q:H b with
  |none=>rfl
  |some u=>
   rw[(hO b u q).2.1] at e;cases e)
 have hM:Mod (K w.params) mg (sP iL.heap H):=⟨Rc,CS G.T.g,⟨mb,CS G.T.b,G.T.builtins⟩,let ⟨mc,h1,h2⟩:=G.T.nolimit;⟨mc,CS h1,h2⟩⟩;have e0:uW PySem.Challenge.rw_frontends_s01_answers.prog w (K w.params) mg (sP iL.heap H) callerA [] iL H:=⟨Z,hM,fun b o e=>X9 e,Nat.le_of_eq (VX _ _),trivial,fun b hb=>absurd (show b∈([]:List Addr) from hb) (by simp),gj,.of_eq hg⟩;refine eZ ((hF _ Rc (CS G.T.g)).run callerA [] iL H ⟨[.ref ad],[]⟩ [.ref ad] [.ref ad] _ _ ⟨Z,by decide,by decide⟩ e0 (hbd iL _ Z) (.cons Z .nil) (tq _ H ad l rn hS)) fun r s' x=> ?_
 cases r with
 |error e=>exact x.elim
 |ok fl=>
  cases fl with
  |next=>exact False.elim x
  |brk=>exact False.elim x
  |cont=>exact False.elim x
  |ret u=>
   obtain⟨v,H',os,bare,un,Pn,r',p,rfl,hq⟩:=x
   have kept:∀b o,iL.heap.get? b=some o->s'.heap.get? b=some o:=fun b o e=>by
    cases q2:H b with
    |none=>exact un.keep b o e q2 (by intro z;exact absurd (show b∈([]:List Addr) from z) (by simp)) (by simp)
    |some u2=>
     obtain⟨rfl,_,rfl⟩:=hO b u2 q2;obtain⟨e2,_⟩:=Pn b _ (un.lJ b ob _ q2);rw[xF] at e;cases e;exact e2
   have KX':(K w.params).In s'.heap:=fun b o e=>kept b o (KX b o e)
   cases r'
   have tV:∃as,ReadsW ([]:PySem.W.WRecords) (classAt kX.heap) s'.heap (.ref p) (.list ((PyVbkdaa.answers l).map WData.int)) as:=by
    rcases hq with q|⟨o,fV,n,e,hc,_,hd,_,hv⟩
    ·obtain⟨_,fV,n,hv,e⟩:=(show jk PySem.Challenge.rw_frontends_s01_answers.prog w H' s'.heap p (.lst _) from q.ok Pn);obtain⟨as,z⟩:=FU _ fV hv;exact⟨_,ReadsW.list e Z Z z⟩
    ·obtain⟨as,z⟩:=FU _ fV.toList hv;exact⟨_,ReadsW.list (KX' _ _ e) hc (show _=Data.seq fV.toList.toArray n by simp[hd]) z⟩
   obtain⟨as',tV⟩:=tV;exact⟨.inl ⟨.ref p,_,as',Z,fun _=>rfl,tV,(OpenSpec.post_iff aaQ Cn _ _).mpr (by subst hl;rfl),fun z=>Bool.noConfusion (show false=true from z)⟩,OldK.of_keep kept,os,bare⟩
end FE
open PySem PySem.W PyProof.Rows
set_option maxRecDepth 100000 in
set_option maxHeartbeats 0 in
theorem PySem.Challenge.cw_frontends_s01_answers_holds : PySem.Challenge.rw_frontends_s01_answers.Holds := by
 w_on;k_headS;(case hw=>exact⟨[.list [.int 2]],by decide+kernel,by decide+kernel⟩)
 k_fillS
 refine FE.walk (sp:=FE.GY) (by decide+kernel) (fun w h Y=>PySem.W.kIn_of Y) ?F ?S
 case F=>
  intro w mg fa h Y KX G Jx;have e:=Jx.symm.trans (eJ KX G (n:="answers") (by k_is));cases e
  exact FE.fin (AA:=⟨_,_,_,_,_,_,_,_,_,_,_,_,_,_,_,_,_,_,_,_,_,_,_,_,_,_,_,_,_,_,_,_,_,_,_,_,_,_,_,_,_,_,_,_,_,_,_,_,_,_,_,_,_,_,_,_,_,_,_,_,_,_,_,_,_,_,_,_,_,_,_,_,_,_,_,_,_,_,_,_,_,_,_,_,_,_,_,_,_,_,_,_,_,_,_,_,_,_,_,_,_,_,_,_,_,_,_,_,_,_,_,_,_,_,_,_,_,_,_,_,_,_,_,_,_,_,_,_,_,_,_,_,_,_,_,_,_,_,_,_,_,_,_,_,_,_,_,_,_,_,_,_,_,_,_,_,_,_,_,_,_,_,_,_,_,_,_,_,_,_,_,_,_,_,_,_,_,_,_,_,_,_,_,_,_,_,_,_,_⟩) (by
   constructor
   all_goals try dsimp only
   all_goals try first
    |exact PySem.W.mg_none_of KX G (by k_is)
    |exact eJ KX G (by k_is)
    |exact FE.OP (by k_is)
    |exact⟨_,eJ KX G (by k_is)⟩
    |(refine' FE.Oo KX G (by k_is) (by k_is) (by k_is) (by k_is) ?_;first|(exact fun _ _ _ _ _ _ us hl=>match us,hl with|[_,_,_],_=>rfl)|(exact fun _ _ _ _ _ _ us hl=>match us,hl with|[_],_=>rfl)|(exact fun _ _ _ _ _ _ us hl=>match us,hl with|[_,_],_=>rfl)|(exact fun _ _ _ _ _ _ us hl=>match us,hl with|[_,_,_,_],_=>rfl))
    |exact L2.Bc (by k_is) (by k_is) (by k_is)
    |(exact .all fun us hl=>match us,hl with|[_],_=>rfl)|(exact .all fun us hl=>match us,hl with|[_,_],_=>rfl)|(exact .all fun us hl=>match us,hl with|[_,_,_],_=>rfl)|(exact .all fun us hl=>match us,hl with|[_,_,_,_],_=>rfl)
    |exact⟨by k_is,by k_is,by k_is,by k_is⟩
    |exact⟨by k_is,by k_is,by k_is⟩
    |exact FE.N6 (by k_is) (by decide) (by repeat first|exact .nil|refine' .cons (by first|exact⟨_,Z⟩|exact Z) ?_)
    |exact FE.Nh (by k_is) (by decide) (by repeat first|exact .nil|refine' .cons ⟨by first|exact L2.Fd _ _|exact L2.Fc _ _,by exact Z,by exact Z⟩ ?_) (by decide+kernel)
    |exact FE.N7 (by k_is) (by k_is) (by k_is) (by kernel_rfl) (by kernel_rfl) (by kernel_rfl) (by kernel_rfl) (by kernel_rfl) (by kernel_rfl) (by kernel_rfl) (by k_is) (by k_is)
   all_goals try dsimp only
   all_goals first
    |exact PySem.W.mg_none_of KX G (by k_is)
    |exact eJ KX G (by k_is)
    |exact FE.OP (by k_is)
    |exact⟨_,eJ KX G (by k_is)⟩
    |(refine' FE.Oo KX G (by k_is) (by k_is) (by k_is) (by k_is) ?_;first|(exact fun _ _ _ _ _ _ us hl=>match us,hl with|[_,_,_],_=>rfl)|(exact fun _ _ _ _ _ _ us hl=>match us,hl with|[_],_=>rfl)|(exact fun _ _ _ _ _ _ us hl=>match us,hl with|[_,_],_=>rfl)|(exact fun _ _ _ _ _ _ us hl=>match us,hl with|[_,_,_,_],_=>rfl))
    |exact L2.Bc (by k_is) (by k_is) (by k_is)
    |(exact .all fun us hl=>match us,hl with|[_],_=>rfl)|(exact .all fun us hl=>match us,hl with|[_,_],_=>rfl)|(exact .all fun us hl=>match us,hl with|[_,_,_],_=>rfl)|(exact .all fun us hl=>match us,hl with|[_,_,_,_],_=>rfl)
    |exact⟨by k_is,by k_is,by k_is,by k_is⟩
    |exact⟨by k_is,by k_is,by k_is⟩
    |exact FE.N6 (by k_is) (by decide) (by repeat first|exact .nil|refine' .cons (by first|exact⟨_,Z⟩|exact Z) ?_)
    |exact FE.Nh (by k_is) (by decide) (by repeat first|exact .nil|refine' .cons ⟨by first|exact L2.Fd _ _|exact L2.Fc _ _,by exact Z,by exact Z⟩ ?_) (by decide+kernel)
    |exact FE.N7 (by k_is) (by k_is) (by k_is) (by kernel_rfl) (by kernel_rfl) (by kernel_rfl) (by kernel_rfl) (by kernel_rfl) (by kernel_rfl) (by kernel_rfl) (by k_is) (by k_is)
   ) Z (by exact fun s us hu=>match us,hu with|[_],_=>.of_eq Z)
 case S=>exact fun K H a l ha hs=>⟨_,l,Z,hs,ha,fun H' p _ hp=>⟨p,Z,L2.fS.of hp⟩⟩
