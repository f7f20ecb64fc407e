import PyProof.Rows.All
import Wide.All
import OpenK.AllK
import Wide.FinOn
import PyProof.EqAt
import PyProof.EqKinds
import PyProof.TupleCall
import KE.BitLaws
import PyProof.InstStoreFacts
import PyProof.ExcInit
import PyProof.InstLoad
import PyProof.ExcAttrAll.Exception
import PyProof.StationsW
import PyProof.ExcClass
import PyProof.RulesAs
import PyProof.NsDelKeeps
import KE.IntTextLaws
import Open.SpecLaws
import KE.OsHead
import KE.OsGo
import PySem.Challenge.RW_frontends_s01_answers
set_option Elab.async false
set_option linter.all false
set_option maxRecDepth 100000
set_option maxHeartbeats 4000000
theorem Z.{u} {a:Sort u}{b:a}:b=b:=rfl
abbrev ac:=@List.length_map
abbrev ae:=@decide_eq_false
abbrev af:=@Option.some.inj
abbrev ag:=@List.length_append
abbrev ai:=@decide_eq_true
abbrev aj:=@List.length_cons
abbrev ak:=@List.getElem?_eq_getElem
abbrev am:=@if_neg
abbrev ao:=@List.map_append
abbrev ap:=@List.getElem?_eq_some_iff
abbrev aq:=@List.mem_singleton
abbrev au:=@List.getElem?_map
abbrev aw:=@if_pos
abbrev ax:=@PySem.F.plainAttrs_list
abbrev ay:=@PySem.wpAny_bind
abbrev az:=@List.mem_cons
abbrev aA:=@Nat.le_refl
abbrev aB:=@List.map_cons
abbrev aC:=@PySem.Heap.get?_push_of_some
abbrev aD:=@List.length_take
abbrev aE:=@List.getD_eq_getElem?_getD
abbrev aF:=@PySem.boot_len
abbrev aG:=@List.mem_append
abbrev aH:=@Bool.and_eq_true
abbrev aI:=@PySem.F.slot_list_append
abbrev aJ:=@decide_eq_true_eq
abbrev aK:=@PySem.Heap.lt_size
abbrev aL:=@PySem.F.type_list_append
abbrev aM:=@List.length_eq_zero_iff
abbrev aN:=@Nat.zero_le
abbrev aO:=@PySem.Heap.get?_push_size
abbrev aP:=@Prod.mk.inj
abbrev aQ:=@Bool.false_ne_true
abbrev aR:=@List.size_toArray
abbrev aS:=@List.mem_of_getElem?
abbrev aT:=@List.take_length
abbrev aU:=@Nat.lt_of_lt_of_le
abbrev aV:=@List.take_of_length_le
abbrev aW:=@List.length_drop
abbrev aX:=@List.mem_cons_of_mem
abbrev aY:=@PySem.wpAny_pure
abbrev aZ:=@List.length_nil
abbrev a0:=@PySem.F.slot_list_extend
abbrev a5:=@PySem.F.type_list_extend
abbrev a6:=@List.append_assoc
abbrev a7:=@Int.toNat_natCast
abbrev a8:=@Nat.le_trans
abbrev a9:=@List.all_eq_true
abbrev ba:=@Nat.ne_of_lt
abbrev bc:=@List.append_nil
abbrev bf:=@PySem.mem_of_lookup
abbrev bg:=@PySem.PassesOwn.never
abbrev bh:=@List.not_mem_nil
abbrev bi:=@List.mem_map
abbrev bj:=@List.nodup_cons
abbrev bn:=@List.mem_append_right
abbrev bo:=@Bool.false_eq_true
abbrev bp:=@List.getElem?_append_left
abbrev bq:=@PySem.Heap.get?_update_other
abbrev br:=@List.flatMap_cons
abbrev bv:=@List.mem_cons_self
abbrev bw:=@List.drop_drop
abbrev bx:=@List.getElem?_append_right
abbrev bz:=@PySem.Heap.size_push
abbrev bA:=@List.getElem?_eq_none
abbrev bB:=@Int.eq_ofNat_of_zero_le
abbrev bC:=@List.take_succ
abbrev bD:=@List.length_singleton
abbrev bE:=@List.map_map
abbrev bF:=@PySem.wpAny_mono
abbrev bG:=@List.drop_eq_nil_of_le
abbrev bH:=@PySem.wpAny_Call_Name_kw
abbrev bI:=@List.countP_eq_length_filter
abbrev bJ:=@List.foldl_cons
abbrev bK:=@Bool.eq_iff_iff
abbrev bL:=@Nat.lt_irrefl
abbrev bM:=@List.cons_append
abbrev bN:=@List.replicate_succ
abbrev bO:=@List.flatMap_append
abbrev bP:=@List.take_append_drop
abbrev bQ:=@List.length_replicate
abbrev bR:=@PySem.wpAny_truthy_bool
abbrev bS:=@Bool.not_eq_true
abbrev bT:=@List.range_succ_eq_map
abbrev bU:=@List.filterMap_cons
abbrev bW:=@List.map_congr_left
abbrev bX:=@List.foldl_append
abbrev bY:=@PySem.wpAny_loadPart_at
abbrev bZ:=@List.reverse_cons
abbrev b5:=@List.mem_iff_getElem?
abbrev b6:=@PySem.Heap.get?_update_self
abbrev b8:=@List.getElem?_reverse
abbrev b9:=@List.map_take
abbrev cf:=@List.length_filterMap_le
abbrev cg:=@List.map_nil
abbrev ci:=@List.mem_filterMap
abbrev ck:=@beq_iff_eq
abbrev cp:=@PyProof.Rows.callWith_type1
abbrev cq:=@List.map_drop
abbrev cu:=@List.flatten_cons
abbrev cv:=@List.length_reverse
abbrev cw:=@Nat.min_eq_left
abbrev cx:=@List.getLast?_eq_getElem?
abbrev cy:=@List.length_filter_le
abbrev cz:=@PySem.F.plain_max_loop
abbrev cA:=@Nat.le_add_right
abbrev cC:=@Nat.lt_of_le_of_lt
abbrev cD:=@List.take_append_of_le_length
abbrev cE:=@PySem.F.type_list_count
abbrev cF:=@of_decide_eq_true
abbrev cG:=@Bool.not_eq_true'
abbrev cH:=@PySem.F.slot_list_count
abbrev cI:=@Ne.symm
abbrev cJ:=@List.head?_drop
abbrev cK:=@List.length_zip
abbrev cM:=@beq_eq_false_iff_ne
abbrev cN:=@or_false
abbrev cO:=@List.length_eq_one_iff
abbrev cP:=@List.zipWith_cons_cons
abbrev cQ:=@List.all_cons
abbrev cR:=@PySem.wpAny_field
abbrev cS:=@List.filter_cons
abbrev cT:=@List.lookup_cons
abbrev cU:=@List.getElem?_drop
abbrev cV:=@Array.getElem?_eq_some_iff
abbrev cW:=@if_false
abbrev cX:=@PySem.F.called_enumerate
abbrev cY:=@PySem.F.slot_tuple_iterator_next
abbrev cZ:=@Bool.false_and
abbrev c7:=@List.singleton_append
abbrev c9:=@Classical.byContradiction
abbrev da:=@PySem.wpAny_passesOwn
abbrev db:=@List.all_map
abbrev dc:=@PySem.codeAny_call_builtin
abbrev dg:=@Nat.pow_le_pow_right
abbrev dh:=@List.nodup_append
abbrev di:=@PySem.wpAny_typeLookup_exc
abbrev dj:=@Nat.testBit_eq_decide_div_mod_eq
abbrev dm:=@List.mem_append_left
abbrev dq:=@List.getElem?_take_of_lt
abbrev dr:=@List.cons.inj
abbrev du:=@List.filterMap_cons_some
abbrev dv:=@List.any_cons
abbrev dw:=@PySem.plainObj_wpAny_Assign_Attribute
abbrev dz:=@if_true
abbrev dA:=@Bool.and_false
abbrev dB:=@List.getElem?_cons_succ
abbrev dC:=@PySem.Obj.data_mapFields
abbrev dE:=@List.getElem?_set_self
abbrev dF:=@Nat.zero_add
abbrev dG:=@PySem.W.callWith_K
abbrev dH:=@PySem.Calls.callWith_builtin
abbrev dI:=@PySem.wpAny_execs_nil
abbrev dJ:=@List.countP_map
abbrev dL:=@PySem.wpAny_holding
abbrev dM:=@Except.ok.inj
abbrev dN:=@PySem.wpAny_standAt
abbrev dO:=@PySem.Paired.length
abbrev dP:=@Bool.true_and
abbrev dQ:=@PySem.wpAny_newObj_type
abbrev dR:=@PySem.wpAny_pyIter_list
abbrev dS:=@PySem.wpAny_pyIter_enum
abbrev dU:=@Nat.lt_succ_of_lt
abbrev dW:=@PySem.Around.under_plainId
abbrev dX:=@List.mem_range
abbrev dY:=@List.getElem?_set_ne
abbrev dZ:=@List.count_eq_countP
abbrev d7:=@PySem.wpAny_seqItems
abbrev d8:=@PySem.F.attrBase_Exception
abbrev d9:=@Nat.succ_mul
abbrev eu:=@List.drop_length
abbrev eA:=@List.getElem?_zip_eq_some
abbrev eB:=@List.flatten_append
abbrev eE:=@Nat.xor_assoc
abbrev eG:=@List.contains_eq_any_beq
abbrev eI:=@PySem.W.mg_of
abbrev eJ:=@List.mem_filter
abbrev eM:=@Nat.testBit_xor
abbrev eO:=@List.range_succ
abbrev eP:=@PySem.codeAny_builtin
abbrev eQ:=@PySem.wpAny_pyIter_tuple
abbrev eU:=@List.filterMap_map
abbrev eV:=@PySem.Calls.spliced_cons
abbrev eW:=@PySem.tupleKind_room_in1
abbrev eX:=@PySem.wpAny_callSpecial?_slot
abbrev eY:=@List.length_range
abbrev eZ:=@PySem.codeAny_mono
abbrev e6:=@List.find?_cons_of_pos
abbrev e8:=@PySem.wpAny_setField
abbrev fg:=@List.any_map
abbrev fh:=@List.find?_cons_of_neg
abbrev fi:=@PySem.wpAny_tryCatch
abbrev fj:=@Nat.le_of_succ_le
abbrev fk:=@PySem.F.slot_dict_get
abbrev fo:=@PySem.W.methodCall_KW
abbrev fu:=@List.contains_iff_mem
abbrev fz:=@PySem.F.entry_max_loop
abbrev fA:=@List.take_add
abbrev fB:=@PyProof.Rows.boot_max
abbrev fC:=@PySem.W.plainGet_of
abbrev fD:=@Int.toNat_of_nonneg
abbrev fE:=@List.getElem_of_mem
abbrev fF:=@List.reverse_append
abbrev fG:=@List.length_zipWith
abbrev fH:=@List.mem_map_of_mem
abbrev fJ:=@Array.length_toList
abbrev fK:=@Nat.ne_of_gt
namespace L2
open PySem PySem.Spec PyProof.Rows
abbrev Key:=Sum Int Str
def sy:Key->Value->Bool
 |.inl k,v=>Value.isInt k v
 |.inr x,v=>Value.isStrOf x v
def Ha(w:World):Key->Int
 |.inl k=>hashInt k
 |.inr x=>hashStr w x
theorem qV:∀{k:Key} {v:Value},sy k v=true->(∃i t,k=Sum.inl i/\v=Value.int i t)\/(∃x t,k=Sum.inr x/\v=Value.str x t)
 |.inl i,v,h=>by
  obtain⟨t,e⟩:=Value.isInt_shape (k:=i) (v:=v) h;exact .inl ⟨i,t,Z,e⟩
 |.inr x,v,h=>by
  obtain⟨t,e⟩:=Value.isStrOf_shape (x:=x) (v:=v) h;exact .inr ⟨x,t,Z,e⟩
theorem E9(i:Int)(t:Tok):sy (.inl i) (.int i t)=true:=by simp[sy,Value.isInt]
theorem Fa(x:Str)(t:Tok):sy (.inr x) (.str x t)=true:=by simp[sy,Value.isStrOf]
theorem Y9(a b:Int):decide ((Sum.inl a:Key)=Sum.inl b)=(a==b):=by
 by_cases e:a=b
 ·subst e;simp
 ·have h:¬(Sum.inl a:Key)=Sum.inl b:=fun q=>e (Sum.inl.inj q)
  rw[ae h];exact(cM.mpr e).symm
theorem N5(a b:Str):decide ((Sum.inr a:Key)=Sum.inr b)=decide (a=b):=by
 by_cases e:a=b
 ·subst e;simp
 ·have h:¬(Sum.inr a:Key)=Sum.inr b:=fun q=>e (Sum.inr.inj q)
  rw[ae h,ae e]
theorem Za(a:Int)(b:Str):decide ((Sum.inl a:Key)=Sum.inr b)=false:=ae (fun q=>nomatch q)
theorem Zb(a:Str)(b:Int):decide ((Sum.inr a:Key)=Sum.inl b)=false:=ae (fun q=>nomatch q)
def k8(prog:Program)(w:World):PySem.KeyKind prog w Key where
 is:=sy
 hash:=Ha w
 inj:=fun v a b ha hb=>by
  rcases qV ha with⟨i,t,rfl,rfl⟩|⟨x,t,rfl,rfl⟩
  ·rcases qV hb with⟨j,u,rfl,e⟩|⟨y,u,rfl,e⟩
   ·injection e with e1 _;rw[e1]
   ·exact nomatch e
  ·rcases qV hb with⟨j,u,rfl,e⟩|⟨y,u,rfl,e⟩
   ·exact nomatch e
   ·injection e with e1 _;rw[e1]
 byValue:=fun k v h=>by
  rcases qV h with⟨i,t,rfl,rfl⟩|⟨x,t,rfl,rfl⟩<;>rfl
 pyHash:=fun hv h=>by
  rcases qV hv with⟨i,t,rfl,rfl⟩|⟨x,t,rfl,rfl⟩
  ·exact wpAny_pyHash_int h
  ·exact wpAny_pyHash_str h
 eqBool:=fun hu hv h=>by
  rcases qV hu with⟨i,t,rfl,rfl⟩|⟨x,t,rfl,rfl⟩
  ·rcases qV hv with⟨j,u,rfl,rfl⟩|⟨y,u,rfl,rfl⟩
   ·rw[Y9] at h;exact wpAny_eqBool_int h
   ·rw[Za] at h;exact SeqAt.EqAt.int_str i t y u _ _ _ _ h
  ·rcases qV hv with⟨j,u,rfl,rfl⟩|⟨y,u,rfl,rfl⟩
   ·rw[Zb] at h;exact SeqAt.EqAt.str_int x t j u _ _ _ _ h
   ·rw[N5] at h;exact wpAny_eqBool_str h
 «strs»:=fun k x t v h=>by
  rcases qV h with⟨i,u,rfl,e⟩|⟨y,u,rfl,e⟩
  ·exact nomatch e
  ·injection e with e1 _
   subst e1;cases v<;>rfl
theorem Ut(prog:Program)(w:World)(i:Int)(t:Tok):(k8 prog w).is (.inl i) (.int i t)=true:=E9 i t
theorem Uu(prog:Program)(w:World)(x:Str)(t:Tok):(k8 prog w).is (.inr x) (.str x t)=true:=Fa x t
inductive V where
 |gS|bl (b:Bool)|int (i:Int)|str (x:Str)|nA (b:Array UInt8)|wJ (b:UInt64)|ref (a:Addr)|ty (n:String)
 deriving DecidableEq
def RelV:V->Value->Prop
 |.gS,u=>u=Value.none
 |.bl b,u=>u=Value.bool b
 |.int i,u=>∃t,u=Value.int i t
 |.str x,u=>∃t,u=Value.str x t
 |.nA b,u=>∃t,u=Value.bytes b t
 |.wJ b,u=>∃t,u=Value.float b t
 |.ref a,u=>u=Value.ref a
 |.ty n,u=>u=Value.type n
abbrev gF:List V->List Value->Prop:=Paired RelV
theorem gF.length{xs:List V}{us:List Value}(r:gF xs us):xs.length=us.length:=dO r
theorem gF.get:∀{xs:List V} {us:List Value} {i:Nat} {x:V},gF xs us->xs[i]? =some x->∃u,us[i]? =some u/\RelV x u
 |_,_,_,_,.nil,e=>by simp at e
 |_,_,0,_,.cons r _,e=>by simp at e;subst e;exact⟨_,Z,r⟩
 |_,_,i+1,x,.cons _ t,e=>by
  obtain⟨u,h1,h2⟩:=gF.get (i:=i) (x:=x) t (by simpa using e);exact⟨u,by simpa using h1,h2⟩
theorem gF.set{x:V}{u:Value}(r:RelV x u):∀{xs:List V} {us:List Value} (i:Nat),gF xs us->gF (xs.set i x) (us.set i u)
 |_,_,_,.nil=>.nil
 |_,_,0,.cons _ t=>.cons r t
 |_,_,i+1,.cons q t=>.cons q (gF.set r i t)
theorem gF.append:∀{xs ys:List V} {us ws:List Value},gF xs us->gF ys ws->gF (xs++ys) (us++ws)
 |_,_,_,_,.nil,s=>s
 |_,_,_,_,.cons r t,s=>.cons r (gF.append t s)
theorem gF.take:∀{xs:List V} {us:List Value} (n:Nat),gF xs us->gF (xs.take n) (us.take n)
 |_,_,0,_=>.nil
 |_,_,_+1,.nil=>.nil
 |_,_,n+1,.cons r t=>.cons r (gF.take n t)
theorem gF.drop:∀{xs:List V} {us:List Value} (n:Nat),gF xs us->gF (xs.drop n) (us.drop n)
 |_,_,0,r=>r
 |_,_,_+1,.nil=>.nil
 |_,_,n+1,.cons _ t=>gF.drop n t
theorem gF.none_of:∀{xs:List V} {us:List Value} {i:Nat},gF xs us->xs[i]? =none->us[i]? =none:=fun{xs us i} r e=>by
 have h1:=r.length;have h2:xs.length<=i:=List.getElem?_eq_none_iff.mp e;exact List.getElem?_eq_none_iff.mpr (by omega)
def ku:Option V->Option Value->Prop
 |some v,some u=>RelV v u
 |none,none=>True
 |_,_=>False
def KV{κ:Type}:List (κ×V)->List (κ×Value)->Prop:=Paired fun(p:κ×V) (q:κ×Value)=>p.1=q.1/\RelV p.2 q.2
def kV:Key->V
 |.inl i=>.int i
 |.inr x=>.str x
inductive HO where
 |lst (xs:List V)
 |tup (xs:List V)
 |dK (kvs:List (Key×V))|dT (kvs:List (List Key×V))
 |set (S:Int->Bool) (n:Nat)
 |ins (C dx:Addr) (fs:List (Str×V))
 |own (x:Addr)
 |xd (fs:List (Str×V))
 |met (f x:Addr)
 |BF (lo hi:Int)
 |jP (o:Obj) (u:HO)
 |sR (ps:Array Value)
 |ext (φ:Heap->Prop)
abbrev Hp:=Addr->Option HO
def fM(H:Hp)(a:Addr)(o:HO):Hp:=fun b=>if b=a then some o else H b
theorem fO{H:Hp}{a:Addr}{o:HO}:fM H a o a=some o:=by unfold fM;rw[aw Z]
theorem fT{H:Hp}{a b:Addr}{o:HO}(h:b≠a):fM H a o b=H b:=by unfold fM;rw[am h]
theorem jn{H:Hp}{a:Addr}{o u:HO}:fM (fM H a o) a u=fM H a u:=by
 funext b;unfold fM;split<;>rfl
theorem pL{H:Hp}{a b:Addr}{o u:HO}(h:H a=some o)(h':H b=some u)(d:o≠u):a≠b:=by
 intro e;subst e;rw[h] at h';exact d (af h')
theorem gf{H:Hp}{a b:Addr}{o:HO}(h:H a=some o)(h':H b=none):a≠b:=by
 intro e;subst e;rw[h] at h';cases h'
section
variable (P:Program) (w:World)
def jj(H:Hp)(h:Heap)(a:Addr):HO->Prop
 |.lst xs=>xs.length<=sizeLine/\∃(fU:List Value) (n:Nat),gF xs fU/\h.get? a=some {cls:=.type "list",data:=.seq fU.toArray n}
 |.tup xs=>xs.length<=sizeLine/\∃fU:List Value,gF xs fU/\IsTup h a fU.toArray
 |.dK kvs=>kvs.length<=sizeLine/\(a==sysModules)=false/\∃vs,KV kvs vs/\h.DictOf (k8 P w) a vs
 |.dT kvs=>kvs.length<=sizeLine/\(a==sysModules)=false/\∃xs:List (List Key×Addr×Value),
  Paired (fun(p:List Key×V) (q:List Key×Addr×Value)=>p.1=q.1/\H q.2.1=some (.tup (p.1.map kV))/\RelV p.2 q.2.2) kvs xs/\
  ∃o es ep,h.get? a=some o/\o.ExactDict/\o.data=.dict es ep/\es.toList=xs.map (entryOfKey (tupleKind (k8 P w)))/\(xs.map (·.1)).Nodup
 |.set S n=>h.SetOf (intKind P w) a S n
 |.ins C dx fs=>H dx=some (.own a)/\fs.length<=1000/\dx≠a/\h.get? a=some (PySem.W.instObj C dx)/\
  ∃mA,h.Ns1 dx mA/\(∀f,ku (fs.lookup f) (mA f))/\PySem.Within mA (fs.map (·.1))
 |.own _=>∃o,h.get? a=some o
 |.xd fs=>∃mA,h.Ns1 a mA/\∀f,ku (fs.lookup f) (mA f)
 |.BF lo hi=>∃t u v,h.get? a=some {cls:=.type "range",data:=.fields #[.int lo t,.int hi u,.int 1 v]}
 |.jP o u=>h.get? a=some o/\jj H h a u
 |.sR ps=>h.get? a=some {cls:=.none,data:=.fields ps}
 |.met f x=>h.get? a=some (PySem.W.methodObj (.ref f) (.ref x))
 |.ext φ=>φ h/\(∃o,h.get? a=some o)/\∀h1 h2:Heap,φ h1->(∀o,h1.get? a=some o->h2.get? a=some o)->φ h2
def iY(H:Hp)(h:Heap):Prop:=∀a o,H a=some o->jj P w H h a o
end
section
variable {P:Program} {w:World} {H H':Hp} {h h':Heap} {a:Addr} {o:HO}
theorem jj.lt(x:jj P w H h a o):a<h.objs.size:=by
 cases o with
 |lst xs=>obtain⟨_,_,_,_,e⟩:=x;exact aK e
 |tup xs=>obtain⟨_,_,_,p⟩:=x;exact p.lt
 |dK kvs=>obtain⟨_,_,_,_,o,_,_,e,_⟩:=x;exact aK e
 |dT kvs=>obtain⟨_,_,_,_,o,_,_,e,_⟩:=x;exact aK e
 |set S n=>obtain⟨o,_,_,_,e,_⟩:=x;exact aK e
 |ins C dx fs=>obtain⟨_,_,_,e,_⟩:=x;exact aK e
 |own y=>obtain⟨_,e⟩:=x;exact aK e
 |xd fs=>obtain⟨_,⟨_,_,_,e,_⟩,_⟩:=x;exact aK e
 |BF lo hi=>obtain⟨_,_,_,e⟩:=x;exact aK e
 |jP ob u=>obtain⟨e,_⟩:=x;exact aK e
 |sR ps=>exact aK (show h.get? a=some _ from x)
 |met f y=>exact aK (show h.get? a=some _ from x)
 |ext φ=>obtain⟨_,⟨_,e⟩,_⟩:=x;exact aK e
theorem Paired.Hb{α β:Type}{F G:α->β->Prop}:∀{Hc:List α} {Hd:List β},Paired F Hc Hd->(∀a b,F a b->G a b)->Paired G Hc Hd
 |_,_,.nil,_=>.nil
 |_,_,.cons r t,f=>.cons (f _ _ r) (Paired.Hb t f)
theorem jj.ny(x:jj P w H h a o)(k:∀b u,(b=a\/H b=some (.own a))->h.get? b=some u->h'.get? b=some u)
 (ho:∀b,H b=some (.own a)->H' b=some (.own a)) (ht:∀b xs,H b=some (.tup xs)->H' b=some (.tup xs)):jj P w H' h' a o:=by
 induction o with
 |lst xs=>obtain⟨z,fU,n,r,e⟩:=x;exact⟨z,fU,n,r,k _ _ (.inl Z) e⟩
 |tup xs=>obtain⟨z,fU,r,ob,e,c⟩:=x;exact⟨z,fU,r,ob,k _ _ (.inl Z) e,c⟩
 |dK kvs=>obtain⟨z,y,vs,r,ob,es,ep,e,c⟩:=x;exact⟨z,y,vs,r,ob,es,ep,k _ _ (.inl Z) e,c⟩
 |dT kvs=>
  obtain⟨z,y,xs,r,ob,es,ep,e,c⟩:=x;exact⟨z,y,xs,Paired.Hb r fun p q z=>⟨z.1,ht _ _ z.2.1,z.2.2⟩,ob,es,ep,k _ _ (.inl Z) e,c⟩
 |set S n=>obtain⟨ob,es,ep,t,e,c⟩:=x;exact⟨ob,es,ep,t,k _ _ (.inl Z) e,c⟩
 |ins C dx fs=>
  obtain⟨d,z,ne,e,mA,⟨od,es,ep,e2,c⟩,r⟩:=x;exact⟨ho _ d,z,ne,k _ _ (.inl Z) e,mA,⟨od,es,ep,k _ _ (.inr d) e2,c⟩,r⟩
 |own y=>obtain⟨ob,e⟩:=x;exact⟨ob,k _ _ (.inl Z) e⟩
 |xd fs=>obtain⟨mA,⟨od,es,ep,e,c⟩,r⟩:=x;exact⟨mA,⟨od,es,ep,k _ _ (.inl Z) e,c⟩,r⟩
 |BF lo hi=>obtain⟨t,u,v,e⟩:=x;exact⟨t,u,v,k _ _ (.inl Z) e⟩
 |jP ob u ih=>obtain⟨e,q⟩:=x;exact⟨k _ _ (.inl Z) e,ih q⟩
 |sR ps=>
  have e:h.get? a=some {cls:=.none,data:=.fields ps}:=x;show h'.get? a=some {cls:=.none,data:=.fields ps};exact k a _ (.inl Z) e
 |met f y=>
  have e:h.get? a=some (PySem.W.methodObj (.ref f) (.ref y)):=x;show h'.get? a=some (PySem.W.methodObj (.ref f) (.ref y));exact k a _ (.inl Z) e
 |ext φ=>obtain⟨p,⟨o,e⟩,st⟩:=x;exact⟨st _ _ p fun o q=>k _ _ (.inl Z) q,⟨o,k _ _ (.inl Z) e⟩,st⟩
theorem iY.lt(x:iY P w H h)(e:H a=some o):a<h.objs.size:=(x a o e).lt
theorem iY.fresh(x:iY P w H h)(e:h.objs.size<=a):H a=none:=by
 cases q:H a with
 |none=>rfl
 |some u=>exact absurd (aU (x.lt q) e) (bL _)
theorem iY.kept(x:iY P w H h)(k:∀b u,h.get? b=some u->h'.get? b=some u):iY P w H h':=fun a o e=>
 (x a o e).ny (fun b u _ q=>k b u q) (fun _ q=>q) fun _ _ q=>q
theorem iY.laid(x:iY P w H h)(k:∀b u,h.get? b=some u->h'.get? b=some u)(hp:h.objs.size<=a)(new:jj P w (fM H a o) h' a o):iY P w (fM H a o) h':=fun b u e=>by
 have hn:=x.fresh hp
 by_cases hb:b=a
 ·subst hb;rw[fO] at e;cases e;exact new
 ·rw[fT hb] at e;exact(x b u e).ny (fun c v _ q=>k c v q) (fun c q=>by rw[fT (gf q hn)];exact q) fun c xs q=>by rw[fT (gf q hn)];exact q
end
def Rd(H:Hp)(a:Addr)(u:HO):Prop:=H a=some u\/∃o,H a=some (.jP o u)
theorem Rd.ok{P:Program}{w:World}{H:Hp}{h:Heap}{a:Addr}{u:HO}(r:Rd H a u)(x:iY P w H h):jj P w H h a u:=by
 rcases r with r|⟨o,r⟩
 ·exact x a u r
 ·obtain⟨_,q⟩:=x a _ r;exact q
def sS:Option HO->Prop
 |some (.lst _)=>True
 |some (.dK _)=>True
 |some (.dT _)=>True
 |some (.set _ _)=>True
 |some (.ins _ _ _)=>True
 |some (.ext _)=>True
 |_=>False
section
variable {P:Program} {w:World} {H:Hp} {h h':Heap} {x e:Addr} {o':HO}
theorem iY.write(ok:iY P w H h)(mu:sS (H x))(he:e=x\/H e=some (.own x))(k:∀b u,b≠e->h.get? b=some u->h'.get? b=some u)(wK:∃u,h'.get? e=some u)
 (new:jj P w (fM H x o') h' x o'):iY P w (fM H x o') h':=fun b u q=>by
 have Bs:∀c y,H c=some (.own y)->c≠x:=fun c y r z=>by subst z;rw[r] at mu;exact mu
 have aaO:∀c xs,H c=some (.tup xs)->c≠x:=fun c xs r z=>by subst z;rw[r] at mu;exact mu
 by_cases hb:b=x
 ·subst hb;rw[fO] at q;cases q;exact new
 ·rw[fT hb] at q
  by_cases u0:b=e
  ·have q':H b=some (.own x):=by
    rcases he with z|z
    ·exact absurd (u0.trans z) hb
    ·rw[u0];exact z
   rw[q] at q';cases q';obtain⟨v,hv⟩:=wK;exact⟨v,by rw[u0];exact hv⟩
  ·refine(ok b u q).ny (fun c v hc r=>k c v ?_ r) (fun c r=>by rw[fT (Bs c b r)];exact r) fun c xs r=>by rw[fT (aaO c xs r)];exact r
   rcases hc with rfl|hc
   ·exact u0
   ·rintro rfl;rcases he with z|z
    ·exact Bs c b hc z
    ·rw[hc] at z;cases z;exact hb Z
end
structure Un(fs ex:List Addr)(H H':Hp)(h h':Heap):Prop where
 keep:∀b o,h.get? b=some o->H b=none->b∉fs->b∉ex->h'.get? b=some o
 slot:∀b o,h.get? b=some o->H b=none->b∈fs->b∉ex->∃sl,h'.get? b=some {o with slots:=sl}
 free:∀b o,h.get? b=some o->H b=none->b∉ex->H' b=none
 there:∀b o,h.get? b=some o->b∉ex->∃o',h'.get? b=some o'
 mi:∀b xs,H b=some (.tup xs)->H' b=some (.tup xs)
 lI:∀b o u,H b=some (.jP o u)->H' b=some (.jP o u)
 mE:∀b ps,H b=some (.sR ps)->∃more,H' b=some (.sR (ps++more))
section
variable {fs wL ex ex':List Addr} {H H1 H2:Hp} {h h1 h2 h':Heap} {a x e:Addr} {o:HO}
theorem Un.any(u:Un fs ex H H1 h h1){b:Addr}{ob:Obj}(q:h.get? b=some ob)(n:H b=none)(hx:b∉ex):∃sl,h1.get? b=some {ob with slots:=sl}:=by
 by_cases hb:b∈fs
 ·exact u.slot b ob q n hb hx
 ·exact⟨ob.slots,u.keep b ob q n hb hx⟩
theorem Un.kept(k:∀b u,h.get? b=some u->h'.get? b=some u):Un fs ex H H h h':=
 ⟨fun b ob q _ _ _=>k b ob q,fun b ob q _ _ _=>⟨ob.slots,k b ob q⟩,fun _ _ _ n _=>n,fun b ob q _=>⟨ob,k b ob q⟩,fun _ _ q=>q,fun _ _ _ q=>q,fun _ ps q=>⟨#[],by rw[q];simp⟩⟩
theorem Un.refl:Un fs ex H H h h:=Un.kept fun _ _ q=>q
theorem Un.laid(k:∀b u,h.get? b=some u->h'.get? b=some u)(hp:h.objs.size<=a)(hn:H a=none):Un fs ex H (fM H a o) h h' where
 keep:=fun b u q _ _ _=>k b u q
 slot:=fun b u q _ _ _=>⟨u.slots,k b u q⟩
 free:=fun b u q n _=>by rw[fT (ba (aU (aK q) hp))];exact n
 there:=fun b u q _=>⟨u,k b u q⟩
 mi:=fun b xs q=>by rw[fT (gf q hn)];exact q
 lI:=fun b u xs q=>by rw[fT (gf q hn)];exact q
 mE:=fun b ps q=>⟨#[],by rw[fT (gf q hn),q];simp⟩
theorem Un.write(mu:sS (H x))(he:e=x\/H e=some (.own x))(k:∀b u,b≠e->h.get? b=some u->h'.get? b=some u)(wK:∃u,h'.get? e=some u):Un fs ex H (fM H x o) h h':=by
 have hx:∀b,H b=none->b≠x:=fun b n z=>by subst z;rw[n] at mu;exact mu
 have hb:∀b,H b=none->b≠e:=fun b n z=>by
  subst z;rcases he with r|r
  ·exact hx b n r
  ·rw[n] at r;cases r
 have hm:∀b u,H b=some u->¬sS (some u)->b≠x:=fun b u q nm z=>by subst z;rw[q] at mu;exact nm mu
 refine⟨fun b u q n _ _=>k b u (hb b n) q,fun b u q n _ _=>⟨u.slots,k b u (hb b n) q⟩,fun b u q n _=>by rw[fT (hx b n)];exact n,fun b u q _=> ?_,
  fun b xs q=>by rw[fT (hm b _ q fun z=>z)];exact q,fun b u xs q=>by rw[fT (hm b _ q fun z=>z)];exact q,fun b ps q=>⟨#[],by rw[fT (hm b _ q fun z=>z),q];simp⟩⟩
 by_cases u0:b=e
 ·subst u0;exact wK
 ·exact⟨u,k b u u0 q⟩
end
def BG(h:Heap)(H:Hp):List Addr:=(List.range h.objs.size).filter fun a=>(H a).isSome
def sN(h:Heap)(H:Hp):Heap:=PySem.W.hideAll h (BG h H)
theorem VU(h:Heap)(H:Hp):(sN h H).objs.size=h.objs.size:=PySem.W.hideAll_size _ _
theorem MB{h:Heap}{H:Hp}{b:Addr}{o:Obj}(e:h.get? b=some o)(n:H b=none):(sN h H).get? b=some o:=
 PySem.W.hideAll_get _ e fun hm=>by
  have q:(H b).isSome=true:=(eJ.mp hm).2;rw[n] at q;simp at q
theorem X6{h:Heap}{H:Hp}{b:Addr}{o:Obj}(e:(sN h H).get? b=some o):h.get? b=some o/\H b=none:=by
 have e':h.get? b=some o:=PySem.W.of_hideAll (BG h H) e;refine⟨e',?_⟩;cases q:H b with
 |none=>rfl
 |some x=>
  have hm:b∈BG h H:=eJ.mpr ⟨dX.mpr (aK e'),by simp[q]⟩;have z:(sN h H).get? b=none:=PySem.W.hideAll_none (BG h H) hm;rw[z] at e;cases e
structure Mod(K:PySem.W.Frag)(mg:Str->Option Value)(base:Heap):Prop where
 u1:K.In base
 glob:base.Ns mainGlobals mg
 blt:∃mb,base.Ns builtinsNs mb/\∀x:Str,x≠"__name__"->mb x=bootBuiltins x
 nolimit:base.NoLimit
structure Cx where
 prog:Program
 w:World
 K:PySem.W.Frag
 mg:Str->Option Value
 base:Heap
 A:Around
 N:List Str
 kW:Shared
 u3:Hp
 env:Env
 outer:List Env
 stack:List Env
 ex:List Addr
 fn:Str->Bool
 calm:Bool
 pn:List (Addr×Obj)
 xe:Value->Shared->Prop
def iP(l:List Env):List Addr:=l.filterMap (·.frame)
abbrev Cx.fs(X:Cx):List Addr:=iP X.outer
def wM(sc:Scope)(x:Str):Prop:=sc.names.lookup x=some .local\/sc.names.lookup x=some .cell\/sc.names.lookup x=some .free
def Loc(sc:Scope)(x:Str):Prop:=sc.names.lookup x=some .local\/sc.names.lookup x=some .cell
def Look(env:Env)(h:Heap)(m:Str->Option Value)(x:Str)(u:Value):Prop:=
 (env.kindOf x=some .local/\m x=some u)\/((env.kindOf x=some .cell\/env.kindOf x=some .free)/\∃c,env.cells.lookup x=some c/\h.IsCell c (some u))
structure Cx.Ok(X:Cx):Prop where
 mod:Mod X.K X.mg X.base
 kind:X.env.scope.kind=.function
 glob:X.env.globals=mainGlobals
 blt:X.env.builtins=builtinsNs
 above:X.kW.heap.objs.size<=X.env.locals
 inj:∀x y c,X.env.cells.lookup x=some c->X.env.cells.lookup y=some c->x=y
 has:∀x,(X.env.kindOf x=some .cell\/X.env.kindOf x=some .free)->∃c,X.env.cells.lookup x=some c
 wN:∀x c,X.fn x=true->X.env.cells.lookup x=some c->X.kW.heap.objs.size<=c
 hd:X.calm=true->X.A.handled=none
 frames:X.A.frames=some X.stack
 sT:X.stack=X.outer\/(X.stack=X.env::X.outer/\X.env.frame=some X.env.locals)
 yI:∀b∈X.ex,b≠X.env.locals/\∀x c,X.env.cells.lookup x=some c->c≠b
 bs:∀b o,X.base.get? b=some o->X.kW.heap.get? b=some o/\X.u3 b=none
 pT:X.base.objs.size<=X.kW.heap.objs.size
 wu:∀b o,X.base.get? b=some o->b∉X.ex
 wv:∀b∈X.ex,b∉X.fs
 jv:X.kW.heap.FunFrames X.base X.outer
 qD:∀b∈X.fs,X.u3 b=none
structure Inv(X:Cx)(fL:List (Addr×Obj))(σ:List (Option V))(H:Hp)(s:Shared):Prop where
 ok:X.Ok
 os:s.os=X.kW.os
 bare:AllBare s.gens
 base:Un X.fs X.ex X.u3 H X.kW.heap s.heap
 loc:∃m,s.heap.Ns X.env.locals m/\∀(i:Nat) (x:Str) (v:V),X.N[i]? =some x->σ[i]? =some (some v)->wM X.env.scope x->∃u,RelV v u/\Look X.env s.heap m x u
 cell:∀x c,X.env.cells.lookup x=some c->∃v,s.heap.IsCell c v
 free:H X.env.locals=none
 mO:∀x c,X.env.cells.lookup x=some c->H c=none
 pin:∀p∈X.pn++fL,s.heap.get? p.1=some p.2/\H p.1=none/\p.1≠X.env.locals/\p.1∉X.fs/\∀v,p.2.data≠ .cell v
 gh:iY X.prog X.w H s.heap
 len:σ.length=X.N.length
section
variable {X:Cx} {fL:List (Addr×Obj)} {σ:List (Option V)} {H H':Hp} {s:Shared} {h':Heap}
theorem Cx.Ok.aaP(ok:X.Ok){b:Addr}{o:Obj}(e:X.base.get? b=some o):b∉X.fs:=fun hb=>by
 have:=(ok.jv.mem hb).1;rw[e] at this;cases this
theorem Inv.bs(I:Inv X fL σ H s):∀b o,X.base.get? b=some o->s.heap.get? b=some o/\H b=none:=fun b o e=>
 ⟨I.base.keep b o (I.ok.bs b o e).1 (I.ok.bs b o e).2 (I.ok.aaP e) (I.ok.wu b o e),I.base.free b o (I.ok.bs b o e).1 (I.ok.bs b o e).2 (I.ok.wu b o e)⟩
theorem Inv.bk(I:Inv X fL σ H s):∀b o,X.base.get? b=some o->s.heap.get? b=some o:=fun b o e=>(I.bs b o e).1
theorem Inv.mod(I:Inv X fL σ H s):Mod X.K X.mg X.base:=I.ok.mod
theorem Inv.jE(I:Inv X fL σ H s):X.K.In s.heap:=I.ok.mod.u1.keeps I.bk
theorem Inv.fr(I:Inv X fL σ H s):∃m,Fr X.base X.env.locals s.heap m:=
 let ⟨m,hn,_⟩:=I.loc
 ⟨m,hn,I.bk,a8 I.ok.pT I.ok.above⟩
theorem Inv.lt(I:Inv X fL σ H s):X.env.locals<s.heap.objs.size:=let ⟨_,hn,_⟩:=I.loc;hn.lt
theorem Inv.sz(I:Inv X fL σ H s):X.kW.heap.objs.size<=s.heap.objs.size:=a8 I.ok.above (Nat.le_of_lt I.lt)
theorem Inv.aaQ(I:Inv X fL σ H s){a:Addr}(h:s.heap.objs.size<=a):a∉X.fs:=fun hb=>by
 obtain⟨_,o,ho,_⟩:=I.ok.jv.mem hb;exact absurd (aU (aK ho) (a8 I.sz h)) (bL _)
theorem Inv.rm(I:Inv X fL σ H s):∀x c,X.env.cells.lookup x=some c->c≠X.env.locals:=fun x c e z=>by
 obtain⟨v,o,ho,hd⟩:=I.cell x c e;obtain⟨m,⟨o',es,ep,nB,Hw,_⟩,_⟩:=I.loc;rw[z,nB] at ho;cases ho;rw[Hw] at hd;cases hd
theorem Inv.jv(I:Inv X fL σ H s):s.heap.FunFrames X.base X.outer:=by
 have all:∀(l:List Env),(∀b∈iP l,b∈X.fs)->X.kW.heap.FunFrames X.base l->s.heap.FunFrames X.base l:=by
  intro l
  induction l with
  |nil=>intro _ _;trivial
  |cons env r ih=>
   intro hs hl;obtain⟨hk,⟨L,o,hf,hn,ho,hd⟩,hr⟩:=hl;have hL:L∈X.fs:=hs L (by unfold iP;rw[bU,hf];exact bv);obtain⟨sl,e⟩:=I.base.slot L o ho (I.ok.qD L hL) hL fun z=>I.ok.wv L z hL
   exact⟨hk,⟨L,_,hf,hn,e,hd⟩,ih (fun b hb=>hs b (by unfold iP;rw[bU,hf];exact aX _ hb)) hr⟩
 exact all X.outer (fun _ hb=>hb) I.ok.jv
theorem Inv.stack(I:Inv X fL σ H s):s.heap.FunFrames X.base X.stack:=by
 rcases I.ok.sT with e|⟨e,hf⟩
 ·rw[e];exact I.jv
 ·rw[e];obtain⟨m,hn,_⟩:=I.loc;refine .cons (by rw[I.ok.kind];decide) hf hn ?_ I.jv;exact Heap.get?_none_of_le (a8 I.ok.pT I.ok.above)
theorem Inv.GD(I:Inv X fL σ H s):∀b∈iP X.stack,b∈X.env.locals::X.fs:=fun b hb=>by
 rcases I.ok.sT with e|⟨e,hf⟩
 ·rw[e] at hb;exact aX _ hb
 ·rw[e] at hb;unfold iP at hb;rw[bU,hf] at hb;exact hb
theorem Inv.uu(I:Inv X fL σ H s):∀b∈iP X.stack,H b=none:=fun b hb=>by
 rcases az.mp (I.GD b hb) with e|hb
 ·rw[e];exact I.free
 ·obtain⟨_,o,ho,_⟩:=I.ok.jv.mem hb;exact I.base.free b o ho (I.ok.qD b hb) fun z=>I.ok.wv b z hb
theorem Inv.step{g':Array GenState}{t':Nat}{d':Drawn}{ch:List Addr}(I:Inv X fL σ H s)
 (kh:∀b∈ch,(b∈X.ex\/X.kW.heap.objs.size<=b)/\b≠X.env.locals/\(∀x c,X.env.cells.lookup x=some c->c≠b)/\∀p∈X.pn++fL,p.1≠b)
 (keep:∀b o,b≠X.env.locals->b∉X.fs->b∉ch->s.heap.get? b=some o->H b=none->h'.get? b=some o)
 (slot:∀b o,b≠X.env.locals->b∈X.fs->b∉ch->s.heap.get? b=some o->H b=none->∃sl,h'.get? b=some {o with slots:=sl}) (free:∀b o,b∉ch->s.heap.get? b=some o->H b=none->H' b=none)
 (there:∀b o,b∉ch->s.heap.get? b=some o->∃o',h'.get? b=some o')
 (mi:∀b xs,H b=some (.tup xs)->H' b=some (.tup xs)) (lI:∀b o u,H b=some (.jP o u)->H' b=some (.jP o u)) (mE:∀b ps,H b=some (.sR ps)->∃more,H' b=some (.sR (ps++more)))
 (ns:∀m,s.heap.Ns X.env.locals m->h'.Ns X.env.locals m) (gh:iY X.prog X.w H' h') (hg:AllBare g'):
 Inv X fL σ H' {s with heap:=h',gens:=g',drawn:=d',toks:=t'}:=by
 have wO:∀b o,X.kW.heap.get? b=some o->b≠X.env.locals:=fun b o e=>ba (aU (aK e) I.ok.above)
 have wP:∀b o,X.kW.heap.get? b=some o->b∉X.ex->b∉ch:=fun b o e hx hb=>by
  rcases(kh b hb).1 with z|z
  ·exact hx z
  ·exact absurd (aU (aK e) z) (bL _)
 have Om:∀x c,X.env.cells.lookup x=some c->∀v,s.heap.IsCell c v->h'.IsCell c v:=fun x c e v ⟨o,ho,hd⟩=>by
  have yJ:c∉ch:=fun z=>(kh c z).2.2.1 x c e Z
  by_cases hc:c∈X.fs
  ·obtain⟨sl,q⟩:=slot c o (I.rm x c e) hc yJ ho (I.mO x c e);exact⟨_,q,hd⟩
  ·exact⟨o,keep c o (I.rm x c e) hc yJ ho (I.mO x c e),hd⟩
 refine⟨I.ok,I.os,hg,⟨fun b o e n hb hx=> ?_,fun b o e n hb hx=> ?_,fun b o e n hx=> ?_,fun b o e hx=> ?_,fun b xs e=>mi b xs (I.base.mi b xs e),fun b o xs e=>lI b o xs (I.base.lI b o xs e),fun b ps e=> ?_⟩,?_,fun x c e=> ?_,?_,fun x c e=> ?_,fun p hp=> ?_,gh,I.len⟩
 ·exact keep b o (wO b o e) hb (wP b o e hx) (I.base.keep b o e n hb hx) (I.base.free b o e n hx)
 ·obtain⟨sl,e1⟩:=I.base.slot b o e n hb hx;obtain⟨sl',e2⟩:=slot b _ (wO b o e) hb (wP b o e hx) e1 (I.base.free b o e n hx);exact⟨sl',e2⟩
 ·obtain⟨o',e1⟩:=I.base.there b o e hx;exact free b o' (wP b o e hx) e1 (I.base.free b o e n hx)
 ·obtain⟨o',e1⟩:=I.base.there b o e hx;exact there b o' (wP b o e hx) e1
 ·obtain⟨m1,e1⟩:=I.base.mE b ps e;obtain⟨m2,e2⟩:=mE b _ e1;exact⟨m1++m2,by rw[e2,Array.append_assoc]⟩
 ·obtain⟨m,hn,hl⟩:=I.loc;refine⟨m,ns m hn,fun i x v e1 e2 e3=> ?_⟩;obtain⟨u,r,l⟩:=hl i x v e1 e2 e3;refine⟨u,r,?_⟩;rcases l with l|⟨k,c,e,z⟩
  ·exact .inl l
  ·exact .inr ⟨k,c,e,Om x c e _ z⟩
 ·obtain⟨v,z⟩:=I.cell x c e;exact⟨v,Om x c e v z⟩
 ·obtain⟨m,⟨o,_,_,ho,_⟩,_⟩:=I.loc;exact free _ o (fun z=>(kh _ z).2.1 rfl) ho I.free
 ·obtain⟨v,o,ho,hd⟩:=I.cell x c e;exact free c o (fun z=>(kh c z).2.2.1 x c e Z) ho (I.mO x c e)
 ·obtain⟨e,n,ne,nf,d⟩:=I.pin p hp;have yJ:p.1∉ch:=fun z=>(kh p.1 z).2.2.2 p hp Z
  exact⟨keep p.1 p.2 ne nf yJ e n,free p.1 p.2 yJ e n,ne,nf,d⟩
theorem Inv.un{t':Nat}(I:Inv X fL σ H s)(u:Un X.fs [] H H' s.heap h')(gh:iY X.prog X.w H' h'):Inv X fL σ H' {s with heap:=h',toks:=t'}:=by
 obtain⟨m,⟨o,es,ep,ho,r⟩,_⟩:=id I.loc;obtain⟨sl,hL⟩:=u.any ho I.free (by simp)
 exact I.step (g':=s.gens) (d':=s.drawn) (ch:=[]) (fun _ z=>nomatch z) (fun b o _ hb _ e n=>u.keep b o e n hb (by simp)) (fun b o _ hb _ e n=>u.slot b o e n hb (by simp)) (fun b o _ e n=>u.free b o e n (by simp)) (fun b o _ e=>u.there b o e (by simp)) u.mi u.lI u.mE (fun m' hm=>by
  obtain⟨o',rn,sU,nB,r'⟩:=hm;rw[ho] at nB;cases nB;exact⟨_,rn,sU,hL,r'⟩) gh I.bare
theorem Inv.call{g':Array GenState}{t':Nat}{d':Drawn}{ch:List Addr}(I:Inv X fL σ H s)(u:Un (iP X.stack) ch H H' s.heap h')(gh:iY X.prog X.w H' h')(hg:AllBare g')
 (kh:∀b∈ch,(b∈X.ex\/X.kW.heap.objs.size<=b)/\b≠X.env.locals/\(∀x c,X.env.cells.lookup x=some c->c≠b)/\∀p∈X.pn++fL,p.1≠b):
 Inv X fL σ H' {s with heap:=h',gens:=g',drawn:=d',toks:=t'}:=by
 obtain⟨m,⟨o,es,ep,ho,r⟩,_⟩:=id I.loc;obtain⟨sl,hL⟩:=u.any ho I.free fun z=>(kh _ z).2.1 rfl
 exact I.step (ch:=ch) kh (fun b o hL hb hc e n=>u.keep b o e n (fun z=>(az.mp (I.GD b z)).elim hL hb) hc) (fun b o _ _ hc e n=>u.any e n hc) (fun b o hc e n=>u.free b o e n hc) (fun b o hc e=>u.there b o e hc) u.mi u.lI u.mE (fun m' hm=>by
  obtain⟨o',rn,sU,nB,r'⟩:=hm;rw[ho] at nB;cases nB;exact⟨_,rn,sU,hL,r'⟩) gh hg
theorem Inv.turned{t':Nat}{it:Addr}(I:Inv X fL σ H s)(k:∀b o,b≠it->s.heap.get? b=some o->h'.get? b=some o)(hn:H it=none)(hL:it≠X.env.locals)
 (h1:it∈X.ex\/X.kW.heap.objs.size<=it) (h2:∀x c,X.env.cells.lookup x=some c->c≠it) (h3:∀p∈X.pn++fL,p.1≠it):Inv X fL σ H {s with heap:=h',toks:=t'}:=by
 have sV:∀b u,H b=some u->b≠it:=fun b u e z=>by rw[z,hn] at e;cases e
 refine I.step (g':=s.gens) (d':=s.drawn) (ch:=[it]) (fun b hb=> ?_) (fun b o _ _ hc e _=>k b o (fun z=>hc (by simp[z])) e) (fun b o _ _ hc e _=>⟨o.slots,k b o (fun z=>hc (by simp[z])) e⟩) (fun _ _ _ _ n=>n)
  (fun b o hc e=>⟨o,k b o (fun z=>hc (by simp[z])) e⟩) (fun _ _ e=>e) (fun _ _ _ e=>e) (fun b ps e=>⟨#[],by rw[e];simp⟩) (fun m hm=> ?_) (fun b u e=> ?_) I.bare
 ·have e:b=it:=by simpa using hb
  subst e;exact⟨h1,hL,h2,h3⟩
 ·obtain⟨o,es,ep,ho,r⟩:=hm;exact⟨o,es,ep,k _ o (cI hL) ho,r⟩
 ·refine(I.gh b u e).ny (fun c v hc q=>k c v ?_ q) (fun _ q=>q) fun _ _ q=>q
  rcases hc with z|z
  ·rw[z];exact sV b u e
  ·exact sV c _ z
theorem Inv.tok(I:Inv X fL σ H s)(t:Nat):Inv X fL σ H {s with toks:=t}:=I.un (h':=s.heap) (t':=t) Un.refl I.gh
theorem Inv.kept{t':Nat}(I:Inv X fL σ H s)(k:∀b u,s.heap.get? b=some u->h'.get? b=some u):Inv X fL σ H {s with heap:=h',toks:=t'}:=I.un (Un.kept k) (I.gh.kept k)
theorem Inv.laid{a:Addr}{o:HO}{t':Nat}(I:Inv X fL σ H s)(k:∀b u,s.heap.get? b=some u->h'.get? b=some u)(hp:s.heap.objs.size<=a)(new:jj X.prog X.w (fM H a o) h' a o):
 Inv X fL σ (fM H a o) {s with heap:=h',toks:=t'}:=I.un (Un.laid k hp (I.gh.fresh hp)) (I.gh.laid k hp new)
theorem Inv.write{x e:Addr}{o:HO}{t':Nat}(I:Inv X fL σ H s)(mu:sS (H x))(he:e=x\/H e=some (.own x))(k:∀b u,b≠e->s.heap.get? b=some u->h'.get? b=some u)(wK:∃u,h'.get? e=some u)
 (new:jj X.prog X.w (fM H x o) h' x o):Inv X fL σ (fM H x o) {s with heap:=h',toks:=t'}:=I.un (Un.write mu he k wK) (I.gh.write mu he k wK new)
theorem Inv.weak{gw:List (Option V)}(I:Inv X fL σ H s)(hl:gw.length=σ.length)(w:∀(i:Nat) v,gw[i]? =some (some v)->σ[i]? =some (some v)):Inv X fL gw H s:=
 ⟨I.ok,I.os,I.bare,I.base,let ⟨m,hn,Hy⟩:=I.loc;⟨m,hn,fun i x v e1 e2 e3=>Hy i x v e1 (w i v e2) e3⟩,I.cell,I.free,I.mO,I.pin,I.gh,hl.trans I.len⟩
theorem Inv.Ng{ni:List (Addr×Obj)}(I:Inv X fL σ H s)(h:∀p∈ni,s.heap.get? p.1=some p.2/\H p.1=none/\p.1≠X.env.locals/\p.1∉X.fs/\∀v,p.2.data≠ .cell v):Inv X ni σ H s:=
 ⟨I.ok,I.os,I.bare,I.base,I.loc,I.cell,I.free,I.mO,fun p hp=>(aG.mp hp).elim (fun z=>I.pin p (dm _ z)) (h p),I.gh,I.len⟩
theorem At{N:List Str}(hN:N.Nodup){i j:Nat}{x:Str}(a:N[i]? =some x)(b:N[j]? =some x):i=j:=by
 obtain⟨h1,e1⟩:=ap.mp a;obtain⟨h2,e2⟩:=ap.mp b;exact(List.getElem_inj hN).mp (e1.trans e2.symm)
theorem L0{M:Model}{A:Around}{E:Value->Shared->Prop}{i:Nat}{x:Str}{v:V}{u:Value}{Q:Unit->Shared->Prop}(I:Inv X fL σ H s)(hN:X.N.Nodup)(hi:X.N[i]? =some x)(hx:Loc X.env.scope x)(r:RelV v u)
 (h:∀s',Inv X fL (σ.set i (some v)) H s'->(∃a,Heap.SameBut a s.heap s'.heap/\(a=X.env.locals\/X.env.cells.lookup x=some a))->Q () s') (hf:X.fn x=true\/X.env.scope.names.lookup x=some .local:=by first|exact .inl Z|exact .inr Z|assumption):wpAny M A (storeName X.env x u) Q E s:=by
 obtain⟨m,hn,hl⟩:=id I.loc;have aaR:(X.env.scope.kind==.class||(X.env.scope.kind==.module&&X.env.locals !=X.env.globals))=false:=by rw[I.ok.kind];rfl
 have ON:i<σ.length:=by rw[I.len];exact(ap.mp hi).1
 have rm:=I.rm
 have Nh:∀{a:Addr} {h':Heap},(∃o,s.heap.get? a=some o/\H a=none)->Heap.SameBut a s.heap h'->iY X.prog X.w H h':=fun{a h'} ha hs b ob e=>by
  obtain⟨_,_,wa⟩:=ha;refine(I.gh b ob e).ny (fun c w' hc q=>(hs.2 c ?_).trans q) (fun _ q=>q) fun _ _ q=>q
  rintro rfl;rcases hc with rfl|hc
  ·rw[wa] at e;cases e
  ·rw[wa] at hc;cases hc
 rcases hx with hk|hk
 ·refine wpAny_storeName_local hk hn (fun h' sW hs=> ?_) aaR;obtain⟨oL,_,_,Pl,_⟩:=id hn;refine h _ ⟨I.ok,I.os,I.bare,⟨fun b o e n hb hx=> ?_,fun b o e n hb hx=> ?_,I.base.free,fun b o e hx=> ?_,I.base.mi,I.base.lI,I.base.mE⟩,⟨_,sW,fun j y v' e1 e2 e3=> ?_⟩,fun y c e=> ?_,I.free,I.mO,fun p hp=> ?_,Nh ⟨oL,Pl,I.free⟩ hs,by simpa using I.len⟩ ⟨_,hs,.inl Z⟩
  ·exact(hs.2 b (ba (aU (aK e) I.ok.above))).trans (I.base.keep b o e n hb hx)
  ·obtain⟨sl,e1⟩:=I.base.slot b o e n hb hx;exact⟨sl,(hs.2 b (ba (aU (aK e) I.ok.above))).trans e1⟩
  ·obtain⟨o',e1⟩:=I.base.there b o e hx;exact⟨o',(hs.2 b (ba (aU (aK e) I.ok.above))).trans e1⟩
  ·by_cases hj:j=i
   ·subst hj;rw[hi] at e1;cases e1;rw[dE ON] at e2;cases e2;exact⟨u,r,.inl ⟨hk,by simp⟩⟩
   ·rw[dY (cI hj)] at e2;obtain⟨u',r',q⟩:=hl j y v' e1 e2 e3;refine⟨u',r',?_⟩;rcases q with⟨k,e⟩|⟨k,c,e,z⟩
    ·refine .inl ⟨k,?_⟩;have:y≠x:=fun e=>hj (At hN e1 (e▸hi))
     simp[this,e]
    ·exact .inr ⟨k,c,e,z.sameBut hs (rm y c e)⟩
  ·obtain⟨w',z⟩:=I.cell y c e;exact⟨w',z.sameBut hs (rm y c e)⟩
  ·obtain⟨e,n,ne,nf,d⟩:=I.pin p hp;exact⟨(hs.2 p.1 ne).trans e,n,ne,nf,d⟩
 ·have Hz:X.fn x=true:=by
   rcases hf with z|z
   ·exact z
   ·rw[z] at hk;cases hk
  obtain⟨c,hc⟩:=I.ok.has x (.inl hk);obtain⟨w',z⟩:=I.cell x c hc;refine wpAny_storeName_cell I.ok.kind hk hc z (fun h' qE hs=> ?_);obtain⟨oc,BH,aaS⟩:=id z;refine h {s with heap:=h'} ⟨I.ok,I.os,I.bare,⟨fun b o e n hb hx=> ?_,fun b o e n hb hx=> ?_,I.base.free,fun b o e hx=> ?_,I.base.mi,I.base.lI,I.base.mE⟩,⟨m,hn.sameBut hs (cI (rm x c hc)),fun j y v' e1 e2 e3=> ?_⟩,fun y c' e=> ?_,I.free,I.mO,fun p hp=> ?_,Nh ⟨oc,BH,I.mO x c hc⟩ hs,by simpa using I.len⟩ ⟨c,hs,.inr hc⟩
  ·exact(hs.2 b (ba (aU (aK e) (I.ok.wN x c Hz hc)))).trans (I.base.keep b o e n hb hx)
  ·obtain⟨sl,e1⟩:=I.base.slot b o e n hb hx;exact⟨sl,(hs.2 b (ba (aU (aK e) (I.ok.wN x c Hz hc)))).trans e1⟩
  ·obtain⟨o',e1⟩:=I.base.there b o e hx;exact⟨o',(hs.2 b (ba (aU (aK e) (I.ok.wN x c Hz hc)))).trans e1⟩
  ·by_cases hj:j=i
   ·subst hj;rw[hi] at e1;cases e1;rw[dE ON] at e2;cases e2;exact⟨u,r,.inr ⟨.inl hk,c,hc,qE⟩⟩
   ·rw[dY (cI hj)] at e2;obtain⟨u',r',q⟩:=hl j y v' e1 e2 e3;refine⟨u',r',?_⟩;rcases q with q|⟨k,c',e,z'⟩
    ·exact .inl q
    ·refine .inr ⟨k,c',e,z'.sameBut hs ?_⟩;rintro rfl;exact hj (At hN e1 (I.ok.inj _ _ _ e hc▸hi))
  ·by_cases Pm:c'=c
   ·subst Pm;exact⟨_,qE⟩
   ·obtain⟨w2,z2⟩:=I.cell y c' e;exact⟨w2,z2.sameBut hs Pm⟩
  ·obtain⟨e,n,ne,nf,d⟩:=I.pin p hp;refine⟨(hs.2 p.1 ?_).trans e,n,ne,nf,d⟩;intro q;rw[q,BH] at e;have q':oc=p.2:=af e;exact d w' (by rw[<-q'];exact aaS)
theorem Au{M:Model}{A:Around}{E:Value->Shared->Prop}{i:Nat}{x:Str}{v:V}{u:Value}{Q:Unit->Shared->Prop}(I:Inv X fL σ H s)(hN:X.N.Nodup)(hi:X.N[i]? =some x)(hx:Loc X.env.scope x)(r:RelV v u)
 (h:∀s',Inv X fL (σ.set i (some v)) H s'->Q () s') (hf:X.fn x=true\/X.env.scope.names.lookup x=some .local:=by first|exact .inl Z|exact .inr Z|assumption):wpAny M A (storeName X.env x u) Q E s:=
 L0 I hN hi hx r (fun s' I' _=>h s' I') hf
theorem Inv.Bh{s':Shared}{ch:List Addr}(I:Inv X fL σ H s)(ho:s'.os=s.os)(u:Un (iP X.stack) ch H H' s.heap s'.heap)(gh:iY X.prog X.w H' s'.heap)(hg:AllBare s'.gens)
 (kh:∀b∈ch,(b∈X.ex\/X.kW.heap.objs.size<=b)/\b≠X.env.locals/\(∀x c,X.env.cells.lookup x=some c->c≠b)/\∀p∈X.pn++fL,p.1≠b):Inv X fL σ H' s':=by
 obtain⟨h',g',d',t',o'⟩:=s';have e:o'=s.os:=ho;subst e;exact I.call (g':=g') (t':=t') (d':=d') u gh hg kh
end
abbrev XK:=Value->Option Addr->Hp->Prop
abbrev St:=List (Option V)
abbrev VK:=V->Hp->Prop
abbrev TE:=St->Hp->VK->Prop
abbrev TT:=St->Hp->(Bool->Hp->Prop)->Prop
abbrev TA:=St->Hp->(List V->Hp->Prop)->Prop
structure oO where
 nx:St->Hp->Prop
 rt:VK
 bk:St->Hp->Prop:=fun _ _=>False
 ct:St->Hp->Prop:=fun _ _=>False
abbrev TS:=oO->St->Hp->Prop
def EP(X:Cx)(fL:List (Addr×Obj))(σ:St)(Q:VK)(u:Value)(s':Shared):Prop:=∃v H',Inv X fL σ H' s'/\RelV v u/\Q v H'
def TP(X:Cx)(fL:List (Addr×Obj))(σ:St)(Q:Bool->Hp->Prop)(b:Bool)(s':Shared):Prop:=∃H',Inv X fL σ H' s'/\Q b H'
def AP(X:Cx)(fL:List (Addr×Obj))(σ:St)(Q:List V->Hp->Prop)(us:List Value)(s':Shared):Prop:=∃vs H',Inv X fL σ H' s'/\gF vs us/\Q vs H'
def SP(X:Cx)(fL:List (Addr×Obj))(D:oO)(f:Flow)(s':Shared):Prop:=
 match f with
 |.next=>∃gw H',Inv X fL gw H' s'/\D.nx gw H'
 |.brk=>∃gw H',Inv X fL gw H' s'/\D.bk gw H'
 |.cont=>∃gw H',Inv X fL gw H' s'/\D.ct gw H'
 |.ret u=>∃v gw H',Inv X fL gw H' s'/\RelV v u/\D.rt v H'
def PE(X:Cx)(e:Expr)(t:TE):Prop:=
 ∀(fL:List (Addr×Obj)) (s:Shared) (σ:St) (H:Hp) (Q:VK),Inv X fL σ H s->t σ H Q->wpAny (model X.prog X.w) X.A (eval e X.env) (EP X fL σ Q) X.xe s
def PT(X:Cx)(e:Expr)(t:TT):Prop:=
 ∀(fL:List (Addr×Obj)) (s:Shared) (σ:St) (H:Hp) (Q:Bool->Hp->Prop),Inv X fL σ H s->t σ H Q->wpAny (model X.prog X.w) X.A (isTrue e X.env (eval e X.env)) (TP X fL σ Q) X.xe s
def PW(X:Cx)(e:Expr)(t:TT):Prop:=
 ∀(whole:Sem Value) (fL:List (Addr×Obj)) (s:Shared) (σ:St) (H:Hp) (Q:Bool->Hp->Prop),Inv X fL σ H s->t σ H Q->wpAny (model X.prog X.w) X.A (isTrue e X.env whole) (TP X fL σ Q) X.xe s
theorem PW.pt{X:Cx}{e:Expr}{t:TT}(h:PW X e t):PT X e t:=h _
def PA(X:Cx)(es:List Expr)(t:TA):Prop:=
 ∀(pos:Pos) (fL:List (Addr×Obj)) (s:Shared) (σ:St) (H:Hp) (Q:List V->Hp->Prop),Inv X fL σ H s->t σ H Q->wpAny (model X.prog X.w) X.A (spliced (backTo pos (starEach es X.env))) (AP X fL σ Q) X.xe s
def PS(X:Cx)(st:Stmt)(t:TS):Prop:=
 ∀(fL:List (Addr×Obj)) (s:Shared) (σ:St) (H:Hp) (D:oO),Inv X fL σ H s->t D σ H->wpAny (model X.prog X.w) X.A (exec st X.env) (SP X fL D) X.xe s
def lZ(X:Cx)(st:List Stmt)(t:TS):Prop:=
 ∀(fL:List (Addr×Obj)) (s:Shared) (σ:St) (H:Hp) (D:oO),Inv X fL σ H s->t D σ H->wpAny (model X.prog X.w) X.A (execs st X.env) (SP X fL D) X.xe s
theorem gm{α:Type}{t:Sem α}{Q Q':α->Shared->Prop}{M:Model}{A:Around}{E:Value->Shared->Prop}{s:Shared}(h:wpAny M A t Q E s)(hQ:∀a s,Q a s->Q' a s):wpAny M A t Q' E s:=bF h hQ fun _ _ x=>x
section
variable {X:Cx}
theorem bin{a b:Expr}{ta tb:TE}(ha:PE X a ta)(hb:PE X b tb){fL:List (Addr×Obj)}{s:Shared}{σ:St}{H:Hp}{R:V->V->Hp->Prop}(I:Inv X fL σ H s)(h:ta σ H fun x H1=>tb σ H1 fun y H2=>R x y H2)
 {α:Type} {Q:α->Shared->Prop} {f:Value->Value->Sem α}
 (hf:∀v u s2 x y H2,Inv X fL σ H2 s2->RelV x v->RelV y u->R x y H2->wpAny (model X.prog X.w) X.A (f v u) Q X.xe s2):
 wpAny (model X.prog X.w) X.A (eval a X.env) (fun v iK=>wpAny (model X.prog X.w) X.A (eval b X.env) (fun u jM=>wpAny (model X.prog X.w) X.A (f v u) Q X.xe jM) X.xe iK) X.xe s:=by
 refine gm (ha fL s σ H _ I h) fun v s1 ⟨x,H1,I1,r1,q1⟩=> ?_
 refine gm (hb fL s1 σ H1 _ I1 q1) fun u s2 ⟨y,H2,I2,r2,q2⟩=> ?_
 exact hf v u s2 x y H2 I2 r1 r2 q2
def iO(i:Nat):TE:=fun σ H Q=>∃v,σ[i]? =some (some v)/\Q v H
def tC(v:V):TE:=fun _ H Q=>Q v H
theorem Zc{i:Nat}{x:Str}{pos:Pos}(hN:X.N[i]? =some x)(hv:wM X.env.scope x)(hd:(x==("__debug__":Str))=false:=by decide)(nY:(x==("__classdict__":Str))=false:=by decide):PE X (.Name x pos) (iO i):=by
 intro fL s σ H Q I h;obtain⟨v,e,h⟩:=h;obtain⟨m,hn,hl⟩:=I.loc;obtain⟨u,r,l⟩:=hl i x v hN e hv;have fin:EP X fL σ Q u s:=⟨v,H,I,r,h⟩;rcases l with⟨hk,hm⟩|⟨hk,c,hc,Bj⟩
 ·exact wpAny_Name (wpAny_loadName_local I.ok.kind hk hn hm fin) hd
 ·rcases hk with hk|hk
  ·exact wpAny_Name (wpAny_loadName_cell I.ok.kind hk hc Bj fin) hd
  ·exact wpAny_Name (wpAny_loadName_free I.ok.kind hk hc Bj fin nY) hd
theorem fW{i j pos}:PE X (.Constant (.int i) j pos) (tC (.int i)):=fun _ _ _ H _ I h=>wpAny_Constant_int ⟨.int i,H,I.tok _,⟨_,Z⟩,h⟩
theorem On{b j pos}:PE X (.Constant (.bool b) j pos) (tC (.bl b)):=fun _ _ _ H _ I h=>Constant_bool ⟨.bl b,H,I,Z,h⟩
theorem uC{j pos}:PE X (.Constant .none j pos) (tC .gS):=fun _ _ _ H _ I h=>Constant_none ⟨.gS,H,I,Z,h⟩
theorem kq{x j pos}:PE X (.Constant (.str x) j pos) (tC (.str x)):=fun _ _ _ H _ I h=>Calls.Constant_str ⟨.str x,H,I.tok _,⟨_,Z⟩,h⟩
def Gl(X:Cx)(x:Str):Prop:=X.env.kindOf x=some .globalImplicit
theorem uv{E:Value->Shared->Prop}{fL:List (Addr×Obj)}{s:Shared}{σ:St}{H:Hp}{x:Str}{u:Value}{pos:Pos}{Q:Value->Shared->Prop}(I:Inv X fL σ H s)(hg:Gl X x)(hm:X.mg x=some u)(h:Q u s)
 (hd:(x==("__debug__":Str))=false:=by decide):wpAny (model X.prog X.w) X.A (eval (.Name x pos) X.env) Q E s:=
 Calls.Name_function_global I.ok.kind hg (Calls.loadGlobal_global (by rw[I.ok.glob];exact I.mod.glob.keeps I.bk) hm h) hd
theorem qr{E:Value->Shared->Prop}{fL:List (Addr×Obj)}{s:Shared}{σ:St}{H:Hp}{x:Str}{u:Value}{pos:Pos}{Q:Value->Shared->Prop}(I:Inv X fL σ H s)(hg:Gl X x)(hm:X.mg x=none)(hv:bootBuiltins x=some u)(h:Q u s)
 (hn:x≠"__name__":=by decide) (hd:(x==("__debug__":Str))=false:=by decide):wpAny (model X.prog X.w) X.A (eval (.Name x pos) X.env) Q E s:=by
 obtain⟨mb,h1,h2⟩:=I.mod.blt;exact Calls.Name_function_global I.ok.kind hg (Calls.loadGlobal_builtin (by rw[I.ok.glob];exact I.mod.glob.keeps I.bk) hm (by rw[I.ok.blt];exact h1.keeps I.bk) ((h2 x hn).trans hv) h) hd
theorem Gm{x:Str}{v:V}{u:Value}{pos:Pos}(hg:Gl X x)(hm:X.mg x=some u)(r:RelV v u)(hd:(x==("__debug__":Str))=false:=by decide):PE X (.Name x pos) (tC v):=
 fun _ _ _ H _ I h=>uv I hg hm ⟨v,H,I,r,h⟩ hd
theorem Ni{x:Str}{v:V}{u:Value}{pos:Pos}(hg:Gl X x)(hm:X.mg x=none)(hv:bootBuiltins x=some u)(r:RelV v u)(hn:x≠"__name__":=by decide)(hd:(x==("__debug__":Str))=false:=by decide):PE X (.Name x pos) (tC v):=
 fun _ _ _ H _ I h=>qr I hg hm hv ⟨v,H,I,r,h⟩ hn hd
variable {a b:Expr} {ta tb:TE} {pos:Pos}
def PC(X:Cx)(op:CmpOp)(a b:Expr)(t:TE):Prop:=
 ∀(fL:List (Addr×Obj)) (s:Shared) (σ:St) (H:Hp) (Q:VK),Inv X fL σ H s->t σ H Q->
  wpAny (model X.prog X.w) X.A (eval a X.env) (fun v iK=>wpAny (model X.prog X.w) X.A (eval b X.env) (fun u jM=>wpAny (model X.prog X.w) X.A (compareOp op v u) (EP X fL σ Q) X.xe jM) X.xe iK) X.xe s
theorem WZ(b:Expr){op:CmpOp}(h:op≠ .In)(h2:op≠ .NotIn):behindInMarks op b=false:=by
 have e1:(op==CmpOp.In)=false:=by cases op<;>first|rfl|exact absurd Z h
 have e2:(op==CmpOp.NotIn)=false:=by cases op<;>first|rfl|exact absurd Z h2
 cases b<;>simp[behindInMarks,e1,e2]
def aaT(ta:TE):TE:=fun σ H Q=>ta σ H fun x H1=>Q (.bl (decide (x=.gS))) H1
def Z5(ta:TE):TE:=fun σ H Q=>ta σ H fun x H1=>Q (.bl (!decide (x=.gS))) H1
theorem RelV.MC{x:V}{v:Value}(r:RelV x v):(v==Value.none)=decide (x=.gS):=by
 cases x with
 |gS=>cases r;rfl
 |bl _=>cases r;rfl
 |int _=>obtain⟨t,rfl⟩:=r;rfl
 |str _=>obtain⟨t,rfl⟩:=r;rfl
 |nA _=>obtain⟨t,rfl⟩:=r;rfl
 |wJ _=>obtain⟨t,rfl⟩:=r;rfl
 |ref _=>cases r;rfl
 |ty _=>cases r;rfl
theorem A0{j kU}(ha:PE X a ta):PC X .Is a (.Constant .none j kU) (aaT ta):=by
 intro fL s σ H Q I h;refine gm (ha fL s σ H _ I h) fun v s1 ⟨x,H1,I1,r1,q1⟩=> ?_
 exact Constant_none (is_none_gen ⟨.bl _,H1,I1,by rw[r1.MC];rfl,q1⟩)
theorem Gn{j kU}(ha:PE X a ta):PC X .IsNot a (.Constant .none j kU) (Z5 ta):=by
 intro fL s σ H Q I h;refine gm (ha fL s σ H _ I h) fun v s1 ⟨x,H1,I1,r1,q1⟩=> ?_
 exact Constant_none (isnot_none_gen ⟨.bl _,H1,I1,by rw[r1.MC];rfl,q1⟩)
def tB(t:TE):TT:=fun σ H Q=>t σ H fun x H1=>∃c,x=.bl c/\Q c H1
theorem qt{op:CmpOp}{t:TE}(h:PC X op a b t)(h1:behindInMarks op b=false:=by first|exact WZ _ (by decide) (by decide)|rfl):PT X (.Compare a [op] [b] pos) (tB t):=by
 intro fL s σ H Q I hw;refine wpAny_isTrue_Compare1 (gm (h fL s σ H _ I hw) fun v s1 h1=>gm h1 fun u s2 h2=>gm h2 fun c s3 ⟨x,H1,I1,r1,q1⟩=> ?_) h1;obtain⟨d,rfl,q⟩:=q1;cases r1;exact bR ⟨H1,I1,q⟩
theorem lT{e:Expr}{t:TE}(h:PE X e t)(he:∀whole,isTrue e X.env whole=(do let v<-whole;standAt e.pos;holding [v] (truthy v)):=by intro _;rfl):PT X e (tB t):=by
 intro fL s σ H Q I hw;refine isTrue_plain (gm (h fL s σ H _ I hw) fun v s1 ⟨x,H1,I1,r1,q1⟩=> ?_) (he _);obtain⟨d,rfl,q⟩:=q1;cases r1;exact bR ⟨H1,I1,q⟩
variable {tA BI:TT} {hU:List Expr}
def aaU(t u:TT):TT:=fun σ H Q=>t σ H fun c H1=>if c=true then u σ H1 Q else Q false H1
def tOr(t u:TT):TT:=fun σ H Q=>t σ H fun c H1=>if c=true then Q true H1 else u σ H1 Q
def aaV(t:TT):TT:=fun σ H Q=>t σ H fun c H1=>Q (!c) H1
theorem AM(ha:PT X a tA):PW X (.BoolOp .And [a] pos) tA:=by
 intro wh fL s σ H Q I h;refine isTrue_and (gm (ha fL s σ H Q I h) fun c s1 e=> ?_);cases c with
 |true=>exact isTrue_and_nil e
 |false=>exact e
theorem qu(ha:PT X a tA):PW X (.BoolOp .Or [a] pos) tA:=by
 intro wh fL s σ H Q I h;refine isTrue_or (gm (ha fL s σ H Q I h) fun c s1 e=> ?_);cases c with
 |false=>exact isTrue_or_nil e
 |true=>exact e
theorem A1(ha:PT X a tA)(hb:PW X (.BoolOp .And (b::hU) pos) BI):PW X (.BoolOp .And (a::b::hU) pos) (aaU tA BI):=by
 intro wh fL s σ H Q I h;refine isTrue_and (gm (ha fL s σ H _ I h) fun c s1 ⟨H1,I1,q1⟩=> ?_);cases c with
 |true=>exact hb wh fL s1 σ H1 Q I1 q1
 |false=>exact⟨H1,I1,q1⟩
theorem pM(ha:PT X a tA)(hb:PW X (.BoolOp .Or (b::hU) pos) BI):PW X (.BoolOp .Or (a::b::hU) pos) (tOr tA BI):=by
 intro wh fL s σ H Q I h;refine isTrue_or (gm (ha fL s σ H _ I h) fun c s1 ⟨H1,I1,q1⟩=> ?_);cases c with
 |true=>exact⟨H1,I1,q1⟩
 |false=>exact hb wh fL s1 σ H1 Q I1 q1
theorem k9(ha:PT X a tA):PT X (.UnaryOp .Not a pos) (aaV tA):=by
 intro fL s σ H Q I h;exact isTrue_not (ha fL s σ H (fun c H1=>Q (!c) H1) I h)
def Oo(ta tb:TE):TE:=fun σ H Q=>ta σ H fun x H1=>∃c,x=.bl c/\if c=true then tb σ H1 Q else Q (.bl false) H1
def OO(ta tb:TE):TE:=fun σ H Q=>ta σ H fun x H1=>∃c,x=.bl c/\if c=true then Q (.bl true) H1 else tb σ H1 Q
theorem A2{op}{t:TE}(h:PE X a t):PE X (.BoolOp op [a] pos) t:=fun fL s σ H Q I hw=>BoolOp_one (h fL s σ H Q I hw)
theorem GF(ha:PE X a ta)(hb:PE X (.BoolOp .And (b::hU) pos) tb):PE X (.BoolOp .And (a::b::hU) pos) (Oo ta tb):=by
 intro fL s σ H Q I h;refine BoolOp_and (gm (ha fL s σ H _ I h) fun v s1 ⟨x,H1,I1,r1,q1⟩=> ?_);obtain⟨c,rfl,q1⟩:=q1;cases r1;refine bR ?_;cases c with
 |true=>exact hb fL s1 σ H1 Q I1 q1
 |false=>exact⟨.bl false,H1,I1,Z,q1⟩
theorem Z6(ha:PE X a ta)(hb:PE X (.BoolOp .Or (b::hU) pos) tb):PE X (.BoolOp .Or (a::b::hU) pos) (OO ta tb):=by
 intro fL s σ H Q I h;refine BoolOp_or (gm (ha fL s σ H _ I h) fun v s1 ⟨x,H1,I1,r1,q1⟩=> ?_);obtain⟨c,rfl,q1⟩:=q1;cases r1;refine bR ?_;cases c with
 |false=>exact hb fL s1 σ H1 Q I1 q1
 |true=>exact⟨.bl true,H1,I1,Z,q1⟩
def tIf(t:TT)(ta tb:TE):TE:=fun σ H Q=>t σ H fun c H1=>if c=true then ta σ H1 Q else tb σ H1 Q
theorem ya{c:Expr}(hc:PT X c tA)(ha:PE X a ta)(hb:PE X b tb):PE X (.IfExp c a b pos) (tIf tA ta tb):=by
 intro fL s σ H Q I h;refine wpAny_IfExp (gm (hc fL s σ H _ I h) fun d s1 ⟨H1,I1,q1⟩=> ?_);cases d with
 |true=>exact ha fL s1 σ H1 Q I1 q1
 |false=>exact hb fL s1 σ H1 Q I1 q1
end
def fR(K:PySem.W.Frag)(H:Hp)(a:Addr)(xs:List V):Prop:=
 Rd H a (.lst xs)\/
  ∃(o:Obj) (fU:Array Value) (n:Nat),K.lookup a=some o/\o.cls=.type "list"/\o.dict=none/\o.data=.seq fU n/\fU.size<=sizeLine/\gF xs fU.toList
def iN(K:PySem.W.Frag)(H:Hp)(a:Addr)(xs:List V):Prop:=
 Rd H a (.tup xs)\/
  ∃(o:Obj) (fU:Array Value) (n:Nat),K.lookup a=some o/\o.cls=.type "tuple"/\o.data=.seq fU n/\fU.size<=sizeLine/\gF xs fU.toList
def aaW:Value->Option V
 |.none=>some .gS
 |.bool b=>some (.bl b)
 |.int i _=>some (.int i)
 |.str x _=>some (.str x)
 |.bytes b _=>some (.nA b)
 |.float b _=>some (.wJ b)
 |.ref a=>some (.ref a)
 |.type n=>some (.ty n)
 |_=>none
theorem RelV.abs{x:V}{u:Value}(r:RelV x u):aaW u=some x:=by
 cases x with
 |gS=>cases r;rfl
 |bl _=>cases r;rfl
 |int _=>obtain⟨t,rfl⟩:=r;rfl
 |str _=>obtain⟨t,rfl⟩:=r;rfl
 |nA _=>obtain⟨t,rfl⟩:=r;rfl
 |wJ _=>obtain⟨t,rfl⟩:=r;rfl
 |ref _=>cases r;rfl
 |ty _=>cases r;rfl
theorem RelV.inj{x y:V}{u:Value}(r:RelV x u)(q:RelV y u):x=y:=af (r.abs.symm.trans q.abs)
theorem gF.inj:∀{xs ys:List V} {us:List Value},gF xs us->gF ys us->xs=ys
 |_,_,_,.nil,.nil=>rfl
 |_,_,_,.cons r t,.cons r' t'=>by rw[r.inj r',gF.inj t t']
section
variable {X:Cx} {fL:List (Addr×Obj)} {σ:St} {H:Hp} {s:Shared} {a:Addr} {xs ys:List V}
theorem fR.of{K:PySem.W.Frag}(h:H a=some (.lst xs)):fR K H a xs:=.inl (.inl h)
theorem iN.of{K:PySem.W.Frag}(h:H a=some (.tup xs)):iN K H a xs:=.inl (.inl h)
theorem Inv.list(I:Inv X fL σ H s)(h:fR X.K H a xs):∃fU:List Value,gF xs fU/\PlainL s.heap a fU.toArray/\xs.length<=sizeLine:=by
 rcases h with h|⟨o,fU,n,hk,hc,hd,hs,hz,r⟩
 ·obtain⟨z,fU,n,r,e⟩:=h.ok I.gh;exact⟨fU,r,⟨_,n,e,Z,Z,Z⟩,z⟩
 ·refine⟨fU.toList,r,⟨o,n,I.jE a o hk,hc,hd,by simpa using hs⟩,?_⟩;have e:=r.length;simp only[fJ] at e;omega
theorem Inv.tuple(I:Inv X fL σ H s)(h:iN X.K H a xs):∃fU:List Value,gF xs fU/\IsTup s.heap a fU.toArray/\xs.length<=sizeLine:=by
 rcases h with h|⟨o,fU,n,hk,hc,hs,hz,r⟩
 ·obtain⟨z,fU,r,p⟩:=h.ok I.gh;exact⟨fU,r,p,z⟩
 ·refine⟨fU.toList,r,⟨o,I.jE a o hk,hc,n,by simpa using hs⟩,?_⟩;have e:=r.length;simp only[fJ] at e;omega
theorem Inv.yb(I:Inv X fL σ H s)(h:fR X.K H a xs)(h':fR X.K H a ys):xs=ys:=by
 obtain⟨fU,r,⟨o,n,e,_,_,d⟩,_⟩:=I.list h;obtain⟨nz,r',⟨o',n',e',_,_,d'⟩,_⟩:=I.list h';rw[e] at e';cases e';rw[d] at d';injection d' with d1 _
 have:fU=nz:=by simpa using congrArg Array.toList d1
 subst this;exact r.inj r'
theorem Inv.L1(I:Inv X fL σ H s)(h:iN X.K H a xs)(h':iN X.K H a ys):xs=ys:=by
 obtain⟨fU,r,⟨o,e,_,n,d⟩,_⟩:=I.tuple h;obtain⟨nz,r',⟨o',e',_,n',d'⟩,_⟩:=I.tuple h';rw[e] at e';cases e';rw[d] at d';injection d' with d1 _
 have:fU=nz:=by simpa using congrArg Array.toList d1
 subst this;exact r.inj r'
end
abbrev Cx.pO(X:Cx)(E:Value->Shared->Prop):Cx:={X with xe:=E}
abbrev Cx.rp(X:Cx):Cx:=X.pO fun _ _=>False
theorem Cx.Ok.pO{X:Cx}(ok:X.Ok)(E:Value->Shared->Prop):(X.pO E).Ok:=
 ⟨ok.mod,ok.kind,ok.glob,ok.blt,ok.above,ok.inj,ok.has,ok.wN,ok.hd,ok.frames,ok.sT,ok.yI,ok.bs,ok.pT,ok.wu,ok.wv,ok.jv,ok.qD⟩
theorem Cx.Ok.ra{X:Cx}{E:Value->Shared->Prop}(ok:(X.pO E).Ok):X.Ok:=
 ⟨ok.mod,ok.kind,ok.glob,ok.blt,ok.above,ok.inj,ok.has,ok.wN,ok.hd,ok.frames,ok.sT,ok.yI,ok.bs,ok.pT,ok.wu,ok.wv,ok.jv,ok.qD⟩
section
variable {X:Cx} {fL:List (Addr×Obj)} {σ:St} {H:Hp} {s:Shared} {E:Value->Shared->Prop}
theorem Inv.pO(I:Inv X fL σ H s)(E:Value->Shared->Prop):Inv (X.pO E) fL σ H s:=⟨I.ok.pO E,I.os,I.bare,I.base,I.loc,I.cell,I.free,I.mO,I.pin,I.gh,I.len⟩
theorem Inv.ra(I:Inv (X.pO E) fL σ H s):Inv X fL σ H s:=⟨I.ok.ra,I.os,I.bare,I.base,I.loc,I.cell,I.free,I.mO,I.pin,I.gh,I.len⟩
theorem SP.ra{D:oO}{f:Flow}{s':Shared}(h:SP (X.pO E) fL D f s'):SP X fL D f s':=by
 cases f with
 |next=>obtain⟨gw,H',I,q⟩:=h;exact⟨gw,H',I.ra,q⟩
 |brk=>obtain⟨gw,H',I,q⟩:=h;exact⟨gw,H',I.ra,q⟩
 |cont=>obtain⟨gw,H',I,q⟩:=h;exact⟨gw,H',I.ra,q⟩
 |ret u=>obtain⟨v,gw,H',I,r,q⟩:=h;exact⟨v,gw,H',I.ra,r,q⟩
theorem PE.rp{e:Expr}{t:TE}(h:PE X.rp e t):PE X e t:=fun fL s σ H Q I hw=>
 bF (h fL s σ H Q (I.pO _) hw) (fun _ _ ⟨v,H',I',r,q⟩=>⟨v,H',I'.ra,r,q⟩) fun _ _ z=>False.elim z
theorem lZ.rp{st:List Stmt}{t:TS}(h:lZ X.rp st t):lZ X st t:=fun fL s σ H D I hw=>
 bF (h fL s σ H D (I.pO _) hw) (fun _ _ q=>q.ra) fun _ _ z=>False.elim z
end
section
variable {X:Cx} {st:Stmt} {hU:List Stmt} {t u:TS} {e:Expr} {te:TE} {pos:Pos}
def uH:TS:=fun D σ H=>D.nx σ H
def jR(t u:TS):TS:=fun D σ H=>t {D with nx:=u D} σ H
theorem ia:lZ X [] uH:=fun _ _ σ H _ I h=>dI ⟨σ,H,I,h⟩
theorem fS(h1:PS X st t)(h2:lZ X hU u):lZ X (st::hU) (jR t u):=by
 intro fL s σ H D I h;refine wpAny_execs_cons (gm (h1 fL s σ H {D with nx:=u D} I h) fun f s1 q=> ?_);cases f with
 |next=>
  obtain⟨gw,H',I',q⟩:=q;exact h2 fL s1 gw H' D I' q
 |ret v=>exact q
 |brk=>exact q
 |cont=>exact q
theorem fV(h1:PS X st t):lZ X [st] t:=by
 intro fL s σ H D I h;refine wpAny_execs_cons (gm (h1 fL s σ H D I h) fun f s1 q=> ?_);cases f with
 |next=>exact dI q
 |ret v=>exact q
 |brk=>exact q
 |cont=>exact q
def Z7:TS:=fun D σ H=>D.ct σ H
theorem KL:PS X (.Continue pos) Z7:=fun _ _ σ H _ I h=>wpAny_Continue ⟨σ,H,I,h⟩
theorem Inv.quiet{fL:List (Addr×Obj)}{σ:St}{H:Hp}{s:Shared}(I:Inv X fL σ H s):interactive X.env=false:=by simp[interactive,I.ok.kind]
def wb(te:TE):TS:=fun D σ H=>te σ H fun _ H1=>D.nx σ H1
theorem iR(he:PE X e te)(hs:swapsWith e none pos.line X.env=pure false:=by rfl):PS X (.Expr e pos) (wb te):=by
 intro fL s σ H D I h;exact wpAny_Expr_any (gm (he fL s σ H _ I h) fun v s1 ⟨x,H1,I1,r1,q1⟩=>⟨σ,H1,I1,q1⟩) I.quiet hs
def ww(te:TE):TS:=fun D σ H=>te σ H D.rt
theorem gC(he:PE X e te):PS X (.Return (some e) pos) (ww te):=by
 intro fL s σ H D I h;exact wpAny_Return_some (gm (he fL s σ H _ I h) fun v s1 ⟨x,H1,I1,r1,q1⟩=>⟨x,σ,H1,I1,r1,q1⟩)
def Z8:TS:=fun D _ H=>D.rt .gS H
theorem X7:PS X (.Return none pos) Z8:=fun _ _ σ H _ I h=>wpAny_Return_none ⟨.gS,σ,H,I,Z,h⟩
def uP(c:TT)(t u:TS):TS:=fun D σ H=>c σ H fun b H1=>if b=true then t D σ H1 else u D σ H1
theorem gY{c:Expr}{a b:List Stmt}{tc:TT}(hc:PT X c tc)(ha:lZ X a t)(hb:lZ X b u):PS X (.If c a b pos) (uP tc t u):=by
 intro fL s σ H D I h;refine wpAny_If (gm (hc fL s σ H _ I h) fun d s1 ⟨H1,I1,q1⟩=> ?_);cases d with
 |true=>exact ha fL s1 σ H1 D I1 q1
 |false=>exact hb fL s1 σ H1 D I1 q1
end
abbrev TG:=V->St->Hp->(St->Hp->Prop)->Prop
abbrev u4:=List V->St->Hp->(St->Hp->Prop)->Prop
def PG(X:Cx)(vT:Expr)(t:TG):Prop:=
 ∀(fL:List (Addr×Obj)) (s:Shared) (σ:St) (H:Hp) (v:V) (u:Value) (Q:St->Hp->Prop),Inv X fL σ H s->RelV v u->t v σ H Q->
  wpAny (model X.prog X.w) X.A (assign vT X.env u) (fun _ s'=>∃gw H',Inv X fL gw H' s'/\Q gw H') X.xe s
def BJ(X:Cx)(ts:List Expr)(t:u4):Prop:=
 ∀(fL:List (Addr×Obj)) (s:Shared) (σ:St) (H:Hp) (vs:List V) (us:List Value) (Q:St->Hp->Prop),Inv X fL σ H s->gF vs us->t vs σ H Q->
  wpAny (model X.prog X.w) X.A (assignInOrder ((assignEach ts X.env).map (·.2)) us) (fun _ s'=>∃gw H',Inv X fL gw H' s'/\Q gw H') X.xe s
abbrev He:=V->V->V->Hp->(Hp->Prop)->Prop
def OP(X:Cx)(t:He):Prop:=
 ∀(fL:List (Addr×Obj)) (s:Shared) (σ:St) (H:Hp) (o i v:V) (ov iv u:Value) (Q:Hp->Prop),Inv X fL σ H s->RelV o ov->RelV i iv->RelV v u->t o i v H Q->
  wpAny (model X.prog X.w) X.A (setItem ov iv u) (fun _ s'=>∃H',Inv X fL σ H' s'/\Q H') X.xe s
abbrev BK:=V->V->Hp->VK->Prop
def HA(X:Cx)(op:Operator)(t:BK):Prop:=
 ∀(fL:List (Addr×Obj)) (s:Shared) (σ:St) (H:Hp) (x y:V) (v u:Value) (Q:VK),Inv X fL σ H s->RelV x v->RelV y u->t x y H Q->
  wpAny (model X.prog X.w) X.A (inplaceOp op v u) (EP X fL σ Q) X.xe s
section
variable {X:Cx} {pos:Pos}
def sC(i:Nat):TG:=fun v σ H Q=>Q (σ.set i (some v)) H
theorem iI{i:Nat}{x:Str}(hN:X.N.Nodup)(hi:X.N[i]? =some x)(hx:Loc X.env.scope x)(hf:X.fn x=true\/X.env.scope.names.lookup x=some .local:=by first|exact .inl Z|exact .inr Z|assumption):PG X (.Name x pos) (sC i):=by
 intro fL s σ H v u Q I r h;exact wpAny_assign_Name (Au I hN hi hx r (fun s' I'=>⟨_,H,I',h⟩) hf)
def aaX:u4:=fun vs σ H Q=>vs=[]/\Q σ H
def Z9(t:TG)(u:u4):u4:=fun vs σ H Q=>∃v r,vs=v::r/\t v σ H fun gw H'=>u r gw H' Q
theorem qX:BJ X [] aaX:=by
 intro fL s σ H vs us Q I r h;obtain⟨e,h⟩:=h;subst e;cases r;exact assignInOrder_nil ⟨σ,H,I,h⟩
theorem lR{e:Expr}{es:List Expr}{t:TG}{u:u4}(h1:PG X e t)(h2:BJ X es u)
 (hs:(assignEach (e::es) X.env).map (·.2)=assign e X.env::(assignEach es X.env).map (·.2):=by rfl):BJ X (e::es) (Z9 t u):=by
 intro fL s σ H vs us Q I r h;obtain⟨v,vr,e1,h⟩:=h;subst e1;cases r with
 |cons r rr=>
  rw[hs];refine assignInOrder_cons (gm (h1 fL s σ H _ _ _ I r h) fun _ s1 ⟨mj,H1,I1,q1⟩=> ?_);exact h2 fL s1 mj H1 _ _ Q I1 rr q1
def OQ(K:PySem.W.Frag)(n:Nat)(t:u4):TG:=fun v σ H Q=>∃a xs,v=.ref a/\iN K H a xs/\xs.length=n/\t xs σ H Q
theorem rb{es:List Expr}{k:Nat}{t:u4}{n:Nat}(hc:X.calm=true)(h:BJ X es t)
 (hn:(assignEach es X.env).length=n:=by rfl) (kK:(assignEach es X.env).findIdx? (·.1)=none:=by rfl):PG X (.Tuple es k pos) (OQ X.K n t):=by
 intro fL s σ H v u Q I r hw;obtain⟨a,xs,e1,hq,hl,hw⟩:=hw;subst e1;cases r;obtain⟨fU,rv,ht,hz⟩:=I.tuple hq;refine assign_Tuple_tuple (I.ok.hd hc) ht (by simp[hn,<-hl,rv.length]) kK fun h' hx=> ?_
 have I1:Inv X fL σ H {s with heap:=h'}:=I.kept (t':=s.toks) fun b o e=>hx b o (ba (aK e)) e
 exact h fL _ σ H xs _ Q I1 (by simpa using rv) hw
def aaY(to ti:TE)(t:He):TG:=fun v σ H Q=>to σ H fun o H1=>ti σ H1 fun i H2=>t o i v H2 fun H3=>Q σ H3
theorem Zd{o i:Expr}{to ti:TE}{t:He}(ho:PE X o to)(hi:PE X i ti)(hs:OP X t)
 (ha:∀v,assign (.Subscript o i pos) X.env v=(do
   let ov<-holding [v] (eval o X.env)
   let iv<-holding [v,ov] (eval i X.env)
   standAt pos
   holding [v,ov,iv] (setItem ov iv v)
   release [v,ov,iv] []):=by intro _;rfl):PG X (.Subscript o i pos) (aaY to ti t):=by
 intro fL s σ H v u Q I r h;rw[ha];refine ay (dL (gm (ho fL s σ H _ I h) fun ov s1 ⟨x,H1,I1,r1,q1⟩=> ?_));refine ay (dL (gm (hi fL s1 σ H1 _ I1 q1) fun iv s2 ⟨y,H2,I2,r2,q2⟩=> ?_));refine ay (dN (ay (dL (gm (hs fL s2 σ H2 x y v ov iv u _ I2 r1 r2 r q2) fun _ s3 ⟨H3,I3,q3⟩=> ?_))));exact wpAny_release ⟨σ,H3,I3,q3⟩
def uQ(te:TE)(g:TG):TS:=fun D σ H=>te σ H fun x H1=>g x σ H1 D.nx
theorem Ze{tg e:Expr}{te:TE}{g:TG}(he:PE X e te)(hg:PG X tg g)(hs:swapsWithSole [tg] e pos.line X.env=pure false:=by rfl)(hw:swappedStores [tg] e X.env=pure none:=by rfl)
 (h1:(assignEach [tg] X.env).map (·.2)=[assign tg X.env]:=by rfl):PS X (.Assign [tg] e pos) (uQ te g):=by
 intro fL s σ H D I h;refine wpAny_Assign_stores (gm (he fL s σ H _ I h) fun v s1 ⟨x,H1,I1,r1,q1⟩=> ?_) hs hw;rw[h1];exact gm (hg fL s1 σ H1 x v _ I1 r1 q1) fun _ s2 q=>q
theorem gj{i:Nat}{x:Str}{e:Expr}{te:TE}{kU:Pos}(hN:X.N.Nodup)(hi:X.N[i]? =some x)(hx:Loc X.env.scope x)(he:PE X e te)(hs:swapsWith e (some (.Name x kU)) pos.line X.env=pure false:=by rfl)(hf:X.fn x=true\/X.env.scope.names.lookup x=some .local:=by first|exact .inl Z|exact .inr Z|assumption):
 PS X (.Assign [.Name x kU] e pos) (uQ te (sC i)):=by
 intro fL s σ H D I h;refine wpAny_Assign_Name (gm (he fL s σ H _ I h) fun v s1 ⟨y,H1,I1,r1,q1⟩=> ?_) hs;exact Au I1 hN hi hx r1 (fun s2 I2=>⟨_,H1,I2,q1⟩) hf
def aaZ(i:Nat)(te:TE)(ti:BK):TS:=fun D σ H=>∃x,σ[i]? =some (some x)/\te σ H fun y H1=>ti x y H1 fun z H2=>D.nx (σ.set i (some z)) H2
theorem vU{i:Nat}{x:Str}{e:Expr}{te:TE}{op:Operator}{ti:BK}{kU:Pos}(hN:X.N.Nodup)(hi:X.N[i]? =some x)(hx:Loc X.env.scope x)(he:PE X e te)(ho:HA X op ti)(hf:X.fn x=true\/X.env.scope.names.lookup x=some .local:=by first|exact .inl Z|exact .inr Z|assumption):
 PS X (.AugAssign (.Name x kU) op e pos) (aaZ i te ti):=by
 intro fL s σ H D I h;obtain⟨v,e1,h⟩:=h;obtain⟨m,hn,hl⟩:=I.loc;have vis:wM X.env.scope x:=by rcases hx with k|k;exact .inl k;exact .inr (.inl k)
 obtain⟨u,r,l⟩:=hl i x v hi e1 vis;refine wpAny_AugAssign_Name ?_
 have go:wpAny (model X.prog X.w) X.A (eval e X.env) (fun w jM=>wpAny (model X.prog X.w) X.A (inplaceOp op u w) (fun r sO=>wpAny (model X.prog X.w) X.A (storeName X.env x r) (fun _=>SP X fL D .next) X.xe sO) X.xe jM) X.xe s:=by
  refine gm (he fL s σ H _ I h) fun w s1 ⟨y,H1,I1,r1,q1⟩=> ?_
  refine gm (ho fL s1 σ H1 v y u w _ I1 r r1 q1) fun z s2 ⟨zv,H2,I2,r2,q2⟩=> ?_
  exact Au I2 hN hi hx r2 (fun s3 I3=>⟨_,H2,I3,q2⟩) hf
 rcases l with⟨hk,hm⟩|⟨hk,c,hc,Bj⟩
 ·exact wpAny_loadName_local I.ok.kind hk hn hm go
 ·rcases hk with hk|hk
  ·exact wpAny_loadName_cell I.ok.kind hk hc Bj go
  ·rcases hx with k|k
   ·have:X.env.scope.names.lookup x=some .free:=hk;rw[k] at this;cases this
   ·have:X.env.scope.names.lookup x=some .free:=hk;rw[k] at this;cases this
def Pn(f:Int->Int->Int):BK:=fun x y H Q=>∃i j,x=.int i/\y=.int j/\Q (.int (f i j)) H
theorem A3:HA X .Add (Pn fun i j=>i+j):=by
 intro fL s σ H x y v u Q I r1 r2 h;obtain⟨i,j,e1,e2,q⟩:=h;subst e1;subst e2;obtain⟨t,rfl⟩:=r1;obtain⟨t',rfl⟩:=r2;exact iadd_int ⟨.int _,H,I.tok _,⟨_,Z⟩,q⟩
theorem Zf:HA X .Sub (Pn fun i j=>i-j):=by
 intro fL s σ H x y v u Q I r1 r2 h;obtain⟨i,j,e1,e2,q⟩:=h;subst e1;subst e2;obtain⟨t,rfl⟩:=r1;obtain⟨t',rfl⟩:=r2;exact isub_int ⟨.int _,H,I.tok _,⟨_,Z⟩,q⟩
def N6(c:TT)(tb:TS):TS:=fun D σ H=>∃W:Nat->St->Hp->Prop,(∃m,W m σ H)/\∀m σ H,W m σ H->
 c σ H fun b H1=>if b=true then∃N:St->Hp->Prop,(∀gw H',N gw H'->∃m',m'<m/\W m' gw H')/\tb {D with nx:=N,ct:=N,bk:=D.nx} σ H1 else D.nx σ H1
theorem MD{c:Expr}{body:List Stmt}{tc:TT}{tb:TS}(hp:PassesOwn (model X.prog X.w) X.A X.env X.xe)(hc:PT X c tc)(hb:lZ X body tb):PS X (.While c body [] pos) (N6 tc tb):=by
 intro fL s σ H D I h;obtain⟨W,⟨m0,w0⟩,uR⟩:=h;refine wpAny_While (codeAny_whileLoop (fun n s'=>∃gw H',Inv X fL gw H' s'/\W n gw H') ?_ m0 ⟨σ,H,I,w0⟩);rintro n s1 ⟨mj,H1,I1,w1⟩;refine da hp (gm (hc fL s1 mj H1 _ I1 (uR n mj H1 w1)) fun b s2 ⟨H2,I2,q2⟩=> ?_);cases b with
 |true=>
  obtain⟨N,hN,q2⟩:=q2;rw[aw Z];refine da hp (gm (hb fL s2 mj H2 _ I2 q2) fun f s3 q3=> ?_);cases f with
  |next=>
   obtain⟨pU,H3,I3,n3⟩:=q3;obtain⟨m',hm,w3⟩:=hN pU H3 n3;exact⟨m',hm,pU,H3,I3,w3⟩
  |cont=>
   obtain⟨pU,H3,I3,n3⟩:=q3;obtain⟨m',hm,w3⟩:=hN pU H3 n3;exact⟨m',hm,pU,H3,I3,w3⟩
  |brk=>exact q3
  |ret v=>exact q3
 |false=>
  rw[am aQ];exact dI ⟨mj,H2,I2,q2⟩
end
structure It where
 go:Nat->Hp->Prop
 mG:Nat->Hp->V->Hp->Prop
 stop:Nat->Hp->Prop
def oP(X:Cx)(fL:List (Addr×Obj))(H:Hp)(b:Addr):Prop:=
 H b=none/\b≠X.env.locals/\b∉X.fs/\(b∈X.ex\/X.kW.heap.objs.size<=b)/\(∀x c,X.env.cells.lookup x=some c->c≠b)/\∀p∈X.pn++fL,p.1≠b
theorem Inv.rh{X:Cx}{fL:List (Addr×Obj)}{σ:St}{H H':Hp}{s:Shared}{b:Addr}(I:Inv X fL σ H s)(hb:s.heap.objs.size<=b)(hn:H' b=none):oP X fL H' b:=by
 refine⟨hn,fK (aU I.lt hb),I.aaQ hb,.inr (a8 I.sz hb),fun x c e z=> ?_,fun p hp z=> ?_⟩
 ·obtain⟨v,q⟩:=I.cell x c e;exact absurd (aU q.lt (by rw[z];exact hb)) (bL _)
 ·exact absurd (aU (aK (I.pin p hp).1) (by rw[z];exact hb)) (bL _)
structure pP(P:Program)(w:World)(K:PySem.W.Frag)(tg:Expr)(J:It)(fp:List Addr)(it:Addr)(tn:Nat->Heap->Prop):Prop where
 mem:it∈fp
 obj:∀i h,tn i h->∀b∈fp,∃o,h.get? b=some o/\∀v,o.data≠ .cell v
 keep:∀i h h',tn i h->(∀b∈fp,∀o,h.get? b=some o->h'.get? b=some o)->tn i h'
 item:∀(X:Cx),X.prog=P->X.w=w->X.K=K->X.calm=true->∀(i:Nat) (fL:List (Addr×Obj)) (s:Shared) (σ:St) (H:Hp) (E:Value->Shared->Prop),Inv X fL σ H s->(∀b∈fp,oP X fL H b)->tn i s.heap->J.go i H->
  wpAny (model P w) X.A (pyNext (.ref it)) (fun r s1=>∃u,r=some u/\
   wpAny (model P w) X.A (letOwnedTupleGo tg (.ref it) u) (fun _ s2=>∃x H',Inv X fL σ H' s2/\RelV x u/\J.mG i H x H'/\tn (i+1) s2.heap/\∀b∈fp,H' b=none) E s1) E s
 done:∀(X:Cx),X.prog=P->X.w=w->X.K=K->X.calm=true->∀(i:Nat) (fL:List (Addr×Obj)) (s:Shared) (σ:St) (H:Hp) (E:Value->Shared->Prop),Inv X fL σ H s->(∀b∈fp,oP X fL H b)->tn i s.heap->J.stop i H->
  wpAny (model P w) X.A (pyNext (.ref it)) (fun r s1=>r=none/\Inv X fL σ H s1) E s
 self:∀(A:Around) (i:Nat) (s:Shared) (Q:Value->Shared->Prop) (E:Value->Shared->Prop),tn i s.heap->Q (.ref it) s->wpAny (model P w) A (pyIter (.ref it)) Q E s
abbrev TI:=St->Hp->(It->Hp->Prop)->Prop
def BL(X:Cx)(fL:List (Addr×Obj))(σ:St)(tg:Expr)(R:It->Hp->Prop)(HB:Value)(s2:Shared):Prop:=
 ∃(it:Addr) (fp:List Addr) (tn:Nat->Heap->Prop) (J:It) (H':Hp),HB=.ref it/\Inv X fL σ H' s2/\pP X.prog X.w X.K tg J fp it tn/\tn 0 s2.heap/\(∀b∈fp,oP X fL H' b)/\R J H'
def PI(X:Cx)(tg jS:Expr)(wi:TI):Prop:=
 ∀(fL:List (Addr×Obj)) (s:Shared) (σ:St) (H:Hp) (R:It->Hp->Prop),Inv X fL σ H s->wi σ H R->
  wpAny (model X.prog X.w) X.A (eval jS X.env) (fun v s1=>wpAny (model X.prog X.w) X.A (pyIter v) (BL X fL σ tg R) X.xe s1) X.xe s
theorem wc{M:Model}{A:Around}{E:Value->Shared->Prop}{s:Shared}{tg:Expr}{it:Addr}{u:Value}{o:Obj}{n:String}{vs:Array Value}{Q:Unit->Shared->Prop}(ho:s.heap.get? it=some o)(hc:o.cls=.type n)(hd:o.data=.fields vs)
 (hn:["enumerate","zip","dict_itemiterator","dict_reverseitemiterator","odict_iterator","itertools.zip_longest","itertools.pairwise"].contains n=false) (hQ:Q () s):wpAny M A (letOwnedTupleGo tg (.ref it) u) Q E s:=by
 unfold letOwnedTupleGo
 cases tg<;>first
  |exact aY hQ
  |(cases u<;>first
   |exact aY hQ
   |(refine ay (wpAny_load ho ?_)
     rw[hc,hd];show wpAny M A (if (["enumerate","zip","dict_itemiterator","dict_reverseitemiterator","odict_iterator","itertools.zip_longest","itertools.pairwise"].contains n&&vs[0]? ==some (rawInt _))=true then _ else _) Q E s;rw[am (by intro h;rw[hn,cZ] at h;cases h)];exact aY hQ))
def sX(K:PySem.W.Frag)(a:Addr):It:=
 ⟨fun i H=>∃xs x,fR K H a xs/\xs[i]? =some x,fun i H x H'=>H'=H/\∀xs,fR K H a xs->xs[i]? =some x,fun i H=>∃xs,fR K H a xs/\xs.length<=i⟩
def sY(K:PySem.W.Frag)(a:Addr):It:=
 ⟨fun i H=>∃xs x,iN K H a xs/\xs[i]? =some x,fun i H x H'=>H'=H/\∀xs,iN K H a xs->xs[i]? =some x,fun i H=>∃xs,iN K H a xs/\xs.length<=i⟩
def rq(lo:Int)(n:Nat):It:=⟨fun i _=>i<n,fun i H x H'=>H'=H/\x=.int (lo+i),fun i _=>n<=i⟩
theorem VV{P:Program}{w:World}{K:PySem.W.Frag}{tg:Expr}(a it:Addr):pP P w K tg (sX K a) [it] it (fun i h=>h.IsListIter it a i) where
 mem:=by simp
 obj:=fun i h st b hb=>by
  have e:b=it:=by simpa using hb
  subst e;obtain⟨o,e,c,d⟩:=st;exact⟨o,e,fun v z=>by rw[d] at z;cases z⟩
 keep:=fun i h h' st k=>st.at fun o e=>k it (by simp) o e
 item:=by
  intro X hP hw hK hc i fL s σ H E I hf st hg;subst hP hw hK;obtain⟨xs,x,hq,hx⟩:=hg;obtain⟨fU,rv,p,hz⟩:=I.list hq;obtain⟨u,hu,ru⟩:=rv.get hx;obtain⟨f0,f1,f2,f3,f4,f5⟩:=hf it (by simp);refine wpAny_pyNext_list_item st p.isList (x:=u) (by simpa using hu) fun h' mm sb=> ?_
  have I1:Inv X fL σ H {s with heap:=h'}:=I.turned (t':=s.toks) (fun b o hb e=>(sb.2 b hb).trans e) f0 f1 f3 f4 f5;obtain⟨o,e,c,d⟩:=id mm;exact⟨u,Z,wc (s:={s with heap:=h'}) e c d (by decide) ⟨x,H,I1,ru,⟨Z,fun ys hy=>by rw[I.yb hy hq];exact hx⟩,mm,fun b hb=>(hf b hb).1⟩⟩
 done:=by
  intro X hP hw hK hc i fL s σ H E I hf st hg;subst hP hw hK;obtain⟨xs,hq,hx⟩:=hg;obtain⟨fU,rv,p,hz⟩:=I.list hq;obtain⟨f0,f1,f2,f3,f4,f5⟩:=hf it (by simp);have hl:=rv.length;exact wpAny_pyNext_list_end (I.ok.hd hc) st p.isList (by simp;omega) fun h' eb=>⟨Z,I.turned (t':=s.toks) (fun b o hb e=>eb b o hb e) f0 f1 f3 f4 f5⟩
 self:=fun _ _ _ _ _ st h=>wpAny_pyIter_listiter st h
theorem U8{P:Program}{w:World}{K:PySem.W.Frag}{tg:Expr}(a it:Addr):pP P w K tg (sY K a) [it] it (fun i h=>h.IsTupleIter it a i) where
 mem:=by simp
 obj:=fun i h st b hb=>by
  have e:b=it:=by simpa using hb
  subst e;obtain⟨o,e,c,d⟩:=st;exact⟨o,e,fun v z=>by rw[d] at z;cases z⟩
 keep:=fun i h h' st k=>st.at fun o e=>k it (by simp) o e
 item:=by
  intro X hP hw hK hc i fL s σ H E I hf st hg;subst hP hw hK;obtain⟨xs,x,hq,hx⟩:=hg;obtain⟨fU,rv,p,hz⟩:=I.tuple hq;obtain⟨u,hu,ru⟩:=rv.get hx;obtain⟨f0,f1,f2,f3,f4,f5⟩:=hf it (by simp);refine wpAny_pyNext_tuple_item st (show s.heap.IsTuple a fU.toArray from p) (x:=u) (by simpa using hu) fun h' mm sb=> ?_
  have I1:Inv X fL σ H {s with heap:=h'}:=I.turned (t':=s.toks) (fun b o hb e=>(sb.2 b hb).trans e) f0 f1 f3 f4 f5;obtain⟨o,e,c,d⟩:=id mm;exact⟨u,Z,wc (s:={s with heap:=h'}) e c d (by decide) ⟨x,H,I1,ru,⟨Z,fun ys hy=>by rw[I.L1 hy hq];exact hx⟩,mm,fun b hb=>(hf b hb).1⟩⟩
 done:=by
  intro X hP hw hK hc i fL s σ H E I hf st hg;subst hP hw hK;obtain⟨xs,hq,hx⟩:=hg;obtain⟨fU,rv,p,hz⟩:=I.tuple hq;obtain⟨f0,f1,f2,f3,f4,f5⟩:=hf it (by simp);have hl:=rv.length;exact wpAny_pyNext_tuple_end (I.ok.hd hc) st (show s.heap.IsTuple a fU.toArray from p) (by simp;omega) fun h' eb=>⟨Z,I.turned (t':=s.toks) (fun b o hb e=>eb b o hb e) f0 f1 f3 f4 f5⟩
 self:=fun _ _ _ _ _ st h=>wpAny_pyIter_tupleiter st h
theorem U9{P:Program}{w:World}{K:PySem.W.Frag}{tg:Expr}(it:Addr)(lo:Int)(n:Nat):pP P w K tg (rq lo n) [it] it (fun i h=>IsRangeIter h it (lo+(i:Nat)*1) ((n:Int)-(i:Nat)) 1) where
 mem:=by simp
 obj:=fun i h st b hb=>by
  have e:b=it:=by simpa using hb
  subst e
  exact⟨_,st,fun v z=>by
   have z':Data.fields _=Data.cell v:=z;cases z'⟩
 keep:=fun i h h' st k=>k it (by simp) _ st
 item:=by
  intro X hP hw hK hc i fL s σ H E I hf st hg;subst hP hw hK;obtain⟨f0,f1,f2,f3,f4,f5⟩:=hf it (by simp);have W:=Walks.range (prog:=X.prog) (w:=X.w) (I.ok.hd hc) it lo 1 n;refine W.item i s _ _ hg st fun v h' tk hv mm kk=> ?_
  obtain⟨t,rfl⟩:=hv;have I1:Inv X fL σ H {s with heap:=h',toks:=tk}:=I.turned (fun b o hb e=>kk b o (by simpa using hb) e) f0 f1 f3 f4 f5;refine⟨_,Z,wc (s:={s with heap:=h',toks:=tk}) (n:="range_iterator") mm Z Z (by decide) ⟨.int (lo+i),H,I1,⟨t,?_⟩,⟨Z,Z⟩,mm,fun b hb=>(hf b hb).1⟩⟩;rw[Int.mul_one]
 done:=by
  intro X hP hw hK hc i fL s σ H E I hf st hg;subst hP hw hK;obtain⟨f0,f1,f2,f3,f4,f5⟩:=hf it (by simp);exact wpAny_pyNext_range_end (I.ok.hd hc) st (by have:n<=i:=hg;omega) fun h' eb=>⟨Z,I.turned (t':=s.toks) (fun b o hb e=>eb b o hb e) f0 f1 f3 f4 f5⟩
 self:=fun _ _ _ _ _ st h=>wpAny_pyIter_rangeiter st h
section
variable {X:Cx} {tg:Expr}
def aaa(K:PySem.W.Frag)(tl:TE):TI:=fun σ H R=>tl σ H fun x H1=>∃a,x=.ref a/\(∃xs,fR K H1 a xs)/\R (sX K a) H1
def aa0(K:PySem.W.Frag)(tl:TE):TI:=fun σ H R=>tl σ H fun x H1=>∃a,x=.ref a/\(∃xs,iN K H1 a xs)/\R (sY K a) H1
theorem ma{l:Expr}{tl:TE}(hl:PE X l tl):PI X tg l (aaa X.K tl):=by
 intro fL s σ H R I h;refine gm (hl fL s σ H _ I h) fun v s1 ⟨x,H1,I1,r1,q1⟩=> ?_
 obtain⟨a,e,⟨xs,hq⟩,q⟩:=q1;subst e;cases r1;obtain⟨fU,rv,p,hz⟩:=I1.list hq;refine dR p.isList ?_;refine⟨s1.heap.objs.size,[s1.heap.objs.size],_,_,H1,Z,I1.kept (t':=s1.toks) fun b o e=>aC _ e,VV a _,⟨_,aO _ Z,Z,Z⟩,fun b hb=> ?_,q⟩;have e:b=s1.heap.objs.size:=by simpa using hb
 subst e;exact I1.rh (aA _) (I1.gh.fresh (aA _))
theorem GG{l:Expr}{tl:TE}(hl:PE X l tl):PI X tg l (aa0 X.K tl):=by
 intro fL s σ H R I h;refine gm (hl fL s σ H _ I h) fun v s1 ⟨x,H1,I1,r1,q1⟩=> ?_
 obtain⟨a,e,⟨xs,hq⟩,q⟩:=q1;subst e;cases r1;obtain⟨fU,rv,p,hz⟩:=I1.tuple hq;refine eQ (show s1.heap.IsTuple a fU.toArray from p) ?_;refine⟨s1.heap.objs.size,[s1.heap.objs.size],_,_,H1,Z,I1.kept (t':=s1.toks) fun b o e=>aC _ e,U8 a _,⟨_,aO _ Z,Z,Z⟩,fun b hb=> ?_,q⟩;have e:b=s1.heap.objs.size:=by simpa using hb
 subst e;exact I1.rh (aA _) (I1.gh.fresh (aA _))
theorem W0{fL:List (Addr×Obj)}{σ:St}{H:Hp}{s:Shared}{R:It->Hp->Prop}{E:Value->Shared->Prop}{lo hi:Int}{t u v:Tok}{tk:Nat}(I:Inv X fL σ H s)(h1: -(2^62)<=lo)(h2:lo<2^62)(h3: -(2^62)<=hi)(h4:hi<2^62)
 (q:R (rq lo (hi-lo).toNat) H):wpAny (model X.prog X.w) X.A (pyIter (.ref s.heap.objs.size)) (BL X fL σ tg R) E {s with heap:=s.heap.push {cls:=.type "range",data:=.fields #[.int lo t,.int hi u,.int 1 v]},toks:=tk}:=by
 refine wpAny_pyIter_range (IsRange.new ..) (small_one h1 h2 h3 h4) ?_;have I1:Inv X fL σ H {s with heap:=s.heap.push {cls:=.type "range",data:=.fields #[.int lo t,.int hi u,.int 1 v]},toks:=tk}:=I.kept fun b o e=>aC _ e
 refine⟨(s.heap.push {cls:=.type "range",data:=.fields #[.int lo t,.int hi u,.int 1 v]}).objs.size,[(s.heap.push {cls:=.type "range",data:=.fields #[.int lo t,.int hi u,.int 1 v]}).objs.size],_,_,H,Z,
  I1.kept (t':=tk) fun b o e=>aC _ e,U9 _ lo (hi-lo).toNat,?_,fun b hb=> ?_,q⟩
 ·have e1:lo+((0:Nat):Int)*1=lo:=by simp
  have e2:(((hi-lo).toNat:Nat):Int)-((0:Nat):Int)=Builtin.Range.rangeSize lo hi 1:=by rw[rangeSize_one];split<;>omega
  show IsRangeIter _ _ (lo+((0:Nat):Int)*1) ((((hi-lo).toNat:Nat):Int)-((0:Nat):Int)) 1;rw[e1,e2];exact aO _ Z
 ·have e:b=(s.heap.push {cls:=.type "range",data:=.fields #[.int lo t,.int hi u,.int 1 v]}).objs.size:=by simpa using hb
  subst e;exact I1.rh (aA _) (I1.gh.fresh (aA _))
def aab(ta:TA):TI:=fun σ H R=>ta σ H fun vs H1=>∃j:Int,vs=[.int j]/\ -(2^62)<=j/\j<2^62/\R (rq 0 j.toNat) H1
theorem xU{a:Expr}{ta:TA}{p pos:Pos}(hg:Gl X "range")(hm:X.mg "range"=none)(ha:PA X [a] ta)(hs:starEach [a] X.env=[(false,eval a X.env)]:=by rfl):PI X tg (.Call (.Name "range" p) [a] [] pos) (aab ta):=by
 intro fL s σ H R I h;refine Call_ (qr I hg hm boot_range (cp (gm (ha pos fL s σ H _ I h) fun us s1 ⟨vs,H1,I1,r1,q1⟩=> ?_) hs Z));obtain⟨j,e,q1,q2,q⟩:=q1;subst e;cases r1 with
 |cons r rr=>
  cases rr;obtain⟨t,rfl⟩:=r;exact call_range_1 (W0 I1 (by omega) (by omega) q1 q2 (by simpa using q))
def aa1(wi:TI)(g:TG)(tb:TS):TS:=fun D σ H=>wi σ H fun J H1=>∃W:Nat->Nat->St->Hp->Prop,(∃m,W 0 m σ H1)/\∀i m σ H,W i m σ H->
 (J.stop i H/\D.nx σ H)\/(J.go i H/\∃N:St->Hp->Prop,(∀gw H',N gw H'->∃m',m'<m/\W (i+1) m' gw H')/\∀x H',J.mG i H x H'->g x σ H' fun gv H2=>tb {D with nx:=N,ct:=N,bk:=D.nx} gv H2)
def yi(fp:List Addr)(h:Heap):List (Addr×Obj):=fp.filterMap fun b=>(h.get? b).map fun o=>(b,o)
theorem Ex{fp:List Addr}{h:Heap}{b:Addr}{o:Obj}(hb:b∈fp)(e:h.get? b=some o):(b,o)∈yi fp h:=ci.mpr ⟨b,hb,by rw[e];rfl⟩
theorem VW{fp:List Addr}{h:Heap}{p:Addr×Obj}(hp:p∈yi fp h):p.1∈fp/\h.get? p.1=some p.2:=by
 obtain⟨b,hb,e⟩:=ci.mp hp;cases q:h.get? b with
 |none=>rw[q] at e;cases e
 |some o=>
  rw[q] at e;have e':(b,o)=p:=af e;subst e';exact⟨hb,q⟩
theorem Inv.pinned{fL:List (Addr×Obj)}{σ:St}{H:Hp}{s:Shared}{fp:List Addr}(I:Inv X fL σ H s)(hf:∀b∈fp,oP X fL H b)(ho:∀b∈fp,∃o,s.heap.get? b=some o/\∀v,o.data≠ .cell v):Inv X (fL++yi fp s.heap) σ H s:=
 I.Ng fun p hp=>(aG.mp hp).elim (fun z=>I.pin p (bn _ z)) fun z=>by
   obtain⟨hb,e⟩:=VW z;obtain⟨f0,f1,f2,_⟩:=hf p.1 hb;obtain⟨o,e',d⟩:=ho p.1 hb;rw[e] at e';cases e';exact⟨e,f0,f1,f2,d⟩
theorem Inv.Av{fL pl:List (Addr×Obj)}{σ:St}{H:Hp}{s:Shared}(I:Inv X (fL++pl) σ H s):Inv X fL σ H s:=I.Ng fun p hp=>I.pin p (bn _ (dm _ hp))
theorem lE{jS:Expr}{body:List Stmt}{wi:TI}{g:TG}{tb:TS}{pos:Pos}(hp:PassesOwn (model X.prog X.w) X.A X.env X.xe)(hc:X.calm=true)(hi:PI X tg jS wi)(hg:PG X tg g)(hb:lZ X body tb)
 (hs:∀x,foldedSetIterable jS X.env x=pure x:=by intro _;rfl):PS X (.For tg jS body [] pos) (aa1 wi g tb):=by
 intro fL s σ H D I h;refine wpAny_For (gm (hi fL s σ H _ I h) fun v s1 h1=>gm h1 fun HB s2 h2=> ?_) hs;obtain⟨it,fp,tn,J,H2,e,I2,T,BM,f2,W,⟨m0,w0⟩,uR⟩:=h2;subst e;have uS:∀{H':Hp},(∀b∈fp,H' b=none)->∀b∈fp,oP X fL H' b:=fun hn b hb=>⟨hn b hb,(f2 b hb).2⟩
 refine codeAny_forLoop_any (fun n s'=>∃i gw H',Inv X fL gw H' s'/\tn i s'.heap/\(∀b∈fp,H' b=none)/\W i n gw H') ?_ m0 ⟨0,σ,H2,I2,BM,fun b hb=>(f2 b hb).1,w0⟩;rintro n s3 ⟨i,pU,H3,I3,BN,BO,w3⟩;rcases uR i n pU H3 w3 with⟨stop,qn⟩|⟨go,N,hN,step⟩
 ·refine da hp (gm (T.done X Z Z Z hc i fL s3 pU H3 X.xe I3 (uS BO) BN stop) fun r s4 ⟨hr,I4⟩=> ?_);subst hr;exact dI ⟨pU,H3,I4,qn⟩
 ·refine da hp (gm (T.item X Z Z Z hc i fL s3 pU H3 X.xe I3 (uS BO) BN go) fun r s4 ⟨u,hr,h4⟩=> ?_);subst hr;refine da hp (gm h4 fun _ s5 ⟨x,H5,I5,r5,y5,wQ,fr5⟩=> ?_);have I5':=I5.pinned (uS fr5) (T.obj _ _ wQ);refine da hp (gm (hg _ s5 pU H5 x u _ I5' r5 (step x H5 y5)) fun _ s6 ⟨σ6,H6,I6,q6⟩=> ?_);refine da hp (gm (hb _ s6 σ6 H6 _ I6 q6) fun f s7 q7=> ?_)
  have again:∀{pV:St} {H7:Hp},Inv X (fL++yi fp s5.heap) pV H7 s7->N pV H7->∃m,m<n/\∃i gw H',Inv X fL gw H' s7/\tn i s7.heap/\(∀b∈fp,H' b=none)/\W i m gw H':=fun{pV H7} I7 n7=>by
   obtain⟨m',hm,w7⟩:=hN pV H7 n7;refine⟨m',hm,i+1,pV,H7,I7.Av,T.keep _ _ _ wQ fun b hb o e=>(I7.pin (b,o) (bn _ (bn _ (Ex hb e)))).1,fun b hb=> ?_,w7⟩;obtain⟨o,e,d⟩:=T.obj _ _ wQ b hb;exact(I7.pin (b,o) (bn _ (bn _ (Ex hb e)))).2.1
  cases f with
  |next=>obtain⟨pV,H7,I7,n7⟩:=q7;exact again I7 n7
  |cont=>obtain⟨pV,H7,I7,n7⟩:=q7;exact again I7 n7
  |brk=>obtain⟨pV,H7,I7,q7⟩:=q7;exact⟨pV,H7,I7.Av,q7⟩
  |ret v=>obtain⟨x7,pV,H7,I7,r7,q7⟩:=q7;exact⟨x7,pV,H7,I7.Av,r7,q7⟩
end
theorem qW{K:PySem.W.Frag}{a:Addr}{xs:List V}{g:TG}{tb:TS}{D:oO}{σ:St}{H:Hp}(Pv:Nat->St->Hp->Prop)(h0:Pv 0 σ H)(hl:∀i σ H,i<=xs.length->Pv i σ H->fR K H a xs)
 (hs:∀i x σ H,xs[i]? =some x->Pv i σ H->g x σ H fun gv H2=>tb {D with nx:=Pv (i+1),ct:=Pv (i+1),bk:=D.nx} gv H2) (hd:∀σ H,Pv xs.length σ H->D.nx σ H):
 ∃W:Nat->Nat->St->Hp->Prop,(∃m,W 0 m σ H)/\∀i m σ H,W i m σ H->
  ((sX K a).stop i H/\D.nx σ H)\/((sX K a).go i H/\∃N:St->Hp->Prop,(∀gw H',N gw H'->∃m',m'<m/\W (i+1) m' gw H')/\∀x H',(sX K a).mG i H x H'->g x σ H' fun gv H2=>tb {D with nx:=N,ct:=N,bk:=D.nx} gv H2):=by
 refine⟨fun i m σ H=>m=xs.length-i/\i<=xs.length/\Pv i σ H,⟨xs.length,by simp,aN _,h0⟩,?_⟩;rintro i m σ H ⟨rfl,hi,p⟩;have q:=hl i σ H hi p
 by_cases hZ:i<xs.length
 ·refine .inr ⟨⟨xs,xs[i],q,by simp[hZ]⟩,Pv (i+1),fun gw H' p'=>⟨xs.length-(i+1),by omega,Z,hZ,p'⟩,fun x H' y=> ?_⟩;obtain⟨e,y⟩:=y;subst e;exact hs i x σ _ (y xs q) p
 ·have e:i=xs.length:=by omega
  subst e;exact .inl ⟨⟨xs,q,aA _⟩,hd σ H p⟩
theorem Nj{K:PySem.W.Frag}{a:Addr}{xs:List V}{g:TG}{tb:TS}{D:oO}{σ:St}{H:Hp}(Pv:Nat->St->Hp->Prop)(h0:Pv 0 σ H)(hl:∀i σ H,i<=xs.length->Pv i σ H->iN K H a xs)
 (hs:∀i x σ H,xs[i]? =some x->Pv i σ H->g x σ H fun gv H2=>tb {D with nx:=Pv (i+1),ct:=Pv (i+1),bk:=D.nx} gv H2) (hd:∀σ H,Pv xs.length σ H->D.nx σ H):
 ∃W:Nat->Nat->St->Hp->Prop,(∃m,W 0 m σ H)/\∀i m σ H,W i m σ H->
  ((sY K a).stop i H/\D.nx σ H)\/((sY K a).go i H/\∃N:St->Hp->Prop,(∀gw H',N gw H'->∃m',m'<m/\W (i+1) m' gw H')/\∀x H',(sY K a).mG i H x H'->g x σ H' fun gv H2=>tb {D with nx:=N,ct:=N,bk:=D.nx} gv H2):=by
 refine⟨fun i m σ H=>m=xs.length-i/\i<=xs.length/\Pv i σ H,⟨xs.length,by simp,aN _,h0⟩,?_⟩;rintro i m σ H ⟨rfl,hi,p⟩;have q:=hl i σ H hi p
 by_cases hZ:i<xs.length
 ·refine .inr ⟨⟨xs,xs[i],q,by simp[hZ]⟩,Pv (i+1),fun gw H' p'=>⟨xs.length-(i+1),by omega,Z,hZ,p'⟩,fun x H' y=> ?_⟩;obtain⟨e,y⟩:=y;subst e;exact hs i x σ _ (y xs q) p
 ·have e:i=xs.length:=by omega
  subst e;exact .inl ⟨⟨xs,q,aA _⟩,hd σ H p⟩
theorem VX{lo:Int}{n:Nat}{g:TG}{tb:TS}{D:oO}{σ:St}{H:Hp}(Pv:Nat->St->Hp->Prop)(h0:Pv 0 σ H)
 (hs:∀i σ H,i<n->Pv i σ H->g (.int (lo+i)) σ H fun gv H2=>tb {D with nx:=Pv (i+1),ct:=Pv (i+1),bk:=D.nx} gv H2) (hd:∀σ H,Pv n σ H->D.nx σ H):
 ∃W:Nat->Nat->St->Hp->Prop,(∃m,W 0 m σ H)/\∀i m σ H,W i m σ H->
  ((rq lo n).stop i H/\D.nx σ H)\/((rq lo n).go i H/\∃N:St->Hp->Prop,(∀gw H',N gw H'->∃m',m'<m/\W (i+1) m' gw H')/\∀x H',(rq lo n).mG i H x H'->g x σ H' fun gv H2=>tb {D with nx:=N,ct:=N,bk:=D.nx} gv H2):=by
 refine⟨fun i m σ H=>m=n-i/\i<=n/\Pv i σ H,⟨n,by simp,aN _,h0⟩,?_⟩;rintro i m σ H ⟨rfl,hi,p⟩
 by_cases hZ:i<n
 ·refine .inr ⟨hZ,Pv (i+1),fun gw H' p'=>⟨n-(i+1),by omega,Z,hZ,p'⟩,fun x H' y=> ?_⟩;obtain⟨e,y⟩:=y;subst e y;exact hs i σ _ hZ p
 ·have e:i=n:=by omega
  subst e;exact .inl ⟨aA _,hd σ H p⟩
theorem ME{c:TT}{tb:TS}{D:oO}{σ:St}{H:Hp}(Pv:St->Hp->Prop)(μ:St->Hp->Nat)(h0:Pv σ H)
 (hs:∀σ H,Pv σ H->c σ H fun b H1=>if b=true then tb {D with nx:=fun gw H'=>Pv gw H'/\μ gw H'<μ σ H,ct:=fun gw H'=>Pv gw H'/\μ gw H'<μ σ H,bk:=D.nx} σ H1 else D.nx σ H1)
 (mono:∀σ H Q Q',(∀b H1,Q b H1->Q' b H1)->c σ H Q->c σ H Q'):N6 c tb D σ H:=by
 refine⟨fun m σ H=>m=μ σ H/\Pv σ H,⟨_,Z,h0⟩,?_⟩;rintro m σ H ⟨rfl,p⟩;refine mono σ H _ _ (fun b H1 q=> ?_) (hs σ H p);cases b with
 |true=>exact⟨_,fun gw H' ⟨p',l⟩=>⟨_,l,Z,p'⟩,q⟩
 |false=>exact q
abbrev R2:=V->V->Hp->VK->Prop
def jo(X:Cx)(f:Value->Value->Sem Value)(r:R2):Prop:=
 ∀(fL:List (Addr×Obj)) (s:Shared) (σ:St) (H:Hp) (x y:V) (v u:Value) (Q:VK),Inv X fL σ H s->RelV x v->RelV y u->r x y H Q->
  wpAny (model X.prog X.w) X.A (f v u) (EP X fL σ Q) X.xe s
def HC(X:Cx)(f:Value->Sem Value)(r:V->Hp->VK->Prop):Prop:=
 ∀(fL:List (Addr×Obj)) (s:Shared) (σ:St) (H:Hp) (x:V) (v:Value) (Q:VK),Inv X fL σ H s->RelV x v->r x H Q->
  wpAny (model X.prog X.w) X.A (f v) (EP X fL σ Q) X.xe s
def mP(X:Cx)(f:Value)(r:List V->Hp->VK->Prop):Prop:=
 ∀(fL:List (Addr×Obj)) (s:Shared) (σ:St) (H:Hp) (xs:List V) (us:List Value) (Q:VK),Inv X fL σ H s->gF xs us->r xs H Q->
  wpAny (model X.prog X.w) X.A (call f us) (EP X fL σ Q) X.xe s
def kz(r:R2)(ta tb:TE):TE:=fun σ H Q=>ta σ H fun x H1=>tb σ H1 fun y H2=>r x y H2 Q
def tUn(r:V->Hp->VK->Prop)(ta:TE):TE:=fun σ H Q=>ta σ H fun x H1=>r x H1 Q
def rI(C:Int->Int->Prop)(g:Int->Int->V):R2:=fun x y H Q=>∃i j,x=.int i/\y=.int j/\C i j/\Q (g i j) H
def kX(g:Int->Int->V):R2:=fun x y H Q=>∃i j,x=.int i/\y=.int j/\Q (g i j) H
def rU(g:Int->V):V->Hp->VK->Prop:=fun x H Q=>∃i,x=.int i/\Q (g i) H
section
variable {X:Cx} {a b c:Expr} {ta tb tc:TE} {pos:Pos}
theorem Hf(ha:PE X a ta)(hb:PE X b tb){fL:List (Addr×Obj)}{s:Shared}{σ:St}{H:Hp}{R:V->V->Hp->Prop}(I:Inv X fL σ H s)
 (h:ta σ H fun x H1=>tb σ H1 fun y H2=>R x y H2) {Q:Value->Shared->Prop} {f:Value->Value->Sem Value}
 (hf:∀v u s2 x y H2,Inv X fL σ H2 s2->RelV x v->RelV y u->R x y H2->wpAny (model X.prog X.w) X.A (f v u) Q X.xe s2):
 wpAny (model X.prog X.w) X.A (eval a X.env) (fun v iK=>wpAny (model X.prog X.w) X.A (eval b X.env) (fun u jM=>wpAny (model X.prog X.w) X.A (f v u) Q X.xe jM) X.xe iK) X.xe s:=by
 refine gm (ha fL s σ H _ I h) fun v s1 ⟨x,H1,I1,r1,q1⟩=> ?_
 refine gm (hb fL s1 σ H1 _ I1 q1) fun u s2 ⟨y,H2,I2,r2,q2⟩=> ?_
 exact hf v u s2 x y H2 I2 r1 r2 q2
theorem gA{op:Operator}{r:R2}(ho:jo X (binaryOp op) r)(ha:PE X a ta)(hb:PE X b tb):PE X (.BinOp a op b pos) (kz r ta tb):=by
 intro fL s σ H Q I h;exact wpAny_BinOp (Hf ha hb I h fun v u s2 x y H2 I2 rx ry q=>ho fL s2 σ H2 x y v u Q I2 rx ry q)
theorem qA{op:UnaryOp}{r:V->Hp->VK->Prop}(ho:HC X (unaryOp op) r)(ha:PE X a ta):PE X (.UnaryOp op a pos) (tUn r ta):=by
 intro fL s σ H Q I h;exact UnaryOp_ (gm (ha fL s σ H _ I h) fun v s1 ⟨x,H1,I1,r1,q1⟩=>ho fL s1 σ H1 x v Q I1 r1 q1)
theorem BP{f:Value->Value->Sem Value}{C:Int->Int->Prop}{g:Int->Int->Int}
 (rule:∀(i j:Int) (t u:Tok) (s:Shared) (Q:Value->Shared->Prop) (E:Value->Shared->Prop),C i j->Q (.int (g i j) s.toks) {s with toks:=s.toks+1}->wpAny (model X.prog X.w) X.A (f (.int i t) (.int j u)) Q E s):
 jo X f (rI C fun i j=>.int (g i j)):=by
 intro fL s σ H x y v u Q I rx ry h;obtain⟨i,j,rfl,rfl,hc,q⟩:=h;obtain⟨t,rfl⟩:=rx;obtain⟨t',rfl⟩:=ry;exact rule i j t t' s _ _ hc ⟨.int (g i j),H,I.tok _,⟨_,Z⟩,q⟩
theorem Bt{f:Value->Value->Sem Value}{g:Int->Int->Int}
 (rule:∀(i j:Int) (t u:Tok) (s:Shared) (Q:Value->Shared->Prop) (E:Value->Shared->Prop),Q (.int (g i j) s.toks) {s with toks:=s.toks+1}->wpAny (model X.prog X.w) X.A (f (.int i t) (.int j u)) Q E s):
 jo X f (kX fun i j=>.int (g i j)):=by
 intro fL s σ H x y v u Q I rx ry h;obtain⟨i,j,rfl,rfl,q⟩:=h;obtain⟨t,rfl⟩:=rx;obtain⟨t',rfl⟩:=ry;exact rule i j t t' s _ _ ⟨.int (g i j),H,I.tok _,⟨_,Z⟩,q⟩
theorem Bu{f:Value->Value->Sem Value}{g:Int->Int->Bool}
 (rule:∀(i j:Int) (t u:Tok) (s:Shared) (Q:Value->Shared->Prop) (E:Value->Shared->Prop),Q (.bool (g i j)) s->wpAny (model X.prog X.w) X.A (f (.int i t) (.int j u)) Q E s):
 jo X f (kX fun i j=>.bl (g i j)):=by
 intro fL s σ H x y v u Q I rx ry h;obtain⟨i,j,rfl,rfl,q⟩:=h;obtain⟨t,rfl⟩:=rx;obtain⟨t',rfl⟩:=ry;exact rule i j t t' s _ _ ⟨.bl (g i j),H,I,Z,q⟩
def OR(i j:Int):Prop:=0<j/\j<1073741824
def Hg(i j:Int):Prop:=(-(2^64)<i/\i<2^64)\/(-(2^64)<j/\j<2^64)
theorem Hg.ok{i j:Int}(h:Hg i j):IntMulOk i j:=by
 rcases h with⟨h1,h2⟩|⟨h1,h2⟩
 ·exact .of_left (intBits_le_64 h1 h2)
 ·exact .of_right (intBits_le_64 h1 h2)
theorem Va(k:Nat):(0:Int)<=2^k:=by
 rw[two_pow_cast];exact Int.natCast_nonneg _
theorem jg:jo X (binaryOp .Add) (kX fun i j=>.int (i+j)):=Bt fun _ _ _ _ _ _ _ q=>add_int q
theorem jK:jo X (binaryOp .Sub) (kX fun i j=>.int (i-j)):=Bt fun _ _ _ _ _ _ _ q=>sub_int q
theorem A4:jo X (binaryOp .Mult) (rI Hg fun i j=>.int (i*j)):=BP fun _ _ _ _ _ _ _ hc q=>mul_int q hc.ok
theorem vQ:jo X (binaryOp .FloorDiv) (rI OR fun i j=>.int (i/j)):=BP fun i j _ _ _ _ _ hc q=>by
 have h1:(0:Int)<j:=hc.1;have h2:j<1073741824:=hc.2;exact floordiv_int (by omega) (by rw[Int.fdiv_eq_ediv_of_nonneg i (by omega)];exact q) (.inl (PyProof.noPylong_small (by omega)))
theorem A5:jo X (binaryOp .Mod) (rI (fun _ j=>0<j) fun i j=>.int (i% j)):=BP fun i j _ _ _ _ _ hc q=>by
 have h1:(0:Int)<j:=hc;exact mod_int' (by omega) (by rw[Int.fmod_eq_emod_of_nonneg i (by omega)];exact q)
theorem Zg:jo X (binaryOp .RShift) (rI (fun _ j=>0<=j) fun i j=>.int (i/2^j.toNat)):=BP fun i j _ _ _ _ _ hc q=>
 rshift_int hc (by rw[Int.fdiv_eq_ediv_of_nonneg i (Va _)];exact q)
theorem Zh:jo X (binaryOp .BitAnd) (kX fun i j=>.int (Builtin.bitAnd i j)):=Bt fun _ _ _ _ _ _ _ q=>and_int q
theorem Zi:jo X (binaryOp .BitXor) (kX fun i j=>.int (Builtin.bitXor i j)):=Bt fun _ _ _ _ _ _ _ q=>xor_int q
theorem unI{f:Value->Sem Value}{g:Int->Int}
 (rule:∀(i:Int) (t:Tok) (s:Shared) (Q:Value->Shared->Prop) (E:Value->Shared->Prop),Q (.int (g i) s.toks) {s with toks:=s.toks+1}->wpAny (model X.prog X.w) X.A (f (.int i t)) Q E s):
 HC X f (rU fun i=>.int (g i)):=by
 intro fL s σ H x v Q I rx h;obtain⟨i,rfl,q⟩:=h;obtain⟨t,rfl⟩:=rx;exact rule i t s _ _ ⟨.int (g i),H,I.tok _,⟨_,Z⟩,q⟩
theorem qv:HC X (unaryOp .USub) (rU fun i=>.int (-i)):=unI fun _ _ _ _ _ q=>neg_int q
end
def OS:V->V->Bool
 |.gS,.gS=>true|.gS,.int _=>true|.int _,.gS=>true|.gS,.bl _=>true|.bl _,.gS=>true|.gS,.str _=>true|.str _,.gS=>true
 |.int _,.int _=>true|.bl _,.bl _=>true|.str _,.str _=>true|.nA _,.nA _=>true
 |.int _,.str _=>true|.str _,.int _=>true|.bl _,.str _=>true|.str _,.bl _=>true
 |_,_=>false
def HD:R2:=fun x y H Q=>OS x y=true/\Q (.bl (decide (x=y))) H
def Po:R2:=fun x y H Q=>OS x y=true/\Q (.bl (!decide (x=y))) H
theorem Nk{i j:Int}:decide (V.int i=V.int j)=(i==j):=by
 rw[bK];simp
theorem N7{i j:Bool}:decide (V.bl i=V.bl j)=(i==j):=by
 rw[bK];simp
theorem AN{i j:Str}:decide (V.str i=V.str j)=(i==j):=by
 rw[bK];simp
theorem Nl{i j:Array UInt8}:decide (V.nA i=V.nA j)=(i.toList==j.toList):=by
 rw[bK];cases i;cases j;simp
section
variable {X:Cx} {a b c:Expr} {ta tb tc:TE} {pos:Pos}
theorem jr{fL:List (Addr×Obj)}{σ:St}{H:Hp}{s:Shared}{Q:VK}{k k':Bool}(I:Inv X fL σ H s)(q:Q (.bl k) H)(e:k=k'):EP X fL σ Q (.bool k') s:=by
 subst e;exact⟨.bl k,H,I,Z,q⟩
theorem nj:jo X (compareOp .Eq) HD:=by
 intro fL s σ H x y v u Q I rx ry h;obtain⟨hs,q⟩:=h;cases x with
 |gS=>
  cases rx;cases y with
  |gS=>cases ry;exact PySem.EqNone.eq_none_none (jr I q (by simp))
  |bl j=>cases ry;exact PySem.EqNone.eq_none_bool (jr I q (by simp))
  |int j=>obtain⟨t',rfl⟩:=ry;exact PySem.EqNone.eq_none_int (jr I q (by simp))
  |str j=>obtain⟨t',rfl⟩:=ry;exact PySem.EqNone.eq_none_str (jr I q (by simp))
  |_=>exact absurd (show false=true from hs) aQ
 |bl i=>
  cases rx;cases y with
  |gS=>cases ry;exact PySem.EqNone.eq_bool_none (jr I q (by simp))
  |bl j=>cases ry;exact eq_bool (jr I q N7)
  |str j=>obtain⟨t',rfl⟩:=ry;exact PySem.EqMixed.eq_bool_str (jr I q (by simp))
  |_=>exact absurd (show false=true from hs) aQ
 |int i=>
  obtain⟨t,rfl⟩:=rx;cases y with
  |gS=>cases ry;exact PySem.EqNone.eq_int_none (jr I q (by simp))
  |int j=>obtain⟨t',rfl⟩:=ry;exact eq_int (jr I q Nk)
  |str j=>obtain⟨t',rfl⟩:=ry;exact PySem.EqMixed.eq_int_str (jr I q (by simp))
  |_=>exact absurd (show false=true from hs) aQ
 |str i=>
  obtain⟨t,rfl⟩:=rx;cases y with
  |gS=>cases ry;exact PySem.EqNone.eq_str_none (jr I q (by simp))
  |bl j=>cases ry;exact PySem.EqMixed.eq_str_bool (jr I q (by simp))
  |int j=>obtain⟨t',rfl⟩:=ry;exact PySem.EqMixed.eq_str_int (jr I q (by simp))
  |str j=>obtain⟨t',rfl⟩:=ry;exact eq_str (jr I q AN)
  |_=>exact absurd (show false=true from hs) aQ
 |nA i=>
  obtain⟨t,rfl⟩:=rx;cases y with
  |nA j=>obtain⟨t',rfl⟩:=ry;exact PySem.W.eq_bytes (jr I q Nl)
  |_=>exact absurd (show false=true from hs) aQ
 |_=>cases y<;>exact absurd (show false=true from hs) aQ
theorem rc:jo X (compareOp .NotEq) Po:=by
 intro fL s σ H x y v u Q I rx ry h;obtain⟨hs,q⟩:=h;cases x with
 |gS=>
  cases rx;cases y with
  |gS=>cases ry;exact PySem.EqNone.ne_none_none (jr I q (by simp))
  |bl j=>cases ry;exact PySem.EqNone.ne_none_bool (jr I q (by simp))
  |int j=>obtain⟨t',rfl⟩:=ry;exact PySem.EqNone.ne_none_int (jr I q (by simp))
  |str j=>obtain⟨t',rfl⟩:=ry;exact PySem.EqNone.ne_none_str (jr I q (by simp))
  |_=>exact absurd (show false=true from hs) aQ
 |bl i=>
  cases rx;cases y with
  |gS=>cases ry;exact PySem.EqNone.ne_bool_none (jr I q (by simp))
  |bl j=>cases ry;exact ne_bool (jr I q (congrArg not N7))
  |str j=>obtain⟨t',rfl⟩:=ry;exact PySem.EqMixed.ne_bool_str (jr I q (by simp))
  |_=>exact absurd (show false=true from hs) aQ
 |int i=>
  obtain⟨t,rfl⟩:=rx;cases y with
  |gS=>cases ry;exact PySem.EqNone.ne_int_none (jr I q (by simp))
  |int j=>obtain⟨t',rfl⟩:=ry;exact ne_int (jr I q (congrArg not Nk))
  |str j=>obtain⟨t',rfl⟩:=ry;exact PySem.EqMixed.ne_int_str (jr I q (by simp))
  |_=>exact absurd (show false=true from hs) aQ
 |str i=>
  obtain⟨t,rfl⟩:=rx;cases y with
  |gS=>cases ry;exact PySem.EqNone.ne_str_none (jr I q (by simp))
  |bl j=>cases ry;exact PySem.EqMixed.ne_str_bool (jr I q (by simp))
  |int j=>obtain⟨t',rfl⟩:=ry;exact PySem.EqMixed.ne_str_int (jr I q (by simp))
  |str j=>obtain⟨t',rfl⟩:=ry;exact ne_str (jr I q (congrArg not AN))
  |_=>exact absurd (show false=true from hs) aQ
 |nA i=>
  obtain⟨t,rfl⟩:=rx;cases y with
  |nA j=>obtain⟨t',rfl⟩:=ry;exact PySem.W.ne_bytes (jr I q (congrArg not Nl))
  |_=>exact absurd (show false=true from hs) aQ
 |_=>cases y<;>exact absurd (show false=true from hs) aQ
theorem sD:jo X (compareOp .Lt) (kX fun i j=>.bl (decide (i<j))):=Bu fun _ _ _ _ _ _ _ q=>lt_int q
theorem ju:jo X (compareOp .LtE) (kX fun i j=>.bl (decide (i<=j))):=Bu fun _ _ _ _ _ _ _ q=>le_int q
theorem mQ:jo X (compareOp .Gt) (kX fun i j=>.bl (decide (j<i))):=Bu fun _ _ _ _ _ _ _ q=>gt_int q
theorem we:jo X (compareOp .GtE) (kX fun i j=>.bl (decide (j<=i))):=Bu fun _ _ _ _ _ _ _ q=>ge_int q
theorem ii(b:Expr){op:CmpOp}(h:op≠ .In:=by decide)(h2:op≠ .NotIn:=by decide):behindInMarks op b=false:=by
 have e1:(op==CmpOp.In)=false:=by cases op<;>first|rfl|exact absurd Z h
 have e2:(op==CmpOp.NotIn)=false:=by cases op<;>first|rfl|exact absurd Z h2
 cases b<;>simp[behindInMarks,e1,e2]
theorem si{op:CmpOp}{r:R2}(ho:jo X (compareOp op) r)(ha:PE X a ta)(hb:PE X b tb)(hm:behindInMarks op b=false):PE X (.Compare a [op] [b] pos) (kz r ta tb):=by
 intro fL s σ H Q I h;exact wpAny_Compare1 (Hf ha hb I h fun v u s2 x y H2 I2 rx ry q=>ho fL s2 σ H2 x y v u Q I2 rx ry q) hm
def sE(t:TE):TT:=fun σ H Q=>t σ H fun x H'=>∃k,x=.bl k/\Q k H'
theorem io{op:CmpOp}{r:R2}(ho:jo X (compareOp op) r)(ha:PE X a ta)(hb:PE X b tb)(hm:behindInMarks op b=false):PT X (.Compare a [op] [b] pos) (sE (kz r ta tb)):=by
 intro fL s σ H Q I h
 refine wpAny_isTrue_Compare1 (gm (ha fL s σ H _ I h) fun v s1 ⟨x,H1,I1,r1,q1⟩=>gm (hb fL s1 σ H1 _ I1 q1) fun u s2 ⟨y,H2,I2,r2,q2⟩=>
  gm (ho fL s2 σ H2 x y v u _ I2 r1 r2 q2) fun c s3 ⟨z,H3,I3,r3,k,e,q3⟩=> ?_) hm
 subst e;cases r3;exact bR ⟨H3,I3,q3⟩
def GH(r r':R2)(ta tb tc:TE):TE:=fun σ H Q=>ta σ H fun x H1=>tb σ H1 fun y H2=>r x y H2 fun z H3=>∃k,z=.bl k/\
 (if k=true then tc σ H3 fun w' H4=>r' y w' H4 Q else Q (.bl false) H3)
theorem MF{op u5:CmpOp}{r r':R2}(ho:jo X (compareOp op) r)(nB:jo X (compareOp u5) r')(ha:PE X a ta)(hb:PE X b tb)(hc:PE X c tc)
 (hm:lastMarks [op,u5] [b,c]=false:=by with_unfolding_all rfl):PE X (.Compare a [op,u5] [b,c] pos) (GH r r' ta tb tc):=by
 intro fL s σ H Q I h
 refine Compare_chain (gm (ha fL s σ H _ I h) fun v s1 ⟨x,H1,I1,r1,q1⟩=>chain_link (gm (hb fL s1 σ H1 _ I1 q1) fun u s2 ⟨y,H2,I2,r2,q2⟩=>
  gm (ho fL s2 σ H2 x y v u _ I2 r1 r2 q2) fun d s3 ⟨z,H3,I3,r3,k,e,q3⟩=> ?_)) hm
 subst e;cases r3;refine bR ?_;cases k with
 |false=>exact ite_ff ⟨.bl false,H3,I3,Z,q3⟩
 |true=>exact ite_tt (chain_last (gm (hc fL s3 σ H3 _ I3 q3) fun w' s4 ⟨z',H4,I4,r4,q4⟩=>nB fL s4 σ H4 y z' u w' Q I4 r2 r4 q4))
theorem ql{op u5:CmpOp}{r r':R2}(ho:jo X (compareOp op) r)(nB:jo X (compareOp u5) r')(ha:PE X a ta)(hb:PE X b tb)(hc:PE X c tc)
 (hm:lastMarks [op,u5] [b,c]=false:=by with_unfolding_all rfl):PT X (.Compare a [op,u5] [b,c] pos) (sE (GH r r' ta tb tc)):=by
 intro fL s σ H Q I h
 refine isTrue_chain (gm (ha fL s σ H _ I h) fun v s1 ⟨x,H1,I1,r1,q1⟩=>test_link (gm (hb fL s1 σ H1 _ I1 q1) fun u s2 ⟨y,H2,I2,r2,q2⟩=>
  gm (ho fL s2 σ H2 x y v u _ I2 r1 r2 q2) fun d s3 ⟨z,H3,I3,r3,k,e,q3⟩=> ?_)) hm
 subst e;cases r3;refine bR ?_;cases k with
 |false=>
  obtain⟨k',e',q'⟩:=q3;cases e';exact ite_ff ⟨H3,I3,q'⟩
 |true=>
  refine ite_tt (test_last (gm (hc fL s3 σ H3 _ I3 q3) fun w' s4 ⟨z',H4,I4,r4,q4⟩=>gm (nB fL s4 σ H4 y z' u w' _ I4 r2 r4 q4) fun d' s5 ⟨z2,H5,I5,r5,k2,e2,q5⟩=> ?_));subst e2;cases r5;exact bR ⟨H5,I5,q5⟩
theorem vV:(sizeLine:Nat)<2^63:=by rw[sizeLine_eq];decide
theorem Vb:jo X (binaryOp .Add) (fun x y H Q=>∃i j,x=.str i/\y=.str j/\i.length+j.length<=sizeLine/\Q (.str (i++j)) H):=by
 intro fL s σ H x y v u Q I rx ry h;obtain⟨i,j,rfl,rfl,hz,q⟩:=h;obtain⟨t,rfl⟩:=rx;obtain⟨t',rfl⟩:=ry;exact add_str (fun t' tk=>⟨.str (i++j),H,I.tok _,⟨_,Z⟩,q⟩) hz
theorem Uv:jo X (inplaceOp .Add) (fun x y H Q=>∃i j,x=.str i/\y=.str j/\i.length+j.length<=sizeLine/\Q (.str (i++j)) H):=by
 intro fL s σ H x y v u Q I rx ry h;obtain⟨i,j,rfl,rfl,hz,q⟩:=h;obtain⟨t,rfl⟩:=rx;obtain⟨t',rfl⟩:=ry;exact iadd_str (fun t' tk=>⟨.str (i++j),H,I.tok _,⟨_,Z⟩,q⟩) hz
theorem vals1{x:V}{us:List Value}(r:gF [x] us):∃u,us=[u]/\RelV x u:=by
 cases r with
 |cons r1 r2=>cases r2;exact⟨_,Z,r1⟩
theorem vals2{x y:V}{us:List Value}(r:gF [x,y] us):∃u w',us=[u,w']/\RelV x u/\RelV y w':=by
 cases r with
 |cons r1 r2=>
  cases r2 with
  |cons r3 r4=>cases r4;exact⟨_,_,Z,r1,r3⟩
theorem r6(hc:X.calm=true):mP X (.builtin "max") (fun xs H Q=>∃i j,xs=[.int i,.int j]/\Q (.int (if j>i then j else i)) H):=by
 intro fL s σ H xs us Q I r h;obtain⟨i,j,rfl,q⟩:=h;obtain⟨u,w',rfl,⟨t,rfl⟩,⟨t',rfl⟩⟩:=vals2 r;refine max_two_ints (I.ok.hd hc) fun h' tk k=>⟨_,H,I.kept k,?_,q⟩
 by_cases hj:j>i
 ·rw[aw hj,aw hj];exact⟨_,Z⟩
 ·rw[am hj,am hj];exact⟨_,Z⟩
theorem Fb(hc:X.calm=true):mP X (.builtin "min") (fun xs H Q=>∃i j,xs=[.int i,.int j]/\Q (.int (if j<i then j else i)) H):=by
 intro fL s σ H xs us Q I r h;obtain⟨i,j,rfl,q⟩:=h;obtain⟨u,w',rfl,⟨t,rfl⟩,⟨t',rfl⟩⟩:=vals2 r;refine min_two_ints (I.ok.hd hc) fun h' tk k=>⟨_,H,I.kept k,?_,q⟩
 by_cases hj:j<i
 ·rw[aw hj,aw hj];exact⟨_,Z⟩
 ·rw[am hj,am hj];exact⟨_,Z⟩
theorem TR:mP X (.type "str") (fun xs H Q=>∃i,xs=[.int i]/\i.natAbs.log2<1920/\Q (.str (toString i)) H):=by
 intro fL s σ H xs us Q I r h;obtain⟨i,rfl,hz,q⟩:=h;obtain⟨u,rfl,t,rfl⟩:=vals1 r;exact PySem.P.str_of_int hz ⟨.str _,H,I.tok _,⟨_,Z⟩,q⟩
theorem uo:mP X (.builtin "ord") (fun xs H Q=>∃x,xs=[.str x]/\x.length=1/\Q (.int (x.cps.getD 0 0:Nat)) H):=by
 intro fL s σ H xs us Q I r h;obtain⟨x,rfl,hz,q⟩:=h;obtain⟨u,rfl,t,rfl⟩:=vals1 r;exact ord_of_one hz ⟨.int _,H,I.tok _,⟨_,Z⟩,q⟩
end
structure uT(h:Heap)(x dx C:Addr)(mA:Str->Option Value):Prop where
 obj:h.get? x=some (PySem.W.instObj C dx)
 ns:h.Ns1 dx mA
 ne:dx≠x
theorem VY{h:Heap}{dx:Addr}{mA:Str->Option Value}(n:h.Ns1 dx mA):∃od,h.get? dx=some od/\∀name,PySem.W.lookIn name od=some (mA name):=by
 obtain⟨o,es,ep,ho,hd,hk,_,hm⟩:=n;refine⟨o,ho,fun name=> ?_⟩;have e:=hm name;unfold nsFind findBy at e;rw[<-Array.find?_toList] at e;unfold PySem.W.lookIn;rw[hd];dsimp only;split
 ·rename_i y q;rw[q] at e;exact congrArg some e
 ·rename_i q;rw[q] at e
  have a:es.toList.any (·.refKey)=false:=by
   rw[List.any_eq_false];intro y hy;obtain⟨z,t,aa2⟩:=hk y (Array.mem_toList_iff.mp hy);simp[DictEntry.refKey,aa2]
  have a':¬es.toList.any (·.refKey)=true:=by rw[a];exact aQ
  rw[am a'];exact congrArg some e
theorem uT.look{h:Heap}{x dx C:Addr}{mA:Str->Option Value}(I:uT h x dx C mA):∃od,PySem.W.InstAt h x (PySem.W.instObj C dx) C (some od)/\∀name,PySem.W.lookIn name od=some (mA name):=
 let ⟨od,ho,hl⟩:=VY I.ns
 ⟨od,⟨I.obj,Z,Z,ho⟩,hl⟩
section
variable {prog:Program} {w:World} {A:Around} {E:Value->Shared->Prop} {s:Shared} {K:PySem.W.Frag} {x dx C f:Addr} {mA:Str->Option Value} {name:Str} {v:Value}
theorem X8{expr:Bool}{Q:Value->Shared->Prop}(X:K.In s.heap)(I:uT s.heap x dx C mA)(hg:PySem.W.plainGet K C name=true)(hh:PySem.W.hasDictIn K C=true)
 (ha:PySem.W.findIn K (.ref C) name=some none) (hv:mA name=some v) (BQ:PySem.W.handedIn v=true) (h:Q v {s with toks:=s.toks+1}):
 wpAny (model prog w) A (getAttr (.ref x) name expr) Q E s:=by
 obtain⟨od,J,hl⟩:=I.look;exact PySem.W.get_value X J (fC hg).1 (PySem.W.findObj_own hh ha Z (by rw[hl,hv])) BQ h
theorem W1{pl:Sem Bool}{Q:Value×List Value->Shared->Prop}(X:K.In s.heap)(I:uT s.heap x dx C mA)(hg:PySem.W.plainGet K C name=true)
 (hf:PySem.W.findIn K (.ref C) name=some (some (.ref f))) (ht:PySem.W.isFn K (.ref f)=true) (hv:mA name=none) (h:Q (.ref f,[.ref x]) s):
 wpAny (model prog w) A (getMethod (.ref x) name pl) Q E s:=by
 obtain⟨od,J,hl⟩:=I.look;exact PySem.W.method_fn X J (fC hg).1 (fC hg).2 hf (ck.mp ht) (by show(PySem.W.lookIn name od).map (·.isSome)=some false;rw[hl,hv];rfl) h
theorem X9{ns:List Str}{Q:Unit->Shared->Prop}(X:K.In s.heap)(I:uT s.heap x dx C mA)
 (hs:PySem.W.findIn K (.ref C) "__setattr__"=some (some (.builtin "object.__setattr__"))) (hp:PySem.W.plainOver K C=true) (ht:PySem.W.takerIn K C name=some none) (hh:PySem.W.hasDictIn K C=true)
 (hw:PySem.Within mA ns) (hsz:ns.length<=sizeLine)
 (h:∀h',uT h' x dx C (fun y=>if y=name then some v else mA y)->Heap.SameBut dx s.heap h'->Q () {s with heap:=h',toks:=s.toks+2}):
 wpAny (model prog w) A (setAttr (.ref x) name v) Q E s:=by
 obtain⟨od,J,hl⟩:=I.look;refine PySem.W.set_plain X J hs (PySem.W.osa_open (s:={s with toks:=s.toks+1}) (r:=none) X J hp ht fun b=> ?_);obtain⟨cd,hc,Hw⟩:=PySem.W.any_some hh;have hx:s.heap.get? x=some ⟨.ref C,some dx,.plain,#[]⟩:=I.obj;refine ay (aY (ay (ay (wpAny_loadPart hx (ay (PySem.W.Looks.here (s:={s with toks:=s.toks+1}) (PySem.W.looks_clsIn X hc) ?_))))));rw[Hw];refine aY (a:=some dx) (ay (aY (ay ?_)));refine wpAny_nsSet1 (s:={s with toks:=s.toks+1}) I.ns fun h' u6 sZ=> ?_
 obtain⟨oD,esD,epD,HE,HF,HG⟩:=u6.count (PySem.Within.cons name v hw);refine ay (wpAny_lookBehind HE (by rw[HF];exact pastItsLine_dict (a8 HG (by rw[aj];omega))) ?_);exact aY (h _ ⟨(sZ.2 _ (cI I.ne)).trans I.obj,u6,I.ne⟩ sZ)
theorem W2{R:Result->Shared->Prop}{vs:List Value}{kw:List (Str×Value)}(X:K.In s.heap)(hm:PySem.W.makesIn K C=true)
 (hi:PySem.W.findIn K (.ref C) "__init__"=some (some (.ref f))) (hf:PySem.W.typeIn K (.ref f)=some (.type "function"))
 (h:codeAny (model prog w) (A.under (.builtin "type.__call__" ⟨.ref C::vs,kw⟩)) (.call (.ref f) ⟨.ref (s.heap.objs.size+1)::vs,kw⟩) (PySem.W.InitBack (s.heap.objs.size+1) R)
   {s with heap:=(s.heap.push PySem.W.emptyDict).push (PySem.W.instObj C s.heap.objs.size)}):
 codeAny (model prog w) A (.call (.ref C) ⟨vs,kw⟩) R s:=by
 obtain⟨hh,g,d,t,os⟩:=s;exact PySem.W.make_core (PySem.W.makes_of X hm) (PySem.W.looks_findIn X hi) (fun self=>PySem.W.bind_fn X self hf) (.inl Z) h
end
def jB(f:Str)(v:V):List (Str×V)->List (Str×V)
 |[]=>[(f,v)]
 |(g,x)::r=>if g=f then(g,v)::r else(g,x)::jB f v r
theorem Ec(f g:Str)(v:V):∀fs:List (Str×V),(jB f v fs).lookup g=if g=f then some v else fs.lookup g
 |[]=>by
  show List.lookup g [(f,v)]=_
  by_cases h:g=f
  ·have hb:(g==f)=true:=ck.mpr h;simp only[List.lookup,hb,aw h]
  ·have hb:(g==f)=false:=cM.mpr h;simp only[List.lookup,hb,am h]
 |(k,x)::r=>by
  have ih:=Ec f g v r;rw[show jB f v ((k,x)::r)=(if k=f then(k,v)::r else(k,x)::jB f v r) from Z]
  by_cases hk:k=f
  ·rw[aw hk]
   by_cases h:g=k
   ·have hb:(g==k)=true:=ck.mpr h;simp only[List.lookup,hb,aw (h.trans hk)]
   ·have hb:(g==k)=false:=cM.mpr h;simp only[List.lookup,hb,am (fun e:g=f=>h (e.trans hk.symm))]
  ·rw[am hk]
   by_cases h:g=k
   ·have hb:(g==k)=true:=ck.mpr h;simp only[List.lookup,hb,am (fun e:g=f=>hk (h.symm.trans e))]
   ·have hb:(g==k)=false:=cM.mpr h;simp only[List.lookup,hb];exact ih
theorem xV(f:Str)(v:V):∀fs:List (Str×V),f∈(jB f v fs).map (·.1)/\∀g,g∈fs.map (·.1)->g∈(jB f v fs).map (·.1)
 |[]=>⟨by simp[jB],fun g h=>by simp at h⟩
 |(k,x)::r=>by
  obtain⟨i1,i2⟩:=xV f v r;rw[show jB f v ((k,x)::r)=(if k=f then(k,v)::r else(k,x)::jB f v r) from Z]
  by_cases hk:k=f
  ·rw[aw hk];subst hk;exact⟨by simp,fun g h=>by simpa using h⟩
  ·rw[am hk];refine⟨?_,fun g h=> ?_⟩
   ·rw[aB];exact aX _ i1
   ·rw[aB] at h⊢;rcases az.mp h with e|e
    ·exact az.mpr (.inl e)
    ·exact aX _ (i2 g e)
theorem KM(f:Str)(v:V):∀fs:List (Str×V),(jB f v fs).length<=fs.length+1
 |[]=>by simp[jB]
 |(k,x)::r=>by
  have ih:=KM f v r;rw[show jB f v ((k,x)::r)=(if k=f then(k,v)::r else(k,x)::jB f v r) from Z]
  by_cases hk:k=f
  ·rw[aw hk,aj,aj];omega
  ·rw[am hk,aj,aj];omega
theorem ku.some_of{v:V}{o:Option Value}(r:ku (some v) o):∃u,o=some u/\RelV v u:=by
 cases o with
 |none=>exact(show False from r).elim
 |some u=>exact⟨u,Z,r⟩
theorem ku.none_of{o:Option Value}(r:ku none o):o=none:=by
 cases o with
 |none=>rfl
 |some u=>exact(show False from r).elim
theorem VZ{v:V}{u:Value}(r:RelV v u):PySem.W.handedIn u=true:=by
 cases v with
 |gS=>cases (show u=Value.none from r);rfl
 |bl b=>cases (show u=Value.bool b from r);rfl
 |int i=>obtain⟨t,e⟩:=(show∃t,u=Value.int i t from r);cases e;rfl
 |str x=>obtain⟨t,e⟩:=(show∃t,u=Value.str x t from r);cases e;rfl
 |nA b=>obtain⟨t,e⟩:=(show∃t,u=Value.bytes b t from r);cases e;rfl
 |wJ b=>obtain⟨t,e⟩:=(show∃t,u=Value.float b t from r);cases e;rfl
 |ref a=>cases (show u=Value.ref a from r);rfl
 |ty n=>cases (show u=Value.type n from r);rfl
section
variable {P:Program} {w:World} {H H':Hp} {h h':Heap} {a C dx:Addr} {fs wL:List (Str×V)}
theorem Go(gh:iY P w H h)(e:H a=some (.ins C dx fs)):∃mA,uT h a dx C mA/\(∀f,ku (fs.lookup f) (mA f))/\PySem.Within mA (fs.map (·.1))/\fs.length<=1000/\H dx=some (.own a):=by
 obtain⟨d,z,ne,ob,mA,n,r,q⟩:=(show jj P w H h a (.ins C dx fs) from gh a _ e);exact⟨mA,⟨ob,n,ne⟩,r,q,z,d⟩
end
structure mU(K:PySem.W.Frag)(C:Addr):Prop where
 pg:PySem.W.plainGet K C Str.empty=true
 hd:PySem.W.hasDictIn K C=true
 po:PySem.W.plainOver K C=true
 sa:PySem.W.findIn K (.ref C) "__setattr__"=some (some (.builtin "object.__setattr__"))
theorem mU.get{K:PySem.W.Frag}{C:Addr}(c:mU K C)(f:Str):PySem.W.plainGet K C f=true:=c.pg
def jh(K:PySem.W.Frag)(C:Addr)(f:Str):Prop:=PySem.W.findIn K (.ref C) f=some none
theorem jh.aac{K:PySem.W.Frag}{C:Addr}{f:Str}(n:jh K C f):PySem.W.takerIn K C f=some none:=by
 unfold PySem.W.takerIn;rw[show PySem.W.findIn K (.ref C) f=some none from n];rfl
structure lY(K:PySem.W.Frag)(C:Addr)(m:Str)(f:Addr):Prop where
 at_:PySem.W.findIn K (.ref C) m=some (some (.ref f))
 fn:PySem.W.isFn K (.ref f)=true
 kp:PySem.W.keepIn K (.ref f)=true
section
variable {X:Cx} {fL:List (Addr×Obj)} {σ:St} {H:Hp} {s:Shared} {a C dx:Addr} {fs:List (Str×V)} {f:Str} {v:V} {A:Around} {E:Value->Shared->Prop}
theorem Ll{b:Bool}{Q:Value->Shared->Prop}(I:Inv X fL σ H s)(e:H a=some (.ins C dx fs))(c:mU X.K C)(n:jh X.K C f)(l:fs.lookup f=some v)
 (h:∀u s',Inv X fL σ H s'->RelV v u->Q u s'):wpAny (model X.prog X.w) A (getAttr (.ref a) f b) Q E s:=by
 obtain⟨mA,O,r,_,_,_⟩:=Go I.gh e;obtain⟨u,hu,ru⟩:=ku.some_of (v:=v) (o:=mA f) (by rw[<-l];exact r f);exact X8 I.jE O (c.get f) c.hd n hu (VZ ru) (h u _ (I.tok _) ru)
theorem Ey{m:Str}{g:Addr}{pl:Sem Bool}{Q:Value×List Value->Shared->Prop}(I:Inv X fL σ H s)(e:H a=some (.ins C dx fs))(c:mU X.K C)(k:lY X.K C m g)(l:fs.lookup m=none)
 (h:Q (.ref g,[.ref a]) s):wpAny (model X.prog X.w) A (getMethod (.ref a) m pl) Q E s:=by
 obtain⟨mA,O,r,_,_,_⟩:=Go I.gh e;have hn:mA m=none:=ku.none_of (by rw[<-l];exact r m);exact W1 I.jE O (c.get m) k.at_ k.fn hn h
theorem Lm{y:V}{u:Value}{Q:Unit->Shared->Prop}(I:Inv X fL σ H s)(e:H a=some (.ins C dx fs))(c:mU X.K C)(n:jh X.K C f)(hl:fs.length<1000)(ry:RelV y u)
 (h:∀s',Inv X fL σ (fM H a (.ins C dx (jB f y fs))) s'->Q () s'):wpAny (model X.prog X.w) A (setAttr (.ref a) f u) Q E s:=by
 obtain⟨mA,O,r,wi,_,ho⟩:=Go I.gh e;have hz:(fs.map (·.1)).length<=sizeLine:=by rw[ac,sizeLine_eq];omega
 refine X9 I.jE O c.sa c.po n.aac c.hd wi hz fun h' O' sb=>h _ ?_
 have hd:∃o,h'.get? dx=some o:=let ⟨o,_,_,e',_⟩:=O'.ns;⟨o,e'⟩
 refine I.write (x:=a) (e:=dx) (by rw[e];exact True.intro) (.inr ho) (fun b q hb z=>(sb.2 b hb).trans z) hd ?_;refine⟨by rw[fT O.ne];exact ho,?_,O.ne,O'.obj,_,O'.ns,fun g=> ?_,fun g hg=> ?_⟩
 ·have:=KM f y fs;omega
 ·show ku ((jB f y fs).lookup g) (if g=f then some u else mA g);rw[Ec]
  by_cases q:g=f
  ·rw[aw q,aw q];exact ry
  ·rw[am q,am q];exact r g
 ·by_cases q:g=f
  ·rw[q];exact(xV f y fs).1
  ·refine(xV f y fs).2 g (wi g fun z=>hg ?_);show(if g=f then some u else mA g)=none;rw[am q];exact z
theorem Inv.made(I:Inv X fL σ H s):Inv X fL σ (fM (fM H s.heap.objs.size (.own (s.heap.objs.size+1))) (s.heap.objs.size+1) (.ins C s.heap.objs.size []))
 {s with heap:=(s.heap.push PySem.W.emptyDict).push (PySem.W.instObj C s.heap.objs.size)}:=by
 have e1:(s.heap.push PySem.W.emptyDict).get? s.heap.objs.size=some PySem.W.emptyDict:=aO s.heap Z
 have e2:((s.heap.push PySem.W.emptyDict).push (PySem.W.instObj C s.heap.objs.size)).get? (s.heap.objs.size+1)=some (PySem.W.instObj C s.heap.objs.size):=by
  have:=aO (s.heap.push PySem.W.emptyDict) (o:=PySem.W.instObj C s.heap.objs.size) Z
  rwa [bz] at this
 have e3:(s.heap.push PySem.W.emptyDict).Ns s.heap.objs.size (fun _=>none):=⟨PySem.W.emptyDict,#[],_,e1,Z,(fun e he=>absurd he (by simp)),fun _=>rfl⟩;have I1:=I.laid (a:=s.heap.objs.size) (o:=.own (s.heap.objs.size+1)) (h':=s.heap.push PySem.W.emptyDict) (t':=s.toks) (fun b u q=>aC _ q) (aA _) ⟨_,e1⟩;refine I1.laid (a:=s.heap.objs.size+1) (o:=.ins C s.heap.objs.size []) (t':=s.toks) (fun b u q=>aC _ q) (Nat.le_of_eq (bz _ _)) ?_;have ne:s.heap.objs.size≠s.heap.objs.size+1:=ba (Nat.lt_succ_self _);refine⟨by rw[fT ne,fO],aN _,ne,e2,fun _=>none,(Heap.Ns1.of_empty e3).at fun o q=>aC _ q,fun _=>True.intro,fun y hy=>absurd Z hy⟩
theorem Nm{prog:Program}{w:World}{env:Env}{e:Expr}{f:Str}{pos:Pos}{s:Shared}{Q:Value->Shared->Prop}(hb:attributeBase e f env (eval e env)=eval e env)
 (h:wpAny (model prog w) A (eval e env) (fun o iK=>wpAny (model prog w) A (getAttr o f true) Q E iK) E s):wpAny (model prog w) A (eval (.Attribute e f pos) env) Q E s:=
 Attribute_any_ h (by rw[arm_eval_Attribute,hb])
end
def yu(K:PySem.W.Frag)(ta:TE)(f:Str):TE:=fun σ H Q=>ta σ H fun x H1=>∃a C dx fs v,x=.ref a/\H1 a=some (.ins C dx fs)/\mU K C/\jh K C f/\fs.lookup f=some v/\Q v H1
def OT(K:PySem.W.Frag)(ta tv:TE)(f:Str):TS:=fun D σ H=>tv σ H fun y H1=>ta σ H1 fun x H2=>∃a C dx fs,x=.ref a/\H2 a=some (.ins C dx fs)/\mU K C/\jh K C f/\fs.length<1000/\
 D.nx σ (fM H2 a (.ins C dx (jB f y fs)))
def OU(X:Cx)(op:Operator)(rd:V->V->Hp->VK->Prop):Prop:=
 ∀(fL:List (Addr×Obj)) (s:Shared) (σ:St) (H:Hp) (x y:V) (u v:Value) (Q:VK),Inv X fL σ H s->RelV x u->RelV y v->rd x y H Q->wpAny (model X.prog X.w) X.A (inplaceOp op u v) (EP X fL σ Q) X.xe s
def Ya(K:PySem.W.Frag)(ta tv:TE)(rd:V->V->Hp->VK->Prop)(f:Str):TS:=fun D σ H=>ta σ H fun x H1=>∃a C dx fs v,x=.ref a/\H1 a=some (.ins C dx fs)/\mU K C/\jh K C f/\fs.lookup f=some v/\
 tv σ H1 fun y H2=>rd v y H2 fun z H3=>∃BR wL,H3 a=some (.ins C BR wL)/\wL.length<1000/\D.nx σ (fM H3 a (.ins C BR (jB f z wL)))
section
variable {X:Cx} {o e value:Expr} {f:Str} {pos kU mR:Pos} {ta tv:TE}
theorem gc(he:PE X e ta)(hb:attributeBase e f X.env (eval e X.env)=eval e X.env):PE X (.Attribute e f pos) (yu X.K ta f):=by
 intro fL s σ H Q I h;refine Nm hb (gm (he fL s σ H _ I h) fun u s1 ⟨x,H1,I1,rx,a,C,dx,fs,v,ex,ea,c,n,l,q⟩=> ?_);subst ex;obtain rfl:u=Value.ref a:=rx;exact Ll I1 ea c n l fun u' s2 I2 ru=>⟨v,H1,I2,ru,q⟩
theorem js(ha:PE X o ta)(hv:PE X value tv)(hs:swapsWith value (some (.Attribute o f kU)) pos.line X.env=pure false):PS X (.Assign [.Attribute o f kU] value pos) (OT X.K ta tv f):=by
 intro fL s σ H D I h;refine dw (gm (hv fL s σ H _ I h) fun u s1 ⟨y,H1,I1,ry,q⟩=>gm (ha fL s1 σ H1 _ I1 q) fun ov s2 ⟨x,H2,I2,rx,a,C,dx,fs,ex,ea,c,n,l,q2⟩=> ?_) hs;subst ex;obtain rfl:ov=Value.ref a:=rx;exact Lm I2 ea c n l ry fun s3 I3=>⟨σ,_,I3,q2⟩
theorem Ag{op:Operator}{rd:V->V->Hp->VK->Prop}(ha:PE X o ta)(hv:PE X value tv)(hop:OU X op rd):PS X (.AugAssign (.Attribute o f mR) op value pos) (Ya X.K ta tv rd f):=by
 intro fL s σ H D I h;refine wpAny_AugAssign_AttributeAny (gm (ha fL s σ H _ I h) fun ov s1 ⟨x,H1,I1,rx,a,C,dx,fs,v,ex,ea,c,n,l,q⟩=> ?_);subst ex;obtain rfl:ov=Value.ref a:=rx;refine Ll I1 ea c n l fun u s2 I2 ru=>gm (hv fL s2 σ H1 _ I2 q) fun w3 s3 ⟨y,H2,I3,ry,q3⟩=>gm (hop fL s3 σ H2 v y u w3 _ I3 ru ry q3) fun w4 s4 ⟨z,H3,I4,rz,BR,wL,ea',l',q4⟩=> ?_
 exact Lm I4 ea' c n l' rz fun s5 I5=>⟨σ,_,I5,q4⟩
def aa3:V->V->Hp->VK->Prop:=fun x y H Q=>∃i j,x=.int i/\y=.int j/\Q (.int (i+j)) H
theorem A6:OU X .Add aa3:=by
 rintro fL s σ H x y u v Q I rx ry ⟨i,j,rfl,rfl,q⟩;obtain⟨t,rfl⟩:=(show∃t,u=Value.int i t from rx);obtain⟨t',rfl⟩:=(show∃t',v=Value.int j t' from ry);exact PyProof.Rows.iadd_int ⟨.int (i+j),H,I.tok _,⟨_,Z⟩,q⟩
theorem ae9{pl:Sem Bool}{m:Str}{jC:Pos}{args:List Expr}{fL:List (Addr×Obj)}{s:Shared}{σ:St}{H:Hp}{Q:Value->Shared->Prop}{te:TE}(he:PE X e te)(I:Inv X fL σ H s)
 (h:te σ H fun x H1=>∃a C dx fs g,x=.ref a/\H1 a=some (.ins C dx fs)/\mU X.K C/\lY X.K C m g/\fs.lookup m=none/\
   ∀s1,Inv X fL σ H1 s1->wpAny (model X.prog X.w) X.A (callWith pos (.ref g) [.ref a] (backTo pos (starEach args X.env)) (backToKw pos (keywordEach [] X.env))) Q X.xe s1)
 (ht:eval (.Call (.Attribute e m jC) args [] pos) X.env=(do
   let ov<-eval e X.env
   standAt jC.atName
   let (f,first)<-holding [ov] (getMethod ov m pl)
   callWith pos f first (backTo pos (starEach args X.env)) (backToKw pos (keywordEach [] X.env)))):
 wpAny (model X.prog X.w) X.A (eval (.Call (.Attribute e m jC) args [] pos) X.env) Q X.xe s:=by
 refine fo (pl:=pl) (gm (he fL s σ H _ I h) fun u s1 ⟨x,H1,I1,rx,a,C,dx,fs,g,ex,ea,c,k,l,q⟩=> ?_) ht;subst ex;obtain rfl:u=Value.ref a:=rx;exact Ey I1 ea c k l (q s1 I1)
end
structure jN(k:Nat)(A:Around):Prop where
 hd:A.handled=none
 dp:A.depth+3*k+5<recursionLimit
 un:A.units+16*k+200<cLine
theorem jN.mono{j k:Nat}{A:Around}(r:jN k A)(h:j<=k):jN j A:=⟨r.hd,by have:=r.dp;omega,by have:=r.un;omega⟩
theorem jN.deeper{k:Nat}{A:Around}(r:jN (k+1) A)(env:Env):jN k (A.deeper env):=
 ⟨r.hd,by have:=r.dp;show A.depth+1+3*k+5<_;omega,by have:=r.un;show A.units+3+16*k+200<_;omega⟩
theorem Vc{A:Around}{C:Addr}{us:List Value}{kw:List (Str×Value)}:(A.under (.builtin "type.__call__" ⟨.ref C::us,kw⟩)).depth=A.depth+1:=by
 first|rfl|simp[Around.under,Code.weight,Code.isCreation,Code.isGuard,Code.isCaller,Code.frames,Code.isFrame,guardIds]
theorem Vd{A:Around}{C:Addr}{us:List Value}{kw:List (Str×Value)}:(A.under (.builtin "type.__call__" ⟨.ref C::us,kw⟩)).units=A.units+1:=by
 first|rfl|simp[Around.under,Code.cUnits,Code.frames,Code.isFrame]
theorem jN.make{k:Nat}{A:Around}(r:jN (k+1) A)(C:Addr)(us:List Value)(kw:List (Str×Value)):jN k (A.under (.builtin "type.__call__" ⟨.ref C::us,kw⟩)):=
 ⟨r.hd,by have:=r.dp;rw[Vc];omega,by have:=r.un;rw[Vd];omega⟩
theorem jN.depth{k:Nat}{A:Around}(r:jN k A):A.depth<recursionLimit:=by have:=r.dp;omega
theorem jN.units{k:Nat}{A:Around}(r:jN k A):A.units+64<cLine:=by have:=r.un;omega
def jw:TA:=fun _ H Q=>Q [] H
def i7(ta:TE)(tr:TA):TA:=fun σ H Q=>ta σ H fun x H1=>tr σ H1 fun xs H2=>Q (x::xs) H2
section
variable {X:Cx} {e:Expr} {es:List Expr} {te:TE} {t:TA} {pos:Pos}
theorem fP:PA X [] jw:=fun _ _ _ _ H Q I h=>Calls.spliced_nil ⟨[],H,I,.nil,h⟩
theorem fN(ha:PE X e te)(hr:PA X es t)(hs:starEach (e::es) X.env=(false,eval e X.env)::starEach es X.env:=by rfl):PA X (e::es) (i7 te t):=by
 intro pos fL s σ H Q I h;rw[hs];show wpAny _ _ (spliced ((false,eval e X.env)::backTo pos (starEach es X.env))) _ _ s;refine eV (gm (ha fL s σ H _ I h) fun u s1 ⟨x,H1,I1,r1,q1⟩=> ?_);exact gm (hr pos fL s1 σ H1 _ I1 q1) fun us s2 ⟨xs,H2,I2,r2,q2⟩=>⟨x::xs,H2,I2,.cons r1 r2,q2⟩
def Bv(t:TA):TE:=fun σ H Q=>t σ H fun xs H1=>xs.length<=sizeLine/\∀p,H1 p=none->Q (.ref p) (fM H1 p (.tup xs))
def yw(t:TA):TE:=fun σ H Q=>t σ H fun xs H1=>xs.length<=sizeLine/\∀p,H1 p=none->Q (.ref p) (fM H1 p (.lst xs))
theorem vW{x1}(h:PA X es t):PE X (.Tuple es x1 pos) (Bv t):=by
 intro fL s σ H Q I hq;refine wpAny_Tuple_spliced (gm (h pos fL s σ H _ I hq) fun us s1 ⟨xs,H1,I1,r,z,q⟩=>⟨by rw[<-r.length];exact z,?_⟩);have hf:H1 s1.heap.objs.size=none:=I1.gh.fresh (aA _);refine⟨.ref s1.heap.objs.size,fM H1 s1.heap.objs.size (.tup xs),I1.laid (t':=s1.toks) (fun b u e=>aC _ e) (aA _) ?_,Z,q _ hf⟩;exact⟨z,us,r,⟨_,aO _ Z,Z,_,Z⟩⟩
theorem gI(h:PA X es t):PE X (.List es pos) (yw t):=by
 intro fL s σ H Q I hq;refine wpAny_List_spliced (gm (h pos fL s σ H _ I hq) fun us s1 ⟨xs,H1,I1,r,z,q⟩=>⟨by rw[<-r.length];exact z,?_⟩);have hf:H1 s1.heap.objs.size=none:=I1.gh.fresh (aA _);refine⟨.ref s1.heap.objs.size,fM H1 s1.heap.objs.size (.lst xs),I1.laid (t':=s1.toks) (fun b u e=>aC _ e) (aA _) ?_,Z,q _ hf⟩;exact⟨z,us,0,r,aO _ Z⟩
end
abbrev Sp:=List V->Hp->VK->XK->Prop
abbrev qF:=List Env->Hp->Shared->XK->Value->Shared->Prop
structure uU(P:Program)(w:World)(K:PySem.W.Frag)(mg:Str->Option Value)(base:Heap)(A:Around)(outer:List Env)(s:Shared)(H:Hp):Prop where
 frames:A.frames=some outer
 mod:Mod K mg base
 bs:∀b o,base.get? b=some o->s.heap.get? b=some o/\H b=none
 pT:base.objs.size<=s.heap.objs.size
 jv:s.heap.FunFrames base outer
 qD:∀b∈iP outer,H b=none
 gh:iY P w H s.heap
 bare:AllBare s.gens
def CE(outer:List Env)(P:Program)(w:World)(H:Hp)(s:Shared)(Q:VK)(u:Value)(s':Shared):Prop:=
 ∃v H',s'.os=s.os/\AllBare s'.gens/\Un (iP outer) [] H H' s.heap s'.heap/\iY P w H' s'.heap/\RelV v u/\Q v H'
def CR(CX:qF)(outer:List Env)(P:Program)(w:World)(H:Hp)(s:Shared)(Q:VK)(E:XK)(r:Result)(s':Shared):Prop:=
 match r with
 |.ok (.ret u)=>CE outer P w H s Q u s'
 |.ok _=>False
 |.error e=>CX outer H s E e s'
structure gK(P:Program)(w:World)(K:PySem.W.Frag)(mg:Str->Option Value)(base:Heap)(CX:qF)(k:Nat)(f:Addr)(fd:FuncData)(ps:List Str)(sp:Sp):Prop where
 len:∀vs H Q E,sp vs H Q E->vs.length=ps.length
 run:∀(A:Around) (outer:List Env) (s:Shared) (H:Hp) (args:Args) (us:List Value) (vs:List V) (Q:VK) (E:XK),jN k A->uU P w K mg base A outer s H->BindsTo s fd args (ps.zip us)->gF vs us->sp vs H Q E->
  codeAny (model P w) A (.call (.ref f) args) (CR CX outer P w H s Q E) s
theorem uU.make{P:Program}{w:World}{K:PySem.W.Frag}{mg:Str->Option Value}{base:Heap}{A:Around}{outer:List Env}{s:Shared}{H:Hp}(e:uU P w K mg base A outer s H)(C:Addr)(us:List Value)(kw:List (Str×Value)):
 uU P w K mg base (A.under (.builtin "type.__call__" ⟨.ref C::us,kw⟩)) outer s H:=⟨by first|exact e.frames|(simpa [Around.under,Code.envs,Code.isFrame,pushEnvs] using e.frames),e.mod,e.bs,e.pT,e.jv,e.qD,e.gh,e.bare⟩
section
variable {X:Cx} {fL:List (Addr×Obj)} {σ:St} {H:Hp} {s s':Shared}
theorem Inv.Hh(I:Inv X fL σ H s):uU X.prog X.w X.K X.mg X.base X.A X.stack s H:=
 ⟨I.ok.frames,I.ok.mod,I.bs,a8 I.ok.pT I.sz,I.stack,I.uu,I.gh,I.bare⟩
theorem Inv.after{Q:VK}{u:Value}(I:Inv X fL σ H s)(h:CE X.stack X.prog X.w H s Q u s'):EP X fL σ Q u s':=by
 obtain⟨v,H',os,bare,un,gh,r,q⟩:=h;obtain⟨hh,g,d,t,os'⟩:=s';obtain rfl:os'=s.os:=os;exact⟨v,H',I.call (h':=hh) (g':=g) (d':=d) (t':=t) (ch:=[]) un gh bare (fun b z=>absurd z (by simp)),r,q⟩
end
def GW(sp:Sp)(ki:List V)(E:XK)(t:TA):TE:=fun σ H Q=>t σ H fun vs H1=>sp (vs++ki) H1 Q E
def Op(C:Addr)(m:Str)(sp:Sp)(ki:List V)(E:XK)(ta:TE)(t:TA):TE:=fun σ H Q=>ta σ H fun x H1=>∃a dx fs,x=.ref a/\H1 a=some (.ins C dx fs)/\fs.lookup m=none/\
 t σ H1 fun vs H2=>sp (x::(vs++ki)) H2 Q E
def Oq(C:Addr)(sp:Sp)(ki:List V)(E:XK)(t:TA):TE:=fun σ H Q=>t σ H fun vs H1=>∀x dx,H1 x=none->H1 dx=none->dx≠x->
 sp (.ref x::(vs++ki)) (fM (fM H1 dx (.own x)) x (.ins C dx [])) (fun v H2=>v=.gS/\Q (.ref x) H2) E
def Binds(K:PySem.W.Frag)(fd:FuncData)(ps:List Str)(ds:List Value):Prop:=
 ∀(s:Shared) (us:List Value),K.In s.heap->(us++ds).length=ps.length->BindsTo s fd ⟨us,[]⟩ (ps.zip (us++ds))
theorem Binds.all{K:PySem.W.Frag}{fd:FuncData}{ps:List Str}(h:∀us:List Value,us.length=ps.length->bindArgs fd ⟨us,[]⟩=pure (ps.zip us)):Binds K fd ps []:=fun s us _ hl=>by
 rw[bc] at hl⊢;exact .of_eq (h us hl)
def nS(CX:qF)(X:Cx)(E:XK):Prop:=∀(fL:List (Addr×Obj)) (σ:St) (H:Hp) (s:Shared) (e:Value) (s':Shared),Inv X fL σ H s->CX X.stack H s E e s'->X.xe e s'
section
variable {X:Cx} {CX:qF} {k:Nat} {f C:Addr} {fd:FuncData} {ps:List Str} {sp:Sp} {ki:List V} {ds:List Value} {E:XK} {x m:Str} {p pos jC:Pos} {e o:Expr} {es:List Expr} {ta:TE} {t:TA}
theorem A7{fL:List (Addr×Obj)}{σ:St}{H:Hp}{s:Shared}{Q:VK}{us:List Value}{vs:List V}(F:gK X.prog X.w X.K X.mg X.base CX k f fd ps sp)(hr:jN k X.A)(hb:Binds X.K fd ps ds)(hd:gF ki ds)(hx:nS CX X E)
 (I:Inv X fL σ H s) (r:gF vs us) (h:sp (vs++ki) H Q E):wpAny (model X.prog X.w) X.A (call (.ref f) us) (EP X fL σ Q) X.xe s:=by
 have r2:gF (vs++ki) (us++ds):=r.append hd;have hl:(us++ds).length=ps.length:=by rw[<-r2.length];exact F.len _ _ _ _ h
 refine wpAny_call (eZ (F.run X.A X.stack s H ⟨us,[]⟩ (us++ds) (vs++ki) Q E hr I.Hh (hb s us I.jE hl) r2 h) fun r s' hq=> ?_);cases r with
 |error e=>exact hx fL σ H s e s' I hq
 |ok fl=>
  cases fl with
  |ret u=>exact I.after hq
  |next=>exact False.elim hq
  |brk=>exact False.elim hq
  |cont=>exact False.elim hq
theorem ic(F:gK X.prog X.w X.K X.mg X.base CX k f fd ps sp)(hr:jN k X.A)(hg:Gl X x)(hm:X.mg x=some (.ref f))(hk:PySem.W.keepIn X.K (.ref f)=true)(hb:Binds X.K fd ps ds)(hd:gF ki ds)(hx:nS CX X E)
 (ha:PA X (e::es) t) (mV:(x==("__debug__":Str))=false:=by decide) (he:starEach (e::es) X.env=(false,eval e X.env)::starEach es X.env:=by rfl) (jp:(backTo pos (starEach es X.env)).any (·.1)=false:=by rfl):
 PE X (.Call (.Name x p) (e::es) [] pos) (GW sp ki E t):=by
 intro fL s σ H Q I h;refine bH (uv I hg hm ?_ mV);refine dG (h₀:=X.base) I.ok.mod.u1 hk (gm (ha pos fL s σ H _ I h) fun us s1 ⟨vs,H1,I1,r,q⟩=>⟨I1.jE,?_⟩) he jp;exact A7 F hr hb hd hx I1 r q
theorem oE{pl:Sem Bool}(he:PE X o ta)(c:mU X.K C)(hm:lY X.K C m f)(F:gK X.prog X.w X.K X.mg X.base CX k f fd ps sp)(hr:jN k X.A)(hb:Binds X.K fd ps ds)(hd:gF ki ds)(hx:nS CX X E)(ha:PA X (e::es) t)
 (kK:starEach (e::es) X.env=(false,eval e X.env)::starEach es X.env:=by rfl) (jp:(backTo pos (starEach es X.env)).any (·.1)=false:=by rfl)
 (ht:eval (.Call (.Attribute o m jC) (e::es) [] pos) X.env=(do
   let ov<-eval o X.env
   standAt jC.atName
   let (f,first)<-holding [ov] (getMethod ov m pl)
   callWith pos f first (backTo pos (starEach (e::es) X.env)) (backToKw pos (keywordEach [] X.env))):=by rfl):
 PE X (.Call (.Attribute o m jC) (e::es) [] pos) (Op C m sp ki E ta t):=by
 intro fL s σ H Q I h;refine fo (pl:=pl) (gm (he fL s σ H _ I h) fun u s1 ⟨x,H1,I1,rx,a,dx,fs,ex,ea,l,q⟩=> ?_) ht;subst ex;obtain rfl:u=Value.ref a:=rx;refine Ey I1 ea c hm l ?_;refine dG (first:=[.ref a]) (h₀:=X.base) I.ok.mod.u1 hm.kp (gm (ha pos fL s1 σ H1 _ I1 q) fun us s2 ⟨vs,H2,I2,r,q2⟩=>⟨I2.jE,?_⟩) kK jp;exact A7 (us:=.ref a::us) (vs:=.ref a::vs) F hr hb hd hx I2 (.cons Z r) q2
theorem l9{pl:Sem Bool}(he:PE X o ta)(c:mU X.K C)(hm:lY X.K C m f)(F:gK X.prog X.w X.K X.mg X.base CX k f fd ps sp)(hr:jN k X.A)(hb:Binds X.K fd ps ds)(hd:gF ki ds)(hx:nS CX X E)
 (ht:eval (.Call (.Attribute o m jC) [] [] pos) X.env=(do
   let ov<-eval o X.env
   standAt jC.atName
   let (f,first)<-holding [ov] (getMethod ov m pl)
   callWith pos f first (backTo pos (starEach [] X.env)) (backToKw pos (keywordEach [] X.env))):=by rfl):
 PE X (.Call (.Attribute o m jC) [] [] pos) (Op C m sp ki E ta jw):=by
 intro fL s σ H Q I h;refine fo (pl:=pl) (gm (he fL s σ H _ I h) fun u s1 ⟨x,H1,I1,rx,a,dx,fs,ex,ea,l,q⟩=> ?_) ht;subst ex;obtain rfl:u=Value.ref a:=rx;refine Ey I1 ea c hm l ?_;exact PySem.W.callWith_K0 (first:=[.ref a]) I1.jE hm.kp (A7 (us:=[.ref a]) (vs:=[.ref a]) F hr hb hd hx I1 (.cons Z .nil) q)
structure Mk(K:PySem.W.Frag)(C f:Addr):Prop where
 makes:PySem.W.makesIn K C=true
 init:PySem.W.findIn K (.ref C) "__init__"=some (some (.ref f))
 fn:PySem.W.isFn K (.ref f)=true
 kp:PySem.W.keepIn K (.ref C)=true
theorem MG{fL:List (Addr×Obj)}{σ:St}{H:Hp}{s:Shared}{Q:VK}{us:List Value}{vs:List V}(M:Mk X.K C f)(F:gK X.prog X.w X.K X.mg X.base CX k f fd ps sp)(hr:jN (k+1) X.A)(hb:Binds X.K fd ps ds)(hd:gF ki ds)
 (hx:nS CX X E) (I:Inv X fL σ H s) (r:gF vs us)
 (h:∀x dx,H x=none->H dx=none->dx≠x->sp (.ref x::(vs++ki)) (fM (fM H dx (.own x)) x (.ins C dx [])) (fun v H2=>v=.gS/\Q (.ref x) H2) E):
 wpAny (model X.prog X.w) X.A (call (.ref C) us) (EP X fL σ Q) X.xe s:=by
 have hq:=h (s.heap.objs.size+1) s.heap.objs.size (I.gh.fresh (Nat.le_succ _)) (I.gh.fresh (aA _)) (ba (Nat.lt_succ_self _));have I2:=Inv.made (C:=C) I;have r2:gF (V.ref (s.heap.objs.size+1)::(vs++ki)) (Value.ref (s.heap.objs.size+1)::(us++ds)):=.cons Z (r.append hd)
 have hl:(Value.ref (s.heap.objs.size+1)::us++ds).length=ps.length:=by
  have e:=r2.length;rw[F.len _ _ _ _ hq] at e;exact e.symm
 refine wpAny_call (W2 (f:=f) I.jE M.makes M.init (ck.mp M.fn) (eZ (F.run _ X.stack _ _ ⟨Value.ref (s.heap.objs.size+1)::us,[]⟩ (Value.ref (s.heap.objs.size+1)::(us++ds)) _ _ E (hr.make C us [])
  (I2.Hh.make C us []) (hb _ (Value.ref (s.heap.objs.size+1)::us) I2.jE hl) r2 hq) fun r s' s0=> ?_))
 cases r with
 |error e=>exact hx fL σ _ _ e s' I2 s0
 |ok fl=>
  cases fl with
  |ret u=>
   obtain⟨v,H',I3,rv,ev,q3⟩:=I2.after s0;subst ev;exact⟨rv,⟨V.ref (s.heap.objs.size+1),H',I3,Z,q3⟩⟩
  |next=>exact False.elim s0
  |brk=>exact False.elim s0
  |cont=>exact False.elim s0
theorem uw(M:Mk X.K C f)(F:gK X.prog X.w X.K X.mg X.base CX k f fd ps sp)(hr:jN (k+1) X.A)(hg:Gl X x)(hm:X.mg x=some (.ref C))(hb:Binds X.K fd ps ds)(hd:gF ki ds)(hx:nS CX X E)
 (ha:PA X (e::es) t) (mV:(x==("__debug__":Str))=false:=by decide) (he:starEach (e::es) X.env=(false,eval e X.env)::starEach es X.env:=by rfl) (jp:(backTo pos (starEach es X.env)).any (·.1)=false:=by rfl):
 PE X (.Call (.Name x p) (e::es) [] pos) (Oq C sp ki E t):=by
 intro fL s σ H Q I h;refine bH (uv I hg hm ?_ mV);refine dG (h₀:=X.base) I.ok.mod.u1 M.kp (gm (ha pos fL s σ H _ I h) fun us s1 ⟨vs,H1,I1,r,q⟩=>⟨I1.jE,?_⟩) he jp;exact MG M F hr hb hd hx I1 r q
theorem W3(M:Mk X.K C f)(F:gK X.prog X.w X.K X.mg X.base CX k f fd ps sp)(hr:jN (k+1) X.A)(hg:Gl X x)(hm:X.mg x=some (.ref C))(hb:Binds X.K fd ps ds)(hd:gF ki ds)(hx:nS CX X E)
 (mV:(x==("__debug__":Str))=false:=by decide):PE X (.Call (.Name x p) [] [] pos) (Oq C sp ki E jw):=by
 intro fL s σ H Q I h;refine bH (uv I hg hm ?_ mV);exact PySem.W.callWith_K0 I.jE M.kp (MG (us:=[]) M F hr hb hd hx I .nil h)
end
def PK(X:Cx)(jJ:List Keyword)(t:TA):Prop:=
 ∀(pos:Pos) (fL:List (Addr×Obj)) (s:Shared) (σ:St) (H:Hp) (Q:List V->Hp->Prop),Inv X fL σ H s->t σ H Q->wpAny (model X.prog X.w) X.A (evalAll ((backToKw pos (keywordEach jJ X.env)).map (·.2))) (AP X fL σ Q) X.xe s
section
variable {X:Cx} {CX:qF} {k:Nat} {f C:Addr} {fd:FuncData} {ps ks:List Str} {sp:Sp} {E:XK} {x m:Str} {p pos jC aa4:Pos} {e o:Expr} {es:List Expr} {jJ:List Keyword} {te ta:TE} {t tk:TA} {nm:Option Str}
theorem yj:PK X [] jw:=fun _ _ _ _ H Q I h=>wpAny_evalAll_nil ⟨[],H,I,.nil,h⟩
theorem yd(ha:PE X e te)(hr:PK X jJ t):PK X (⟨nm,e,aa4⟩::jJ) (i7 te t):=by
 intro pos fL s σ H Q I h;show wpAny _ _ (evalAll ((do let v<-eval e X.env;standAt pos;pure v)::(backToKw pos (keywordEach jJ X.env)).map (·.2))) _ _ s;refine wpAny_evalAll_cons (ay (gm (ha fL s σ H _ I h) fun u s1 ⟨x,H1,I1,r1,q1⟩=>ay (dN (aY ?_))));exact gm (hr pos fL s1 σ H1 _ I1 q1) fun us s2 ⟨xs,H2,I2,r2,q2⟩=>⟨x::xs,H2,I2,.cons r1 r2,q2⟩
variable {g:List Value->List Value->List Value} {gV:List V->List V->List V}
end
structure gP(N P:List Str)(sc:Scope):Prop where
 kind:sc.kind=.function
 co:sc.isCoroutine=false
 gen:sc.isGenerator=false
 nd:N.Nodup
 pre:N.take P.length=P
 Pp:∀x∈P,sc.names.lookup x=some .local\/sc.names.lookup x=some .cell
 Zj:∀y∈sc.names,y.2≠ .free
theorem L3{kindOf:Str->Option NameKind}{x:Str}:∀{binds:List (Str×Value)} {m:Str->Option Value},(∀v,(x,v)∉binds)->bindL kindOf binds m x=m x
 |[],_,_=>rfl
 |(n,v)::r,m,h=>by
  unfold bindL;rw[L3 fun w hw=>h w (aX _ hw)];split
  ·have:x≠n:=by rintro rfl;exact h v bv
   simp[this]
  ·rfl
theorem L4{kindOf:Str->Option NameKind}{x:Str}:∀{binds:List (Str×Value)} {m:Str->Option Value},(∀v,(x,v)∉binds)->bindC kindOf binds m x=m x
 |[],_,_=>rfl
 |(n,v)::r,m,h=>by
  unfold bindC;rw[L4 fun w hw=>h w (aX _ hw)];split
  ·rfl
  ·have:x≠n:=by rintro rfl;exact h v bv
   simp[this]
theorem L5{kindOf:Str->Option NameKind}{x:Str}{v:Value}:∀{P:List Str} {vs:List Value} {i:Nat} {m:Str->Option Value},P.Nodup->P[i]? =some x->vs[i]? =some v->kindOf x=some .local->
 bindL kindOf (P.zip vs) m x=some v
 |[],_,_,_,_,h,_,_=>by simp at h
 |_::_,[],_,_,_,_,h,_=>by simp at h
 |p::P,w::vs,0,m,nd,h1,h2,hk=>by
  simp at h1 h2;subst h1;subst h2;show bindL kindOf ((p,w)::P.zip vs) m p=_;unfold bindL;rw[L3 fun v hv=>(bj.mp nd).1 (List.of_mem_zip hv).1,aw hk];simp
 |p::P,w::vs,i+1,m,nd,h1,h2,hk=>by
  show bindL kindOf ((p,w)::P.zip vs) m x=_;unfold bindL;exact L5 (i:=i) (bj.mp nd).2 (by simpa using h1) (by simpa using h2) hk
theorem L6{kindOf:Str->Option NameKind}{x:Str}{v:Value}:∀{P:List Str} {vs:List Value} {i:Nat} {m:Str->Option Value},P.Nodup->P[i]? =some x->vs[i]? =some v->kindOf x≠some .local->
 bindC kindOf (P.zip vs) m x=some v
 |[],_,_,_,_,h,_,_=>by simp at h
 |_::_,[],_,_,_,_,h,_=>by simp at h
 |p::P,w::vs,0,m,nd,h1,h2,hk=>by
  simp at h1 h2;subst h1;subst h2;show bindC kindOf ((p,w)::P.zip vs) m p=_;unfold bindC;rw[L4 fun v hv=>(bj.mp nd).1 (List.of_mem_zip hv).1,am hk];simp
 |p::P,w::vs,i+1,m,nd,h1,h2,hk=>by
  show bindC kindOf ((p,w)::P.zip vs) m x=_;unfold bindC;exact L6 (i:=i) (bj.mp nd).2 (by simpa using h1) (by simpa using h2) hk
def start(N:List Str)(vs:List V):St:=vs.map some++List.replicate (N.length-vs.length) none
def j5(CX:qF)(P:Program)(w:World)(K:PySem.W.Frag)(mg:Str->Option Value)(base:Heap)(N:List Str)(qual:Str)(scope:Scope)(f:Addr)(cd:Value)(A:Around)(outer:List Env)(s:Shared)(H:Hp)(E:XK):Cx where
 prog:=P
 w:=w
 K:=K
 mg:=mg
 base:=base
 A:=A.deeper (envOfC qual scope s.heap.objs.size f cd)
 N:=N
 kW:=s
 u3:=H
 env:=envOfC qual scope s.heap.objs.size f cd
 outer:=outer
 stack:=envOfC qual scope s.heap.objs.size f cd::outer
 ex:=[]
 calm:=true
 fn:=fun _=>true
 pn:=[]
 xe:=fun e s'=>wpAny (model P w) (A.deeper (envOfC qual scope s.heap.objs.size f cd)) (leaving (envOfC qual scope s.heap.objs.size f cd) e) (fun _ HH=>CX outer H s E e HH) (fun e' HH=>CX outer H s E e' HH) s'
theorem MH{sc:Scope}{n:Nat}{x:Str}(h:sc.names.lookup x=some .cell):∃c,(cellsFrom n sc.names []).lookup x=some c:=by
 have q:=PySem.W.cellsFrom_some sc.names n [] (.inl h);exact Option.isSome_iff_exists.mp q
theorem V0{CX:qF}{P:Program}{w:World}{K:PySem.W.Frag}{mg:Str->Option Value}{base:Heap}{N ps:List Str}{qual:Str}{scope:Scope}{f:Addr}{cd:Value}{A:Around}{outer:List Env}{s s1:Shared}{H:Hp}{E:XK}{us:List Value}{vs:List V}
 (S:gP N ps scope) (hd:A.handled=none) (e0:uU P w K mg base A outer s H) (hl:vs.length=ps.length) (r:gF vs us)
 (x:InCallC s s.heap.objs.size (bindL (envOfC qual scope s.heap.objs.size f cd).kindOf (ps.zip us) fun _=>none) (cellsFrom (s.heap.objs.size+1) scope.names []) (bindC (envOfC qual scope s.heap.objs.size f cd).kindOf (ps.zip us) fun _=>none) s1):
 Inv (j5 CX P w K mg base N qual scope f cd A outer s H E) [] (start N vs) H s1:=by
 have jp:ps.length<=N.length:=by have:=congrArg List.length S.pre;rw[aD] at this;omega
 obtain⟨h1,tk,rfl,hk⟩:=x.done;have yK:∀b:Addr,b∉(j5 CX P w K mg base N qual scope f cd A outer s H E).ex:=fun b z=>absurd (show b∈([]:List Addr) from z) (by simp)
 refine⟨⟨e0.mod,S.kind,Z,Z,aA _,fun y z c h1 h2=> ?_,fun y hy=> ?_,fun y c _ h=> ?_,fun _=>hd,Around.frames_deeper e0.frames,.inr ⟨Z,Z⟩,fun b z=>absurd z (yK b),e0.bs,e0.pT,fun b _ _=>yK b,fun b z=>absurd z (yK b),e0.jv,e0.qD⟩,
  Z,e0.bare,Un.kept hk,⟨_,x.toInCall.ns,fun i y v h1 h2 h3=> ?_⟩,fun y c h=>⟨_,x.cell y c h⟩,e0.gh.fresh (aA _),fun y c h=> ?_,fun p hp=>absurd (show p∈([]:List (Addr×Obj)) from hp) (by simp),e0.gh.kept hk,?_⟩
 ·exact name_of_addr x.apart (bf h1) (bf h2)
 ·have hy:scope.names.lookup y=some .cell\/scope.names.lookup y=some .free:=hy;rcases hy with hy|hy
  ·exact MH hy
  ·exact absurd Z (S.Zj _ (bf hy))
 ·exact Nat.le_of_lt (x.above y c (bf h))
 ·have hi:i<vs.length:=by
   unfold start at h2
   by_cases hi:i<vs.length
   ·exact hi
   ·rw[bx (by simpa using hi)] at h2;rw[List.getElem?_replicate] at h2;split at h2<;>cases h2
  have ha:vs[i]? =some v:=by
   unfold start at h2;rw[bp (by simpa using hi),au] at h2;cases e:vs[i]? with
   |none=>rw[e] at h2;cases h2
   |some a=>rw[e] at h2;cases h2;rfl
  obtain⟨u,hu,rv⟩:=r.get ha
  have hp:ps[i]? =some y:=by
   rw[<-S.pre,dq (by omega)];exact h1
  have Pq:ps.Nodup:=by rw[<-S.pre];exact S.nd.sublist (List.take_sublist _ _)
  refine⟨u,rv,?_⟩;rcases S.Pp y (aS hp) with k|k
  ·exact .inl ⟨k,L5 Pq hp hu k⟩
  ·obtain⟨c,e⟩:=MH (n:=s.heap.objs.size+1) k;refine .inr ⟨.inl k,c,e,?_⟩;have q:=x.cell y c e;rw[L6 Pq hp hu (by show scope.names.lookup y≠_;rw[k];decide)] at q;exact q
 ·exact e0.gh.fresh (Nat.le_of_lt (x.above y c (bf h)))
 ·unfold start;show _=N.length;rw[ag,ac,bQ];omega
theorem Os{CX:qF}{P:Program}{w:World}{K:PySem.W.Frag}{mg:Str->Option Value}{base:Heap}{k:Nat}{f:Addr}{name qual:Str}{params:Arguments}{body:List Stmt}{scope:Scope}{dV kV doc pm gy ct oc:Value}{an od:Option Addr}
 {oX:Array (Option Value)} {N ps:List Str} {sp:Sp} (lk:K.lookup f=some ⟨oc,od,.func (PySem.W.fnOf name qual params body scope dV kV doc pm an gy ct),oX⟩) (nY:PySem.W.codeIn K gy qual=true) (S:gP N ps scope)
 (len:∀vs H Q E,sp vs H Q E->vs.length=ps.length)
 (rf:∀(A:Around) (outer:List Env) (s:Shared) (H:Hp) (vs:List V) (Q:VK) (E:XK),jN k (A.deeper (envOfC qual scope s.heap.objs.size f gy))->sp vs H Q E->
   ∃t,lZ (j5 CX P w K mg base N qual scope f gy A outer s H E) body t/\t {nx:=fun _ H'=>Q .gS H',rt:=Q} (start N vs) H):
 gK P w K mg base CX (k+1) f (PySem.W.fnOf name qual params body scope dV kV doc pm an gy ct) ps sp:=by
 refine⟨len,fun A outer s H args us vs Q E hr e0 hb r tj=> ?_⟩;have hl:=len _ _ _ _ tj;have KX:K.In s.heap:=e0.mod.u1.keeps fun b o e=>(e0.bs b o e).1
 have lim:s.heap.NoLimit:=e0.mod.nolimit.keeps fun b o e=>(e0.bs b o e).1
 have aad:∀y∈ps.zip us,scope.names.lookup y.1=some .local\/(scope.names.lookup y.1=some .cell/\((cellsFrom (s.heap.objs.size+1) scope.names []).lookup y.1).isSome=true):=fun⟨n,v⟩ hy=>by
  rcases S.Pp n (List.of_mem_zip hy).1 with q|q
  ·exact .inl q
  ·exact .inr ⟨q,PySem.W.cellsFrom_some _ _ _ (.inl q)⟩
 refine codeAny_call_function hr.depth (KX _ _ lk) Z S.co S.gen Z (PySem.W.codeRec_of KX nY) (hb _ _ _ _ ?_);refine wpAny_newFunctionEnv_cells S.kind aad fun env he s1 x=> ?_
 subst he;refine⟨lim.keeps x.toInCall.keep,codeAny_func ?_⟩;obtain⟨t,ht,hq⟩:=rf A outer s H vs Q E (hr.deeper _) tj;have I:Inv (j5 CX P w K mg base N qual scope f gy A outer s H E) [] (start N vs) H s1:=V0 S hr.hd e0 hl r x;refine bF (ht [] s1 (start N vs) H _ I hq) (fun fl s' hs=> ?_) fun e s' hs=>hs
 have fin:∀{gw:St} {H':Hp} {v:V} {u:Value},Inv (j5 CX P w K mg base N qual scope f gy A outer s H E) [] gw H' s'->RelV v u->Q v H'->CE outer P w H s Q u s':=
  fun{gw H' v u} J rv q=>⟨v,H',J.os,J.bare,J.base,J.gh,rv,q⟩
 cases fl with
 |ret u=>
  obtain⟨v,gw,H',J,rv,q⟩:=hs;exact fin J rv q
 |next=>
  obtain⟨gw,H',J,q⟩:=hs;exact fin (v:=V.gS) (u:=Value.none) J Z q
 |brk=>
  obtain⟨_,_,_,q⟩:=hs;exact False.elim q
 |cont=>
  obtain⟨_,_,_,q⟩:=hs;exact False.elim q
section
variable {X:Cx} {x:Str} {p pos:Pos} {e:Expr} {es:List Expr} {t:TA} {id T:String} {r:List V->Hp->VK->Prop}
def nZ(r:List V->Hp->VK->Prop)(t:TA):TE:=fun σ H Q=>t σ H fun vs H1=>r vs H1 Q
theorem gU(hc:mP X (.builtin id) r)(hg:Gl X x)(hm:X.mg x=none)(hv:bootBuiltins x=some (.builtin id))(ha:PA X (e::es) t)(hn:x≠"__name__":=by decide)(mV:(x==("__debug__":Str))=false:=by decide)
 (he:starEach (e::es) X.env=(false,eval e X.env)::starEach es X.env:=by rfl) (jp:(backTo pos (starEach es X.env)).any (·.1)=false:=by rfl):PE X (.Call (.Name x p) (e::es) [] pos) (nZ r t):=by
 intro fL s σ H Q I h;refine bH (qr I hg hm hv ?_ hn mV);exact PyProof.Rows.callWith_builtin1 (gm (ha pos fL s σ H _ I h) fun us s1 ⟨vs,H1,I1,r1,q1⟩=>hc fL s1 σ H1 vs us Q I1 r1 q1) he jp
theorem xW(hc:mP X (.type T) r)(hg:Gl X x)(hm:X.mg x=none)(hv:bootBuiltins x=some (.type T))(ha:PA X (e::es) t)(hn:x≠"__name__":=by decide)(mV:(x==("__debug__":Str))=false:=by decide)
 (he:starEach (e::es) X.env=(false,eval e X.env)::starEach es X.env:=by rfl) (jp:(backTo pos (starEach es X.env)).any (·.1)=false:=by rfl):PE X (.Call (.Name x p) (e::es) [] pos) (nZ r t):=by
 intro fL s σ H Q I h;refine bH (qr I hg hm hv ?_ hn mV);exact cp (gm (ha pos fL s σ H _ I h) fun us s1 ⟨vs,H1,I1,r1,q1⟩=>hc fL s1 σ H1 vs us Q I1 r1 q1) he jp
end
end L2
namespace HT
open PySem PyProof.Rows
section
variable {prog:Program} {w:World} {A:Around} {E:Value->Shared->Prop} {s:Shared}
def kL(n d:Nat):Option Int->Nat
 |none=>d
 |some v=>if v<0 then(v+(n:Int)).toNat else min v.toNat n
theorem MI(n d:Nat):kL n d none=d:=rfl
theorem ye(n d k:Nat):kL n d (some (k:Int))=min k n:=by
 show(if (k:Int)<0 then((k:Int)+(n:Int)).toNat else min (k:Int).toNat n)=min k n;rw[am (by omega),a7]
end
end HT
namespace L2
open PySem PySem.Spec PyProof.Rows
abbrev TO:=St->Hp->(Option Int->Hp->Prop)->Prop
def PO(X:Cx)(e:Option Expr)(t:TO):Prop:=
 ∀(fL:List (Addr×Obj)) (s:Shared) (σ:St) (H:Hp) (Q:Option Int->Hp->Prop),Inv X fL σ H s->t σ H Q->
  wpAny (model X.prog X.w) X.A (evalPart e X.env) (fun u s'=>∃o H',Inv X fL σ H' s'/\IsPart u o/\Q o H') X.xe s
def Yb:TO:=fun _ H Q=>Q none H
def aae(t:TE):TO:=fun σ H Q=>t σ H fun x H1=>∃i,x=.int i/\Q (some i) H1
section
variable {X:Cx} {e:Expr} {te:TE} {lo hi:Option Expr} {tl th:TO} {pos p2:Pos}
theorem Gp:PO X none Yb:=by
 intro fL s σ H Q I h;rw[evalPart_none];exact aY ⟨none,H,I,.none,h⟩
theorem kn(h:PE X e te):PO X (some e) (aae te):=by
 intro fL s σ H Q I hw;rw[evalPart_some];refine gm (h fL s σ H _ I hw) fun u s1 ⟨x,H1,I1,r1,q1⟩=> ?_
 obtain⟨i,rfl,q⟩:=q1;obtain⟨t,rfl⟩:=r1;exact⟨some i,H1,I1,.int i t,q⟩
def Pr(X:Cx)(r:V->Option Int->Option Int->Hp->VK->Prop):Prop:=
 ∀(fL:List (Addr×Obj)) (s:Shared) (σ:St) (H:Hp) (x:V) (v vl vu:Value) (lo hi:Option Int) (sl:Addr) (Q:VK),Inv X fL σ H s->RelV x v->s.heap.IsSliceOf sl vl vu .none->IsPart vl lo->IsPart vu hi->r x lo hi H Q->
  ∃T id,typeLookup (.type T) "__getitem__"=pure (some (.builtin id))/\s.TypeIs v T/\wpAny (model X.prog X.w) X.A (getItem v (.ref sl)) (EP X fL σ Q) X.xe s
def tSl(r:V->Option Int->Option Int->Hp->VK->Prop)(te:TE)(tl th:TO):TE:=fun σ H Q=>te σ H fun x H1=>tl σ H1 fun l H2=>th σ H2 fun u H3=>r x l u H3 Q
theorem oB{r:V->Option Int->Option Int->Hp->VK->Prop}(hr:Pr X r)(he:PE X e te)(hl:PO X lo tl)(hu:PO X hi th):PE X (.Subscript e (.Slice lo hi none p2) pos) (tSl r te tl th):=by
 intro fL s σ H Q I h;refine Subscript_ (gm (he fL s σ H _ I h) fun v s1 ⟨x,H1,I1,r1,q1⟩=> ?_);refine wpAny_Slice (gm (hl fL s1 σ H1 _ I1 q1) fun vl s2 ⟨l,H2,I2,pl,q2⟩=>gm (hu fL s2 σ H2 _ I2 q2) fun vu s3 ⟨u,H3,I3,pu,q3⟩=> ?_);rw[evalPart_none];refine aY ?_;have I4:Inv X fL σ H3 {s3 with heap:=s3.heap.push {cls:=.type "slice",data:=.fields #[vl,vu,.none]}}:=I3.kept (t':=s3.toks) fun b ob q=>aC _ q
 obtain⟨T,id,hT,ht,hg⟩:=hr fL {s3 with heap:=s3.heap.push {cls:=.type "slice",data:=.fields #[vl,vu,.none]}} σ H3 x v vl vu l u s3.heap.objs.size Q I4 r1 (Heap.IsSliceOf.new ..) pl pu q3;show wpAny (model X.prog X.w) X.A (subscriptTail e (.Slice lo hi none p2) v (.ref s3.heap.objs.size)) (EP X fL σ Q) X.xe {s3 with heap:=s3.heap.push {cls:=.type "slice",data:=.fields #[vl,vu,.none]}};exact tail_any (ops:=[.ref s3.heap.objs.size,v]) ht hT hg (by with_unfolding_all rfl)
def jZ(xs:List V)(lo hi:Option Int):List V:=(xs.drop (HT.kL xs.length 0 lo)).take (HT.kL xs.length xs.length hi-HT.kL xs.length 0 lo)
theorem Uw(xs:List V)(lo hi:Option Int):(jZ xs lo hi).length<=xs.length:=by
 unfold jZ;rw[aD,aW];omega
end
def qG(n:Nat)(i:Int):Option Nat:=if 0<=i then(if i<n then some i.toNat else none) else if-(n:Int)<=i then some (i+n).toNat else none
def mn{α:Type}(xs:List α)(i:Int):Option α:=(qG xs.length i).bind fun j=>xs[j]?
theorem No{n:Nat}{i:Int}{j:Nat}(h:qG n i=some j):seqIndex? i n=some j/\j<n/\ -(n:Int)<=i/\i<n:=by
 unfold qG at h
 by_cases h0:0<=i
 ·rw[aw h0] at h
  by_cases h1:i<n
  ·rw[aw h1] at h;have e:i.toNat=j:=af h;exact⟨by rw[seqIndex_of h0 h1,e],by omega,by omega,h1⟩
  ·rw[am h1] at h;cases h
 ·rw[am h0] at h
  by_cases h1: -(n:Int)<=i
  ·rw[aw h1] at h;have e:(i+n).toNat=j:=af h;exact⟨by rw[seqIndex_neg (by omega) h1,e],by omega,h1,by omega⟩
  ·rw[am h1] at h;cases h
theorem Gq{α:Type}{xs:List α}{i:Int}{v:α}(h:mn xs i=some v):∃j,seqIndex? i xs.length=some j/\xs[j]? =some v/\j<xs.length/\ -(xs.length:Int)<=i/\i<xs.length:=by
 unfold mn at h;cases e:qG xs.length i with
 |none=>rw[e] at h;cases h
 |some j=>
  rw[e] at h;obtain⟨h1,h2,h3,h4⟩:=No e;exact⟨j,h1,h,h2,h3,h4⟩
theorem AO{α:Type}{xs:List α}{j:Nat}{v:α}(h:xs[j]? =some v):mn xs (j:Int)=some v:=by
 have hj:j<xs.length:=(ap.mp h).1
 have e:qG xs.length (j:Int)=some j:=by
  unfold qG;rw[aw (by omega),aw (by omega)];simp
 unfold mn;rw[e];exact h
def Yc(b:Expr):Prop:=∀o i,subscripted b false o i=operate [o,i] (getItem o i)
def BS(X:Cx)(r:R2):Prop:=
 ∀(value qB:Expr) (fL:List (Addr×Obj)) (s:Shared) (σ:St) (H:Hp) (x y:V) (v u:Value) (Q:VK),Inv X fL σ H s->RelV x v->RelV y u->r x y H Q->
  subscripted qB false v u=operate [v,u] (getItem v u)->wpAny (model X.prog X.w) X.A (subscriptTail value qB v u) (EP X fL σ Q) X.xe s
def wR(X:Cx)(id:String)(r:V->List V->Hp->VK->Prop):Prop:=
 ∀(fL:List (Addr×Obj)) (s:Shared) (σ:St) (H:Hp) (x:V) (xs:List V) (v:Value) (us:List Value) (Q:VK),Inv X fL σ H s->RelV x v->gF xs us->r x xs H Q->
  wpAny (model X.prog X.w) X.A (call (.builtin id) (v::us)) (EP X fL σ Q) X.xe s
section
variable {X:Cx} {a b:Expr} {ta tb:TE} {pos:Pos}
theorem hV{r:R2}(hr:BS X r)(ha:PE X a ta)(hb:PE X b tb)(hs:Yc b):PE X (.Subscript a b pos) (kz r ta tb):=by
 intro fL s σ H Q I h;exact Subscript_ (Hf ha hb I h fun v u s2 x y H2 I2 rx ry q=>hr a b fL s2 σ H2 x y v u Q I2 rx ry q (hs _ _))
def wx(K:PySem.W.Frag):R2:=fun x y H Q=>∃p xs i v,x=.ref p/\y=.int i/\fR K H p xs/\mn xs i=some v/\Q v H
def wy(K:PySem.W.Frag):R2:=fun x y H Q=>∃p xs i v,x=.ref p/\y=.int i/\iN K H p xs/\mn xs i=some v/\Q v H
def OV:R2:=fun x y H Q=>∃z i c,x=.str z/\y=.int i/\z.length<=sizeLine/\mn z.cps.toList i=some c/\Q (.str ⟨#[c]⟩) H
theorem jb:BS X (wx X.K):=by
 intro value qB fL s σ H x y v u Q I rx ry h hs;obtain⟨p,xs,i,z,rfl,rfl,hq,he,q⟩:=h;cases rx;obtain⟨t,rfl⟩:=ry;obtain⟨fU,r,pl,hz⟩:=I.list hq;obtain⟨j,h1,h2,h3,h4,h5⟩:=Gq he;obtain⟨w,ew,og⟩:=r.get h2;have hl:=r.length;have hn:=vV;have fin:EP X fL σ Q w s:=⟨z,H,I,og,q⟩
 by_cases h0:0<=i
 ·have hj:i.toNat=j:=by
   rw[seqIndex_of h0 h5] at h1;exact af h1
  exact item_listR pl.isList h0 (by omega) (by rw[hj];simpa using ew) fin hs
 ·have hj:(i+(fU.toArray.size:Int)).toNat=j:=by
   rw[seqIndex_neg (by omega) h4] at h1;rw[aR,<-hl];exact af h1
  exact subscriptTail_builtinR (x:=w) pl.isList.typeIs slot_list_getitem.lookup
   (wpAny_getItem_list_neg (Q:=fun r s'=>r=w/\EP X fL σ Q r s') pl.isList (by omega) (by rw[aR]<;>omega) (by omega) (by rw[hj];simpa using ew) ⟨Z,fin⟩) hs
theorem jH:BS X (wy X.K):=by
 intro value qB fL s σ H x y v u Q I rx ry h hs;obtain⟨p,xs,i,z,rfl,rfl,hq,he,q⟩:=h;cases rx;obtain⟨t,rfl⟩:=ry;obtain⟨fU,r,pl,hz⟩:=I.tuple hq;obtain⟨j,h1,h2,h3,h4,h5⟩:=Gq he;obtain⟨w,ew,og⟩:=r.get h2;have hl:=r.length;have hn:=vV;have fin:EP X fL σ Q w s:=⟨z,H,I,og,q⟩
 exact subscriptTail_builtinR (x:=w) pl.typeIs slot_tuple_getitem.lookup
  (getItem_tuple (j:=j) (Q:=fun r s'=>r=w/\EP X fL σ Q r s') pl (by omega) (by omega) (by rw[aR,<-hl];exact h1) (by simpa using ew) ⟨Z,fin⟩) hs
theorem GI:BS X OV:=by
 intro value qB fL s σ H x y v u Q I rx ry h hs;obtain⟨z,i,c,rfl,rfl,hz,he,q⟩:=h;obtain⟨t,rfl⟩:=rx;obtain⟨t',rfl⟩:=ry;obtain⟨j,h1,h2,h3,h4,h5⟩:=Gq he;have hl:z.cps.toList.length=z.length:=by simp[Str.length]
 rw[hl] at h1 h4 h5;have hn:=vV
 exact tail_any (typeIs_str s z t) slot_str_getitem.lookup (getItem_str (c:=c) (by
  have e1:decide (i< -(2^63:Int))=false:=ae (by omega);have e2:decide (i>=2^63)=false:=ae (by omega);rw[e1,e2,Bool.or_false]) (by rw[h1];simpa using h2) ⟨.str ⟨#[c]⟩,H,I.tok _,⟨_,Z⟩,q⟩) hs
theorem Ve(fU:List Value)(n j:Nat)(u:Value):Obj.mapSeq (·.setIfInBounds j u) {cls:=.type "list",data:=.seq fU.toArray n}={cls:=.type "list",data:=.seq (fU.set j u).toArray n}:=by
 simp[Obj.mapSeq]
theorem Inv.lst{fL:List (Addr×Obj)}{σ:St}{H:Hp}{s:Shared}{p:Addr}{xs:List V}(I:Inv X fL σ H s)(h:H p=some (.lst xs)):
 ∃(fU:List Value) (n:Nat),gF xs fU/\s.heap.get? p=some {cls:=.type "list",data:=.seq fU.toArray n}/\xs.length<=sizeLine:=by
 obtain⟨z,fU,n,r,e⟩:=I.gh p _ h;exact⟨fU,n,r,e,z⟩
theorem Inv.Zk{fL:List (Addr×Obj)}{σ:St}{H:Hp}{s:Shared}{p:Addr}{xs ys:List V}{fU nz:List Value}{n n':Nat}{f:Obj->Obj}(I:Inv X fL σ H s)(h:H p=some (.lst xs))
 (ho:s.heap.get? p=some {cls:=.type "list",data:=.seq fU.toArray n}) (hf:f {cls:=.type "list",data:=.seq fU.toArray n}={cls:=.type "list",data:=.seq nz.toArray n'}) (r:gF ys nz) (hz:ys.length<=sizeLine) (t:Nat):
 Inv X fL σ (fM H p (.lst ys)) {s with heap:=s.heap.update p f,toks:=t}:=by
 have e:(s.heap.update p f).get? p=some {cls:=.type "list",data:=.seq nz.toArray n'}:=by
  rw[b6 f ho (by rw[hf]<;>rfl),hf]
 refine I.write (x:=p) (e:=p) (by rw[h];trivial) (.inl Z) (fun b u hb q=>(bq _ _ (cI hb)).trans q) ⟨_,e⟩ ?_;exact⟨hz,nz,n',r,e⟩
def aaf:V->V->V->Hp->(Hp->Prop)->Prop:=fun o i v H Q=>∃p xs k j,o=.ref p/\i=.int k/\H p=some (.lst xs)/\qG xs.length k=some j/\Q (fM H p (.lst (xs.set j v)))
theorem W4:OP X aaf:=by
 intro fL s σ H o i v ov iv u Q I ro ri rv h;obtain⟨p,xs,k,j,rfl,rfl,hp,hj,q⟩:=h;cases ro;obtain⟨t,rfl⟩:=ri;obtain⟨fU,n,r,ho,hz⟩:=I.lst hp;obtain⟨h1,h2,h3,h4⟩:=No hj;have hl:=r.length;have hn:=vV
 have I':Inv X fL σ (fM H p (.lst (xs.set j v))) {s with heap:=s.heap.update p (Obj.mapSeq (·.setIfInBounds j u))}:=
  I.Zk hp ho (Ve fU n j u) (r.set rv j) (by rw[List.length_set];exact hz) s.toks
 by_cases h0:0<=k
 ·have hk:k.toNat=j:=by
   rw[seqIndex_of h0 h4] at h1;exact af h1
  exact PySem.W.ki_setAt ho h0 (by omega) (by rw[aR,<-hl];exact h4) (by rw[hk];exact⟨_,I',q⟩)
 ·have hk:(k+(fU.toArray.size:Int)).toNat=j:=by
   rw[seqIndex_neg (by omega) h3] at h1;rw[aR,<-hl];exact af h1
  exact PySem.W.ki_setBack ho (by omega) (by rw[aR,<-hl];exact h3) (by omega) (by rw[hk];exact⟨_,I',q⟩)
theorem TU(lo hi:Option Int)(n:Nat):(sliceBounds lo hi none n).1=((HT.kL n 0 lo:Nat):Int)/\(sliceBounds lo hi none n).2.1=((HT.kL n n hi:Nat):Int)/\(sliceBounds lo hi none n).2.2=1:=by
 refine⟨?_,?_,Z⟩
 ·cases lo with
  |none=>simp[sliceBounds,HT.kL]
  |some i=>
   simp only[sliceBounds,HT.kL,Option.getD_none,show(1:Int)>0 by decide,dz]
   by_cases h:i<0
   ·simp only[h,dz]<;>omega
   ·simp only[h,cW]<;>omega
 ·cases hi with
  |none=>simp[sliceBounds,HT.kL]
  |some i=>
   simp only[sliceBounds,HT.kL,Option.getD_none,show(1:Int)>0 by decide,dz]
   by_cases h:i<0
   ·simp only[h,dz]<;>omega
   ·simp only[h,cW]<;>omega
theorem Tb(fU:List Value)(lo hi:Option Int):slicePick fU.toArray lo hi none=((fU.drop (HT.kL fU.length 0 lo)).take (HT.kL fU.length fU.length hi-HT.kL fU.length 0 lo)).toArray:=by
 obtain⟨h1,h2,h3⟩:=TU lo hi fU.toArray.size;unfold slicePick;rw[h1,h2,h3];simp only[sliceRange_one,pick_run,aR]<;>rfl
def Hi(K:PySem.W.Frag):V->Option Int->Option Int->Hp->VK->Prop:=fun x lo hi H Q=>∃a xs,x=.ref a/\fR K H a xs/\∀p,H p=none->Q (.ref p) (fM H p (.lst (jZ xs lo hi)))
theorem oF:Pr X (Hi X.K):=by
 intro fL s σ H x v vl vu lo hi sl Q I rx hs pl pu h;obtain⟨a,xs,rfl,hx,q⟩:=h;cases rx;obtain⟨fU,r,ht,hz⟩:=I.list hx;have j6:=r.length;refine⟨"list",_,slot_list_getitem.lookup,ht.isList.typeIs,?_⟩;refine wpAny_getItem_list_slice ht.isList hs pl pu .none (by simp) ?_ (by rw[aR]<;>omega);rw[Tb,<-j6];refine⟨.ref s.heap.objs.size,_,I.laid (t':=s.toks) (o:=.lst (jZ xs lo hi)) (fun b ob q=>aC _ q) (aA _) ?_,Z,q _ (I.gh.fresh (aA _))⟩;exact⟨a8 (Uw xs lo hi) hz,_,0,(r.drop (HT.kL xs.length 0 lo)).take (HT.kL xs.length xs.length hi-HT.kL xs.length 0 lo),aO _ Z⟩
def qC:V->Bool
 |.gS=>true
 |.bl _=>true
 |.int _=>true
 |.str _=>true
 |_=>false
def tm:V->V->Bool
 |.gS,.gS=>true
 |.bl a,.bl b=>a==b
 |.bl a,.int b=>(if a then 1 else 0)==b
 |.int a,.bl b=>a==(if b then 1 else 0)
 |.int a,.int b=>a==b
 |.str a,.str b=>a==b
 |_,_=>false
theorem Zl{A:Around}{s:Shared}{y x:V}{u v:Value}(ry:RelV y u)(rx:RelV x v)(fy:qC y=true)(fx:qC x=true):SeqAt.EqAt A s u v (tm y x):=by
 cases y with
 |gS=>
  cases ry;cases x with
  |gS=>cases rx;exact SeqAt.EqAt.same _
  |bl b=>cases rx;exact SeqAt.EqAt.none_bool b
  |int b=>obtain⟨t,rfl⟩:=rx;exact SeqAt.EqAt.none_int b t
  |str b=>obtain⟨t,rfl⟩:=rx;exact SeqAt.EqAt.none_str b t
  |_=>exact absurd (show false=true from fx) aQ
 |bl a=>
  cases ry;cases x with
  |gS=>cases rx;exact SeqAt.EqAt.bool_none a
  |bl b=>cases rx;exact SeqAt.EqAt.bool_bool a b
  |int b=>obtain⟨t,rfl⟩:=rx;exact SeqAt.EqAt.bool_int a b t
  |str b=>obtain⟨t,rfl⟩:=rx;exact SeqAt.EqAt.bool_str a b t
  |_=>exact absurd (show false=true from fx) aQ
 |int a=>
  obtain⟨t',rfl⟩:=ry;cases x with
  |gS=>cases rx;exact SeqAt.EqAt.int_none a t'
  |bl b=>cases rx;exact SeqAt.EqAt.int_bool a t' b
  |int b=>obtain⟨t,rfl⟩:=rx;exact SeqAt.EqAt.int_int a t' b t
  |str b=>obtain⟨t,rfl⟩:=rx;exact SeqAt.EqAt.int_str a t' b t
  |_=>exact absurd (show false=true from fx) aQ
 |str a=>
  obtain⟨t',rfl⟩:=ry;cases x with
  |gS=>cases rx;exact SeqAt.EqAt.str_none a t'
  |bl b=>cases rx;exact SeqAt.EqAt.str_bool a t' b
  |int b=>obtain⟨t,rfl⟩:=rx;exact SeqAt.EqAt.str_int a t' b t
  |str b=>obtain⟨t,rfl⟩:=rx;exact SeqAt.EqAt.str_str a t' b t
  |_=>exact absurd (show false=true from fx) aQ
 |_=>exact absurd (show false=true from fy) aQ
def rA(x:V)(u:Value):Bool:=match u with
 |.none=>tm .gS x
 |.bool b=>tm (.bl b) x
 |.int i _=>tm (.int i) x
 |.str z _=>tm (.str z) x
 |_=>false
theorem N8{x y:V}{u:Value}(r:RelV y u)(f:qC y=true):rA x u=tm y x:=by
 cases y with
 |gS=>cases r;rfl
 |bl b=>cases r;rfl
 |int i=>obtain⟨t,rfl⟩:=r;rfl
 |str z=>obtain⟨t,rfl⟩:=r;rfl
 |_=>exact absurd (show false=true from f) aQ
theorem Gr{x:V}:∀{xs:List V} {us:List Value},gF xs us->xs.all qC=true->us.any (rA x)=xs.any fun y=>tm y x
 |_,_,.nil,_=>rfl
 |y::xs,u::us,.cons r t,f=>by
  rw[cQ,aH] at f;rw[dv,dv,N8 r f.1,Gr t f.2]
theorem FS{A:Around}{s:Shared}{x:V}{v:Value}(rx:RelV x v)(fx:qC x=true):∀{xs:List V} {us:List Value},gF xs us->xs.all qC=true->∀u∈us,SeqAt.EqAt A s u v (rA x u)
 |_,_,.nil,_=>fun u hu=>by cases hu
 |y::xs,u::us,.cons r t,f=>fun u' hu=>by
  rw[cQ,aH] at f;rcases az.mp hu with rfl|hu
  ·rw[N8 r f.1];exact Zl r rx f.1 fx
  ·exact FS rx fx t f.2 u' hu
def oY(x:V)(xs:List V):Bool:=xs.any fun y=>tm y x
def rIn(K:PySem.W.Frag)(neg:Bool):R2:=fun x y H Q=>∃p xs,y=.ref p/\(fR K H p xs\/iN K H p xs)/\qC x=true/\xs.all qC=true/\Q (.bl (if neg then !oY x xs else oY x xs)) H
theorem xX:jo X (compareOp .In) (rIn X.K false):=by
 intro fL s σ H x y v u Q I rx ry h;obtain⟨p,xs,rfl,hq,fx,fs,q⟩:=h;cases ry;rcases hq with hq|hq
 ·obtain⟨fU,r,pl,hz⟩:=I.list hq;refine SeqAt.in_listAt (rA x) pl.isList (fun w hw=>FS rx fx r fs w (by simpa using hw)) ⟨.bl _,H,I,Z,?_⟩;rw[show fU.toArray.any (rA x)=fU.any (rA x) by simp,Gr r fs];exact q
 ·obtain⟨fU,r,pl,hz⟩:=I.tuple hq;refine SeqAt.in_tupleAt (rA x) pl (fun w hw=>FS rx fx r fs w (by simpa using hw)) ⟨.bl _,H,I,Z,?_⟩;rw[show fU.toArray.any (rA x)=fU.any (rA x) by simp,Gr r fs];exact q
theorem iL:mP X (.builtin "len") (fun xs H Q=>∃p ys,xs=[.ref p]/\(fR X.K H p ys\/iN X.K H p ys)/\Q (.int ys.length) H):=by
 intro fL s σ H xs us Q I r h;obtain⟨p,ys,rfl,hq,q⟩:=h;obtain⟨u,rfl,rx⟩:=vals1 r;cases rx;have hn:=vV;rcases hq with hq|hq
 ·obtain⟨fU,r',pl,hz⟩:=I.list hq;have j6:=r'.length;exact Calls.call_len_list pl.isList (by simp only[aR]<;>omega) ⟨.int ys.length,H,I.tok _,⟨s.toks+1,by rw[aR,j6]⟩,q⟩
 ·obtain⟨fU,r',pl,hz⟩:=I.tuple hq;have j6:=r'.length;exact len_tuple pl (by simp only[aR]<;>omega) ⟨.int ys.length,H,I.tok _,⟨s.toks+1,by rw[aR,j6]⟩,q⟩
theorem zQ:mP X (.builtin "len") (fun xs H Q=>∃z,xs=[.str z]/\z.length<=sizeLine/\Q (.int z.length) H):=by
 intro fL s σ H xs us Q I r h;obtain⟨z,rfl,hz,q⟩:=h;obtain⟨u,rfl,t,rfl⟩:=vals1 r;have hn:=vV;exact len_str (by omega) ⟨.int z.length,H,I.tok _,⟨_,Z⟩,q⟩
theorem J3:mP X (.type "tuple") (fun xs H Q=>∃p ys,xs=[.ref p]/\((fR X.K H p ys/\∀l,H l=none->Q (.ref l) (fM H l (.tup ys)))\/(iN X.K H p ys/\Q (.ref p) H))):=by
 intro fL s σ H xs us Q I r h;obtain⟨p,ys,rfl,h⟩:=h;obtain⟨u,rfl,rx⟩:=vals1 r;cases rx;rcases h with⟨hq,q⟩|⟨hq,q⟩
 ·obtain⟨fU,r',pl,hz⟩:=I.list hq;have j6:=r'.length;refine call_tuple_list pl.isList (fun h' kp=> ?_) (by simp only[aR]<;>omega);have I1:Inv X fL σ H {s with heap:=h'}:=I.kept (t':=s.toks) kp
  have I2:Inv X fL σ (fM H h'.objs.size (.tup ys)) {s with heap:=h'.push {cls:=.type "tuple",data:=.seq fU.toArray}}:=
   I1.laid (t':=s.toks) (fun b o e=>aC _ e) (aA _) (show jj X.prog X.w _ _ _ (.tup ys) from⟨hz,fU,r',IsTup.new _ _⟩)
  exact⟨.ref h'.objs.size,_,I2,Z,q _ (I1.gh.fresh (aA _))⟩
 ·obtain⟨fU,r',pl,hz⟩:=I.tuple hq;exact call_tuple_same pl ⟨.ref p,H,I,Z,q⟩
def HI(K:PySem.W.Frag)(T:String)(x:V)(H:Hp):Prop:=match x with
 |.str _=>T="str"
 |.int _=>T="int"
 |.ref p=>(T="list"/\∃xs,fR K H p xs)\/(T="tuple"/\∃o,K.lookup p=some o/\o.cls=.type "tuple"/\o.dict=none)\/
  (T="dict"/\((∃kvs,H p=some (.dK kvs))\/∃kvs,H p=some (.dT kvs)))\/(T="set"/\∃S n,H p=some (.set S n))
 |_=>False
theorem N9{fL:List (Addr×Obj)}{σ:St}{H:Hp}{s:Shared}{T:String}{x:V}{v:Value}(I:Inv X fL σ H s)(r:RelV x v)(ty:HI X.K T x H):
 s.TypeIs v T/\∀a,v=.ref a->∃ob,s.heap.get? a=some ob/\ob.dict=none:=by
 cases x with
 |str z=>
  obtain⟨t,rfl⟩:=r;cases (show T="str" from ty);exact⟨typeIs_str s z t,fun _ e=>nomatch e⟩
 |int i=>
  obtain⟨t,rfl⟩:=r;cases (show T="int" from ty);exact⟨typeIs_int s i t,fun _ e=>nomatch e⟩
 |ref p=>
  cases r;rcases ty with⟨rfl,xs,hq⟩|⟨rfl,o,hk,hc,hd⟩|⟨rfl,hk⟩|⟨rfl,S,n,hk⟩
  ·obtain⟨fU,_,pl,_⟩:=I.list hq;refine⟨pl.isList.typeIs,fun a e=> ?_⟩;cases e;obtain⟨o,n,e,c,hd,_⟩:=pl;exact⟨o,e,hd⟩
  ·refine⟨⟨o,I.jE p o hk,hc⟩,fun a e=> ?_⟩;cases e;exact⟨o,I.jE _ o hk,hd⟩
  ·have z:∃o,s.heap.get? p=some o/\o.ExactDict:=by
    rcases hk with⟨kvs,hk⟩|⟨kvs,hk⟩
    ·obtain⟨_,_,_,_,o,_,_,e,ex,_⟩:=I.gh p _ hk;exact⟨o,e,ex⟩
    ·obtain⟨_,_,_,_,o,_,_,e,ex,_⟩:=I.gh p _ hk;exact⟨o,e,ex⟩
   obtain⟨o,e,ex⟩:=z;refine⟨⟨o,e,ex.1⟩,fun a e2=> ?_⟩;cases e2;exact⟨o,e,ex.2.1⟩
  ·obtain⟨o,_,_,_,e,ex,_⟩:=I.gh p _ hk;refine⟨⟨o,e,ex.1⟩,fun a e2=> ?_⟩;cases e2;exact⟨o,e,ex.2.1⟩
 |_=>exact False.elim ty
def aa5(K:PySem.W.Frag)(T:String)(r:V->List V->Hp->VK->Prop)(to:TE):TE:=fun σ H Q=>to σ H fun x H1=>HI K T x H1/\r x [] H1 Q
def u7(K:PySem.W.Frag)(T:String)(r:V->List V->Hp->VK->Prop)(to:TE)(t:TA):TE:=fun σ H Q=>to σ H fun x H1=>HI K T x H1/\t σ H1 fun xs H2=>r x xs H2 Q
variable {o e:Expr} {es:List Expr} {to:TE} {t:TA} {name:Str} {jC jT:Pos} {T id:String} {r:V->List V->Hp->VK->Prop}
theorem Zm(pa:PlainAttrs T)(slot:Slot T name id)(tq:typeOf (.builtin id)=pure (.type "method_descriptor"))(hm:wR X id r)(ho:PE X o to)
 (rg:attributeBase o name X.env (eval o X.env)=eval o X.env:=by rfl) (oK:(jC.endLine==jT.line)=true:=by rfl):PE X (.Call (.Attribute o name jC) [] [] jT) (aa5 X.K T r to):=by
 intro fL s σ H Q I h;refine wpAny_Call_method0_late rg oK (gm (ho fL s σ H _ I h) fun v s1 ⟨x,H1,I1,r1,ty,q1⟩=> ?_);obtain⟨h1,h2⟩:=N9 I1 r1 ty;exact⟨T,id,pa,slot,tq,h1,h2,dH Z (PySem.evalArgs_none (hm fL s1 σ H1 x [] v [] Q I1 r1 .nil q1))⟩
theorem iT(pa:PlainAttrs T)(slot:Slot T name id)(tq:typeOf (.builtin id)=pure (.type "method_descriptor"))(hm:wR X id r)(ho:PE X o to)(ha:PA X (e::es) t)
 (rg:attributeBase o name X.env (eval o X.env)=eval o X.env:=by rfl)
 (aa6:((backTo jT (starEach (e::es) X.env)).all (fun x=> !x.1)&&(backToKw jT (keywordEach [] X.env)).all (fun x=>x.1.isSome)
   &&decide ((e::es).length+([]:List Keyword).length+(if ([]:List Keyword).isEmpty then 0 else 1)<30))=true:=by rfl)
 (oK:(jC.endLine==jT.line)=true:=by rfl) (hs:starEach (e::es) X.env=(false,eval e X.env)::starEach es X.env:=by rfl) (GJ:(backTo jT (starEach es X.env)).any (·.1)=false:=by rfl):
 PE X (.Call (.Attribute o name jC) (e::es) [] jT) (u7 X.K T r to t):=by
 intro fL s σ H Q I h;refine wpAny_Call_method_late rg aa6 oK Z (gm (ho fL s σ H _ I h) fun v s1 ⟨x,H1,I1,r1,ty,q1⟩=> ?_);obtain⟨h1,h2⟩:=N9 I1 r1 ty;refine⟨T,id,pa,slot,tq,h1,h2,?_⟩;have hA:=ha jT fL s1 σ H1 _ I1 q1;rw[hs] at hA⊢;refine dH (by show(false||(backTo jT (starEach es X.env)).any (·.1))=false;rw[GJ]<;>rfl) (Calls.evalArgs_plain ?_);exact gm hA fun us s2 ⟨vs,H2,I2,r2,q2⟩=>hm fL s2 σ H2 x vs v us Q I2 r1 r2 q2
end
def Ps(X:Cx)(id:String)(r:V->List V->Hp->VK->Prop):Prop:=
 ∀(fL:List (Addr×Obj)) (s:Shared) (σ:St) (H:Hp) (x:V) (xs:List V) (v:Value) (us:List Value) (Q:VK),Inv X fL σ H s->RelV x v->gF xs us->r x xs H Q->
  wpAny (model X.prog X.w) X.A (call (.builtin id) (v::us)) (EP X fL σ Q) X.xe s
theorem gF.one:∀{x:V} {us:List Value},gF [x] us->∃u,us=[u]/\RelV x u
 |_,_,.cons r .nil=>⟨_,Z,r⟩
theorem gF.rep{xs:List V}{us:List Value}(h:gF xs us):∀k:Nat,gF (List.replicate k xs).flatten (List.replicate k us).flatten
 |0=>.nil
 |k+1=>by
  rw[bN,bN,cu,cu];exact gF.append h (gF.rep h k)
theorem foldl_rep(fU:List Value):∀(k:Nat) (acc:List Value),
 List.foldl (fun x1 x2=>x1++x2) acc.toArray (List.replicate k fU.toArray)=(acc++(List.replicate k fU).flatten).toArray
 |0,acc=>by simp
 |k+1,acc=>by
  have e:acc.toArray++fU.toArray=(acc++fU).toArray:=by simp
  have e2:(acc++fU)++(List.replicate k fU).flatten=acc++(List.replicate (k+1) fU).flatten:=by
   rw[bN,cu,a6]
  rw[<-e2,<-foldl_rep fU k (acc++fU),<-e,bN,bJ]
section
variable {X:Cx} {fL:List (Addr×Obj)} {σ:St} {H:Hp} {s:Shared} {l b:Addr} {xs ys zs:List V}
theorem Inv.OW{fU nz:List Value}{n:Nat}{f:Array Value->Array Value}{t':Nat}(I:Inv X fL σ H s)(hH:H l=some (.lst xs))
 (e:s.heap.get? l=some {cls:=.type "list",data:=.seq fU.toArray n}) (hf:f fU.toArray=nz.toArray) (hv:gF ys nz) (hz:ys.length<=sizeLine):
 Inv X fL σ (fM H l (.lst ys)) {s with heap:=s.heap.update l (Obj.mapSeq f),toks:=t'}:=by
 have q:=PySem.IsL.update e f;rw[hf] at q;refine I.write (x:=l) (e:=l) (by rw[hH];exact trivial) (.inl Z) (fun b' u hb hu=>(bq s.heap (Obj.mapSeq f) (cI hb)).trans hu) ⟨_,q⟩ ?_;exact⟨hz,nz,_,hv,q⟩
theorem Inv.OX{fU:List Value}{t':Nat}(I:Inv X fL σ H s)(hv:gF ys fU)(hz:ys.length<=sizeLine):
 Inv X fL σ (fM H s.heap.objs.size (.lst ys)) {s with heap:=s.heap.push {cls:=.type "list",data:=.seq fU.toArray},toks:=t'}:=
 I.laid (fun _ _ q=>aC _ q) (aA _) ⟨hz,fU,0,hv,aO _ Z⟩
theorem Inv.fresh(I:Inv X fL σ H s):H s.heap.objs.size=none:=I.gh.fresh (aA _)
theorem Inv.wz(I:Inv X fL σ H s)(hH:H l=some (.lst xs)):xs.length<=sizeLine/\∃(fU:List Value) (n:Nat),gF xs fU/\xs.length=fU.length/\s.heap.get? l=some {cls:=.type "list",data:=.seq fU.toArray n}:=by
 obtain⟨z,fU,n,r,e⟩:=I.gh l _ hH;exact⟨z,fU,n,r,r.length,e⟩
theorem MJ{n:Nat}(h:n<=sizeLine):Builtin.List.listTooLong n=false:=by
 unfold Builtin.List.listTooLong;exact ae (by omega)
end
section
variable {X:Cx}
def ux:V->List V->Hp->VK->Prop:=fun x vs H Q=>∃l xs y,x=.ref l/\vs=[y]/\H l=some (.lst xs)/\xs.length<sizeLine/\Q .gS (fM H l (.lst (xs++[y])))
theorem kE:Ps X "list.append" ux:=by
 intro fL s σ H x vs v us Q I rx rv h;obtain⟨l,xs,y,rfl,rfl,hH,hz,q⟩:=h;cases rx;obtain⟨u,rfl,ru⟩:=rv.one;obtain⟨z,fU,n,r,hl,e⟩:=I.wz hH;refine call_meets aI ⟨_,e,Z⟩ F.entry_list_append (F.args_list_append_2 _ _) (PySem.list_append l fU.toArray n u (by rw[aR];omega)) ⟨e,?_⟩;refine⟨.gS,_,I.OW (nz:=fU++[u]) hH e (by simp) (r.append (.cons ru .nil)) ?_,Z,q⟩;rw[ag,bD];omega
def Yd:V->List V->Hp->VK->Prop:=fun x vs H Q=>∃l b xs zs,x=.ref l/\vs=[.ref b]/\H l=some (.lst xs)/\H b=some (.lst zs)/\xs.length+zs.length<=sizeLine/\Q .gS (fM H l (.lst (xs++zs)))
theorem m6:Ps X "list.extend" Yd:=by
 intro fL s σ H x vs v us Q I rx rv h;obtain⟨l,b,xs,zs,rfl,rfl,hH,hB,hz,q⟩:=h;cases rx;obtain⟨u,rfl,ru⟩:=rv.one;cases ru;obtain⟨z,fU,n,r,hl,e⟩:=I.wz hH;obtain⟨z2,pQ,n2,r2,oZ,e2⟩:=I.wz hB;have hsz:fU.toArray.size+pQ.toArray.size<=sizeLine:=by rw[aR,aR];omega
 have GX:¬(!fU.toArray.isEmpty&&Builtin.List.listTooLong (fU.toArray.size+pQ.toArray.size))=true:=by
  rw[MJ hsz,dA];exact aQ
 refine call_meets a0 ⟨_,e,Z⟩ F.entry_list_extend (F.args_list_extend_2 _ _)
  (AutoSeq1.list_extend_list_list_0 l fU.toArray n b pQ.toArray n2 GX (by rw[aR];omega) (by omega)) ⟨e,e2,?_⟩
 refine⟨.gS,_,I.OW (nz:=fU++pQ) hH e (by simp) (r.append r2) ?_,Z,q⟩;rw[ag];omega
def OY:R2:=fun x y H Q=>∃l b xs zs,x=.ref l/\y=.ref b/\H l=some (.lst xs)/\H b=some (.lst zs)/\xs.length+zs.length<=sizeLine/\∀p,H p=none->Q (.ref p) (fM H p (.lst (xs++zs)))
theorem j2:jo X (binaryOp .Add) OY:=by
 intro fL s σ H x y v u Q I rx ry h;obtain⟨l,b,xs,zs,rfl,rfl,hH,hB,hz,q⟩:=h;cases rx;cases ry;obtain⟨z,fU,n,r,hl,e⟩:=I.wz hH;obtain⟨z2,pQ,n2,r2,oZ,e2⟩:=I.wz hB;refine PySem.P.add_list e e2 ?_ (by rw[aR,aR];omega);have ea:fU.toArray++pQ.toArray=(fU++pQ).toArray:=by simp
 rw[ea];exact⟨.ref _,_,I.OX (t':=s.toks) (r.append r2) (by rw[ag];omega),Z,q _ I.fresh⟩
def aa7:R2:=fun x y H Q=>∃l k xs,x=.ref l/\y=.int k/\H l=some (.lst xs)/\ -(2^63)<=k/\k<2^63/\xs.length*k.toNat<=sizeLine/\
 ∀p,H p=none->Q (.ref p) (fM H p (.lst (List.replicate k.toNat xs).flatten))
theorem Ye{α:Type}(xs:List α)(k:Nat):(List.replicate k xs).flatten.length=k*xs.length:=by
 induction k with
 |zero=>simp
 |succ k ih=>rw[bN,cu,ag,ih,d9,Nat.add_comm]
theorem A8:jo X (binaryOp .Mult) aa7:=by
 intro fL s σ H x y v u Q I rx ry h;obtain⟨l,k,xs,rfl,rfl,hH,h1,h2,hz,q⟩:=h;cases rx;obtain⟨t,rfl⟩:=ry;obtain⟨z,fU,n,r,hl,e⟩:=I.wz hH;have j6:fU.toArray.size*k.toNat<=sizeLine:=by rw[aR,<-hl];exact hz
 have aa8:¬fU.toArray.size*k.toNat>(2^63-1)/8:=by
  have:(sizeLine:Nat)<=(2^63-1)/8:=by decide
  omega
 have sP:¬(!Builtin.List.listFitsIndex k)=true:=by
  rw[fitsIndex_both h1 h2];exact aQ
 have GX:¬Builtin.List.listTooLong (fU.toArray.size*k.toNat)=true:=by
  rw[MJ j6];exact aQ
 have yx:List.foldl (fun x1 x2=>x1++x2) #[] (List.replicate (if fU.toArray.isEmpty=true then 0 else k.toNat) fU.toArray)=(List.replicate k.toNat fU).flatten.toArray:=by
  have f0:∀m:Nat,List.foldl (fun x1 x2=>x1++x2) #[] (List.replicate m fU.toArray)=(List.replicate m fU).flatten.toArray:=fun m=>by
   have:=foldl_rep fU m [];rw[List.nil_append] at this;exact this
  rw[f0];cases fU with
  |nil=>simp
  |cons a r'=>rw[am (by simp)]
 refine wpAny_binaryOp_repeat_ref (T:="list") (U:="int") (by decide) ⟨_,e,Z⟩ (fun s'=>typeIs_int s' k t) noFill_list_mul F.fills_int_mul F.slot_int_rmul repeat_list F.slot_int_index.lookup
  (call_meets F.slot_int_rmul (typeIs_int s k t) F.entry_int_rmul (F.args_int_rmul_2 _ _) (int___rmul___int_list k t l fU.toArray n)
    ⟨e,Z,⟨_,e,Z⟩,call_meets F.slot_list_mul ⟨_,e,Z⟩ F.entry_list_mul (F.args_list_mul_2 _ _) (AutoListH.list___mul___list_int_3 l fU.toArray n k t sP aa8 GX) ⟨e,?_⟩⟩)
 rw[yx];exact⟨.ref _,_,I.OX (t':=s.toks) (r.rep k.toNat) (by rw[Ye,Nat.mul_comm];exact hz),Z,q _ I.fresh⟩
end
section
variable {prog:Program} {w:World} {A:Around} {E:Value->Shared->Prop} {s:Shared}
set_option maxRecDepth 100000 in
end
theorem gF.ints:∀{ns:List Int} {us:List Value},gF (ns.map V.int) us->IntsAre us ns
 |[],us,h=>by
  rw[cg] at h;cases h;exact IntsAre.nil
 |n::ns,us,h=>by
  rw[aB] at h;cases h with
  |cons r t=>
   obtain⟨k,rfl⟩:=r;exact IntsAre.cons n k (gF.ints t)
theorem gF.HJ:∀{bs:List Bool} {us:List Value},gF (bs.map V.bl) us->us=bs.map Value.bool
 |[],us,h=>by
  rw[cg] at h;cases h;rfl
 |b::bs,us,h=>by
  rw[aB] at h;cases h with
  |cons r t=>
   cases r;rw[gF.HJ t,aB]
theorem gF.yy{a:Addr}{us:List Value}(r:gF [V.ref a] us):us=[Value.ref a]:=by
 cases r with
 |cons r t=>
  cases t;cases r;rfl
theorem MK{prog:Program}{w:World}{A:Around}{E:Value->Shared->Prop}{s:Shared}{l:Addr}{items:Array Value}{Q:Value->Shared->Prop}(hl:s.heap.IsList l items)
 (h:∀jM:Shared,jM={s with heap:=s.heap.push {cls:=.type "list_iterator",data:=.fields #[.ref l,.int 0 0]}}->
   (jM.heap.IsListIter s.heap.objs.size l 0/\jM.heap.IsList l items)->l≠s.heap.objs.size->Q (.ref s.heap.objs.size) jM):wpAny (model prog w) A (pyIter (.ref l)) Q E s:=by
 have hZ:l<s.heap.objs.size:=by obtain⟨_,e,_⟩:=hl;exact aK e
 exact dR hl (h _ Z ⟨⟨_,aO _ Z,Z,Z⟩,hl.push _⟩ (ba hZ))
theorem KN{prog:Program}{w:World}{A:Around}{bs:List Bool}{fU:List Value}(e:fU=bs.map Value.bool):
 TruthOf prog w A (fun i v=>fU.toArray[i]? =some v) (fun i=>bs.getD i false):=fun i v s Q E hv hq=>by
 have BQ:fU[i]? =some v:=by simpa using hv
 rw[e,au] at BQ;obtain⟨b,hb,rfl⟩:=Option.map_eq_some_iff.mp BQ;have hg:bs.getD i false=b:=by rw[aE,hb]<;>rfl
 have s0:Q (bs.getD i false) s:=hq;rw[hg] at s0;exact bR s0
theorem any_range:∀bs:List Bool,(List.range bs.length).any (fun i=>bs.getD i false)=bs.any id
 |[]=>rfl
 |b::bs=>by
  rw[aj,bT,dv,fg,dv,<-any_range bs]
  all_goals rfl
theorem all_range:∀bs:List Bool,(List.range bs.length).all (fun i=>bs.getD i false)=bs.all id
 |[]=>rfl
 |b::bs=>by
  rw[aj,bT,cQ,db,cQ,<-all_range bs]
  all_goals rfl
section
variable {X:Cx}
def aa9(K:PySem.W.Frag):List V->Hp->VK->Prop:=fun vs H Q=>∃(a:Addr) (bs:List Bool),vs=[V.ref a]/\fR K H a (bs.map V.bl)/\Q (.bl (bs.any id)) H
def aba(K:PySem.W.Frag):List V->Hp->VK->Prop:=fun vs H Q=>∃(a:Addr) (bs:List Bool),vs=[V.ref a]/\fR K H a (bs.map V.bl)/\Q (.bl (bs.all id)) H
theorem Zn(hc:X.calm=true):mP X (.builtin "any") (aa9 X.K):=by
 intro fL s σ H vs us Q I r h;obtain⟨a,bs,rfl,hs,q⟩:=h;obtain⟨fU,rv,hl,_⟩:=I.list hs;rw[gF.yy r];have hb:=rv.HJ;refine call_any_walk (MK hl.isList fun jM e2 st lm=> ?_);subst e2;refine⟨_,_,_,_,_,_,_,Z,Walks.list (A:=X.A.in1) (I.ok.hd hc) _ a lm fU.toArray,st,KN hb,fun h' tk hk=> ?_⟩;refine⟨.bl _,H,I.kept fun b o eo=>hk b o (fun uV=> ?_) (aC _ eo),?_,q⟩
 ·rcases az.mp uV with e1|uV
  ·exact absurd (e1▸aK eo) (bL _)
  ·cases uV
 ·show Value.bool _=Value.bool _;rw[<-any_range,hb,aR,ac]
theorem yk(hc:X.calm=true):mP X (.builtin "all") (aba X.K):=by
 intro fL s σ H vs us Q I r h;obtain⟨a,bs,rfl,hs,q⟩:=h;obtain⟨fU,rv,hl,_⟩:=I.list hs;rw[gF.yy r];have hb:=rv.HJ;refine call_all_walk (MK hl.isList fun jM e2 st lm=> ?_);subst e2;refine⟨_,_,_,_,_,_,_,Z,Walks.list (A:=X.A.in1) (I.ok.hd hc) _ a lm fU.toArray,st,KN hb,fun h' tk hk=> ?_⟩;refine⟨.bl _,H,I.kept fun b o eo=>hk b o (fun uV=> ?_) (aC _ eo),?_,q⟩
 ·rcases az.mp uV with e1|uV
  ·exact absurd (e1▸aK eo) (bL _)
  ·cases uV
 ·show Value.bool _=Value.bool _;rw[<-all_range,hb,aR,ac]
end
mutual
inductive Dp(K:PySem.W.Frag)(H:Hp):V->PyData->Prop
 |gS:Dp K H .gS .none
 |bl (b:Bool):Dp K H (.bl b) (.bool b)
 |int (i:Int):Dp K H (.int i) (.int i)
 |str (x:Str):Dp K H (.str x) (.str x)
 |lst {a:Addr} {xs:List V} {ds:List PyData}:fR K H a xs->uI K H xs ds->Dp K H (.ref a) (.list ds)
 |tup {a:Addr} {xs:List V} {ds:List PyData}:iN K H a xs->uI K H xs ds->Dp K H (.ref a) (.tuple ds)
inductive uI(K:PySem.W.Frag)(H:Hp):List V->List PyData->Prop
 |nil:uI K H [] []
 |cons {v:V} {vs:List V} {d:PyData} {ds:List PyData}:Dp K H v d->uI K H vs ds->uI K H (v::vs) (d::ds)
end
section
variable {X:Cx} {fL:List (Addr×Obj)} {σ:St} {H:Hp} {s:Shared}
mutual
theorem Dp.reads(I:Inv X fL σ H s):∀(d:PyData) (v:V) (u:Value),Dp X.K H v d->RelV v u->∃as,Reads s.heap u d as
 |.none,_,_,h,r=>by
  cases h;cases r;exact⟨_,Reads.none⟩
 |.bool b,_,_,h,r=>by
  cases h;cases r;exact⟨_,Reads.bool b⟩
 |.int i,_,_,h,r=>by
  cases h;obtain⟨t,rfl⟩:=r;exact⟨_,Reads.int i t⟩
 |.str x,_,_,h,r=>by
  cases h;obtain⟨t,rfl⟩:=r;exact⟨_,Reads.str x t⟩
 |.list ds,_,_,h,r=>by
  cases h with
  |lst hs ha=>
   cases r;obtain⟨fU,rv,⟨o,n,ho,hc,_,hd⟩,_⟩:=I.list hs;obtain⟨as,hr⟩:=Dp.readsAll I ds _ fU ha rv;exact⟨_,Reads.list ho hc hd hr⟩
 |.tuple ds,_,_,h,r=>by
  cases h with
  |tup hs ha=>
   cases r;obtain⟨fU,rv,⟨o,ho,hc,n,hd⟩,_⟩:=I.tuple hs;obtain⟨as,hr⟩:=Dp.readsAll I ds _ fU ha rv;exact⟨_,Reads.tuple ho hc hd hr⟩
 |.dict _,_,_,h,_=>by cases h
theorem Dp.readsAll(I:Inv X fL σ H s):∀(ds:List PyData) (vs:List V) (us:List Value),uI X.K H vs ds->gF vs us->∃as,ReadsAll s.heap us ds as
 |[],_,_,h,r=>by
  cases h;cases r;exact⟨_,ReadsAll.nil⟩
 |d::ds,_,_,h,r=>by
  cases h with
  |cons h1 h2=>
   cases r with
   |cons r1 r2=>
    obtain⟨as,q1⟩:=Dp.reads I d _ _ h1 r1;obtain⟨bs,q2⟩:=Dp.readsAll I ds _ _ h2 r2;exact⟨_,ReadsAll.cons q1 q2⟩
end
end
section
variable {X:Cx}
def abb(K:PySem.W.Frag):R2:=fun x y H Q=>∃d e,Dp K H x d/\Dp K H y e/\SeqAt.shaped d=true/\SeqAt.shaped e=true/\Q (.bl (!PyData.eqv d e)) H
theorem Zo(hu:X.A.units+64<cLine):jo X (compareOp .NotEq) (abb X.K):=by
 intro fL s σ H x y v u Q I rx ry h;obtain⟨d,e,hd,he,sd,se,q⟩:=h;obtain⟨as,r1⟩:=Dp.reads I d x v hd rx;obtain⟨bs,r2⟩:=Dp.reads I e y u he ry;exact SeqAt.compareNe_shaped r1 r2 sd se hu ⟨.bl _,H,I,Z,q⟩
end
abbrev Oa(h:Heap)(c:Addr)(v:Option Value):Prop:=h.IsCell c v
def abc(scope sc:Scope):Scope:=
 {scope with names:=scope.names.map fun(n,k)=>if (k==.free&&sc.kind==.function&&sc.names.lookup n==some .cell) then(n,.cell) else(n,k)}
def kP(cells:List (Str×Addr)):List (Str×NameKind)->List (Str×Addr)->List (Str×Addr)
 |[],acc=>acc
 |(n,k)::r,acc=>if k==.free then kP cells r ((n,(cells.lookup n).getD 0)::acc) else kP cells r acc
theorem Km(env:Env)(f:Str×NameKind->List (Str×Addr)->Sem (ForInStep (List (Str×Addr))))
 (hf:∀n k c,f (n,k) c=if k==.free then(do let a<-cellOf env n;pure (.yield ((n,a)::c))) else pure (.yield c)):
 ∀(names:List (Str×NameKind)) (acc:List (Str×Addr)),(∀y∈names,y.2=.free->∃c,env.cells.lookup y.1=some c)->forIn names acc f=pure (kP env.cells names acc)
 |[],acc,_=>by rw[List.forIn_nil];rfl
 |(n,k)::r,acc,h=>by
  rw[List.forIn_cons,hf];have ih:=fun acc=>Km env f hf r acc fun y hy=>h y (aX _ hy)
  unfold kP
  by_cases hk:(k==NameKind.free)=true
  ·rw[aw hk,aw hk];obtain⟨c,hc⟩:=h (n,k) bv (by simpa using hk);have e:cellOf env n=pure c:=by unfold cellOf;rw[hc]
   rw[e];have e2:(env.cells.lookup n).getD 0=c:=by rw[hc];rfl
   rw[e2];exact ih _
  ·rw[am hk,am hk];exact ih _
theorem Vf{scope:Scope}{env:Env}(h:∀y∈scope.names,y.2=.free->∃c,env.cells.lookup y.1=some c):closureFor scope env=pure (kP env.cells scope.names []):=by
 simp only[closureFor];rw[Km env _ (fun n k c=>rfl) scope.names [] h];rfl
theorem mem_lookup{α:Type}:∀{l:List (Str×α)} {n:Str} {c:α},(n,c)∈l->∃c',l.lookup n=some c'
 |(k,v)::r,n,c,h=>by
  rw[cT];cases hb:n==k with
  |true=>exact⟨_,Z⟩
  |false=>
   rcases az.mp h with e|h
   ·cases e;simp at hb
   ·exact mem_lookup h
theorem zV{cells:List (Str×Addr)}:∀{names:List (Str×NameKind)} {acc:List (Str×Addr)} {n:Str} {c:Addr},(n,c)∈kP cells names acc->(n,c)∈acc\/((n,.free)∈names/\c=(cells.lookup n).getD 0)
 |[],_,_,_,h=>.inl h
 |(m,k)::r,acc,n,c,h=>by
  unfold kP at h;split at h
  ·rename_i hk;have hk:k=.free:=by simpa using hk
   rcases zV h with h|⟨h1,h2⟩
   ·rcases az.mp h with e|h
    ·cases e;exact .inr ⟨hk▸bv,Z⟩
    ·exact .inl h
   ·exact .inr ⟨aX _ h1,h2⟩
  ·rcases zV h with h|⟨h1,h2⟩
   ·exact .inl h
   ·exact .inr ⟨aX _ h1,h2⟩
theorem Ed{cells:List (Str×Addr)}:∀{names:List (Str×NameKind)} {acc:List (Str×Addr)} {p:Str×Addr},p∈acc->p∈kP cells names acc
 |[],_,_,h=>h
 |(m,k)::r,acc,p,h=>by
  unfold kP;split
  ·exact Ed (aX _ h)
  ·exact Ed h
theorem Ee{cells:List (Str×Addr)}:∀{names:List (Str×NameKind)} {acc:List (Str×Addr)} {n:Str},(n,.free)∈names->(n,(cells.lookup n).getD 0)∈kP cells names acc
 |(m,k)::r,acc,n,h=>by
  unfold kP;rcases az.mp h with e|h
  ·cases e;exact Ed bv
  ·split
   ·exact Ee h
   ·exact Ee h
theorem xY:∀{names:List (Str×NameKind)} {h:Heap} {acc:List (Str×Addr)} {x:Str} {c:Addr},(x,c)∈cellsFrom h.objs.size names acc->
 (x,c)∈acc\/((x,.cell)∈names/\h.objs.size<=c/\Oa (pushCells h names) c none)
 |[],_,_,_,_,h=>.inl h
 |(n,k)::r,h,acc,x,c,hm=>by
  unfold cellsFrom at hm;unfold pushCells;split at hm
  ·rename_i hk;rw[aw hk];have hk:k=.cell:=by simpa using hk
   rw[<-bz h {cls:=.type "cell",data:=.cell none}] at hm;rcases xY hm with hm|⟨h1,h2,h3⟩
   ·rcases az.mp hm with e|hm
    ·cases e;exact .inr ⟨hk▸bv,aA _,_,pushCells_keeps r _ _ _ (aO _ Z),Z⟩
    ·exact .inl hm
   ·rw[bz] at h2;exact .inr ⟨aX _ h1,fj h2,h3⟩
  ·rename_i hk;rw[am hk];rcases xY hm with hm|⟨h1,h2,h3⟩
   ·exact .inl hm
   ·exact .inr ⟨aX _ h1,h2,h3⟩
theorem Ah:∀{names:List (Str×NameKind)} {n:Nat} {acc:List (Str×Addr)} {p:Str×Addr},p∈acc->p∈cellsFrom n names acc
 |[],_,_,_,h=>h
 |(m,k)::r,n,acc,p,h=>by
  unfold cellsFrom;split
  ·exact Ah (aX _ h)
  ·exact Ah h
theorem Fc:∀{names:List (Str×NameKind)} {n:Nat} {acc:List (Str×Addr)} {x:Str},(x,.cell)∈names->∃c,(x,c)∈cellsFrom n names acc
 |(m,k)::r,n,acc,x,h=>by
  unfold cellsFrom;rcases az.mp h with e|h
  ·cases e;exact⟨n,Ah bv⟩
  ·split
   ·exact Fc h
   ·exact Fc h
theorem Fd:∀{names:List (Str×NameKind)} {h:Heap} {acc:List (Str×Addr)} {x y:Str} {c:Addr},(∀p∈acc,p.2<h.objs.size)->(∀x y c,(x,c)∈acc->(y,c)∈acc->x=y)->
 (x,c)∈cellsFrom h.objs.size names acc->(y,c)∈cellsFrom h.objs.size names acc->x=y
 |[],_,_,_,_,_,_,hi,h1,h2=>hi _ _ _ h1 h2
 |(n,k)::r,h,acc,x,y,c,hl,hi,h1,h2=>by
  unfold cellsFrom at h1 h2;split at h1
  ·rename_i hk;rw[aw hk] at h2;rw[<-bz h {cls:=.type "cell",data:=.cell none}] at h1 h2;refine Fd (h:=h.push _) (fun p hp=> ?_) (fun x y c a b=> ?_) h1 h2
   ·rw[bz];rcases az.mp hp with rfl|hp
    ·exact Nat.lt_succ_self _
    ·exact dU (hl p hp)
   ·rcases az.mp a with e|a<;>rcases az.mp b with e'|b
    ·cases e;cases e';rfl
    ·cases e;exact absurd (hl _ b) (bL _)
    ·cases e';exact absurd (hl _ a) (bL _)
    ·exact hi _ _ _ a b
  ·rename_i hk;rw[am hk] at h2;exact Fd hl hi h1 h2
theorem Ux{M:Model}{A:Around}{E:Value->Shared->Prop}{s:Shared}{scope:Scope}{globals:Addr}{closure:List (Str×Addr)}{qual:Str}{func:Option Addr}{code:Value}{Ob:Env}{builtins:Addr}{Q:Env->Shared->Prop}
 (h:Q (newEnv scope s.heap.objs.size globals (cellsFrom (s.heap.objs.size+1) scope.names closure) qual func code (some Ob) builtins)
   {s with heap:=pushCells (s.heap.push {cls:=.type "dict",data:=.dict #[]}) scope.names}):
 wpAny M A (newFunctionEnv scope globals closure [] qual func code (some Ob) builtins) Q E s:=by
 simp only[newFunctionEnv,Option.isSome_some,dz];refine ay (wpAny_alloc ?_);refine ay (wpAny_layCells _ (fun n k c=>rfl) scope.names closure _ _ ?_);rw[show({s with heap:=s.heap.push {cls:=.type "dict",data:=.dict #[]}}:Shared).heap.objs.size=s.heap.objs.size+1 from bz ..];rw[List.forIn_nil];exact ay (aY (aY h))
theorem Ef{sc:Scope}:∀{names:List (Str×NameKind)} {x:Str} {k:NameKind},
 (names.map fun(n,k)=>if (k==NameKind.free&&sc.kind==.function&&sc.names.lookup n==some .cell) then(n,NameKind.cell) else(n,k)).lookup x=some k->
 ∃k',names.lookup x=some k'/\(k=k'\/(k'=.free/\k=.cell))
 |[],_,_,h=>by simp at h
 |(n,yz)::r,x,k,h=>by
  have ih:= @Ef sc r x k;have h':List.lookup x ((if (yz==NameKind.free&&sc.kind==.function&&sc.names.lookup n==some .cell)=true then(n,NameKind.cell) else(n,yz))::(r.map _))=some k:=h;cases hx:x==n with
  |true=>
   simp only[cT,hx]
   by_cases hc:(yz==NameKind.free&&sc.kind==.function&&sc.names.lookup n==some .cell)=true
   ·rw[aw hc] at h';simp only[cT,hx] at h';cases h';simp only[aH,ck] at hc;exact⟨yz,Z,.inr ⟨hc.1.1,Z⟩⟩
   ·rw[am hc] at h';simp only[cT,hx] at h';cases h';exact⟨_,Z,.inl Z⟩
  |false=>
   simp only[cT,hx]
   by_cases hc:(yz==NameKind.free&&sc.kind==.function&&sc.names.lookup n==some .cell)=true
   ·rw[aw hc] at h';simp only[cT,hx] at h';exact ih h'
   ·rw[am hc] at h';simp only[cT,hx] at h';exact ih h'
structure yo(N:List Str)(sc scope:Scope)(own:List (Str×Nat)):Prop where
 kind:scope.kind=.function
 yA:∀y∈scope.names,scope.names.lookup y.1=some y.2
 ix:∀p∈own,N[p.2]? =some p.1
 free:∀y∈scope.names,y.2=.free->sc.names.lookup y.1=some .cell\/sc.names.lookup y.1=some .free
 own:∀y∈scope.names,y.2=.local\/y.2=.cell->y.1∈own.map (·.1)\/y.1∉N
def iA(σ:St):List Nat->St
 |[]=>σ
 |v::vs=>(iA σ vs).set v none
theorem Eg(σ:St):∀vs:List Nat,(iA σ vs).length=σ.length
 |[]=>rfl
 |v::vs=>by unfold iA;rw[List.length_set,Eg σ vs]
theorem Fe{σ:St}{i:Nat}{x:V}:∀{vs:List Nat},(iA σ vs)[i]? =some (some x)->σ[i]? =some (some x)/\i∉vs
 |[],h=>⟨h,by simp⟩
 |v::vs,h=>by
  unfold iA at h
  by_cases hi:v=i
  ·subst hi
   by_cases hv:v<(iA σ vs).length
   ·rw[dE hv] at h;cases h
   ·rw[bA (by simpa using hv)] at h;cases h
  ·rw[dY hi] at h;obtain⟨h1,h2⟩:=Fe h;exact⟨h1,by simp only[az,not_or];exact⟨fun e=>hi e.symm,h2⟩⟩
abbrev Cx.lM(X:Cx)(s:Shared)(H:Hp)(scope:Scope)(jD:Env)(fp:List Addr):Cx:={X with kW:=s,u3:=H,env:=jD,outer:=X.stack,ex:=fp,fn:=fun x=>scope.names.lookup x==some .cell,pn:=[],xe:=fun _ _=>False}
section
variable {X:Cx} {fL:List (Addr×Obj)} {σ:St} {H:Hp} {s:Shared}
theorem Uy{scope:Scope}{own:List (Str×Nat)}{fp:List Addr}(I:Inv X fL σ H s)(ok:yo X.N X.env.scope scope own)(hN:X.N.Nodup)(tu:∀b∈fp,oP X fL H b/\b<s.heap.objs.size):
 Inv (X.lM s H scope (compEnvC scope (cellsFrom (s.heap.objs.size+1) scope.names (kP X.env.cells scope.names [])) s.heap.objs.size X.env) fp) [] (iA σ (own.map (·.2))) H {s with heap:=pushCells (s.heap.push {cls:=.type "dict",data:=.dict #[]}) scope.names}:=by
 have wa:∀y∈scope.names,y.2=.free->∃c,X.env.cells.lookup y.1=some c:=fun y hy e=>by
  rcases ok.free y hy e with k|k
  ·exact I.ok.has _ (.inl k)
  ·exact I.ok.has _ (.inr k)
 generalize yp:compEnvC scope (cellsFrom (s.heap.objs.size+1) scope.names (kP X.env.cells scope.names [])) s.heap.objs.size X.env=jD;have kp:∀b o,s.heap.get? b=some o->(pushCells (s.heap.push {cls:=.type "dict",data:=.dict #[]}) scope.names).get? b=some o:=fun b o e=>pushCells_keeps _ _ _ _ (aC _ e)
 have hL:jD.locals=s.heap.objs.size:=by rw[<-yp];rfl
 have mo:jD.cells=cellsFrom (s.heap.objs.size+1) scope.names (kP X.env.cells scope.names []):=by rw[<-yp];rfl
 have HK:jD.scope=abc scope X.env.scope:=by rw[<-yp];rfl
 rw[<-bz s.heap {cls:=.type "dict",data:=.dict #[]}] at mo
 have cm:∀{y c},(y,c)∈kP X.env.cells scope.names []->X.env.cells.lookup y=some c/\c<s.heap.objs.size:=fun{y c} hm=>by
  rcases zV hm with hm|⟨h1,rfl⟩
  ·cases hm
  ·obtain⟨c,hc⟩:=wa _ h1 Z;rw[hc];obtain⟨w,z⟩:=I.cell _ _ hc;exact⟨Z,z.lt⟩
 have mem:∀{y c},jD.cells.lookup y=some c->(X.env.cells.lookup y=some c/\c<s.heap.objs.size)\/(s.heap.objs.size+1<=c/\Oa (pushCells (s.heap.push {cls:=.type "dict",data:=.dict #[]}) scope.names) c none):=fun{y c} e=>by
  rw[mo] at e;rcases xY (bf e) with hm|⟨_,h2,h3⟩
  ·exact .inl (cm hm)
  ·rw[bz] at h2;exact .inr ⟨h2,h3⟩
 have look:∀{y},scope.names.lookup y=some .free->∃c,jD.cells.lookup y=some c/\X.env.cells.lookup y=some c:=fun{y} hl=>by
  have hy:(y,NameKind.free)∈scope.names:=bf hl;obtain⟨c',e'⟩:=mem_lookup (Ah (names:=scope.names) (n:=(s.heap.push {cls:=.type "dict",data:=.dict #[]}).objs.size) (Ee (cells:=X.env.cells) (acc:=[]) hy));rw[<-mo] at e';refine⟨c',e',?_⟩;rw[mo] at e';rcases xY (bf e') with hm|⟨h1,_,_⟩
  ·exact(cm hm).1
  ·have:=ok.yA _ h1;rw[hl] at this;cases this
 have okB:(X.lM s H scope jD fp).Ok:=by
  refine⟨I.ok.mod,by show jD.scope.kind=_;rw[HK];exact ok.kind,by show jD.globals=_;rw[<-yp];exact I.ok.glob,by show jD.builtins=_;rw[<-yp];exact I.ok.blt,by show s.heap.objs.size<=jD.locals;rw[hL];exact aA _,
   fun y z c e1 e2=> ?_,fun y hy=> ?_,fun y c z e=> ?_,I.ok.hd,I.ok.frames,.inl Z,fun b hb=>⟨?_,fun y c e z=> ?_⟩,I.bs,a8 I.ok.pT I.sz,fun b o e hb=> ?_,fun b hb z=> ?_,I.stack,I.uu⟩
  ·have e1:jD.cells.lookup y=some c:=e1;have e2:jD.cells.lookup z=some c:=e2;rw[mo] at e1 e2;refine Fd (fun p hp=> ?_) (fun y z c a b=>I.ok.inj y z c (cm a).1 (cm b).1) (bf e1) (bf e2);rw[bz];exact dU (cm (y:=p.1) (c:=p.2) hp).2
  ·show∃c,jD.cells.lookup y=some c
   have key:∀k,jD.kindOf y=some k->(k=.cell\/k=.free)->∃c,jD.cells.lookup y=some c:=fun k hk u8=>by
    unfold Env.kindOf at hk;rw[HK] at hk;obtain⟨k',e,r⟩:=Ef hk
    have:k'=.cell\/k'=.free:=by
     rcases r with rfl|⟨rfl,_⟩
     ·exact u8
     ·exact .inr Z
    rcases this with rfl|rfl
    ·obtain⟨c,hm⟩:=Fc (n:=(s.heap.push {cls:=.type "dict",data:=.dict #[]}).objs.size) (acc:=kP X.env.cells scope.names []) (bf e);obtain⟨c',e'⟩:=mem_lookup hm;exact⟨c',by rw[mo];exact e'⟩
    ·obtain⟨c,h1,_⟩:=look e;exact⟨c,h1⟩
   rcases hy with hy|hy
   ·exact key _ hy (.inl Z)
   ·exact key _ hy (.inr Z)
  ·have z:(scope.names.lookup y==some NameKind.cell)=true:=z;have z:scope.names.lookup y=some .cell:=by simpa using z
   have e:jD.cells.lookup y=some c:=e;rw[mo] at e;rcases xY (bf e) with hm|⟨_,h2,_⟩
   ·rcases zV hm with hm|⟨h1,_⟩
    ·cases hm
    ·have q:=ok.yA _ h1;rw[z] at q;cases q
   ·rw[bz] at h2;exact fj h2
  ·show b≠jD.locals;rw[hL];exact ba (tu b hb).2
  ·have e:jD.cells.lookup y=some c:=e;rcases mem e with⟨h1,_⟩|⟨h1,_⟩
   ·exact(tu b hb).1.2.2.2.2.1 y c h1 z
   ·have h2:s.heap.objs.size+1<=b:=by rw[<-z];exact h1
    exact absurd (aU (tu b hb).2 (fj h2)) (bL _)
  ·rcases(tu b hb).1.2.2.2.1 with z|z
   ·exact I.ok.wu b o e z
   ·exact absurd (aU (aK e) (a8 I.ok.pT z)) (bL _)
  ·rcases az.mp (I.GD b z) with z|z
   ·exact(tu b hb).1.2.1 z
   ·exact(tu b hb).1.2.2.1 z
 refine⟨okB,Z,I.bare,Un.kept kp,⟨fun _=>none,?_,fun i y av e1 e2 e3=> ?_⟩,fun y c e=> ?_,?_,fun y c e=> ?_,fun p hp=> ?_,I.gh.kept kp,by rw[Eg];exact I.len⟩
 ·show Heap.Ns _ jD.locals _;rw[hL];exact Heap.Ns.keeps (Heap.Ns.new ..) fun b o e=>pushCells_keeps _ _ _ _ e
 ·obtain⟨e2,lm⟩:=Fe e2
  have jy:scope.names.lookup y=some .free/\(jD.kindOf y=some .cell\/jD.kindOf y=some .free):=by
   have key:∀k,jD.scope.names.lookup y=some k->k=.local\/k=.cell\/k=.free->scope.names.lookup y=some .free/\(jD.kindOf y=some .cell\/jD.kindOf y=some .free):=fun k hk u8=>by
    have wS:=hk;rw[HK] at hk;obtain⟨k',e,r⟩:=Ef hk
    have no:¬(k'=.local\/k'=.cell):=fun hh=>by
     rcases ok.own _ (bf e) hh with e'|e'
     ·obtain⟨p,hp,hpy⟩:=bi.mp e';have e3:=ok.ix p hp;have:p.1=y:=hpy;rw[this] at e3;exact lm (bi.mpr ⟨p,hp,At hN e3 e1⟩)
     ·exact e' (aS e1)
    rcases r with rfl|⟨rfl,rfl⟩
    ·rcases u8 with rfl|rfl|rfl
     ·exact absurd (.inl Z) no
     ·exact absurd (.inr Z) no
     ·exact⟨e,.inr wS⟩
    ·exact⟨e,.inl wS⟩
   have e3:wM jD.scope y:=e3;rcases e3 with e3|e3|e3
   ·exact key _ e3 (.inl Z)
   ·exact key _ e3 (.inr (.inl Z))
   ·exact key _ e3 (.inr (.inr Z))
  obtain⟨m,hn,hl⟩:=I.loc;have abd:wM X.env.scope y:=(ok.free _ (bf jy.1) Z).elim (fun k=>.inr (.inl k)) (fun k=>.inr (.inr k));obtain⟨w,r,q⟩:=hl i y av e1 e2 abd;refine⟨w,r,.inr ⟨jy.2,?_⟩⟩;obtain⟨c,h1,h2⟩:=look jy.1;rcases q with⟨k,_⟩|⟨_,c',e',z⟩
  ·have k:X.env.scope.names.lookup y=some .local:=k;rcases ok.free _ (bf jy.1) Z with k'|k'<;>rw[show X.env.scope.names.lookup y=_ from k'] at k<;>cases k
  ·rw[h2] at e';cases e';exact⟨c,h1,z.keeps kp⟩
 ·have e:jD.cells.lookup y=some c:=e;rcases mem e with⟨h1,_⟩|⟨_,z⟩
  ·obtain⟨w,z⟩:=I.cell y c h1;exact⟨w,z.keeps kp⟩
  ·exact⟨_,z⟩
 ·show H jD.locals=none;rw[hL];exact I.gh.fresh (aA _)
 ·have e:jD.cells.lookup y=some c:=e;rcases mem e with⟨h1,_⟩|⟨h1,_⟩
  ·exact I.mO y c h1
  ·exact I.gh.fresh (fj h1)
 ·exact absurd (show p∈([]:List (Addr×Obj))++[] from hp) (by simp)
theorem Zp{E:Value->Shared->Prop}{D:Addr}{xs:List V}{y:V}{v:Value}{Q:Value->Shared->Prop}(I:Inv X fL σ H s)(hD:H D=some (.lst xs))(hz:xs.length<sizeLine)(r:RelV y v)
 (h:∀s',Inv X fL σ (fM H D (.lst (xs++[y]))) s'->Q .none s'):wpAny (model X.prog X.w) X.A (call (.builtin "list.append") [.ref D,v]) Q E s:=by
 obtain⟨hz',fU,n,ri,e⟩:=I.gh D _ hD;have hl:=ri.length;refine append_at (hsz:=by rw[aR];omega) e fun h' sb nB=> ?_
 refine h {s with heap:=h'} (I.write (t':=s.toks) (by rw[hD];trivial) (.inl Z) (fun b u hb q=>(sb.2 b hb).trans q) ⟨_,nB⟩ ⟨by rw[ag];exact hz,fU++[v],n+1,ri.append (.cons r .nil),?_⟩);rw[nB];simp
def yL(X:Cx)(lN:List Expr)(t:TT):Prop:=
 ∀(fL:List (Addr×Obj)) (s:Shared) (σ:St) (H:Hp) (Q:Bool->Hp->Prop),Inv X fL σ H s->t σ H Q->
  wpAny (model X.prog X.w) X.A (forIn lN true fun c r=>if r=true then do let ok<-isTrue c X.env (eval c X.env);pure (ForInStep.yield ok) else pure (ForInStep.yield r)) (TP X fL σ Q) X.xe s
def abe:TT:=fun _ H Q=>Q true H
theorem md:yL X [] abe:=fun _ _ _ H _ I h=>wpAny_tests_nil ⟨H,I,h⟩
theorem Np{c:Expr}{t:TT}(h:PT X c t):yL X [c] t:=fun fL s σ H Q I hw=>wpAny_tests_one (h fL s σ H Q I hw)
end
theorem wA{α:Type}{t:Sem α}{Q Q':α->Shared->Prop}{M:Model}{A:Around}{E:Value->Shared->Prop}{s:Shared}(h:wpAny M A t Q (fun _ _=>False) s)(hQ:∀a s,Q a s->Q' a s):wpAny M A t Q' E s:=bF h hQ fun _ _ z=>False.elim z
theorem TV{prog:Program}{w:World}{A:Around}{R:Result->Shared->Prop}{s:Shared}{l6 vT jS:Expr}{lN:List Expr}{scope:Scope}{pos:Pos}{it acc:Value}{env:Env}(I:Nat->Shared->Prop)
 (uR:∀n s,I n s->wpAny (model prog w) A (pyNext it) (fun r iK=>match r with
   |none=>R (.ok .next) iK
   |some v=>wpAny (model prog w) A (letOwnedTupleGo vT it v) (fun _ Ot=>wpAny (model prog w) A (assign vT env v) (fun _ jM=>
    wpAny (model prog w) A (forIn lN true fun c r=>if r=true then do let ok<-isTrue c env (eval c env);pure (ForInStep.yield ok) else pure (ForInStep.yield r)) (fun ok sO=>
     if ok=true then wpAny (model prog w) A (eval l6 env) (fun x OZ=>
      wpAny (model prog w) A (call (.builtin "list.append") [acc,x]) (fun _ O0=>∃m,m<n/\I m O0) (notedBy (model prog w) A env fun e s'=>R (.error e) s') OZ) (notedBy (model prog w) A env fun e s'=>R (.error e) s') sO
     else∃m,m<n/\I m sO) (notedBy (model prog w) A env fun e s'=>R (.error e) s') jM) (notedBy (model prog w) A env fun e s'=>R (.error e) s') Ot) (notedBy (model prog w) A env fun e s'=>R (.error e) s') iK) (notedBy (model prog w) A env fun e s'=>R (.error e) s') s)
 (n:Nat) (h:I n s):
 codeAny (model prog w) A (.compLoop (.ListComp l6 [⟨vT,jS,lN,0⟩] scope pos) 0 it acc env) R s:=by
 refine codeAny_loop Z I (fun n s hI=> ?_) n h;show wpAny _ A ((compTurn (.ListComp l6 [⟨vT,jS,lN,0⟩] scope pos) 0 it acc env).onRaise (fun x=>do noteFrame x env;theTreesLotGoes x)) _ _ s;refine wpAny_noted ?_;rw[compTurn_list];refine ay (dN (ay (bF (uR n s hI) (fun r iK wB=> ?_) fun _ _ h'=>h')));cases r with
 |none=>exact aY wB
 |some v=>
  refine ay (bF wB (fun _ Ot aag=> ?_) fun _ _ h'=>h');refine ay (bF aag (fun _ jM yB=>ay (bF yB (fun ok sO Bw=> ?_) fun _ _ h'=>h')) fun _ _ h'=>h');cases ok with
  |false=>exact aY ⟨Z,Bw⟩
  |true=>
   exact ay (ay (bF Bw (fun x OZ abf=>ay (bF abf (fun _ O0 abg=>aY (aY ⟨Z,abg⟩)) fun _ _ h'=>h')) fun _ _ h'=>h'))
section
variable {X:Cx}
def BU(wi:TI)(g:TG)(tt:TT)(te:TE)(vs:List Nat):TE:=fun σ H Q=>wi σ H fun J H1=>∀D,H1 D=none->∃W:Nat->Nat->Hp->Prop,(∃m,W 0 m (fM H1 D (.lst [])))/\∀i m H,W i m H->
 (J.stop i H/\Q (.ref D) H)\/(J.go i H/\∃Nx:Hp->Prop,(∀H',Nx H'->∃m',m'<m/\W (i+1) m' H')/\∀x H',J.mG i H x H'->g x (iA σ vs) H' fun gv H2=>iA gv vs=iA σ vs/\tt gv H2 fun b H3=>
   if b=true then te gv H3 fun y H4=>∃acc,H4 D=some (.lst acc)/\acc.length<sizeLine/\Nx (fM H4 D (.lst (acc++[y]))) else Nx H3)
theorem Nq{fL:List (Addr×Obj)}{s:Shared}{σ:St}{H:Hp}{Q:VK}{l6 tg jS:Expr}{lN:List Expr}{scope:Scope}{own:List (Str×Nat)}{pos kU:Pos}{wi:TI}{g:TG}{tt:TT}{te:TE}{use:Option (Value->Sem Unit)}{Qf:Value->Shared->Prop}
 (hc:X.calm=true) (hN:X.N.Nodup) (I:Inv X fL σ H s) (hi:PI X tg jS wi) (ok:yo X.N X.env.scope scope own)
 (hg:∀(s:Shared) (H:Hp) (C:Addr) (cl:List (Str×Addr)) (fp:List Addr),PG (X.lM s H scope (compEnvC scope cl C X.env) fp) tg g) (ht:∀(s:Shared) (H:Hp) (C:Addr) (cl:List (Str×Addr)) (fp:List Addr),yL (X.lM s H scope (compEnvC scope cl C X.env) fp) lN tt)
 (he:∀(s:Shared) (H:Hp) (C:Addr) (cl:List (Str×Addr)) (fp:List Addr),PE (X.lM s H scope (compEnvC scope cl C X.env) fp) l6 te) (hs:∀x,foldedSetIterable jS X.env x=pure x)
 (h:BU wi g tt te (own.map (·.2)) σ H Q)
 (hRR:∀D C s' m H',Inv X fL σ H' s'->Q (.ref D) H'->s'.heap.Ns C m->oP X fL H' C->compPost (model X.prog X.w) X.A X.xe use Qf (.ref D) C (.ok .next) s'):
 wpAny (model X.prog X.w) X.A (comprehension (.ListComp l6 [⟨tg,jS,lN,0⟩] scope pos) scope X.env kU (newList []) false (eval jS X.env) use) Qf X.xe s:=by
 have wa:∀y∈scope.names,y.2=.free->∃c,X.env.cells.lookup y.1=some c:=fun y hy e=>by
  rcases ok.free y hy e with k|k
  ·exact I.ok.has _ (.inl k)
  ·exact I.ok.has _ (.inr k)
 refine wpAny_comprehension_free (use:=use) Z hs (Vf wa) ok.kind (fun y hy e=>by rw[ok.yA y hy,e])
  (gm (hi fL s σ H _ I h) fun xv s1 hx=>gm hx fun HB s2 h2=> ?_)
 obtain⟨it,fp,tn,J,H2,e,I2,T,BM,f2,q⟩:=h2;subst e;refine dQ (Ux ?_) (by show 0<=sizeLine;decide);generalize hD:s2.heap.objs.size=D;have hDn:H2 D=none:=I2.gh.fresh (Nat.le_of_eq hD);obtain⟨W,⟨m0,w0⟩,uR⟩:=q D hDn;generalize Pt:({s2 with heap:=s2.heap.push {cls:=.type "list",data:=.seq ([]:List Value).toArray}}:Shared)=s3
 have I3:Inv X fL σ (fM H2 D (.lst [])) s3:=by
  rw[<-Pt];refine I2.laid (t':=s2.toks) (fun b o e=>aC _ e) (Nat.le_of_eq hD) ⟨aN _,[],0,.nil,?_⟩;rw[<-hD];exact aO _ Z
 have h3:s3.heap=s2.heap.push {cls:=.type "list",data:=.seq ([]:List Value).toArray}:=by rw[<-Pt]
 have sz:∀b∈fp,b<s2.heap.objs.size:=fun b hb=>by
  obtain⟨o,e,_⟩:=T.obj _ _ BM b hb;exact aK e
 have f3:∀b∈fp,oP X fL (fM H2 D (.lst [])) b/\b<s3.heap.objs.size:=fun b hb=>by
  have hZ:=sz b hb;refine⟨⟨?_,(f2 b hb).2⟩,by rw[h3,bz];exact dU hZ⟩;rw[fT (by rw[<-hD];exact ba hZ)];exact(f2 b hb).1
 have BN:tn 0 s3.heap:=T.keep _ _ _ BM fun b _ o e=>by rw[h3];exact aC _ e
 have I4:=Uy I3 ok hN f3;have pg:=hg s3 (fM H2 D (.lst [])) s3.heap.objs.size (cellsFrom (s3.heap.objs.size+1) scope.names (kP X.env.cells scope.names [])) fp;have pt:=ht s3 (fM H2 D (.lst [])) s3.heap.objs.size (cellsFrom (s3.heap.objs.size+1) scope.names (kP X.env.cells scope.names [])) fp;have pe:=he s3 (fM H2 D (.lst [])) s3.heap.objs.size (cellsFrom (s3.heap.objs.size+1) scope.names (kP X.env.cells scope.names [])) fp;show codeAny _ _ (.compStart (.ListComp l6 [⟨tg,jS,lN,0⟩] scope pos) 0 (.ref it) (.ref D) (compEnvC scope (cellsFrom (s3.heap.objs.size+1) scope.names (kP X.env.cells scope.names [])) s3.heap.objs.size X.env)) (compPost (model X.prog X.w) X.A X.xe use Qf (.ref D) s3.heap.objs.size) {s3 with heap:=pushCells (s3.heap.push {cls:=.type "dict",data:=.dict #[]}) scope.names};have BV:∀b∈fp,(fM H2 D (.lst [])) b=none:=fun b hb=>(f3 b hb).1.1
 generalize hce:compEnvC scope (cellsFrom (s3.heap.objs.size+1) scope.names (kP X.env.cells scope.names [])) s3.heap.objs.size X.env=ce at I4 pg pt pe⊢;have cL:ce.locals=s3.heap.objs.size:=by subst hce;rfl
 generalize yM:fM H2 D (.lst [])=H3 at I3 I4 pg pt pe w0 BV f3;generalize hs4:({s3 with heap:=pushCells (s3.heap.push {cls:=.type "dict",data:=.dict #[]}) scope.names}:Shared)=s4 at I4⊢;have Pu:tn 0 s4.heap:=T.keep _ _ _ BN fun b _ o e=>by rw[<-hs4];exact pushCells_keeps _ _ _ _ (aC _ e)
 have uS:∀{gw:St} {H':Hp} {s':Shared},Inv (X.lM s3 H3 scope ce fp) [] gw H' s'->(∀b∈fp,H' b=none)->∀b∈fp,oP (X.lM s3 H3 scope ce fp) [] H' b:=fun{gw H' s'} I' hn b hb=>
  ⟨hn b hb,(I'.ok.yI b hb).1,I'.ok.wv b hb,.inl hb,fun x c e=>(I'.ok.yI b hb).2 x c e,fun p hp=>absurd (show p∈([]:List (Addr×Obj))++[] from hp) (by simp)⟩
 have loop:codeAny (model X.prog X.w) X.A (.compLoop (.ListComp l6 [⟨tg,jS,lN,0⟩] scope pos) 0 (.ref it) (.ref D) ce) (compPost (model X.prog X.w) X.A X.xe use Qf (.ref D) s3.heap.objs.size) s4:=by
  refine TV (fun n s'=>∃i H',Inv (X.lM s3 H3 scope ce fp) [] (iA σ (own.map (·.2))) H' s'/\tn i s'.heap/\(∀b∈fp,H' b=none)/\W i n H') ?_ m0 ⟨0,H3,I4,Pu,BV,w0⟩;rintro n s5 ⟨i,H5,I5,wQ,n5,w5⟩;rcases uR i n H5 w5 with⟨stop,qq⟩|⟨go,Nx,hNx,step⟩
  ·have td:=T.done (X.lM s3 H3 scope ce fp) Z Z Z hc i [] s5 _ H5 (fun _ _=>False) I5 (uS I5 n5) wQ stop;refine wA td fun r s6 ⟨hr,I6⟩=> ?_
   subst hr;have I7:Inv X fL σ H5 s6:=I3.Bh (ch:=fp) I6.os I6.base I6.gh I6.bare fun b hb=>⟨(f3 b hb).1.2.2.2.1,(f3 b hb).1.2.1,(f3 b hb).1.2.2.2.2.1,(f3 b hb).1.2.2.2.2.2⟩
   have nC:H5 s3.heap.objs.size=none:=by
    have z:H5 ce.locals=none:=I6.free;rw[cL] at z;exact z
   obtain⟨m,hn,_⟩:=I6.loc;have hn:s6.heap.Ns ce.locals m:=hn;rw[cL] at hn;exact hRR D s3.heap.objs.size s6 m H5 I7 qq hn (I3.rh (aA _) nC)
  ·have ti:=T.item (X.lM s3 H3 scope ce fp) Z Z Z hc i [] s5 _ H5 (fun _ _=>False) I5 (uS I5 n5) wQ go;refine wA ti fun r s6 ⟨u,hr,h6⟩=> ?_
   subst hr;refine wA h6 fun _ s7 ⟨x,H7,I7,r7,y7,HL,n7⟩=> ?_
   have I7':=I7.pinned (uS I7 n7) (T.obj _ _ HL);refine wA (pg _ s7 _ H7 x u _ I7' r7 (step x H7 y7)) fun _ s8 ⟨BW,H8,I8,Pw,q8⟩=> ?_
   refine wA (pt _ s8 BW H8 _ I8 q8) fun b s9 ⟨H9,I9,q9⟩=> ?_
   have fin:∀{s':Shared} {H':Hp},Inv (X.lM s3 H3 scope ce fp) ([]++yi fp s7.heap) BW H' s'->Nx H'->∃m,m<n/\∃i H',Inv (X.lM s3 H3 scope ce fp) [] (iA σ (own.map (·.2))) H' s'/\tn i s'.heap/\(∀b∈fp,H' b=none)/\W i m H':=fun{s' H'} I' nx=>by
    obtain⟨m',hm,w'⟩:=hNx H' nx
    have O1:∀b∈fp,∀o,s7.heap.get? b=some o->s'.heap.get? b=some o/\H' b=none:=fun b hb o e=>
     let z:=I'.pin (b,o) (bn _ (bn _ (Ex hb e)))
     ⟨z.1,z.2.1⟩
    have hl:(iA σ (own.map (·.2))).length=BW.length:=by rw[<-Pw,Eg]
    refine⟨m',hm,i+1,H',(I'.Av (fL:=[])).weak hl (fun j v e=> ?_),T.keep _ _ _ HL fun b hb o e=>(O1 b hb o e).1,fun b hb=> ?_,w'⟩
    ·rw[<-Pw] at e;exact(Fe e).1
    ·obtain⟨o,e,_⟩:=T.obj _ _ HL b hb;exact(O1 b hb o e).2
   cases b with
   |false=>
    simp only[bo,cW] at q9⊢;exact fin I9 q9
   |true=>
    simp only[dz] at q9⊢;refine wA (pe _ s9 BW H9 _ I9 q9) fun z HM ⟨yv,H10,I10,r10,acc,abh,abi,nx⟩=> ?_
    exact Zp (X:=X.lM s3 H3 scope ce fp) I10 abh abi r10 fun yN I11=>fin I11 nx
 exact codeAny_compStart_list loop (T.self X.A 0 _ _ _ Pu loop)
theorem mf{l6 tg jS:Expr}{lN:List Expr}{scope:Scope}{own:List (Str×Nat)}{pos:Pos}{wi:TI}{g:TG}{tt:TT}{te:TE}(hc:X.calm=true)(hN:X.N.Nodup)(hi:PI X tg jS wi)(ok:yo X.N X.env.scope scope own)
 (hg:∀(s:Shared) (H:Hp) (C:Addr) (cl:List (Str×Addr)) (fp:List Addr),PG (X.lM s H scope (compEnvC scope cl C X.env) fp) tg g) (ht:∀(s:Shared) (H:Hp) (C:Addr) (cl:List (Str×Addr)) (fp:List Addr),yL (X.lM s H scope (compEnvC scope cl C X.env) fp) lN tt)
 (he:∀(s:Shared) (H:Hp) (C:Addr) (cl:List (Str×Addr)) (fp:List Addr),PE (X.lM s H scope (compEnvC scope cl C X.env) fp) l6 te) (hs:∀x,foldedSetIterable jS X.env x=pure x:=by intro _;rfl):
 PE X (.ListComp l6 [⟨tg,jS,lN,0⟩] scope pos) (BU wi g tt te (own.map (·.2))):=by
 intro fL s σ H Q I h;rw[eval_ListComp];refine Nq hc hN I hi ok hg ht he hs h fun D C s' m H' I' q hn f=>⟨m,hn,fun oh sb=> ?_⟩
 obtain⟨f0,f1,f2,f3,f4,f5⟩:=f;exact⟨.ref D,H',I'.turned (t':=s'.toks) (fun b o hb e=>(sb.2 b hb).trans e) f0 f1 f3 f4 f5,Z,q⟩
theorem ML{i:Nat}{y:Str}{py:Pos}{l6 tg jS:Expr}{lN:List Expr}{scope:Scope}{own:List (Str×Nat)}{pos O2:Pos}{wi:TI}{g:TG}{tt:TT}{te:TE}(hc:X.calm=true)(hN:X.N.Nodup)(hy:X.N[i]? =some y)(Px:X.env.scope.names.lookup y=some .local)
 (hsw:swapsWith (.ListComp l6 [⟨tg,jS,lN,0⟩] scope pos) (some (.Name y py)) O2.line X.env=pure true) (hi:PI X tg jS wi) (ok:yo X.N X.env.scope scope own)
 (hg:∀(s:Shared) (H:Hp) (C:Addr) (cl:List (Str×Addr)) (fp:List Addr),PG (X.lM s H scope (compEnvC scope cl C X.env) fp) tg g) (ht:∀(s:Shared) (H:Hp) (C:Addr) (cl:List (Str×Addr)) (fp:List Addr),yL (X.lM s H scope (compEnvC scope cl C X.env) fp) lN tt)
 (he:∀(s:Shared) (H:Hp) (C:Addr) (cl:List (Str×Addr)) (fp:List Addr),PE (X.lM s H scope (compEnvC scope cl C X.env) fp) l6 te) (hs:∀x,foldedSetIterable jS X.env x=pure x:=by intro _;rfl):
 PS X (.Assign [.Name y py] (.ListComp l6 [⟨tg,jS,lN,0⟩] scope pos) O2) (uQ (BU wi g tt te (own.map (·.2))) (sC i)):=by
 intro fL s σ H D I h;rw[exec_Assign_Name_used _ _ _ _ hsw];refine ay (dN (ay ?_));show wpAny _ X.A (do let _<-comprehension (.ListComp l6 [⟨tg,jS,lN,0⟩] scope pos) scope X.env (firstIterPos [⟨tg,jS,lN,0⟩] pos) (newList []) false (eval jS X.env) (some (assign (.Name y py) X.env))) _ _ s;have h:BU wi g tt te (own.map (·.2)) σ H (fun x H1=>sC i x σ H1 D.nx):=h;refine ay (gm (Nq (Qf:=fun _ s'=>SP X fL D .next s') hc hN I hi ok hg ht he hs h fun L C s' m H' I' q hn f=> ?_) fun _ s' hq=>aY (aY hq));show wpAny _ _ (assign (.Name y py) X.env (.ref L)) _ _ _;refine wpAny_assign_Name (L0 (v:=V.ref L) I' hN hy (.inl Px) Z (fun s2 I2 ⟨a,sb,ha⟩=> ?_) (.inr Px));obtain⟨f0,f1,f2,f3,f4,f5⟩:=f
 have haC:C≠a:=by
  rcases ha with z|z
  ·rw[z];exact f1
  ·exact fun e=>f4 y a z e.symm
 refine⟨m,hn.sameBut sb haC,fun h3 sb3=> ?_⟩;exact⟨_,H',I2.turned (t':=s2.toks) (fun b o hb e=>(sb3.2 b hb).trans e) f0 f1 f3 f4 f5,q⟩
theorem Nr{l6:Expr}{gs:List Comprehension}{scope:Scope}{pos py:Pos}{y:Str}{l:Nat}{env:Env}(hk:env.scope.kind=.function)(hy:env.scope.names.lookup y=some .local)(hl:(py.line==pos.line)=true)
 (ha:(scope.names.any fun(n,k)=>n==y&&(k==.local||k==.cell))=false):swapsWith (.ListComp l6 gs scope pos) (some (.Name y py)) l env=pure true:=by
 have ky:env.kindOf y=some .local:=hy;have hb:env.blockKind=.function:=by unfold Env.blockKind;rw[hk];rfl
 unfold swapsWith;simp only[hb,ky,ha,Expr.pos,hl];rfl
end
theorem Aw{lo:Int}{n:Nat}{g:TG}{tt:TT}{te:TE}{vs:List Nat}{σ:St}{H1:Hp}{D:Addr}{Qd:Hp->Prop}(Pv:Nat->Hp->Prop)(h0:Pv 0 (fM H1 D (.lst [])))
 (hs:∀i H,i<n->Pv i H->g (.int (lo+i)) (iA σ vs) H fun gv H2=>iA gv vs=iA σ vs/\tt gv H2 fun b H3=>
   if b=true then te gv H3 fun y H4=>∃acc,H4 D=some (.lst acc)/\acc.length<sizeLine/\Pv (i+1) (fM H4 D (.lst (acc++[y]))) else Pv (i+1) H3) (hd:∀H,Pv n H->Qd H):
 ∃W:Nat->Nat->Hp->Prop,(∃m,W 0 m (fM H1 D (.lst [])))/\∀i m H,W i m H->
  ((rq lo n).stop i H/\Qd H)\/((rq lo n).go i H/\∃Nx:Hp->Prop,(∀H',Nx H'->∃m',m'<m/\W (i+1) m' H')/\∀x H',(rq lo n).mG i H x H'->g x (iA σ vs) H' fun gv H2=>iA gv vs=iA σ vs/\tt gv H2 fun b H3=>
    if b=true then te gv H3 fun y H4=>∃acc,H4 D=some (.lst acc)/\acc.length<sizeLine/\Nx (fM H4 D (.lst (acc++[y]))) else Nx H3):=by
 refine⟨fun i m H=>m=n-i/\i<=n/\Pv i H,⟨n,by simp,aN _,h0⟩,?_⟩;rintro i m H ⟨rfl,hi,p⟩
 by_cases hZ:i<n
 ·refine .inr ⟨hZ,Pv (i+1),fun H' p'=>⟨n-(i+1),by omega,Z,hZ,p'⟩,fun x H' y=> ?_⟩;obtain⟨e,y⟩:=y;subst e y;exact hs i _ hZ p
 ·have e:i=n:=by omega
  subst e;exact .inl ⟨aA _,hd H p⟩
theorem sj{K:PySem.W.Frag}{a:Addr}{xs:List V}{g:TG}{tt:TT}{te:TE}{vs:List Nat}{σ:St}{H1:Hp}{D:Addr}{Qd:Hp->Prop}(Pv:Nat->Hp->Prop)(h0:Pv 0 (fM H1 D (.lst [])))(hl:∀i H,i<=xs.length->Pv i H->fR K H a xs)
 (hs:∀i x H,xs[i]? =some x->Pv i H->g x (iA σ vs) H fun gv H2=>iA gv vs=iA σ vs/\tt gv H2 fun b H3=>
   if b=true then te gv H3 fun y H4=>∃acc,H4 D=some (.lst acc)/\acc.length<sizeLine/\Pv (i+1) (fM H4 D (.lst (acc++[y]))) else Pv (i+1) H3) (hd:∀H,Pv xs.length H->Qd H):
 ∃W:Nat->Nat->Hp->Prop,(∃m,W 0 m (fM H1 D (.lst [])))/\∀i m H,W i m H->
  ((sX K a).stop i H/\Qd H)\/((sX K a).go i H/\∃Nx:Hp->Prop,(∀H',Nx H'->∃m',m'<m/\W (i+1) m' H')/\∀x H',(sX K a).mG i H x H'->g x (iA σ vs) H' fun gv H2=>iA gv vs=iA σ vs/\tt gv H2 fun b H3=>
    if b=true then te gv H3 fun y H4=>∃acc,H4 D=some (.lst acc)/\acc.length<sizeLine/\Nx (fM H4 D (.lst (acc++[y]))) else Nx H3):=by
 refine⟨fun i m H=>m=xs.length-i/\i<=xs.length/\Pv i H,⟨xs.length,by simp,aN _,h0⟩,?_⟩;rintro i m H ⟨rfl,hi,p⟩;have q:=hl i H hi p
 by_cases hZ:i<xs.length
 ·refine .inr ⟨⟨xs,xs[i],q,by simp[hZ]⟩,Pv (i+1),fun H' p'=>⟨xs.length-(i+1),by omega,Z,hZ,p'⟩,fun x H' y=> ?_⟩;obtain⟨e,y⟩:=y;subst e;exact hs i x _ (y xs q) p
 ·have e:i=xs.length:=by omega
  subst e;exact .inl ⟨⟨xs,q,aA _⟩,hd H p⟩
theorem Zq{K:PySem.W.Frag}{a:Addr}{xs:List V}{g:TG}{tt:TT}{te:TE}{vs:List Nat}{σ:St}{H1:Hp}{D:Addr}{Qd:Hp->Prop}(Pv:Nat->Hp->Prop)(h0:Pv 0 (fM H1 D (.lst [])))(hl:∀i H,i<=xs.length->Pv i H->iN K H a xs)
 (hs:∀i x H,xs[i]? =some x->Pv i H->g x (iA σ vs) H fun gv H2=>iA gv vs=iA σ vs/\tt gv H2 fun b H3=>
   if b=true then te gv H3 fun y H4=>∃acc,H4 D=some (.lst acc)/\acc.length<sizeLine/\Pv (i+1) (fM H4 D (.lst (acc++[y]))) else Pv (i+1) H3) (hd:∀H,Pv xs.length H->Qd H):
 ∃W:Nat->Nat->Hp->Prop,(∃m,W 0 m (fM H1 D (.lst [])))/\∀i m H,W i m H->
  ((sY K a).stop i H/\Qd H)\/((sY K a).go i H/\∃Nx:Hp->Prop,(∀H',Nx H'->∃m',m'<m/\W (i+1) m' H')/\∀x H',(sY K a).mG i H x H'->g x (iA σ vs) H' fun gv H2=>iA gv vs=iA σ vs/\tt gv H2 fun b H3=>
    if b=true then te gv H3 fun y H4=>∃acc,H4 D=some (.lst acc)/\acc.length<sizeLine/\Nx (fM H4 D (.lst (acc++[y]))) else Nx H3):=by
 refine⟨fun i m H=>m=xs.length-i/\i<=xs.length/\Pv i H,⟨xs.length,by simp,aN _,h0⟩,?_⟩;rintro i m H ⟨rfl,hi,p⟩;have q:=hl i H hi p
 by_cases hZ:i<xs.length
 ·refine .inr ⟨⟨xs,xs[i],q,by simp[hZ]⟩,Pv (i+1),fun H' p'=>⟨xs.length-(i+1),by omega,Z,hZ,p'⟩,fun x H' y=> ?_⟩;obtain⟨e,y⟩:=y;subst e;exact hs i x _ (y xs q) p
 ·have e:i=xs.length:=by omega
  subst e;exact .inl ⟨⟨xs,q,aA _⟩,hd H p⟩
def O3(N:List Str)(sc scope:Scope)(own:List (Str×Nat)):Bool:=
 (match scope.kind with|.function=>true|_=>false)&&(scope.names.all fun y=>decide (scope.names.lookup y.1=some y.2))&&(own.all fun p=>decide (N[p.2]? =some p.1))&&
   (scope.names.all fun y=>match y.2 with
     |.free=>(match sc.names.lookup y.1 with|some .cell=>true|some .free=>true|_=>false)
     |.local=>decide (y.1∈own.map (·.1))||decide (y.1∉N)
     |.cell=>decide (y.1∈own.map (·.1))||decide (y.1∉N)
     |_=>true)
theorem lC{N:List Str}{sc scope:Scope}{own:List (Str×Nat)}(h:O3 N sc scope own=true):yo N sc scope own:=by
 unfold O3 at h;simp only[aH,a9,aJ] at h;obtain⟨⟨⟨h1,h2⟩,h3⟩,h4⟩:=h;refine⟨?_,h2,h3,fun y hy e=> ?_,fun y hy e=> ?_⟩
 ·split at h1
  ·assumption
  ·cases h1
 ·have q:=h4 y hy;simp only[e] at q;split at q<;>first|exact .inl (by assumption)|exact .inr (by assumption)|cases q
 ·have q:=h4 y hy;rcases e with e|e<;>(simp only[e,Bool.or_eq_true,aJ] at q;exact q)
section
variable {κ:Type} [DecidableEq κ]
def i5(kvs:List (κ×V))(k:κ):Option V:=(kvs.find? fun kv=>decide (kv.1=k)).map (·.2)
def lJ(kvs:List (κ×V))(k:κ)(v:V):List (κ×V):=
 if (kvs.any fun kv=>decide (kv.1=k))=true then kvs.map (fun kv=>if kv.1=k then(kv.1,v) else kv) else kvs++[(k,v)]
theorem vM{p:κ×V}{r:List (κ×V)}{k:κ}(e:p.1=k):i5 (p::r) k=some p.2:=by simp[i5,List.find?_cons,e]
theorem uq{p:κ×V}{r:List (κ×V)}{k:κ}(e:¬p.1=k):i5 (p::r) k=i5 r k:=by simp[i5,List.find?_cons,e]
theorem FT(k:κ):∀kvs:List (κ×V),(kvs.any fun kv=>decide (kv.1=k))=(i5 kvs k).isSome
 |[]=>rfl
 |p::r=>by
  rw[dv]
  by_cases e:p.1=k
  ·simp only[vM e,ai e,Bool.true_or,Option.isSome_some]
  ·rw[uq e,ae e,Bool.false_or];exact FT k r
theorem KO(kvs:List (κ×V))(k:κ)(v:V):(lJ kvs k v).length<=kvs.length+1:=by
 unfold lJ;split
 ·rw[ac];omega
 ·rw[ag,aj,aZ];omega
theorem MM{kvs:List (κ×V)}{k:κ}(v:V)(h:i5 kvs k=none):lJ kvs k v=kvs++[(k,v)]:=by
 unfold lJ;rw[FT,h];exact am (by decide)
theorem ku.Ai{o:Option V}{u:Option Value}(r:ku o u):o.isSome=u.isSome:=by
 cases o with
 |none=>cases u with
  |none=>rfl
  |some _=>exact(show False from r).elim
 |some _=>cases u with
  |none=>exact(show False from r).elim
  |some _=>rfl
theorem ku.getD{o:Option V}{u:Option Value}{d:V}{d':Value}(r:ku o u)(rd:RelV d d'):RelV (o.getD d) (u.getD d'):=by
 cases o with
 |none=>cases u with
  |none=>exact rd
  |some _=>exact(show False from r).elim
 |some _=>cases u with
  |none=>exact(show False from r).elim
  |some _=>exact r
theorem KV.val{kvs:List (κ×V)}{vs:List (κ×Value)}(r:KV kvs vs)(k:κ):ku (i5 kvs k) (valueAt vs k):=by
 unfold KV at r
 induction r with
 |nil=>exact True.intro
 | @cons p q ps qs h t ih=>
   obtain⟨h1,h2⟩:=h
   by_cases e:p.1=k
   ·have e':q.1=k:=h1.symm.trans e;have b:valueAt (q::qs) k=some q.2:=by simp[valueAt,List.find?_cons,e']
    rw[vM e,b];exact h2
   ·have e':¬q.1=k:=fun z=>e (h1.trans z)
    have b:valueAt (q::qs) k=valueAt qs k:=by simp[valueAt,List.find?_cons,e']
    rw[uq e,b];exact ih
theorem KV.any{kvs:List (κ×V)}{vs:List (κ×Value)}(r:KV kvs vs)(k:κ):(kvs.any fun kv=>decide (kv.1=k))=vs.any fun kv=>decide (kv.1=k):=by
 unfold KV at r
 induction r with
 |nil=>rfl
 |cons h t ih=>rw[dv,dv,ih,h.1]
theorem KV.Hj{kvs:List (κ×V)}{vs:List (κ×Value)}(r:KV kvs vs)(k:κ){y:V}{u:Value}(ry:RelV y u):
 KV (kvs.map fun kv=>if kv.1=k then(kv.1,y) else kv) (vs.map fun kv=>if kv.1=k then(kv.1,u) else kv):=by
 unfold KV at r⊢
 induction r with
 |nil=>exact .nil
 | @cons p q ps qs h t ih=>
   rw[aB,aB];refine .cons ?_ ih;obtain⟨h1,h2⟩:=h
   by_cases e:p.1=k
   ·rw[aw e,aw (h1.symm.trans e)];exact⟨h1,ry⟩
   ·rw[am e,am (fun z=>e (h1.trans z))];exact⟨h1,h2⟩
theorem KV.put{kvs:List (κ×V)}{vs:List (κ×Value)}(r:KV kvs vs)(k:κ){y:V}{u:Value}(ry:RelV y u):KV (lJ kvs k y) (stored vs k u):=by
 unfold lJ stored;rw[r.any k]
 by_cases e:(vs.any fun kv=>decide (kv.1=k))=true
 ·rw[aw e,aw e];exact r.Hj k ry
 ·rw[am e,am e];exact Paired.snoc r ⟨Z,ry⟩
theorem KV.length{kvs:List (κ×V)}{vs:List (κ×Value)}(r:KV kvs vs):kvs.length=vs.length:=dO r
end
theorem uJ{P:Program}{w:World}{k:Key}{u:Value}(r:RelV (kV k) u):(k8 P w).is k u=true:=by
 cases k with
 |inl i=>obtain⟨t,e⟩:=(show∃t,u=Value.int i t from r);subst e;exact Ut P w i t
 |inr x=>obtain⟨t,e⟩:=(show∃t,u=Value.str x t from r);subst e;exact Uu P w x t
theorem L7{P:Program}{w:World}:∀{ks:List Key} {us:List Value},gF (ks.map kV) us->ItemsAre (k8 P w) ks us
 |[],_,r=>by rw[cg] at r;cases r;exact .nil
 |k::ks,_,r=>by
  rw[aB] at r;cases r with
  |cons h t=>exact .cons (uJ h) (L7 t)
abbrev KT(H:Hp):List (List Key×V)->List (List Key×Addr×Value)->Prop:=Paired fun p q=>p.1=q.1/\H q.2.1=some (.tup (p.1.map kV))/\RelV p.2 q.2.2
theorem KT.val{H:Hp}{kvs:List (List Key×V)}{xs:List (List Key×Addr×Value)}(r:KT H kvs xs)(k:List Key):ku (i5 kvs k) ((atKey xs k).map (·.2)):=by
 induction r with
 |nil=>exact True.intro
 | @cons p q ps qs h t ih=>
   obtain⟨h1,_,h2⟩:=h
   by_cases e:p.1=k
   ·have e':q.1=k:=h1.symm.trans e;have b:atKey (q::qs) k=some q.2:=by simp[atKey,List.find?_cons,e']
    rw[vM e,b];exact h2
   ·have e':¬q.1=k:=fun z=>e (h1.trans z)
    have b:atKey (q::qs) k=atKey qs k:=by simp[atKey,List.find?_cons,e']
    rw[uq e,b];exact ih
theorem KT.Hj{H:Hp}{kvs:List (List Key×V)}{xs:List (List Key×Addr×Value)}(r:KT H kvs xs)(k:List Key){y:V}{u:Value}(ry:RelV y u):
 KT H (kvs.map fun kv=>if kv.1=k then(kv.1,y) else kv) (xs.map (putAt k u)):=by
 induction r with
 |nil=>exact .nil
 | @cons p q ps qs h t ih=>
   rw[aB,aB];refine .cons ?_ ih;obtain⟨h1,h2,h3⟩:=h;unfold putAt
   by_cases e:p.1=k
   ·rw[aw e,aw (h1.symm.trans e)];exact⟨h1,h2,ry⟩
   ·rw[am e,am (fun z=>e (h1.trans z))];exact⟨h1,h2,h3⟩
theorem KT.put{H:Hp}{kvs:List (List Key×V)}{xs:List (List Key×Addr×Value)}(r:KT H kvs xs)(k:List Key){b:Addr}{y:V}{u:Value}(hb:H b=some (.tup (k.map kV)))(ry:RelV y u):
 KT H (lJ kvs k y) (storedH xs k b u):=by
 have e:(kvs.any fun kv=>decide (kv.1=k))=(atKey xs k).isSome:=by
  rw[FT,(r.val k).Ai,Option.isSome_map]
 unfold lJ storedH;rw[e]
 by_cases q:(atKey xs k).isSome=true
 ·rw[aw q,aw q];exact r.Hj k ry
 ·rw[am q,am q];exact Paired.snoc r ⟨Z,hb,ry⟩
theorem KT.keeps{H H':Hp}{kvs:List (List Key×V)}{xs:List (List Key×Addr×Value)}(r:KT H kvs xs)(ht:∀b ys,H b=some (.tup ys)->H' b=some (.tup ys)):KT H' kvs xs:=
 Paired.Hb r fun _ _ z=>⟨z.1,ht _ _ z.2.1,z.2.2⟩
section
variable {P:Program} {w:World} {H:Hp} {h:Heap} {a:Addr}
theorem Ou{u:HO}(ok:iY P w H h)(e:Rd H a u):jj P w H h a u:=e.ok ok
theorem uK{kvs:List (Key×V)}(ok:iY P w H h)(e:Rd H a (.dK kvs)):kvs.length<=sizeLine/\(a==sysModules)=false/\∃vs,KV kvs vs/\h.DictOf (k8 P w) a vs:=
 show jj P w H h a (.dK kvs) from Ou ok e
theorem aah{kvs:List (Key×V)}(ok:iY P w H h)(e:H a=some (.dK kvs)):kvs.length<=sizeLine/\(a==sysModules)=false/\∃vs,KV kvs vs/\h.DictOf (k8 P w) a vs:=uK ok (.inl e)
theorem ym{ks:List Key}(ok:iY P w H h)(e:H a=some (.tup (ks.map kV))):(tupleKind (k8 P w)).is h ks a:=by
 obtain⟨_,fU,r,o,h1,h2,n,h3⟩:=(show jj P w H h a (.tup (ks.map kV)) from ok a _ e);exact⟨o,fU.toArray,n,h1,h2,h3,by simpa using L7 r⟩
theorem wf{kvs:List (List Key×V)}(ok:iY P w H h)(e:Rd H a (.dT kvs)):kvs.length<=sizeLine/\(a==sysModules)=false/\
 ∃xs,KT H kvs xs/\h.DictOfH (tupleKind (k8 P w)) a xs:=by
 obtain⟨z,y,xs,r,o,es,ep,h1,h2,h3,h4,h5⟩:=(show jj P w H h a (.dT kvs) from Ou ok e);refine⟨z,y,xs,r,o,es,ep,h1,h2,h3,h4,fun x hx=> ?_,h5⟩
 have all:∀{l:List (List Key×V)} {m:List (List Key×Addr×Value)},KT H l m->∀x∈m,(tupleKind (k8 P w)).is h x.1 x.2.1:=by
  intro l m q
  induction q with
  |nil=>intro x hx;exact nomatch hx
  | @cons p q ps qs hq t ih=>
    intro x hx;rcases az.mp hx with e|hx
    ·subst e;exact ym ok (by rw[<-hq.1];exact hq.2.1)
    ·exact ih x hx
 exact all r x hx
theorem aai{kvs:List (List Key×V)}(ok:iY P w H h)(e:H a=some (.dT kvs)):kvs.length<=sizeLine/\(a==sysModules)=false/\
 ∃xs,KT H kvs xs/\h.DictOfH (tupleKind (k8 P w)) a xs:=wf ok (.inl e)
end
def lK(H:Hp)(a:Addr)(y:V)(r:Option V):Prop:=
 (∃kvs k,Rd H a (.dK kvs)/\y=kV k/\r=i5 kvs k)\/∃kvs k b,Rd H a (.dT kvs)/\y=.ref b/\H b=some (.tup (k.map kV))/\r=i5 kvs k
def uW(H:Hp)(a:Addr)(y v:V)(H':Hp):Prop:=
 (∃kvs k,H a=some (.dK kvs)/\y=kV k/\kvs.length<sizeLine/\H'=fM H a (.dK (lJ kvs k v)))\/
 ∃kvs k b,H a=some (.dT kvs)/\y=.ref b/\H b=some (.tup (k.map kV))/\kvs.length<sizeLine/\H'=fM H a (.dT (lJ kvs k v))
theorem lK.k{H:Hp}{a:Addr}{kvs:List (Key×V)}{k:Key}(e:H a=some (.dK kvs)):lK H a (kV k) (i5 kvs k):=.inl ⟨kvs,k,.inl e,Z,Z⟩
theorem uW.k{H:Hp}{a:Addr}{kvs:List (Key×V)}{k:Key}{v:V}(e:H a=some (.dK kvs))(hl:kvs.length<sizeLine):uW H a (kV k) v (fM H a (.dK (lJ kvs k v))):=.inl ⟨kvs,k,e,Z,hl,Z⟩
section
variable {X:Cx} {fL:List (Addr×Obj)} {σ:St} {H:Hp} {s:Shared} {a:Addr} {y v:V} {u r:Value} {o:Option V} {A:Around} {E:Value->Shared->Prop}
theorem Inv.big(I:Inv X fL σ H s):sysModules<s.heap.objs.size:=by
 have h:mainGlobals<s.heap.objs.size:=(I.mod.glob.keeps I.bk).lt;exact Nat.lt_trans (by decide) h
theorem V1{Q:Value->Shared->Prop}(hu:A.units+1<cLine)(I:Inv X fL σ H s)(g:lK H a y (some v))(ry:RelV y u)(h:∀w' s',Inv X fL σ H s'->RelV v w'->Q w' s'):
 wpAny (model X.prog X.w) A (getItem (.ref a) u) Q E s:=by
 rcases g with⟨kvs,k,e,ey,l⟩|⟨kvs,k,b,e,ey,eb,l⟩
 ·subst ey;obtain⟨z,hd,vs,rel,dd⟩:=uK I.gh e;obtain⟨w',hw,og⟩:=ku.some_of (v:=v) (o:=valueAt vs k) (by rw[l];exact rel.val k);exact wpAny_getItem_of (uJ ry) dd.mapOf hw (h w' _ (I.tok _) og)
 ·subst ey;cases (show u=Value.ref b from ry);obtain⟨z,hd,xs,rel,dd⟩:=wf I.gh e;obtain⟨w',hw,og⟩:=ku.some_of (v:=v) (o:=(atKey xs k).map (·.2)) (by rw[l];exact rel.val k);obtain⟨p,hp,hp2⟩:=Option.map_eq_some_iff.mp hw;refine wpAny_getItem_heap (eW hu) (ym I.gh eb) dd hp ?_;rw[hp2];exact h w' _ (I.tok _) og
theorem abj{Q:Value->Shared->Prop}(hu:A.units+1<cLine)(I:Inv X fL σ H s)(g:lK H a y o)(ry:RelV y u)(h:∀s',Inv X fL σ H s'->Q (.bool o.isSome) s'):
 wpAny (model X.prog X.w) A (compareOp .In u (.ref a)) Q E s:=by
 rcases g with⟨kvs,k,e,ey,l⟩|⟨kvs,k,b,e,ey,eb,l⟩
 ·subst ey;obtain⟨z,hd,vs,rel,dd⟩:=uK I.gh e;refine wpAny_in_of (uJ ry) hd dd.mapOf ?_;rw[<-(rel.val k).Ai,<-l];exact h _ (I.tok _)
 ·subst ey;cases (show u=Value.ref b from ry);obtain⟨z,hd,xs,rel,dd⟩:=wf I.gh e;refine wpAny_in_heap (eW hu) (ym I.gh eb) hd dd ?_;have q:=(rel.val k).Ai;rw[Option.isSome_map] at q;rw[<-q,<-l];exact h _ (I.tok _)
theorem Nt{h':Heap}{t':Nat}{ob:HO}(I:Inv X fL σ H s)(mu:sS (H a))(hs:Heap.SameBut a s.heap h')(he:∃q,h'.get? a=some q)(new:jj X.prog X.w (fM H a ob) h' a ob):
 Inv X fL σ (fM H a ob) {s with heap:=h',toks:=t'}:=
 I.write (x:=a) (e:=a) mu (.inl Z) (fun b q hb z=>(hs.2 b hb).trans z) he new
theorem Zr{P:Program}{w:World}{H':Hp}{h':Heap}{kvs:List (Key×V)}{vs:List (Key×Value)}(z:kvs.length<=sizeLine)(hd:(a==sysModules)=false)(rel:KV kvs vs)(dd:h'.DictOf (k8 P w) a vs):
 jj P w H' h' a (.dK kvs):=⟨z,hd,vs,rel,dd⟩
theorem V2{H':Hp}{Q:Unit->Shared->Prop}(hu:A.units+1<cLine)(I:Inv X fL σ H s)(g:uW H a y v H')(ry:RelV y u)(rv:RelV v r)(h:∀s',Inv X fL σ H' s'->Q () s'):
 wpAny (model X.prog X.w) A (setItem (.ref a) u r) Q E s:=by
 rcases g with⟨kvs,k,e,ey,l,eH⟩|⟨kvs,k,b,e,ey,eb,l,eH⟩
 ·subst ey eH;obtain⟨z,hd,vs,rel,dd⟩:=aah I.gh e;have hz:vs.length<=sizeLine:=by rw[<-rel.length];exact z
  have hl:(lJ kvs k v).length<=sizeLine:=by have:=KO kvs k v;omega
  refine wpAny_setItem_pairs (hsz:=hz) (uJ ry) dd fun h' yO hs=>h _ ?_
  have he:∃q,h'.get? a=some q:=let ⟨q,_,_,hq,_⟩:=yO;⟨q,hq⟩
  exact Nt I (by rw[e];exact True.intro) hs he (Zr hl hd (rel.put k rv) yO)
 ·subst ey eH;cases (show u=Value.ref b from ry);obtain⟨z,hd,xs,rel,dd⟩:=aai I.gh e;have hz:xs.length<=sizeLine:=by rw[<-dO rel];exact z
  have hl:(lJ kvs k v).length<=sizeLine:=by have:=KO kvs k v;omega
  refine wpAny_setItem_heap (hsz:=hz) (eW hu) (ym I.gh eb) dd fun h' yO hs=>h _ ?_
  obtain⟨q,es,ep,hq,h2,h3,h4,_,h5⟩:=yO;refine Nt I (by rw[e];exact True.intro) hs ⟨q,hq⟩ ⟨hl,hd,_,(rel.put k eb rv).keeps fun c ys ec=> ?_,q,es,ep,hq,h2,h3,h4,h5⟩;rw[fT (pL ec e (fun z=>nomatch z))];exact ec
end
section
variable {X:Cx} {fL:List (Addr×Obj)} {σ:St} {H:Hp} {s:Shared} {a:Addr} {kvs:List (Key×V)} {k:Key} {u:Value} {A:Around} {E:Value->Shared->Prop}
theorem aaj{Q:Value->Shared->Prop}(I:Inv X fL σ H s)(e:Rd H a (.dK kvs))(h:∀t s',Inv X fL σ H s'->Q (.int kvs.length t) s'):wpAny (model X.prog X.w) A (call (.builtin "len") [.ref a]) Q E s:=by
 obtain⟨z,hd,vs,rel,dd⟩:=uK I.gh e;refine call_len_dict hd dd (by rw[<-rel.length];rw[sizeLine_eq] at z;omega) ?_;rw[<-rel.length];exact h _ _ (I.tok _)
end
def Hk(i:Expr):Prop:=∀ov iv,subscripted i false ov iv=operate [ov,iv] (getItem ov iv)
theorem Nu{prog:Program}{w:World}{A:Around}{E:Value->Shared->Prop}{s:Shared}{env:Env}{value qB:Expr}{pos:Pos}{T id:String}{Q:Value->Shared->Prop}
 (hl:typeLookup (.type T) "__getitem__"=pure (some (.builtin id))) (hs:Hk qB)
 (h:wpAny (model prog w) A (eval value env) (fun o iK=>wpAny (model prog w) A (eval qB env) (fun i jM=>jM.TypeIs o T/\wpAny (model prog w) A (getItem o i) Q E jM) E iK) E s):
 wpAny (model prog w) A (eval (.Subscript value qB pos) env) Q E s:=by
 refine Subscript_ (bF h (fun o iK wB=>bF wB (fun i jM yB=> ?_) fun _ _ x=>x) fun _ _ x=>x);obtain⟨hT,yB⟩:=yB;unfold subscriptTail;refine ay ?_;rw[getitemInPython_of_ne hT.not_modules];refine ay (wpAny_specialOf hT hl ?_)
 have fin:wpAny (model prog w) A (subscripted qB false o i) (fun r sO=>wpAny (model prog w) A (letTemporaryGo value o r>>=fun _=>pure r) Q E sO) E jM:=by
  rw[hs o i];exact wpAny_operating (bF yB (fun r sO Bw=>ay (wpAny_letTemporaryGo (aY Bw))) fun _ _ x=>x)
 first
  |exact aY (ay fin)
  |exact ay (aY (ay fin))
  |exact ay fin
theorem Uz{X:Cx}{fL:List (Addr×Obj)}{σ:St}{H:Hp}{s:Shared}{a:Addr}{y:V}{o:Option V}(I:Inv X fL σ H s)(g:lK H a y o):s.TypeIs (.ref a) "dict":=by
 rcases g with⟨kvs,k,e,_,_⟩|⟨kvs,k,b,e,_,_,_⟩
 ·obtain⟨_,_,vs,_,dd⟩:=uK I.gh e;exact dd.typeIs
 ·obtain⟨_,_,xs,_,dd⟩:=wf I.gh e;exact dd.typeIs
def aak(td ty:TE):TE:=fun σ H Q=>td σ H fun x H1=>ty σ H1 fun y H2=>∃a v,x=.ref a/\lK H2 a y (some v)/\Q v H2
def abk(ty td:TE):TE:=fun σ H Q=>ty σ H fun y H1=>td σ H1 fun x H2=>∃a o,x=.ref a/\lK H2 a y o/\Q (.bl o.isSome) H2
def aal(td ty tv:TE):TS:=fun D σ H=>tv σ H fun v H1=>td σ H1 fun x H2=>ty σ H2 fun y H3=>∃a H4,x=.ref a/\uW H3 a y v H4/\D.nx σ H4
section
variable {X:Cx} {o i e value:Expr} {pos kU mR:Pos} {td ty tv:TE}
theorem Nv(hu:X.A.units+1<cLine)(ho:PE X o td)(hi:PE X i ty)(hs:Hk i):PE X (.Subscript o i pos) (aak td ty):=by
 intro fL s σ H Q I h;refine Nu PySem.F.slot_dict_getitem.lookup hs (gm (ho fL s σ H _ I h) fun u s1 ⟨x,H1,I1,rx,q1⟩=>gm (hi fL s1 σ H1 _ I1 q1) fun iv s2 ⟨y,H2,I2,ry,a,v,ex,g,q2⟩=> ?_);subst ex;obtain rfl:u=Value.ref a:=rx;exact⟨Uz I2 g,V1 hu I2 g ry fun w' s3 I3 og=>⟨v,H2,I3,og,q2⟩⟩
theorem Oc(hu:X.A.units+1<cLine)(hi:PE X i ty)(ho:PE X o td):PC X .In i o (abk ty td):=by
 intro fL s σ H Q I h;refine gm (hi fL s σ H _ I h) fun iv s1 ⟨y,H1,I1,ry,q1⟩=>gm (ho fL s1 σ H1 _ I1 q1) fun u s2 ⟨x,H2,I2,rx,a,ov,ex,g,q2⟩=> ?_
 subst ex;obtain rfl:u=Value.ref a:=rx;exact abj hu I2 g ry fun s3 I3=>⟨.bl ov.isSome,H2,I3,Z,q2⟩
theorem Gs(hu:X.A.units+1<cLine)(ho:PE X o td)(hi:PE X i ty)(hv:PE X value tv)(hs:swapsWith value (some (.Subscript o i kU)) pos.line X.env=pure false):
 PS X (.Assign [.Subscript o i kU] value pos) (aal td ty tv):=by
 intro fL s σ H D I h;refine wpAny_Assign_Subscript (gm (hv fL s σ H _ I h) fun r s1 ⟨v,H1,I1,rv,q1⟩=>gm (ho fL s1 σ H1 _ I1 q1) fun u s2 ⟨x,H2,I2,rx,q2⟩=>gm (hi fL s2 σ H2 _ I2 q2) fun iv s3 ⟨y,H3,I3,ry,a,H4,ex,g,q3⟩=> ?_) hs;subst ex;obtain rfl:u=Value.ref a:=rx;exact V2 hu I3 g ry rv fun s4 I4=>⟨σ,H4,I4,q3⟩
end
theorem W5{P:Program}{w:World}{H:Hp}(h:Heap)(hb:sysModules<h.objs.size):jj P w H (h.push {cls:=.type "dict",data:=.dict #[]}) h.objs.size (.dK []):=
 ⟨aN _,cM.mpr (cI (ba hb)),[],.nil,Heap.DictOf.new h⟩
def Zs:TE:=fun _ H Q=>∀p,H p=none->Q (.ref p) (fM H p (.dK []))
section
variable {X:Cx} {pos:Pos}
theorem FU:PE X (.Dict [] [] pos) Zs:=fun fL s σ H Q I h=>
 wpAny_Dict_empty ⟨.ref s.heap.objs.size,_,I.laid (a:=s.heap.objs.size) (o:=.dK []) (t':=s.toks) (fun _ _ q=>aC _ q) (aA _) (W5 s.heap I.big),Z,h _ (I.gh.fresh (aA _))⟩
end
structure M2(X:Cx)(o:Expr)(m:Str)(jC:Pos)(e f:Expr)(jT:Pos):Prop where
 base:attributeBase o m X.env (eval o X.env)=eval o X.env
 iC:((backTo jT (starEach [e,f] X.env)).all (fun x=> !x.1)&&(backToKw jT (keywordEach [] X.env)).all (fun x=>x.1.isSome)
  &&decide (([e,f]:List Expr).length+([]:List Keyword).length+(if ([]:List Keyword).isEmpty then 0 else 1)<30))=true
 line:(jC.endLine==jT.line)=true
 aam:backTo jT (starEach [e,f] X.env)=[(false,eval e X.env),(false,eval f X.env)]
def Py(H:Hp)(a:Addr):Prop:=(∃kvs,Rd H a (.dK kvs))\/∃kvs,Rd H a (.dT kvs)
theorem Zt{X:Cx}{fL:List (Addr×Obj)}{σ:St}{H:Hp}{s:Shared}{a:Addr}(I:Inv X fL σ H s)(d:Py H a):
 s.TypeIs (.ref a) "dict"/\(∀b,Value.ref a=.ref b->∃ob,s.heap.get? b=some ob/\ob.dict=none)/\(a==sysModules)=false:=by
 rcases d with⟨kvs,e⟩|⟨kvs,e⟩
 ·obtain⟨_,hd,vs,_,dd⟩:=uK I.gh e;refine⟨dd.typeIs,fun b q=> ?_,hd⟩;cases q;obtain⟨ob,_,_,h1,h2,_⟩:=dd;exact⟨ob,h1,h2.2.1⟩
 ·obtain⟨_,hd,xs,_,dd⟩:=wf I.gh e;refine⟨dd.typeIs,fun b q=> ?_,hd⟩;cases q;obtain⟨ob,_,_,h1,h2,_⟩:=dd;exact⟨ob,h1,h2.2.1⟩
section
variable {X:Cx} {fL:List (Addr×Obj)} {σ:St} {H:Hp} {s:Shared} {a:Addr} {y d:V} {u r:Value} {o:Option V} {A:Around} {E:Value->Shared->Prop}
theorem Zu{Q:Value->Shared->Prop}(hu:A.units+1<cLine)(I:Inv X fL σ H s)(g:lK H a y o)(ry:RelV y u)(rd:RelV d r)(h:∀w' s',Inv X fL σ H s'->RelV (o.getD d) w'->Q w' s'):
 wpAny (model X.prog X.w) A (call (.builtin "dict.get") [.ref a,u,r]) Q E s:=by
 rcases g with⟨kvs,k,e,ey,l⟩|⟨kvs,k,b,e,ey,eb,l⟩
 ·subst ey;obtain⟨z,hd,vs,rel,dd⟩:=uK I.gh e;refine call_meetsIn fk dd.typeIs PySem.F.entry_dict_get (PySem.F.args_dict_get_3 _ _ _) (meets_dict_get_default (k8 X.prog X.w) a (uJ ry) hd r) ⟨_,dd.mapOf,h _ _ (I.tok _) ?_⟩;rw[l];exact(rel.val k).getD rd
 ·subst ey;cases (show u=Value.ref b from ry);obtain⟨z,hd,xs,rel,dd⟩:=wf I.gh e;refine call_meetsIn fk dd.typeIs PySem.F.entry_dict_get (PySem.F.args_dict_get_3 _ _ _) (meetsH_dict_get_default (tupleKind (k8 X.prog X.w)) a b hd r) ⟨eW hu,k,xs,ym I.gh eb,dd,h _ _ (I.tok _) ?_⟩;rw[l];exact(rel.val k).getD rd
end
def Zv(td ty tx:TE):TE:=fun σ H Q=>td σ H fun x H1=>∃a,x=.ref a/\Py H1 a/\ty σ H1 fun y H2=>tx σ H2 fun z H3=>∃o,lK H3 a y o/\Q (o.getD z) H3
section
variable {X:Cx} {o e f:Expr} {jC jT:Pos} {td ty tx:TE}
theorem Ax(hu:X.A.units+1<cLine)(ho:PE X o td)(he:PE X e ty)(hf:PE X f tx)(m:M2 X o "get" jC e f jT):PE X (.Call (.Attribute o "get" jC) [e,f] [] jT) (Zv td ty tx):=by
 intro fL s σ H Q I h;refine wpAny_Call_method m.base m.iC m.line PySem.F.plainAttrs_dict fk PySem.F.type_dict_get (gm (ho fL s σ H _ I h) fun u s1 ⟨x,H1,I1,rx,a,ex,d,q1⟩=> ?_);subst ex;obtain rfl:u=Value.ref a:=rx;obtain⟨t1,t2,_⟩:=Zt I1 d;refine⟨t1,t2,?_⟩;rw[m.aam]
 refine dH Z (Calls.evalArgs_plain (eV (gm (he fL s1 σ H1 _ I1 q1) fun iv s2 ⟨y,H2,I2,ry,q2⟩=>
  eV (gm (hf fL s2 σ H2 _ I2 q2) fun fv s3 ⟨z,H3,I3,rz,ov,g,q3⟩=>Calls.spliced_nil ?_))))
 exact Zu hu I3 g ry rz fun w' s4 I4 og=>⟨_,H3,I4,og,q3⟩
end
section
variable {X:Cx} {fL:List (Addr×Obj)} {σ:St} {H:Hp} {s:Shared} {h':Heap}
theorem Inv.Yf{t':Nat}{ch:List Addr}(I:Inv X fL σ H s)(k:∀b o,b∉ch->s.heap.get? b=some o->h'.get? b=some o)(hf:∀b∈ch,oP X fL H b):Inv X fL σ H {s with heap:=h',toks:=t'}:=by
 have sV:∀b u,H b=some u->b∉ch:=fun b u e z=>by
  have q:=(hf b z).1;rw[q] at e;cases e
 refine I.step (g':=s.gens) (d':=s.drawn) (ch:=ch) (fun b hb=>⟨(hf b hb).2.2.2.1,(hf b hb).2.1,(hf b hb).2.2.2.2.1,(hf b hb).2.2.2.2.2⟩) (fun b o _ _ hc e _=>k b o hc e) (fun b o _ _ hc e _=>⟨o.slots,k b o hc e⟩)
  (fun _ _ _ _ n=>n) (fun b o hc e=>⟨o,k b o hc e⟩) (fun _ _ e=>e) (fun _ _ _ e=>e) (fun b ps e=>⟨#[],by rw[e];simp⟩) (fun m hm=> ?_) (fun b u e=> ?_) I.bare
 ·obtain⟨o,es,ep,ho,r⟩:=hm;exact⟨o,es,ep,k _ o (fun z=>(hf _ z).2.1 rfl) ho,r⟩
 ·refine(I.gh b u e).ny (fun c v hc q=>k c v ?_ q) (fun _ q=>q) fun _ _ q=>q
  rcases hc with z|z
  ·rw[z];exact sV b u e
  ·exact sV c _ z
theorem Inv.Ff{t':Nat}{ch:List Addr}{T:Addr}{ob:HO}(I:Inv X fL σ H s)(k:∀b o,b∉ch->s.heap.get? b=some o->h'.get? b=some o)(hf:∀b∈ch,oP X fL H b)(hT:s.heap.objs.size<=T)
 (new:jj X.prog X.w (fM H T ob) h' T ob):Inv X fL σ (fM H T ob) {s with heap:=h',toks:=t'}:=by
 have hn:H T=none:=I.gh.fresh hT
 have sV:∀b u,H b=some u->b∉ch:=fun b u e z=>by
  have q:=(hf b z).1;rw[q] at e;cases e
 refine I.step (g':=s.gens) (d':=s.drawn) (ch:=ch) (fun b hb=>⟨(hf b hb).2.2.2.1,(hf b hb).2.1,(hf b hb).2.2.2.2.1,(hf b hb).2.2.2.2.2⟩) (fun b o _ _ hc e _=>k b o hc e) (fun b o _ _ hc e _=>⟨o.slots,k b o hc e⟩)
  (fun b o _ e n=> ?_) (fun b o hc e=>⟨o,k b o hc e⟩) (fun b xs e=> ?_) (fun b o u e=> ?_) (fun b ps e=>⟨#[],?_⟩) (fun m hm=> ?_) (fun b u e=> ?_) I.bare
 ·rw[fT (ba (aU (aK e) hT))];exact n
 ·rw[fT (gf e hn)];exact e
 ·rw[fT (gf e hn)];exact e
 ·rw[fT (gf e hn),e];simp
 ·obtain⟨o,es,ep,ho,r⟩:=hm;exact⟨o,es,ep,k _ o (fun z=>(hf _ z).2.1 rfl) ho,r⟩
 ·by_cases hb:b=T
  ·subst hb;rw[fO] at e;cases e;exact new
  ·rw[fT hb] at e;refine(I.gh b u e).ny (fun c v hc q=>k c v ?_ q) (fun c q=>by rw[fT (gf q hn)];exact q) fun c xs q=>by rw[fT (gf q hn)];exact q
   rcases hc with z|z
   ·rw[z];exact sV b u e
   ·exact sV c _ z
theorem Inv.lock{d:Addr}{u:HO}(I:Inv X fL σ H s)(h:H d=some u)(mu:sS (some u)):∃od,Inv X fL σ (fM H d (.jP od u)) s:=by
 have x:=I.gh d u h
 have ex:∃od,s.heap.get? d=some od:=by
  cases u with
  |lst xs=>obtain⟨_,_,_,_,e⟩:=x;exact⟨_,e⟩
  |dK kvs=>obtain⟨_,_,_,_,o,_,_,e,_⟩:=x;exact⟨o,e⟩
  |dT kvs=>obtain⟨_,_,_,_,o,_,_,e,_⟩:=x;exact⟨o,e⟩
  |set S n=>obtain⟨o,_,_,_,e,_⟩:=x;exact⟨o,e⟩
  |ins C dx fs=>obtain⟨_,_,_,e,_⟩:=x;exact⟨_,e⟩
  |ext φ=>obtain⟨_,⟨_,e⟩,_⟩:=x;exact⟨_,e⟩
  |_=>exact False.elim mu
 obtain⟨od,e⟩:=ex
 have new:jj X.prog X.w (fM H d (.jP od u)) s.heap d (.jP od u):=by
  refine⟨e,x.ny (fun b v _ q=>q) (fun b q=> ?_) fun b xs q=> ?_⟩
  ·rw[fT (fun z=>by rw[z,h] at q;cases q;exact mu)];exact q
  ·rw[fT (fun z=>by rw[z,h] at q;cases q;exact mu)];exact q
 exact⟨od,I.write (x:=d) (e:=d) (t':=s.toks) (h':=s.heap) (by rw[h];exact mu) (.inl Z) (fun b v _ q=>q) ⟨od,e⟩ new⟩
theorem Inv.aan{d:Addr}{u:HO}(I:Inv X fL σ H s)(h:H d=some u)(mu:sS (some u)):∀o' u',X.u3 d≠some (.jP o' u'):=fun o' u' e=>by
 have q:=I.base.lI d o' u' e;rw[h] at q;cases q;exact mu
theorem Inv.unlock{d:Addr}{od:Obj}{u:HO}(I:Inv X fL σ H s)(h:H d=some (.jP od u))(hn:∀o' u',X.u3 d≠some (.jP o' u')):Inv X fL σ (fM H d u) s:=by
 have wT:∀b o,H b=some o->(∀o' u',o≠ .jP o' u')->b≠d:=fun b o e lm z=>by
  rw[z,h] at e;cases e;exact lm _ _ Z
 have neN:∀b,H b=none->b≠d:=fun b e z=>by rw[z,h] at e;cases e
 refine⟨I.ok,I.os,I.bare,⟨I.base.keep,I.base.slot,fun b o e n hx=> ?_,I.base.there,fun b xs e=> ?_,fun b o x e=> ?_,fun b ps e=> ?_⟩,I.loc,I.cell,?_,fun x c e=> ?_,fun p hp=> ?_,fun b o e=> ?_,I.len⟩
 ·rw[fT (neN b (I.base.free b o e n hx))];exact I.base.free b o e n hx
 ·have q:=I.base.mi b xs e;rw[fT (wT b _ q (fun _ _ z=>nomatch z))];exact q
 ·have q:=I.base.lI b o x e;rw[fT (fun z=>by rw[z] at e;exact hn _ _ e)];exact q
 ·obtain⟨m,q⟩:=I.base.mE b ps e;exact⟨m,by rw[fT (wT b _ q (fun _ _ z=>nomatch z))];exact q⟩
 ·rw[fT (neN _ I.free)];exact I.free
 ·rw[fT (neN c (I.mO x c e))];exact I.mO x c e
 ·obtain⟨e,n,r⟩:=I.pin p hp;exact⟨e,by rw[fT (neN _ n)];exact n,r⟩
 ·by_cases hb:b=d
  ·rw[hb,fO] at e;cases e;rw[hb];obtain⟨_,x⟩:=I.gh d _ h;exact x.ny (fun c v _ q=>q) (fun c q=>by rw[fT (wT c _ q (fun _ _ z=>nomatch z))];exact q) fun c xs q=>by rw[fT (wT c _ q (fun _ _ z=>nomatch z))];exact q
  ·rw[fT hb] at e;exact(I.gh b o e).ny (fun c v _ q=>q) (fun c q=>by rw[fT (wT c _ q (fun _ _ z=>nomatch z))];exact q) fun c xs q=>by rw[fT (wT c _ q (fun _ _ z=>nomatch z))];exact q
end
def Zw(t:TE):TE:=fun σ H Q=>∃d u,H d=some u/\sS (some u)/\∀od,t σ (fM H d (.jP od u)) fun v H'=>H' d=some (.jP od u)/\Q v (fM H' d u)
section
variable {X:Cx}
theorem Yg{e:Expr}{t:TE}(h:PE X e t):PE X e (Zw t):=by
 intro fL s σ H Q I hw;obtain⟨d,u,hd,mu,hw⟩:=hw;obtain⟨od,I1⟩:=I.lock hd mu;refine gm (h fL s σ _ _ I1 (hw od)) fun v s1 ⟨x,H1,I2,r,e2,q⟩=> ?_
 exact⟨x,_,I2.unlock e2 (I.aan hd mu),r,q⟩
theorem A9{tg:Expr}{fL:List (Addr×Obj)}{σ:St}{H:Hp}{s:Shared}{R:It->Hp->Prop}{J:It}{tn:Nat->Heap->Prop}{tk:Nat}(I:Inv X fL σ H s)(o:Obj)
 (T:pP X.prog X.w X.K tg J [s.heap.objs.size] s.heap.objs.size tn) (st:tn 0 (s.heap.push o)) (q:R J H):BL X fL σ tg R (.ref s.heap.objs.size) {s with heap:=s.heap.push o,toks:=tk}:=by
 refine⟨s.heap.objs.size,[s.heap.objs.size],tn,J,H,Z,I.kept fun b ob e=>aC _ e,T,st,fun b hb=> ?_,q⟩;have e:b=s.heap.objs.size:=by simpa using hb
 subst e;exact I.rh (aA _) (I.gh.fresh (aA _))
end
def yP(lo c:Int)(n:Nat):It:=⟨fun i _=>i<n,fun i H x H'=>H'=H/\x=.int (lo+(i:Nat)*c),fun i _=>n<=i⟩
theorem UA{P:Program}{w:World}{K:PySem.W.Frag}{tg:Expr}(it:Addr)(lo c:Int)(n:Nat):pP P w K tg (yP lo c n) [it] it (fun i h=>IsRangeIter h it (lo+(i:Nat)*c) ((n:Int)-(i:Nat)) c) where
 mem:=by simp
 obj:=fun i h st b hb=>by
  have e:b=it:=by simpa using hb
  subst e;exact⟨_,st,fun v z=>nomatch z⟩
 keep:=fun i h h' st k=>k it (by simp) _ st
 item:=by
  intro X hP hw hK hc i fL s σ H E I hf st hg;subst hP hw hK;obtain⟨f0,f1,f2,f3,f4,f5⟩:=hf it (by simp);have W:=Walks.range (prog:=X.prog) (w:=X.w) (I.ok.hd hc) it lo c n;refine W.item i s _ _ hg st fun v h' tk hv mm kk=> ?_
  obtain⟨t,rfl⟩:=hv;have I1:Inv X fL σ H {s with heap:=h',toks:=tk}:=I.turned (fun b o hb e=>kk b o (by simpa using hb) e) f0 f1 f3 f4 f5;exact⟨_,Z,wc (s:={s with heap:=h',toks:=tk}) (n:="range_iterator") mm Z Z (by decide) ⟨.int (lo+(i:Nat)*c),H,I1,⟨t,Z⟩,⟨Z,Z⟩,mm,fun b hb=>(hf b hb).1⟩⟩
 done:=by
  intro X hP hw hK hc i fL s σ H E I hf st hg;subst hP hw hK;obtain⟨f0,f1,f2,f3,f4,f5⟩:=hf it (by simp);exact wpAny_pyNext_range_end (I.ok.hd hc) st (by have:n<=i:=hg;omega) fun h' eb=>⟨Z,I.turned (t':=s.toks) (fun b o hb e=>eb b o hb e) f0 f1 f3 f4 f5⟩
 self:=fun A i s Q E st h=>wpAny_pyIter_rangeiter st h
def Pz(i j c:Int)(n:Nat):Prop:=c≠0/\c.natAbs<1073741824/\Builtin.Range.small i j c=true/\Builtin.Range.rangeSize i j c=n
def aao(ta:TA):TI:=fun σ H R=>ta σ H fun vs H1=>∃(i j c:Int) (n:Nat),vs=[.int i,.int j,.int c]/\Pz i j c n/\R (yP i c n) H1
section
variable {X:Cx} {tg:Expr}
theorem V3{a b c:Expr}{ta:TA}{p pos:Pos}(hg:Gl X "range")(hm:X.mg "range"=none)(ha:PA X [a,b,c] ta)
 (hs:starEach [a,b,c] X.env=(false,eval a X.env)::starEach [b,c] X.env:=by rfl) (jp:(backTo pos (starEach [b,c] X.env)).any (·.1)=false:=by rfl):
 PI X tg (.Call (.Name "range" p) [a,b,c] [] pos) (aao ta):=by
 intro fL s σ H R I h;refine Call_ (qr I hg hm boot_range (cp (gm (ha pos fL s σ H _ I h) fun us s1 ⟨vs,H1,I1,r1,q1⟩=> ?_) hs jp));obtain⟨i,j,k,n,e,⟨c0,c1,c2,c3⟩,q⟩:=q1;subst e;cases r1 with
 |cons r rr=>
  cases rr with
  |cons r' rr=>
   cases rr with
   |cons r'' rr=>
    cases rr;obtain⟨t,rfl⟩:=r;obtain⟨t',rfl⟩:=r';obtain⟨t'',rfl⟩:=r'';refine call_range_3 c0 ?_ (.inl (PyProof.noPylong_small c1));refine wpAny_pyIter_range (IsRange.new ..) c2 ?_;have I2:Inv X fL σ H1 {s1 with heap:=s1.heap.push {cls:=.type "range",data:=.fields #[.int i t,.int j t',.int k t'']}}:=I1.kept (t':=s1.toks) fun b o e=>aC _ e
    refine A9 (tk:=s1.toks) I2 _ (UA _ i k n) ?_ q;have e1:i+((0:Nat):Int)*k=i:=by simp
    have e2:(n:Int)-((0:Nat):Int)=Builtin.Range.rangeSize i j k:=by rw[c3];simp
    show IsRangeIter _ _ (i+((0:Nat):Int)*k) ((n:Int)-((0:Nat):Int)) k;rw[e1,e2];exact aO _ Z
end
def yQ(x:Str):It:=⟨fun i _=>i<x.cps.size,fun i H v H'=>H'=H/\∃c,x.cps[i]? =some c/\v=.str ⟨#[c]⟩,fun i _=>x.cps.size<=i⟩
theorem MN{P:Program}{w:World}{K:PySem.W.Frag}{tg:Expr}(it:Addr)(x:Str)(t:Tok)(ty:String)(tq:ty="str_ascii_iterator"\/ty="str_iterator"):
 pP P w K tg (yQ x) [it] it (fun i h=>h.IsStrIter it ty x t i) where
 mem:=by simp
 obj:=fun i h st b hb=>by
  have e:b=it:=by simpa using hb
  subst e;obtain⟨o,e,c,d⟩:=st;exact⟨o,e,fun v z=>by rw[d] at z;cases z⟩
 keep:=fun i h h' st k=>let ⟨o,ho,r⟩:=st;⟨o,k it (by simp) o ho,r⟩
 item:=by
  intro X hP hw hK hc i fL s σ H E I hf st hg;subst hP hw hK;obtain⟨f0,f1,f2,f3,f4,f5⟩:=hf it (by simp)
  have W:Walks X.prog X.w X.A it [it] [it] x.cps.size (SignAt x) (fun i h=>h.IsStrIter it ty x t i):=by
   rcases tq with e|e
   ·rw[e];exact Walks.strAscii (I.ok.hd hc) it x t
   ·rw[e];exact Walks.strWide (I.ok.hd hc) it x t
  have tz:["enumerate","zip","dict_itemiterator","dict_reverseitemiterator","odict_iterator","itertools.zip_longest","itertools.pairwise"].contains ty=false:=by
   rcases tq with e|e
   ·rw[e];decide
   ·rw[e];decide
  refine W.item i s _ _ hg st fun v h' tk hv mm kk=> ?_
  obtain⟨c,u,hcx,rfl⟩:=hv;have I1:Inv X fL σ H {s with heap:=h',toks:=tk}:=I.turned (fun b o hb e=>kk b o (by simpa using hb) e) f0 f1 f3 f4 f5;obtain⟨oi,e,cc,dd⟩:=id mm;exact⟨_,Z,wc (s:={s with heap:=h',toks:=tk}) e cc dd tz ⟨.str ⟨#[c]⟩,H,I1,⟨u,Z⟩,⟨Z,c,hcx,Z⟩,mm,fun b hb=>(hf b hb).1⟩⟩
 done:=by
  intro X hP hw hK hc i fL s σ H E I hf st hg;subst hP hw hK;obtain⟨f0,f1,f2,f3,f4,f5⟩:=hf it (by simp);have hx:x.cps[i]? =none:=Array.getElem?_eq_none hg;rcases tq with e|e
  ·rw[e] at st;exact wpAny_pyNext_ascii_end (I.ok.hd hc) st hx fun h' eb=>⟨Z,I.turned (t':=s.toks) (fun b o hb e=>eb b o hb e) f0 f1 f3 f4 f5⟩
  ·rw[e] at st;exact wpAny_pyNext_wide_end (I.ok.hd hc) st hx fun h' eb=>⟨Z,I.turned (t':=s.toks) (fun b o hb e=>eb b o hb e) f0 f1 f3 f4 f5⟩
 self:=fun A i s Q E st h=>by
  rcases tq with e|e
  ·rw[e] at st;exact wpAny_pyIter_striter_ascii st h
  ·rw[e] at st;exact wpAny_pyIter_striter_wide st h
def abl(te:TE):TI:=fun σ H R=>te σ H fun v H1=>∃x,v=.str x/\R (yQ x) H1
theorem GK{X:Cx}{tg e:Expr}{te:TE}(he:PE X e te):PI X tg e (abl te):=by
 intro fL s σ H R I h;refine gm (he fL s σ H _ I h) fun v s1 ⟨y,H1,I1,r1,x,ex,q⟩=> ?_
 subst ex;obtain⟨t,rfl⟩:=r1;cases ha:x.cps.all (·<128)
 ·exact wpAny_pyIter_wide ha (A9 (tk:=s1.toks) I1 _ (MN _ x t "str_iterator" (.inr Z)) ⟨_,aO _ Z,Z,Z⟩ q)
 ·exact wpAny_pyIter_ascii ha (A9 (tk:=s1.toks) I1 _ (MN _ x t "str_ascii_iterator" (.inl Z)) ⟨_,aO _ Z,Z,Z⟩ q)
theorem Zx{κ:Type}{kvs:List (κ×V)}{vs:List (κ×Value)}(h:KV kvs vs):∀{i:Nat} {k:κ} {v:V},kvs[i]? =some (k,v)->∃u,vs[i]? =some (k,u)/\RelV v u:=by
 unfold KV at h
 induction h with
 |nil=>intro i k v e;simp at e
 | @cons a b Hc Hd r t ih=>
   intro i k v e;cases i with
   |zero=>
    simp only[List.getElem?_cons_zero,Option.some.injEq] at e;subst e;refine⟨b.2,?_,r.2⟩;simp only[List.getElem?_cons_zero];exact congrArg some (Prod.ext r.1.symm Z)
   |succ j=>
    simp only[dB] at e⊢;exact ih e
section
variable {X:Cx} {fL:List (Addr×Obj)} {σ:St} {H:Hp} {s:Shared} {d:Addr} {o:Obj}
theorem Inv.Hl{kvs:List (Key×V)}(I:Inv X fL σ H s)(h:H d=some (.jP o (.dK kvs))):
 (d==sysModules)=false/\s.heap.get? d=some o/\o.ExactDict/\∃(es:Array DictEntry) (ep:Nat) (vs:List (Key×Value)),o.data=.dict es ep/\es.size=kvs.length/\KV kvs vs/\s.heap.DictAt (k8 X.prog X.w) d vs ep:=by
 obtain⟨hd,z,hs,vs,kv,o',es,ep,ho,hx,lO,r⟩:=I.gh d _ h;rw[hd] at ho;cases ho;refine⟨hs,hd,hx,es,ep,vs,lO,?_,kv,o,es,hd,hx,lO,r⟩;have l1:=r.2.1.length;have l2:kvs.length=vs.length:=dO kv;rw[fJ] at l1;omega
end
def yR(d:Addr)(o:Obj)(kvs:List (Key×V)):It:=
 ⟨fun i H=>H d=some (.jP o (.dK kvs))/\i<kvs.length,fun i H x H'=>H'=H/\∃k,kvs[i]? =some (k,x),fun i H=>H d=some (.jP o (.dK kvs))/\kvs.length<=i⟩
theorem Nw{o:Obj}{es rn:Array DictEntry}{ep sU:Nat}(h:o.data=.dict es ep)(h':o.data=.dict rn sU):rn=es/\sU=ep:=by
 rw[h] at h';cases h';exact⟨Z,Z⟩
section
variable {P:Program} {w:World} {K:PySem.W.Frag} {tg:Expr} {d:Addr} {o:Obj} {es:Array DictEntry} {ep:Nat}
theorem V4{kvs:List (Key×V)}(it:Addr)(PB:o.data=.dict es ep):pP P w K tg (yR d o kvs) [it] it (fun i h=>h.IsValIter it d i kvs.length ep) where
 mem:=by simp
 obj:=fun i h st b hb=>by
  have e:b=it:=by simpa using hb
  subst e;obtain⟨oi,e,c,dd⟩:=st;exact⟨oi,e,fun v z=>by rw[dd] at z;cases z⟩
 keep:=fun i h h' st k=>st.at fun oi e=>k it (by simp) oi e
 item:=by
  intro X hP hw hK hc i fL s σ H E I hf st hg;subst hP hw hK;obtain⟨hd,hi⟩:=hg;obtain⟨f0,f1,f2,f3,f4,f5⟩:=hf it (by simp);obtain⟨hs,PD,hx,rn,sU,vs,lO,hsz,kv,hm⟩:=I.Hl hd;obtain⟨rfl,rfl⟩:=Nw PB lO;obtain⟨⟨k,v⟩,PF⟩:∃p,kvs[i]? =some p:=⟨kvs[i],ak hi⟩;obtain⟨u,hu,ru⟩:=Zx kv PF;have hl:kvs.length=vs.length:=dO kv;rw[hl] at st;refine wpAny_pyNext_values_item st hm hu fun h' mm sb=> ?_
  have I1:Inv X fL σ H {s with heap:=h'}:=I.turned (t':=s.toks) (fun b ob hb e=>(sb.2 b hb).trans e) f0 f1 f3 f4 f5;obtain⟨oi,e,c,dd⟩:=id mm;refine⟨u,Z,wc (s:={s with heap:=h'}) e c dd (by decide) ⟨v,H,I1,ru,⟨Z,k,PF⟩,?_,fun b hb=>(hf b hb).1⟩⟩;show h'.IsValIter it d (i+1) kvs.length _;rw[hl];exact mm
 done:=by
  intro X hP hw hK hc i fL s σ H E I hf st hg;subst hP hw hK;obtain⟨hd,hi⟩:=hg;obtain⟨f0,f1,f2,f3,f4,f5⟩:=hf it (by simp);obtain⟨hs,PD,hx,rn,sU,vs,lO,hsz,kv,hm⟩:=I.Hl hd;obtain⟨rfl,rfl⟩:=Nw PB lO;have hl:kvs.length=vs.length:=dO kv;rw[hl] at st;exact wpAny_pyNext_values_end (I.ok.hd hc) st hm (bA (by omega)) fun h' eb=>⟨Z,I.turned (t':=s.toks) (fun b ob hb e=>eb b ob hb e) f0 f1 f3 f4 f5⟩
 self:=fun A i s Q E st h=>wpAny_pyIter_valiter st h
end
def aap(td:TE):TI:=fun σ H R=>td σ H fun x H1=>∃d o kvs,x=.ref d/\H1 d=some (.jP o (.dK kvs))/\R (yR d o kvs) H1
section
variable {X:Cx} {tg e:Expr} {td:TE} {jC jT:Pos}
theorem V5(he:PE X e td)(rg:attributeBase e "values" X.env (eval e X.env)=eval e X.env:=by rfl)(oK:(jC.endLine==jT.line)=true:=by rfl):PI X tg (.Call (.Attribute e "values" jC) [] [] jT) (aap td):=by
 intro fL s σ H R I h;refine wpAny_Call_method (T:="dict") (id:="dict.values") rg Z oK F.plainAttrs_dict F.slot_dict_values F.type_dict_values (gm (he fL s σ H _ I h) fun u s1 ⟨x,H1,I1,rx,d,o,kvs,ex,hd,q⟩=> ?_);subst ex;obtain rfl:u=Value.ref d:=rx;obtain⟨hs,PD,hx,es,ep,vs,lO,hsz,kv,hm⟩:=I1.Hl hd;have hl:kvs.length=vs.length:=dO kv;refine⟨hm.dictOf.typeIs,hm.dictOf.mapOf.noDict,?_⟩;have I2:Inv X fL σ H1 {s1 with heap:=s1.heap.push {cls:=.type "dict_values",data:=.fields #[.ref d]}}:=I1.kept (t':=s1.toks) fun b ob q=>aC _ q
 have fin:wpAny (model X.prog X.w) X.A (pyIter (.ref s1.heap.objs.size)) (BL X fL σ tg R) X.xe {s1 with heap:=s1.heap.push {cls:=.type "dict_values",data:=.fields #[.ref d]}}:=by
  refine wpAny_pyIter_values (d:=d) (knd:=k8 X.prog X.w) ⟨_,aO _ Z,Z,Z⟩ (hm.push _) (A9 (tk:=s1.toks) I2 _ (V4 _ lO) ⟨_,aO _ Z,Z,?_⟩ q);rw[hl]<;>rfl
 show wpAny _ _ (callWith jT (.builtin "dict.values") [.ref d] [] []) _ X.xe s1;exact method_meetsIn F.slot_dict_values F.entry_dict_values Z (PySem.evalArgs_none ⟨Z,hm.dictOf.typeIs,F.args_dict_values_1 _,_,meets_dict_values (k8 X.prog X.w) d hs,⟨vs,hm.dictOf⟩,fin⟩)
end
def tD(K:PySem.W.Frag)(a:Addr):It:=
 ⟨fun i H=>∃(xs:List V) (x:V),fR K H a xs/\xs[i]? =some x,fun i H v H'=>∃T x,v=.ref T/\H T=none/\H'=fM H T (.tup [.int (i:Nat),x])/\∀xs,fR K H a xs->xs[i]? =some x,fun i H=>∃xs:List V,fR K H a xs/\xs.length<=i⟩
theorem V6{P:Program}{w:World}{K:PySem.W.Frag}{oQ:List Expr}{kk:Nat}{mR:Pos}(a e it:Addr):
 pP P w K (.Tuple oQ kk mR) (tD K a) [e,it] e (fun i h=>(∃lp,IsEnum h e it ((i:Nat):Int) lp)/\h.IsListIter it a i/\e≠it) where
 mem:=by simp
 obj:=fun i h st b hb=>by
  obtain⟨⟨lp,he⟩,⟨o,ho,hc,hd⟩,_⟩:=st;have e':b=e\/b=it:=by simpa using hb
  rcases e' with z|z
  ·rw[z];exact⟨_,he,fun v q=>nomatch q⟩
  ·rw[z];exact⟨o,ho,fun v q=>by rw[hd] at q;cases q⟩
 keep:=fun i h h' st k=>let ⟨⟨lp,he⟩,hi,lm⟩:=st;⟨⟨lp,k e (by simp) _ he⟩,hi.at fun o q=>k it (by simp) o q,lm⟩
 item:=by
  intro X hP hw hK hc i fL s σ H E I hf st hg;subst hP hw hK;obtain⟨⟨lp,he⟩,kA,lm⟩:=st;obtain⟨xs,x,hq,hx⟩:=hg;obtain⟨fU,rv,p,hz⟩:=I.list hq;obtain⟨u,hu,ru⟩:=rv.get hx;have rB:e<s.heap.objs.size:=aK he;have HN:it<s.heap.objs.size:=by obtain⟨_,q,_⟩:=kA;exact aK q
  refine wpAny_pyNext_enum_item he kA p.isList (x:=u) (by simpa using hu) lm fun h' ho Hm hT hsz hk=> ?_
  refine⟨_,Z,wpAny_letOwnedTupleGo_enum (s:={s with heap:=h',toks:=s.toks+1}) ho fun oh pW sb=> ?_⟩;have yS:oh.get? s.heap.objs.size=some {cls:=.type "tuple",data:=.seq #[.int i s.toks,u]}:=(sb.2 _ (fK rB)).trans hT
  have new:jj X.prog X.w (fM H s.heap.objs.size (.tup [.int (i:Nat),x])) oh s.heap.objs.size (.tup [.int (i:Nat),x]):=
   ⟨by show 2<=sizeLine;decide,[.int i s.toks,u],.cons ⟨_,Z⟩ (.cons ru .nil),⟨_,yS,Z,_,Z⟩⟩
  have I1:Inv X fL σ (fM H s.heap.objs.size (.tup [.int (i:Nat),x])) {s with heap:=oh,toks:=s.toks+1}:=
   I.Ff (ch:=[e,it]) (fun b ob hb q=>(sb.2 b (fun z=>hb (by simp[z]))).trans (hk b ob (fun z=>hb (by simp[z])) (fun z=>hb (by simp[z])) q)) hf (aA _) new
  refine⟨.ref s.heap.objs.size,_,I1,Z,⟨_,x,Z,I.gh.fresh (aA _),Z,fun ys hy=>by rw[I.yb hy hq];exact hx⟩,⟨⟨u,?_⟩,Hm.at fun o q=>(sb.2 it (cI lm)).trans q,lm⟩,fun b hb=> ?_⟩
  ·have e1:((i+1:Nat):Int)=(i:Int)+1:=by omega
   rw[e1];exact pW
  ·have HP:b<s.heap.objs.size:=by
    have e':b=e\/b=it:=by simpa using hb
    rcases e' with z|z
    ·rw[z];exact rB
    ·rw[z];exact HN
   rw[fT (ba HP)];exact(hf b hb).1
 done:=by
  intro X hP hw hK hc i fL s σ H E I hf st hg;subst hP hw hK;obtain⟨⟨lp,he⟩,kA,lm⟩:=st;obtain⟨xs,hq,hx⟩:=hg;obtain⟨fU,rv,p,hz⟩:=I.list hq;obtain⟨f0,f1,f2,f3,f4,f5⟩:=hf it (by simp);have hl:=rv.length;exact wpAny_pyNext_enum_end (I.ok.hd hc) he kA p.isList (by simp;omega) fun h' eb=>⟨Z,I.turned (t':=s.toks) (fun b o hb q=>eb b o hb q) f0 f1 f3 f4 f5⟩
 self:=fun A i s Q E st h=>let ⟨⟨_,he⟩,_⟩:=st;dS he h
def aaq(K:PySem.W.Frag)(ta:TA):TI:=fun σ H R=>ta σ H fun vs H1=>∃a xs,vs=[.ref a]/\fR K H1 a xs/\R (tD K a) H1
theorem yf{X:Cx}{e:Expr}{ta:TA}{p pos mR:Pos}{oQ:List Expr}{kk:Nat}(hg:Gl X "enumerate")(hm:X.mg "enumerate"=none)(ha:PA X [e] ta)(hs:starEach [e] X.env=[(false,eval e X.env)]:=by rfl):
 PI X (.Tuple oQ kk mR) (.Call (.Name "enumerate" p) [e] [] pos) (aaq X.K ta):=by
 intro fL s σ H R I h;refine Call_ (qr I hg hm boot_enumerate (cp (gm (ha pos fL s σ H _ I h) fun us s1 ⟨vs,H1,I1,r1,q1⟩=> ?_) hs Z));obtain⟨a,xs,ex,hq,q⟩:=q1;subst ex;cases r1 with
 |cons r rr=>
  cases rr;cases r;obtain⟨fU,rv,p',hz⟩:=I1.list hq;refine call_enumerate_list p'.isList fun h' he kA hsz hk=>dS he ?_
  have I2:Inv X fL σ H1 {s1 with heap:=h'}:=I1.kept (t':=s1.toks) hk;refine⟨s1.heap.objs.size+1,[s1.heap.objs.size+1,s1.heap.objs.size],_,_,H1,Z,I2,V6 a (s1.heap.objs.size+1) s1.heap.objs.size,⟨⟨.none,he⟩,kA,Nat.succ_ne_self _⟩,fun b hb=> ?_,q⟩;have e':b=s1.heap.objs.size+1\/b=s1.heap.objs.size:=by simpa using hb
  have pc:s1.heap.objs.size<=b:=by
   rcases e' with z|z
   ·rw[z];exact cA _ _
   ·rw[z];exact aA _
  exact I1.rh pc (I1.gh.fresh pc)
theorem V7:bootBuiltins "zip"=some (.type "zip"):=by decide+kernel
def yT(K:PySem.W.Frag)(a b:Addr):It:=
 ⟨fun i H=>∃(xs ys:List V) (x y:V),fR K H a xs/\fR K H b ys/\xs[i]? =some x/\ys[i]? =some y,
  fun i H v H'=>∃T x y,v=.ref T/\H T=none/\H'=fM H T (.tup [x,y])/\(∀xs,fR K H a xs->xs[i]? =some x)/\∀ys,fR K H b ys->ys[i]? =some y,
  fun i H=>∃xs ys:List V,fR K H a xs/\fR K H b ys/\(xs.length<=i\/ys.length<=i)⟩
theorem W6{P:Program}{w:World}{K:PySem.W.Frag}{oQ:List Expr}{kk:Nat}{mR:Pos}{a b z TI TO i1 i2:Addr}(D:ZipApart z TI TO i1 i2 a b):
 pP P w K (.Tuple oQ kk mR) (yT K a b) [z,TI,TO,i1,i2] z (fun i h=>IsZip h z TI TO .none/\IsPair h TI (.ref i1) (.ref i2)/\(∃x y,IsPair h TO x y)/\h.IsListIter i1 a i/\h.IsListIter i2 b i) where
 mem:=by simp
 obj:=fun i h st c hc=>by
  obtain⟨hz,pX,⟨x,y,qH⟩,⟨o1,e1,_,d1⟩,⟨o2,e2,_,d2⟩⟩:=st;have e':c=z\/c=TI\/c=TO\/c=i1\/c=i2:=by simpa using hc
  rcases e' with q|q|q|q|q
  ·rw[q];exact⟨_,hz,fun v q=>nomatch q⟩
  ·rw[q];exact⟨_,pX,fun v q=>nomatch q⟩
  ·rw[q];exact⟨_,qH,fun v q=>nomatch q⟩
  ·rw[q];exact⟨o1,e1,fun v q=>by rw[d1] at q;cases q⟩
  ·rw[q];exact⟨o2,e2,fun v q=>by rw[d2] at q;cases q⟩
 keep:=fun i h h' st k=>by
  obtain⟨hz,pX,⟨x,y,qH⟩,h1,h2⟩:=st;exact⟨k z (by simp) _ hz,k TI (by simp) _ pX,⟨x,y,k TO (by simp) _ qH⟩,h1.at fun o q=>k i1 (by simp) o q,h2.at fun o q=>k i2 (by simp) o q⟩
 item:=by
  intro X hP hw hK hc i fL s σ H E I hf st hg;subst hP hw hK;obtain⟨hz,pX,⟨x0,y0,qH⟩,h1,h2⟩:=st;obtain⟨xs,ys,x,y,wU,wV,hx,hy⟩:=hg;obtain⟨fU,rv,p,_⟩:=I.list wU;obtain⟨pQ,BX,p2,_⟩:=I.list wV;obtain⟨u,hu,ru⟩:=rv.get hx;obtain⟨u2,hu2,ru2⟩:=BX.get hy;have PH:z<s.heap.objs.size:=aK hz;refine wpAny_pyNext_zip_item D hz pX qH h1 h2 p.isList p2.isList (x:=u) (y:=u2) (by simpa using hu) (by simpa using hu2) fun h' z' TO' h1' h2' hT hsz hk=> ?_
  refine⟨_,Z,wpAny_letOwnedTupleGo_zip (s:={s with heap:=h'}) z' fun oh z'' sb=> ?_⟩;have yS:oh.get? s.heap.objs.size=some {cls:=.type "tuple",data:=.seq #[u,u2]}:=(sb.2 _ (fK PH)).trans hT
  have new:jj X.prog X.w (fM H s.heap.objs.size (.tup [x,y])) oh s.heap.objs.size (.tup [x,y]):=
   ⟨by show 2<=sizeLine;decide,[u,u2],.cons ru (.cons ru2 .nil),⟨_,yS,Z,_,Z⟩⟩
  have I1:Inv X fL σ (fM H s.heap.objs.size (.tup [x,y])) {s with heap:=oh}:=
   I.Ff (t':=s.toks) (ch:=[z,TI,TO,i1,i2]) (fun c o hb q=>(sb.2 c (fun q'=>hb (by simp[q']))).trans (hk c o (fun q'=>hb (by simp[q'])) (fun q'=>hb (by simp[q'])) (fun q'=>hb (by simp[q'])) (fun q'=>hb (by simp[q'])) q)) hf (aA _) new
  refine⟨.ref s.heap.objs.size,_,I1,Z,⟨_,x,y,Z,I.gh.fresh (aA _),Z,fun l hl=>by rw[I.yb hl wU];exact hx,fun l hl=>by rw[I.yb hl wV];exact hy⟩,⟨z'',?_,⟨u,u2,?_⟩,?_,?_⟩,fun c BY=> ?_⟩
  ·exact(sb.2 _ D.TIz).trans (hk _ _ D.TIz D.TITO D.TIi1 D.TIi2 pX)
  ·exact(sb.2 _ D.TOz).trans TO'
  ·exact h1'.at fun o q=>(sb.2 _ D.i1z).trans q
  ·exact h2'.at fun o q=>(sb.2 _ D.i2z).trans q
  ·have hZ:c<s.heap.objs.size:=by
    have e':c=z\/c=TI\/c=TO\/c=i1\/c=i2:=by simpa using BY
    rcases e' with q|q|q|q|q
    ·rw[q];exact PH
    ·rw[q];exact aK pX
    ·rw[q];exact aK qH
    ·rw[q];obtain⟨_,e1,_⟩:=h1;exact aK e1
    ·rw[q];obtain⟨_,e2,_⟩:=h2;exact aK e2
   rw[fT (ba hZ)];exact(hf c BY).1
 done:=by
  intro X hP hw hK hc i fL s σ H E I hf st hg;subst hP hw hK;obtain⟨hz,pX,⟨x0,y0,qH⟩,h1,h2⟩:=st;obtain⟨xs,ys,wU,wV,abm⟩:=hg;obtain⟨fU,rv,p,_⟩:=I.list wU;obtain⟨pQ,BX,p2,_⟩:=I.list wV;have l1:=rv.length;have l2:=BX.length
  have he:fU.toArray[i]? =none\/pQ.toArray[i]? =none:=by
   rcases abm with q|q
   ·exact .inl (by simp;omega)
   ·exact .inr (by simp;omega)
  exact wpAny_pyNext_zip_end (I.ok.hd hc) D hz pX qH h1 h2 p.isList p2.isList he fun h' hk=>⟨Z,I.Yf (t':=s.toks) (ch:=[z,TI,TO,i1,i2]) (fun c o hb q=>
   hk c o (fun q'=>hb (by simp[q'])) (fun q'=>hb (by simp[q'])) (fun q'=>hb (by simp[q'])) (fun q'=>hb (by simp[q'])) q) hf⟩
 self:=fun A i s Q E st h=>wpAny_pyIter_zip st.1 h
def abn(K:PySem.W.Frag)(ta:TA):TI:=fun σ H R=>ta σ H fun vs H1=>∃a b xs ys,vs=[.ref a,.ref b]/\fR K H1 a xs/\fR K H1 b ys/\R (yT K a b) H1
theorem Zy{X:Cx}{e e2:Expr}{ta:TA}{p pos mR:Pos}{oQ:List Expr}{kk:Nat}(hg:Gl X "zip")(hm:X.mg "zip"=none)(ha:PA X [e,e2] ta)
 (hs:starEach [e,e2] X.env=(false,eval e X.env)::starEach [e2] X.env:=by rfl) (jp:(backTo pos (starEach [e2] X.env)).any (·.1)=false:=by rfl):
 PI X (.Tuple oQ kk mR) (.Call (.Name "zip" p) [e,e2] [] pos) (abn X.K ta):=by
 intro fL s σ H R I h;refine Call_ (qr I hg hm V7 (cp (gm (ha pos fL s σ H _ I h) fun us s1 ⟨vs,H1,I1,r1,q1⟩=> ?_) hs jp));obtain⟨a,b,xs,ys,ex,wU,wV,q⟩:=q1;subst ex;cases r1 with
 |cons r rr=>
  cases rr with
  |cons r' rr=>
   cases rr;cases r;cases r';obtain⟨fU,rv,p1,_⟩:=I1.list wU;obtain⟨pQ,BX,p2,_⟩:=I1.list wV;have la:a<s1.heap.objs.size:=p1.lt;have lb:b<s1.heap.objs.size:=p2.lt;refine call_zip_2 p1.isList p2.isList fun h' hz pX qH h1 h2 hsz hk=>wpAny_pyIter_zip hz ?_
   have I2:Inv X fL σ H1 {s1 with heap:=h'}:=I1.kept (t':=s1.toks) hk;refine⟨s1.heap.objs.size+4,[s1.heap.objs.size+4,s1.heap.objs.size+2,s1.heap.objs.size+3,s1.heap.objs.size,s1.heap.objs.size+1],_,_,H1,Z,I2,W6 (PySem.W.ktu_apart s1.heap.objs.size a b la lb),⟨hz,pX,⟨_,_,qH⟩,h1,h2⟩,fun c BY=> ?_,q⟩;have e':c=s1.heap.objs.size+4\/c=s1.heap.objs.size+2\/c=s1.heap.objs.size+3\/c=s1.heap.objs.size\/c=s1.heap.objs.size+1:=by simpa using BY
   have pc:s1.heap.objs.size<=c:=by
    rcases e' with z|z|z|z|z
    ·rw[z];exact cA _ _
    ·rw[z];exact cA _ _
    ·rw[z];exact cA _ _
    ·rw[z];exact aA _
    ·rw[z];exact cA _ _
   exact I1.rh pc (I1.gh.fresh pc)
theorem DV:∀{ys:List Str} {us:List Value},gF (ys.map V.str) us->StrsAre us ys
 |[],_,.nil=>.nil
 |y::ys,_,.cons r t=>by
  obtain⟨k,rfl⟩:=r;exact .cons y k (DV t)
section
variable {X:Cx}
theorem Yh:wR X "str.join" (fun x xs H Q=>∃a p,∃ys:List Str,x=.str a/\xs=[.ref p]/\(fR X.K H p (ys.map V.str)\/iN X.K H p (ys.map V.str))/\
 (ys.map (·.length)).sum+ys.length*a.length<=16777216/\Q (.str (Txt.join a ys)) H):=by
 intro fL s σ H x xs v us Q I rx rs h;obtain⟨a,p,ys,rfl,rfl,hp,hz,h⟩:=h;obtain⟨t,rfl⟩:=rx;cases rs with
 |cons r1 rs=>
  cases rs;cases r1;rcases hp with hp|hp
  ·obtain⟨fU,r,⟨o,n,ho,hc,_,hd⟩,_⟩:=I.list hp;exact PyProof.Rows.join_list (items:=fU.toArray) ⟨o,ho,hc,n,hd⟩ (by rw[List.toList_toArray];exact DV r) hz fun t' k=>⟨.str _,H,I.tok k,⟨t',Z⟩,h⟩
  ·obtain⟨fU,r,ht,_⟩:=I.tuple hp;exact PyProof.Rows.join_tuple (items:=fU.toArray) ht (by rw[List.toList_toArray];exact DV r) hz fun t' k=>⟨.str _,H,I.tok k,⟨t',Z⟩,h⟩
theorem Kn:mP X (.type "int") (fun xs H Q=>∃a n,xs=[.str a]/\PySem.intText? a=some n/\a.length<=640/\Q (.int n) H):=by
 intro fL s σ H xs us Q I rs h;obtain⟨a,n,rfl,hn,hl,h⟩:=h;cases rs with
 |cons r1 rs=>
  cases rs;obtain⟨t,rfl⟩:=r1;exact PySem.W.KIN.call_text hn hl ⟨.int n,H,I.tok _,⟨_,Z⟩,h⟩
end
section
variable {X:Cx} {o e:Expr} {to te:TE}
def PJ(r:V->List V->Hp->VK->Prop)(to te:TE):TE:=fun σ H Q=>to σ H fun x H1=>(∃a,x=.str a)/\te σ H1 fun y H2=>r x [y] H2 Q
theorem aar{id:String}{name:Str}{jC pos:Pos}{r:V->List V->Hp->VK->Prop}(slot:Slot "str" name id)(ty:typeOf (.builtin id)=pure (.type "method_descriptor"))(rule:wR X id r)(ho:PE X o to)(he:PE X e te)
 (hs:starEach [e] X.env=[(false,eval e X.env)]:=by rfl) (rg:attributeBase o name X.env (eval o X.env)=eval o X.env:=by rfl) (oK:(jC.endLine==pos.line)=true:=by rfl):
 PE X (.Call (.Attribute o name jC) [e] [] pos) (PJ r to te):=by
 intro fL s σ H Q I h;refine PySem.Call_method1 rg hs oK (gm (ho fL s σ H _ I h) fun v s1 ⟨x,H1,I1,r1,q1⟩=> ?_);obtain⟨⟨a,rfl⟩,q1⟩:=q1;obtain⟨t,rfl⟩:=_root_.id r1;refine⟨"str",_,F.plainAttrs_str,slot,ty,typeIs_str _ _ _,(fun _ e=>nomatch e),dH Z (Calls.evalArgs_plain (eV ?_))⟩;exact gm (he fL s1 σ H1 _ I1 q1) fun u s2 ⟨y,H2,I2,r2,q2⟩=>Calls.spliced_nil (rule fL s2 σ H2 _ [y] _ [u] Q I2 r1 (.cons r2 .nil) q2)
theorem Ny{jC pos:Pos}(ho:PE X o to)(he:PE X e te)(hs:starEach [e] X.env=[(false,eval e X.env)]:=by rfl)(rg:attributeBase o "join" X.env (eval o X.env)=eval o X.env:=by rfl)(oK:(jC.endLine==pos.line)=true:=by rfl):
 PE X (.Call (.Attribute o "join" jC) [e] [] pos) (PJ (fun x xs H Q=>∃a p,∃ys:List Str,x=.str a/\xs=[.ref p]/\(fR X.K H p (ys.map V.str)\/iN X.K H p (ys.map V.str))/\
  (ys.map (·.length)).sum+ys.length*a.length<=16777216/\Q (.str (Txt.join a ys)) H) to te):=
 aar F.slot_str_join F.type_str_join Yh ho he hs rg oK
end
section
variable {X:Cx}
theorem Ln:jo X (compareOp .In) (fun x y H Q=>∃(c:Nat) (z:Str),x=.str ⟨#[c]⟩/\y=.str z/\Q (.bl (decide (c∈z.cps.toList))) H):=by
 intro fL s σ H x y v u Q I rx ry h;obtain⟨c,z,rfl,rfl,q⟩:=h;obtain⟨t,rfl⟩:=rx;obtain⟨t',rfl⟩:=ry;exact PyProof.Rows.in_str (jr I q (PySem.StrLaws.found_one z c).symm)
end
def iZ(s:Stmt)(j:Nat):Stmt:=match s with
 |.ClassDef _ _ _ body _ _ _ _ _ _ _=>body.getD j (.Pass ⟨0,0,0,0⟩)
 |_=>.Pass ⟨0,0,0,0⟩
def uy(s:Stmt):Arguments:=match s with
 |.FunctionDef _ a _ _ _ _ _ _ _ _=>a
 |_=>{posonlyargs:=[],args:=[],vararg:=none,kwonlyargs:=[],kw_defaults:=[],kwarg:=none,defaults:=[]}
def qY(s:Stmt):List Stmt:=match s with
 |.FunctionDef _ _ b _ _ _ _ _ _ _=>b
 |_=>[]
def gL(s:Stmt):Scope:=match s with
 |.FunctionDef _ _ _ _ _ _ sc _ _ _=>sc
 |_=>{kind:=.function,names:=[],isGenerator:=false,isCoroutine:=false}
abbrev gT:qF:=fun _ _ _ _ _ _=>False
abbrev E0:XK:=fun _ _ _=>False
theorem gG{X:Cx}:nS gT X E0:=fun _ _ _ _ _ _ _ h=>h.elim
structure jV(K:PySem.W.Frag)(x qual:Str)(st:Stmt)(f:Addr)(fd:FuncData):Prop where
 ex:∃(oc:Value) (od:Option Addr) (kV doc pm:Value) (an:Option Addr) (gy ct:Value) (oX:Array (Option Value)),
  fd=PySem.W.fnOf x qual (uy st) (qY st) (gL st) .none kV doc pm an gy ct/\K.lookup f=some ⟨oc,od,.func fd,oX⟩/\PySem.W.codeIn K gy qual=true
 kp:PySem.W.keepIn K (.ref f)=true
section
variable {P:Program} {w:World} {K:PySem.W.Frag} {mg:Str->Option Value} {base:Heap}
theorem jV.ok{x qual:Str}{st:Stmt}{f:Addr}{fd:FuncData}{N ps:List Str}{k:Nat}{sp:Sp}(F:jV K x qual st f fd)(S:gP N ps (gL st))(len:∀vs H Q E,sp vs H Q E->vs.length=ps.length)
 (rf:∀(gy:Value) (A:Around) (outer:List Env) (s:Shared) (H:Hp) (vs:List V) (Q:VK) (E:XK),jN k (A.deeper (envOfC qual (gL st) s.heap.objs.size f gy))->sp vs H Q E->
   ∃t,lZ (j5 gT P w K mg base N qual (gL st) f gy A outer s H E).rp (qY st) t/\t {nx:=fun _ H'=>Q .gS H',rt:=Q} (start N vs) H):gK P w K mg base gT (k+1) f fd ps sp:=by
 obtain⟨oc,od,kV,doc,pm,an,gy,ct,oX,rfl,lk,nY⟩:=F.ex;refine Os lk nY S len fun A outer s H vs Q E hr tj=> ?_
 obtain⟨t,h,q⟩:=rf gy A outer s H vs Q E hr tj;exact⟨t,h.rp,q⟩
theorem jV.binds{x qual:Str}{st:Stmt}{f:Addr}{fd:FuncData}{ps:List Str}(F:jV K x qual st f fd)
 (h:∀(kV doc pm:Value) (an:Option Addr) (gy ct:Value) (us:List Value),us.length=ps.length->bindArgs (PySem.W.fnOf x qual (uy st) (qY st) (gL st) .none kV doc pm an gy ct) ⟨us,[]⟩=pure (ps.zip us)):Binds K fd ps []:=by
 obtain⟨oc,od,kV,doc,pm,an,gy,ct,oX,rfl,lk,nY⟩:=F.ex;exact .all (h kV doc pm an gy ct)
theorem Ba{x qual:Str}{st:Stmt}{f:Addr}{oc:Value}{od an:Option Addr}{oX:Array (Option Value)}{kV doc pm gy ct:Value}(l:K.lookup f=some ⟨oc,od,.func (PySem.W.fnOf x qual (uy st) (qY st) (gL st) .none kV doc pm an gy ct),oX⟩)
 (c:PySem.W.codeIn K gy qual=true) (k:PySem.W.keepIn K (.ref f)=true):jV K x qual st f (PySem.W.fnOf x qual (uy st) (qY st) (gL st) .none kV doc pm an gy ct):=⟨⟨oc,od,kV,doc,pm,an,gy,ct,oX,Z,l,c⟩,k⟩
end
theorem wg{A:Around}{k:Nat}(hr:jN k A):A.units+1<cLine:=cC (Nat.add_le_add_left (by decide:1<=64) _) hr.units
section
variable {X:Cx}
theorem pv(i:Nat){x:Str}{pos:Pos}(hN:X.N[i]? =some x:=by rfl)(hv:wM X.env.scope x:=by first|exact Or.inl Z|exact Or.inr (Or.inl Z)|exact Or.inr (Or.inr Z))(hd:(x==("__debug__":Str))=false:=by decide)
 (nY:(x==("__classdict__":Str))=false:=by decide):PE X (.Name x pos) (iO i):=Zc hN hv hd nY
theorem V8:mP X (.builtin "len") (fun xs H Q=>∃a kvs,xs=[V.ref a]/\H a=some (.dK kvs)/\Q (.int kvs.length) H):=by
 intro fL s σ H xs us Q I r h;obtain⟨a,kvs,rfl,ha,q⟩:=h;obtain⟨u,rfl,ru⟩:=vals1 r;cases ru;exact aaj I (.inl ha) fun t s' I'=>⟨.int kvs.length,H,I',⟨t,Z⟩,q⟩
end
def fQ(H H':Hp):Prop:=∀b o,H b=some o->H' b=some o
theorem fQ.trans{H H1 H2:Hp}(a:fQ H H1)(b:fQ H1 H2):fQ H H2:=fun c o h=>b c o (a c o h)
theorem fQ.free{H H':Hp}(e:fQ H H'){l:Addr}(h:H' l=Option.none):H l=Option.none:=by
 cases q:H l with
 |none=>rfl
 |some o=>
  rw[e l o q] at h;cases h
theorem fQ.seq{K:PySem.W.Frag}{H H':Hp}{a:Addr}{xs:List V}(e:fQ H H')(h:fR K H a xs):fR K H' a xs:=by
 rcases h with(h|⟨o,h⟩)|h
 ·exact .inl (.inl (e _ _ h))
 ·exact .inl (.inr ⟨o,e _ _ h⟩)
 ·exact .inr h
section
variable {κ:Type} [DecidableEq κ]
theorem Nz:∀{l:List κ} {k:κ},l.Nodup->¬k∈l->(l++[k]).Nodup
 |[],k,_,_=>by simp
 |a::r,k,h,hk=>by
  obtain⟨h1,h2⟩:=bj.mp h;show(a::(r++[k])).Nodup;refine bj.mpr ⟨fun m=> ?_,Nz h2 fun m=>hk (az.mpr (Or.inr m))⟩;rcases aG.mp m with q|q
  ·exact h1 q
  ·exact hk (az.mpr (Or.inl (aq.mp q).symm))
end
theorem ir{xs:List V}{z:Int}{j:Nat}{v:V}(e:z=(j:Int))(h:xs[j]? =some v):mn xs z=some v:=by
 rw[e];exact AO h
theorem GY{α:Type}{l:List α}(hN:l.Nodup){i j:Nat}{x:α}(a:l[i]? =some x)(b:l[j]? =some x):i=j:=by
 obtain⟨h1,e1⟩:=ap.mp a;obtain⟨h2,e2⟩:=ap.mp b;exact(List.getElem_inj hN).mp (e1.trans e2.symm)
theorem fQ.made{H H1:Hp}{x dx C:Addr}(nx:H x=Option.none)(nd:H dx=Option.none)(k:∀b o,(fM (fM H dx (.own x)) x (.ins C dx [])) b=some o->b≠x->H1 b=some o):fQ H H1:=fun b o e=>
 k b o (by rw[fT (gf e nx),fT (gf e nd)];exact e) (gf e nx)
end L2
namespace FX
open PySem
open PySem.Builtin PySem.Builtin.ObjectAttr
section
variable {prog:Program} {w:World} {A:Around} {E:Value->Shared->Prop} {h:Heap} {g:Array GenState} {d:Drawn} {t:Nat} {os:OsState}
variable {nm q:Str} {C N x:Addr} {bs bm:List Value} {sn:List Str} {sub:List Value} {ab:Bool} {col:Option Bool} {dd:Option Addr} {k0 k1 k2 k3 k5:Option Value} {B newId sa Ov:String}
variable {mN:Str->Option Value} {name:Str} {v:Value} {o:Obj}
structure Ow(h h':Heap)(x:Addr)(o:Obj)(name:Str)(v:Value)(dx:Addr):Prop where
 fresh:h.get? dx=none
 ne:dx≠x
 obj:h'.get? x=some {o with dict:=some dx}
 ns:h'.Ns1 dx (fun y=>if y=name then some v else none)
 keep:∀b u,b≠x->h.get? b=some u->h'.get? b=some u
theorem UB{tk:Tok}{Q:Fin->Shared->Prop}(SF:StoreFacts B bm sa Ov)
 (hC:h.get? C=some (excClassObj nm q C N bs bm true sn sub ab col dd k0 k1 k2 k3 k5 newId)) (hn:h.Ns N mN) (u9:mN name=none) (hB:typeLookup (.type B) name=pure none)
 (hx:h.get? x=some o) (hc:o.cls=.ref C) (qI:∀c,o.data≠ .cls c) (HQ:o.dict=none)
 (K:∀h' pY dx,Ow h h' x o name v dx->Q (.done (.ret .none)) ⟨h',g,d,pY,os⟩):
 wpAny (model prog w) A (Builtin.«object.__setattr__» ⟨[.ref x,.str name tk,v],[]⟩) Q E ⟨h,g,d,t,os⟩:=by
 have yC:=SF.passes (.ref x);unfold Builtin.«object.__setattr__»
 repeat (first
  |rw[refuse_eq]
  |(rw[refuseLoop_ref,yC])
  |(with_reducible refine bY hx ?_;rw[hc])
  |with_reducible refine wpAny_mroOf_exc hC ?_
  |(with_reducible refine di hC hn SF.mro hB ?_;rw[u9])
  |wp_step)
 rw[HQ];rw[am (by simp[typeHasDict])];split
 ·rename_i z;cases z
 split
 ·rename_i c z;exact absurd z (qI c)
 have up:(h.push {cls:=.type "dict",data:=.dict #[]}).get? x=some o:=aC _ hx;have BZ:x≠h.objs.size:=ba (aK hx);refine ay (wpAny_alloc' (ay (wpAny_update' up (aY ?_))));generalize hk:((h.push {cls:=.type "dict",data:=.dict #[]}).update x fun o=>{cls:=o.cls,dict:=some h.objs.size,data:=o.data,slots:=o.slots})=k
 have ed:k.get? h.objs.size=some {cls:=.type "dict",data:=.dict #[]}:=by
  rw[<-hk];exact(Heap.get?_update_ne _ _ _ _ BZ.symm).trans (Heap.get?_push_at Z Z)
 have ex:k.get? x=some {cls:=o.cls,dict:=some h.objs.size,data:=o.data,slots:=o.slots}:=by
  rw[<-hk];refine b6 _ up ?_;have fr:=(Heap.get?_some_iff.mp hx).2;obtain⟨oc,od,odt,oX⟩:=o;cases odt<;>first|rfl|exact fr
 have eo:∀b u,b≠x->h.get? b=some u->k.get? b=some u:=fun b u nb hb=>by
  rw[<-hk];exact(Heap.get?_update_ne _ _ _ _ nb).trans (aC _ hb)
 have nsE:k.Ns h.objs.size (fun _=>none):=⟨_,#[],_,ed,Z,fun e he=>absurd he (by simp),fun _=>rfl⟩;show wpAny _ _ (storeInDict h.objs.size (.str name tk) name v) _ _ _;unfold storeInDict newKeyGuard;refine ay (aY (ay (wpAny_nsSet1 (Heap.Ns1.of_empty nsE) fun h' PL sb=> ?_)));obtain⟨oD,esD,epD,HE,HF,HG⟩:=PL.count (Within.cons name v Within.nil);refine ay (wpAny_lookBehind HE (by rw[HF];exact pastItsLine_dict (a8 HG (by rw[aj,aZ,sizeLine_eq];omega))) ?_)
 wp_walk
 exact K h' _ h.objs.size ⟨Heap.get?_none_of_le (aA _),BZ.symm,(sb.2 x BZ).trans ex,PL,fun b u nb hb=>(sb.2 b (ba (aK hb))).trans (eo b u nb hb)⟩
theorem Vg{Q:Unit->Shared->Prop}(SF:StoreFacts B bm sa Ov)
 (hC:h.get? C=some (excClassObj nm q C N bs bm true sn sub ab col dd k0 k1 k2 k3 k5 newId)) (hn:h.Ns N mN) (yU:mN "__setattr__"=none) (u9:mN name=none) (hB:typeLookup (.type B) name=pure none)
 (hx:h.get? x=some o) (hc:o.cls=.ref C) (qI:∀c,o.data≠ .cls c) (HQ:o.dict=none)
 (K:∀h' pY dx,Ow h h' x o name v dx->Q () ⟨h',g,d,pY,os⟩):
 wpAny (model prog w) A (setAttr (.ref x) name v) Q E ⟨h,g,d,t,os⟩:=by
 have bind:=SF.slot.bind (.ref x);unfold setAttr callSpecial? specialOf
 repeat (any_goals (first
  |assumption
  |(with_reducible refine bY hx ?_;rw[hc])
  |(with_reducible refine di hC hn SF.mro SF.slot.lookup ?_;rw[yU])
  |wp_step))
 refine dc SF.slot.plain SF.entry (wpAny_check_sa SF hC hx hc (UB SF hC hn u9 hB hx hc qI HQ fun h' pY dx F=> ?_))
 repeat (any_goals (first|assumption|wp_step))
 exact K h' pY dx F
end
section
variable {prog:Program} {w:World} {A:Around} {E:Value->Shared->Prop} {h:Heap} {g:Array GenState} {d:Drawn} {t:Nat} {os:OsState}
variable {nm q:Str} {C N x dx:Addr} {bs:List Value} {sn:List Str} {sub:List Value} {ab:Bool} {col:Option Bool} {dd:Option Addr} {k0 k1 k2 k3 k5:Option Value} {newId:String}
variable {mN mA:Str->Option Value} {name:Str} {v:Value} {o:Obj}
abbrev qJ:List Value:=[.type "Exception",.type "BaseException",.type "object"]
theorem UC{tk:Tok}{Q:Fin->Shared->Prop}
 (hC:h.get? C=some (excClassObj nm q C N bs qJ true sn sub ab col dd k0 k1 k2 k3 k5 newId)) (hn:h.Ns N mN) (u9:mN name=none) (hB:typeLookup (.type "Exception") name=pure none)
 (hx:h.get? x=some o) (hc:o.cls=.ref C) (qI:∀c,o.data≠ .cls c) (hd:o.dict=some dx) (ns:h.Ns dx mA) (hv:mA name=some v) (K:Q (.done (.ret v)) ⟨h,g,d,t,os⟩):
 wpAny (model prog w) A (Builtin.«object.__getattribute__» ⟨[.ref x,.str name tk],[]⟩) Q E ⟨h,g,d,t,os⟩:=by
 unfold Builtin.«object.__getattribute__»
 repeat (first
  |(with_reducible refine bY hx ?_;rw[hc])
  |(with_reducible refine di hC hn d8.mro hB ?_;rw[u9])
  |wp_step)
 split
 ·rename_i c z;exact absurd z (qI c)
 unfold instanceDict
 repeat (first
  |(with_reducible refine bY hx ?_;rw[hc])
  |with_reducible refine bY hC ?_
  |wp_step)
 rw[hd]
 repeat (first|(with_reducible refine wpAny_nsGet ns ?_;rw[hv])|wp_step)
 exact K
theorem Zz{M:Model}{Ox:Value}{Q:Unit->Shared->Prop}(hC:h.get? C=some (excClassObj nm q C N bs qJ true sn sub ab col dd k0 k1 k2 k3 k5 newId))
 (hx:h.get? x=some o) (hc:o.cls=.ref C) (K:Q () ⟨h,g,d,t,os⟩):wpAny M A (checkBuiltinCall "BaseException.__getattribute__" ⟨[.ref x,Ox],[]⟩) Q E ⟨h,g,d,t,os⟩:=by
 have e1:builtinKind "BaseException.__getattribute__"=some .slot:=by decide+kernel
 have e2:splitId "BaseException.__getattribute__"=some ("BaseException","__getattribute__"):=by decide+kernel
 have e3:(Value.ref C::qJ).contains (.type "BaseException")=true:=by rw[List.contains_cons,show qJ.contains (Value.type "BaseException")=true from by decide+kernel,Bool.or_true]
 have e4:=F.args_bexc_ga (.ref x) Ox;simp only[checkBuiltinCall,e1,e2];refine ay ?_;unfold isInstance
 repeat (first
  |(with_reducible refine bY hx ?_;rw[hc])
  |(with_reducible refine wpAny_isSubtype_exc hC ?_;rw[e3])
  |wp_step)
 exact K
theorem Vh{expr:Bool}{Q:Value->Shared->Prop}
 (hC:h.get? C=some (excClassObj nm q C N bs qJ true sn sub ab col dd k0 k1 k2 k3 k5 newId)) (hn:h.Ns N mN) (hng:mN "__getattribute__"=none) (abo:mN "__getattr__"=none) (u9:mN name=none)
 (hB:typeLookup (.type "Exception") name=pure none)
 (hx:h.get? x=some o) (hc:o.cls=.ref C) (qI:∀c,o.data≠ .cls c) (hd:o.dict=some dx) (ns:h.Ns dx mA) (hv:mA name=some v) (hh:handedOut v=pure v) (K:Q v ⟨h,g,d,t+1,os⟩):
 wpAny (model prog w) A (getAttr (.ref x) name expr) Q E ⟨h,g,d,t,os⟩:=by
 have bind:=F.attr_Exception.ga.bind (.ref x);have y1:(expr&&onTheHeap (Value.builtin "BaseException.__getattribute__"))=false:=by cases expr<;>rfl
 have y2:(Value.builtin "BaseException.__getattribute__"==Value.builtin "object.__getattribute__")=false:=by decide+kernel
 have y3:(onTheHeap (Value.ref C)&&Value.builtin "BaseException.__getattribute__"==Value.builtin "object.__getattribute__")=false:=by rw[y2];rfl
 unfold getAttr getAttrBy
 repeat (any_goals (first
  |assumption
  |(with_reducible refine bY hx ?_;rw[hc])
  |(with_reducible refine di hC hn d8.mro F.attr_Exception.ga.lookup ?_;rw[hng])
  |(with_reducible refine di hC hn d8.mro d8.noGetattr ?_;rw[abo])
  |wp_step))
 refine dc F.attr_Exception.ga.plain F.entry_bexc_ga (Zz hC hx hc (UC hC hn u9 hB hx hc qI hd ns hv ?_))
 repeat (any_goals (first|assumption|wp_step))
end
end FX
namespace FX
open PySem
def wW(h base:Heap)(e:Addr)(cls:Value)(dx:Option Addr)(fl:Value):Prop:=
 ∃oe vs T oT ts,h.get? e=some oe/\oe.cls=cls/\oe.dict=dx/\oe.data=.fields vs/\vs[1]? =some (.ref T)/\base.get? T=none/\T≠e/\h.get? T=some oT/\oT.data=.fields ts/\ts[3]? =some fl
theorem SB(o:Obj)(f):(o.mapFields f).dict=o.dict:=by
 obtain⟨c,d,dt,sl⟩:=o;cases dt<;>rfl
structure uL(base:Heap)(l:List Env)(e:Addr)(cls:Value)(dx:Option Addr)(fl:Value)(h h':Heap):Prop where
 stays:base.StaysIn h'
 jv:h'.FunFrames base l
 tr:wW h' base e cls dx fl
 slots:h.UpToSlots h'
section
variable {M:Model} {A:Around} {E:Value->Shared->Prop} {s:Shared} {base:Heap} {env:Env} {outer:List Env} {L e:Addr} {oe:Obj} {vs:Array Value} {cls:Value} {dx:Option Addr}
theorem Od{head:Value}{Yi:Bool}{Q:Unit->Shared->Prop}(fr:A.frames=some (env::outer))(ff:s.heap.FunFrames base (env::outer))(fe:env.frame=some L)
 (he:s.heap.get? e=some oe) (st:base.StaysIn s.heap) (ne:base.get? e=none) (hd:oe.data=.fields vs) (sz:1<vs.size)
 (K:∀h',uL base (env::outer) e oe.cls oe.dict (rawInt L) s.heap h'->Q () {s with heap:=h'}):
 wpAny M A (do let a<-frameOf env;let pl<-entryPlaceOf L Yi;let b<-EntryCells.newEntry head a .none (rawInt L) .none pl;setField (.ref e) 1 b) Q E s:=by
 have nfr:e∉(env::outer).filterMap (·.frame):=fun hm=>by
  obtain⟨_,o,ho,lr⟩:=ff.mem hm;rw[he] at ho;cases ho;exact lr vs hd
 refine ay (wpAny_frameOf_fun fr ff fe fun k hs=> ?_);refine ay (wpAny_entryPlaceOf fun pl jp=> ?_);unfold EntryCells.newEntry newFields;refine ay (dQ ?_ (jp.sizeOk5 _ _ _ _ _));generalize hT:(k.push {cls:=.type "traceback",dict:=none,data:=.fields ([head,.ref L,.none,rawInt L,.none]++(if pl.isEmpty then List.replicate 6 Value.none else pl)).toArray})=k2;have ek:k.get? e=some oe:=(hs.2.1 e nfr).trans he;have sT:base.StaysIn k:=fun b o hb=>(hs.2.1 b fun hm=>by rw[(ff.mem hm).1] at hb;cases hb).trans (st b o hb)
 have B0:∀b o,k.get? b=some o->k2.get? b=some o:=fun b o hb=>by rw[<-hT];exact aC _ hb
 have k2n:k2.get? k.objs.size=some {cls:=.type "traceback",dict:=none,data:=.fields ([head,.ref L,.none,rawInt L,.none]++(if pl.isEmpty then List.replicate 6 Value.none else pl)).toArray}:=by
  rw[<-hT];exact aO k Z
 refine e8 (B0 _ _ ek) hd sz ?_;have PM:k.objs.size≠e:=fK (aK ek);have d2:=dC hd (·.setIfInBounds 1 (Value.ref k.objs.size));have oj:∀b,b≠e->(k2.update e (Obj.mapFields (·.setIfInBounds 1 (Value.ref k.objs.size)))).get? b=k2.get? b:=fun b hb=>bq _ _ (cI hb)
 have uX:∀b o,s.heap.get? b=some o->(∀ws,o.data≠ .fields ws)->b≠e:=fun b o hb lr z=>by
  rw[z,he] at hb;cases hb;exact lr vs hd
 have up:s.heap.UpToSlots (k2.update e (Obj.mapFields (·.setIfInBounds 1 (Value.ref k.objs.size)))):=fun b o hb lr=>by
  obtain⟨sl,q⟩:=hs.2.2 b o hb;exact⟨sl,(oj b (uX b o hb lr)).trans (B0 _ _ q)⟩
 refine K _ ⟨fun b o hb=>(oj b fun z=>by rw[z,ne] at hb;cases hb).trans (B0 _ _ (sT b o hb)),ff.of_keeps fun b o hb lr=> ?_,?_,up⟩
 ·obtain⟨sl,q⟩:=up b o hb lr;exact⟨_,q,Z⟩
 ·refine⟨_,_,k.objs.size,_,_,b6 _ (B0 _ _ ek) (Obj.isFreed_of_fields d2),Obj.cls_mapFields _ _,SB _ _,d2,by simp[sz],sT.fresh,PM,(oj _ PM).trans k2n,Z,?_⟩
  first
   |(simp;done)
   |(rcases jp with rfl|⟨_,_,_,_,_,_,_,rfl⟩<;>simp)
theorem UD{Q:Unit->Shared->Prop}(fr:A.frames=some (env::outer))(ff:s.heap.FunFrames base (env::outer))(fe:env.frame=some L)
 (he:s.heap.get? e=some oe) (st:base.StaysIn s.heap) (ne:base.get? e=none) (hd:oe.data=.fields vs) (h1:vs[1]? =some .none)
 (K:∀h',uL base (env::outer) e oe.cls oe.dict (rawInt L) s.heap h'->Q () {s with heap:=h'}):wpAny M A (noteFrame (.ref e) env) Q E s:=by
 unfold noteFrame;simp only[fe];refine ay (cR he hd h1 ?_);rw[am (by decide)];exact Od fr ff fe he st ne hd (cV.mp h1).1 K
theorem Lo{Q:Unit->Shared->Prop}(fr:A.frames=some (env::outer))(ff:s.heap.FunFrames base (env::outer))(fe:env.frame=some L)
 (st:base.StaysIn s.heap) (ne:base.get? e=none) (tr:wW s.heap base e cls dx .none)
 (K:∀h',uL base (env::outer) e cls dx (rawInt L) s.heap h'->Q () {s with heap:=h'}):wpAny M A (noteFrame (.ref e) env) Q E s:=by
 obtain⟨oe,vs,T,oT,ts,he,rfl,rfl,hd,h1,B1,B4,hT,tE,h3⟩:=tr;unfold noteFrame;simp only[fe];refine ay (cR he hd h1 ?_);rw[aw (show(Value.ref T !=Value.none)=true from by simp)];refine ay (cR hT tE h3 ?_);rw[am (show¬((Value.none==rawInt L)=true) from by simp[rawInt])];refine ay (e8 hT tE (cV.mp h3).1 ?_);have oj:∀b,b≠T->(s.heap.update T (Obj.mapFields (·.setIfInBounds 3 Value.none))).get? b=s.heap.get? b:=fun b hb=>bq _ _ (cI hb)
 have uX:∀b o,s.heap.get? b=some o->(∀ws,o.data≠ .fields ws)->b≠T:=fun b o hb lr z=>by
  rw[z,hT] at hb;cases hb;exact lr ts tE
 refine Od fr (ff.of_keeps fun b o hb lr=>⟨o,(oj b (uX b o hb lr)).trans hb,Z⟩) fe ((oj e (cI B4)).trans he)
  (fun b o hb=>(oj b fun z=>by rw[z,B1] at hb;cases hb).trans (st b o hb)) ne hd (cV.mp h1).1 fun h' n=>K h' ⟨n.stays,n.jv,n.tr,fun b o hb lr=> ?_⟩
 exact n.slots b o ((oj b (uX b o hb lr)).trans hb) lr
theorem yg{l:List Env}{fl:Value}{Q:Unit->Shared->Prop}(st:base.StaysIn s.heap)(ff:s.heap.FunFrames base l)(tr:wW s.heap base e cls dx fl)
 (K:∀h',uL base l e cls dx .none s.heap h'->Q () {s with heap:=h'}):wpAny M A (setFlight (.ref e) none) Q E s:=by
 obtain⟨oe,vs,T,oT,ts,he,rfl,rfl,hd,h1,B1,B4,hT,tE,h3⟩:=tr;have sz:3<ts.size:=(cV.mp h3).1;have oj:∀b,b≠T->(s.heap.update T (Obj.mapFields (·.setIfInBounds 3 ((none:Option Addr).elim Value.none fun f=>rawInt f)))).get? b=s.heap.get? b:=fun b hb=>bq _ _ (cI hb)
 have uX:∀b o,s.heap.get? b=some o->(∀ws,o.data≠ .fields ws)->b≠T:=fun b o hb lr z=>by
  rw[z,hT] at hb;cases hb;exact lr ts tE
 unfold setFlight;refine ay (cR he hd h1 ?_);rw[aw (show(Value.ref T !=Value.none)=true from by simp)]
 refine e8 hT tE sz (K _ ⟨fun b o hb=>(oj b fun z=>by rw[z,B1] at hb;cases hb).trans (st b o hb),ff.of_keeps fun b o hb lr=>⟨o,(oj b (uX b o hb lr)).trans hb,Z⟩,?_,
  fun b o hb lr=>⟨o.slots,(oj b (uX b o hb lr)).trans hb⟩⟩)
 exact⟨oe,vs,T,_,_,(oj e (cI B4)).trans he,Z,Z,hd,h1,B1,B4,b6 _ hT (Obj.isFreed_of_fields (dC tE _)),dC tE _,by simp[sz]⟩
theorem TW{Q:Unit->Shared->Prop}(fr:A.frames=some (env::outer))(ff:s.heap.FunFrames base (env::outer))(fe:env.frame=some L)
 (he:s.heap.get? e=some oe) (st:base.StaysIn s.heap) (ne:base.get? e=none) (hd:oe.data=.fields vs) (h1:vs[1]? =some .none)
 (K:∀h',uL base outer e oe.cls oe.dict .none s.heap h'->Q () {s with heap:=h'}):wpAny M A (leaving env (.ref e)) Q E s:=by
 unfold leaving;refine ay (UD fr ff fe he st ne hd h1 fun k n=>yg n.stays n.jv n.tr fun k2 n2=>K k2 ⟨n2.stays,n2.jv.2.2,n2.tr,n.slots.trans n2.slots⟩)
theorem UE{Q:Unit->Shared->Prop}(fr:A.frames=some (env::outer))(ff:s.heap.FunFrames base (env::outer))(fe:env.frame=some L)
 (st:base.StaysIn s.heap) (ne:base.get? e=none) (tr:wW s.heap base e cls dx .none)
 (K:∀h',uL base outer e cls dx .none s.heap h'->Q () {s with heap:=h'}):wpAny M A (leaving env (.ref e)) Q E s:=by
 unfold leaving;refine ay (Lo fr ff fe st ne tr fun k n=>yg n.stays n.jv n.tr fun k2 n2=>K k2 ⟨n2.stays,n2.jv.2.2,n2.tr,n.slots.trans n2.slots⟩)
theorem Oy{Q:Unit->Shared->Prop}{E2:Value->Shared->Prop}(fr:A.frames=some (env::outer))(ff:s.heap.FunFrames base (env::outer))(fe:env.frame=some L)
 (st:base.StaysIn s.heap) (ne:base.get? e=none) (tr:wW s.heap base e cls dx .none)
 (K:∀h',uL base (env::outer) e cls dx .none s.heap h'->Q () {s with heap:=h'}):
 wpAny M A (noteFrame (.ref e) env) (fun _ s2=>wpAny M A (setFlight (.ref e) none) Q E2 s2) E s:=
 Lo fr ff fe st ne tr fun k n=>yg n.stays n.jv n.tr fun k2 n2=>K k2 ⟨n2.stays,n2.jv,n2.tr,n.slots.trans n2.slots⟩
end
section
variable {M:Model} {A:Around} {E:Value->Shared->Prop} {env:Env}
variable {nm q:Str} {C N:Addr} {bs bm:List Value} {hdct:Bool} {sn:List Str} {sub:List Value} {ab:Bool} {col:Option Bool} {dd:Option Addr} {k0 k1 k2 k3 k5:Option Value} {newId:String}
theorem Vi{s:Shared}{x:Sem Value}{Q:Flow->Shared->Prop}(hb:bm.contains (.type "BaseException")=true)(hh:A.handled=none)
 (h:wpAny M A x (fun v s1=>∃e oe vs,v=.ref e/\s1.heap.get? C=some (excClassObj nm q C N bs bm hdct sn sub ab col dd k0 k1 k2 k3 k5 newId)/\s1.heap.get? e=some oe/\oe.cls=.ref C/\oe.data=.fields vs/\vs[1]? =some .none/\vs[2]? =some .none/\E (.ref e) s1) E s):
 wpAny M A (raiseStmt env (some x) none) Q E s:=by
 have cB:(Value.ref C::bm).contains (.type "BaseException")=true:=by rw[List.contains_cons,hb,Bool.or_true]
 unfold raiseStmt;refine ay (bF h (fun v s1 h1=> ?_) fun _ _ z=>z);obtain⟨e,oe,vs,rfl,hC,he,hc,hd,v1,v2,hE⟩:=h1;obtain⟨hp,g,d,tk,os⟩:=s1
 repeat (first
  |(with_reducible refine bY he ?_;rw[hc])
  |with_reducible refine bY hC ?_
  |(with_reducible refine wpAny_isSubtype_exc hC ?_;rw[cB])
  |with_reducible refine cR he hd v1 ?_
  |with_reducible refine cR he hd v2 ?_
  |wp_step)
 exact wpAny_raiseNew_none hh hE
end
end FX
namespace L2
open PySem PySem.Spec PyProof.Rows
structure pR(K:PySem.W.Frag)(C fI:Addr):Prop where
 obj:∃nm q N bs sn sub ab col dd k0 k1 k2 k3 k5 on es ep,
  K.lookup C=some (excClassObj nm q C N bs FX.qJ true sn sub ab col dd k0 k1 k2 k3 k5 "Exception.__new__")/\
  K.lookup N=some on/\on.data=.dict es ep/\StrKeys es/\nsFind es "__init__"=some (.ref fI)/\
  nsFind es "__setattr__"=none/\nsFind es "__getattribute__"=none/\nsFind es "__getattr__"=none/\nsFind es "kind"=none/\nsFind es "place"=none
 fn:∃o,K.lookup fI=some o/\o.cls=.type "function"
 kp:PySem.W.keepIn K (.ref C)=true
def yq(f:Str):Prop:=f="kind"\/f="place"
theorem DW{f:Str}(h:yq f):typeLookup (.type "Exception") f=pure none:=by
 rcases h with rfl|rfl
 ·rw[typeLookup_type,builtinLookup_eq_fast];kernel_rfl
 ·rw[typeLookup_type,builtinLookup_eq_fast];kernel_rfl
theorem pR.at_{K:PySem.W.Frag}{C fI:Addr}{h:Heap}(x:pR K C fI)(X:K.In h):∃nm q N bs sn sub ab col dd k0 k1 k2 k3 k5 mN,
 h.get? C=some (excClassObj nm q C N bs FX.qJ true sn sub ab col dd k0 k1 k2 k3 k5 "Exception.__new__")/\h.Ns N mN/\mN "__init__"=some (.ref fI)/\
 mN "__setattr__"=none/\mN "__getattribute__"=none/\mN "__getattr__"=none/\∀f,yq f->mN f=none:=by
 obtain⟨nm,q,N,bs,sn,sub,ab,col,dd,k0,k1,k2,k3,k5,on,es,ep,h1,h2,h3,h4,h5,h6,h7,h8,h9,mW⟩:=x.obj;refine⟨nm,q,N,bs,sn,sub,ab,col,dd,k0,k1,k2,k3,k5,nsFind es,X _ _ h1,⟨on,es,ep,X _ _ h2,h3,h4,fun _=>rfl⟩,h5,h6,h7,h8,fun f hf=> ?_⟩;rcases hf with rfl|rfl
 ·exact h9
 ·exact mW
def yV(e C:Addr)(dx:Option Addr)(new:Bool)(h:Heap):Prop:=
 ∃oe vs,h.get? e=some oe/\oe.cls=.ref C/\oe.dict=dx/\oe.data=.fields vs/\(new=true->vs[1]? =some .none/\vs[2]? =some .none)
def XO(e C:Addr)(dx:Option Addr)(new:Bool):HO:=.ext (yV e C dx new)
def HR(dx:Addr)(fs:List (Str×V))(h:Heap):Prop:=∃mA,h.Ns1 dx mA/\(∀f,ku (fs.lookup f) (mA f))/\PySem.Within mA (fs.map (·.1))
def XD(dx:Addr)(fs:List (Str×V)):HO:=.ext (HR dx fs)
section
variable {P:Program} {w:World} {H H':Hp} {h h':Heap} {e C dx:Addr} {o:HO}
theorem jj.has{a:Addr}(x:jj P w H h a o):∃ob,h.get? a=some ob:=by
 induction o with
 |lst xs=>obtain⟨_,_,_,_,q⟩:=x;exact⟨_,q⟩
 |tup xs=>obtain⟨_,_,_,ob,q,_⟩:=x;exact⟨_,q⟩
 |dK kvs=>obtain⟨_,_,_,_,ob,_,_,q,_⟩:=x;exact⟨_,q⟩
 |dT kvs=>obtain⟨_,_,_,_,ob,_,_,q,_⟩:=x;exact⟨_,q⟩
 |set S n=>obtain⟨ob,_,_,_,q,_⟩:=x;exact⟨_,q⟩
 |ins C dx fs=>obtain⟨_,_,_,q,_⟩:=x;exact⟨_,q⟩
 |own y=>exact x
 |xd fs=>obtain⟨_,⟨ob,_,_,q,_⟩,_⟩:=x;exact⟨_,q⟩
 |BF lo hi=>obtain⟨_,_,_,q⟩:=x;exact⟨_,q⟩
 |jP ob u ih=>exact⟨_,x.1⟩
 |sR ps=>exact⟨_,x⟩
 |met f y=>exact⟨_,x⟩
 |ext φ=>exact x.2.1
theorem iY.Gu{a:Addr}(x:iY P w H h)(n:h.get? a=none):H a=none:=by
 cases q:H a with
 |none=>rfl
 |some u=>
  obtain⟨ob,z⟩:=(x a u q).has;rw[n] at z;cases z
theorem GZ{new:Bool}{d:Option Addr}(x:yV e C d new h):jj P w H h e (XO e C d new):=by
 refine⟨x,?_,fun h1 h2 p k=> ?_⟩
 ·obtain⟨oe,_,q,_⟩:=x;exact⟨_,q⟩
 ·obtain⟨oe,vs,q,r⟩:=p;exact⟨oe,vs,k _ q,r⟩
theorem Oz{fs:List (Str×V)}(x:HR dx fs h):jj P w H h dx (XD dx fs):=by
 refine⟨x,?_,fun h1 h2 p k=> ?_⟩
 ·obtain⟨mA,⟨ob,_,_,q,_⟩,_⟩:=x;exact⟨_,q⟩
 ·obtain⟨mA,n,r⟩:=p;exact⟨mA,n.at k,r⟩
theorem iY.more{a:Addr}(x:iY P w H h)(k:∀b u,h.get? b=some u->b≠a->h'.get? b=some u)(hn:H a=none)(new:jj P w (fM H a o) h' a o):iY P w (fM H a o) h':=fun b u q=>by
 by_cases hb:b=a
 ·subst hb;rw[fO] at q;cases q;exact new
 ·rw[fT hb] at q;refine(x b u q).ny (fun c v hc z=>k c v z fun y=> ?_) (fun c z=>by rw[fT (gf z hn)];exact z) fun c xs z=>by rw[fT (gf z hn)];exact z
  subst y;rcases hc with y|y
  ·exact hb y.symm
  ·rw[hn] at y;cases y
end
section
variable {X:Cx} {fL:List (Addr×Obj)} {σ:St} {H H':Hp} {s:Shared} {h':Heap}
theorem Inv.lay{a:Addr}{o:HO}{t':Nat}(I:Inv X fL σ H s)(k:∀b u,s.heap.get? b=some u->h'.get? b=some u)(hp:s.heap.get? a=none)(new:jj X.prog X.w (fM H a o) h' a o):
 Inv X fL σ (fM H a o) {s with heap:=h',toks:=t'}:=by
 have hn:=I.gh.Gu hp;have ne:∀b u,s.heap.get? b=some u->b≠a:=fun b u q z=>by rw[z,hp] at q;cases q
 refine I.un ⟨fun b u q _ _ _=>k b u q,fun b u q _ _ _=>⟨u.slots,k b u q⟩,fun b u q n _=>by rw[fT (ne b u q)];exact n,fun b u q _=>⟨u,k b u q⟩,fun b xs q=>by rw[fT (gf q hn)];exact q,
  fun b u xs q=>by rw[fT (gf q hn)];exact q,fun b ps q=>⟨#[],by rw[fT (gf q hn),q];simp⟩⟩ (I.gh.more (fun b u q _=>k b u q) hn new)
end
section
variable {X:Cx} {o value:Expr} {f:Str} {pos kU:Pos} {ta tv:TE} {C fI:Addr}
def sX1(C:Addr)(f:Str)(ta tv:TE):TS:=fun D σ H=>tv σ H fun y H1=>ta σ H1 fun x H2=>∃e,x=.ref e/\H2 e=some (XO e C none true)/\
 ∀dx,H2 dx=none->dx≠e->D.nx σ (fM (fM H2 dx (XD dx [(f,y)])) e (XO e C (some dx) true))
def sX2(C:Addr)(f:Str)(ta tv:TE):TS:=fun D σ H=>tv σ H fun y H1=>ta σ H1 fun x H2=>∃e dx fs,x=.ref e/\H2 e=some (XO e C (some dx) true)/\H2 dx=some (XD dx fs)/\fs.length<1000/\
 D.nx σ (fM H2 dx (XD dx (jB f y fs)))
theorem aas(c:pR X.K C fI)(hf:yq f)(ha:PE X o ta)(hv:PE X value tv)(hs:swapsWith value (some (.Attribute o f kU)) pos.line X.env=pure false):PS X (.Assign [.Attribute o f kU] value pos) (sX1 C f ta tv):=by
 intro fL s σ H D I h;refine dw (gm (hv fL s σ H _ I h) fun u s1 ⟨y,H1,I1,ry,q⟩=>gm (ha fL s1 σ H1 _ I1 q) fun ov s2 ⟨x,H2,I2,rx,e,ex,ee,q2⟩=> ?_) hs;subst ex;obtain rfl:ov=Value.ref e:=rx;obtain⟨nm,qn,N,bs,sn,sub,ab,col,dd,k0,k1,k2,k3,k5,mN,hC,hN,hi,yW,B5,B6,jy⟩:=c.at_ I2.jE;obtain⟨⟨oe,vs,e1,e2,e3,e4,e5⟩,_,_⟩:=I2.gh e _ ee;obtain⟨hp,g,d,tk,os⟩:=s2;refine FX.Vg PySem.F.store_Exception hC hN yW (jy f hf) (DW hf) e1 e2 (fun c z=>by rw[e4] at z;cases z) e3 fun h' pY dx F=> ?_
 have wX:H2 dx=none:=I2.gh.Gu F.fresh;refine⟨σ,_,?_,q2 dx wX F.ne⟩;have ne:∀b u,hp.get? b=some u->b≠dx:=fun b u z y=>by rw[y,F.fresh] at z;cases z
 have BZ:e≠dx:=cI F.ne;have xo:yV e C (some dx) true h':=⟨_,vs,F.obj,e2,Z,e4,e5⟩
 have xd:HR dx [(f,y)] h':=by
  refine⟨_,F.ns,fun n=> ?_,fun n hn=> ?_⟩
  ·show ku (List.lookup n [(f,y)]) (if n=f then some u else none)
   by_cases z:n=f
   ·subst z;rw[aw Z];have:List.lookup n [(n,y)]=some y:=by simp[List.lookup]
    rw[this];exact ry
   ·rw[am z]
    have:List.lookup n [(f,y)]=none:=by
     have hb:(n==f)=false:=cM.mpr z;simp[List.lookup,hb]
    rw[this];exact True.intro
  ·by_cases z:n=f
   ·subst z;simp
   ·have u6:(if n=f then some u else none)≠none:=hn;rw[am z] at u6;exact absurd Z u6
 have abp:iY X.prog X.w (fM (fM H2 dx (XD dx [(f,y)])) e (XO e C (some dx) true)) h':=fun b u z=>by
  by_cases hb:b=e
  ·subst hb;rw[fO] at z;cases z;exact GZ xo
  ·rw[fT hb] at z
   by_cases hd:b=dx
   ·subst hd;rw[fO] at z;cases z;exact Oz xd
   ·rw[fT hd] at z;have Bs:H2 e≠some (.own b):=fun y=>by rw[ee] at y;cases y
    refine(I2.gh b u z).ny (fun c v hc y=>F.keep c v (fun w'=> ?_) y) (fun c y=> ?_) fun c xs y=> ?_
    ·subst w';rcases hc with w'|w'
     ·exact hb w'.symm
     ·exact Bs w'
    ·have n1:c≠e:=fun w'=>by rw[w',ee] at y;cases y
     rw[fT n1,fT (gf y wX)];exact y
    ·have n1:c≠e:=fun w'=>by rw[w',ee] at y;cases y
     rw[fT n1,fT (gf y wX)];exact y
 refine I2.un (h':=h') (t':=pY) ⟨fun b ob z n _ _=>F.keep b ob (fun y=>by rw[y,ee] at n;cases n) z,fun b ob z n _ _=>⟨ob.slots,F.keep b ob (fun y=>by rw[y,ee] at n;cases n) z⟩,fun b ob z n _=> ?_,fun b ob z _=> ?_,fun b xs z=> ?_,fun b ob xs z=> ?_,fun b ps z=> ?_⟩ abp
 ·rw[fT (fun y=>by rw[y,ee] at n;cases n),fT (ne b ob z)];exact n
 ·by_cases y:b=e
  ·subst y;exact⟨_,F.obj⟩
  ·exact⟨ob,F.keep b ob y z⟩
 ·rw[fT (fun y=>by rw[y,ee] at z;cases z),fT (gf z wX)];exact z
 ·rw[fT (fun y=>by rw[y,ee] at z;cases z),fT (gf z wX)];exact z
 ·exact⟨#[],by rw[fT (fun y=>by rw[y,ee] at z;cases z),fT (gf z wX),z];simp⟩
theorem aat(c:pR X.K C fI)(hf:yq f)(ha:PE X o ta)(hv:PE X value tv)(hs:swapsWith value (some (.Attribute o f kU)) pos.line X.env=pure false):PS X (.Assign [.Attribute o f kU] value pos) (sX2 C f ta tv):=by
 intro fL s σ H D I h;refine dw (gm (hv fL s σ H _ I h) fun u s1 ⟨y,H1,I1,ry,q⟩=>gm (ha fL s1 σ H1 _ I1 q) fun ov s2 ⟨x,H2,I2,rx,e,dx,fs,ex,ee,ed,hl,q2⟩=> ?_) hs;subst ex;obtain rfl:ov=Value.ref e:=rx;obtain⟨nm,qn,N,bs,sn,sub,ab,col,dd,k0,k1,k2,k3,k5,mN,hC,hN,hi,yW,B5,B6,jy⟩:=c.at_ I2.jE;obtain⟨⟨oe,vs,e1,e2,e3,e4,e5⟩,_,_⟩:=I2.gh e _ ee;obtain⟨⟨mA,n1,r1,w1⟩,_,_⟩:=I2.gh dx _ ed;obtain⟨hp,g,d,tk,os⟩:=s2
 have nde:dx≠e:=fun z=>by
  obtain⟨ob,es,ep,z1,z2,_⟩:=n1;rw[z] at z1;have z3:hp.get? e=some ob:=z1;have z4:hp.get? e=some oe:=e1;rw[z4] at z3;cases z3;rw[e4] at z2;cases z2
 have abq:∀c,oe.data≠ .cls c:=fun c z=>by rw[e4] at z;cases z
 have wP:e≠C:=fun z=>by
  have z4:hp.get? e=some oe:=e1;rw[z,hC] at z4;cases z4;cases e4
 refine PySem.store_attr (mA:=mA) (ns:=fs.map (·.1)) PySem.F.store_Exception hC hN yW (jy f hf) (DW hf) wP ⟨oe,e1,e2,abq,.inr ⟨dx,e3,nde,n1⟩⟩ (fun h' pY J keep same=> ?_) w1 (by rw[ac,sizeLine_eq];omega);obtain⟨o1,z1,z2,z3,z4,z5⟩:=same oe e1;have z6:=z5 dx e3
 have ob:h'.get? e=some oe:=by
  rw[z1];obtain⟨a1,a2,a3,a4⟩:=oe;obtain⟨b1,b2,b3,b4⟩:=o1;simp only at z2 z3 z4 z6 e3⊢;rw[z2,z3,z4,z6,e3]
 obtain⟨o2,y1,y2,y3,y4⟩:=J;rw[ob] at y1;cases y1
 have PN:h'.Ns1 dx (fun y=>if y=f then some u else mA y):=by
  rcases y4 with⟨y5,_⟩|⟨d2,y5,_,y6⟩
  ·rw[e3] at y5;cases y5
  ·rw[e3] at y5;cases y5;exact y6
 have kp:∀b v,b≠dx->hp.get? b=some v->h'.get? b=some v:=fun b v nb hb=>by
  by_cases q:b=e
  ·subst q;have z7:hp.get? b=some oe:=e1;rw[z7] at hb;cases hb;exact ob
  ·refine keep b v q (fun o0 dy g0 g1=> ?_) hb;have z7:hp.get? e=some oe:=e1;rw[z7] at g0;cases g0;rw[e3] at g1;cases g1;exact nb
 refine⟨σ,_,?_,q2⟩;refine I2.write (x:=dx) (e:=dx) (t':=pY) (by rw[ed];exact True.intro) (.inl Z) kp (let ⟨ob2,_,_,g1,_⟩:=PN;⟨ob2,g1⟩) (Oz ⟨_,PN,fun g=> ?_,fun g hg=> ?_⟩)
 ·show ku ((jB f y fs).lookup g) (if g=f then some u else mA g);rw[Ec]
  by_cases q:g=f
  ·rw[aw q,aw q];exact ry
  ·rw[am q,am q];exact r1 g
 ·by_cases q:g=f
  ·rw[q];exact(xV f y fs).1
  ·refine(xV f y fs).2 g (w1 g fun z=>hg ?_);show(if g=f then some u else mA g)=none;rw[am q];exact z
end
theorem UF{v:V}{u:Value}(r:RelV v u):handedOut u=pure u:=by
 cases v with
 |gS=>cases (show u=Value.none from r);rfl
 |bl b=>cases (show u=Value.bool b from r);rfl
 |int i=>obtain⟨t,e⟩:=(show∃t,u=Value.int i t from r);cases e;rfl
 |str x=>obtain⟨t,e⟩:=(show∃t,u=Value.str x t from r);cases e;rfl
 |nA b=>obtain⟨t,e⟩:=(show∃t,u=Value.bytes b t from r);cases e;rfl
 |wJ b=>obtain⟨t,e⟩:=(show∃t,u=Value.float b t from r);cases e;rfl
 |ref a=>cases (show u=Value.ref a from r);rfl
 |ty n=>cases (show u=Value.type n from r);rfl
def tXF(C:Addr)(ta:TE)(f:Str):TE:=fun σ H Q=>ta σ H fun x H1=>∃e dx fs v new,x=.ref e/\H1 e=some (XO e C (some dx) new)/\H1 dx=some (XD dx fs)/\fs.lookup f=some v/\Q v H1
theorem OA{X:Cx}{e:Expr}{f:Str}{pos:Pos}{ta:TE}{C fI:Addr}(c:pR X.K C fI)(hf:yq f)(he:PE X e ta)(hb:attributeBase e f X.env (eval e X.env)=eval e X.env):PE X (.Attribute e f pos) (tXF C ta f):=by
 intro fL s σ H Q I h;refine Nm hb (gm (he fL s σ H _ I h) fun u s1 ⟨x,H1,I1,rx,a,dx,fs,v,new,ex,ea,ed,l,q⟩=> ?_);subst ex;obtain rfl:u=Value.ref a:=rx;obtain⟨nm,qn,N,bs,sn,sub,ab,col,dd,k0,k1,k2,k3,k5,mN,hC,hN,hi,yW,B5,B6,jy⟩:=c.at_ I1.jE;obtain⟨⟨oe,vs,e1,e2,e3,e4,e5⟩,_,_⟩:=I1.gh a _ ea;obtain⟨⟨mA,n1,r1,w1⟩,_,_⟩:=I1.gh dx _ ed;obtain⟨u,hu,ru⟩:=ku.some_of (v:=v) (o:=mA f) (by rw[<-l];exact r1 f);have I2:=I1.tok (s1.toks+1);obtain⟨hp,g,d,tk,os⟩:=s1;exact FX.Vh hC hN B5 B6 (jy f hf) (DW hf) e1 e2 (fun c z=>by rw[e4] at z;cases z) e3 n1.ns hu (UF ru) ⟨v,H1,I2,ru,q⟩
structure Fly(P:Program)(w:World)(C:Addr)(outer:List Env)(H:Hp)(s:Shared)(e dx:Addr)(B:Heap)(H':Hp)(s':Shared):Prop where
 os:s'.os=s.os
 bare:AllBare s'.gens
 stays:B.StaysIn s'.heap
 new:B.get? e=none
 jv:s'.heap.FunFrames B outer
 tr:FX.wW s'.heap B e (.ref C) (some dx) .none
 un:Un (iP outer) [] H H' s.heap s'.heap
 keep:∀b o,s.heap.get? b=some o->H b=none->b∉iP outer->B.get? b=some o
 there:∀b o,s.heap.get? b=some o->b∉iP outer->∃o',B.get? b=some o'
 gh:iY P w H' B
 free:H' e=none
def jF(P:Program)(w:World)(C:Addr):qF:=fun outer H s E ev s'=>∃(e dx:Addr) (B:Heap) (H':Hp),ev=.ref e/\Fly P w C outer H s e dx B H' s'/\E (.ref C) (some dx) H'
theorem yr{l:List Env}{H H':Hp}{h h1 h2 B base:Heap}(un:Un (iP l) [] H H' h h1)(keep:∀b o,h.get? b=some o->H b=none->b∉iP l->B.get? b=some o)
 (there:∀b o,h.get? b=some o->b∉iP l->∃o',B.get? b=some o') (st:B.StaysIn h2) (up:h1.UpToSlots h2) (ff:h.FunFrames base l) (jy:∀b∈iP l,H b=none):Un (iP l) [] H H' h h2 where
 keep:=fun b o q n hb _=>st b o (keep b o q n hb)
 slot:=fun b o q n hb _=>by
  obtain⟨sl,q1⟩:=un.slot b o q n hb (by simp);obtain⟨_,o2,z1,z2⟩:=ff.mem hb;rw[q] at z1;cases z1;obtain⟨B7,q2⟩:=up b _ q1 z2;exact⟨B7,q2⟩
 free:=un.free
 there:=fun b o q _=>by
  by_cases hb:b∈iP l
  ·obtain⟨sl,q1⟩:=un.slot b o q (jy b hb) hb (by simp);obtain⟨_,o2,z1,z2⟩:=ff.mem hb;rw[q] at z1;cases z1;obtain⟨B7,q2⟩:=up b _ q1 z2;exact⟨_,q2⟩
  ·obtain⟨o',q1⟩:=there b o q hb;exact⟨o',st _ _ q1⟩
 mi:=un.mi
 lI:=un.lI
 mE:=un.mE
theorem DX{env:Env}{outer:List Env}{L b:Addr}(hf:env.frame=some L):b∈iP (env::outer)↔b=L\/b∈iP outer:=by
 unfold iP;rw[bU,hf];exact az
section
variable {P:Program} {w:World} {K:PySem.W.Frag} {mg:Str->Option Value} {base:Heap} {N:List Str} {qual:Str} {scope:Scope} {f C:Addr} {cd:Value} {A:Around} {outer:List Env} {s:Shared} {H:Hp} {E:XK}
theorem Bk:nS (jF P w C) (j5 (jF P w C) P w K mg base N qual scope f cd A outer s H E) E:=by
 intro fL σ H1 s1 ev s' I hx;obtain⟨e,dx,B,H',rfl,F,hE⟩:=hx;have kK:(j5 (jF P w C) P w K mg base N qual scope f cd A outer s H E).stack=envOfC qual scope s.heap.objs.size f cd::outer:=rfl;show wpAny (model P w) (A.deeper (envOfC qual scope s.heap.objs.size f cd)) (leaving (envOfC qual scope s.heap.objs.size f cd) (.ref e)) _ _ s';have wY:(envOfC qual scope s.heap.objs.size f cd).frame=some s.heap.objs.size:=rfl;refine FX.UE (L:=s.heap.objs.size) I.ok.frames F.jv wY F.stays F.new F.tr fun h' nt=> ?_
 have ib:Un (iP outer) [] H H1 s.heap s1.heap:=I.base
 have yD:∀b o,s.heap.get? b=some o->b∉iP outer->b∉iP (envOfC qual scope s.heap.objs.size f cd::outer):=fun b o q nb hb=>by
  rcases(DX wY).mp hb with z|z
  ·exact absurd (aK q) (by rw[z];exact bL _)
  ·exact nb z
 have keep:∀b o,s.heap.get? b=some o->H b=none->b∉iP outer->B.get? b=some o:=fun b o q n nb=>F.keep b o (ib.keep b o q n nb (by simp)) (ib.free b o q n (by simp)) (yD b o q nb)
 have there:∀b o,s.heap.get? b=some o->b∉iP outer->∃o',B.get? b=some o':=fun b o q nb=>by
  obtain⟨o1,q1⟩:=ib.there b o q (by simp);exact F.there b o1 q1 (yD b o q nb)
 have yX:∀b∈iP outer,H b=none:=I.ok.qD
 have HS:Un (iP outer) [] H H' s.heap s'.heap:=by
  refine⟨fun b o q n nb _=>F.stays _ _ (keep b o q n nb),fun b o q n hb _=> ?_,fun b o q n _=> ?_,fun b o q _=> ?_,fun b xs q=>F.un.mi b xs (ib.mi b xs q),fun b o xs q=>F.un.lI b o xs (ib.lI b o xs q),fun b ps q=> ?_⟩
  ·obtain⟨sl,q1⟩:=ib.slot b o q n hb (by simp);obtain⟨B7,q2⟩:=F.un.slot b _ q1 (ib.free b o q n (by simp)) ((DX wY).mpr (.inr hb)) (by simp);exact⟨B7,q2⟩
  ·obtain⟨o1,q1⟩:=ib.there b o q (by simp);exact F.un.free b o1 q1 (ib.free b o q n (by simp)) (by simp)
  ·obtain⟨o1,q1⟩:=ib.there b o q (by simp);exact F.un.there b o1 q1 (by simp)
  ·obtain⟨m1,e1⟩:=ib.mE b ps q;obtain⟨m2,e2⟩:=F.un.mE b _ e1;exact⟨m1++m2,by rw[e2,Array.append_assoc]⟩
 have HU:s.heap.FunFrames base outer:=I.ok.jv;exact⟨e,dx,B,H',Z,⟨F.os.trans I.os,F.bare,nt.stays,F.new,nt.jv,nt.tr,yr HS keep there nt.stays nt.slots HU yX,keep,there,F.gh,F.free⟩,hE⟩
theorem O4:PassesOwn (model (j5 (jF P w C) P w K mg base N qual scope f cd A outer s H E).prog (j5 (jF P w C) P w K mg base N qual scope f cd A outer s H E).w) (j5 (jF P w C) P w K mg base N qual scope f cd A outer s H E).A
 (j5 (jF P w C) P w K mg base N qual scope f cd A outer s H E).env (j5 (jF P w C) P w K mg base N qual scope f cd A outer s H E).xe:=PassesOwn.leaving
end
def qK(H:Hp)(e:Addr):Hp:=fun b=>if b=e then none else H b
theorem sw{H:Hp}{e b:Addr}(h:b≠e):qK H e b=H b:=by unfold qK;rw[am h]
theorem GL{H:Hp}{e:Addr}:qK H e e=none:=by unfold qK;rw[aw Z]
def Bx(C:Addr):Sp:=fun vs H Q _=>∃(e:Addr) (k p:Int),vs=[.ref e,.int k,.int p]/\H e=some (XO e C none true)/\
 ∀dx,H dx=none->dx≠e->Q .gS (fM (fM H dx (XD dx [("kind",.int k),("place",.int p)])) e (XO e C (some dx) true))
section
variable {X:Cx} {k:Nat} {fI C:Addr} {fd:FuncData} {ps:List Str} {E:XK}
theorem V9{fL:List (Addr×Obj)}{σ:St}{H:Hp}{s:Shared}{Q:VK}{us:List Value}{kk pp:Int}(c:pR X.K C fI)(F:gK X.prog X.w X.K X.mg X.base gT k fI fd ps (Bx C))(hr:jN (k+1) X.A)(hb:Binds X.K fd ps [])
 (I:Inv X fL σ H s) (r:gF [.int kk,.int pp] us)
 (h:∀e dx,s.heap.get? e=none->H e=none->H dx=none->dx≠e->Q (.ref e) (fM (fM (fM H e (XO e C none true)) dx (XD dx [("kind",.int kk),("place",.int pp)])) e (XO e C (some dx) true))):
 wpAny (model X.prog X.w) X.A (call (.ref C) us) (EP X fL σ Q) X.xe s:=by
 obtain⟨nm,qn,N,bs,sn,sub,ab,col,dd,k0,k1,k2,k3,k5,mN,hC,hN,hi,yW,B5,B6,jy⟩:=c.at_ I.jE;obtain⟨oI,hoI,BH⟩:=c.fn;have hfI:=I.jE _ _ hoI;have tF:us.length=2:=r.length.symm;obtain⟨hp,g,d,t,os⟩:=s;refine PySem.wpAny_call_exc_init PySem.F.excBase_Exception hC hN hi hfI BH (fun h' e M=> ?_) (by rw[tF];decide);obtain⟨tt,he,_,_⟩:=M.there;have xo:yV e C none true h':=⟨_,_,he,Z,Z,Z,fun _=>⟨Z,Z⟩⟩;have I2:Inv X fL σ (fM H e (XO e C none true)) ⟨h',g,d,t,os⟩:=I.lay (t':=t) M.keeps M.new (GZ xo);have hn:H e=none:=I.gh.Gu M.new;have r2:gF (V.ref e::[.int kk,.int pp]) (Value.ref e::us):=.cons Z r
 have PP:Bx C (V.ref e::[.int kk,.int pp]) (fM H e (XO e C none true)) (fun v H2=>v=.gS/\Q (.ref e) H2) E0:=
  ⟨e,kk,pp,Z,fO,fun dx hd lm=>⟨Z,h e dx M.new hn (by rw[fT lm] at hd;exact hd) lm⟩⟩
 have hl:(Value.ref e::us++[]).length=ps.length:=by
  have z:=r2.length;rw[F.len _ _ _ _ PP] at z;rw[bc];exact z.symm
 refine wpAny_call (eZ (F.run _ X.stack _ _ ⟨Value.ref e::us,[]⟩ (Value.ref e::us) _ _ E0 (hr.make C us []) (I2.Hh.make C us []) (by have z:=hb _ (Value.ref e::us) I2.jE hl;rw[bc] at z;exact z) r2 PP) fun r' s' hq=> ?_);cases r' with
 |error e=>exact hq.elim
 |ok fl=>
  cases fl with
  |ret u=>
   obtain⟨v,H',I3,rv,ev,q3⟩:=I2.after hq;subst ev;exact⟨rv,⟨V.ref e,H',I3,Z,q3⟩⟩
  |next=>exact False.elim hq
  |brk=>exact False.elim hq
  |cont=>exact False.elim hq
end
section
variable {P:Program} {w:World} {K:PySem.W.Frag} {mg:Str->Option Value} {base:Heap} {N:List Str} {qual:Str} {scope:Scope} {f C fI:Addr} {cd:Value} {A:Around} {outer:List Env} {s:Shared} {H:Hp} {E:XK}
def GM(C:Addr)(E:XK)(t:TA):TS:=fun _ σ H=>t σ H fun vs H1=>∃kk pp,vs=[.int kk,.int pp]/\∀dx,H1 dx=none->E (.ref C) (some dx) (fM H1 dx (XD dx [("kind",.int kk),("place",.int pp)]))
theorem leave_new{fL:List (Addr×Obj)}{σ:St}{H2:Hp}{s3:Shared}{e dx:Addr}(I:Inv (j5 (jF P w C) P w K mg base N qual scope f cd A outer s H E) fL σ H2 s3)(he:H2 e=some (XO e C (some dx) true))(yx:s.heap.get? e=none)
 (hE:E (.ref C) (some dx) (qK H2 e)):(j5 (jF P w C) P w K mg base N qual scope f cd A outer s H E).xe (.ref e) s3:=by
 obtain⟨⟨oe,vs,e1,e2,e3,e4,e5⟩,_,_⟩:=I.gh e _ he;have wY:(envOfC qual scope s.heap.objs.size f cd).frame=some s.heap.objs.size:=rfl;have kK:(j5 (jF P w C) P w K mg base N qual scope f cd A outer s H E).stack=envOfC qual scope s.heap.objs.size f cd::outer:=rfl;generalize hB:PySem.W.hideAll s3.heap (e::iP (envOfC qual scope s.heap.objs.size f cd::outer))=B
 have HV:∀b o,s3.heap.get? b=some o->b≠e->b∉iP (envOfC qual scope s.heap.objs.size f cd::outer)->B.get? b=some o:=fun b o q n1 n2=>by
  rw[<-hB]
  exact PySem.W.hideAll_get _ q fun hm=>by
   rcases az.mp hm with z|z
   ·exact n1 z
   ·exact n2 z
 have stB:B.StaysIn s3.heap:=fun b o q=>by rw[<-hB] at q;exact PySem.W.of_hideAll _ q
 have PQ:B.get? e=none:=by rw[<-hB];exact PySem.W.hideAll_none _ bv
 have ffB:s3.heap.FunFrames B (envOfC qual scope s.heap.objs.size f cd::outer):=by
  rw[<-hB];exact PySem.W.funFrames_hide I.stack fun env hm a ha=>aX _ (ci.mpr ⟨env,hm,ha⟩)
 have sF:∀b∈iP (envOfC qual scope s.heap.objs.size f cd::outer),H2 b=none:=I.uu;have ib:Un (iP outer) [] H H2 s.heap s3.heap:=I.base
 have yD:∀b o,s.heap.get? b=some o->b∉iP outer->b∉iP (envOfC qual scope s.heap.objs.size f cd::outer):=fun b o q nb hb=>by
  rcases(DX wY).mp hb with z|z
  ·exact absurd (aK q) (by rw[z];exact bL _)
  ·exact nb z
 have PR:∀b o,s.heap.get? b=some o->H b=none->b≠e:=fun b o q n z=>by
  have:=ib.free b o q n (by simp);rw[z,he] at this;cases this
 show wpAny (model P w) (A.deeper (envOfC qual scope s.heap.objs.size f cd)) (leaving (envOfC qual scope s.heap.objs.size f cd) (.ref e)) _ _ s3;refine FX.TW (base:=B) (L:=s.heap.objs.size) I.ok.frames ffB wY e1 stB PQ e4 (e5 Z).1 fun h' nt=> ?_
 rw[e2,e3] at nt;have keep:∀b o,s.heap.get? b=some o->H b=none->b∉iP outer->B.get? b=some o:=fun b o q n nb=>HV b o (ib.keep b o q n nb (by simp)) (PR b o q n) (yD b o q nb)
 have HS:Un (iP outer) [] H (qK H2 e) s.heap s3.heap:=by
  refine⟨ib.keep,ib.slot,fun b o q n hx=>by rw[sw (PR b o q n)];exact ib.free b o q n hx,ib.there,fun b xs q=> ?_,fun b o xs q=> ?_,fun b ps q=> ?_⟩
  ·have z:=ib.mi b xs q;rw[sw (fun y=>by rw[y,he] at z;cases z)];exact z
  ·have z:=ib.lI b o xs q;rw[sw (fun y=>by rw[y,he] at z;cases z)];exact z
  ·obtain⟨m1,z⟩:=ib.mE b ps q;exact⟨m1,by rw[sw (fun y=>by rw[y,he] at z;cases z)];exact z⟩
 have there:∀b o,s.heap.get? b=some o->b∉iP outer->∃o',B.get? b=some o':=fun b o q nb=>by
  obtain⟨o1,q1⟩:=ib.there b o q (by simp);exact⟨o1,HV b o1 q1 (fun z=>by rw[z,yx] at q;cases q) (yD b o q nb)⟩
 have gh:iY P w (qK H2 e) B:=fun b u q=>by
  have nb:b≠e:=fun z=>by rw[z,GL] at q;cases q
  rw[sw nb] at q;refine(I.gh b u q).ny (fun c v hc z=>HV c v z ?_ ?_) (fun c z=> ?_) fun c xs z=> ?_
  ·rcases hc with y|y
   ·rw[y];exact nb
   ·intro y2;rw[y2,he] at y;cases y
  ·intro hm;have y0:=sF c hm;rcases hc with y|y
   ·rw[y,q] at y0;cases y0
   ·rw[y] at y0;cases y0
  ·rw[sw (fun y=>by rw[y,he] at z;cases z)];exact z
  ·rw[sw (fun y=>by rw[y,he] at z;cases z)];exact z
 have HU:s.heap.FunFrames base outer:=I.ok.jv;have yX:∀b∈iP outer,H b=none:=I.ok.qD;exact⟨e,dx,B,qK H2 e,Z,⟨I.os,I.bare,nt.stays,PQ,nt.jv,nt.tr,yr HS keep there nt.stays nt.slots HU yX,keep,there,gh,GL⟩,hE⟩
theorem nO{k:Nat}{fd:FuncData}{ps:List Str}{x:Str}{p jT pos:Pos}{e:Expr}{es:List Expr}{t:TA}(c:pR K C fI)(F:gK P w K mg base gT k fI fd ps (Bx C))(hr:jN (k+1) (A.deeper (envOfC qual scope s.heap.objs.size f cd)))
 (hg:Gl (j5 (jF P w C) P w K mg base N qual scope f cd A outer s H E) x) (hm:mg x=some (.ref C)) (hb:Binds K fd ps [])
 (ha:PA (j5 (jF P w C) P w K mg base N qual scope f cd A outer s H E) (e::es) t) (mV:(x==("__debug__":Str))=false:=by decide)
 (he:starEach (e::es) (j5 (jF P w C) P w K mg base N qual scope f cd A outer s H E).env=(false,eval e (j5 (jF P w C) P w K mg base N qual scope f cd A outer s H E).env)::starEach es (j5 (jF P w C) P w K mg base N qual scope f cd A outer s H E).env:=by rfl)
 (jp:(backTo jT (starEach es (j5 (jF P w C) P w K mg base N qual scope f cd A outer s H E).env)).any (·.1)=false:=by rfl):
 PS (j5 (jF P w C) P w K mg base N qual scope f cd A outer s H E) (.Raise (some (.Call (.Name x p) (e::es) [] jT)) none pos) (GM C E t):=by
 intro fL s1 σ H1 D I h;generalize hX:j5 (jF P w C) P w K mg base N qual scope f cd A outer s H E=X at*;have afa:X.prog=P:=by rw[<-hX];rfl
 have hh:X.A.handled=none:=I.ok.hd (by rw[<-hX];rfl);rw[arm_exec_Raise];refine ay (dN ?_)
 have ev:wpAny (model X.prog X.w) X.A (eval (.Call (.Name x p) (e::es) [] jT) X.env) (EP X fL σ fun v H2=>∃ea dx,v=.ref ea/\s.heap.get? ea=none/\H2 ea=some (XO ea C (some dx) true)/\E (.ref C) (some dx) (qK H2 ea)) X.xe s1:=by
  refine bH (uv I hg (by rw[<-hX];exact hm) ?_ mV);refine dG (h₀:=X.base) I.ok.mod.u1 (by rw[<-hX];exact c.kp) (gm (ha jT fL s1 σ H1 _ I h) fun us s2 ⟨vs,H2,I2,r,kk,pp,ev,q⟩=>⟨I2.jE,?_⟩) he jp;subst ev;subst hX;refine V9 (k:=k) (ps:=ps) (fd:=fd) c F hr hb I2 r fun ea dx n0 n1 n2 n3=>⟨ea,dx,Z,?_,fO,?_⟩
  ·cases z:s.heap.get? ea with
   |none=>rfl
   |some o=>
    have ib:Un (iP outer) [] H H2 s.heap s2.heap:=I2.base;obtain⟨o',z'⟩:=ib.there ea o z (by simp);rw[n0] at z';cases z'
  ·have e1:qK (fM (fM (fM H2 ea (XO ea C none true)) dx (XD dx [("kind",.int kk),("place",.int pp)])) ea (XO ea C (some dx) true)) ea=fM H2 dx (XD dx [("kind",.int kk),("place",.int pp)]):=by
    funext b
    by_cases wZ:b=ea
    ·rw[wZ,GL,fT (cI n3),n1]
    ·rw[sw wZ,fT wZ]
     by_cases lu:b=dx
     ·rw[lu,fO,fO]
     ·rw[fT lu,fT lu,fT wZ]
   rw[e1];exact q dx n2
 obtain⟨nm,qn,Nn,bs,sn,sub,ab,col,dd,k0,k1,k2,k3,k5,mN,hC,_⟩:=c.at_ (h:=s1.heap) (by have z:=I.jE;rw[<-hX] at z;exact z)
 have res:=FX.Vi (env:=X.env) (Q:=SP X fL D) (x:=(do let v<-eval (.Call (.Name x p) (e::es) [] jT) X.env;standAt pos;pure v)) (C:=C) (nm:=nm) (q:=qn) (N:=Nn) (bs:=bs) (bm:=FX.qJ) (hdct:=true) (sn:=sn) (sub:=sub) (ab:=ab) (col:=col) (dd:=dd) (k0:=k0) (k1:=k1) (k2:=k2) (k3:=k3) (k5:=k5) (newId:="Exception.__new__")
  (M:=model X.prog X.w) (A:=X.A) (E:=X.xe) (s:=s1) (by decide+kernel) hh (ay (gm ev fun v s3 ⟨vv,H3,I3,rv,ea,dx,ev,hn,B8,hE⟩=>ay (dN (aY ?_))))
 ·exact res
 ·subst ev;obtain rfl:v=Value.ref ea:=rv;obtain⟨⟨oe,vs,e1,e2,e3,e4,e5⟩,_,_⟩:=I3.gh ea _ B8
  have hC3:s3.heap.get? C=some (excClassObj nm qn C Nn bs FX.qJ true sn sub ab col dd k0 k1 k2 k3 k5 "Exception.__new__"):=by
   have b0:=c.obj;obtain⟨nm',q',N',bs',sn',afc,ab',afd,yO,k0',k1',k2',k3',k5',on,rn,ep,h1,_⟩:=b0;have z1:s1.heap.get? C=_:=(show K.In s1.heap from by have z:=I.jE;rw[<-hX] at z;exact z) _ _ h1;have z3:s3.heap.get? C=_:=(show K.In s3.heap from by have z:=I3.jE;rw[<-hX] at z;exact z) _ _ h1;rw[z3,<-z1,hC]
  refine⟨ea,oe,vs,Z,hC3,e1,e2,e4,(e5 Z).1,(e5 Z).2,?_⟩;subst hX;exact leave_new I3 B8 hn hE
end
section
variable {X:Cx} {fL ni:List (Addr×Obj)} {σ:St} {H H':Hp} {s:Shared}
theorem Cx.Ok.re(o:X.Ok){A':Around}{nk:Bool}{nD:List (Addr×Obj)}{om:Value->Shared->Prop}(fr:A'.frames=some X.stack)(hd:nk=true->A'.handled=none):Cx.Ok {X with A:=A',calm:=nk,pn:=nD,xe:=om}:=
 ⟨o.mod,o.kind,o.glob,o.blt,o.above,o.inj,o.has,o.wN,hd,fr,o.sT,o.yI,o.bs,o.pT,o.wu,o.wv,o.jv,o.qD⟩
theorem Inv.re(I:Inv X fL σ H s){A':Around}{nk:Bool}{nD:List (Addr×Obj)}{om:Value->Shared->Prop}(ok:Cx.Ok {X with A:=A',calm:=nk,pn:=nD,xe:=om})(hp:∀p∈nD++ni,p∈X.pn++fL):
 Inv {X with A:=A',calm:=nk,pn:=nD,xe:=om} ni σ H s:=
 ⟨ok,I.os,I.bare,I.base,I.loc,I.cell,I.free,I.mO,fun p h=>I.pin p (hp p h),I.gh,I.len⟩
theorem Inv.forget{i:Nat}{n:Str}{h':Heap}{t':Nat}{m:Str->Option Value}{v:Option Value}(I:Inv X fL σ H s)(hN:X.N.Nodup)(hi:X.N[i]? =some n)(hn:s.heap.Ns X.env.locals m)
 (sW:h'.Ns X.env.locals (fun x=>if x=n then v else m x)) (hs:Heap.SameBut X.env.locals s.heap h'):Inv X fL (σ.set i none) H {s with heap:=h',toks:=t'}:=by
 have wO:∀b o,X.kW.heap.get? b=some o->b≠X.env.locals:=fun b o e=>ba (aU (aK e) I.ok.above)
 obtain⟨oL,_,_,Pl,_⟩:=id hn
 have gh:iY X.prog X.w H h':=fun b ob e=>by
  refine(I.gh b ob e).ny (fun c w' hc q=>(hs.2 c ?_).trans q) (fun _ q=>q) fun _ _ q=>q
  rintro rfl;rcases hc with z|hc
  ·rw[<-z,I.free] at e;cases e
  ·rw[I.free] at hc;cases hc
 obtain⟨m0,HW,hl⟩:=I.loc;have em:m0=m:=(HW.eq_nsMap).trans (hn.eq_nsMap).symm;subst em;refine⟨I.ok,I.os,I.bare,⟨fun b o e n hb hx=>(hs.2 b (wO b o e)).trans (I.base.keep b o e n hb hx),fun b o e n hb hx=> ?_,I.base.free,fun b o e hx=> ?_,I.base.mi,I.base.lI,I.base.mE⟩,⟨_,sW,fun j y v' e1 e2 e3=> ?_⟩,fun y c e=> ?_,I.free,I.mO,fun p hp=> ?_,gh,by simpa using I.len⟩
 ·obtain⟨sl,e1⟩:=I.base.slot b o e n hb hx;exact⟨sl,(hs.2 b (wO b o e)).trans e1⟩
 ·obtain⟨o',e1⟩:=I.base.there b o e hx;exact⟨o',(hs.2 b (wO b o e)).trans e1⟩
 ·by_cases hj:j=i
  ·subst hj;rw[List.getElem?_set] at e2;simp at e2
  ·rw[dY (cI hj)] at e2;obtain⟨u',r',q⟩:=hl j y v' e1 e2 e3;refine⟨u',r',?_⟩;rcases q with⟨k,e⟩|⟨k,c,e,z⟩
   ·refine .inl ⟨k,?_⟩;have:y≠n:=fun e=>hj (At hN e1 (e▸hi))
    simp[this,e]
   ·exact .inr ⟨k,c,e,z.sameBut hs (I.rm y c e)⟩
 ·obtain⟨w',z⟩:=I.cell y c e;exact⟨w',z.sameBut hs (I.rm y c e)⟩
 ·obtain⟨e,n,ne,nf,d⟩:=I.pin p hp;exact⟨(hs.2 p.1 ne).trans e,n,ne,nf,d⟩
end
def abr(C:Addr)(E:XK)(tb th:TS):TS:=fun D σ H=>tb D σ H/\∀dx gw H',gw.length=σ.length->E (.ref C) (some dx) H'->th D gw H'
def ZA(C:Addr)(E:XK)(i:Nat)(tb th:TS):TS:=fun D σ H=>tb D σ H/\∀(e dx:Addr) (gw:St) (H':Hp),gw.length=σ.length->H' e=none->E (.ref C) (some dx) H'->
 th ⟨fun σ H=>D.nx (σ.set i none) H,D.rt,fun σ H=>D.bk (σ.set i none) H,fun σ H=>D.ct (σ.set i none) H⟩ (gw.set i (some (.ref e))) (fM H' e (XO e C (some dx) false))
section
variable {X:Cx} {C fI:Addr} {E:XK} {x n:Str} {i:Nat} {np uY pos:Pos} {body sG:List Stmt} {b0:Stmt} {tb th:TS}
abbrev Cx.hand(X:Cx)(e:Addr):Cx:={X with A:=X.A.mark (some (.ref e)),calm:=false,xe:=fun _ _=>False}
theorem ZB(kK:X.stack=X.env::X.outer)(hf:X.env.frame=some X.env.locals)(c:pR X.K C fI)(hg:Gl X x)(hm:X.mg x=some (.ref C))
 (rf:∀(XE:Value->Shared->Prop) (pn:List (Addr×Obj)),nS (jF X.prog X.w C) {X with xe:=XE,pn:=pn} E->lZ {X with xe:=XE,pn:=pn} body tb)
 (G0:∀e:Addr,lZ (X.hand e) (b0::sG) th) (mV:(x==("__debug__":Str))=false:=by decide):
 PS X (.Try body [.ExceptHandler (some (.Name x np)) none (b0::sG) uY] [] [] pos) (abr C E tb th):=by
 intro fL s σ H D I h;obtain⟨hb,hh⟩:=h;refine wpAny_Try_except ?_;have pZ:Cx.Ok {X with A:=X.A,calm:=X.calm,pn:=X.pn++fL,xe:=fun ev s1=>wpAny (model X.prog X.w) X.A (noteFrame ev X.env) (fun _ s2=>wpAny (model X.prog X.w) X.A (setFlight ev none) (fun _ s3=>wpAny (model X.prog X.w) X.A (handleBy ev X.env [.ExceptHandler (some (.Name x np)) none (b0::sG) uY]) (SP X fL D) X.xe s3) X.xe s2) X.xe s1}:=I.ok.re I.ok.frames I.ok.hd;generalize HX:(fun ev s1=>wpAny (model X.prog X.w) X.A (noteFrame ev X.env) (fun _ s2=>wpAny (model X.prog X.w) X.A (setFlight ev none) (fun _ s3=>wpAny (model X.prog X.w) X.A (handleBy ev X.env [.ExceptHandler (some (.Name x np)) none (b0::sG) uY]) (SP X fL D) X.xe s3) X.xe s2) X.xe s1)=XE at pZ;have back:∀{gw:St} {H':Hp} {s':Shared},Inv {X with xe:=XE,pn:=X.pn++fL} [] gw H' s'->Inv X fL gw H' s':=fun I'=>I'.re (A':=X.A) (nk:=X.calm) (nD:=X.pn) (om:=X.xe) (ni:=fL) I.ok (fun p hp=>by simpa using hp)
 have yC:nS (jF X.prog X.w C) {X with xe:=XE,pn:=X.pn++fL} E:=by
  intro Bl mj H1 s1 ev s' I1 hx;obtain⟨e,dx,B,H',rfl,F,hE⟩:=hx;show XE (.ref e) s';rw[<-HX];have fr:X.A.frames=some (X.env::X.outer):=by rw[<-kK];exact I.ok.frames
  have ff:s'.heap.FunFrames B (X.env::X.outer):=by rw[<-kK];exact F.jv
  refine FX.Oy (L:=X.env.locals) fr ff hf F.stays F.new F.tr fun h6 nt=> ?_
  have yY:∀h7:Heap,B.StaysIn h7->s'.heap.UpToSlots h7->Inv (X.hand e) fL mj H' {s' with heap:=h7}:=fun h7 st up=>by
   have oo:=yr F.un F.keep F.there st up I1.stack I1.uu;have J:Inv {X with xe:=XE,pn:=X.pn++fL} Bl mj H' {s' with heap:=h7}:=I1.Bh (s':={s' with heap:=h7}) (ch:=[]) F.os oo (F.gh.kept st) F.bare (fun b z=>absurd z (by simp));exact J.re (A':=X.A.mark (some (.ref e))) (nk:=false) (nD:=X.pn) (om:=fun _ _=>False) (ni:=fL) (I.ok.re I.ok.frames (fun z=>by cases z)) (fun p hp=>by simp at hp⊢;rcases hp with z|z<;>simp[z])
  have I6:=yY h6 nt.stays nt.slots;obtain⟨nm,qn,Nn,bs,sn,sub,ab,col,dd,k0,k1,k2,k3,k5,mN,hC,_⟩:=c.at_ (h:=h6) I6.jE;obtain⟨oe,vs,T,oT,ts,he,HY,_⟩:=nt.tr;refine wpAny_handleBy_cons (codeAny_handlers_test (uv I6 hg hm ?_ mV)) (by intro q;cases q);refine wpAny_excMatches_sub_self hC he HY (by decide+kernel) (codeAny_handlers_suite ?_);refine FX.yg nt.stays nt.jv nt.tr fun h7 rC=> ?_
  have I7:=yY h7 rC.stays (nt.slots.trans rC.slots);refine bF (G0 e fL _ mj H' D I7 (hh dx mj H' (by rw[I1.len,I.len]) hE)) (fun f s8 q=> ?_) fun _ _ z=>z.elim
  have bk:∀{gw:St} {H2:Hp},Inv (X.hand e) fL gw H2 s8->Inv X fL gw H2 s8:=fun J=>J.re (A':=X.A) (nk:=X.calm) (nD:=X.pn) (om:=X.xe) (ni:=fL) I.ok (fun p hp=>hp)
  show SP X fL D f s8;cases f with
  |next=>obtain⟨gv,H2,J,z⟩:=q;exact⟨gv,H2,bk J,z⟩
  |brk=>obtain⟨gv,H2,J,z⟩:=q;exact⟨gv,H2,bk J,z⟩
  |cont=>obtain⟨gv,H2,J,z⟩:=q;exact⟨gv,H2,bk J,z⟩
  |ret u=>obtain⟨v,gv,H2,J,r,z⟩:=q;exact⟨v,gv,H2,bk J,r,z⟩
 have I':Inv {X with xe:=XE,pn:=X.pn++fL} [] σ H s:=I.re (A':=X.A) (nk:=X.calm) (nD:=X.pn++fL) (om:=XE) (ni:=[]) pZ (fun p hp=>by simpa using hp);refine bF (rf XE (X.pn++fL) yC [] s σ H D I' hb) (fun f s1 q=> ?_) fun ev s1 z=>z
 cases f with
 |next=>obtain⟨gv,H2,J,z⟩:=q;exact dI ⟨gv,H2,back J,z⟩
 |brk=>obtain⟨gv,H2,J,z⟩:=q;exact⟨gv,H2,back J,z⟩
 |cont=>obtain⟨gv,H2,J,z⟩:=q;exact⟨gv,H2,back J,z⟩
 |ret u=>obtain⟨v,gv,H2,J,r,z⟩:=q;exact⟨v,gv,H2,back J,r,z⟩
theorem W7(kK:X.stack=X.env::X.outer)(hf:X.env.frame=some X.env.locals)(c:pR X.K C fI)(hg:Gl X x)(hm:X.mg x=some (.ref C))(hN:X.N.Nodup)(hi:X.N[i]? =some n)(Hn:X.env.scope.names.lookup n=some .local)
 (rf:∀(XE:Value->Shared->Prop) (pn:List (Addr×Obj)),nS (jF X.prog X.w C) {X with xe:=XE,pn:=pn} E->lZ {X with xe:=XE,pn:=pn} body tb)
 (G0:∀e:Addr,lZ (X.hand e) (b0::sG) th) (mV:(x==("__debug__":Str))=false:=by decide):
 PS X (.Try body [.ExceptHandler (some (.Name x np)) (some n) (b0::sG) uY] [] [] pos) (ZA C E i tb th):=by
 intro fL s σ H D I h;obtain⟨hb,hh⟩:=h;refine wpAny_Try_except ?_;have pZ:Cx.Ok {X with A:=X.A,calm:=X.calm,pn:=X.pn++fL,xe:=fun ev s1=>wpAny (model X.prog X.w) X.A (noteFrame ev X.env) (fun _ s2=>wpAny (model X.prog X.w) X.A (setFlight ev none) (fun _ s3=>wpAny (model X.prog X.w) X.A (handleBy ev X.env [.ExceptHandler (some (.Name x np)) (some n) (b0::sG) uY]) (SP X fL D) X.xe s3) X.xe s2) X.xe s1}:=I.ok.re I.ok.frames I.ok.hd;generalize HX:(fun ev s1=>wpAny (model X.prog X.w) X.A (noteFrame ev X.env) (fun _ s2=>wpAny (model X.prog X.w) X.A (setFlight ev none) (fun _ s3=>wpAny (model X.prog X.w) X.A (handleBy ev X.env [.ExceptHandler (some (.Name x np)) (some n) (b0::sG) uY]) (SP X fL D) X.xe s3) X.xe s2) X.xe s1)=XE at pZ;have back:∀{gw:St} {H':Hp} {s':Shared},Inv {X with xe:=XE,pn:=X.pn++fL} [] gw H' s'->Inv X fL gw H' s':=fun I'=>I'.re (A':=X.A) (nk:=X.calm) (nD:=X.pn) (om:=X.xe) (ni:=fL) I.ok (fun p hp=>by simpa using hp)
 have yC:nS (jF X.prog X.w C) {X with xe:=XE,pn:=X.pn++fL} E:=by
  intro Bl mj H1 s1 ev s' I1 hx;obtain⟨e,dx,B,H',rfl,F,hE⟩:=hx;show XE (.ref e) s';rw[<-HX];have fr:X.A.frames=some (X.env::X.outer):=by rw[<-kK];exact I.ok.frames
  have ff:s'.heap.FunFrames B (X.env::X.outer):=by rw[<-kK];exact F.jv
  refine FX.Oy (L:=X.env.locals) fr ff hf F.stays F.new F.tr fun h6 nt=> ?_
  have yY:∀h7:Heap,B.StaysIn h7->s'.heap.UpToSlots h7->Inv (X.hand e) fL mj H' {s' with heap:=h7}:=fun h7 st up=>by
   have oo:=yr F.un F.keep F.there st up I1.stack I1.uu;have J:Inv {X with xe:=XE,pn:=X.pn++fL} Bl mj H' {s' with heap:=h7}:=I1.Bh (s':={s' with heap:=h7}) (ch:=[]) F.os oo (F.gh.kept st) F.bare (fun b z=>absurd z (by simp));exact J.re (A':=X.A.mark (some (.ref e))) (nk:=false) (nD:=X.pn) (om:=fun _ _=>False) (ni:=fL) (I.ok.re I.ok.frames (fun z=>by cases z)) (fun p hp=>by simp at hp⊢;rcases hp with z|z<;>simp[z])
  have I6:=yY h6 nt.stays nt.slots;obtain⟨nm,qn,Nn,bs,sn,sub,ab,col,dd,k0,k1,k2,k3,k5,mN,hC,_⟩:=c.at_ (h:=h6) I6.jE;obtain⟨oe,vs,T,oT,ts,he,HY,_⟩:=nt.tr;refine wpAny_handleBy_cons (codeAny_handlers_test (uv I6 hg hm ?_ mV)) (by intro q;cases q);refine wpAny_excMatches_sub_self hC he HY (by decide+kernel) (codeAny_handlers_suite_as ?_);refine FX.yg nt.stays nt.jv nt.tr fun h7 rC=> ?_
  have I7:=yY h7 rC.stays (nt.slots.trans rC.slots);obtain⟨oe7,vs7,_,_,_,e71,e72,e73,e74,_⟩:=rC.tr;have xo:yV e C (some dx) false h7:=⟨oe7,vs7,e71,e72,e73,e74,fun z=>by cases z⟩
  have ne1:s1.heap.get? e=none:=by
   cases q:s1.heap.get? e with
   |none=>rfl
   |some o=>
    by_cases hm:e∈iP X.stack
    ·obtain⟨_,o2,z1,z2⟩:=I1.stack.mem hm;rw[q] at z1;cases z1;obtain⟨sl,z3⟩:=F.un.slot e o q (I1.uu e hm) hm (by simp);obtain⟨oe',vs',_,_,_,y1,_,_,y4,_⟩:=F.tr;rw[z3] at y1;cases y1;exact absurd y4 (z2 vs')
    ·obtain⟨o',z1⟩:=F.there e o q hm;rw[F.new] at z1;cases z1
  have nee:∀b o,s1.heap.get? b=some o->b≠e:=fun b o q z=>by rw[z,ne1] at q;cases q
  have I8:Inv (X.hand e) fL mj (fM H' e (XO e C (some dx) false)) {s' with heap:=h7}:=by
   have oo:=yr F.un F.keep F.there rC.stays (nt.slots.trans rC.slots) I1.stack I1.uu
   have un8:Un (iP X.stack) [] H1 (fM H' e (XO e C (some dx) false)) s1.heap h7:=⟨oo.keep,oo.slot,fun b o q n hx=>by rw[fT (nee b o q)];exact oo.free b o q n hx,oo.there,
    fun b xs q=>by rw[fT (gf (oo.mi b xs q) F.free)];exact oo.mi b xs q,fun b o xs q=>by rw[fT (gf (oo.lI b o xs q) F.free)];exact oo.lI b o xs q,
    fun b ps q=>by obtain⟨m1,z⟩:=oo.mE b ps q;exact⟨m1,by rw[fT (gf z F.free)];exact z⟩⟩
   have J:Inv {X with xe:=XE,pn:=X.pn++fL} Bl mj (fM H' e (XO e C (some dx) false)) {s' with heap:=h7}:=
    I1.Bh (s':={s' with heap:=h7}) (ch:=[]) F.os un8 ((F.gh.kept rC.stays).more (fun b u q _=>q) F.free (GZ xo)) F.bare (fun b z=>absurd z (by simp))
   exact J.re (A':=X.A.mark (some (.ref e))) (nk:=false) (nD:=X.pn) (om:=fun _ _=>False) (ni:=fL) (I.ok.re I.ok.frames (fun z=>by cases z)) (fun p hp=>by simp at hp⊢;rcases hp with z|z<;>simp[z])
  refine Au (X:=X.hand e) (i:=i) (v:=V.ref e) I8 hN hi (.inl Hn) Z (fun s9 I9=> ?_) (.inr Hn);refine bF (G0 e fL _ _ _ _ I9 (hh e dx mj H' (by rw[I1.len,I.len]) F.free hE)) (fun f s8 q=> ?_) fun _ _ z=>z.elim
  have bk:∀{gw:St} {H2:Hp},Inv (X.hand e) fL gw H2 s8->Inv X fL gw H2 s8:=fun J=>J.re (A':=X.A) (nk:=X.calm) (nD:=X.pn) (om:=X.xe) (ni:=fL) I.ok (fun p hp=>hp)
  have hp:(X.env.scope.kind==.class||(X.env.scope.kind==.module&&X.env.locals !=X.env.globals))=false:=by rw[I.ok.kind];rfl
  have gone:∀{gw:St} {H2:Hp} {R:Shared->Prop},Inv X fL gw H2 s8->(∀s',Inv X fL (gw.set i none) H2 s'->R s')->wpAny (model X.prog X.w) X.A (do bindName X.env n .none;unbindBehindTheSuite X.env n uY) (fun _ s'=>R s') X.xe s8:=fun{gw H2 R} J k=>by
   obtain⟨m,hn,_⟩:=J.loc;exact wpAny_nameGoes_keeps Hn hn hp fun h' v sW hs=>k _ (J.forget hN hi hn sW hs)
  cases f with
  |next=>obtain⟨gv,H2,J,z⟩:=q;exact gone (bk J) fun s' J'=>⟨_,H2,J',z⟩
  |brk=>obtain⟨gv,H2,J,z⟩:=q;exact gone (bk J) fun s' J'=>⟨_,H2,J',z⟩
  |cont=>obtain⟨gv,H2,J,z⟩:=q;exact gone (bk J) fun s' J'=>⟨_,H2,J',z⟩
  |ret u=>obtain⟨v,gv,H2,J,r,z⟩:=q;exact gone (bk J) fun s' J'=>⟨v,_,H2,J',r,z⟩
 have I':Inv {X with xe:=XE,pn:=X.pn++fL} [] σ H s:=I.re (A':=X.A) (nk:=X.calm) (nD:=X.pn++fL) (om:=XE) (ni:=[]) pZ (fun p hp=>by simpa using hp);refine bF (rf XE (X.pn++fL) yC [] s σ H D I' hb) (fun f s1 q=> ?_) fun ev s1 z=>z
 cases f with
 |next=>obtain⟨gv,H2,J,z⟩:=q;exact dI ⟨gv,H2,back J,z⟩
 |brk=>obtain⟨gv,H2,J,z⟩:=q;exact⟨gv,H2,back J,z⟩
 |cont=>obtain⟨gv,H2,J,z⟩:=q;exact⟨gv,H2,back J,z⟩
 |ret u=>obtain⟨v,gv,H2,J,r,z⟩:=q;exact⟨v,gv,H2,back J,r,z⟩
end
end L2
namespace FX
open PySem
section
variable {prog:Program} {w:World} {A:Around} {R:Result->Shared->Prop} {I:Addr} {fp wr:List Addr} {n:Nat} {P:Nat->Value->Prop} {St:Nat->Heap->Prop} {S:Addr} {d:Value}
theorem AQ:(toString "max"++toString ".loop":String)="max.loop":=by decide
theorem Gv(W:Walks prog w A.in1 I fp wr n P St)(bt:Nat->Nat->Bool)(yZ:CmpOf prog w A.in1 .Gt P bt)(rD:S∉fp):
 ∀(k j:Nat) (s:Shared) (u:Value) (c:Nat),n-(j+1)=k->j+1<=n->St (j+1) s.heap->P (argBest bt j) u->s.heap.get? S=some {cls:=.type "list",dict:=none,data:=.seq #[u,u] c,slots:= #[]}->
  (∀v h' tk,P (argBest bt (n-1)) v->(∀b o,b∉wr->b≠S->s.heap.get? b=some o->h'.get? b=some o)->R (.ok (.ret v)) {s with heap:=h',toks:=tk})->
  codeAny (model prog w) A (.builtin "max.loop" ⟨[.ref I,.none,.ref S],[("default",d)]⟩) R s
 |0,j,s,u,c,e0,e1,st,pu,eS,fin=>by
  have ej:j+1=n:=by omega
  have nw:S∉wr:=fun z=>rD (W.sub _ z)
  refine eP fz (by
   rw[dW cz _];show wpAny _ A.in1 (seqItems? (.ref S)>>=_) _ _ s
   refine ay (d7 eS Z (by
    show wpAny _ A.in1 (tryCatch (pyNext (.ref I)) _>>=_) _ _ s
    refine ay (fi (W.done s _ _ (ej▸st) fun h1 tk kp=>(by
     have tG:=kp S _ nw eS;show wpAny _ A.in1 (updateSeq S (fun _=> #[])>>=_) _ _ _;refine ay (wpAny_updateSeq tG Z (ay (wpAny_letGo (aY ?_))));exact fin u _ tk (by rw[<-ej];exact pu) fun b o nb ns e=>(bq _ _ (cI ns)).trans (kp b o nb e)))))))
 |k+1,j,s,u,c,e0,e1,st,pu,eS,fin=>by
  have lt:j+1<n:=by omega
  have nw:S∉wr:=fun z=>rD (W.sub _ z)
  refine eP fz (by
   rw[dW cz _];show wpAny _ A.in1 (seqItems? (.ref S)>>=_) _ _ s
   refine ay (d7 eS Z (by
    show wpAny _ A.in1 (tryCatch (pyNext (.ref I)) _>>=_) _ _ s
    refine ay (fi (W.item (j+1) s _ _ lt st fun v h1 tk pv B9 kp=>(by
     have tG:=kp S _ nw eS;show wpAny _ A.in1 (tryCatch (holding [v,v] (richCompare .Gt v u>>=_)) _>>=_) _ _ _;refine ay (fi (dL (ay (yZ (j+1) (argBest bt j) v u _ _ _ pv pu ?_))));refine ay (dL (bR (ay (wpAny_letGo (aY ?_)))));cases eb:bt (j+1) (argBest bt j) with
     |true=>
      simp only[dz];refine ay (wpAny_updateSeq tG Z (ay (wpAny_letGo ?_)));rw[AQ]
      refine aY ⟨plainId_quiet cz _,Gv W bt yZ rD k (j+1) _ v _ (by omega) lt (W.frame _ _ _ B9 fun b hb o e=>(bq _ _ (fun z:S=b=>rD (by rw[z];exact hb))).trans e)
       (by simp only[argBest,eb,dz];exact pv) (b6 _ tG Z) fun v2 h2 za p2 zb=> ?_⟩
      exact fin v2 h2 za p2 fun b o nb ns e=>zb b o nb ns ((bq _ _ (cI ns)).trans (kp b o nb e))
     |false=>
      simp only[bo,cW];refine ay (wpAny_letGo ?_);rw[AQ];refine aY ⟨plainId_quiet cz _,Gv W bt yZ rD k (j+1) _ u c (by omega) lt B9 (by simp only[argBest,eb,bo,cW];exact pu) tG fun v2 h2 za p2 zb=> ?_⟩;exact fin v2 h2 za p2 fun b o nb ns e=>zb b o nb ns (kp b o nb e)))))))
theorem W8(W:Walks prog w A.in1 I fp wr n P St)(bt:Nat->Nat->Bool)(yZ:CmpOf prog w A.in1 .Gt P bt)(rD:S∉fp){s:Shared}{c:Nat}(st:St 0 s.heap)(eS:s.heap.get? S=some {cls:=.type "list",dict:=none,data:=.seq #[] c,slots:= #[]})
 (fin:∀v h' tk,(if n=0 then v=d else P (argBest bt (n-1)) v)->(∀b o,b∉wr->b≠S->s.heap.get? b=some o->h'.get? b=some o)->R (.ok (.ret v)) {s with heap:=h',toks:=tk}):
 codeAny (model prog w) A (.builtin "max.loop" ⟨[.ref I,.none,.ref S],[("default",d)]⟩) R s:=by
 have nw:S∉wr:=fun z=>rD (W.sub _ z)
 by_cases hn:n=0
 ·refine eP fz (by
   rw[dW cz _];show wpAny _ A.in1 (seqItems? (.ref S)>>=_) _ _ s
   refine ay (d7 eS Z (by
    show wpAny _ A.in1 (tryCatch (pyNext (.ref I)) _>>=_) _ _ s
    refine ay (fi (W.done s _ _ (hn▸st) fun h1 tk kp=>(by
     show wpAny _ A.in1 (rule _>>=_) _ _ _;refine ay (wpAny_rule (aY ?_));exact fin d _ tk (by rw[aw hn]) fun b o nb ns e=>kp b o nb e))))))
 ·refine eP fz (by
   rw[dW cz _];show wpAny _ A.in1 (seqItems? (.ref S)>>=_) _ _ s
   refine ay (d7 eS Z (by
    show wpAny _ A.in1 (tryCatch (pyNext (.ref I)) _>>=_) _ _ s
    refine ay (fi (W.item 0 s _ _ (Nat.pos_of_ne_zero hn) st fun v h1 tk pv B9 kp=>(by
     have tG:=kp S _ nw eS;show wpAny _ A.in1 (updateSeq S (fun _=> #[v,v])>>=_) _ _ _;refine ay (wpAny_updateSeq tG Z ?_);rw[AQ];refine aY ⟨plainId_quiet cz _,Gv W bt yZ rD _ 0 _ v _ Z (Nat.pos_of_ne_zero hn) (W.frame _ _ _ B9 fun b hb o e=>(bq _ _ (fun z:S=b=>rD (by rw[z];exact hb))).trans e) pv (b6 _ tG Z) fun v2 h2 za p2 zb=> ?_⟩;exact fin v2 h2 za (by rw[am hn];exact p2) fun b o nb ns e=>zb b o nb ns ((bq _ _ (cI ns)).trans (kp b o nb e))))))))
end
section
variable {prog:Program} {w:World} {A:Around} {E:Value->Shared->Prop} {s:Shared} {l:Addr} {xs:Array (Int×Tok)}
theorem Yj(a d:Value):argsOk "max" ⟨[a],[("default",d)]⟩:=by unfold argsOk;kernel_rfl
theorem Yk{Q:Value->Shared->Prop}{d:Value}(hh:A.handled=none)(hl:s.heap.IsList l (intItems xs))
 (fin:∀v h' tk,(if xs.size=0 then v=d else(intItems xs)[argBest (fun i j=>decide (numAt xs i>numAt xs j)) (xs.size-1)]? =some v)->(∀b o,s.heap.get? b=some o->h'.get? b=some o)->Q v {s with heap:=h',toks:=tk}):
 wpAny (model prog w) A (call (.builtin "max") [.ref l] [("default",d)]) Q E s:=by
 have body:wpAny (model prog w) A.in1 (Builtin.«max» ⟨[.ref l],[("default",d)]⟩) (fun fin s'=>match fin with
  |.done f=>(match (Except.ok f:Result) with|.ok (.ret v)=>Q v s'|.ok _=>False|.error e=>E e s')
  |.again c'=>c'.quiet=true/\codeAny (model prog w) A c' (fun r s'=>match r with|.ok (.ret v)=>Q v s'|.ok _=>False|.error e=>E e s') s') E s:=by
  show wpAny _ A.in1 (Builtin.Builtins.bindParams "max" ["key","default"] 0 ⟨[],[("default",d)]⟩>>=_) _ _ s;refine ay (wpAny_of_eq (show Builtin.Builtins.bindParams "max" ["key","default"] 0 ⟨[],[("default",d)]⟩=pure [none,some d] from Z) (ay (aY (ay ?_))));refine iter_intList hl fun s2 e st tu hlI=> ?_
  subst e;have nf:(s.heap.push {cls:=.type "list_iterator",data:=.fields #[.ref l,.int 0 0]}).objs.size∉ [s.heap.objs.size,l]:=fun hm=>bL _ (tu _ hm)
  refine ay (dQ ?_);rw[AQ];have W:=Walks.list (prog:=prog) (w:=w) (A:=A.in1) hh s.heap.objs.size l hlI (intItems xs);refine aY ⟨plainId_quiet cz _,W8 W _ (CmpOf.ints_gt (numAt xs) (fun _ _=>intItems_at)) nf (W.frame _ _ _ st fun b _ o e=>aC _ e) (aO _ Z) fun v h' tk hP kp=> ?_⟩;refine fin v h' tk (by simpa [intItems] using hP) (old_kept fun b o nb e=>kp b o nb (ba (aK e)) (aC _ e))
 refine wpAny_call (dc F.plain_max F.entry_max ?_);have ok:=Yj (.ref l) d;simp only[checkBuiltinCall,F.kind_max];cases sg:Manifest.signature? "max" with
 |none=>exact aY body
 |some PU=>
  simp only[argsOk,sg] at ok;have h2:Bind.checkArgs "max" PU ⟨[.ref l],[("default",d)]⟩=pure ():=ok;show wpAny _ A.in1 (Bind.checkArgs "max" PU ⟨[.ref l],[("default",d)]⟩) _ _ s;rw[h2];exact aY body
end
end FX
namespace L2
open PySem PySem.Spec PyProof.Rows
section
variable {X:Cx} {x:Str} {e:Expr} {es:List Expr} {jJ:List Keyword} {ta tk:TA} {p pos:Pos}
theorem Lp:∀{ns:List Int} {us:List Value},gF (ns.map V.int) us->∃xs:Array (Int×Tok),us.toArray=intItems xs/\xs.size=ns.length/\∀i,i<ns.length->numAt xs i=ns.getD i 0
 |[],us,r=>by
  cases r;exact⟨#[],by simp[intItems],Z,fun i h=>absurd h (by simp)⟩
 |n::ns,us,r=>by
  cases r with
  |cons r1 r2=>
   obtain⟨t,rfl⟩:=r1;obtain⟨xs,e1,e2,e3⟩:=Lp r2;refine⟨#[(n,t)]++xs,?_,by simp[e2];omega,fun i hi=> ?_⟩
   ·rename_i tH;have:(Value.int n t::tH).toArray= #[Value.int n t]++tH.toArray:=by simp
    rw[this,e1];simp[intItems]
   ·cases i with
    |zero=>
     unfold numAt;rw[Array.getElem?_append_left (by simp)];rfl
    |succ i=>
     have:=e3 i (by simpa using hi);rw[List.getD_cons_succ,<-this];unfold numAt;rw[Array.getElem?_append_right (by simp)];simp
def aau(K:PySem.W.Frag)(ta tk:TA):TE:=fun σ H Q=>ta σ H fun xs H1=>tk σ H1 fun ys H2=>∃(a:Addr) (ns:List Int) (z:Int),xs=[.ref a]/\ys=[.int z]/\fR K H2 a (ns.map V.int)/\
 ∀m,(ns=[]->m=z)->(ns≠ []->m∈ns/\∀y,y∈ns->y<=m)->Q (.int m) H2
theorem Gw(hc:X.calm=true)(hg:Gl X "max")(hm:X.mg "max"=none)(ha:PA X (e::es) ta)(hk:PK X jJ tk)(vd:(backToKw pos (keywordEach jJ X.env)).filterMap (·.1)=[("default":Str)]:=by rfl)
 (he:backTo pos (starEach (e::es) X.env)=(false,eval e X.env)::backTo pos (starEach es X.env):=by rfl) (jp:(backTo pos (starEach (e::es) X.env)).any (·.1)=false:=by rfl)
 (p4:(backToKw pos (keywordEach jJ X.env)).all (·.1.isSome)=true:=by rfl) (zc:(backToKw pos (keywordEach jJ X.env)).any (·.1.isNone)=false:=by rfl):
 PE X (.Call (.Name "max" p) (e::es) jJ pos) (aau X.K ta tk):=by
 intro fL s σ H Q I h;refine bH (qr I hg hm fB (callWith_kw ?_ he jp p4 zc));refine gm (ha pos fL s σ H _ I h) fun us s1 ⟨vs,H1,I1,r1,q1⟩=>gm (hk pos fL s1 σ H1 _ I1 q1) fun ws s2 ⟨zs,H2,I2,r2,a,ns,z,e1,e2,hs,q⟩=> ?_
 subst e1 e2;rw[vd,gF.yy r1];obtain⟨u,rfl,t,rfl⟩:=vals1 r2;obtain⟨fU,rv,hl,_⟩:=I2.list hs;obtain⟨xs,x1,x2,x3⟩:=Lp rv;show wpAny _ _ (call (.builtin "max") [.ref a] [("default",.int z t)]) _ _ _;refine FX.Yk (xs:=xs) (I2.ok.hd hc) (by rw[<-x1];exact hl.isList) fun v h' pY hv kp=> ?_
 have I3:=I2.kept (t':=pY) kp
 by_cases hn:xs.size=0
 ·rw[aw hn] at hv;subst hv;have e0:ns=[]:=aM.mp (by omega);exact⟨.int z,H2,I3,⟨_,Z⟩,q z (fun _=>rfl) (fun z=>absurd e0 z)⟩
 ·rw[am hn] at hv;obtain⟨t2,rfl⟩:=intItems_at hv;obtain⟨h1,h2⟩:=argBest_gt (numAt xs) (xs.size-1);refine⟨.int _,H2,I3,⟨_,Z⟩,q _ (fun z=>absurd (by rw[x2,z];rfl) hn) fun _=>⟨?_,fun y hy=> ?_⟩⟩
  ·rw[x3 _ (by omega)];exact PySem.getD_mem (by omega)
  ·obtain⟨j,hj,rfl⟩:=mem_getD hy;rw[<-x3 j hj];exact h2 j (by omega)
end
def wj(P:Program)(w:World)(K:PySem.W.Frag)(a:Addr)(kvs:List (Key×V)):Prop:=
 (a==sysModules)=false/\∃vs,KV kvs vs/\∀h:Heap,K.In h->h.DictOf (k8 P w) a vs
def OB(kvs:List (Key×V))(ty:TE):TE:=fun σ H Q=>ty σ H fun y H1=>∃k v,y=kV k/\i5 kvs k=some v/\Q v H1
def Yl(kvs:List (Key×V))(ty:TE):TE:=fun σ H Q=>ty σ H fun y H1=>∃k,y=kV k/\Q (.bl (!(i5 kvs k).isSome)) H1
section
variable {X:Cx} {o i e:Expr} {pos:Pos} {ty:TE} {a:Addr} {kvs:List (Key×V)}
theorem qZ(hk:wj X.prog X.w X.K a kvs)(ho:PE X o (tC (.ref a)))(hi:PE X i ty)(hs:Hk i):PE X (.Subscript o i pos) (OB kvs ty):=by
 intro fL s σ H Q I h;refine Nu PySem.F.slot_dict_getitem.lookup hs (gm (ho fL s σ H (fun x H1=>x=.ref a/\OB kvs ty σ H1 Q) I ⟨Z,h⟩) fun u s1 ⟨x,H1,I1,rx,ex,q1⟩=>gm (hi fL s1 σ H1 _ I1 q1) fun iv s2 ⟨y,H2,I2,ry,k,v,ey,l,q2⟩=> ?_);subst ex ey;obtain rfl:u=Value.ref a:=rx;obtain⟨hd,vs,rel,dd⟩:=hk;have dd:=dd s2.heap I2.jE;refine⟨dd.typeIs,?_⟩;obtain⟨w',hw,og⟩:=ku.some_of (v:=v) (o:=valueAt vs k) (by rw[<-l];exact rel.val k);exact wpAny_getItem_of (uJ ry) dd.mapOf hw ⟨v,H2,I2.tok _,og,q2⟩
theorem Wa(hk:wj X.prog X.w X.K a kvs)(hi:PE X i ty)(ho:PE X o (tC (.ref a))):PC X .NotIn i o (Yl kvs ty):=by
 intro fL s σ H Q I h;refine gm (hi fL s σ H _ I h) fun iv s1 ⟨y,H1,I1,ry,k,ey,q1⟩=>gm (ho fL s1 σ H1 (fun x H2=>x=.ref a/\Q (.bl (!(i5 kvs k).isSome)) H2) I1 ⟨Z,q1⟩) fun u s2 ⟨x,H2,I2,rx,ex,q2⟩=> ?_
 subst ex ey;obtain rfl:u=Value.ref a:=rx;obtain⟨hd,vs,rel,dd⟩:=hk;have dd:=dd s2.heap I2.jE;refine wpAny_notIn_of (uJ ry) hd dd.mapOf ?_;rw[<-(rel.val k).Ai];exact⟨.bl (!(i5 kvs k).isSome),H2,I2.tok _,Z,q2⟩
end
section
variable {X:Cx}
def rE:V->Bool
 |.int _=>true
 |_=>false
theorem Lq:mP X (.builtin "isinstance") (fun xs H Q=>∃x,xs=[x,.ty "int"]/\((∃i,x=.int i)\/∃z,x=.str z)/\Q (.bl (rE x)) H):=by
 intro fL s σ H xs us Q I r h;obtain⟨x,rfl,hx,q⟩:=h;cases r with
 |cons r1 r2=>
  cases r2 with
  |cons r3 r4=>
   cases r4;cases r3;rcases hx with⟨i,rfl⟩|⟨z,rfl⟩
   ·obtain⟨t,rfl⟩:=r1;exact IsiPair.int_int ⟨.bl true,H,I,Z,q⟩
   ·obtain⟨t,rfl⟩:=r1;exact IsiPair.str_int ⟨.bl false,H,I.tok _,Z,q⟩
theorem xZ:wR X "list.count" (fun x xs H Q=>∃(a:Addr) (ns:List Int) (k:Int),x=.ref a/\xs=[.int k]/\fR X.K H a (ns.map V.int)/\Q (.int (ns.count k:Nat)) H):=by
 intro fL s σ H x xs v us Q I rx rs h;obtain⟨a,ns,k,rfl,rfl,hs,q⟩:=h;cases rx;obtain⟨u,rfl,ru⟩:=gF.one rs;obtain⟨t,rfl⟩:=ru;obtain⟨fU,rv,p,hz⟩:=I.list hs;exact count_list_ints (ns:=ns) p.isList rv.ints ⟨.int _,H,I.tok _,⟨_,Z⟩,q⟩
end
abbrev ZC(P:Program)(w:World)(K:PySem.W.Frag)(mg:Str->Option Value)(base:Heap)(A:Around)(i:Nat)(t:TA):TE:=fun σ H Q=>∃f,σ[i]? =some (some (.ref f))/\PySem.W.keepIn K (.ref f)=true/\
 t σ H fun vs H1=>∃k fd ps sp,gK P w K mg base gT k f fd ps sp/\jN k A/\Binds K fd ps []/\sp vs H1 Q E0
theorem W9{X:Cx}{i:Nat}{x:Str}{p pos:Pos}{e:Expr}{es:List Expr}{t:TA}(hv:PE X (.Name x p) (iO i))(ha:PA X (e::es) t)(he:starEach (e::es) X.env=(false,eval e X.env)::starEach es X.env:=by rfl)
 (jp:(backTo pos (starEach es X.env)).any (·.1)=false:=by rfl):PE X (.Call (.Name x p) (e::es) [] pos) (ZC X.prog X.w X.K X.mg X.base X.A i t):=by
 intro fL s σ H Q I h;obtain⟨f,hf,hk,h⟩:=h;refine bH (gm (hv fL s σ H (fun x H1=>x=.ref f/\H1=H) I ⟨.ref f,hf,Z,Z⟩) fun u s1 ⟨x,H1,I1,rx,ex,eH⟩=> ?_);subst ex eH;obtain rfl:u=Value.ref f:=rx;refine dG (h₀:=X.base) I1.ok.mod.u1 hk (gm (ha pos fL s1 σ H1 _ I1 h) fun us s2 ⟨vs,H2,I2,r,k,fd,ps,sp,F,hr,hb,q⟩=>⟨I2.jE,?_⟩) he jp;exact A7 (ki:=[]) (ds:=[]) F hr hb .nil gG I2 r (by rw[bc];exact q)
theorem MO:∀ns ms:List Int,PyData.eqvAll (ns.map PyData.int) (ms.map PyData.int)=decide (ns=ms)
 |[],[]=>by simp[PyData.eqvAll]
 |[],m::ms=>by simp[PyData.eqvAll]
 |n::ns,[]=>by simp[PyData.eqvAll]
 |n::ns,m::ms=>by
  rw[aB,aB,PyData.eqvAll,MO ns ms,PyData.eqv]
  by_cases h:n=m
  ·subst h
   by_cases h2:ns=ms
   ·subst h2;simp
   ·simp[h2]
  ·simp[h]
theorem FV:∀ns:List Int,PyData.canLayAll0 (ns.map PyData.int)=true/\PyData.depthAll (ns.map PyData.int)=0
 |[]=>⟨by simp[PyData.canLayAll0],by simp[PyData.depthAll]⟩
 |n::ns=>by
  obtain⟨h1,h2⟩:=FV ns;exact⟨by rw[aB,PyData.canLayAll0,h1];simp[PyData.canLay0],by rw[aB,PyData.depthAll,h2];simp[PyData.depth]⟩
theorem Gx{K:PySem.W.Frag}{H:Hp}:∀ns:List Int,uI K H (ns.map V.int) (ns.map PyData.int)
 |[]=>.nil
 |n::ns=>.cons (.int n) (Gx ns)
def abt:R2:=fun x y H Q=>∃(a b:Addr) (ns ms:List Int),x=.ref a/\y=.ref b/\H a=some (.lst (ns.map V.int))/\H b=some (.lst (ms.map V.int))/\Q (.bl (!decide (ns=ms))) H
theorem ZD{X:Cx}(hu:X.A.units+64<cLine):jo X (compareOp .NotEq) abt:=by
 intro fL s σ H x y v u Q I rx ry h;obtain⟨a,b,ns,ms,rfl,rfl,ha,hb,q⟩:=h
 have sh:∀ns:List Int,SeqAt.shaped (.list (ns.map PyData.int))=true:=fun ns=>by
  unfold SeqAt.shaped;rw[PyData.canLay0,(FV ns).1,PyData.depth,(FV ns).2];rfl
 refine Zo hu fL s σ H _ _ v u Q I rx ry ⟨.list (ns.map PyData.int),.list (ms.map PyData.int),.lst (fR.of ha) (Gx ns),.lst (fR.of hb) (Gx ms),sh ns,sh ms,?_⟩;rw[PyData.eqv,MO];exact q
end L2
namespace FX
open PySem
open Sem (wp)
open AutoSeq1 (wpAny_loadPart')
section
variable {prog:Program} {w:World} {A:Around} {E:Value->Shared->Prop} {s:Shared}
theorem OC{T newId GN:String}{Bn Bi:Builtin}{args:List Value}{kw:List (Str×Value)}{S:PySem.Spec}{Q Q₁:Value->Shared->Prop}(ft:TypeCalled T newId GN)
 (hct:checkTypeCall T ⟨args,kw⟩=pure ()) (hcn:checkBuiltinCall newId ⟨.type T::args,kw⟩=pure ())
 (ZE:entryFor table newId=some Bn) (ZF:entryFor table GN=some Bi) (g:Meets (Bn ⟨.type T::args,kw⟩) S)
 (h:S A.in1 (wants Q₁ E) s)
 (Bm:∀obj iK,Q₁ obj iK->iK.TypeIs obj T/\argsOk GN ⟨obj::args,kw⟩/\∃Si,Meets (Bi ⟨obj::args,kw⟩) Si/\Si A.in1 (wants (fun r jM=>r=.none/\Q obj jM) E) iK):
 wpAny (model prog w) A (call (.type T) args kw) Q E s:=by
 obtain⟨c,tl,afe⟩:=ft.mro;have afb:=ft.made;have wC:=ft.sub;refine wpAny_call (codeAny_of_tree ?_);show wpAny _ _ (callAny (.type T) _) _ _ _;refine aY ⟨Code.quiet_builtin _ (by decide+kernel),eP F.entry_type_call ?_⟩;rw[Around.under_plain (weight_type_call_type T args kw) (units_type_call_type T args kw)];have h1:=ft.notType;have h2:=ft.canCreate
 repeat (any_goals (first|assumption|wp_step))
 refine eZ (dc ft.plain ZE (wpAny_of_eq hcn (g prog w A.in1 _ s h))) fun r iK hr=> ?_
 cases r with
 |error e=>exact hr
 |ok fl=>
  cases fl with
  |ret obj=>
   obtain⟨hT,gh,Si,gi,Ca⟩:=Bm _ _ hr;have hli:=ft.init.lookup;have hbi:=ft.init.bind obj
   repeat (any_goals (first|assumption|wp_step))
   refine eZ (dc ft.init.plain ZF (ft.init.check _ _ _ _ _ _ _ _ hT gh (gi prog w A.in1 _ iK Ca))) fun abu jM G1=> ?_
   cases abu with
   |error e=>exact G1
   |ok aav=>
    cases aav with
    |ret r=>
     obtain⟨rfl,hq⟩:=G1
     repeat (any_goals (first|assumption|wp_step))
    |_=>exact G1.elim
  |_=>exact hr.elim
theorem J4(a b:Value):checkTypeCall "enumerate" ⟨[a],[("start",b)]⟩=pure ():=by kernel_rfl
theorem Ko(a b:Value):checkBuiltinCall "enumerate.__new__" ⟨[.type "enumerate",a],[("start",b)]⟩=pure ():=by kernel_rfl
theorem L8(obj a b:Value):argsOk "object.__init__" ⟨[obj,a],[("start",b)]⟩:=by
 unfold argsOk;rw[signature?_of (id:="object.__init__") (n:=['_','_','t','i','n','i','_','_']) (o:=['t','c','e','j','b','o']) (by kernel_rfl) F.owner_object];kernel_rfl
theorem NA{T newId:String}{self a b:Value}(hl:typeLookup (.type T) "__init__"=pure (some (.builtin "object.__init__")))
 (hm:Bind.madeBy (.type T)=pure (some newId)) (lm:(some newId !=some "object.__new__")=true):
 Meets (Builtin.«object.__init__» ⟨[self,a],[("start",b)]⟩) (fun _ R s=>s.TypeIs self T/\R (.ok (.ret .none)) s):=by
 refine Meets.of_wp fun prog w A R s hs=> ?_
 obtain⟨hT,hq⟩:=hs
 repeat (any_goals (first|assumption|wp_step))
 exact⟨_,Z,hq⟩
end
theorem Tc(l:Addr)(items:Array Value)(n:Nat)(ve:Option Addr)(sl:Array (Option Value))(t:Tok):
 Meets (Builtin.«enumerate.__new__» ⟨[.type "enumerate",.ref l],[("start",.int 1 t)]⟩) (fun _ R s=>s.heap.get? l=some {cls:=.type "list",dict:=ve,data:=.seq items n,slots:=sl}/\
  R (.ok (.ret (.ref (s.heap.push {cls:=.type "list_iterator",data:=.fields #[.ref l,.int 0 0]}).objs.size)))
    {s with heap:=(s.heap.push {cls:=.type "list_iterator",data:=.fields #[.ref l,.int 0 0]}).push {cls:=.type "enumerate",data:=.fields #[.none,.bool false,.ref s.heap.objs.size,rawInt 1,.none,.none]}}):=
 .of_wp fun prog w A R s h=>by
  obtain⟨hp,g,d,tk,os⟩:=s;obtain⟨hl,h⟩:=h;have wC:=sub_enumerate;have hL:Heap.IsList (Shared.heap ⟨hp,g,d,tk,os⟩) l items:=⟨_,hl,Z,n,Z⟩
  wp_walk using wpAny_loadPart' hl
  refine wpAny_stack_any fun st=>aY ?_
  split
  ·rename_i c _ _ _ _ _;cases (c==Value.type "enumerate")
   ·wp_walk using wpAny_loadPart' hl,dR hL
    exact⟨_,Z,h⟩
   ·wp_walk using wpAny_loadPart' hl,dR hL
    exact⟨_,Z,h⟩
  ·wp_walk using wpAny_loadPart' hl,dR hL
   exact⟨_,Z,h⟩
theorem TX(l:Addr)(items:Array Value)(n:Nat)(ve:Option Addr)(sl:Array (Option Value))(t:Tok):
 Meets (Builtin.«enumerate.__new__» ⟨[.type "enumerate",.ref l],[("start",.int 1 t)]⟩) (fun _ R s=>s.heap.get? l=some {cls:=.type "tuple",dict:=ve,data:=.seq items n,slots:=sl}/\
  R (.ok (.ret (.ref (s.heap.push {cls:=.type "tuple_iterator",data:=.fields #[.ref l,.int 0 0]}).objs.size)))
    {s with heap:=(s.heap.push {cls:=.type "tuple_iterator",data:=.fields #[.ref l,.int 0 0]}).push {cls:=.type "enumerate",data:=.fields #[.none,.bool false,.ref s.heap.objs.size,rawInt 1,.none,.none]}}):=
 .of_wp fun prog w A R s h=>by
  obtain⟨hp,g,d,tk,os⟩:=s;obtain⟨hl,h⟩:=h;have wC:=sub_enumerate;have hL:Heap.IsTuple (Shared.heap ⟨hp,g,d,tk,os⟩) l items:=⟨_,hl,Z,n,Z⟩
  wp_walk using wpAny_loadPart' hl
  refine wpAny_stack_any fun st=>aY ?_
  split
  ·rename_i c _ _ _ _ _;cases (c==Value.type "enumerate")
   ·wp_walk using wpAny_loadPart' hl,eQ hL
    exact⟨_,Z,h⟩
   ·wp_walk using wpAny_loadPart' hl,eQ hL
    exact⟨_,Z,h⟩
  ·wp_walk using wpAny_loadPart' hl,eQ hL
   exact⟨_,Z,h⟩
section
variable {prog:Program} {w:World} {A:Around} {E:Value->Shared->Prop} {s:Shared}
theorem call_enum_list{l:Addr}{items:Array Value}{t:Tok}{Q:Value->Shared->Prop}(hL:s.heap.IsList l items)
 (h:∀h',IsEnum h' (s.heap.objs.size+1) s.heap.objs.size 1 .none->h'.IsListIter s.heap.objs.size l 0->h'.objs.size=s.heap.objs.size+2->
   (∀b o,s.heap.get? b=some o->h'.get? b=some o)->Q (.ref (s.heap.objs.size+1)) {s with heap:=h'}):
 wpAny (model prog w) A (call (.type "enumerate") [.ref l] [("start",.int 1 t)]) Q E s:=by
 obtain⟨⟨c,ve,dt,sl⟩,hl,hc,n,hd⟩:=hL;replace hc:c=.type "list":=hc;replace hd:dt=.seq items n:=hd;subst hc hd
 refine OC (Q₁:=fun obj iK=>iK.TypeIs obj "enumerate"/\Q obj iK) cX (J4 _ _) (Ko _ _) F.entry_enumerate_new F.entry_object_init (Tc l items n ve sl t) ⟨hl,?_⟩
  fun obj iK hq=>⟨hq.1,L8 obj _ _,_,NA cX.init.lookup cX.made (by decide),hq.1,Z,hq.2⟩
 have hz:(s.heap.push {cls:=.type "list_iterator",data:=.fields #[.ref l,.int 0 0]}).objs.size=s.heap.objs.size+1:=bz ..;show _/\_;rw[hz]
 have he:IsEnum ((s.heap.push {cls:=.type "list_iterator",data:=.fields #[.ref l,.int 0 0]}).push
  {cls:=.type "enumerate",data:=.fields #[.none,.bool false,.ref s.heap.objs.size,rawInt 1,.none,.none]}) (s.heap.objs.size+1) s.heap.objs.size 1 .none:=by
  rw[<-hz];exact aO _ Z
 refine⟨⟨_,he,Z⟩,h _ he ⟨_,aC _ (aO _ Z),Z,Z⟩ (by rw[bz,hz]) fun b o e=>aC _ (aC _ e)⟩
theorem Td{l:Addr}{items:Array Value}{t:Tok}{Q:Value->Shared->Prop}(hL:s.heap.IsTuple l items)
 (h:∀h',IsEnum h' (s.heap.objs.size+1) s.heap.objs.size 1 .none->h'.IsTupleIter s.heap.objs.size l 0->h'.objs.size=s.heap.objs.size+2->
   (∀b o,s.heap.get? b=some o->h'.get? b=some o)->Q (.ref (s.heap.objs.size+1)) {s with heap:=h'}):
 wpAny (model prog w) A (call (.type "enumerate") [.ref l] [("start",.int 1 t)]) Q E s:=by
 obtain⟨⟨c,ve,dt,sl⟩,hl,hc,n,hd⟩:=hL;replace hc:c=.type "tuple":=hc;replace hd:dt=.seq items n:=hd;subst hc hd
 refine OC (Q₁:=fun obj iK=>iK.TypeIs obj "enumerate"/\Q obj iK) cX (J4 _ _) (Ko _ _) F.entry_enumerate_new F.entry_object_init (TX l items n ve sl t) ⟨hl,?_⟩
  fun obj iK hq=>⟨hq.1,L8 obj _ _,_,NA cX.init.lookup cX.made (by decide),hq.1,Z,hq.2⟩
 have hz:(s.heap.push {cls:=.type "tuple_iterator",data:=.fields #[.ref l,.int 0 0]}).objs.size=s.heap.objs.size+1:=bz ..;show _/\_;rw[hz]
 have he:IsEnum ((s.heap.push {cls:=.type "tuple_iterator",data:=.fields #[.ref l,.int 0 0]}).push
  {cls:=.type "enumerate",data:=.fields #[.none,.bool false,.ref s.heap.objs.size,rawInt 1,.none,.none]}) (s.heap.objs.size+1) s.heap.objs.size 1 .none:=by
  rw[<-hz];exact aO _ Z
 refine⟨⟨_,he,Z⟩,h _ he ⟨_,aC _ (aO _ Z),Z,Z⟩ (by rw[bz,hz]) fun b o e=>aC _ (aC _ e)⟩
theorem Sj{it l:Addr}{i:Nat}{items}{x:Value}{Q:Value->Shared->Prop}(kA:s.heap.IsTupleIter it l i)
 (hl:s.heap.IsTuple l items) (hx:items[i]? =some x)
 (hQ:∀h',h'.IsTupleIter it l (i+1)->Heap.SameBut it s.heap h'->Q x {s with heap:=h'}):
 wpAny (model prog w) A (Builtin.SmallTypes.nextOf (.ref it)) Q E s:=by
 obtain⟨o,ho,hc,hd⟩:=id kA;obtain⟨ol,HZ,_,nl,w6⟩:=hl;unfold Builtin.SmallTypes.nextOf
 refine ay (eX (name:=Str.ofString "__next__") kA.typeIs cY
  (wpAny_call_entry cY kA.typeIs F.entry_tuple_iterator_next ?_ (F.args_tuple_iterator_next_1 _)))
 show wpAny _ _ (field (.ref it) 0>>=_) _ _ s;refine ay (cR ho hd (x:=.ref l) Z ?_);show wpAny _ _ (if (Value.ref l==Value.none)=true then _ else _) _ _ s;rw[am (show¬((Value.ref l==Value.none)=true) from aQ)];show wpAny _ _ (field (.ref it) 1>>=_) _ _ s;refine ay (cR ho hd (x:=.int i 0) Z ?_);show wpAny _ _ (seqItems? (.ref l)>>=_) _ _ s;refine ay (d7 HZ w6 ?_);simp only[a7,hx];refine ay (e8 ho hd (by simp) (aY ⟨x,Z,aY (hQ _ ?_ (Heap.SameBut.update ..))⟩))
 exact⟨_,b6 _ ho (Obj.isFreed_of_fields (dC hd _)),(Obj.cls_mapFields ..).trans hc,by
  rw[dC hd];simp[rawInt]⟩
theorem JX{it l:Addr}{i:Nat}{items}{Q:Value->Shared->Prop}(hh:A.handled=none)
 (kA:s.heap.IsTupleIter it l i) (hl:s.heap.IsTuple l items) (hx:items[i]? =none)
 (hE:∀h' e,Heap.ExtBut it s.heap h'->(∃o,h'.get? e=some o/\o.cls=.type "StopIteration")->E (.ref e) {s with heap:=h'}):
 wpAny (model prog w) A (Builtin.SmallTypes.nextOf (.ref it)) Q E s:=by
 obtain⟨o,ho,hc,hd⟩:=id kA;obtain⟨ol,HZ,_,nl,w6⟩:=hl;unfold Builtin.SmallTypes.nextOf
 refine ay (eX (name:=Str.ofString "__next__") kA.typeIs cY
  (wpAny_call_entry cY kA.typeIs F.entry_tuple_iterator_next ?_ (F.args_tuple_iterator_next_1 _)))
 show wpAny _ _ (field (.ref it) 0>>=_) _ _ s;refine ay (cR ho hd (x:=.ref l) Z ?_);show wpAny _ _ (if (Value.ref l==Value.none)=true then _ else _) _ _ s;rw[am (show¬((Value.ref l==Value.none)=true) from aQ)];show wpAny _ _ (field (.ref it) 1>>=_) _ _ s;refine ay (cR ho hd (x:=.int i 0) Z ?_);show wpAny _ _ (seqItems? (.ref l)>>=_) _ _ s;refine ay (d7 HZ w6 ?_);simp only[a7,hx];refine ay (wpAny_rule (ay (e8 ho hd (by simp) ?_)));show wpAny _ _ (newExc (.type "StopIteration") []>>=_) _ _ _;refine ay ?_;simp only[newExc,newTuple];refine ay (dQ ?_ (by size_fits));refine ay (m:=firstArgMember _ _) (wpAny_of_eq (a:=Value.none) (by first|rfl|(simp only[firstArgMember];rfl)) ?_);refine dQ ?_ (by size_fits);simp only[raiseNew];refine ay (wpAny_handled ?_)
 first|rw[show A.in1.handled=none from hh]|rw[hh]
 refine ay (aY (wpAny_throw ?_));exact hE _ _ (((Heap.SameBut.update ..).extBut.push _).push _) ⟨_,aO _ Z,Z⟩
end
theorem Wb{prog:Program}{w:World}{A:Around}(hh:A.handled=none)(it l:Addr)(lm:l≠it)(items:Array Value):
 Draws prog w A it [it,l] items.size (fun i v=>items[i]? =some v) (fun i h=>h.IsTupleIter it l i/\h.IsTuple l items) where
 live:=fun _ _ st=>let ⟨o,ho,_⟩:=st.1;⟨o,ho⟩
 frame:=fun _ _ _ st hk=>⟨let ⟨o,ho,r⟩:=st.1;⟨o,hk it (by simp) o ho,r⟩,let ⟨o,ho,r⟩:=st.2;⟨o,hk l (by simp) o ho,r⟩⟩
 item:=fun i s Q E hi st hQ=>by
  refine Sj st.1 st.2 (x:=items[i]) (by simp[hi]) fun h' Hm PV=> ?_
  exact hQ _ h' s.toks (by simp[hi]) ⟨Hm,st.2.extBut PV.extBut lm⟩ PV
 done:=fun s Q E st hE=>JX hh st.1 st.2 (by simp) hE
theorem Wc{prog:Program}{w:World}{A:Around}{it:Addr}{fp:List Addr}{n:Nat}{P:Nat->Value->Prop}{St:Nat->Heap->Prop}(D:Draws prog w A it fp n P St):
 Draws prog w A it fp (n+1) (fun j x=>P (j-1) x) (fun j h=>1<=j/\St (j-1) h) where
 live:=fun i h st=>D.live _ h st.2
 frame:=fun i h h' st hk=>⟨st.1,D.frame _ h h' st.2 hk⟩
 item:=fun i s Q E hi st hQ=>D.item (i-1) s Q E (by have:=st.1;omega) st.2 fun x h' tk hp kK hs=>hQ x h' tk hp ⟨by omega,by have:=st.1;rw[show i+1-1=i-1+1 by omega];exact kK⟩ hs
 done:=fun s Q E st hE=>D.done s Q E st.2 hE
end FX
namespace L2
open PySem PySem.Spec PyProof.Rows
def w8(sq:Hp->List V->Prop):It:=
 ⟨fun i H=>∃(xs:List V) (x:V),sq H xs/\xs[i]? =some x,fun i H v H'=>∃T x,v=.ref T/\H T=none/\H'=fM H T (.tup [.int ((i+1:Nat):Int),x])/\∀xs,sq H xs->xs[i]? =some x,fun i H=>∃xs:List V,sq H xs/\xs.length<=i⟩
theorem MP{P:Program}{w:World}{K:PySem.W.Frag}{oQ:List Expr}{kk:Nat}{mR:Pos}(a e it:Addr)(sq:Hp->List V->Prop)(rE:Nat->Heap->Prop)(Ia:Array Value->Heap->Prop)(Ib:e≠it)(B8:e≠a)
 (obj:∀i h,rE i h->∃o,h.get? it=some o/\∀v,o.data≠ .cell v) (keep:∀i h h',rE i h->(∀o,h.get? it=some o->h'.get? it=some o)->rE i h')
 (seq:∀(X:Cx) (fL:List (Addr×Obj)) (σ:St) (H:Hp) (s:Shared) (xs:List V),X.K=K->Inv X fL σ H s->sq H xs->∃fU:List Value,gF xs fU/\Ia fU.toArray s.heap)
 (yA:∀(X:Cx) (fL:List (Addr×Obj)) (σ:St) (H:Hp) (s:Shared) (xs ys:List V),X.K=K->Inv X fL σ H s->sq H xs->sq H ys->xs=ys)
 (D:∀(prog:Program) (w:World) (A:Around) (items:Array Value),A.handled=none->Draws prog w A it [it,a] items.size (fun i v=>items[i]? =some v) (fun i h=>rE i h/\Ia items h))
 (fin:∀(prog:Program) (w:World) (A:Around) (E:Value->Shared->Prop) (s:Shared) (Q:Value->Shared->Prop) (items:Array Value) (i:Nat),A.handled=none->rE i s.heap->Ia items s.heap->items[i]? =none->
   (∀h' e,Heap.ExtBut it s.heap h'->(∃o,h'.get? e=some o/\o.cls=.type "StopIteration")->E (.ref e) {s with heap:=h'})->wpAny (model prog w) A (Builtin.SmallTypes.nextOf (.ref it)) Q E s):
 pP P w K (.Tuple oQ kk mR) (w8 sq) [e,it] e (fun i h=>(∃lp,IsEnum h e it ((i+1:Nat):Int) lp)/\rE i h) where
 mem:=by simp
 obj:=fun i h st b hb=>by
  obtain⟨⟨lp,he⟩,hi⟩:=st;have e':b=e\/b=it:=by simpa using hb
  rcases e' with z|z
  ·rw[z];exact⟨_,he,fun v q=>nomatch q⟩
  ·rw[z];exact obj i h hi
 keep:=fun i h h' st k=>let ⟨⟨lp,he⟩,hi⟩:=st;⟨⟨lp,k e (by simp) _ he⟩,keep i h h' hi fun o q=>k it (by simp) o q⟩
 item:=by
  intro X hP hw hK hc i fL s σ H E I hf st hg;subst hP hw;obtain⟨⟨lp,he⟩,kA⟩:=st;obtain⟨xs,x,hq,hx⟩:=hg;obtain⟨fU,rv,p⟩:=seq X fL σ H s xs hK I hq;obtain⟨u,hu,ru⟩:=rv.get hx;have rB:e<s.heap.objs.size:=aK he;have HN:it<s.heap.objs.size:=by obtain⟨_,q,_⟩:=obj i _ kA;exact aK q
  have hZ:i<fU.length:=(ap.mp hu).1;have D1:=FX.Wc (D X.prog X.w X.A.in1 fU.toArray (I.ok.hd hc));refine wpAny_pyNext_enum_itemD (i:=i+1) D1 he ⟨by omega,kA,p⟩ (by rw[aR];omega) Ib (by simp[Ib,B8]) fun y h' tk hP ho kK hT hsz hk=> ?_
  have ey:y=u:=by
   have hP:fU.toArray[i+1-1]? =some y:=hP;rw[show i+1-1=i by omega,List.getElem?_toArray,hu] at hP;exact(af hP).symm
  subst ey;refine⟨_,Z,wpAny_letOwnedTupleGo_enum (s:={s with heap:=h',toks:=tk+1}) ho fun oh pW sb=> ?_⟩;have yS:oh.get? s.heap.objs.size=some {cls:=.type "tuple",data:=.seq #[.int ((i+1:Nat):Int) tk,y]}:=(sb.2 _ (fK rB)).trans hT
  have new:jj X.prog X.w (fM H s.heap.objs.size (.tup [.int ((i+1:Nat):Int),x])) oh s.heap.objs.size (.tup [.int ((i+1:Nat):Int),x]):=
   ⟨by show 2<=sizeLine;decide,[.int ((i+1:Nat):Int) tk,y],.cons ⟨_,Z⟩ (.cons ru .nil),⟨_,yS,Z,_,Z⟩⟩
  have I1:Inv X fL σ (fM H s.heap.objs.size (.tup [.int ((i+1:Nat):Int),x])) {s with heap:=oh,toks:=tk+1}:=
   I.Ff (ch:=[e,it]) (fun b ob hb q=>(sb.2 b (fun z=>hb (by simp[z]))).trans (hk b ob (fun z=>hb (by simp[z])) (fun z=>hb (by simp[z])) q)) hf (aA _) new
  refine⟨.ref s.heap.objs.size,_,I1,Z,⟨_,x,Z,I.gh.fresh (aA _),Z,fun ys hy=>by rw[yA X fL σ H s ys xs hK I hy hq];exact hx⟩,⟨⟨y,?_⟩,?_⟩,fun b hb=> ?_⟩
  ·have e1:((i+1+1:Nat):Int)=((i+1:Nat):Int)+1:=by omega
   rw[e1];exact pW
  ·have h1:rE (i+1+1-1) h':=kK.2.1;rw[show i+1+1-1=i+1 by omega] at h1;exact keep (i+1) h' oh h1 fun o q=>(sb.2 it (cI Ib)).trans q
  ·have HP:b<s.heap.objs.size:=by
    have e':b=e\/b=it:=by simpa using hb
    rcases e' with z|z
    ·rw[z];exact rB
    ·rw[z];exact HN
   rw[fT (ba HP)];exact(hf b hb).1
 done:=by
  intro X hP hw hK hc i fL s σ H E I hf st hg;subst hP hw;obtain⟨⟨lp,he⟩,kA⟩:=st;obtain⟨xs,hq,hx⟩:=hg;obtain⟨fU,rv,p⟩:=seq X fL σ H s xs hK I hq;obtain⟨f0,f1,f2,f3,f4,f5⟩:=hf it (by simp);have hl:=rv.length;have hT:s.TypeIs (.ref e) "enumerate":=⟨_,he,Z⟩;unfold pyNext
  refine ay (wpAny_attempt (eX (name:=Str.ofString "__next__") hT F.slot_enumerate_next
   (wpAny_call_entry F.slot_enumerate_next hT F.entry_enumerate_next ?_ (F.args_enumerate_next_1 _))))
  show wpAny _ _ (field (.ref e) 2>>=_) _ _ _;refine ay (cR he Z (x:=.ref it) Z ?_);refine ay (fin X.prog X.w X.A.in1 _ s _ fU.toArray i (I.ok.hd hc) kA p (by simp;omega) fun h' x pW hx'=> ?_);obtain⟨o,ho,mo⟩:=hx';refine ay (wpAny_isInstance (T:="StopIteration") (b:=true) ⟨o,ho,mo⟩ isSubtype_stop ?_);exact aY ⟨Z,I.turned (t':=s.toks) (fun b o hb q=>pW b o hb q) f0 f1 f3 f4 f5⟩
 self:=fun A i s Q E st h=>let ⟨⟨_,he⟩,_⟩:=st;dS he h
def i1L(K:PySem.W.Frag)(ta tk:TA):TI:=fun σ H R=>ta σ H fun vs H1=>tk σ H1 fun ws H2=>∃a xs,vs=[.ref a]/\ws=[.int 1]/\fR K H2 a xs/\R (w8 fun H xs=>fR K H a xs) H2
def i1T(K:PySem.W.Frag)(ta tk:TA):TI:=fun σ H R=>ta σ H fun vs H1=>tk σ H1 fun ws H2=>∃a xs,vs=[.ref a]/\ws=[.int 1]/\iN K H2 a xs/\R (w8 fun H xs=>iN K H a xs) H2
theorem Kp{M:Model}{A:Around}{E:Value->Shared->Prop}{s:Shared}{env:Env}{pos:Pos}{T:String}{e:Expr}{hU:List Expr}{jJ:List Keyword}{Q:Value->Shared->Prop}
 (h:wpAny M A (spliced (backTo pos (starEach (e::hU) env))) (fun vs iK=>wpAny M A (evalAll ((backToKw pos (keywordEach jJ env)).map (·.2)))
   (fun kvs jM=>wpAny M A (call (.type T) vs (((backToKw pos (keywordEach jJ env)).filterMap (·.1)).zip kvs)) Q E jM) E iK) E s)
 (he:backTo pos (starEach (e::hU) env)=(false,eval e env)::backTo pos (starEach hU env):=by rfl)
 (GJ:(backTo pos (starEach (e::hU) env)).any (·.1)=false:=by rfl)
 (oR:(backToKw pos (keywordEach jJ env)).all (·.1.isSome)=true:=by rfl)
 (hkw:(backToKw pos (keywordEach jJ env)).any (·.1.isNone)=false:=by rfl):
 wpAny M A (callWith pos (.type T) [] (backTo pos (starEach (e::hU) env)) (backToKw pos (keywordEach jJ env))) Q E s:=by
 have h2:wpAny M A (evalArgs (.type T) true (backTo pos (starEach (e::hU) env)) (backToKw pos (keywordEach jJ env))) (fun a iK=>wpAny M A (call (.type T) ([]++a.pos) a.kw) Q E iK) E s:=by
  rw[he] at h⊢;exact evalArgs_kwB oR h
 unfold callWith;refine ay (dL (bF h2 (fun a iK wB=>ay (dN ?_)) fun _ _ x=>x));simp only[GJ,hkw,Bool.or_false];refine ay (aY ?_);exact ay (bF wB (fun r jM hr=>ay (dL (wpAny_point (aY hr)))) fun _ _ x=>x)
section
variable {X:Cx} {e:Expr} {jJ:List Keyword} {ta tk:TA} {p pos mR:Pos} {oQ:List Expr} {kk:Nat}
theorem Xa(hg:Gl X "enumerate")(hm:X.mg "enumerate"=none)(ha:PA X [e] ta)(hk:PK X jJ tk)(vd:(backToKw pos (keywordEach jJ X.env)).filterMap (·.1)=[("start":Str)]:=by rfl)
 (he:backTo pos (starEach [e] X.env)=(false,eval e X.env)::backTo pos (starEach [] X.env):=by rfl) (jp:(backTo pos (starEach [e] X.env)).any (·.1)=false:=by rfl)
 (p4:(backToKw pos (keywordEach jJ X.env)).all (·.1.isSome)=true:=by rfl) (zc:(backToKw pos (keywordEach jJ X.env)).any (·.1.isNone)=false:=by rfl):
 PI X (.Tuple oQ kk mR) (.Call (.Name "enumerate" p) [e] jJ pos) (i1L X.K ta tk):=by
 intro fL s σ H R I h;refine bH (qr I hg hm boot_enumerate (Kp ?_ he jp p4 zc));refine gm (ha pos fL s σ H _ I h) fun us s1 ⟨vs,H1,I1,r1,q1⟩=>gm (hk pos fL s1 σ H1 _ I1 q1) fun ws s2 ⟨zs,H2,I2,r2,a,xs,e1,e2,hq,q⟩=> ?_
 subst e1 e2;rw[vd,gF.yy r1];obtain⟨u,rfl,t,rfl⟩:=vals1 r2;obtain⟨fU,rv,p',hz⟩:=I2.list hq;show wpAny _ _ (call (.type "enumerate") [.ref a] [("start",.int 1 t)]) _ _ _;refine FX.call_enum_list p'.isList fun h' pW kA hsz u8=>dS pW ?_
 have I3:Inv X fL σ H2 {s2 with heap:=h'}:=I2.kept (t':=s2.toks) u8;have p4:a<s2.heap.objs.size:=by obtain⟨o,n,ho,_⟩:=p';exact aK ho
 refine⟨s2.heap.objs.size+1,[s2.heap.objs.size+1,s2.heap.objs.size],_,_,H2,Z,I3,MP a (s2.heap.objs.size+1) s2.heap.objs.size (fun H xs=>fR X.K H a xs) (fun i h=>h.IsListIter s2.heap.objs.size a i) (fun fU h=>h.IsList a fU) (Nat.succ_ne_self _) (ba (dU p4)).symm
  (fun i h hi=>let ⟨o,ho,hc,hd⟩:=hi;⟨o,ho,fun v q=>by rw[hd] at q;cases q⟩) (fun i h h' hi k=>hi.at k)
  (fun X' fL σ H s xs eK I hs=>by rw[<-eK] at hs;obtain⟨fU,rv,p,_⟩:=I.list hs;exact⟨fU,rv,p.isList⟩) (fun X' fL σ H s xs ys eK I h1 h2=>by rw[<-eK] at h1 h2;exact I.yb h1 h2)
  (fun prog w A items hh=>Draws.list hh _ _ (ba p4) items) (fun prog w A E s Q items i hh hi hs hx hE=>wpAny_nextOf_list_end hh hi hs hx hE),⟨⟨.none,pW⟩,kA⟩,fun b hb=> ?_,q⟩
 have e':b=s2.heap.objs.size+1\/b=s2.heap.objs.size:=by simpa using hb
 have pc:s2.heap.objs.size<=b:=by
  rcases e' with z|z
  ·rw[z];exact cA _ _
  ·rw[z];exact aA _
 exact I2.rh pc (I2.gh.fresh pc)
theorem Xb(hg:Gl X "enumerate")(hm:X.mg "enumerate"=none)(ha:PA X [e] ta)(hk:PK X jJ tk)(vd:(backToKw pos (keywordEach jJ X.env)).filterMap (·.1)=[("start":Str)]:=by rfl)
 (he:backTo pos (starEach [e] X.env)=(false,eval e X.env)::backTo pos (starEach [] X.env):=by rfl) (jp:(backTo pos (starEach [e] X.env)).any (·.1)=false:=by rfl)
 (p4:(backToKw pos (keywordEach jJ X.env)).all (·.1.isSome)=true:=by rfl) (zc:(backToKw pos (keywordEach jJ X.env)).any (·.1.isNone)=false:=by rfl):
 PI X (.Tuple oQ kk mR) (.Call (.Name "enumerate" p) [e] jJ pos) (i1T X.K ta tk):=by
 intro fL s σ H R I h;refine bH (qr I hg hm boot_enumerate (Kp ?_ he jp p4 zc));refine gm (ha pos fL s σ H _ I h) fun us s1 ⟨vs,H1,I1,r1,q1⟩=>gm (hk pos fL s1 σ H1 _ I1 q1) fun ws s2 ⟨zs,H2,I2,r2,a,xs,e1,e2,hq,q⟩=> ?_
 subst e1 e2;rw[vd,gF.yy r1];obtain⟨u,rfl,t,rfl⟩:=vals1 r2;obtain⟨fU,rv,p',hz⟩:=I2.tuple hq;show wpAny _ _ (call (.type "enumerate") [.ref a] [("start",.int 1 t)]) _ _ _;refine FX.Td p' fun h' pW kA hsz u8=>dS pW ?_
 have I3:Inv X fL σ H2 {s2 with heap:=h'}:=I2.kept (t':=s2.toks) u8;have p4:a<s2.heap.objs.size:=by obtain⟨o,ho,_⟩:=p';exact aK ho
 refine⟨s2.heap.objs.size+1,[s2.heap.objs.size+1,s2.heap.objs.size],_,_,H2,Z,I3,MP a (s2.heap.objs.size+1) s2.heap.objs.size (fun H xs=>iN X.K H a xs) (fun i h=>h.IsTupleIter s2.heap.objs.size a i) (fun fU h=>h.IsTuple a fU) (Nat.succ_ne_self _) (ba (dU p4)).symm
  (fun i h hi=>let ⟨o,ho,hc,hd⟩:=hi;⟨o,ho,fun v q=>by rw[hd] at q;cases q⟩) (fun i h h' hi k=>let ⟨o,ho,r⟩:=hi;⟨o,k o ho,r⟩)
  (fun X' fL σ H s xs eK I hs=>by rw[<-eK] at hs;obtain⟨fU,rv,p,_⟩:=I.tuple hs;exact⟨fU,rv,p⟩) (fun X' fL σ H s xs ys eK I h1 h2=>by rw[<-eK] at h1 h2;exact I.L1 h1 h2)
  (fun prog w A items hh=>FX.Wb hh _ _ (ba p4) items) (fun prog w A E s Q items i hh hi hs hx hE=>FX.JX hh hi hs hx hE),⟨⟨.none,pW⟩,kA⟩,fun b hb=> ?_,q⟩
 have e':b=s2.heap.objs.size+1\/b=s2.heap.objs.size:=by simpa using hb
 have pc:s2.heap.objs.size<=b:=by
  rcases e' with z|z
  ·rw[z];exact cA _ _
  ·rw[z];exact aA _
 exact I2.rh pc (I2.gh.fresh pc)
end
theorem NB{sq:Hp->List V->Prop}{xs:List V}{g:TG}{tb:TS}{D:oO}{σ:St}{H:Hp}(Pv:Nat->St->Hp->Prop)(h0:Pv 0 σ H)(hl:∀i σ H,i<=xs.length->Pv i σ H->sq H xs)
 (hs:∀i x p σ H,xs[i]? =some x->Pv i σ H->H p=none->g (.ref p) σ (fM H p (.tup [.int ((i+1:Nat):Int),x])) fun gv H2=>tb {D with nx:=Pv (i+1),ct:=Pv (i+1),bk:=D.nx} gv H2) (hd:∀σ H,Pv xs.length σ H->D.nx σ H):
 ∃W:Nat->Nat->St->Hp->Prop,(∃m,W 0 m σ H)/\∀i m σ H,W i m σ H->
  ((w8 sq).stop i H/\D.nx σ H)\/((w8 sq).go i H/\∃N:St->Hp->Prop,(∀gw H',N gw H'->∃m',m'<m/\W (i+1) m' gw H')/\∀x H',(w8 sq).mG i H x H'->g x σ H' fun gv H2=>tb {D with nx:=N,ct:=N,bk:=D.nx} gv H2):=by
 refine⟨fun i m σ H=>m=xs.length-i/\i<=xs.length/\Pv i σ H,⟨xs.length,by simp,aN _,h0⟩,?_⟩;rintro i m σ H ⟨rfl,hi,p⟩;have q:=hl i σ H hi p
 by_cases hZ:i<xs.length
 ·refine .inr ⟨⟨xs,xs[i],q,by simp[hZ]⟩,Pv (i+1),fun gw H' p'=>⟨xs.length-(i+1),by omega,Z,hZ,p'⟩,fun v H' y=> ?_⟩;obtain⟨T,x,rfl,hT,rfl,y⟩:=y;exact hs i x T σ H (y xs q) p hT
 ·have e:i=xs.length:=by omega
  subst e;exact .inl ⟨⟨xs,q,aA _⟩,hd σ H p⟩
end L2
namespace FE
open Vbkdaa
def iu(b:Bool):Nat:=if b=true then 1 else 0
theorem jX(k n:Nat):(bitsOf k n).length=k:=by simp[bitsOf]
theorem Aj{k n p:Nat}(h:p<k):(bitsOf k n)[p]? =some (n/2^(k-1-p)% 2==1):=by
 unfold bitsOf;rw[au,b8 (by simpa using h)];simp only[eY];rw[List.getElem?_range (by omega)];rfl
theorem NC(x:Nat):iu (x% 2==1)=x% 2:=by
 unfold iu;have:x% 2=0\/x% 2=1:=by omega
 rcases this with h|h<;>rw[h]<;>rfl
theorem pG(l:List Bool):valueOf l=l.foldl (fun n b=>n*2+iu b) 0:=by
 unfold valueOf iu
 congr 1
 funext n b
 omega
def lW(l:List Bool)(i:Nat):Nat:=valueOf ((l.drop (7*i)).take 7)
theorem JY:∀(m f:Nat) (l:List Bool),l.length=7*m->7*m<=f->signsFrom f l=(List.range m).map (lW l)
 |0,f,l,h,_=>by
  have e:l=[]:=aM.mp (by omega);subst e;cases f<;>simp[signsFrom]
 |m+1,0,l,_,hf=>by omega
 |m+1,f+1,l,h,hf=>by
  have ne:l.isEmpty=false:=by
   cases l with
   |nil=>simp at h
   |cons _ _=>rfl
  unfold signsFrom;rw[ne];simp only[bo,cW];have h7:(l.take 7).length=7:=by rw[aD];omega
  rw[h7,Nat.sub_self,List.replicate_zero,bc,JY m f (l.drop 7) (by rw[aW];omega) (by omega),bT,aB,bE];refine congr (congrArg List.cons ?_) ?_
  ·unfold lW;simp
  ·apply bW;intro i _;show lW (l.drop 7) i=lW l (i+1);unfold lW;rw[bw]
   congr 3
   omega
theorem J5:∀(f:Nat) (l:List Bool) (k g:Nat),(l.length+k)% 7=0->k<7->l.length<=f->l.length+k<=g->signsFrom f l=signsFrom g (l++List.replicate k false)
 |0,l,k,g,hm,hk,hf,_=>by
  have e:l=[]:=aM.mp (by omega);subst e;have wS:k=0:=by simp at hm;omega
  subst wS;cases g<;>simp[signsFrom]
 |f+1,l,k,g,hm,hk,hf,hg=>by
  by_cases h0:l=[]
  ·subst h0;have wS:k=0:=by simp at hm;omega
   subst wS;cases g<;>simp[signsFrom]
  ·have hl:0<l.length:=List.length_pos_iff.mpr h0;obtain⟨g',rfl⟩:∃g',g=g'+1:=⟨g-1,by omega⟩;have ne:l.isEmpty=false:=by cases l with|nil=>exact absurd Z h0|cons _ _=>rfl
   have ne2:(l++List.replicate k false).isEmpty=false:=by cases l with|nil=>exact absurd Z h0|cons _ _=>rfl
   unfold signsFrom;rw[ne,ne2];simp only[bo,cW]
   by_cases h7:7<=l.length
   ·have a1:(l++List.replicate k false).take 7=l.take 7:=cD h7;have a2:(l++List.replicate k false).drop 7=l.drop 7++List.replicate k false:=List.drop_append_of_le_length h7;rw[a1,a2,J5 f (l.drop 7) k g' (by rw[aW];omega) hk (by rw[aW];omega) (by rw[aW];omega)]
   ·have hk7:l.length+k=7:=by omega
    have t1:l.take 7=l:=aV (by omega);have t2:(l++List.replicate k false).take 7=l++List.replicate k false:=aV (by rw[ag,bQ];omega);have d1:l.drop 7=[]:=bG (by omega);have d2:(l++List.replicate k false).drop 7=[]:=bG (by rw[ag,bQ];omega);rw[t1,t2,d1,d2];have z:∀f,signsFrom f ([]:List Bool)=[]:=fun f=>by cases f<;>simp[signsFrom]
    rw[z,z];have e1:7-l.length=k:=by omega
    have e2:7-(l++List.replicate k false).length=0:=by rw[ag,bQ];omega
    rw[e1,e2,List.replicate_zero,bc]
def jI(n:Nat):Nat:=(7-n% 7)% 7
def sH(n:Nat):Nat:=(n+jI n)/7
theorem AR(n:Nat):(-(n:Int))% 7=((jI n:Nat):Int):=by unfold jI;omega
theorem vR(n:Nat):n+jI n=7*sH n:=by unfold sH jI;omega
theorem Ay(l:List Bool):signs l=(List.range (sH l.length)).map (lW (l++List.replicate (jI l.length) false)):=by
 unfold signs;have hp:=vR l.length;rw[J5 l.length l (jI l.length) (l.length+jI l.length) (by omega) (by unfold jI;omega) (aA _) (aA _)];exact JY _ _ _ (by rw[ag,bQ];omega) (by omega)
theorem Fg(l:List Bool):(signs l).length=sH l.length:=by rw[Ay];simp
theorem Ez(l:List Bool):valueOf l<2^l.length:=by
 have gen:∀(l:List Bool) (n k:Nat),n<2^k->l.foldl (fun n b=>2*n+(if b=true then 1 else 0)) n<2^(k+l.length):=by
  intro l
  induction l with
  |nil=>intro n k h;simpa using h
  |cons b r ih=>
   intro n k h;rw[bJ,aj,show k+(r.length+1)=(k+1)+r.length by omega];refine ih _ (k+1) ?_;rw[Nat.pow_succ];split<;>omega
 have:=gen l 0 0 (by decide);simpa [valueOf] using this
theorem Xc(l:List Bool)(i:Nat):lW l i<128:=by
 unfold lW;refine aU (Ez _) ?_;exact dg (by decide) (List.length_take_le _ _)
theorem MQ{l:List Bool}{x:Nat}(h:x∈signs l):x<128:=by
 rw[Ay] at h;obtain⟨i,_,rfl⟩:=bi.mp h;exact Xc _ _
theorem UG:∀a b:Nat,(a^^^b)+(a&&&b)=a|||b:=by
 intro a
 induction a using Nat.strongRecOn with
 |ind a ih=>
  intro b
  by_cases ha:a=0
  ·subst ha;simp
  ·have h2:=ih (a/2) (by omega) (b/2);have x1:(a^^^b)/2=a/2^^^b/2:=by simpa using Nat.xor_div_two_pow (a:=a) (b:=b) (n:=1)
   have x2:(a&&&b)/2=a/2&&&b/2:=by simpa using Nat.and_div_two_pow (a:=a) (b:=b) (n:=1)
   have x3:(a|||b)/2=a/2|||b/2:=by simpa using Nat.or_div_two_pow (a:=a) (b:=b) (n:=1)
   have m1:(a^^^b)% 2=(a% 2)^^^(b% 2):=by simpa using Nat.xor_mod_two_pow (a:=a) (b:=b) (n:=1)
   have m2:(a&&&b)% 2=(a% 2)&&&(b% 2):=by simpa using Nat.and_mod_two_pow (a:=a) (b:=b) (n:=1)
   have m3:(a|||b)% 2=(a% 2)|||(b% 2):=by simpa using Nat.or_mod_two_pow (a:=a) (b:=b) (n:=1)
   have y1:(0:Nat)^^^0=0:=rfl;have y2:(0:Nat)^^^1=1:=rfl;have y3:(1:Nat)^^^0=1:=rfl;have y4:(1:Nat)^^^1=0:=rfl;have y5:(0:Nat)&&&0=0:=rfl;have y6:(0:Nat)&&&1=0:=rfl;have y7:(1:Nat)&&&0=0:=rfl;have y8:(1:Nat)&&&1=1:=rfl;have y9:(0:Nat)|||0=0:=rfl
   have y10:(0:Nat)|||1=1:=rfl
   have y11:(1:Nat)|||0=1:=rfl
   have y12:(1:Nat)|||1=1:=rfl
   have ca:a% 2=0\/a% 2=1:=by omega
   have cb:b% 2=0\/b% 2=1:=by omega
   rcases ca with ca|ca<;>rcases cb with cb|cb<;>rw[ca,cb] at m1 m2 m3<;>simp only[y1,y2,y3,y4,y5,y6,y7,y8,y9,y10,y11,y12] at m1 m2 m3<;>omega
theorem FW(r:Nat)(b:Bool)(h:r<16384):shift r b<16384:=by
 have hx:2*r+(if b=true then 1 else 0)<2^15:=by split<;>omega
 show(if 16384<=2*r+(if b=true then 1 else 0) then(2*r+(if b=true then 1 else 0))^^^17475 else 2*r+(if b=true then 1 else 0))<16384;generalize 2*r+(if b=true then 1 else 0)=x at hx
 by_cases h1:16384<=x
 ·rw[aw h1];refine Nat.lt_of_not_le fun pc=> ?_
  have Ic:(x^^^17475).testBit 14=false:=by
   rw[eM]
   have a:x.testBit 14=true:=by
    rw[dj];have:x/2^14=1:=by omega
    rw[this];rfl
   rw[a];rfl
  have aff:x^^^17475<2^15:=Nat.xor_lt_two_pow hx (by decide);rw[dj] at Ic;have:(x^^^17475)/2^14=1:=by omega
  rw[this] at Ic;exact absurd Ic (by decide)
 ·rw[am h1];omega
theorem AS:∀(l:List Bool) (r:Nat),r<16384->l.foldl shift r<16384
 |[],_,h=>h
 |b::l,r,h=>AS l _ (FW r b h)
theorem zR(l:List Nat):remainder l<16384:=AS _ _ (by decide)
theorem SD(l:List Nat)(x:Nat):(bitsIn (l++[x])).foldl shift 0=(bitsOf 7 x).foldl shift ((bitsIn l).foldl shift 0):=by
 unfold bitsIn;rw[bO,bX];simp
theorem KP(n:Nat):∀k,n<2^k↔(if n=0 then 0 else Nat.log2 n+1)<=k:=by
 intro k
 by_cases h:n=0
 ·subst h;simp;exact Nat.two_pow_pos k
 ·rw[am h];rw[<-Nat.log2_lt h];omega
def oS(n:Nat):Nat:=if n=0 then 0 else Nat.log2 n+1
theorem AT{n:Nat}(h:n<4096):oS n<=12:=by
 unfold oS;exact(KP n 12).mp (by simpa using h)
def gr(l:List Nat):Nat:=l.foldl max 0
theorem wk(l:List Nat)(m:Nat):(∀x∈l,x<m)->0<m->gr l<m:=by
 have gen:∀(l:List Nat) (a:Nat),a<m->(∀x∈l,x<m)->l.foldl max a<m:=by
  intro l
  induction l with
  |nil=>intro a h _;exact h
  |cons x r ih=>intro a h hx;exact ih _ (by have:=hx x bv;omega) fun y hy=>hx y (aX _ hy)
 intro h h0;exact gen l 0 h0 h
theorem OD{l:List Nat}{x:Nat}(h:x∈l):x<=gr l:=by
 have gen:∀(l:List Nat) (a:Nat),a<=l.foldl max a/\∀x∈l,x<=l.foldl max a:=by
  intro l
  induction l with
  |nil=>intro a;exact⟨aA _,fun x hx=>absurd hx (by simp)⟩
  |cons y r ih=>
   intro a;have h1:=ih (max a y);refine⟨by rw[bJ];have:=h1.1;omega,fun x hx=> ?_⟩;rw[bJ];rcases az.mp hx with rfl|hx
   ·have:=h1.1;omega
   ·exact h1.2 x hx
 exact(gen l 0).2 x h
theorem FY(l:List Nat)(h:∀x∈l,x<4096):width l=oS (gr l):=by
 have hg:gr l<4096:=wk l 4096 h (by decide);have hb:oS (gr l)<=12:=AT hg
 have Ym:∀k,(l.all fun n=>decide (n<2^k))=decide (oS (gr l)<=k):=by
  intro k;apply bK.mpr;rw[a9,decide_eq_true_iff];unfold oS;rw[<-KP];constructor
  ·intro q;exact wk l _ (fun x hx=>cF (q x hx)) (Nat.two_pow_pos k)
  ·intro q x hx;exact ai (cC (OD hx) q)
 unfold width;simp only[Ym]
 have:(List.range 13).find? (fun k=>decide (oS (gr l)<=k))=some (oS (gr l)):=by
  rw[List.find?_range_eq_some];refine⟨by simp,by simp;omega,fun j hj=>by simp;omega⟩
 rw[this];rfl
end FE
namespace FE
open PySem PySem.Spec PyProof.Rows L2
def iD(mg:Str->Option Value)(x:Str)(n:Int):Prop:=∃t,mg x=some (.int n t)
theorem gz{X:Cx}{x:Str}{n:Int}{pos:Pos}(hg:Gl X x)(h:iD X.mg x n)(hd:(x==("__debug__":Str))=false:=by decide):PE X (.Name x pos) (tC (.int n)):=by
 obtain⟨t,e⟩:=h;exact Gm hg e ⟨t,Z⟩ hd
def yE(mg:Str->Option Value)(x:Str)(z:Str):Prop:=∃t,mg x=some (.str z t)
theorem uz{X:Cx}{x z:Str}{pos:Pos}(hg:Gl X x)(h:yE X.mg x z)(hd:(x==("__debug__":Str))=false:=by decide):PE X (.Name x pos) (tC (.str z)):=by
 obtain⟨t,e⟩:=h;exact Gm hg e ⟨t,Z⟩ hd
theorem m7{X:Cx}{x:Str}{a:Addr}{pos:Pos}(hg:Gl X x)(h:X.mg x=some (.ref a))(hd:(x==("__debug__":Str))=false:=by decide):PE X (.Name x pos) (tC (.ref a)):=Gm hg h Z hd
structure iz(K:PySem.W.Frag)(mg:Str->Option Value)(x:Str)(st:Stmt)(ps:List Str)(f:Addr)(fd:FuncData):Prop where
 fn:jV K x x st f fd
 mg:mg x=some (.ref f)
 b:Binds K fd ps []
end FE
namespace L2
open PySem
theorem Wd{lo c:Int}{n:Nat}{g:TG}{tt:TT}{te:TE}{vs:List Nat}{σ:St}{H1:Hp}{D:Addr}{Qd:Hp->Prop}(Pv:Nat->Hp->Prop)(h0:Pv 0 (fM H1 D (.lst [])))
 (hs:∀i H,i<n->Pv i H->g (.int (lo+(i:Nat)*c)) (iA σ vs) H fun gv H2=>iA gv vs=iA σ vs/\tt gv H2 fun b H3=>
   if b=true then te gv H3 fun y H4=>∃acc,H4 D=some (.lst acc)/\acc.length<sizeLine/\Pv (i+1) (fM H4 D (.lst (acc++[y]))) else Pv (i+1) H3) (hd:∀H,Pv n H->Qd H):
 ∃W:Nat->Nat->Hp->Prop,(∃m,W 0 m (fM H1 D (.lst [])))/\∀i m H,W i m H->
  ((yP lo c n).stop i H/\Qd H)\/((yP lo c n).go i H/\∃Nx:Hp->Prop,(∀H',Nx H'->∃m',m'<m/\W (i+1) m' H')/\∀x H',(yP lo c n).mG i H x H'->g x (iA σ vs) H' fun gv H2=>iA gv vs=iA σ vs/\tt gv H2 fun b H3=>
    if b=true then te gv H3 fun y H4=>∃acc,H4 D=some (.lst acc)/\acc.length<sizeLine/\Nx (fM H4 D (.lst (acc++[y]))) else Nx H3):=by
 refine⟨fun i m H=>m=n-i/\i<=n/\Pv i H,⟨n,by simp,aN _,h0⟩,?_⟩;rintro i m H ⟨rfl,hi,p⟩
 by_cases hZ:i<n
 ·refine .inr ⟨hZ,Pv (i+1),fun H' p'=>⟨n-(i+1),by omega,Z,hZ,p'⟩,fun x H' y=> ?_⟩;obtain⟨e,y⟩:=y;subst e y;exact hs i _ hZ p
 ·have e:i=n:=by omega
  subst e;exact .inl ⟨aA _,hd H p⟩
theorem kF{α β:Type}{f:α->β}{l:List α}{i:Nat}{y:β}(h:(l.map f)[i]? =some y):∃x,l[i]? =some x/\y=f x:=by
 rw[au] at h;cases e:l[i]? with
 |none=>rw[e] at h;cases h
 |some x=>rw[e] at h;exact⟨x,Z,(af h).symm⟩
theorem take_snoc{α:Type}{l:List α}{i:Nat}{x:α}(h:l[i]? =some x):l.take (i+1)=l.take i++[x]:=by
 rw[bC,h];rfl
theorem O5{K:PySem.W.Frag}{H H':Hp}{a:Addr}{xs:List V}(e:fQ H H')(h:iN K H a xs):iN K H' a xs:=by
 rcases h with(h|⟨o,h⟩)|h
 ·exact .inl (.inl (e _ _ h))
 ·exact .inl (.inr ⟨o,e _ _ h⟩)
 ·exact .inr h
theorem fQ.kG{H:Hp}:fQ H H:=fun _ _ h=>h
theorem fQ.new{H:Hp}{p:Addr}{o:HO}(h:H p=none):fQ H (fM H p o):=fun b u e=>by rw[fT (gf e h)];exact e
theorem fQ.put{H H1:Hp}{p:Addr}{o:HO}(s:fQ H H1)(h:H p=none):fQ H (fM H1 p o):=fun b u e=>by rw[fT (gf e h)];exact s b u e
theorem fQ.more{H H1:Hp}{p:Addr}{o:HO}(s:fQ H H1)(h:H1 p=none):fQ H (fM H1 p o):=s.trans (fQ.new h)
end L2
namespace FE
open PySem PySem.Spec PyProof.Rows L2
theorem su(xs:List V)(a b:Nat):jZ xs (some (a:Int)) (some (b:Int))=(xs.drop a).take (b-a):=by
 unfold jZ;rw[HT.ye,HT.ye]
 by_cases h:a<=xs.length
 ·rw[cw h]
  by_cases h2:b<=xs.length
  ·rw[cw h2]
  ·rw[Nat.min_eq_right (by omega),aV (by rw[aW];omega),aV (by rw[aW];omega)]
 ·rw[show min a xs.length=xs.length by omega,bG (aA _),bG (show xs.length<=a by omega)];simp
theorem Xd(xs:List V)(a:Nat):jZ xs (some (a:Int)) none=xs.drop a:=by
 unfold jZ;rw[HT.ye,HT.MI]
 by_cases h:a<=xs.length
 ·rw[cw h,aV (by rw[aW];omega)]
 ·rw[show min a xs.length=xs.length by omega,bG (aA _),bG (show xs.length<=a by omega)];simp
theorem gX{N P:List Str}{sc:Scope}(h:N.Nodup/\(∀x∈P,sc.names.lookup x=some .local\/sc.names.lookup x=some .cell)/\∀y∈sc.names,y.2≠ .free)(a:sc.kind=.function:=by rfl)(b:sc.isCoroutine=false:=by rfl)(c:sc.isGenerator=false:=by rfl)(d:N.take P.length=P:=by rfl):gP N P sc:=⟨a,b,c,h.1,d,h.2.1,h.2.2⟩
theorem fY{n:Nat}(h:n<=1000000):n<=sizeLine:=a8 h (by decide)
theorem iU{n:Nat}(h:n<=1000000):n<sizeLine:=cC h (by decide)
def fX(i:Nat):Stmt:=PySem.Challenge.pw_frontends_s01_answers.main.body.getD i (.Pass ⟨0,0,0,0⟩)
def bV(b:Bool):V:=.int (iu b)
def nV(n:Nat):V:=.int n
theorem Kq{m c:Nat}(hc:0<c):Builtin.Range.rangeSize 0 ((c*m:Nat):Int) (c:Int)=(m:Int):=by
 rw[PyProof.Rows.rangeSize_pos (by omega) (by omega)];have e:((c*m:Nat):Int)+(c:Int)-1=((c:Int)-1)+(c:Int)*(m:Int):=by rw[Int.natCast_mul];omega
 rw[e,Int.add_mul_ediv_left _ _ (by omega),Int.ediv_eq_zero_of_lt (by omega) (by omega)];omega
theorem ZG{m c:Nat}(hc:0<c)(Cb:c<1000)(hm:c*m<=1000000):Pz 0 ((c*m:Nat):Int) (c:Int) m:=by
 refine⟨by omega,by omega,?_,Kq hc⟩;have hm2:m<=c*m:=Nat.le_mul_of_pos_left m hc;unfold Builtin.Range.small;rw[Kq hc];simp only[Builtin.Range.rangeFitsLong,aH,Bool.or_eq_true,aJ,ck,show(c:Int)>0 by omega,dz];generalize c*m=x at*;refine⟨⟨⟨⟨⟨?_,?_⟩,?_,?_⟩,?_,?_⟩,?_,?_⟩,.inr ⟨?_,?_⟩⟩<;>omega
theorem fZ{c:Bool}{A B:Prop}(h:c=true)(k:A):(if c=true then A else B):=by rw[aw h];exact k
theorem gn{c:Bool}{A B:Prop}(h:c=false)(k:B):(if c=true then A else B):=by rw[am (by rw[h];exact aQ)];exact k
def iX(K:PySem.W.Frag)(a:Addr)(xs:List V):Prop:=∃(o:Obj) (fU:Array Value) (n:Nat),K.lookup a=some o/\o.cls=.type "tuple"/\o.data=.seq fU n/\fU.size<=sizeLine/\gF xs fU.toList
theorem iX.sq{K:PySem.W.Frag}{a:Addr}{xs:List V}{H:Hp}(h:iX K a xs):iN K H a xs:=.inr h
structure gu where
 L9:Addr
 Ma:FuncData
 KQ:Addr
 KR:FuncData
 Lr:Addr
 Ls:FuncData
 Lu:Addr
 Lv:FuncData
 Lw:Addr
 Lx:FuncData
 Kr:Addr
 Ks:FuncData
 Kt:Addr
 Ku:FuncData
 JO:Addr
 JP:FuncData
 J6:Addr
 J7:FuncData
 KS:Addr
 KU:FuncData
 KW:Addr
 KY:FuncData
 Ly:Addr
 Lz:FuncData
 JQ:Addr
 JR:FuncData
 LA:Addr
 LB:FuncData
 Mb:Addr
 Mc:FuncData
 JA:Addr
 JB:FuncData
 J8:Addr
 J9:FuncData
 KZ:Addr
 K0:FuncData
 Ka:Addr
 Kb:FuncData
 LC:Addr
 LD:FuncData
 Md:Addr
 Me:FuncData
 JZ:Addr
 J0:FuncData
 J1:Addr
 J2:FuncData
 JS:Addr
 JT:FuncData
 LF:Addr
 LG:FuncData
 Kc:Addr
 Kd:FuncData
 Jy:Addr
 Jz:FuncData
 JF:Addr
 JG:FuncData
 K1:Addr
 K2:FuncData
 ND:Addr
 NE:FuncData
 Dm:Addr
 JU:FuncData
 DY:Addr
 Kv:FuncData
 Di:Addr
 JK:FuncData
 DZ:Addr
 Kw:FuncData
 DM:Addr
 Ke:FuncData
 Eh:Addr
 K3:FuncData
 Ei:Addr
 K4:FuncData
 Ej:Addr
 K5:FuncData
 DN:Addr
 Kf:FuncData
 D0:Addr
 Kx:FuncData
 DO:Addr
 Kg:FuncData
 D3:Addr
 Ky:FuncData
 DP:Addr
 Kh:FuncData
 D4:Addr
 Kz:FuncData
 D5:Addr
 KA:FuncData
 D6:Addr
 KB:FuncData
 D7:Addr
 KC:FuncData
 GO:Addr
 Oe:FuncData
 Ek:Addr
 K6:FuncData
 El:Addr
 K7:FuncData
 D8:Addr
 KD:FuncData
 Ki:Addr
 Kj:FuncData
 Mf:Addr
 Mg:FuncData
 K8:Addr
 K9:FuncData
 Fh:Addr
 Fi:FuncData
 mJ:Addr
 hJ:Addr
 m8:Addr
 lQ:Addr
 j8:Addr
 Dx:Addr
 Dy:FuncData
 Dz:Addr
 DA:FuncData
 CS:Addr
 CT:FuncData
 CZ:Addr
 C0:FuncData
 DB:Addr
 DC:FuncData
 DD:Addr
 DE:FuncData
 CU:Addr
 CV:FuncData
 C1:Addr
 C2:FuncData
 Da:Addr
 Db:FuncData
 Dn:Addr
 Do:FuncData
 C3:Addr
 C4:FuncData
 C7:Addr
 C8:FuncData
 Dc:Addr
 Dd:FuncData
 CW:Addr
 CY:FuncData
 CP:Addr
 CQ:FuncData
 De:Addr
 Df:FuncData
 D9:Addr
 Ea:FuncData
 Dq:Addr
 Dr:FuncData
 Ds:Addr
 Dt:FuncData
 NF:Addr
 uc:Addr
 ue:Addr
 uf:Addr
 uh:Addr
 ui:Addr
 Fj:Addr
 yn:Addr
 Em:Addr
 MR:Addr
 zZ:Addr
 z0:Addr
 z8:Addr
 z9:Addr
 NG:Addr
 Fk:Addr
 Fl:Addr
 Fm:Addr
 Fn:Addr
 Fo:Addr
 Fp:Addr
 Fq:Addr
 Fs:Addr
 Ft:Addr
 Fu:Addr
 EA:Addr
 EB:Addr
 EC:Addr
 ED:Addr
 EE:Addr
 EF:Addr
 EG:Addr
 EH:Addr
 EI:Addr
 EJ:Addr
 EK:Addr
structure Tx(P:Program)(w:World)(K:PySem.W.Frag)(mg:Str->Option Value)(A:gu):Prop where
 range:mg "range"=none
 len:mg "len"=none
 max:mg "max"=none
 min:mg "min"=none
 any:mg "any"=none
 all:mg "all"=none
 ord:mg "ord"=none
 str:mg "str"=none
 int:mg "int"=none
 tuple:mg "tuple"=none
 isinstance:mg "isinstance"=none
 enumerate:mg "enumerate"=none
 zip:mg "zip"=none
 mz:iz K mg "bits_of" (fX 12) ["number","width"] A.L9 A.Ma
 nM:iz K mg "number_of" (fX 13) ["bits"] A.KQ A.KR
 Az:iz K mg "signs_of" (fX 14) ["bits"] A.Lr A.Ls
 ut:iz K mg "check_of" (fX 15) ["signs"] A.Lu A.Lv
 qm:iz K mg "frame_of" (fX 16) ["crossing","samples"] A.Lw A.Lx
 Aa:iz K mg "read_frame" (fX 17) ["inside","channels"] A.Kr A.Ks
 nL:iz K mg "most_bytes" (fX 18) ["channels"] A.Kt A.Ku
 t6:iz K mg "busy_by_marks" (fX 20) ["settings","waiting","busy_before"] A.JO A.JP
 nK:iz K mg "busy_behind" (fX 21) ["busies","crossing"] A.J6 A.J7
 Ak:iz K mg "margin_of" (fX 23) ["settings"] A.KS A.KU
 Al:iz K mg "worst_row" (fX 24) ["settings"] A.KW A.KY
 AB:iz K mg "play_row" (fX 25) ["settings","yields"] A.Ly A.Lz
 t7:iz K mg "read_settings" (fX 58) ["text"] A.JQ A.JR
 AC:iz K mg "lines_of" (fX 59) ["text"] A.LA A.LB
 sign_of:iz K mg "sign_of" (fX 60) ["byte"] A.Mb A.Mc
 zJ:iz K mg "check_first_word" (fX 61) ["first","channels","told"] A.JA A.JB
 zW:iz K mg "read_values" (fX 62) ["words","end","names"] A.J8 A.J9
 Am:iz K mg "read_name" (fX 63) ["word","place","names"] A.KZ A.K0
 zX:iz K mg "read_number" (fX 64) ["word","place","most"] A.Ka A.Kb
 AD:iz K mg "one_text" (fX 65) ["settings"] A.LC A.LD
 uA:iz K mg "line_of" (fX 66) ["keyword","values"] A.Md A.Me
 qj:iz K mg "stretches_of" (fX 68) ["marks"] A.JZ A.J0
 zS:iz K mg "lowest_terms" (fX 69) ["part","whole"] A.J1 A.J2
 zL:iz K mg "counted_pairs" (fX 70) ["samples"] A.JS A.JT
 lD:iz K mg "row_fits" (fX 95) ["row","longest","greatest"] A.LF A.LG
 qk:iz K mg "samples_fit" (fX 96) ["samples"] A.Kc A.Kd
 tW:iz K mg "refused_crossings" (fX 97) ["readout","often","samples"] A.Jy A.Jz
 tY:iz K mg "refused_channel" (fX 98) ["readout","channel"] A.JF A.JG
 An:iz K mg "pairs_fit" (fX 99) ["channels","samples"] A.K1 A.K2
 Bo:iz K mg "rises" (fX 100) ["row"] A.ND A.NE
 DQ:iz K mg "tell_settings" (fX 101) ["front","numbers","text"] A.Dm A.JU
 EL:iz K mg "check_text" (fX 102) ["front","numbers","text"] A.DY A.Kv
 DF:iz K mg "print_settings" (fX 103) ["front","numbers","row"] A.Di A.JK
 EM:iz K mg "cross_once" (fX 104) ["front","numbers","samples"] A.DZ A.Kw
 En:iz K mg "cross_often" (fX 105) ["front","numbers","samples"] A.DM A.Ke
 Fv:iz K mg "show_wire" (fX 106) ["front","numbers","row"] A.Eh A.K3
 Fw:iz K mg "show_kept" (fX 107) ["front","numbers","row"] A.Ei A.K4
 Fx:iz K mg "show_high" (fX 108) ["front","numbers","row"] A.Ej A.K5
 Eo:iz K mg "show_counts" (fX 109) ["front","numbers","row"] A.DN A.Kf
 EN:iz K mg "show_frame" (fX 110) ["front","numbers","row"] A.D0 A.Kx
 Ep:iz K mg "show_margin" (fX 111) ["front","numbers","row"] A.DO A.Kg
 EO:iz K mg "show_worst" (fX 112) ["front","numbers","row"] A.D3 A.Ky
 Er:iz K mg "play_yields" (fX 113) ["front","numbers","yields"] A.DP A.Kh
 EQ:iz K mg "pack_frame" (fX 114) ["front","numbers","pairs"] A.D4 A.Kz
 ER:iz K mg "feed_bytes" (fX 115) ["front","numbers","octets"] A.D5 A.KA
 ES:iz K mg "show_heard" (fX 116) ["front","numbers","row"] A.D6 A.KB
 ET:iz K mg "show_check" (fX 117) ["front","numbers","signs"] A.D7 A.KC
 hush:iz K mg "hush" (fX 118) ["front","numbers","row"] A.GO A.Oe
 Fy:iz K mg "show_live" (fX 119) ["front","numbers","row"] A.Ek A.K6
 Fz:iz K mg "show_dead" (fX 120) ["front","numbers","row"] A.El A.K7
 EU:iz K mg "show_state" (fX 121) ["front","numbers","row"] A.D8 A.KD
 zY:iz K mg "numbers_due" (fX 123) ["call"] A.Ki A.Kj
 AU:iz K mg "has_row" (fX 124) ["call"] A.Mf A.Mg
 Ao:iz K mg "answer_to" (fX 125) ["front","call","numbers","row"] A.K8 A.K9
 answers:iz K mg "answers" (fX 127) ["calls"] A.Fh A.Fi
 FA:mg "Hearing"=some (.ref A.mJ)
 ka:mU K A.mJ
 FZ:Mk K A.mJ A.Dx
 JH:jh K A.mJ "channels"
 qh:jh K A.mJ "begun"
 DR:jh K A.mJ "read"
 vG:jh K A.mJ "bad"
 Mh:mg "Readout"=some (.ref A.hJ)
 gH:mU K A.hJ
 MS:Mk K A.hJ A.DB
 ly:jh K A.hJ "settings"
 Dj:jh K A.hJ "samples"
 t5:jh K A.hJ "highs"
 qi:jh K A.hJ "fates"
 rY:jh K A.hJ "busies"
 vD:jh K A.hJ "frames"
 zM:jh K A.hJ "sent"
 xM:jh K A.hJ "gone"
 zN:jh K A.hJ "most"
 mL:mg "Fault"=some (.ref A.m8)
 LH:mg "Settings"=some (.ref A.lQ)
 im:mU K A.lQ
 Mi:Mk K A.lQ A.Dq
 nJ:jh K A.lQ "channels"
 DG:jh K A.lQ "told"
 tZ:jh K A.lQ "ahead"
 Dk:jh K A.lQ "behind"
 xJ:jh K A.lQ "depth"
 qU:jh K A.lQ "rate"
 tV:jh K A.lQ "high_mark"
 C9:jh K A.lQ "low_mark"
 vE:jh K A.lQ "delay"
 DS:jh K A.lQ "gap"
 Vj:mg "FrontEnd"=some (.ref A.j8)
 j9:mU K A.j8
 We:Mk K A.j8 A.Ds
 lz:jh K A.j8 "readout"
 xH:jh K A.j8 "hearing"
 xc:pR K A.m8 A.D9
 SE:jV K "__init__" "Hearing.__init__" (iZ (fX 27) 0) A.Dx A.Dy
 F0:Binds K A.Dy ["self","channels"] []
 SH:jV K "hear" "Hearing.hear" (iZ (fX 27) 1) A.Dz A.DA
 Te:Binds K A.DA ["self","octets"] []
 TY:lY K A.mJ "hear" A.Dz
 Rh:jV K "begin_frame" "Hearing.begin_frame" (iZ (fX 27) 2) A.CS A.CT
 Ro:Binds K A.CT ["self"] []
 Rz:lY K A.mJ "begin_frame" A.CS
 RA:jV K "end_frame" "Hearing.end_frame" (iZ (fX 27) 3) A.CZ A.C0
 RK:Binds K A.C0 ["self"] []
 RX:lY K A.mJ "end_frame" A.CZ
 SI:jV K "__init__" "Readout.__init__" (iZ (fX 35) 0) A.DB A.DC
 MT:Binds K A.DC ["self","settings"] []
 SJ:jV K "come" "Readout.come" (iZ (fX 35) 1) A.DD A.DE
 Kk:Binds K A.DE ["self","asked","samples"] []
 KE:lY K A.hJ "come" A.DD
 Rp:jV K "come_often" "Readout.come_often" (iZ (fX 35) 2) A.CU A.CV
 RB:Binds K A.CV ["self","often","asked","samples"] []
 RL:lY K A.hJ "come_often" A.CU
 RC:jV K "crossings" "Readout.crossings" (iZ (fX 35) 3) A.C1 A.C2
 xF:Binds K A.C2 ["self"] []
 xI:lY K A.hJ "crossings" A.C1
 RY:jV K "waiting" "Readout.waiting" (iZ (fX 35) 4) A.Da A.Db
 tX:Binds K A.Db ["self"] []
 t4:lY K A.hJ "waiting" A.Da
 Sk:jV K "known" "Readout.known" (iZ (fX 35) 5) A.Dn A.Do
 DH:Binds K A.Do ["self"] []
 DT:lY K A.hJ "known" A.Dn
 RD:jV K "busy_seen" "Readout.busy_seen" (iZ (fX 35) 6) A.C3 A.C4
 JC:Binds K A.C4 ["self","crossing"] []
 JI:lY K A.hJ "busy_seen" A.C3
 RM:jV K "highs_at" "Readout.highs_at" (iZ (fX 35) 7) A.C7 A.C8
 RZ:Binds K A.C8 ["self","samples"] []
 R6:lY K A.hJ "highs_at" A.C7
 R0:jV K "fate_of" "Readout.fate_of" (iZ (fX 35) 8) A.Dc A.Dd
 R7:Binds K A.Dd ["self","asked"] []
 Sl:lY K A.hJ "fate_of" A.Dc
 Rq:jV K "make_frame" "Readout.make_frame" (iZ (fX 35) 9) A.CW A.CY
 RE:Binds K A.CY ["self","crossing"] []
 RN:lY K A.hJ "make_frame" A.CW
 Rc:jV K "kept_samples" "Readout.kept_samples" (iZ (fX 35) 10) A.CP A.CQ
 Ri:Binds K A.CQ ["self","crossing"] []
 Rr:lY K A.hJ "kept_samples" A.CP
 R1:jV K "is_kept" "Readout.is_kept" (iZ (fX 35) 11) A.De A.Df
 JL:Binds K A.Df ["self","crossing","place"] []
 JV:lY K A.hJ "is_kept" A.De
 TZ:jV K "__init__" "Fault.__init__" (iZ (fX 56) 0) A.D9 A.Ea
 nT:Binds K A.Ea ["self","kind","place"] []
 Sm:jV K "__init__" "Settings.__init__" (iZ (fX 57) 0) A.Dq A.Dr
 Mj:Binds K A.Dr ["self","channels","told"] []
 Sn:jV K "__init__" "FrontEnd.__init__" (iZ (fX 94) 0) A.Ds A.Dt
 Wf:Binds K A.Dt ["self"] []
 Eb:iD mg "FRAME_BEGINS" (128)
 EV:iD mg "FRAME_ENDS" (129)
 T0:iD mg "BESIDE_SIGNS" (5)
 xQ:iD mg "NUMBER_BITS" (12)
 Yn:iD mg "NUMBERS" (4096)
 EW:iD mg "WIDTH_BITS" (4)
 La:iD mg "SAMPLE_BITS" (12)
 uj:iD mg "SIGN_BITS" (7)
 OE:iD mg "SIGNS" (128)
 Yo:iD mg "DIVISOR" (17475)
 UH:iD mg "DIVISOR_TOP" (16384)
 FC:iD mg "NOT_ASKED" (0)
 sI:iD mg "TAKEN" (1)
 Lb:iD mg "DEAD_BY_GAP" (2)
 KF:iD mg "DEAD_BY_BUSY" (3)
 NH:iD mg "WENT_IN" (1)
 abv:iD mg "LOST" (0)
 F1:iD mg "LINE_END" (10)
 aaw:iD mg "BLANK" (32)
 Of:yE mg "DIGITS" "0123456789"
 NI:yE mg "LETTERS" "abcdefghijklmnopqrstuvwxyz"
 Xe:yE mg "STRANGER" "?"
 zO:iD mg "MOST_CHANNELS" (8)
 UI:iD mg "MOST_DIGITS" (7)
 T1:iD mg "LONGEST_NAME" (8)
 rZ:iD mg "WRONG_WORD" (1)
 ZH:iD mg "BEYOND" (2)
 KG:iD mg "TOLD_ALREADY" (4)
 Tf:iD mg "NINTH_CHANNEL" (5)
 aax:iD mg "ABOVE" (6)
 O6:yE mg "NAME" "NAME"
 G3:mg "FORMS"=some (.ref A.NF)
 GP:wj P w K A.NF [(Sum.inr "channel",.ref A.uc),(Sum.inr "keep",.ref A.ue),(Sum.inr "buffer",.ref A.uf),(Sum.inr "delay",.ref A.uh),(Sum.inr "gap",.ref A.ui)]
 Xf:iX K A.uc [.str "NAME",.str "pedestal",.int (4095),.str "on",.int (4095),.str "off",.int (4095)]
 Xg:iX K A.ue [.int (4),.int (4)]
 Xh:iX K A.uf [.int (400),.str "rate",.int (50),.str "high",.int (400),.str "low",.int (400)]
 Xi:iX K A.uh [.int (8)]
 Xj:iX K A.ui [.int (10)]
 Yp:mg "ORDERED"=some (.ref A.Fj)
 Xk:iX K A.Fj [.str "channel",.str "buffer"]
 O7:mg "ONCE"=some (.ref A.yn)
 OF:iX K A.yn [.str "keep",.str "buffer",.str "delay",.str "gap"]
 Wg:mg "NOT_NAMES"=some (.ref A.Em)
 Vk:iX K A.Em [.str "channel",.str "pedestal",.str "on",.str "off",.str "keep",.str "buffer",.str "rate",.str "high",.str "low",.str "delay",.str "gap"]
 Bb:mg "UNTOLD"=some (.ref A.MR)
 AV:wj P w K A.MR [(Sum.inr "keep",.ref A.zZ),(Sum.inr "buffer",.ref A.z0),(Sum.inr "delay",.ref A.z8),(Sum.inr "gap",.ref A.z9)]
 Wh:iX K A.zZ [.int (0),.int (0)]
 Wi:iX K A.z0 [.int (400),.int (20),.int (200),.int (100)]
 Wj:iX K A.z8 [.int (0)]
 Wk:iX K A.z9 [.int (0)]
 pF:iD mg "OUT_OF_RANGE" (-1)
 SK:iD mg "TEXT_HAS_FAULT" (-3)
 RO:iD mg "TOO_MANY_CROSSINGS" (-4)
 FD:iD mg "NOT_THERE" (-5)
 T2:iD mg "NOT_ONE_EACH" (-6)
 Wl:iD mg "NOT_TAKEN" (-7)
 Vl:iD mg "NOT_RISING" (-7)
 Wm:iD mg "NOT_KNOWN" (-8)
 SL:iD mg "ABOVE_GREATEST" (-9)
 KH:iD mg "LONGEST_TEXT" (1000)
 DU:iD mg "GREATEST_BYTE" (255)
 So:iD mg "GREATEST_SAMPLE" (4095)
 JJ:iD mg "GREATEST_CROSSING" (4095)
 SM:iD mg "MOST_CROSSINGS" (400)
 Vm:iD mg "MOST_OFTEN" (100)
 Tg:iD mg "FARTHEST_BYTE" (20000)
 R8:iD mg "MOST_BYTES_ASKED" (300)
 UJ:iD mg "MOST_YIELDS" (500)
 SN:iD mg "GREATEST_YIELD" (100)
 SO:iD mg "MOST_BYTES_FED" (400)
 Vn:iD mg "MOST_SIGNS" (100)
 Th:iD mg "GREATEST_SIGN" (127)
 G4:mg "CALLS"=some (.ref A.NG)
 GQ:wj P w K A.NG [(Sum.inl 0,.ref A.Fk),(Sum.inl 1,.ref A.Fl),(Sum.inl 2,.ref A.Fm),(Sum.inl 3,.ref A.Fn),(Sum.inl 4,.ref A.Fo),(Sum.inl 5,.ref A.Fp),(Sum.inl 6,.ref A.Fq),(Sum.inl 7,.ref A.Fs),(Sum.inl 8,.ref A.Ft),(Sum.inl 9,.ref A.Fu),(Sum.inl 10,.ref A.EA),(Sum.inl 11,.ref A.EB),(Sum.inl 12,.ref A.EC),(Sum.inl 13,.ref A.ED),(Sum.inl 14,.ref A.EE),(Sum.inl 15,.ref A.EF),(Sum.inl 16,.ref A.EG),(Sum.inl 17,.ref A.EH),(Sum.inl 18,.ref A.EI),(Sum.inl 19,.ref A.EJ),(Sum.inl 20,.ref A.EK)]
 Xl:iX K A.Fk [.int (0),.bl true,.ref A.Dm]
 Xm:iX K A.Fl [.int (0),.bl true,.ref A.DY]
 Xn:iX K A.Fm [.int (0),.bl false,.ref A.Di]
 Xo:iX K A.Fn [.int (1),.bl true,.ref A.DZ]
 Xp:iX K A.Fo [.int (2),.bl true,.ref A.DM]
 Xq:iX K A.Fp [.int (2),.bl false,.ref A.Eh]
 Xr:iX K A.Fq [.int (1),.bl false,.ref A.Ei]
 Xs:iX K A.Fs [.int (1),.bl false,.ref A.Ej]
 Xt:iX K A.Ft [.int (0),.bl false,.ref A.DN]
 Xu:iX K A.Fu [.int (1),.bl false,.ref A.D0]
 Wn:iX K A.EA [.int (0),.bl false,.ref A.DO]
 Wo:iX K A.EB [.int (0),.bl false,.ref A.D3]
 Wp:iX K A.EC [.int (0),.bl true,.ref A.DP]
 Wq:iX K A.ED [.int (1),.bl true,.ref A.D4]
 Wr:iX K A.EE [.int (0),.bl true,.ref A.D5]
 Ws:iX K A.EF [.int (0),.bl false,.ref A.D6]
 Wt:iX K A.EG [.int (0),.bl true,.ref A.D7]
 Wu:iX K A.EH [.int (0),.bl false,.ref A.GO]
 Wv:iX K A.EI [.int (0),.bl false,.ref A.Ek]
 Ww:iX K A.EJ [.int (0),.bl false,.ref A.El]
 Wx:iX K A.EK [.int (0),.bl false,.ref A.D8]
open Vbkdaa (bitsOf signs)
def ZI:Sp:=fun vs H Q _=>∃n k:Nat,vs=[.int n,.int k]/\k<=1000/\∀p,H p=none->Q (.ref p) (fM H p (.lst ((bitsOf k n).map bV)))
def Yq:Sp:=fun vs H Q _=>∃(a:Addr) (l:List Bool),vs=[.ref a]/\H a=some (.lst (l.map bV))/\l.length<=1000/\∀H' p,fQ H H'->H p=none->H' p=some (.lst ((signs l).map nV))->Q (.ref p) H'
def Xv(K:PySem.W.Frag):Sp:=fun vs H Q _=>∃(a:Addr) (l:List Bool),vs=[.ref a]/\fR K H a (l.map bV)/\Q (.int (Vbkdaa.valueOf l)) H
section
variable {P:Program} {w:World} {K:PySem.W.Frag} {mg:Str->Option Value} {base:Heap} {AA:gu}
theorem Vo:gP ["number","width","place"] ["number","width"] (gL (fX 12)):=gX (by decide+kernel)
theorem EY(T:Tx P w K mg AA):gK P w K mg base gT 1 AA.L9 AA.Ma ["number","width"] ZI:=by
 have SC:=Vo;refine T.mz.fn.ok SC (fun vs H Q E h=> ?_) (fun gy A outer s H vs Q E hr h=> ?_)
 ·obtain⟨n,k,rfl,_⟩:=h;rfl
 ·obtain⟨n,k,rfl,hk,hq⟩:=h;refine⟨_,(fV (gC (mf (own:=[("place",2)]) Z SC.nd (xU Z T.range (fN (pv 1) fP)) (lC (by kernel_rfl)) (fun s H C cl fp=>(iI (i:=2) SC.nd Z (Or.inl Z) (.inr Z))) (fun s H C cl fp=>md) (fun s H C cl fp=>(gA Zh (gA Zg (pv 0) (gA jK (gA jK (pv 1) fW) (pv 2))) fW))))),?_⟩;refine⟨_,Z,(k:Int),Z,by omega,by omega,fun D hD=> ?_⟩;refine Aw (n:=(k:Int).toNat) (fun i H'=>H'=fM H D (.lst (((bitsOf k n).map bV).take i))) Z (fun i H' hi hH=> ?_) (fun H' hH=> ?_)
  ·subst hH;have hik:i<k:=by omega
   refine⟨Z,?_⟩;refine⟨_,Z,_,Z,_,_,Z,Z,_,Z,_,_,Z,Z,_,_,Z,Z,(by show(0:Int)<=(k:Int)-1-(0+(i:Int));omega),_,_,Z,Z,_,fO,?_,?_⟩
   ·rw[aD,ac,jX];exact cC (Nat.min_le_right _ _) (cC hk (by decide))
   ·show fM (fM H D _) D _=fM H D _;rw[jn,bC]
    congr 3
    have e1:(((bitsOf k n).map bV))[i]? =some (V.int ((n/2^(k-1-i)% 2:Nat):Int)):=by
     rw[au,Aj hik];show some (V.int (iu _:Int))=_;rw[NC]
    rw[e1];show[V.int (Builtin.bitAnd ((n:Int)/2^(((k:Int)-1-(0+(i:Int))).toNat)) 1)]=[V.int ((n/2^(k-1-i)% 2:Nat):Int)];rw[bitAnd_m1,show((k:Int)-1-(0+(i:Int))).toNat=k-1-i by omega]
    congr 2
  ·subst hH;have e:((bitsOf k n).map bV).take (k:Int).toNat=(bitsOf k n).map bV:=aV (by rw[ac,jX];omega);rw[e];exact hq D hD
theorem Vp(l:List Bool)(j:Nat)(b:Bool)(h:l[j]? =some b):(Vbkdaa.valueOf (l.take (j+1)):Int)=(Vbkdaa.valueOf (l.take j):Int)*2+(iu b:Int):=by
 rw[pG,pG,bC,h,bX];simp
theorem T3:gP ["bits","number","bit"] ["bits"] (gL (fX 13)):=gX (by decide+kernel)
theorem KI(T:Tx P w K mg AA):gK P w K mg base gT 1 AA.KQ AA.KR ["bits"] (Xv K):=by
 have SC:=T3;refine T.nM.fn.ok SC (fun vs H Q E h=> ?_) (fun gy A outer s H vs Q E hr h=> ?_)
 ·obtain⟨a,l,rfl,_⟩:=h;rfl
 ·obtain⟨a,l,rfl,ha,hq⟩:=h
  refine⟨_,(fS (gj (i:=1) SC.nd Z (Or.inl Z) fW)
   (fS (lE bg Z (ma (pv 0)) (iI (i:=2) SC.nd Z (Or.inl Z))
     (fV (gj (i:=1) SC.nd Z (Or.inl Z) (gA jg (gA A4 (pv 1) fW) (pv 2)))))
   (fV (gC (pv 1))))),?_⟩
  refine⟨_,Z,a,Z,⟨_,ha⟩,qW (K:=K) (a:=a) (xs:=l.map bV) (fun j σ H'=>∃v2,σ=[some (.ref a),some (.int (Vbkdaa.valueOf (l.take j):Int)),v2]/\H'=H)
   ⟨none,Z,Z⟩ (fun j σ H' _ ⟨_,_,e⟩=>by rw[e];exact ha) ?_ ?_⟩
  ·rintro j x σ H' hx ⟨v2,rfl,rfl⟩;obtain⟨b,hb,rfl⟩:=kF hx;refine⟨_,Z,_,_,Z,Z,.inr ⟨by decide,by decide⟩,_,Z,_,_,Z,Z,?_⟩;refine⟨some (bV b),?_,Z⟩;rw[Vp l j b hb];rfl
  ·rintro σ H' ⟨v2,rfl,rfl⟩;rw[ac,aT];exact⟨_,Z,hq⟩
theorem UK:gP ["bits","filled","start"] ["bits"] (gL (fX 14)):=gX (by decide+kernel)
theorem UL(T:Tx P w K mg AA):gK P w K mg base gT 2 AA.Lr AA.Ls ["bits"] Yq:=by
 have xR:=KI (base:=base) T;have SC:=UK;refine T.Az.fn.ok SC (fun vs H Q E h=> ?_) (fun gy A outer s H vs Q E hr h=> ?_)
 ·obtain⟨a,l,rfl,_⟩:=h;rfl
 ·obtain⟨a,l,rfl,ha,hl,hq⟩:=h
  refine⟨_,(fS (gj (i:=1) SC.nd Z (Or.inr Z) (gA j2 (pv 0) (gA A8 (gI (fN fW fP)) (gA A5 (qA qv (gU iL (by rfl) T.len aF (fN (pv 0) fP))) (gz Z T.uj)))))
   (fV (gC (mf (own:=[("start",2)]) Z SC.nd (V3 Z T.range (fN fW (fN (gU iL (by rfl) T.len aF (fN (pv 1) fP)) (fN (gz Z T.uj) fP)))) (lC (by kernel_rfl)) (fun s H C cl fp=>(iI (i:=2) SC.nd Z (Or.inl Z) (.inr Z))) (fun s H C cl fp=>md) (fun s H C cl fp=>(ic xR (hr.mono (by decide)) Z T.nM.mg T.nM.fn.kp T.nM.b .nil gG (fN (oB (r:=Hi K) oF (pv 1) (kn (pv 2)) (kn (gA jg (pv 2) (gz Z T.uj)))) fP))))))),?_⟩
  have hp:=vR l.length;have hpb:jI l.length<7:=by unfold jI;omega
  refine⟨_,Z,fY (by simp),fun q1 n1=> ?_⟩;have a1:(fM H q1 (.lst [.int 0])) a=some (.lst (l.map bV)):=by rw[fT (gf ha n1)];exact ha
  refine⟨_,Z,a,_,Z,.inl (fR.of a1),_,Z,_,_,Z,Z,(by show(0:Int)<7;decide),q1,_,_,Z,Z,fO,?_,?_,?_,fun q2 n2=> ?_⟩
  ·rw[ac,AR];omega
  ·rw[ac,AR];omega
  ·rw[ac,AR];exact fY (by simp;omega)
  have abw:(List.replicate ((-((l.map bV).length:Int))% 7).toNat [V.int 0]).flatten=(List.replicate (jI l.length) false).map bV:=by
   rw[ac,AR,a7,List.map_replicate];generalize jI l.length=k
   induction k with
   |zero=>rfl
   |succ k ih=>rw[bN,cu,ih,bN];rfl
  rw[abw];generalize w9:fM (fM H q1 (.lst [.int 0])) q2 (.lst ((List.replicate (jI l.length) false).map bV))=H2;have s2:fQ H H2:=by rw[<-w9];exact(fQ.new n1).more n2
  refine⟨a,q2,_,_,Z,Z,s2 _ _ ha,by rw[<-w9];exact fO,fY (by simp;omega),fun q3 n3=> ?_⟩;generalize hF:l++List.replicate (jI l.length) false=qx;have hFl:qx.length=7*sH l.length:=by rw[<-hF,ag,bQ];exact hp
  have eF:l.map bV++(List.replicate (jI l.length) false).map bV=qx.map bV:=by rw[<-hF,ao]
  rw[eF];generalize yM:fM H2 q3 (.lst (qx.map bV))=H3;have s3:fQ H H3:=by rw[<-yM];exact s2.more n3
  have f3:H3 q3=some (.lst (qx.map bV)):=by rw[<-yM];exact fO
  refine⟨_,Z,q3,_,Z,.inl (fR.of f3),0,((qx.map bV).length:Int),7,sH l.length,Z,?_,fun q4 n4=> ?_⟩
  ·rw[ac,hFl];exact ZG (c:=7) (by decide) (by decide) (by omega)
  have zd:H q4=none:=s3.free n4;have PX:q3≠q4:=gf f3 n4;have eS:signs l=(List.range (sH l.length)).map (lW qx):=by rw[Ay,hF]
  refine Wd (fun i H'=>fQ H H'/\H' q3=some (.lst (qx.map bV))/\H' q4=some (.lst (((List.range i).map (lW qx)).map nV)))
   ⟨s3.put zd,by rw[fT PX];exact f3,fO⟩ ?_ ?_
  ·rintro i H4 hi ⟨s4,g3,g4⟩;refine⟨Z,?_⟩;refine⟨_,Z,_,Z,_,Z,_,Z,_,_,Z,Z,_,Z,q3,_,Z,fR.of g3,fun q5 n5=> ?_⟩
   have By:jZ (qx.map bV) (some ((0:Int)+(i:Int)*7)) (some ((0:Int)+(i:Int)*7+7))=((qx.drop (7*i)).take 7).map bV:=by
    rw[show(0:Int)+(i:Int)*7=((7*i:Nat):Int) by omega,show((7*i:Nat):Int)+7=((7*i+7:Nat):Int) by omega,su,<-cq,<-b9,show 7*i+7-7*i=7 by omega]
   rw[By];have Ie:q4≠q5:=gf g4 n5;have n35:q3≠q5:=gf g3 n5;refine⟨q5,_,Z,fR.of fO,?_⟩;refine⟨_,(by rw[fT Ie];exact g4),?_,?_,?_,?_⟩
   ·rw[ac,ac,eY];exact iU (by omega)
   ·exact(s4.more n5).put zd
   ·rw[fT PX,fT n35];exact g3
   ·rw[fO,eO,ao,ao];rfl
  ·rintro H4 ⟨s4,g3,g4⟩;rw[<-eS] at g4;exact hq H4 q4 s4 zd g4
end
open Vbkdaa (bitsIn shift remainder)
theorem Vq(a b:Nat):Builtin.bitXor (a:Int) (b:Int)=((a^^^b:Nat):Int):=by
 have h:=UG a b;have n1:¬(0<=Builtin.bitNot (a:Int)):=by unfold Builtin.bitNot;omega
 have n2:¬(0<=Builtin.bitNot (b:Int)):=by unfold Builtin.bitNot;omega
 have b1:(Builtin.bitNot (Builtin.bitNot (a:Int))).toNat=a:=by unfold Builtin.bitNot;omega
 have b2:(Builtin.bitNot (Builtin.bitNot (b:Int))).toNat=b:=by unfold Builtin.bitNot;omega
 have e1:Builtin.bitOr (a:Int) (b:Int)=((a|||b:Nat):Int):=by
  unfold Builtin.bitOr
  have e:Builtin.bitAnd (Builtin.bitNot (a:Int)) (Builtin.bitNot (b:Int))=Builtin.bitNot ((a|||b:Nat):Int):=by
   unfold Builtin.bitAnd;rw[ae n1,ae n2,b1,b2]
  rw[e];unfold Builtin.bitNot;omega
 have e2:Builtin.bitAnd (a:Int) (b:Int)=((a&&&b:Nat):Int):=by
  unfold Builtin.bitAnd;rw[ai (Int.natCast_nonneg a),ai (Int.natCast_nonneg b)];rfl
 unfold Builtin.bitXor;rw[e1,e2];omega
def Yr:Sp:=fun vs H Q _=>∃(a:Addr) (l:List Nat),vs=[.ref a]/\H a=some (.lst (l.map nV))/\l.length<=1000/\
 ∀H' p,fQ H H'->H p=none->H' p=some (.lst [nV (remainder (l++[0,0])/128),nV (remainder (l++[0,0])% 128)])->Q (.ref p) H'
section
variable {P:Program} {w:World} {K:PySem.W.Frag} {mg:Str->Option Value} {base:Heap} {AA:gu}
theorem UM:gP ["signs","remainder","sign","bit"] ["signs"] (gL (fX 15)):=gX (by decide+kernel)
theorem Lc(T:Tx P w K mg AA):gK P w K mg base gT 2 AA.Lu AA.Lv ["signs"] Yr:=by
 have um:=EY (base:=base) T;have SC:=UM;refine T.ut.fn.ok SC (fun vs H Q E h=> ?_) (fun gy A outer s H vs Q E hr h=> ?_)
 ·obtain⟨a,l,rfl,_⟩:=h;rfl
 ·obtain⟨a,l,rfl,ha,hl,hq⟩:=h
  refine⟨_,(fS (gj (i:=1) SC.nd Z (Or.inl Z) fW)
   (fS (lE bg Z (ma (gA j2 (pv 0) (gI (fN fW (fN fW fP))))) (iI (i:=2) SC.nd Z (Or.inl Z))
     (fV (lE bg Z (ma (ic um (hr.mono (by decide)) Z T.mz.mg T.mz.fn.kp T.mz.b .nil gG (fN (pv 2) (fN (gz Z T.uj) fP)))) (iI (i:=3) SC.nd Z (Or.inl Z))
       (fS (gj (i:=1) SC.nd Z (Or.inl Z) (gA jg (gA A4 (pv 1) fW) (pv 3)))
       (fV (gY (io we (pv 1) (gz Z T.UH) (ii _))
         (fV (gj (i:=1) SC.nd Z (Or.inl Z) (gA Zi (pv 1) (gz Z T.Yo))))
         ia))))))
   (fV (gC (gI (fN (gA vQ (pv 1) (gz Z T.OE)) (fN (gA A5 (pv 1) (gz Z T.OE)) fP))))))),?_⟩
  refine⟨_,Z,fY (by simp),fun q1 n1=> ?_⟩;refine⟨a,q1,_,_,Z,Z,(by rw[fT (gf ha n1)];exact ha),fO,fY (by simp;omega),fun q2 n2=> ?_⟩;have s2:fQ H (fM (fM H q1 (.lst [.int 0,.int 0])) q2 (.lst (l.map nV++[.int 0,.int 0]))):=(fQ.new n1).more n2;have qL:H q2=none:=(fQ.new (o:=.lst [.int 0,.int 0]) n1).free n2;have eL:l.map nV++[V.int 0,V.int 0]=(l++[0,0]).map nV:=by rw[ao];rfl
  rw[eL] at s2⊢;generalize hL:l++[0,0]=L at*
  refine⟨q2,Z,⟨_,fR.of fO⟩,qW (K:=K) (a:=q2) (xs:=L.map nV) (fun i σ H'=>∃v2 v3,σ=[some (.ref a),some (.int (remainder (L.take i):Int)),v2,v3]/\fQ H H'/\H' q2=some (.lst (L.map nV)))
   ⟨none,none,Z,s2,fO⟩ (fun i σ H' _ ⟨_,_,_,_,e⟩=>fR.of e) ?_ ?_⟩
  ·rintro i x σ H3 hx ⟨v2,v3,rfl,s3,g3⟩;rw[au] at hx;cases hb:L[i]? with
   |none=>rw[hb] at hx;cases hx
   |some y=>
    rw[hb] at hx;have ex:x=nV y:=(af hx).symm;subst ex;refine⟨_,Z,y,7,Z,by decide,fun q3 n3=> ?_⟩;have p5:q2≠q3:=gf g3 n3
    have step:∀j b,(bitsOf 7 y)[j]? =some b->((bitsOf 7 y).take (j+1)).foldl shift (remainder (L.take i))=shift (((bitsOf 7 y).take j).foldl shift (remainder (L.take i))) b:=fun j b h=>by
     rw[bC,h,bX];rfl
    refine⟨q3,Z,⟨_,fR.of fO⟩,qW (K:=K) (a:=q3) (xs:=(bitsOf 7 y).map bV) (fun j σ H'=>∃v3,σ=[some (.ref a),some (.int (((bitsOf 7 y).take j).foldl shift (remainder (L.take i)):Nat)),some (.int y),v3]/\H'=fM H3 q3 (.lst ((bitsOf 7 y).map bV)))
     ⟨v3,Z,Z⟩ (fun j σ H' _ ⟨_,_,e⟩=>by rw[e];exact fR.of fO) ?_ ?_⟩
    ·rintro j x σ H' hx ⟨v3,rfl,rfl⟩;rw[au] at hx;cases lu:(bitsOf 7 y)[j]? with
     |none=>rw[lu] at hx;cases hx
     |some b=>
      rw[lu] at hx;have ex:x=bV b:=(af hx).symm;subst ex;have kK:=step j b lu;have hZ:((bitsOf 7 y).take j).foldl shift (remainder (L.take i))<16384:=AS _ _ (zR _);generalize ((bitsOf 7 y).take j).foldl shift (remainder (L.take i))=r at kK hZ;have ev:(r:Int)*2+(iu b:Int)=((2*r+(if b=true then 1 else 0):Nat):Int):=by unfold iu;split<;>omega
      refine⟨_,Z,_,_,Z,Z,.inr ⟨by decide,by decide⟩,_,Z,_,_,Z,Z,?_⟩;refine⟨_,Z,_,_,Z,Z,_,Z,?_⟩;have Ig:shift r b=(if 16384<=2*r+(if b=true then 1 else 0) then(2*r+(if b=true then 1 else 0))^^^17475 else 2*r+(if b=true then 1 else 0)):=rfl
      by_cases c:16384<=2*r+(if b=true then 1 else 0)
      ·refine fZ (ai (by show(16384:Int)<=(r:Int)*2+(iu b:Int);rw[ev];omega)) ?_;refine⟨_,Z,_,_,Z,Z,?_⟩;refine⟨some (bV b),?_,Z⟩;rw[kK,Ig,aw c];show[_,some (V.int (Builtin.bitXor ((r:Int)*2+(iu b:Int)) 17475)),_,_]=_;rw[ev,show(17475:Int)=((17475:Nat):Int) from Z,Vq]
      ·refine gn (ae (by show¬(16384:Int)<=(r:Int)*2+(iu b:Int);rw[ev];omega)) ?_;refine⟨some (bV b),?_,Z⟩;rw[kK,Ig,am c];show[_,some (V.int ((r:Int)*2+(iu b:Int))),_,_]=_;rw[ev]
    ·rintro σ H' ⟨v3,rfl,rfl⟩;refine⟨some (.int y),v3,?_,s3.more n3,by rw[fT p5];exact g3⟩
     have er:remainder (L.take (i+1))=(bitsOf 7 y).foldl shift (remainder (L.take i)):=by
      rw[bC,hb];exact SD _ _
     rw[er,ac,aT]
  ·rintro σ H3 ⟨v2,v3,rfl,s3,g3⟩;rw[ac,aT];have hZ:=zR L;generalize remainder L=r at hZ hq;refine⟨_,Z,_,_,Z,Z,⟨by decide,by decide⟩,_,Z,_,_,Z,Z,(by show(0:Int)<128;decide),fY (by simp),fun q4 n4=> ?_⟩;refine hq _ q4 (s3.more n4) (s3.free n4) ?_;rw[fO];rfl
end
end FE
namespace L2
open PySem PySem.Spec PyProof.Rows
theorem Wy{X:Cx}:wR X "int.bit_length" (fun x xs H Q=>∃i,x=.int i/\xs=[]/\Q (.int (Builtin.Int.intBits i)) H):=by
 intro fL s σ H x xs v us Q I rx rs h;obtain⟨i,rfl,rfl,q⟩:=h;obtain⟨t,rfl⟩:=rx;cases rs;exact call_int_bit_length ⟨.int _,H,I.tok _,⟨_,Z⟩,q⟩
end L2
namespace FE
open PySem PySem.Spec PyProof.Rows L2
open Vbkdaa (bitsOf signs bitsIn shift remainder encoded Frame keptOf width frameBits)
theorem UN(n:Nat):Builtin.Int.intBits (n:Int)=oS n:=by
 unfold Builtin.Int.intBits oS
 by_cases h:n=0
 ·subst h;rfl
 ·rw[am h,am (by simp;omega)];simp
def oV:Option Nat->V
 |none=>.gS
 |some n=>.int n
theorem ZJ{l:List Nat}{m:Int}(h0:l.map (fun n:Nat=>(n:Int))=[]->m=0)(h1:l.map (fun n:Nat=>(n:Int))≠ []->m∈l.map (fun n:Nat=>(n:Int))/\∀y,y∈l.map (fun n:Nat=>(n:Int))->y<=m):m=(gr l:Int):=by
 cases l with
 |nil=>rw[h0 Z];rfl
 |cons x r=>
  obtain⟨a,b⟩:=h1 (by simp);obtain⟨k,hk,rfl⟩:=bi.mp a;have h2:=OD hk
  have h3:∀y∈x::r,y<k+1:=fun y hy=>by
   have:=b (y:Int) (fH hy);omega
  have:=wk (x::r) (k+1) h3 (by omega);omega
def Ys(K:PySem.W.Frag):Sp:=fun vs H Q _=>∃(t:Nat) (a:Addr) (ss:List (Option Nat)),vs=[.int t,.ref a]/\fR K H a (ss.map oV)/\ss.length<=8/\(∀n,some n∈ss->n<4096)/\
 ∀H' p,fQ H H'->H p=none->H' p=some (.lst ((encoded ⟨t% 4096,ss⟩).map nV))->Q (.ref p) H'
section
variable {P:Program} {w:World} {K:PySem.W.Frag} {mg:Str->Option Value} {base:Heap} {AA:gu}
theorem UO:gP ["crossing","samples","sample","kept","width","bits","signs","checked"] ["crossing","samples"] (gL (fX 16)):=gX (by decide+kernel)
theorem Wz(ss:List (Option Nat))(i:Nat)(y:Option Nat)(h:ss[i]? =some y):(ss.take (i+1)).filterMap (fun x=>x)=(ss.take i).filterMap (fun x=>x)++y.toList:=by
 rw[bC,h,List.filterMap_append];cases y<;>simp
theorem Es(T:Tx P w K mg AA):gK P w K mg base gT 3 AA.Lw AA.Lx ["crossing","samples"] (Ys K):=by
 have um:=EY (base:=base) T;have Vr:=UL (base:=base) T;have EZ:=Lc (base:=base) T;have SC:=UO;refine T.qm.fn.ok SC (fun vs H Q E h=> ?_) (fun gy A outer s H vs Q E hr h=> ?_)
 ·obtain⟨t,a,ss,rfl,_⟩:=h;rfl
 ·obtain⟨t,a,ss,rfl,ha,hl,hb,hq⟩:=h
  refine⟨_,(fS (ML (i:=3) (own:=[("sample",2)]) Z SC.nd Z Z (Nr Z Z Z (by kernel_rfl)) (ma (pv 1)) (lC (by kernel_rfl)) (fun s H C cl fp=>(iI (i:=2) SC.nd Z (Or.inl Z) (.inr Z))) (fun s H C cl fp=>(Np (qt (Gn (pv 2))))) (fun s H C cl fp=>(pv 2)))
   (fS (gj (i:=4) SC.nd Z (Or.inl Z) (Zm PySem.F.plainAttrs_int PySem.F.slot_int_bit_length PySem.F.type_int_bit_length Wy (Gw Z Z T.max (fN (pv 3) fP) (yd fW yj))))
   (fS (gj (i:=5) SC.nd Z (Or.inl Z) (ic um (hr.mono (by decide)) Z T.mz.mg T.mz.fn.kp T.mz.b .nil gG (fN (gA A5 (pv 0) (gz Z T.Yn)) (fN (gz Z T.xQ) fP))))
   (fS (iR (iT ax a0 a5 m6 (pv 5) (fN (mf (own:=[("sample",2)]) Z SC.nd (ma (pv 1)) (lC (by kernel_rfl)) (fun s H C cl fp=>(iI (i:=2) SC.nd Z (Or.inl Z) (.inr Z))) (fun s H C cl fp=>md) (fun s H C cl fp=>(ya (qt (A0 (pv 2))) fW fW))) fP)))
   (fS (iR (iT ax a0 a5 m6 (pv 5) (fN (ic um (hr.mono (by decide)) Z T.mz.mg T.mz.fn.kp T.mz.b .nil gG (fN (pv 4) (fN (gz Z T.EW) fP))) fP)))
   (fS (lE bg Z (ma (pv 3)) (iI (i:=2) SC.nd Z (Or.inl Z))
     (fV (iR (iT ax a0 a5 m6 (pv 5) (fN (ic um (hr.mono (by decide)) Z T.mz.mg T.mz.fn.kp T.mz.b .nil gG (fN (pv 2) (fN (pv 4) fP))) fP)))))
   (fS (gj (i:=6) SC.nd Z (Or.inl Z) (ic Vr (hr.mono (by decide)) Z T.Az.mg T.Az.fn.kp T.Az.b .nil gG (fN (pv 5) fP)))
   (fS (gj (i:=7) SC.nd Z (Or.inl Z) (gA j2 (gI (fN (gU iL (by rfl) T.len aF (fN (pv 6) fP)) fP)) (pv 6)))
   (fV (gC (gA j2 (gA j2 (gA j2 (gI (fN (gz Z T.Eb) fP)) (pv 7)) (ic EZ (hr.mono (by decide)) Z T.ut.mg T.ut.fn.kp T.ut.b .nil gG (fN (pv 7) fP))) (gI (fN (gz Z T.EV) fP))))))))))))),?_⟩
  generalize hk:ss.filterMap (fun x=>x)=kept;have afg:kept.length<=8:=by rw[<-hk];exact a8 (cf _ _) hl
  have ze:∀x∈kept,x<4096:=fun x hx=>by
   rw[<-hk] at hx;obtain⟨y,hy,rfl⟩:=ci.mp hx;exact hb x hy
  refine⟨_,Z,a,Z,⟨_,ha⟩,fun q1 n1=> ?_⟩;refine sj (K:=K) (a:=a) (xs:=ss.map oV) (fun i H'=>H'=fM H q1 (.lst (((ss.take i).filterMap (fun x=>x)).map nV))) Z (fun i H' _ e=>by rw[e];exact(fQ.new n1).seq ha) ?_ ?_
  ·rintro i x H' hx rfl;rw[au] at hx;cases hy:ss[i]? with
   |none=>rw[hy] at hx;cases hx
   |some y=>
    rw[hy] at hx;have ex:x=oV y:=(af hx).symm;subst ex;refine⟨Z,_,Z,?_⟩;rw[Wz ss i y hy];cases y with
    |none=>
     refine⟨_,Z,?_⟩;exact gn Z (by simp)
    |some n=>
     refine⟨_,Z,?_⟩;refine fZ Z ⟨_,Z,_,fO,?_,?_⟩
     ·rw[ac];exact iU (a8 (cf _ _) (by rw[aD];omega))
     ·rw[jn,ao];rfl
  ·rintro H' rfl;rw[ac,aT,hk];have s1:fQ H (fM H q1 (.lst (kept.map nV))):=fQ.new n1;generalize Cc:fM H q1 (.lst (kept.map nV))=H1 at s1;have g1:H1 q1=some (.lst (kept.map nV)):=by rw[<-Cc];exact fO
   refine⟨_,Z,q1,kept.map (fun n:Nat=>(n:Int)),0,Z,Z,(by rw[bE];exact fR.of g1),fun m hm0 hm1=>⟨Z,_,Z,Z,?_⟩⟩;rw[ZJ hm0 hm1,UN];have hw:width kept=oS (gr kept):=FY kept ze;have Ho:oS (gr kept)<=12:=AT (wk kept 4096 ze (by decide));rw[<-hw] at Ho⊢;generalize hW:width kept=W at Ho;refine⟨_,Z,_,_,Z,Z,(by show(0:Int)<4096;decide),t% 4096,12,Z,by decide,fun q2 n2=> ?_⟩;have s2:=s1.more (o:=.lst ((bitsOf 12 (t% 4096)).map bV)) n2;generalize w9:fM H1 q2 (.lst ((bitsOf 12 (t% 4096)).map bV))=H2 at s2;have g2:H2 q2=some (.lst ((bitsOf 12 (t% 4096)).map bV)):=by rw[<-w9];exact fO
   have l7:q1≠q2:=gf g1 n2;have qM:H2 q1=some (.lst (kept.map nV)):=by rw[<-w9,fT l7];exact g1
   have qL:H q2=none:=s1.free n2;refine⟨_,Z,.inl ⟨Z,_,fR.of g2⟩,_,Z,a,Z,⟨_,s2.seq ha⟩,fun q3 n3=> ?_⟩;refine sj (K:=K) (a:=a) (xs:=ss.map oV) (fun i H'=>H'=fM H2 q3 (.lst (((ss.take i).map (fun x=>x.isSome)).map bV))) Z (fun i H' _ e=>by rw[e];exact(s2.more n3).seq ha) ?_ ?_
   ·rintro i x H' hx rfl;rw[au] at hx;cases hy:ss[i]? with
    |none=>rw[hy] at hx;cases hx
    |some y=>
     rw[hy] at hx;have ex:x=oV y:=(af hx).symm;subst ex;have et:(ss.take (i+1)).map (fun x=>x.isSome)=(ss.take i).map (fun x=>x.isSome)++[y.isSome]:=by rw[bC,hy,ao];rfl
     have hz:(((ss.take i).map (fun x=>x.isSome)).map bV).length<sizeLine:=by rw[ac,ac,aD];exact iU (by omega)
     rw[et];refine⟨Z,?_⟩;cases y with
     |none=>
      refine⟨_,Z,_,Z,?_⟩;refine⟨_,fO,hz,?_⟩;rw[jn,ao];rfl
     |some n=>
      refine⟨_,Z,_,Z,?_⟩;refine⟨_,fO,hz,?_⟩;rw[jn,ao];rfl
   ·rintro H' rfl;rw[ac,aT];have p5:q2≠q3:=gf g2 n3;have p8:q1≠q3:=gf qM n3;generalize hM:ss.map (fun x=>x.isSome)=gQ;have O8:gQ.length=ss.length:=by rw[<-hM];simp
    refine⟨q2,q3,_,_,Z,Z,(by rw[fT p5];exact g2),fO,fY (by simp[jX,O8];omega),?_⟩;rw[<-ao];generalize xa:bitsOf 12 (t% 4096)++gQ=B2;have b2l:B2.length<=20:=by rw[<-xa];simp[jX,O8];omega
    have s4:fQ H (fM (fM H2 q3 (.lst (gQ.map bV))) q2 (.lst (B2.map bV))):=(s2.more n3).put qL;generalize Ih:fM (fM H2 q3 (.lst (gQ.map bV))) q2 (.lst (B2.map bV))=H4 at s4;have qa:H4 q2=some (.lst (B2.map bV)):=by rw[<-Ih];exact fO
    have mX:H4 q1=some (.lst (kept.map nV)):=by rw[<-Ih,fT l7,fT p8];exact qM
    refine⟨_,Z,.inl ⟨Z,_,fR.of qa⟩,_,Z,W,4,Z,by decide,fun q4 n4=> ?_⟩;have zf:q2≠q4:=gf qa n4;have mY:q1≠q4:=gf mX n4;refine⟨q2,q4,_,_,Z,Z,(by rw[fT zf];exact qa),fO,fY (by simp[jX];omega),?_⟩;rw[<-ao];generalize Ii:B2++bitsOf 4 W=B3;have b3l:B3.length<=24:=by rw[<-Ii];simp[jX];omega
    have s5:fQ H (fM (fM H4 q4 (.lst ((bitsOf 4 W).map bV))) q2 (.lst (B3.map bV))):=(s4.more n4).put qL;generalize PY:fM (fM H4 q4 (.lst ((bitsOf 4 W).map bV))) q2 (.lst (B3.map bV))=H5 at s5;have tI:H5 q2=some (.lst (B3.map bV)):=by rw[<-PY];exact fO
    have oq:H5 q1=some (.lst (kept.map nV)):=by rw[<-PY,fT l7,fT mY];exact mX
    have yF:∀i,((kept.take i).flatMap (bitsOf W)).length<=96:=fun i=>by
     have e1:∀l:List Nat,(l.flatMap (bitsOf W)).length=l.length*W:=by
      intro l
      induction l with
      |nil=>simp
      |cons x r ih=>rw[br,ag,ih,jX,aj,d9];omega
     rw[e1];have h1:(kept.take i).length<=8:=by rw[aD];omega
     exact a8 (Nat.mul_le_mul h1 Ho) (by decide)
    refine⟨_,Z,q1,Z,⟨_,fR.of oq⟩,qW (K:=K) (a:=q1) (xs:=kept.map nV) (fun i σ H'=>∃v2,σ=[some (.int t),some (.ref a),v2,some (.ref q1),some (.int W),some (.ref q2),none,none]/\fQ H H'/\H' q1=some (.lst (kept.map nV))/\H' q2=some (.lst ((B3++(kept.take i).flatMap (bitsOf W)).map bV)))
     ⟨none,Z,s5,oq,by rw[tI];simp⟩ (fun i σ H' _ ⟨_,_,_,e,_⟩=>fR.of e) ?_ ?_⟩
    ·rintro i x σ H6 hx ⟨v2,rfl,s6,mq,ph⟩;rw[au] at hx;cases hy:kept[i]? with
     |none=>rw[hy] at hx;cases hx
     |some y=>
      rw[hy] at hx;have ex:x=nV y:=(af hx).symm;subst ex;refine⟨_,Z,.inl ⟨Z,_,fR.of ph⟩,_,Z,_,Z,y,W,Z,by omega,fun q5 n5=> ?_⟩;have Ij:q2≠q5:=gf ph n5;have tJ:q1≠q5:=gf mq n5;refine⟨q2,q5,_,_,Z,Z,(by rw[fT Ij];exact ph),fO,fY ?_,?_⟩
      ·have:=yF i;simp only[ac,ag,jX];omega
      ·refine⟨some (nV y),Z,(s6.more n5).put qL,(by rw[fT l7,fT tJ];exact mq),?_⟩;rw[fO,<-ao,a6,bC,hy,bO];simp
    ·rintro σ H6 ⟨v2,rfl,s6,mq,ph⟩;have tK:=yF (kept.map nV).length;rw[ac,aT] at ph tK
     have PZ:B3++kept.flatMap (bitsOf W)=frameBits ⟨t% 4096,ss⟩:=by
      unfold frameBits keptOf;simp only;rw[hk,hM,hW,<-Ii,<-xa];simp only[a6]
     rw[PZ] at ph;have zg:(frameBits ⟨t% 4096,ss⟩).length<=120:=by rw[<-PZ,ag];omega
     generalize hFR:frameBits ⟨t% 4096,ss⟩=FB at ph zg;refine⟨_,Z,q2,FB,Z,ph,by omega,fun H7 p7 s7 f7 g7=> ?_⟩;have hpd:=vR FB.length;have hp7:jI FB.length<7:=by unfold jI;omega
     have sl:(signs FB).length<=100:=by rw[Fg];omega
     generalize hSG:signs FB=SG at g7 sl;refine⟨_,Z,p7,_,Z,.inl (fR.of g7),fY (by simp),fun q8 n8=> ?_⟩;have n78:p7≠q8:=gf g7 n8;refine⟨_,Z,q8,p7,_,_,Z,Z,fO,(by rw[fT n78];exact g7),fY (by simp;omega),fun q9 n9=> ?_⟩;have s67:fQ H H7:=s6.trans s7;have s9:=(s67.more (o:=.lst [V.int ((SG.map nV).length:Int)]) n8).more (o:=.lst ([V.int ((SG.map nV).length:Int)]++SG.map nV)) n9;have eC:[V.int ((SG.map nV).length:Int)]++SG.map nV=(SG.length::SG).map nV:=by rw[ac];rfl
     rw[eC] at s9⊢;generalize hH9:fM (fM H7 q8 (.lst [V.int ((SG.map nV).length:Int)])) q9 (.lst ((SG.length::SG).map nV))=H9 at s9;have g9:H9 q9=some (.lst ((SG.length::SG).map nV)):=by rw[<-hH9];exact fO
     refine⟨fY (by simp),fun tM rF=> ?_⟩;have O9:q9≠tM:=gf g9 rF;refine⟨_,Z,tM,q9,_,_,Z,Z,fO,(by rw[fT O9];exact g9),fY (by simp;omega),fun vf xb=> ?_⟩;have yN:=(s9.more (o:=.lst [V.int 128]) rF).more (o:=.lst ([V.int 128]++(SG.length::SG).map nV)) xb;have Pa:(fM H9 tM (.lst [V.int 128])) q9=some (.lst ((SG.length::SG).map nV)):=by rw[fT O9];exact g9
     have abx:q9≠vf:=gf Pa xb;generalize Pb:fM (fM H9 tM (.lst [V.int 128])) vf (.lst ([V.int 128]++(SG.length::SG).map nV))=P0 at yN;have Ik:P0 vf=some (.lst ([V.int 128]++(SG.length::SG).map nV)):=by rw[<-Pb];exact fO
     have aby:P0 q9=some (.lst ((SG.length::SG).map nV)):=by rw[<-Pb,fT abx];exact Pa
     refine⟨_,Z,q9,SG.length::SG,Z,aby,by simp;omega,fun H12 p12 nF f12 Il=> ?_⟩;refine⟨vf,p12,_,_,Z,Z,nF _ _ Ik,Il,fY (by simp;omega),fun Cd p8=> ?_⟩;refine⟨fY (by simp),fun Ce mY=> ?_⟩;have aay:Cd≠Ce:=fun z=>by rw[z,fO] at mY;cases mY
     refine⟨Cd,Ce,_,_,Z,Z,(by rw[fT aay];exact fO),fO,fY (by simp;omega),fun q15 tJ=> ?_⟩;have sA:fQ H H12:=yN.trans nF;have sB:=((sA.more (o:=.lst ([V.int 128]++(SG.length::SG).map nV++[nV (remainder (SG.length::SG++[0,0])/128),nV (remainder (SG.length::SG++[0,0])% 128)])) p8).more (o:=.lst [V.int 129]) mY);refine hq _ q15 (sB.more tJ) (sB.free tJ) ?_;rw[fO];unfold encoded Vbkdaa.frameSigns Vbkdaa.checked;simp only;rw[hFR,hSG];simp[nV,Vbkdaa.BEGIN,Vbkdaa.END]
end
end FE
namespace FE
open Vbkdaa
structure RS where
 samples:List (List Nat)
 highs:List (List Bool)
 fates:List Nat
 gB:List Bool
 frames:List (Nat×Bool×List Nat)
 iB:List Nat
 gone:Nat
 most:Nat
def ou:RS:=⟨[],[],[],[],[],[],0,0⟩
def ie(m:RS):Nat:=m.iB.length-m.gone
def li(b:Book)(n:Nat):Nat:=n-ahead b
def iV(b:Book)(hs:List (List Bool))(s:List Nat):List Bool:=b.channels.zipIdx.map fun x=>isHigh x.1 ((hs.getLast?.getD []).getD x.2 false) (s.getD x.2 0)
def vI(bs:List Bool)(n k:Nat):Bool:=if k<=n then bs.getD (n-k) false else false
def kS(b:Book)(fs:List Nat)(bs:List Bool)(asked:Bool):Nat:=
 if asked=false then 0 else if (fs.drop (fs.length-gapOf b)).contains 1=true then 2 else if vI bs bs.length (delayOf b+1)=true then 3 else 1
def m9(b:Book)(hs:List (List Bool))(t i:Nat):Bool:=((hs.take (t+ahead b+1)).drop (t-behind b)).any fun h=>h.getD i false
def lA(b:Book)(hs:List (List Bool))(ss:List (List Nat))(t:Nat):List (Option Nat):=(ss.getD t []).zipIdx.map fun x=>if m9 b hs t x.2=true then some x.1 else none
def mC(b:Book)(hs:List (List Bool))(ss:List (List Nat))(t:Nat):List Nat:=encoded ⟨t% 4096,lA b hs ss t⟩
def pN(b:Book)(m:RS)(asked:Bool)(s:List Nat):RS:=
 let gone:=m.gone+min (rate b) (ie m)
 let ss:=m.samples++[s]
 let hs:=m.highs++[iV b m.highs s]
 let fs:=m.fates++[kS b m.fates m.gB asked]
 let made:Option (List Nat):=if ahead b<hs.length/\fs.getD (hs.length-1-ahead b) 0=1 then some (mC b hs ss (hs.length-1-ahead b)) else none
 let room:=made.any fun y=>decide (m.iB.length-gone+y.length<=depth b)
 let iB:=if room=true then m.iB++made.getD [] else m.iB
 let frames:=match made with|some y=>m.frames++[(hs.length-1-ahead b,room,y)]|none=>m.frames
 let n:=iB.length-gone
 ⟨ss,hs,fs,m.gB++[busyNow b (m.gB.getLast?.getD false) n],frames,iB,gone,max m.most n⟩
structure j7(b:Book)(m:RS)(f:Front):Prop where
 jQ:m.samples=(f.done.map (·.samples)).reverse
 i0:m.highs=(f.done.map (·.high)).reverse
 iW:m.fates=(f.done.map (·.fate)).reverse
 jf:m.gB=(f.done.map (·.busy)).reverse
 Cf:f.queue=m.iB.drop m.gone
 Cg:f.wire=m.iB.take m.gone
 kj:m.gone<=m.iB.length
 vg:f.made=m.frames.map fun x=>(x.1,x.2.1)
 jG:∀x∈m.frames,x.2.2=mC b m.highs m.samples x.1
 key:m.frames.map (·.1)=(List.range (f.done.length-ahead b)).filter fun t=>m.fates.getD t 0==1
 Im:f.most=m.most
 len:∀d∈f.done,d.samples.length=b.channels.length/\d.high.length=b.channels.length
theorem abz(b:Book):j7 b ou fresh where
 jQ:=rfl
 i0:=rfl
 iW:=rfl
 jf:=rfl
 Cf:=rfl
 Cg:=rfl
 kj:=aA _
 vg:=rfl
 jG:=fun x h=>absurd h (by simp[ou])
 key:=by simp[ou,fresh]
 Im:=rfl
 len:=fun d h=>absurd h (by simp[fresh])
section
variable {b:Book} {m:RS} {f:Front}
theorem j7.sQ(r:j7 b m f):m.highs.length=f.done.length:=by rw[r.i0];simp
theorem j7.wD(r:j7 b m f):m.samples.length=f.done.length:=by rw[r.jQ];simp
theorem j7.oU(r:j7 b m f):m.fates.length=f.done.length:=by rw[r.iW];simp
theorem j7.oW(r:j7 b m f):m.gB.length=f.done.length:=by rw[r.jf];simp
theorem j7.wait(r:j7 b m f):f.queue.length=ie m:=by rw[r.Cf];simp[ie]
theorem AE{α β:Type}(l:List α)(g:α->β):(l.map g).reverse.getLast?=l.head?.map g:=by
 rw[List.getLast?_reverse,List.head?_map]
theorem Xw(r:j7 b m f)(s:List Nat):
 (b.channels.zipIdx.map fun x=>isHigh x.1 (((f.done.head?.map fun d=>d.high).getD []).getD x.2 false) (s.getD x.2 0))=iV b m.highs s:=by
 unfold iV;rw[r.i0,AE]
theorem MU{α:Type}(l:List α)(n:Nat):l.reverse.drop (l.length-n)=(l.take n).reverse:=by
 rw[List.drop_reverse]
 by_cases h:n<=l.length
 ·rw[show l.length-(l.length-n)=n by omega]
 ·rw[show l.length-(l.length-n)=l.length by omega,aV (aA _),aV (by omega)]
theorem Yt(r:j7 b m f)(asked:Bool):fateOf b f.done asked=kS b m.fates m.gB asked:=by
 unfold fateOf kS
 have e1:((f.done.take (gapOf b)).any fun d=>d.fate==1)=(m.fates.drop (m.fates.length-gapOf b)).contains 1:=by
  have:m.fates.length=(f.done.map (·.fate)).length:=by rw[r.oU];simp
  rw[this,r.iW,MU,<-b9,List.contains_reverse,eG,fg]
  congr 1
  funext d
  exact Bool.beq_comm
 have e2:seen b f.done=vI m.gB m.gB.length (delayOf b+1):=by
  unfold seen vI;rw[r.oW,r.jf]
  by_cases h:delayOf b+1<=f.done.length
  ·rw[aw h,aE,b8 (by simp;omega),au,ac,show f.done.length-1-(f.done.length-(delayOf b+1))=delayOf b by omega]
  ·rw[am h,bA (by omega)];rfl
 rw[e1,e2]
theorem NJ(l:List Done)(i:Nat)(hi:i<b.channels.length)(hl:ahead b<l.length):
 (keptNow b l).getD i false=m9 b (l.map (·.high)).reverse (l.length-1-ahead b) i:=by
 unfold keptNow m9;rw[aE,au,List.getElem?_range hi];simp only[Option.map_some,Option.getD_some];have e0:(l.map (·.high)).reverse.take (l.length-1-ahead b+ahead b+1)=(l.map (·.high)).reverse:=aV (by rw[cv,ac];omega);rw[e0]
 have e:(l.map (·.high)).reverse.drop (l.length-1-ahead b-behind b)=((l.map (·.high)).take (ahead b+behind b+1)).reverse:=by
  have:=MU (l.map (·.high)) (ahead b+behind b+1);rw[ac] at this;rw[show l.length-1-ahead b-behind b=l.length-(ahead b+behind b+1) by omega];exact this
 rw[e,List.any_reverse,<-b9,fg];rfl
theorem Et(l:List Done):(keptNow b l).length=b.channels.length:=by simp[keptNow]
theorem Ld(l:List Done)(d:Done)(hd:l[ahead b]? =some d)(hl:d.samples.length=b.channels.length):
 frameNow b l=if d.fate=1 then some ⟨(l.length-1-ahead b)% 4096,lA b (l.map (·.high)).reverse (l.map (·.samples)).reverse (l.length-1-ahead b)⟩ else none:=by
 have hZ:ahead b<l.length:=(ap.mp hd).1;unfold frameNow;rw[hd];simp only[Option.bind_some]
 by_cases hf:d.fate=1
 ·rw[aw hf,aw hf]
  have es:((l.map (·.samples)).reverse).getD (l.length-1-ahead b) []=d.samples:=by
   rw[aE,b8 (by simp;omega),au,ac,show l.length-1-(l.length-1-ahead b)=ahead b by omega,hd];rfl
  unfold lA;rw[es]
  congr 2
  apply List.ext_getElem?;intro i;rw[au,au,List.getElem?_zipIdx]
  by_cases hi:i<b.channels.length
  ·rw[ak (l:=d.samples) (by omega)];rw[ak (l:=d.samples.zip (keptNow b l)) (by rw[cK,Et];omega)];rw[List.getElem_zip];simp only[Option.map_some,dF];rw[<-NJ l i hi hZ,aE,ak (l:=keptNow b l) (by rw[Et];exact hi)];rfl
  ·rw[bA (l:=d.samples) (by omega),bA (l:=d.samples.zip (keptNow b l)) (by rw[cK,Et];omega)];rfl
 ·rw[am hf,am hf]
end
theorem Le(b:Book)(hs more:List (List Bool))(t i:Nat)(h:t+ahead b<hs.length):m9 b (hs++more) t i=m9 b hs t i:=by
 unfold m9;rw[cD (by omega)]
theorem LI(b:Book)(hs mh:List (List Bool))(ss ms:List (List Nat))(t:Nat)(h:t+ahead b<hs.length)(h2:t<ss.length):mC b (hs++mh) (ss++ms) t=mC b hs ss t:=by
 unfold mC lA;have e:(ss++ms).getD t []=ss.getD t []:=by rw[aE,aE,bp h2]
 rw[e]
 congr 2
 apply bW;intro x _;rw[Le b hs mh t x.2 h]
theorem Xx{b:Book}{m:RS}{f:Front}(r:j7 b m f)(asked:Bool)(s:List Nat)(hs:s.length=b.channels.length):j7 b (pN b m asked s) (cross b f asked s):=by
 have hw:=r.wait;have lH:=r.sQ;have lS:=r.wD;have lF:=r.oU;have lB:=r.oW;have Hq:m.gone+min (rate b) (ie m)<=m.iB.length:=by have:=r.kj;unfold ie;omega
 have q1:f.queue.drop (rate b)=m.iB.drop (m.gone+min (rate b) (ie m)):=by
  rw[r.Cf,bw]
  by_cases h:rate b<=ie m
  ·rw[cw h]
  ·have hn:=r.kj;unfold ie at h⊢;rw[bG (by omega),bG (by omega)]
 have q2:f.wire++f.queue.take (rate b)=m.iB.take (m.gone+min (rate b) (ie m)):=by
  rw[r.Cf,r.Cg,fA]
  congr 1
  by_cases h:rate b<=ie m
  ·rw[cw h]
  ·rw[Nat.min_eq_right (by omega),aV (by simp;unfold ie at h;omega),aV (by simp[ie])]
 have fe:=Yt r asked;have he:=Xw r s;generalize hB:(f.done.head?.map fun d=>d.busy).getD false=nG;have hB':m.gB.getLast?.getD false=nG:=by rw[r.jf,AE];exact hB
 generalize hD:({asked:=asked,samples:=s,high:=iV b m.highs s,fate:=kS b m.fates m.gB asked,busy:=nG}:Done)=here
 have mk:((if ahead b<(m.highs++[iV b m.highs s]).length/\(m.fates++[kS b m.fates m.gB asked]).getD ((m.highs++[iV b m.highs s]).length-1-ahead b) 0=1
  then some (mC b (m.highs++[iV b m.highs s]) (m.samples++[s]) ((m.highs++[iV b m.highs s]).length-1-ahead b)) else none):Option (List Nat))=(frameNow b (here::f.done)).map encoded:=by
  have eH:m.highs++[iV b m.highs s]=((here::f.done).map (·.high)).reverse:=by rw[aB,bZ,<-r.i0,<-hD]
  have eS:m.samples++[s]=((here::f.done).map (·.samples)).reverse:=by rw[aB,bZ,<-r.jQ,<-hD]
  have eF:m.fates++[kS b m.fates m.gB asked]=((here::f.done).map (·.fate)).reverse:=by rw[aB,bZ,<-r.iW,<-hD]
  rw[eF];have wm:(m.highs++[iV b m.highs s]).length=(here::f.done).length:=by rw[eH];simp
  rw[wm,eH,eS];cases hd:(here::f.done)[ahead b]? with
  |none=>
   have:¬ahead b<(here::f.done).length:=fun z=>by rw[ak z] at hd;cases hd
   rw[am (fun z=>this z.1)];unfold frameNow;rw[hd];rfl
  |some d=>
   have hZ:ahead b<(here::f.done).length:=(ap.mp hd).1
   have w6:d.samples.length=b.channels.length:=by
    rcases az.mp (aS hd) with z|z
    ·rw[z,<-hD];exact hs
    ·exact(r.len d z).1
   have ef:(((here::f.done).map (·.fate)).reverse).getD ((here::f.done).length-1-ahead b) 0=d.fate:=by
    rw[aE,b8 (by simp at hZ⊢;omega),au,ac,show(here::f.done).length-1-((here::f.done).length-1-ahead b)=ahead b by omega,hd];rfl
   rw[Ld _ d hd w6,ef]
   by_cases hf:d.fate=1
   ·rw[aw ⟨hZ,hf⟩,aw hf];rfl
   ·rw[am (fun z=>hf z.2),am hf];rfl
 unfold pN cross;simp only;rw[he,fe,hB,hB',hD,q1,q2,mk];generalize hX:(frameNow b (here::f.done)).map encoded=X;have wm:(m.highs++[iV b m.highs s]).length-1-ahead b=f.done.length-ahead b:=by rw[ag,bD,lH];omega
 rw[wm];have abA:(m.iB.drop (m.gone+min (rate b) (ie m))).length=m.iB.length-(m.gone+min (rate b) (ie m)):=by simp
 rw[abA];generalize hR:(X.any fun y=>decide (m.iB.length-(m.gone+min (rate b) (ie m))+y.length<=depth b))=room
 have full:(if room=true then m.iB.drop (m.gone+min (rate b) (ie m))++X.getD [] else m.iB.drop (m.gone+min (rate b) (ie m)))=(if room=true then m.iB++X.getD [] else m.iB).drop (m.gone+min (rate b) (ie m)):=by
  split
  ·rw[List.drop_append_of_le_length Hq]
  ·rfl
 have OG:(if room=true then m.iB.drop (m.gone+min (rate b) (ie m))++X.getD [] else m.iB.drop (m.gone+min (rate b) (ie m))).length=(if room=true then m.iB++X.getD [] else m.iB).length-(m.gone+min (rate b) (ie m)):=by rw[full];simp
 have gle:m.gone+min (rate b) (ie m)<=(if room=true then m.iB++X.getD [] else m.iB).length:=by
  split
  ·rw[ag];omega
  ·exact Hq
 have eD:here.samples=s/\here.high=iV b m.highs s/\here.fate=kS b m.fates m.gB asked:=by rw[<-hD];exact⟨Z,Z,Z⟩
 refine⟨?_,?_,?_,?_,full,?_,gle,?_,?_,?_,?_,?_⟩
 ·show m.samples++[s]=_;rw[aB,bZ,<-r.jQ]
 ·show m.highs++[iV b m.highs s]=_;rw[aB,bZ,<-r.i0]
 ·show m.fates++[kS b m.fates m.gB asked]=_;rw[aB,bZ,<-r.iW]
 ·rw[aB,bZ,<-r.jf,OG]
 ·split
  ·rw[cD Hq]
  ·rfl
 ·cases X with
  |none=>simp[r.vg]
  |some y=>simp[r.vg]
 ·intro x hx
  have lp:∀x∈m.frames,x.2.2=mC b (m.highs++[iV b m.highs s]) (m.samples++[s]) x.1:=fun x hx=>by
   have hk:x.1∈m.frames.map (·.1):=fH hx;rw[r.key] at hk;have hZ:=dX.mp (eJ.mp hk).1;rw[LI b _ _ _ _ _ (by rw[lH];omega) (by rw[lS];omega)];exact r.jG x hx
  cases X with
  |none=>exact lp x hx
  |some y=>
   rcases aG.mp hx with z|z
   ·exact lp x z
   ·have z':x=(f.done.length-ahead b,room,y):=by simpa using z
    rw[z'];show y=_;have zh:=mk;rw[hX] at zh;split at zh
    ·rw[wm] at zh;exact(af zh).symm
    ·cases zh
 ·show _=(List.range (f.done.length+1-ahead b)).filter (fun t=>(m.fates++[kS b m.fates m.gB asked]).getD t 0==1)
  have lp:(List.range (f.done.length-ahead b)).filter (fun t=>(m.fates++[kS b m.fates m.gB asked]).getD t 0==1)=(List.range (f.done.length-ahead b)).filter (fun t=>m.fates.getD t 0==1):=by
   apply List.filter_congr;intro t ht;have:=dX.mp ht;rw[aE,aE,bp (by rw[lF];omega)]
  by_cases hA:ahead b<=f.done.length
  ·rw[show f.done.length+1-ahead b=(f.done.length-ahead b)+1 by omega,eO,List.filter_append,lp,<-r.key];have lh:(m.highs++[iV b m.highs s]).length=f.done.length+1:=by simp[lH]
   rw[wm,lh] at mk
   by_cases hf:(m.fates++[kS b m.fates m.gB asked]).getD (f.done.length-ahead b) 0=1
   ·rw[aw ⟨by omega,hf⟩,hX] at mk;rw[<-mk];simp only[ao,aB,cg]
    congr 1
    rw[List.filter_cons_of_pos (by simpa using hf),List.filter_nil]
   ·rw[am (fun z=>hf z.2),hX] at mk;rw[<-mk];simp only;rw[List.filter_cons_of_neg (by simpa using hf),List.filter_nil,bc]
  ·rw[show f.done.length+1-ahead b=0 by omega];have lh:(m.highs++[iV b m.highs s]).length=f.done.length+1:=by simp[lH]
   rw[wm,lh] at mk;rw[am (fun z=>by omega),hX] at mk;rw[<-mk];simp only;rw[r.key,show f.done.length-ahead b=0 by omega];rfl
 ·rw[r.Im,OG]
 ·intro d hd;rcases az.mp hd with z|z
  ·rw[z];refine⟨hs,?_⟩;show(iV b m.highs s).length=_;simp[iV]
  ·exact r.len d z
end FE
namespace L2
open PySem
def gE(xs:List Addr)(H H':Hp):Prop:=∀b o,H b=some o->b∉xs->H' b=some o
theorem gE.refl{xs:List Addr}{H:Hp}:gE xs H H:=fun _ _ h _=>h
theorem gE.trans{xs:List Addr}{H H1 H2:Hp}(a:gE xs H H1)(b:gE xs H1 H2):gE xs H H2:=fun c o h n=>b c o (a c o h n) n
theorem fQ.own{xs:List Addr}{H H':Hp}(s:fQ H H'):gE xs H H':=fun b o h _=>s b o h
theorem gE.put{xs:List Addr}{H H':Hp}{p:Addr}{o:HO}(s:gE xs H H')(h:p∈xs):gE xs H (fM H' p o):=fun b u e n=>by
 rw[fT (fun z:b=p=>n (by rw[z];exact h))];exact s b u e n
theorem gE.new{xs:List Addr}{H H':Hp}{p:Addr}{o:HO}(s:gE xs H H')(h:H p=none):gE xs H (fM H' p o):=fun b u e n=>by
 rw[fT (gf e h)];exact s b u e n
theorem gE.mono{xs ys:List Addr}{H H':Hp}(s:gE xs H H')(h:∀x∈xs,x∈ys):gE ys H H':=fun b o e n=>s b o e fun z=>n (h b z)
theorem qo{xs:List Addr}{H H':Hp}{q:Addr}(s:gE xs H H')(nq:q∉xs)(h:H' q=none):H q=none:=by
 cases e:H q with
 |none=>rfl
 |some o=>rw[s q o e nq] at h;cases h
def j0(H H':Hp):Prop:=∀b,H' b=none->H b=none
theorem j0.refl{H:Hp}:j0 H H:=fun _ h=>h
theorem j0.trans{H H1 H2:Hp}(a:j0 H H1)(b:j0 H1 H2):j0 H H2:=fun c h=>a c (b c h)
theorem j0.put{H H':Hp}{p:Addr}{o:HO}(g:j0 H H'):j0 H (fM H' p o):=fun b h=>by
 unfold fM at h;split at h
 ·cases h
 ·exact g b h
theorem fQ.grow{H H':Hp}(s:fQ H H'):j0 H H':=fun _ h=>s.free h
end L2
namespace FE
open PySem PySem.Spec PyProof.Rows L2
open Vbkdaa (Book Channel ahead behind depth rate high low delayOf gapOf yieldMost mostOf loop)
def iG{α:Type}(H:Hp)(g:α->HO)(as:List Addr)(xs:List α):Prop:=as.length=xs.length/\∀(i:Nat) (a:Addr) (x:α),as[i]? =some a->xs[i]? =some x->H a=some (g x)
theorem iG.keep{α:Type}{H H':Hp}{g:α->HO}{as:List Addr}{xs:List α}{ys:List Addr}(h:iG H g as xs)(o:gE ys H H')(n:∀a∈as,a∉ys):iG H' g as xs:=
 ⟨h.1,fun i a x h1 h2=>o _ _ (h.2 i a x h1 h2) (n a (aS h1))⟩
theorem iG.nil{α:Type}{H:Hp}{g:α->HO}:iG H g [] ([]:List α):=⟨Z,fun i a x h=>by simp at h⟩
theorem iG.snoc{α:Type}{H:Hp}{g:α->HO}{as:List Addr}{xs:List α}{a:Addr}{x:α}(h:iG H g as xs)(e:H a=some (g x)):iG H g (as++[a]) (xs++[x]):=by
 refine⟨by simp[h.1],fun i b y h1 h2=> ?_⟩
 by_cases hi:i<as.length
 ·rw[bp hi] at h1;rw[bp (by rw[<-h.1];exact hi)] at h2;exact h.2 i b y h1 h2
 ·rw[bx (by omega)] at h1;rw[bx (by rw[<-h.1];omega)] at h2
  have e1:i-as.length=0:=by
   have:=(ap.mp h1).1;simp at this;omega
  rw[e1] at h1;rw[<-h.1,e1] at h2;simp at h1 h2;subst h1 h2;exact e
theorem iG.get{α:Type}{H:Hp}{g:α->HO}{as:List Addr}{xs:List α}(h:iG H g as xs){i:Nat}{a:Addr}(ha:as[i]? =some a):∃x,xs[i]? =some x/\H a=some (g x):=by
 have hi:=(ap.mp ha).1;have:i<xs.length:=by rw[<-h.1];exact hi
 exact⟨xs[i],ak this,h.2 i a _ ha (ak this)⟩
theorem iG.addr{α:Type}{H:Hp}{g:α->HO}{as:List Addr}{xs:List α}(h:iG H g as xs){i:Nat}{x:α}(hx:xs[i]? =some x):∃a,as[i]? =some a/\H a=some (g x):=by
 have hi:=(ap.mp hx).1;have:i<as.length:=by rw[h.1];exact hi
 exact⟨as[i],ak this,h.2 i _ x (ak this) hx⟩
def jk(b:Nat):Nat:=if (48<=b/\b<=57)\/(97<=b/\b<=122) then b else 63
def gJ(w:List Nat):Str:=⟨w.toArray⟩
def ig(w:List Nat):Str:=gJ (w.map jk)
def Ch(c:Channel):HO:=.tup [.str (gJ c.name),.int c.pedestal,.int c.on,.int c.off]
def uD(b:Book):List (Str×List Nat):=
 (b.keep.elim [] fun x=>[(("keep":Str),[x.1,x.2])])++(b.buffer.elim [] fun x=>[(("buffer":Str),[x.1,x.2.1,x.2.2.1,x.2.2.2])])++(b.delay.elim [] fun n=>[(("delay":Str),[n])])++(b.gap.elim [] fun n=>[(("gap":Str),[n])])
def Hr(l:List Nat):HO:=.tup (l.map nV)
structure ll where
 s:Addr
 dx:Addr
 lc:Addr
 ld:Addr
 cs:List Addr
 ts:List (Str×Addr)
structure lU(H:Hp)(ld:Addr)(ts:List (Str×Addr))(b:Book):Prop where
 dict:H ld=some (.dK (ts.map fun x=>(Sum.inr x.1,V.ref x.2)))
 nd:(ts.map (·.1)).Nodup
 all:∀x:Str×List Nat,x∈uD b↔∃a,(x.1,a)∈ts/\H a=some (Hr x.2)
 only:∀x∈ts,∃l,(x.1,l)∈uD b
def Pc(lc ld:Addr)(b:Book):List (Str×V):=
 [("channels",.ref lc),("told",.ref ld),("ahead",.int (ahead b)),("behind",.int (behind b)),("depth",.int (depth b)),("rate",.int (rate b)),("high_mark",.int (high b)),("low_mark",.int (low b)),("delay",.int (delayOf b)),("gap",.int (gapOf b))]
structure lX(AA:gu)(H:Hp)(L:ll)(b:Book):Prop where
 ins:H L.s=some (.ins AA.lQ L.dx (Pc L.lc L.ld b))
 mr:H L.lc=some (.lst (L.cs.map V.ref))
 mv:iG H Ch L.cs b.channels
 told:lU H L.ld L.ts b
 iC:b.channels.length<=8
def ll.fp(L:ll):List Addr:=[L.s,L.lc,L.ld]
theorem kQ{ys:List Addr}{H H':Hp}(o:gE ys H H')(m:∀y∈ys,∀xs,H y≠some (.tup xs)){a:Addr}{xs:List V}(h:H a=some (.tup xs)):H' a=some (.tup xs):=o a _ h fun z=>m a z xs h
theorem lX.xf{AA:gu}{H:Hp}{L:ll}{b:Book}(h:lX AA H L b):∀a∈L.fp,(H a).isSome=true:=by
 intro a ha;simp only[ll.fp,az,bh,cN] at ha;rcases ha with rfl|rfl|rfl
 ·rw[h.ins];rfl
 ·rw[h.mr];rfl
 ·rw[h.told.dict];rfl
theorem F3:∀{p q:List Nat},p.map nV=q.map nV->p=q
 |[],[],_=>rfl
 |[],y::q,h=>by cases h
 |x::p,[],h=>by cases h
 |x::p,y::q,h=>by
  rw[aB,aB] at h;obtain⟨h1,h2⟩:=dr h
  have:x=y:=by
   unfold nV at h1;injection h1 with h
   omega
  rw[this,F3 h2]
theorem lU.keep{H H':Hp}{ld:Addr}{ts:List (Str×Addr)}{b:Book}{ys:List Addr}(h:lU H ld ts b)(o:gE ys H H')(n:ld∉ys)(m:∀y∈ys,∀xs,H y≠some (.tup xs)):lU H' ld ts b:=
 {
  dict:=o _ _ h.dict n
  nd:=h.nd
  all:=fun x=>by
   constructor
   ·intro hx;obtain⟨a,h1,h2⟩:=(h.all x).mp hx;exact⟨a,h1,kQ o m h2⟩
   ·rintro⟨a,h1,h2⟩;obtain⟨l,hl⟩:=h.only _ h1;obtain⟨a',g1,g2⟩:=(h.all _).mp hl
    have ea:a=a':=by
     have:=h.nd;obtain⟨i,hi⟩:=b5.mp h1;obtain⟨j,hj⟩:=b5.mp g1;have e:i=j:=GY this (by rw[au,hi];rfl) (by rw[au,hj];rfl);rw[e,hj] at hi;exact(aP (af hi)).2.symm
    subst ea;have g3:=kQ o m g2;rw[h2] at g3
    have e2:x.2.map nV=l.map nV:=by
     have:=af g3;injection this
    have e3:x.2=l:=by
     have inj:∀p q:List Nat,p.map nV=q.map nV->p=q:=by
      intro p
      induction p with
      |nil=>intro q hq;cases q with|nil=>rfl|cons _ _=>simp at hq
      |cons y r ih=>
       intro q hq;cases q with
       |nil=>simp at hq
       |cons z r2=>
        simp only[aB,List.cons.injEq] at hq
        have:y=z:=by
         have:=hq.1;unfold nV at this;injection this with h
         omega
        rw[this,ih r2 hq.2]
     exact inj _ _ e2
    have:x=(x.1,l):=by rw[<-e3]
    rw[this];exact hl
  only:=h.only}
theorem lX.keep{AA:gu}{H H':Hp}{L:ll}{b:Book}{ys:List Addr}(h:lX AA H L b)(o:gE ys H H')(n:∀a∈L.fp,a∉ys)(m:∀y∈ys,∀xs,H y≠some (.tup xs)):lX AA H' L b where
 ins:=o _ _ h.ins (n _ (by simp[ll.fp]))
 mr:=o _ _ h.mr (n _ (by simp[ll.fp]))
 mv:=⟨h.mv.1,fun i a x h1 h2=>kQ o m (h.mv.2 i a x h1 h2)⟩
 told:=h.told.keep o (n _ (by simp[ll.fp])) m
 iC:=h.iC
theorem lX.same{AA:gu}{H H':Hp}{L:ll}{b:Book}(h:lX AA H L b)(s:fQ H H'):lX AA H' L b:=h.keep (ys:=[]) s.own (fun _ _ z=>by cases z) (fun _ z=>by cases z)
def ZK:Sp:=fun vs H Q _=>∃n:Nat,vs=[.int n]/\n<=1000/\Q (.int (yieldMost n)) H
def Xy(AA:gu):Sp:=fun vs H Q _=>∃(L:ll) (b:Book),vs=[.ref L.s]/\lX AA H L b/\depth b<=1000/\rate b<=1000/\high b<=1000/\loop b<=1000/\Q (.int (mostOf b)) H
section
variable {P:Program} {w:World} {K:PySem.W.Frag} {mg:Str->Option Value} {base:Heap} {AA:gu}
theorem Ti:gP ["channels","bits"] ["channels"] (gL (fX 18)):=gX (by decide+kernel)
theorem zP(T:Tx P w K mg AA):gK P w K mg base gT 1 AA.Kt AA.Ku ["channels"] ZK:=by
 have SC:=Ti;refine T.nL.fn.ok SC (fun vs H Q E h=> ?_) (fun gy A outer s H vs Q E hr h=> ?_)
 ·obtain⟨n,rfl,_⟩:=h;rfl
 ·obtain⟨n,rfl,hn,hq⟩:=h
  refine⟨_,(fS (gj (i:=1) SC.nd Z (Or.inl Z) (gA jg (gA jg (gz Z T.xQ) (gz Z T.EW)) (gA A4 (gA jg fW (gz Z T.La)) (pv 0))))
   (fV (gC (gA jg (gz Z T.T0) (gA vQ (gA jK (gA jg (pv 1) (gz Z T.uj)) fW) (gz Z T.uj)))))),?_⟩
  refine⟨_,_,Z,Z,_,_,Z,Z,_,Z,_,_,Z,Z,.inl ⟨by decide,by decide⟩,_,_,Z,Z,_,Z,_,_,Z,Z,_,_,Z,Z,_,_,Z,Z,⟨by decide,by decide⟩,_,_,Z,Z,?_⟩;have e:(5:Int)+((12:Int)+4+(1+12)*(n:Int)+7-1)/7=((yieldMost n:Nat):Int):=by unfold yieldMost;omega
  show Q (V.int ((5:Int)+((12:Int)+4+(1+12)*(n:Int)+7-1)/7)) H;rw[e];exact hq
theorem T4:gP ["settings","greatest","above_rate","unseen"] ["settings"] (gL (fX 23)):=gX (by decide+kernel)
theorem T5(T:Tx P w K mg AA):gK P w K mg base gT 2 AA.KS AA.KU ["settings"] (Xy AA):=by
 have t8:=zP (base:=base) T;have SC:=T4;refine T.Ak.fn.ok SC (fun vs H Q E h=> ?_) (fun gy A outer s H vs Q E hr h=> ?_)
 ·obtain⟨L,b,rfl,_⟩:=h;rfl
 ·obtain⟨L,b,rfl,hS,hd,hR,hH,Io,hq⟩:=h
  refine⟨_,(fS (gj (i:=1) SC.nd Z (Or.inl Z) (ic t8 (hr.mono (by decide)) Z T.nL.mg T.nL.fn.kp T.nL.b .nil gG (fN (gU iL (by rfl) T.len aF (fN (gc (pv 0) Z) fP)) fP)))
   (fS (gY (io ju (pv 1) (gc (pv 0) Z) (ii _))
     (fV (gC (pv 1)))
     ia)
   (fS (gj (i:=2) SC.nd Z (Or.inl Z) (gU (r6 Z) (by rfl) T.max fB (fN fW (fN (gA jK (gc (pv 0) Z) (gc (pv 0) Z)) fP))))
   (fS (gj (i:=3) SC.nd Z (Or.inl Z) (gA jg (gc (pv 0) Z) (gc (pv 0) Z)))
   (fV (gC (gA jg (gA jg (pv 1) (pv 2)) (gA A4 (gA jK (pv 1) (gc (pv 0) Z)) (pv 3))))))))),?_⟩
  have fe:=hS.ins;have iC:=hS.iC;have kH:(L.cs.map V.ref).length=b.channels.length:=by rw[ac];exact hS.mv.1
  refine⟨_,Z,L.s,_,L.dx,_,_,Z,fe,T.im,T.nJ,Z,L.lc,_,Z,.inl (fR.of hS.mr),b.channels.length,?_,by omega,?_⟩
  ·rw[kH];rfl
  generalize hY:yieldMost b.channels.length=y;have hy:y<=1000:=by rw[<-hY];unfold yieldMost;omega
  refine⟨_,Z,_,Z,L.s,_,L.dx,_,_,Z,fe,T.im,T.qU,Z,_,_,Z,Z,_,Z,?_⟩
  by_cases c:y<=rate b
  ·refine fZ (ai (by show(y:Int)<=(rate b:Int);omega)) ?_;refine⟨_,Z,?_⟩;have e:mostOf b=y:=by unfold mostOf;simp only[hY];rw[aw c]
   rw[e] at hq;exact hq
  ·refine gn (ae (by show¬(y:Int)<=(rate b:Int);omega)) ?_;refine⟨_,Z,L.s,_,L.dx,_,_,Z,fe,T.im,T.tV,Z,_,Z,L.s,_,L.dx,_,_,Z,fe,T.im,T.qU,Z,_,_,Z,Z,_,_,Z,?_⟩;refine⟨_,Z,L.s,_,L.dx,_,_,Z,fe,T.im,T.tZ,Z,_,Z,L.s,_,L.dx,_,_,Z,fe,T.im,T.vE,Z,_,_,Z,Z,?_⟩;refine⟨_,Z,_,Z,_,_,Z,Z,_,Z,_,Z,L.s,_,L.dx,_,_,Z,fe,T.im,T.qU,Z,_,_,Z,Z,_,Z,_,_,Z,Z,.inl ⟨?_,?_⟩,_,_,Z,Z,?_⟩
   ·show-(2^64:Int)<(y:Int)-(rate b:Int);omega
   ·show(y:Int)-(rate b:Int)<(2^64:Int);omega
   ·show Q (V.int ((y:Int)+(if (high b:Int)-(rate b:Int)>0 then(high b:Int)-(rate b:Int) else 0)+((y:Int)-(rate b:Int))*((ahead b:Int)+(delayOf b:Int)))) H;have e:mostOf b=(high b-rate b)+y+loop b*(y-rate b):=by unfold mostOf;simp only[hY];rw[am c]
    have e2:((y:Int)-(rate b:Int))*((ahead b:Int)+(delayOf b:Int))=((loop b*(y-rate b):Nat):Int):=by
     unfold loop;rw[Int.natCast_mul,Int.mul_comm,Int.natCast_sub (by omega)];rfl
    rw[e2];rw[e] at hq
    have e3:(y:Int)+(if (high b:Int)-(rate b:Int)>0 then(high b:Int)-(rate b:Int) else 0)+((loop b*(y-rate b):Nat):Int)=(((high b-rate b)+y+loop b*(y-rate b):Nat):Int):=by
     generalize loop b*(y-rate b)=z;split<;>omega
    rw[e3];exact hq
end
end FE
namespace FE
open VbkdCore (Bytes txt numeral isSmall isDigit Word linesFrom wordsFrom Fault decimal)
open Vbkdaa
abbrev j3:=List Nat×Nat
abbrev mD:=List j3×Nat
structure qb where
 lines:List mD
 words:List j3
 word:List Nat
def jd(st:qb)(p:Nat):qb:=if st.word=[] then st else⟨st.lines,st.words++[(st.word,p-st.word.length)],[]⟩
def jL(st:qb)(p b:Nat):qb:=
 if b≠32/\b≠10 then⟨st.lines,st.words,st.word++[b]⟩
 else if b=10 then⟨(jd st p).lines++[((jd st p).words,p)],[],(jd st p).word⟩
 else jd st p
def kI:qb->Nat->List Nat->qb
 |st,_,[]=>st
 |st,p,b::r=>kI (jL st p b) (p+1) r
theorem Ap:∀(l:List Nat) (st:qb) (p b:Nat),kI st p (l++[b])=jL (kI st p l) (p+l.length) b
 |[],st,p,b=>by simp[kI]
 |x::r,st,p,b=>by
  show kI (jL st p x) (p+1) (r++[b])=jL (kI (jL st p x) (p+1) r) (p+(r.length+1)) b;rw[Ap r,show p+1+r.length=p+(r.length+1) by omega]
def ip(w:Word):j3:=(w.2,w.1)
def oM(x:Nat×Bytes):mD:=((wordsFrom x.1 none x.2).map ip,x.1+x.2.length)
def qN(w:List Nat)(p:Nat):Option Word:=if w=[] then none else some (p-w.length,w)
theorem DI:∀(p:Nat) (r:Bytes),∃l t,linesFrom p r=(p,l)::t
 |p,[]=>⟨[],[],Z⟩
 |p,c::r=>by
  unfold linesFrom
  by_cases h:c=10
  ·rw[aw h];exact⟨[],_,Z⟩
  ·rw[am h];obtain⟨l,t,e⟩:=DI (p+1) r;rw[e];exact⟨c::l,t,Z⟩
theorem LJ(p:Nat)(w:List Nat)(ws:List j3):(ws++(wordsFrom p (qN w p) []).map ip)=(jd ⟨[],ws,w⟩ p).words:=by
 unfold qN jd
 by_cases h:w=[]
 ·subst h;simp[wordsFrom]
 ·rw[am h,am h];simp[wordsFrom,ip]
theorem Vs(st:qb)(p:Nat):(jd st p).word=[]:=by
 unfold jd;split
 ·rename_i h;exact h
 ·rfl
theorem Lf(st:qb)(p:Nat):(jd st p).lines=st.lines:=by unfold jd;split<;>rfl
theorem F9(ls:List mD)(ws:List j3)(w:List Nat)(p:Nat):jd ⟨ls,ws,w⟩ p=⟨ls,(jd ⟨[],ws,w⟩ p).words,[]⟩:=by
 unfold jd
 by_cases h:w=[]
 ·subst h;rfl
 ·rw[am h,am h]
theorem Sq(p:Nat)(o:Option Word)(l:Bytes):wordsFrom p o (32::l)=o.toList++wordsFrom (p+1) none l:=by
 cases o<;>simp[wordsFrom]
theorem SQ{c:Nat}(h:c≠32)(p:Nat)(o:Option Word)(l:Bytes):wordsFrom p o (c::l)=wordsFrom (p+1) (some (match o with|none=>(p,[c])|some w=>(w.1,w.2++[c]))) l:=by
 cases o<;>simp[wordsFrom,h]
theorem Xz(w:List Nat)(p:Nat)(ws:List j3):ws++(qN w p).toList.map ip=(jd ⟨[],ws,w⟩ p).words:=by
 unfold qN jd
 by_cases h:w=[]
 ·subst h;simp
 ·rw[am h,am h];simp[ip]
theorem Ab:∀(r:List Nat) (p:Nat) (ls:List mD) (ws:List j3) (w:List Nat) (l:Bytes) (t:List (Nat×Bytes)),w.length<=p->linesFrom p r=(p,l)::t->
 kI ⟨ls,ws,w⟩ p (r++[10])=⟨ls++((ws++(wordsFrom p (qN w p) l).map ip,p+l.length)::t.map oM),[],[]⟩
 |[],p,ls,ws,w,l,t,hw,e=>by
  simp only[linesFrom,List.cons.injEq,Prod.mk.injEq] at e;obtain⟨⟨_,rfl⟩,rfl⟩:=e;rw[LJ];show jL ⟨ls,ws,w⟩ p 10=_;unfold jL;rw[am (by simp),aw Z,F9];simp
 |b::r,p,ls,ws,w,l,t,hw,e=>by
  show kI (jL ⟨ls,ws,w⟩ p b) (p+1) (r++[10])=_;obtain⟨l2,t2,e2⟩:=DI (p+1) r;unfold linesFrom at e
  by_cases mW:b=10
  ·subst mW;rw[aw Z,e2] at e;obtain⟨e3,e4⟩:=dr e;have el:l=[]:=(aP e3).2.symm;subst el e4
   have hs:jL ⟨ls,ws,w⟩ p 10=⟨ls++[((jd ⟨[],ws,w⟩ p).words,p)],[],[]⟩:=by
    unfold jL;rw[am (by simp),aw Z,F9]
   rw[hs,Ab r (p+1) _ [] [] l2 t2 (by simp) e2,LJ];simp[qN,oM]
  ·rw[am mW,e2] at e;obtain⟨e3,e4⟩:=dr e;have el:l=b::l2:=(aP e3).2.symm;subst el e4
   by_cases Ip:b=32
   ·subst Ip
    have hs:jL ⟨ls,ws,w⟩ p 32=⟨ls,(jd ⟨[],ws,w⟩ p).words,[]⟩:=by
     unfold jL;rw[am (by simp),am (by simp),F9]
    rw[hs,Ab r (p+1) _ _ [] l2 t2 (by simp) e2,Sq,ao,<-a6,Xz];simp only[aj];rw[show p+1+l2.length=p+(l2.length+1) by omega];rfl
   ·have hs:jL ⟨ls,ws,w⟩ p b=⟨ls,ws,w++[b]⟩:=by
     unfold jL;rw[aw ⟨Ip,mW⟩]
    rw[hs,Ab r (p+1) _ _ (w++[b]) l2 t2 (by rw[ag];simp;omega) e2,SQ Ip]
    have ec:qN (w++[b]) (p+1)=some (match qN w p with|none=>(p,[b])|some w=>(w.1,w.2++[b])):=by
     unfold qN;rw[am (by simp)]
     by_cases h:w=[]
     ·subst h;simp
     ·rw[am h,ag,bD,show p+1-(w.length+1)=p-w.length by omega]
    rw[ec];simp only[aj];rw[show p+1+l2.length=p+(l2.length+1) by omega]
theorem XA(t:List Nat):kI ⟨[],[],[]⟩ 0 (t++[10])=⟨(linesFrom 0 t).map oM,[],[]⟩:=by
 obtain⟨l,r,e⟩:=DI 0 t;rw[Ab t 0 [] [] [] l r (by simp) e,e];simp[qN,oM]
inductive Due where
 |name
 |word (k:Bytes)
 |num (hi:Nat)
abbrev ik:=Sum Bytes Nat
def ji(names:List Bytes)(d:Due)(w:j3):Except Fault (List ik):=match d with
 |.name=>if isName w.1=false then .error ⟨1,w.2⟩ else if names.contains w.1=true then .error ⟨4,w.2⟩ else .ok [.inl w.1]
 |.word k=>if w.1=k then .ok [] else .error ⟨1,w.2⟩
 |.num hi=>match numeral w.1 with
  |none=>.error ⟨1,w.2⟩
  |some n=>if hi<n then .error ⟨2,w.2⟩ else .ok [.inr n]
def iF(e:Nat)(names:List Bytes):List Due->List j3->List ik->Except Fault (List ik)
 |[],_,vs=>.ok vs
 |_::_,[],_=>.error ⟨1,e⟩
 |d::ds,w::ws,vs=>match ji names d w with
  |.error f=>.error f
  |.ok v=>iF e names ds ws (vs++v)
def numOf(v:Option ik):Nat:=match v with
 |some (.inr n)=>n
 |_=>0
def jm(e:Nat)(names:List Bytes)(Yu:Bool)(ds:List Due)(ws:List j3):Except Fault (List ik):=match iF e names ds ws [] with
 |.error f=>.error f
 |.ok vs=>if Yu=true/\numOf vs[vs.length-2]? <numOf vs[vs.length-1]? then .error ⟨6,((ws[ds.length-1]?).map (·.2)).getD 0⟩
  else match ws[ds.length]? with
   |some w=>.error ⟨1,w.2⟩
   |none=>.ok vs
def vN:List Due:=[.name,.word (txt "pedestal"),.num 4095,.word (txt "on"),.num 4095,.word (txt "off"),.num 4095]
def wo:List Due:=[.num 4,.num 4]
def vS:List Due:=[.num 400,.word (txt "rate"),.num 50,.word (txt "high"),.num 400,.word (txt "low"),.num 400]
def Bc:List Due:=[.num 8]
def Bz:List Due:=[.num 10]
def NK(b:Book)(vs:List ik):Book:={b with keep:=some (numOf vs[0]?,numOf vs[1]?)}
def Ml(b:Book)(vs:List ik):Book:={b with buffer:=some (numOf vs[0]?,numOf vs[1]?,numOf vs[2]?,numOf vs[3]?)}
def MV(b:Book)(vs:List ik):Book:={b with delay:=some (numOf vs[0]?)}
def Og(b:Book)(vs:List ik):Book:={b with gap:=some (numOf vs[0]?)}
def GR(v:Option ik):Bytes:=match v with
 |some (.inl n)=>n
 |_=>[]
def xS(b:Book)(vs:List ik):Book:={b with channels:=b.channels++[⟨GR vs[0]?,numOf vs[1]?,numOf vs[2]?,numOf vs[3]?⟩]}
def sJ:Part->Due
 |.word k=>.word (txt k)
 |.number hi=>.num hi
 |.noMore hi=>.num hi
def Bd:Part->Bool
 |.noMore _=>false
 |_=>true
def nv:ik->Nat
 |.inr n=>n
 |.inl _=>0
theorem Ac(e:Nat)(names:List Bytes)(tail:List Part):∀(ps:List Part) (so:List ik) (ws:List Word),ps.all Bd=true->
 partsIn e (ps++tail) (so.map nv) ws=(match iF e names (ps.map sJ) (ws.map ip) so with
  |.error f=>.error f
  |.ok vs=>partsIn e tail (vs.map nv) (ws.drop ps.length))
 |[],so,ws,_=>by simp[iF]
 |p::ps,so,[],_=>by
  cases p<;>simp[partsIn,iF]
 |p::ps,so,w::r,h=>by
  simp only[cQ,aH] at h;cases p with
  |noMore hi=>exact absurd h.1 (by simp[Bd])
  |word k=>
   simp only[bM,partsIn,aB,sJ,iF,ji,ip]
   by_cases q:w.2=txt k
   ·rw[aw q,aw q,Ac e names tail ps so r h.2];simp
   ·rw[am q,am q]
  |number hi=>
   simp only[bM,partsIn,aB,sJ,iF,ji,ip];cases numeral w.2 with
   |none=>rfl
   |some n=>
    simp only
    by_cases q:hi<n
    ·rw[aw q,aw q]
    ·rw[am q,am q];have e1:so.map nv++[n]=(so++[(Sum.inr n:ik)]).map nv:=by simp[nv]
     rw[e1,Ac e names tail ps (so++[(Sum.inr n:ik)]) r h.2];simp
theorem Eu(e:Nat)(names:List Bytes)(es:List Due):∀(ds:List Due) (ws:List j3) (vs:List ik),iF e names (ds++es) ws vs=(match iF e names ds ws vs with
 |.error f=>.error f
 |.ok us=>iF e names es (ws.drop ds.length) us)
 |[],ws,vs=>by simp[iF]
 |d::ds,[],vs=>by simp[iF]
 |d::ds,w::ws,vs=>by
  simp only[bM,iF];cases ji names d w with
  |error f=>rfl
  |ok v=>simp only[Eu e names es ds ws (vs++v),aj,List.drop_succ_cons]
def BA:Due->Nat
 |.word _=>0
 |_=>1
theorem AF(e:Nat)(names:List Bytes):∀(ds:List Due) (ws:List j3) (vs us:List ik),iF e names ds ws vs=.ok us->us.length=vs.length+(ds.map BA).sum/\ds.length<=ws.length
 |[],ws,vs,us,h=>by
  simp only[iF,Except.ok.injEq] at h;subst h;simp
 |d::ds,[],vs,us,h=>by simp[iF] at h
 |d::ds,w::ws,vs,us,h=>by
  simp only[iF] at h;cases q:ji names d w with
  |error f=>rw[q] at h;cases h
  |ok v=>
   rw[q] at h;have r:=AF e names ds ws _ us h
   have hv:v.length=BA d:=by
    unfold ji at q;cases d with
    |name=>
     simp only at q;split at q
     ·cases q
     ·split at q
      ·cases q
      ·cases q;rfl
    |word k=>
     simp only at q;split at q
     ·cases q;rfl
     ·cases q
    |num hi=>
     simp only at q;split at q
     ·cases q
     ·split at q
      ·cases q
      ·cases q;rfl
   refine⟨?_,by simp;omega⟩;rw[r.1,ag,hv,aB,List.sum_cons];omega
theorem vX(vs:List ik)(i:Nat):numOf vs[i]? =(vs.map nv).getD i 0:=by
 rw[aE,au];cases vs[i]? with
 |none=>rfl
 |some v=>cases v<;>rfl
theorem E1(e:Nat)(names:List Bytes)(ps:List Part)(ws:List Word)(h:ps.all Bd=true){α:Type}(f:List Nat->α):
 (partsIn e ps [] ws).map f=(jm e names false (ps.map sJ) (ws.map ip)).map fun vs=>f (vs.map nv):=by
 have q:=Ac e names [] ps [] ws h;rw[bc] at q;unfold jm;rw[show([]:List Nat)=([]:List ik).map nv from Z,q];cases r:iF e names (ps.map sJ) (ws.map ip) [] with
 |error f=>rfl
 |ok vs=>
  simp only[bo,false_and,cW,ac,au];cases hd:ws.drop ps.length with
  |nil=>
   have:ws[ps.length]? =none:=by rw[<-cJ,hd];rfl
   rw[this];rfl
  |cons w r=>
   have:ws[ps.length]? =some w:=by rw[<-cJ,hd];rfl
   rw[this];rfl
theorem LK(e:Nat)(names:List Bytes)(ps:List Part)(hi:Nat)(ws:List Word)(h:ps.all Bd=true)(hn:0<((ps.map sJ).map BA).sum){α:Type}(f:List Nat->α):
 (partsIn e (ps++[.noMore hi]) [] ws).map f=(jm e names true (ps.map sJ++[.num hi]) (ws.map ip)).map fun vs=>f (vs.map nv):=by
 have q:=Ac e names [.noMore hi] ps [] ws h;unfold jm;rw[show([]:List Nat)=([]:List ik).map nv from Z,q,Eu];cases r:iF e names (ps.map sJ) (ws.map ip) [] with
 |error f=>rfl
 |ok vs=>
  have hl:=AF e names _ _ _ _ r;have hvl:0<vs.length:=by rw[hl.1];simpa using hn
  simp only[ac,ag,aj,aZ,dF];rw[<-cq];cases hd:ws.drop ps.length with
  |nil=>simp[partsIn,iF,Except.map]
  |cons w r2=>
   have hw:ws[ps.length]? =some w:=by rw[<-cJ,hd];rfl
   have hw2:ws[ps.length+1]? =r2.head?:=by
    have:ws.drop (ps.length+1)=r2:=by rw[<-bw,hd];rfl
    rw[<-cJ,this]
   simp only[partsIn,aB,iF,ji,ip];cases numeral w.2 with
   |none=>rfl
   |some n=>
    simp only
    by_cases c:hi<n
    ·rw[aw c,aw c];rfl
    ·rw[am c,am c];have e1:numOf (vs++[Sum.inr n])[(vs++[Sum.inr n]).length-1]? =n:=by simp[numOf]
     have e2:numOf (vs++[Sum.inr n])[(vs++[Sum.inr n]).length-2]? =(vs.map nv).getLastD 0:=by
      rw[ag,bD,show vs.length+1-2=vs.length-1 by omega,bp (by omega),vX,List.getLastD_eq_getLast?,cx,aE];simp
     simp only;rw[e1,e2]
     by_cases c2:(vs.map nv).getLastD 0<n
     ·rw[aw c2,aw ⟨True.intro,c2⟩];simp[hw,Except.map,ip]
     ·rw[am c2,am (fun z=>c2 z.2)];rw[au,hw2];cases r2 with
      |nil=>simp[Except.map,nv,partsIn]
      |cons w3 r3=>simp[Except.map,partsIn,ip]
theorem LL(e:Nat)(names:List Bytes)(us:List ik):∀(ds:List Due) (ws:List j3) (vs:List ik),iF e names ds ws (us++vs)=(iF e names ds ws vs).map (us++·)
 |[],ws,vs=>rfl
 |d::ds,[],vs=>rfl
 |d::ds,w::ws,vs=>by
  simp only[iF];cases ji names d w with
  |error f=>rfl
  |ok v=>simp only[a6,LL e names us ds ws (vs++v)]
theorem Vt(e:Nat)(names:List Bytes)(ds:List Due)(n:j3)(ws:List j3)(hn:isName n.1=true)(hc:names.contains n.1=false)(h2:2<=(ds.map BA).sum)(hd:0<ds.length):
 jm e names true (.name::ds) (n::ws)=(jm e names true ds ws).map ([.inl n.1]++·):=by
 have q:ji names .name n=.ok [.inl n.1]:=by simp only[ji,hn,hc,Bool.true_eq_false,bo,cW]
 unfold jm;simp only[iF,q];rw[show([]++[Sum.inl n.1]:List ik)=[Sum.inl n.1]++[] from Z,LL];cases r:iF e names ds ws [] with
 |error f=>rfl
 |ok vs=>
  have hl:=(AF e names _ _ _ _ r).1;simp only[aZ,dF] at hl;simp only[Except.map]
  have e1:([Sum.inl n.1]++vs:List ik)[([Sum.inl n.1]++vs:List ik).length-1]? =vs[vs.length-1]? :=by
   rw[ag,bD,bx (by simp;omega),bD]
   congr 1;omega
  have e2:([Sum.inl n.1]++vs:List ik)[([Sum.inl n.1]++vs:List ik).length-2]? =vs[vs.length-2]? :=by
   rw[ag,bD,bx (by simp;omega),bD]
   congr 1;omega
  rw[e1,e2]
  have e3:(n::ws)[(Due.name::ds).length-1]? =ws[ds.length-1]? :=by
   obtain⟨k,hk⟩:∃k,ds.length=k+1:=⟨ds.length-1,by omega⟩;simp[hk]
  rw[e3,show(n::ws)[(Due.name::ds).length]? =ws[ds.length]? by simp];split
  ·rfl
  ·cases ws[ds.length]? <;>rfl
def names(b:Book):List Bytes:=b.channels.map (·.name)
theorem WA(b:Book)(n:Bytes):(b.channels.any fun c=>c.name==n)=(names b).contains n:=by
 unfold names;rw[eG,fg]
 congr 1
 funext c
 exact Bool.beq_comm
inductive Key|jc|keep|buffer|delay|gap
 deriving DecidableEq
def jt:Key->Bytes
 |.jc=>txt "channel"|.keep=>txt "keep"|.buffer=>txt "buffer"|.delay=>txt "delay"|.gap=>txt "gap"
def jY:Key->List Due
 |.jc=>vN|.keep=>wo|.buffer=>vS|.delay=>Bc|.gap=>Bz
def qy:Key->Bool
 |.jc=>true|.buffer=>true|_=>false
def me(b:Book):Key->Bool
 |.jc=>false|.keep=>b.keep.isSome|.buffer=>b.buffer.isSome|.delay=>b.delay.isSome|.gap=>b.gap.isSome
def lV(b:Book)(vs:List ik):Key->Book
 |.jc=>xS b vs|.keep=>NK b vs|.buffer=>Ml b vs|.delay=>MV b vs|.gap=>Og b vs
def nW(w:Bytes):Option Key:=
 if w=txt "channel" then some .jc else if w=txt "keep" then some .keep else if w=txt "buffer" then some .buffer else if w=txt "delay" then some .delay else if w=txt "gap" then some .gap else none
def qz(b:Book)(e:Nat)(w:j3)(r:List j3):Except Fault Book:=match nW w.1 with
 |none=>.error ⟨1,w.2⟩
 |some k=>if me b k=true then .error ⟨4,w.2⟩ else if (match k with|.jc=>decide (b.channels.length=8)|_=>false)=true then .error ⟨5,w.2⟩
  else(jm e (names b) (qy k) (jY k) r).map fun vs=>lV b vs k
theorem T6(b:Book)(e:Nat)(p:Nat)(r:List Word)(h8:b.channels.length<=8):lineIn b e ((p,txt "channel")::r)=(if b.channels.length=8 then .error ⟨5,p⟩ else(jm e (names b) true vN (r.map ip)).map (xS b)):=by
 unfold lineIn;simp only[dz]
 by_cases h:b.channels.length=8
 ·rw[aw (show CHANNELS<=b.channels.length by unfold CHANNELS;omega),aw h]
 ·rw[am (show¬CHANNELS<=b.channels.length by unfold CHANNELS;omega),am h];cases r with
  |nil=>rfl
  |cons n r=>
   simp only[aB]
   by_cases hn:isName n.2=false
   ·rw[aw hn];simp[jm,vN,iF,ji,ip,hn,Except.map]
   ·rw[am hn,WA];have sW:isName n.2=true:=by simpa using hn
    by_cases hc:(names b).contains n.2=true
    ·rw[aw hc];simp[jm,vN,iF,ji,ip,sW,fu.mp hc,Except.map]
    ·rw[am hc];have qE:(names b).contains n.2=false:=by simpa using hc
     have q:=LK e (names b) [.word "pedestal",.number SAMPLE,.word "on",.number SAMPLE,.word "off"] SAMPLE r (by decide) (by decide) (fun l=>({b with channels:=b.channels++[⟨n.2,l.getD 0 0,l.getD 1 0,l.getD 2 0⟩]}:Book));have q2:=Vt e (names b) [.word (txt "pedestal"),.num SAMPLE,.word (txt "on"),.num SAMPLE,.word (txt "off"),.num SAMPLE] (ip n) (r.map ip) sW qE (by decide) (by decide)
     have q3:(match partsIn e ([.word "pedestal",.number SAMPLE,.word "on",.number SAMPLE,.word "off"]++[.noMore SAMPLE]) [] r with|.error f=>Except.error f|.ok l=>Except.ok ({b with channels:=b.channels++[⟨n.2,l.getD 0 0,l.getD 1 0,l.getD 2 0⟩]}:Book))=(partsIn e ([.word "pedestal",.number SAMPLE,.word "on",.number SAMPLE,.word "off"]++[.noMore SAMPLE]) [] r).map (fun l=>({b with channels:=b.channels++[⟨n.2,l.getD 0 0,l.getD 1 0,l.getD 2 0⟩]}:Book)):=by
      cases partsIn e ([.word "pedestal",.number SAMPLE,.word "on",.number SAMPLE,.word "off"]++[.noMore SAMPLE]) [] r<;>rfl
     refine q3.trans ?_;rw[q];show _=(jm e (names b) true (.name::[.word (txt "pedestal"),.num SAMPLE,.word (txt "on"),.num SAMPLE,.word (txt "off"),.num SAMPLE]) (ip n::r.map ip)).map (xS b);rw[q2];show(jm e (names b) true [.word (txt "pedestal"),.num SAMPLE,.word (txt "on"),.num SAMPLE,.word (txt "off"),.num SAMPLE] (r.map ip)).map _=_;cases jm e (names b) true [.word (txt "pedestal"),.num SAMPLE,.word (txt "on"),.num SAMPLE,.word (txt "off"),.num SAMPLE] (r.map ip) with
     |error f=>rfl
     |ok vs=>
      simp only[Except.map,xS,GR,ip,c7,List.getElem?_cons_zero,dB,vX]
theorem WB(b:Book)(e:Nat)(w:Word)(r:List Word)(h8:b.channels.length<=8):lineIn b e (w::r)=qz b e (ip w) (r.map ip):=by
 obtain⟨p,w⟩:=w;show lineIn b e ((p,w)::r)=qz b e (w,p) (r.map ip);unfold qz nW;simp only
 by_cases h1:w=txt "channel"
 ·subst h1;rw[T6 b e p r h8];simp[me,qy,jY,lV]
 ·rw[am h1];unfold lineIn;simp only[am h1]
  by_cases h2:w=txt "keep"
  ·simp only[aw h2]
   by_cases t:b.keep.isSome=true
   ·rw[aw t,aw (show me b .keep=true from t)]
   ·rw[am t,am (show¬me b .keep=true from t),am (by simp),E1 e (names b) [.number 4,.number 4] r (by decide)];show(jm e (names b) false wo (r.map ip)).map _=(jm e (names b) false wo (r.map ip)).map _
    congr 1;funext vs;simp[lV,NK,vX]
  ·simp only[am h2]
   by_cases h3:w=txt "buffer"
   ·simp only[aw h3]
    by_cases t:b.buffer.isSome=true
    ·rw[aw t,aw (show me b .buffer=true from t)]
    ·rw[am t,am (show¬me b .buffer=true from t),am (by simp)];have q:=LK e (names b) [.number 400,.word "rate",.number 50,.word "high",.number 400,.word "low"] 400 r (by decide) (by decide) (fun l=>({b with buffer:=some (l.getD 0 0,l.getD 1 0,l.getD 2 0,l.getD 3 0)}:Book));refine q.trans ?_;show(jm e (names b) true vS (r.map ip)).map _=(jm e (names b) true vS (r.map ip)).map _
     congr 1;funext vs;simp[lV,Ml,vX]
   ·simp only[am h3]
    by_cases h4:w=txt "delay"
    ·simp only[aw h4]
     by_cases t:b.delay.isSome=true
     ·rw[aw t,aw (show me b .delay=true from t)]
     ·rw[am t,am (show¬me b .delay=true from t),am (by simp),E1 e (names b) [.number 8] r (by decide)];show(jm e (names b) false Bc (r.map ip)).map _=(jm e (names b) false Bc (r.map ip)).map _
      congr 1;funext vs;simp[lV,MV,vX]
    ·simp only[am h4]
     by_cases h5:w=txt "gap"
     ·simp only[aw h5]
      by_cases t:b.gap.isSome=true
      ·rw[aw t,aw (show me b .gap=true from t)]
      ·rw[am t,am (show¬me b .gap=true from t),am (by simp),E1 e (names b) [.number 10] r (by decide)];show(jm e (names b) false Bz (r.map ip)).map _=(jm e (names b) false Bz (r.map ip)).map _
       congr 1;funext vs;simp[lV,Og,vX]
     ·simp only[am h5]
end FE
namespace L2
open PySem PySem.Spec PyProof.Rows
theorem jV.pZ{P:Program}{w:World}{K:PySem.W.Frag}{mg:Str->Option Value}{base:Heap}{C:Addr}{x qual:Str}{st:Stmt}{f:Addr}{fd:FuncData}{N ps:List Str}{k:Nat}{sp:Sp}(F:jV K x qual st f fd)(S:gP N ps (gL st))(len:∀vs H Q E,sp vs H Q E->vs.length=ps.length)
 (rf:∀(gy:Value) (A:Around) (outer:List Env) (s:Shared) (H:Hp) (vs:List V) (Q:VK) (E:XK),jN k (A.deeper (envOfC qual (gL st) s.heap.objs.size f gy))->sp vs H Q E->
   ∃t,lZ (j5 (jF P w C) P w K mg base N qual (gL st) f gy A outer s H E) (qY st) t/\t {nx:=fun _ H'=>Q .gS H',rt:=Q} (start N vs) H):gK P w K mg base (jF P w C) (k+1) f fd ps sp:=by
 obtain⟨oc,od,kV,doc,pm,an,gy,ct,oX,rfl,lk,nY⟩:=F.ex;exact Os lk nY S len fun A outer s H vs Q E hr tj=>rf gy A outer s H vs Q E hr tj
theorem GS{x:Str}{g:TG}{tt:TT}{te:TE}{vs:List Nat}{σ:St}{H1:Hp}{D:Addr}{Qd:Hp->Prop}(Pv:Nat->Hp->Prop)(h0:Pv 0 (fM H1 D (.lst [])))
 (hs:∀i c H,x.cps[i]? =some c->Pv i H->g (.str ⟨#[c]⟩) (iA σ vs) H fun gv H2=>iA gv vs=iA σ vs/\tt gv H2 fun b H3=>
   if b=true then te gv H3 fun y H4=>∃acc,H4 D=some (.lst acc)/\acc.length<sizeLine/\Pv (i+1) (fM H4 D (.lst (acc++[y]))) else Pv (i+1) H3) (hd:∀H,Pv x.cps.size H->Qd H):
 ∃W:Nat->Nat->Hp->Prop,(∃m,W 0 m (fM H1 D (.lst [])))/\∀i m H,W i m H->
  ((yQ x).stop i H/\Qd H)\/((yQ x).go i H/\∃Nx:Hp->Prop,(∀H',Nx H'->∃m',m'<m/\W (i+1) m' H')/\∀y H',(yQ x).mG i H y H'->g y (iA σ vs) H' fun gv H2=>iA gv vs=iA σ vs/\tt gv H2 fun b H3=>
    if b=true then te gv H3 fun y H4=>∃acc,H4 D=some (.lst acc)/\acc.length<sizeLine/\Nx (fM H4 D (.lst (acc++[y]))) else Nx H3):=by
 refine⟨fun i m H=>m=x.cps.size-i/\i<=x.cps.size/\Pv i H,⟨x.cps.size,by simp,aN _,h0⟩,?_⟩;rintro i m H ⟨rfl,hi,p⟩
 by_cases hZ:i<x.cps.size
 ·refine .inr ⟨hZ,Pv (i+1),fun H' p'=>⟨x.cps.size-(i+1),by omega,Z,hZ,p'⟩,fun y H' z=> ?_⟩;obtain⟨e,c,hc,z⟩:=z;subst e z;exact hs i c _ hc p
 ·have e:i=x.cps.size:=by omega
  subst e;exact .inl ⟨aA _,hd H p⟩
end L2
namespace FE
open PySem PySem.Spec PyProof.Rows L2
open VbkdCore (txt)
theorem jq(s:String):Str.ofString s=gJ (txt s):=by
 rw[Str.ofString_eq_toList];rfl
theorem Ga{a b:List Nat}:gJ a=gJ b↔a=b:=by
 constructor
 ·intro h;have:=congrArg (fun z:Str=>z.cps.toList) h;simpa [gJ] using this
 ·rintro rfl;rfl
def lG(k:List Nat):Bool:=k.all fun x=>(decide (48<=x)&&decide (x<=57))||(decide (97<=x)&&decide (x<=122))
theorem FF{x:Nat}(h:((decide (48<=x)&&decide (x<=57))||(decide (97<=x)&&decide (x<=122)))=true):jk x=x/\x≠63:=by
 simp only[Bool.or_eq_true,aH,aJ] at h;unfold jk;exact⟨aw h,by omega⟩
theorem XB{x:Nat}(h:jk x≠63):jk x=x:=by
 unfold jk at h⊢;split
 ·rfl
 ·rename_i c;rw[am c] at h;exact absurd Z h
theorem NL:∀{k:List Nat},lG k=true->k.map jk=k
 |[],_=>rfl
 |x::k,h=>by
  unfold lG at h;rw[cQ,aH] at h;rw[aB,(FF h.1).1,NL h.2]
theorem NM:∀{w k:List Nat},lG k=true->w.map jk=k->w=k
 |[],k,_,h=>by simpa using h
 |x::w,[],_,h=>by simp at h
 |x::w,y::k,hk,h=>by
  unfold lG at hk;rw[cQ,aH] at hk;rw[aB] at h;obtain⟨h1,h2⟩:=dr h;have hy:=FF hk.1;have:jk x=x:=XB (by rw[h1];exact hy.2);rw[<-h1,this,NM hk.2 h2]
theorem yh{w k:List Nat}(hk:lG k=true):ig w=gJ k↔w=k:=by
 unfold ig;rw[Ga];exact⟨NM hk,fun h=>by rw[h];exact NL hk⟩
theorem Ad{w:List Nat}(hk:lG w=true):ig w=gJ w:=(yh hk).mpr Z
theorem my(w:List Nat):(ig w).length=w.length:=by
 show(ig w).cps.size=w.length;simp[ig,gJ]
theorem pI(w:List Nat):(gJ w).length=w.length:=by
 show(gJ w).cps.size=w.length;simp[gJ]
theorem FG(w:List Nat):(ig w).cps.toList=w.map jk:=by simp[ig,gJ]
def mH(AA:gu)(H:Hp)(E:XK)(k p:Nat):Prop:=∀(H':Hp) (dx:Addr),fQ H H'->H dx=none->H' dx=some (XD dx [("kind",.int k),("place",.int p)])->E (.ref AA.m8) (some dx) H'
theorem mH.go{AA:gu}{H H1:Hp}{E:XK}{k p:Nat}(h:mH AA H E k p)(s:fQ H H1):∀dx,H1 dx=none->E (.ref AA.m8) (some dx) (fM H1 dx (XD dx [("kind",.int (k:Int)),("place",.int (p:Int))])):=
 fun dx n=>h _ dx (s.more n) (s.free n) fO
theorem mH.at{AA:gu}{H H1:Hp}{E:XK}{k p:Nat}(h:mH AA H E k p)(s:fQ H H1):mH AA H1 E k p:=fun H' dx s1 n g=>h H' dx (s.trans s1) (s.free n) g
def ZL:Sp:=fun vs H Q _=>∃b:Nat,vs=[.int b]/\Q (.str (gJ [jk b])) H
def pi(w:j3):HO:=.tup [.str (ig w.1),.int w.2]
def q0(H0 H:Hp)(ts:List Addr)(ls:List mD):Prop:=ts.length=ls.length/\∀(i:Nat) (t:Addr) (l:mD),ts[i]? =some t->ls[i]? =some l->
 ∃(q:Addr) (ws:List Addr),H t=some (.tup [.ref q,.int l.2])/\H q=some (.lst (ws.map V.ref))/\iG H pi ws l.1/\H0 q=none
theorem iG.same{α:Type}{H H':Hp}{g:α->HO}{as:List Addr}{xs:List α}(h:iG H g as xs)(s:fQ H H'):iG H' g as xs:=h.keep (ys:=[]) s.own fun _ _ z=>by cases z
theorem q0.keep{H0 H H':Hp}{ts:List Addr}{ls:List mD}{ys:List Addr}(h:q0 H0 H ts ls)(o:gE ys H H')(n:∀y∈ys,(H0 y).isSome=true)(m:∀y∈ys,∀xs,H y≠some (.tup xs)):q0 H0 H' ts ls:=
 ⟨h.1,fun i t l h1 h2=>by
   obtain⟨q,ws,a,b,c,d⟩:=h.2 i t l h1 h2;exact⟨q,ws,kQ o m a,o _ _ b (fun z=>by have:=n q z;rw[d] at this;cases this),⟨c.1,fun j a x h3 h4=>kQ o m (c.2 j a x h3 h4)⟩,d⟩⟩
theorem q0.same{H0 H H':Hp}{ts:List Addr}{ls:List mD}(h:q0 H0 H ts ls)(s:fQ H H'):q0 H0 H' ts ls:=h.keep (ys:=[]) s.own (fun _ z=>by cases z) (fun _ z=>by cases z)
def Yv(K:PySem.W.Frag):Sp:=fun vs H Q _=>∃(a:Addr) (t:List Nat),vs=[.ref a]/\H a=some (.lst (t.map nV))/\t.length<=1000/\
 ∀(H':Hp) (p:Addr) (ts:List Addr),fQ H H'->H p=none->H' p=some (.lst (ts.map V.ref))->q0 H H' ts (kI ⟨[],[],[]⟩ 0 (t++[10])).lines->Q (.ref p) H'
section
variable {P:Program} {w:World} {K:PySem.W.Frag} {mg:Str->Option Value} {base:Heap} {AA:gu}
theorem Tj:gP ["self","kind","place"] ["self","kind","place"] (gL (iZ (fX 56) 0)):=gX (by decide+kernel)
theorem AG(T:Tx P w K mg AA):gK P w K mg base gT 1 AA.D9 AA.Ea ["self","kind","place"] (Bx AA.m8):=by
 have SC:=Tj;refine T.TZ.ok SC (fun vs H Q E h=> ?_) (fun gy A outer s H vs Q E hr h=> ?_)
 ·obtain⟨e,k,p,rfl,_⟩:=h;rfl
 ·obtain⟨e,k,p,rfl,he,hq⟩:=h
  refine⟨_,(fS (aas T.xc (Or.inl Z) (pv 0) (pv 1) Z)
   (fV (aat T.xc (Or.inr Z) (pv 0) (pv 2) Z))),?_⟩
  refine⟨_,Z,_,Z,e,Z,he,fun dx nd ne=> ?_⟩;refine⟨_,Z,_,Z,e,dx,_,Z,fO,(by rw[fT ne];exact fO),(by show 1<1000;decide),?_⟩;have:=hq dx nd ne
  have e2:fM (fM (fM H dx (XD dx [("kind",.int k)])) e (XO e AA.m8 (some dx) true)) dx (XD dx [("kind",.int k),("place",.int p)])=fM (fM H dx (XD dx [("kind",.int k),("place",.int p)])) e (XO e AA.m8 (some dx) true):=by
   funext b
   by_cases h1:b=dx
   ·rw[h1,fO,fT ne,fO]
   ·rw[fT h1]
    by_cases h2:b=e
    ·rw[h2,fO,fO]
    ·rw[fT h2,fT h2,fT h1,fT h1]
  rw[<-e2] at this;exact this
theorem Vu:gP ["byte"] ["byte"] (gL (fX 60)):=gX (by decide+kernel)
theorem Vv(T:Tx P w K mg AA):gK P w K mg base gT 1 AA.Mb AA.Mc ["byte"] ZL:=by
 have SC:=Vu;refine T.sign_of.fn.ok SC (fun vs H Q E h=> ?_) (fun gy A outer s H vs Q E hr h=> ?_)
 ·obtain⟨b,rfl,_⟩:=h;rfl
 ·obtain⟨b,rfl,hq⟩:=h
  refine⟨_,(fS (gY (ql ju ju (gU uo (by rfl) T.ord boot_ord (fN kq fP)) (pv 0) (gU uo (by rfl) T.ord boot_ord (fN kq fP)))
   (fV (gC (hV GI (uz Z T.Of) (gA jK (pv 0) (gU uo (by rfl) T.ord boot_ord (fN kq fP))) (fun _ _=>rfl))))
   ia)
   (fS (gY (ql ju ju (gU uo (by rfl) T.ord boot_ord (fN kq fP)) (pv 0) (gU uo (by rfl) T.ord boot_ord (fN kq fP)))
     (fV (gC (hV GI (uz Z T.NI) (gA jK (pv 0) (gU uo (by rfl) T.ord boot_ord (fN kq fP))) (fun _ _=>rfl))))
     ia)
   (fV (gC (uz Z T.Xe))))),?_⟩
  have o0:(((Str.ofString "0").cps.getD 0 0:Nat):Int)=48:=by rw[jq];rfl
  have o9:(((Str.ofString "9").cps.getD 0 0:Nat):Int)=57:=by rw[jq];rfl
  have oa:(((Str.ofString "a").cps.getD 0 0:Nat):Int)=97:=by rw[jq];rfl
  have oz:(((Str.ofString "z").cps.getD 0 0:Nat):Int)=122:=by rw[jq];rfl
  have Oh:¬(48<=b/\b<=57)->(jR (uP (sE (GH (kX fun i j=>V.bl (decide (i<=j))) (kX fun i j=>V.bl (decide (i<=j))) (nZ (fun xs H Q=>∃x,xs=[V.str x]/\x.length=1/\Q (V.int (x.cps.getD 0 0:Nat)) H) (i7 (tC (V.str "a")) jw)) (iO 0) (nZ (fun xs H Q=>∃x,xs=[V.str x]/\x.length=1/\Q (V.int (x.cps.getD 0 0:Nat)) H) (i7 (tC (V.str "z")) jw))))
   (ww (kz OV (tC (V.str "abcdefghijklmnopqrstuvwxyz")) (kz (kX fun i j=>V.int (i-j)) (iO 0) (nZ (fun xs H Q=>∃x,xs=[V.str x]/\x.length=1/\Q (V.int (x.cps.getD 0 0:Nat)) H) (i7 (tC (V.str "a")) jw))))) uH) (ww (tC (V.str "?"))) ⟨fun _ H'=>Q .gS H',Q,fun _ _=>True,fun _ _=>True⟩ [some (.int b)] H):=by
   intro hn;refine⟨_,Z,Z,_,Z,_,_,Z,Z,_,Z,?_⟩
   by_cases c3:97<=b
   ·refine fZ (ai (by rw[oa];omega)) ?_;refine⟨_,Z,Z,_,_,Z,Z,_,Z,?_⟩
    by_cases c4:b<=122
    ·refine fZ (ai (by rw[oz];omega)) ?_;refine⟨_,Z,_,Z,Z,_,_,Z,Z,_,_,b,Z,Z,fY (by rw[jq,pI];decide),?_,?_⟩
     ·rw[jq];show mn (txt "abcdefghijklmnopqrstuvwxyz") ((b:Int)-(((Str.ofString "a").cps.getD 0 0:Nat):Int))=some b;rw[oa,show txt "abcdefghijklmnopqrstuvwxyz"=List.range' 97 26 from by decide,show(b:Int)-97=((b-97:Nat):Int) by omega];exact AO (by rw[List.getElem?_range' (by omega)];congr 1;omega)
     ·have:jk b=b:=by unfold jk;rw[aw (.inr ⟨c3,c4⟩)]
      rw[this] at hq;exact hq
    ·refine gn (ae (by rw[oz];omega)) ?_;have:jk b=63:=by unfold jk;rw[am (by omega)]
     rw[this] at hq;have e:(V.str (gJ [63]):V)=V.str "?":=by rw[show(("?":Str))=gJ (txt "?") from jq "?"];rfl
     rw[e] at hq;exact hq
   ·refine gn (ae (by rw[oa];omega)) ?_;refine⟨_,Z,?_⟩;refine gn Z ?_;have:jk b=63:=by unfold jk;rw[am (by omega)]
    rw[this] at hq;have e:(V.str (gJ [63]):V)=V.str "?":=by rw[show(("?":Str))=gJ (txt "?") from jq "?"];rfl
    rw[e] at hq;exact hq
  refine⟨_,Z,Z,_,Z,_,_,Z,Z,_,Z,?_⟩
  by_cases c1:48<=b
  ·refine fZ (ai (by rw[o0];omega)) ?_;refine⟨_,Z,Z,_,_,Z,Z,_,Z,?_⟩
   by_cases c2:b<=57
   ·refine fZ (ai (by rw[o9];omega)) ?_;refine⟨_,Z,_,Z,Z,_,_,Z,Z,_,_,b,Z,Z,fY (by rw[jq,pI];decide),?_,?_⟩
    ·rw[jq];show mn (txt "0123456789") ((b:Int)-(((Str.ofString "0").cps.getD 0 0:Nat):Int))=some b;rw[o0,show txt "0123456789"=List.range' 48 10 from by decide,show(b:Int)-48=((b-48:Nat):Int) by omega];exact AO (by rw[List.getElem?_range' (by omega)];congr 1;omega)
    ·have:jk b=b:=by unfold jk;rw[aw (.inl ⟨c1,c2⟩)]
     rw[this] at hq;exact hq
   ·refine gn (ae (by rw[o9];omega)) ?_;exact Oh (by omega)
  ·refine gn (ae (by rw[o0];omega)) ?_;refine⟨_,Z,?_⟩;refine gn Z ?_;exact Oh (by omega)
end
end FE
namespace L2
open PySem
theorem AH{K:PySem.W.Frag}{a:Addr}{xs:List V}{g:TG}{tb:TS}{D:oO}{σ:St}{H:Hp}(Pv:Nat->St->Hp->Prop)(h0:Pv 0 σ H)(hl:∀i σ H,i<=xs.length->Pv i σ H->fR K H a xs)
 (hs:∀i x p σ H,xs[i]? =some x->Pv i σ H->H p=none->g (.ref p) σ (fM H p (.tup [.int (i:Nat),x])) fun gv H2=>tb {D with nx:=Pv (i+1),ct:=Pv (i+1),bk:=D.nx} gv H2) (hd:∀σ H,Pv xs.length σ H->D.nx σ H):
 ∃W:Nat->Nat->St->Hp->Prop,(∃m,W 0 m σ H)/\∀i m σ H,W i m σ H->
  ((tD K a).stop i H/\D.nx σ H)\/((tD K a).go i H/\∃N:St->Hp->Prop,(∀gw H',N gw H'->∃m',m'<m/\W (i+1) m' gw H')/\∀x H',(tD K a).mG i H x H'->g x σ H' fun gv H2=>tb {D with nx:=N,ct:=N,bk:=D.nx} gv H2):=by
 refine⟨fun i m σ H=>m=xs.length-i/\i<=xs.length/\Pv i σ H,⟨xs.length,by simp,aN _,h0⟩,?_⟩;rintro i m σ H ⟨rfl,hi,p⟩;have q:=hl i σ H hi p
 by_cases hZ:i<xs.length
 ·refine .inr ⟨⟨xs,xs[i],q,by simp[hZ]⟩,Pv (i+1),fun gw H' p'=>⟨xs.length-(i+1),by omega,Z,hZ,p'⟩,fun v H' y=> ?_⟩;obtain⟨T,x,rfl,hT,rfl,y⟩:=y;exact hs i x T σ H (y xs q) p hT
 ·have e:i=xs.length:=by omega
  subst e;exact .inl ⟨⟨xs,q,aA _⟩,hd σ H p⟩
theorem Yw{K:PySem.W.Frag}{a:Addr}{xs:List V}{g:TG}{tt:TT}{te:TE}{vs:List Nat}{σ:St}{H1:Hp}{D:Addr}{Qd:Hp->Prop}(Pv:Nat->Hp->Prop)(h0:Pv 0 (fM H1 D (.lst [])))(hl:∀i H,i<=xs.length->Pv i H->fR K H a xs)
 (hs:∀i x p H,xs[i]? =some x->Pv i H->H p=none->g (.ref p) (iA σ vs) (fM H p (.tup [.int (i:Nat),x])) fun gv H2=>iA gv vs=iA σ vs/\tt gv H2 fun b H3=>
   if b=true then te gv H3 fun y H4=>∃acc,H4 D=some (.lst acc)/\acc.length<sizeLine/\Pv (i+1) (fM H4 D (.lst (acc++[y]))) else Pv (i+1) H3) (hd:∀H,Pv xs.length H->Qd H):
 ∃W:Nat->Nat->Hp->Prop,(∃m,W 0 m (fM H1 D (.lst [])))/\∀i m H,W i m H->
  ((tD K a).stop i H/\Qd H)\/((tD K a).go i H/\∃Nx:Hp->Prop,(∀H',Nx H'->∃m',m'<m/\W (i+1) m' H')/\∀x H',(tD K a).mG i H x H'->g x (iA σ vs) H' fun gv H2=>iA gv vs=iA σ vs/\tt gv H2 fun b H3=>
    if b=true then te gv H3 fun y H4=>∃acc,H4 D=some (.lst acc)/\acc.length<sizeLine/\Nx (fM H4 D (.lst (acc++[y]))) else Nx H3):=by
 refine⟨fun i m H=>m=xs.length-i/\i<=xs.length/\Pv i H,⟨xs.length,by simp,aN _,h0⟩,?_⟩;rintro i m H ⟨rfl,hi,p⟩;have q:=hl i H hi p
 by_cases hZ:i<xs.length
 ·refine .inr ⟨⟨xs,xs[i],q,by simp[hZ]⟩,Pv (i+1),fun H' p'=>⟨xs.length-(i+1),by omega,Z,hZ,p'⟩,fun v H' y=> ?_⟩;obtain⟨T,x,rfl,hT,rfl,y⟩:=y;exact hs i x T H (y xs q) p hT
 ·have e:i=xs.length:=by omega
  subst e;exact .inl ⟨⟨xs,q,aA _⟩,hd H p⟩
end L2
namespace FE
open PySem PySem.Spec PyProof.Rows L2
open Vbkdaa (Book Channel ahead behind depth rate high low delayOf gapOf isHigh signal busyNow)
structure gM where
 r:Addr
 dx:Addr
 ls:Addr
 lh:Addr
 lf:Addr
 lb:Addr
 ld:Addr
 lq:Addr
 rows:List Addr
 gD:List Addr
 gZ:List Addr
 gO:List Addr
 S:ll
def gM.mut(L:gM):List Addr:=[L.r,L.ls,L.lh,L.lf,L.lb,L.ld,L.lq]
def pj(L:gM)(gone most:Nat):List (Str×V):=
 [("settings",.ref L.S.s),("samples",.ref L.ls),("highs",.ref L.lh),("fates",.ref L.lf),("busies",.ref L.lb),("frames",.ref L.ld),("sent",.ref L.lq),("gone",.int gone),("most",.int most)]
def Iq(x:(Nat×Bool×List Nat)×Addr):HO:=.tup [bV x.1.2.1,.ref x.2]
structure ij(AA:gu)(H:Hp)(L:gM)(b:Book)(m:RS):Prop where
 ins:H L.r=some (.ins AA.hJ L.dx (pj L m.gone m.most))
 jQ:H L.ls=some (.lst (L.rows.map V.ref))
 rows:iG H (fun s:List Nat=>.lst (s.map nV)) L.rows m.samples
 i0:H L.lh=some (.lst (L.gD.map V.ref))
 gD:iG H (fun h:List Bool=>.lst (h.map V.bl)) L.gD m.highs
 iW:H L.lf=some (.lst (m.fates.map nV))
 jf:H L.lb=some (.lst (m.gB.map bV))
 jG:H L.ld=some (.dK (List.zipWith (fun(x:Nat×Bool×List Nat) (a:Addr)=>(Sum.inl (x.1:Int),V.ref a)) m.frames L.gZ))
 gZ:iG H Iq L.gZ (m.frames.zip L.gO)
 gO:iG H (fun x:Nat×Bool×List Nat=>.lst (x.2.2.map nV)) L.gO m.frames
 kM:H L.lq=some (.lst (m.iB.map nV))
 set:lX AA H L.S b
 nd:L.mut.Nodup
 sep:∀a∈L.rows++L.gD++L.gO++L.S.fp,a∉L.mut
 kj:m.gone<=m.iB.length
structure lP(b:Book)(m:RS):Prop where
 s:m.samples.length<=400
 h:m.highs.length<=400
 f:m.fates.length<=400
 bl:m.gB.length<=400
 q:m.iB.length<=100*m.fates.length
 fr:m.frames.length<=400
 hr:∀x∈m.highs,x.length=b.channels.length
 sr:∀x∈m.samples,x.length=b.channels.length
 sn:∀x∈m.samples,∀y∈x,y<4096
 ah:ahead b<=4
 be:behind b<=4
 dp:depth b<=400
 rt:rate b<=50
 hi:high b<=400
 lo:low b<=400
 de:delayOf b<=8
 ga:gapOf b<=10
theorem ij.rj{AA:gu}{H:Hp}{L:gM}{b:Book}{m:RS}(h:ij AA H L b m):∀y∈L.mut,∀xs,H y≠some (.tup xs):=by
 intro y hy xs z;simp only[gM.mut,az,bh,cN] at hy;rcases hy with rfl|rfl|rfl|rfl|rfl|rfl|rfl
 ·rw[h.ins] at z;cases z
 ·rw[h.jQ] at z;cases z
 ·rw[h.i0] at z;cases z
 ·rw[h.iW] at z;cases z
 ·rw[h.jf] at z;cases z
 ·rw[h.jG] at z;cases z
 ·rw[h.kM] at z;cases z
theorem ij.lL{AA:gu}{H:Hp}{L:gM}{b:Book}{m:RS}(h:ij AA H L b m):∀y∈L.mut,(H y).isSome=true:=by
 intro y hy;simp only[gM.mut,az,bh,cN] at hy;rcases hy with rfl|rfl|rfl|rfl|rfl|rfl|rfl
 ·rw[h.ins];rfl
 ·rw[h.jQ];rfl
 ·rw[h.i0];rfl
 ·rw[h.iW];rfl
 ·rw[h.jf];rfl
 ·rw[h.jG];rfl
 ·rw[h.kM];rfl
theorem ij.keep{AA:gu}{H H':Hp}{L:gM}{b:Book}{m:RS}{ys:List Addr}(h:ij AA H L b m)(o:gE ys H H')(n1:∀a∈L.mut,a∉ys)(n2:∀a∈L.rows++L.gD++L.gO++L.S.fp,a∉ys)(n3:∀y∈ys,∀xs,H y≠some (.tup xs)):ij AA H' L b m where
 ins:=o _ _ h.ins (n1 _ (by simp[gM.mut]))
 jQ:=o _ _ h.jQ (n1 _ (by simp[gM.mut]))
 rows:=h.rows.keep o fun a ha=>n2 a (by simp[ha])
 i0:=o _ _ h.i0 (n1 _ (by simp[gM.mut]))
 gD:=h.gD.keep o fun a ha=>n2 a (by simp[ha])
 iW:=o _ _ h.iW (n1 _ (by simp[gM.mut]))
 jf:=o _ _ h.jf (n1 _ (by simp[gM.mut]))
 jG:=o _ _ h.jG (n1 _ (by simp[gM.mut]))
 gZ:=⟨h.gZ.1,fun i a x h1 h2=>kQ o n3 (h.gZ.2 i a x h1 h2)⟩
 gO:=h.gO.keep o fun a ha=>n2 a (by simp[ha])
 kM:=o _ _ h.kM (n1 _ (by simp[gM.mut]))
 set:=h.set.keep o (fun a ha=>n2 a (by simp[ha])) n3
 nd:=h.nd
 sep:=h.sep
 kj:=h.kj
theorem ij.same{AA:gu}{H H':Hp}{L:gM}{b:Book}{m:RS}(h:ij AA H L b m)(s:fQ H H'):ij AA H' L b m:=h.keep (ys:=[]) s.own (fun _ _ z=>by cases z) (fun _ _ z=>by cases z) (fun _ z=>by cases z)
def Yx(AA:gu):Sp:=fun vs H Q _=>∃(L:gM) (b:Book) (m:RS),vs=[.ref L.r]/\ij AA H L b m/\lP b m/\Q (.int m.gB.length) H
def ZM(AA:gu):Sp:=fun vs H Q _=>∃(L:gM) (b:Book) (m:RS),vs=[.ref L.r]/\ij AA H L b m/\lP b m/\Q (.int (ie m)) H
def Yy(AA:gu):Sp:=fun vs H Q _=>∃(L:gM) (b:Book) (m:RS),vs=[.ref L.r]/\ij AA H L b m/\lP b m/\Q (.int (li b m.highs.length)) H
def MW(K:PySem.W.Frag):Sp:=fun vs H Q _=>∃(a:Addr) (bs:List Bool) (c:Int),vs=[.ref a,.int c]/\fR K H a (bs.map bV)/\c<bs.length/\Q (bV (decide (0<=c)&&bs.getD c.toNat false)) H
def NN(AA:gu):Sp:=fun vs H Q _=>∃(L:ll) (b:Book) (n:Nat) (nG:Bool),vs=[.ref L.s,.int n,bV nG]/\lX AA H L b/\Q (bV (busyNow b nG n)) H
def ZN(AA:gu):Sp:=fun vs H Q _=>∃(L:gM) (b:Book) (m:RS) (c:Int),vs=[.ref L.r,.int c]/\ij AA H L b m/\c-(delayOf b:Int)-1<m.gB.length/\Q (.bl (decide (0<=c-(delayOf b:Int)-1)&&m.gB.getD (c-(delayOf b:Int)-1).toNat false)) H
def ZO(AA:gu):Sp:=fun vs H Q _=>∃(L:gM) (b:Book) (m:RS) (asked:Bool),vs=[.ref L.r,bV asked]/\ij AA H L b m/\lP b m/\m.fates.length=m.gB.length/\∀H',fQ H H'->Q (nV (kS b m.fates m.gB asked)) H'
section
variable {P:Program} {w:World} {K:PySem.W.Frag} {mg:Str->Option Value} {base:Heap} {AA:gu}
theorem Rs:gP ["self"] ["self"] (gL (iZ (fX 35) 3)):=gX (by decide+kernel)
theorem xE(T:Tx P w K mg AA):gK P w K mg base gT 1 AA.C1 AA.C2 ["self"] (Yx AA):=by
 have SC:=Rs;refine T.RC.ok SC (fun vs H Q E h=> ?_) (fun gy A outer s H vs Q E hr h=> ?_)
 ·obtain⟨L,b,m,rfl,_⟩:=h;rfl
 ·obtain⟨L,b,m,rfl,hR,hF,hq⟩:=h;refine⟨_,(fV (gC (gU iL (by rfl) T.len aF (fN (gc (pv 0) Z) fP)))),?_⟩;refine⟨_,Z,L.r,_,L.dx,_,_,Z,hR.ins,T.gH,T.rY,Z,L.lb,_,Z,.inl (fR.of hR.jf),?_⟩;rw[ac];exact hq
theorem RP:gP ["self"] ["self"] (gL (iZ (fX 35) 4)):=gX (by decide+kernel)
theorem xG(T:Tx P w K mg AA):gK P w K mg base gT 1 AA.Da AA.Db ["self"] (ZM AA):=by
 have SC:=RP;refine T.RY.ok SC (fun vs H Q E h=> ?_) (fun gy A outer s H vs Q E hr h=> ?_)
 ·obtain⟨L,b,m,rfl,_⟩:=h;rfl
 ·obtain⟨L,b,m,rfl,hR,hF,hq⟩:=h;refine⟨_,(fV (gC (gA jK (gU iL (by rfl) T.len aF (fN (gc (pv 0) Z) fP)) (gc (pv 0) Z)))),?_⟩;refine⟨_,Z,L.r,_,L.dx,_,_,Z,hR.ins,T.gH,T.zM,Z,L.lq,_,Z,.inl (fR.of hR.kM),_,Z,L.r,_,L.dx,_,_,Z,hR.ins,T.gH,T.xM,Z,_,_,Z,Z,?_⟩;have e:((m.iB.map nV).length:Int)-(m.gone:Int)=(ie m:Int):=by rw[ac];unfold ie;have:=hR.kj;omega
  show Q (V.int (((m.iB.map nV).length:Int)-(m.gone:Int))) H;rw[e];exact hq
theorem R9:gP ["self"] ["self"] (gL (iZ (fX 35) 5)):=gX (by decide+kernel)
theorem Dl(T:Tx P w K mg AA):gK P w K mg base gT 1 AA.Dn AA.Do ["self"] (Yy AA):=by
 have SC:=R9;refine T.Sk.ok SC (fun vs H Q E h=> ?_) (fun gy A outer s H vs Q E hr h=> ?_)
 ·obtain⟨L,b,m,rfl,_⟩:=h;rfl
 ·obtain⟨L,b,m,rfl,hR,hF,hq⟩:=h;refine⟨_,(fV (gC (gU (r6 Z) (by rfl) T.max fB (fN fW (fN (gA jK (gU iL (by rfl) T.len aF (fN (gc (pv 0) Z) fP)) (gc (gc (pv 0) Z) Z)) fP))))),?_⟩;refine⟨_,Z,L.r,_,L.dx,_,_,Z,hR.ins,T.gH,T.t5,Z,L.lh,_,Z,.inl (fR.of hR.i0),_,Z,L.r,_,L.dx,_,_,Z,hR.ins,T.gH,T.ly,Z,L.S.s,_,L.S.dx,_,_,Z,hR.set.ins,T.im,T.tZ,Z,_,_,Z,Z,_,_,Z,?_⟩;have el:(L.gD.map V.ref).length=m.highs.length:=by rw[ac];exact hR.gD.1
  show Q (V.int (if ((L.gD.map V.ref).length:Int)-(ahead b:Int)>0 then((L.gD.map V.ref).length:Int)-(ahead b:Int) else 0)) H;have e:(if ((L.gD.map V.ref).length:Int)-(ahead b:Int)>0 then((L.gD.map V.ref).length:Int)-(ahead b:Int) else 0)=((li b m.highs.length:Nat):Int):=by rw[el];unfold li;split<;>omega
  rw[e];exact hq
theorem Sa:gP ["settings","waiting","busy_before"] ["settings","waiting","busy_before"] (gL (fX 20)):=gX (by decide+kernel)
theorem JM(T:Tx P w K mg AA):gK P w K mg base gT 1 AA.JO AA.JP ["settings","waiting","busy_before"] (NN AA):=by
 have SC:=Sa;refine T.t6.fn.ok SC (fun vs H Q E h=> ?_) (fun gy A outer s H vs Q E hr h=> ?_)
 ·obtain⟨L,b,n,nG,rfl,_⟩:=h;rfl
 ·obtain⟨L,b,n,nG,rfl,hS,hq⟩:=h
  refine⟨_,(fS (gY (io mQ (pv 1) (gc (pv 0) Z) (ii _))
   (fV (gC fW))
   ia)
   (fS (gY (io ju (pv 1) (gc (pv 0) Z) (ii _))
     (fV (gC fW))
     ia)
   (fV (gC (pv 2))))),?_⟩
  refine⟨_,Z,_,Z,L.s,_,L.dx,_,_,Z,hS.ins,T.im,T.tV,Z,_,_,Z,Z,_,Z,?_⟩;unfold busyNow at hq
  by_cases c1:high b<n
  ·refine fZ (ai (by show(high b:Int)<(n:Int);omega)) ?_;rw[aw c1] at hq;exact hq
  ·refine gn (ae (by show¬(high b:Int)<(n:Int);omega)) ?_;rw[am c1] at hq;refine⟨_,Z,_,Z,L.s,_,L.dx,_,_,Z,hS.ins,T.im,T.C9,Z,_,_,Z,Z,_,Z,?_⟩
   by_cases c2:n<=low b
   ·refine fZ (ai (by show(n:Int)<=(low b:Int);omega)) ?_;rw[aw c2] at hq;exact hq
   ·refine gn (ae (by show¬(n:Int)<=(low b:Int);omega)) ?_;rw[am c2] at hq;exact⟨_,Z,hq⟩
theorem SR:gP ["busies","crossing"] ["busies","crossing"] (gL (fX 21)):=gX (by decide+kernel)
theorem DJ(T:Tx P w K mg AA):gK P w K mg base gT 1 AA.J6 AA.J7 ["busies","crossing"] (MW K):=by
 have SC:=SR;refine T.nK.fn.ok SC (fun vs H Q E h=> ?_) (fun gy A outer s H vs Q E hr h=> ?_)
 ·obtain⟨a,bs,c,rfl,_⟩:=h;rfl
 ·obtain⟨a,bs,c,rfl,hA,hc,hq⟩:=h;refine⟨_,(fV (gC (ya (io we (pv 1) fW (ii _)) (hV jb (pv 0) (pv 1) (fun _ _=>rfl)) fW))),?_⟩;refine⟨_,Z,_,_,Z,Z,_,Z,?_⟩
  by_cases h0:0<=c
  ·refine fZ (ai h0) ?_;have hZ:c.toNat<bs.length:=by omega
   have ei:mn (bs.map bV) c=some (bV bs[c.toNat]):=ir (j:=c.toNat) (by omega) (by rw[au,ak hZ];rfl);refine⟨_,Z,_,Z,a,_,_,_,Z,Z,hA,ei,?_⟩;rw[ai h0,dP,aE,ak hZ] at hq;exact hq
  ·refine gn (ae h0) ?_;rw[ae h0,cZ] at hq;exact hq
theorem Rt:gP ["self","crossing"] ["self","crossing"] (gL (iZ (fX 35) 6)):=gX (by decide+kernel)
theorem Jw(T:Tx P w K mg AA):gK P w K mg base gT 2 AA.C3 AA.C4 ["self","crossing"] (ZN AA):=by
 have vF:=DJ (base:=base) T;have SC:=Rt;refine T.RD.ok SC (fun vs H Q E h=> ?_) (fun gy A outer s H vs Q E hr h=> ?_)
 ·obtain⟨L,b,m,c,rfl,_⟩:=h;rfl
 ·obtain⟨L,b,m,c,rfl,hR,hc,hq⟩:=h;refine⟨_,(fV (gC (si nj (ic vF (hr.mono (by decide)) Z T.nK.mg T.nK.fn.kp T.nK.b .nil gG (fN (gc (pv 0) Z) (fN (gA jK (gA jK (pv 1) (gc (gc (pv 0) Z) Z)) fW) fP))) fW (ii _)))),?_⟩;refine⟨_,Z,L.r,_,L.dx,_,_,Z,hR.ins,T.gH,T.rY,Z,_,Z,_,Z,L.r,_,L.dx,_,_,Z,hR.ins,T.gH,T.ly,Z,L.S.s,_,L.S.dx,_,_,Z,hR.set.ins,T.im,T.vE,Z,_,_,Z,Z,_,_,Z,Z,L.lb,m.gB,_,Z,fR.of hR.jf,hc,Z,?_⟩;generalize (decide (0<=c-(delayOf b:Int)-1)&&m.gB.getD (c-(delayOf b:Int)-1).toNat false)=z at hq;cases z<;>exact hq
end
theorem uE{x y:Nat}:nV x=nV y↔x=y:=by
 unfold nV;constructor
 ·intro h;injection h with h
  omega
 ·rintro rfl;rfl
theorem XC(l:List Nat)(n:Nat):oY (V.int n) (l.map nV)=l.contains n:=by
 unfold oY;rw[fg,eG]
 congr 1
 funext y
 show(decide ((y:Int)=(n:Int)):Bool)=_
 by_cases h:y=n
 ·subst h;simp
 ·rw[ae (by omega)]
  symm
  simpa using fun z=>h z.symm
theorem WC(l:List Nat):(l.map nV).all qC=true:=by
 rw[db,a9];intro x _;rfl
theorem kf{K:PySem.W.Frag}{H:Hp}{a:Addr}{xs:List V}(h:H a=some (.tup xs)):iN K H a xs:=iN.of h
theorem vY{xs:List V}{k:Nat}{v:V}(hk:0<k)(hl:k<=xs.length)(h:xs[xs.length-k]? =some v):mn xs (-(k:Int))=some v:=by
 unfold mn qG;rw[am (by omega),aw (by omega)];show xs[(-(k:Int)+(xs.length:Int)).toNat]? =some v;rw[show(-(k:Int)+(xs.length:Int)).toNat=xs.length-k by omega];exact h
def Yz(AA:gu)(K:PySem.W.Frag):Sp:=fun vs H Q _=>∃(L:gM) (b:Book) (m:RS) (a:Addr) (s:List Nat),vs=[.ref L.r,.ref a]/\ij AA H L b m/\lP b m/\fR K H a (s.map nV)/\s.length=b.channels.length/\
 ∀H' p,fQ H H'->H p=none->H' p=some (.lst ((iV b m.highs s).map V.bl))->Q (.ref p) H'
section
variable {P:Program} {w:World} {K:PySem.W.Frag} {mg:Str->Option Value} {base:Heap} {AA:gu}
theorem RQ:gP ["self","asked","now"] ["self","asked"] (gL (iZ (fX 35) 8)):=gX (by decide+kernel)
theorem RR(T:Tx P w K mg AA):gK P w K mg base gT 3 AA.Dc AA.Dd ["self","asked"] (ZO AA):=by
 have C5:=Jw (base:=base) T;have SC:=RQ;refine T.R0.ok SC (fun vs H Q E h=> ?_) (fun gy A outer s H vs Q E hr h=> ?_)
 ·obtain⟨L,b,m,asked,rfl,_⟩:=h;rfl
 ·obtain⟨L,b,m,asked,rfl,hR,hF,hfb,hq⟩:=h
  refine⟨_,(fS (gj (i:=2) SC.nd Z (Or.inl Z) (gU iL (by rfl) T.len aF (fN (gc (pv 0) Z) fP)))
   (fS (gY (io nj (pv 1) fW (ii _))
     (fV (gC (gz Z T.FC)))
     ia)
   (fS (gY (io xX (gz Z T.sI) (oB oF (gc (pv 0) Z) (kn (gU (r6 Z) (by rfl) T.max fB (fN fW (fN (gA jK (pv 2) (gc (gc (pv 0) Z) Z)) fP)))) Gp) (by with_unfolding_all rfl))
     (fV (gC (gz Z T.Lb)))
     ia)
   (fS (gY (lT (oE (pv 0) T.gH T.JI C5 (hr.mono (by decide)) T.JC .nil gG (fN (pv 2) fP)))
     (fV (gC (gz Z T.KF)))
     ia)
   (fV (gC (gz Z T.sI))))))),?_⟩
  refine⟨_,Z,L.r,_,L.dx,_,_,Z,hR.ins,T.gH,T.qi,Z,L.lf,_,Z,.inl (fR.of hR.iW),?_⟩;rw[ac];refine⟨_,Z,Z,_,Z,?_⟩;unfold kS at hq;cases asked with
  |false=>
   refine fZ Z ?_;exact hq H fQ.kG
  |true=>
   refine gn Z ?_;simp only[Bool.true_eq_false,cW] at hq;refine⟨_,Z,L.r,_,L.dx,_,_,Z,hR.ins,T.gH,T.qi,Z,_,Z,_,Z,L.r,_,L.dx,_,_,Z,hR.ins,T.gH,T.ly,Z,L.S.s,_,L.S.dx,_,_,Z,hR.set.ins,T.im,T.DS,Z,_,_,Z,Z,_,_,Z,_,Z,L.lf,_,Z,fR.of hR.iW,fun q1 n1=> ?_⟩;have e1:(if (m.fates.length:Int)-(gapOf b:Int)>0 then(m.fates.length:Int)-(gapOf b:Int) else 0)=((m.fates.length-gapOf b:Nat):Int):=by split<;>omega
   have e2:jZ (m.fates.map nV) (some (if (m.fates.length:Int)-(gapOf b:Int)>0 then(m.fates.length:Int)-(gapOf b:Int) else 0)) none=(m.fates.drop (m.fates.length-gapOf b)).map nV:=by rw[e1,Xd,cq]
   rw[e2];have s1:fQ H (fM H q1 (.lst ((m.fates.drop (m.fates.length-gapOf b)).map nV))):=fQ.new n1;refine⟨q1,_,Z,.inl (fR.of fO),Z,WC _,_,Z,?_⟩;have e3:oY (V.int 1) ((m.fates.drop (m.fates.length-gapOf b)).map nV)=(m.fates.drop (m.fates.length-gapOf b)).contains 1:=XC _ 1;show(if oY (V.int 1) ((m.fates.drop (m.fates.length-gapOf b)).map nV)=true then _ else _);rw[e3]
   by_cases c1:(m.fates.drop (m.fates.length-gapOf b)).contains 1=true
   ·refine fZ c1 ?_;rw[aw c1] at hq;exact hq _ s1
   ·refine gn (by simpa using c1) ?_;rw[am c1] at hq;have iJ:=hR.same s1;refine⟨_,Z,L.r,L.dx,_,Z,iJ.ins,Z,_,Z,L,b,m,_,Z,iJ,by omega,_,Z,?_⟩
    have e4:(decide (0<=(m.fates.length:Int)-(delayOf b:Int)-1)&&m.gB.getD ((m.fates.length:Int)-(delayOf b:Int)-1).toNat false)=vI m.gB m.gB.length (delayOf b+1):=by
     unfold vI;rw[hfb]
     by_cases c:delayOf b+1<=m.gB.length
     ·rw[aw c,ai (by omega),dP,show((m.gB.length:Int)-(delayOf b:Int)-1).toNat=m.gB.length-(delayOf b+1) by omega]
     ·rw[am c,ae (by omega),cZ]
    rw[e4];cases c2:vI m.gB m.gB.length (delayOf b+1) with
    |true=>
     rw[c2] at hq;exact fZ Z (hq _ s1)
    |false=>
     rw[c2] at hq;exact gn Z (hq _ s1)
theorem RF:gP ["self","samples","found","place","channel","signal","was_high"] ["self","samples"] (gL (iZ (fX 35) 7)):=gX (by decide+kernel)
theorem RG(T:Tx P w K mg AA):gK P w K mg base gT 1 AA.C7 AA.C8 ["self","samples"] (Yz AA K):=by
 have SC:=RF;refine T.RM.ok SC (fun vs H Q E h=> ?_) (fun gy A outer s H vs Q E hr h=> ?_)
 ·obtain⟨L,b,m,a,sl,rfl,_⟩:=h;rfl
 ·obtain⟨L,b,m,a,sl,rfl,hR,hF,hA,pq,hq⟩:=h
  refine⟨_,(fS (gj (i:=2) SC.nd Z (Or.inl Z) (gI fP))
   (fS (lE bg Z (yf Z T.enumerate (fN (gc (gc (pv 0) Z) Z) fP)) (rb Z (lR (iI (i:=3) SC.nd Z (Or.inl Z)) (lR (iI (i:=4) SC.nd Z (Or.inl Z)) qX)))
     (fS (gj (i:=5) SC.nd Z (Or.inl Z) (gU (r6 Z) (by rfl) T.max fB (fN fW (fN (gA jK (hV jb (pv 1) (pv 3) (fun _ _=>rfl)) (hV jH (pv 4) fW (fun _ _=>rfl))) fP))))
     (fS (gj (i:=6) SC.nd Z (Or.inl Z) (GF (si mQ (gU iL (by rfl) T.len aF (fN (gc (pv 0) Z) fP)) fW (ii _)) (A2 (hV jb (hV jb (gc (pv 0) Z) (qA qv fW) (fun _ _=>rfl)) (pv 3) (fun _ _=>rfl)))))
     (fV (iR (iT ax aI aL kE (pv 2) (fN (Z6 (si we (pv 5) (hV jH (pv 4) fW (fun _ _=>rfl)) (ii _)) (A2 (GF (pv 6) (A2 (si we (pv 5) (hV jH (pv 4) fW (fun _ _=>rfl)) (ii _)))))) fP)))))))
   (fV (gC (pv 2))))),?_⟩
  refine⟨aN _,fun q1 n1=> ?_⟩;have s1:fQ H (fM H q1 (.lst [])):=fQ.new n1;have iJ:=hR.same s1;have iC:=hR.set.iC
  refine⟨_,Z,L.r,_,L.dx,_,_,Z,iJ.ins,T.gH,T.ly,Z,L.S.s,_,L.S.dx,_,_,Z,iJ.set.ins,T.im,T.nJ,Z,L.S.lc,_,Z,fR.of iJ.set.mr,
   AH (K:=K) (a:=L.S.lc) (xs:=L.S.cs.map V.ref) (fun i σ H'=>∃v3 v4 v5 v6,σ=[some (.ref L.r),some (.ref a),some (.ref q1),v3,v4,v5,v6]/\fQ H H'/\H' q1=some (.lst (((iV b m.highs sl).take i).map V.bl)))
    ⟨none,none,none,none,Z,s1,fO⟩ (fun i σ H' _ ⟨_,_,_,_,_,s2,_⟩=>fR.of (s2 _ _ hR.set.mr)) ?_ ?_⟩
  ·rintro i x p σ H2 hx ⟨v3,v4,v5,v6,rfl,s2,g2⟩ np;rw[au] at hx;cases hc:L.S.cs[i]? with
   |none=>rw[hc] at hx;cases hx
   |some c=>
    rw[hc] at hx;have ex:x=V.ref c:=(af hx).symm;subst ex;have s3:fQ H (fM H2 p (.tup [.int (i:Nat),.ref c])):=s2.more np;have kB:=hR.same s3;have nq:q1≠p:=gf g2 np;have g3:(fM H2 p (.tup [.int (i:Nat),.ref c])) q1=some (.lst (((iV b m.highs sl).take i).map V.bl)):=by rw[fT nq];exact g2
    obtain⟨ch,kh,Ci⟩:=kB.set.mv.get hc;have hi:i<b.channels.length:=(ap.mp kh).1;have Ca:i<sl.length:=by omega
    generalize yM:fM H2 p (.tup [.int (i:Nat),.ref c])=H3 at s3 kB g3 Ci;have ow:H3 p=some (.tup [.int (i:Nat),.ref c]):=by rw[<-yM];exact fO
    refine⟨p,_,Z,kf ow,Z,_,_,Z,_,_,Z,Z,?_⟩;have ixs:mn (sl.map nV) (i:Int)=some (nV sl[i]):=ir (j:=i) Z (by rw[au,ak Ca];rfl);refine⟨_,Z,_,Z,a,_,_,_,Z,Z,s3.seq hA,ixs,_,Z,c,_,_,_,Z,Z,kf Ci,ir (j:=1) Z Z,_,_,Z,Z,_,_,Z,?_⟩;have P1:(if (sl[i]:Int)-(ch.pedestal:Int)>0 then(sl[i]:Int)-(ch.pedestal:Int) else 0)=((signal ch sl[i]:Nat):Int):=by unfold signal;split<;>omega
    have hHi:isHigh ch ((m.highs.getLast?.getD []).getD i false) sl[i]=(iV b m.highs sl)[i]'(by simpa [iV] using hi):=by
     unfold iV;rw[List.getElem_map,List.getElem_zipIdx]
     have e1:b.channels[i]=ch:=by
      have:=ak hi;rw[this] at kh;exact af kh
     simp only[dF];rw[e1,aE (l:=sl),ak Ca];rfl
    have aaz:(iV b m.highs sl).take (i+1)=(iV b m.highs sl).take i++[isHigh ch ((m.highs.getLast?.getD []).getD i false) sl[i]]:=by
     rw[hHi,bC,ak (by simpa [iV] using hi)];rfl
    have hz:(((iV b m.highs sl).take i).map V.bl).length<sizeLine:=by rw[ac,aD];exact iU (by simp[iV];omega)
    have fin:∀(nG:Bool),nG=(m.highs.getLast?.getD []).getD i false->∀v5:V,v5=V.int (signal ch sl[i]:Int)->
     (wb (u7 K "list" ux (iO 2) (i7 (OO (kz (kX fun i j=>V.bl (decide (j<=i))) (iO 5) (kz (wy K) (iO 4) (tC (V.int 2)))) (Oo (iO 6) (kz (kX fun i j=>V.bl (decide (j<=i))) (iO 5) (kz (wy K) (iO 4) (tC (V.int 3)))))) jw)))
       ⟨fun σ H'=>∃v3 v4 v5 v6,σ=[some (.ref L.r),some (.ref a),some (.ref q1),v3,v4,v5,v6]/\fQ H H'/\H' q1=some (.lst (((iV b m.highs sl).take (i+1)).map V.bl)),fun _ _=>True,fun _ _=>True,fun _ _=>True⟩
       [some (.ref L.r),some (.ref a),some (.ref q1),some (.int i),some (.ref c),some v5,some (.bl nG)] H3:=by
     rintro nG hw v5 rfl;refine⟨_,Z,.inl ⟨Z,_,fR.of g3⟩,_,Z,_,Z,c,_,_,_,Z,Z,kf Ci,ir (j:=2) Z Z,_,_,Z,Z,_,Z,?_⟩
     have Hs:∀y:Bool,y=isHigh ch nG sl[i]->(ux (V.ref q1) [V.bl y] H3 fun _ H1=>∃v3 v4 v5 v6,([some (.ref L.r),some (.ref a),some (.ref q1),some (.int i),some (.ref c),some (V.int (signal ch sl[i]:Int)),some (.bl nG)]:L2.St)=[some (.ref L.r),some (.ref a),some (.ref q1),v3,v4,v5,v6]/\fQ H H1/\H1 q1=some (.lst (((iV b m.highs sl).take (i+1)).map V.bl))):=by
      intro y hy;refine⟨q1,_,_,Z,Z,g3,hz,_,_,_,_,Z,s3.put n1,?_⟩;rw[fO,aaz,ao,hy,hw];rfl
     by_cases c1:ch.on<=signal ch sl[i]
     ·refine fZ (ai (by omega)) (Hs true ?_);unfold isHigh;rw[ai c1];rfl
     ·refine gn (ae (by omega)) ?_;refine⟨_,Z,_,Z,?_⟩;cases nG with
      |false=>
       refine gn Z (Hs false ?_);unfold isHigh;rw[ae c1];rfl
      |true=>
       refine fZ Z ⟨_,Z,_,Z,c,_,_,_,Z,Z,kf Ci,ir (j:=3) Z Z,_,_,Z,Z,Hs _ ?_⟩;unfold isHigh;rw[ae c1,Bool.false_or,dP]
       by_cases c2:ch.off<=signal ch sl[i]
       ·rw[ai c2,ai (by omega)]
       ·rw[ae c2,ae (by omega)]
    refine⟨_,Z,L.r,_,L.dx,_,_,Z,kB.ins,T.gH,T.t5,Z,L.lh,_,Z,.inl (fR.of kB.i0),_,_,Z,Z,_,Z,?_⟩;have vh:(L.gD.map V.ref).length=m.highs.length:=by rw[ac];exact hR.gD.1
    rw[vh]
    by_cases c0:0<m.highs.length
    ·refine fZ (ai (by omega)) ?_;have Bp:m.highs[m.highs.length-1]? =some (m.highs[m.highs.length-1]'(by omega)):=ak (by omega);generalize m.highs[m.highs.length-1]'(by omega)=AW at Bp;obtain⟨la,hla,hlV⟩:=kB.gD.addr Bp;have P2:AW.length=b.channels.length:=hF.hr _ (aS Bp);have e1:mn (L.gD.map V.ref) (-1)=some (V.ref la):=vY (k:=1) (by decide) (by omega) (by rw[vh,au,hla];rfl);have Cj:i<AW.length:=by omega
     refine⟨_,Z,L.r,_,L.dx,_,_,Z,kB.ins,T.gH,T.t5,Z,_,Z,L.lh,_,_,_,Z,Z,fR.of kB.i0,e1,_,Z,la,_,_,_,Z,Z,fR.of hlV,ir (j:=i) Z (by rw[au,ak Cj];rfl),?_⟩;refine fin AW[i] ?_ _ (congrArg V.int P1);rw[cx,Bp];show _=AW.getD i false;rw[aE,ak Cj];rfl
    ·refine gn (ae (by omega)) ?_;refine fin false ?_ _ (congrArg V.int P1);have:m.highs=[]:=aM.mp (by omega);rw[this];rfl
  ·rintro σ H2 ⟨v3,v4,v5,v6,rfl,s2,g2⟩;refine⟨_,Z,?_⟩;have e:(iV b m.highs sl).take (L.S.cs.map V.ref).length=iV b m.highs sl:=aV (by rw[ac,hR.set.mv.1];simp[iV]);rw[e] at g2;exact hq H2 q1 s2 n1 g2
end
end FE
namespace FE
open PySem PySem.Spec PyProof.Rows L2
open VbkdCore (txt)
def lj(H0 H:Hp)(av ts:List Addr)(ls:List mD):Prop:=ts.length=ls.length/\∀(i:Nat) (t:Addr) (l:mD),ts[i]? =some t->ls[i]? =some l->
 ∃(q:Addr) (ws:List Addr),H t=some (.tup [.ref q,.int l.2])/\H q=some (.lst (ws.map V.ref))/\iG H pi ws l.1/\q∉av/\H0 q=none
theorem lj.at{H0 H:Hp}{av ts:List Addr}{ls:List mD}(h:lj H0 H av ts ls):q0 H0 H ts ls:=⟨h.1,fun i t l h1 h2=>let ⟨q,ws,a,b,c,_,d⟩:=h.2 i t l h1 h2;⟨q,ws,a,b,c,d⟩⟩
theorem lj.keep{H0 H H':Hp}{av ts:List Addr}{ls:List mD}(h:lj H0 H av ts ls)(o:gE av H H')(m:∀y∈av,∀xs,H y≠some (.tup xs)):lj H0 H' av ts ls:=
 ⟨h.1,fun i t l h1 h2=>by
   obtain⟨q,ws,a,b,c,d,d0⟩:=h.2 i t l h1 h2;exact⟨q,ws,kQ o m a,o _ _ b d,⟨c.1,fun j a x h3 h4=>kQ o m (c.2 j a x h3 h4)⟩,d,d0⟩⟩
theorem lj.same{H0 H H':Hp}{av ts:List Addr}{ls:List mD}(h:lj H0 H av ts ls)(s:fQ H H'):lj H0 H' av ts ls:=
 ⟨h.1,fun i t l h1 h2=>by
   obtain⟨q,ws,a,b,c,d,d0⟩:=h.2 i t l h1 h2;exact⟨q,ws,s _ _ a,s _ _ b,c.same s,d,d0⟩⟩
theorem lj.snoc{H0 H:Hp}{av ts:List Addr}{ls:List mD}{t q:Addr}{ws:List Addr}{l:mD}(h:lj H0 H av ts ls)(h1:H t=some (.tup [.ref q,.int l.2]))(h2:H q=some (.lst (ws.map V.ref)))(h3:iG H pi ws l.1)(h4:q∉av)(h5:H0 q=none):lj H0 H av (ts++[t]) (ls++[l]):=by
 refine⟨by simp[h.1],fun i b y k1 k2=> ?_⟩
 by_cases hi:i<ts.length
 ·rw[bp hi] at k1;rw[bp (by rw[<-h.1];exact hi)] at k2;exact h.2 i b y k1 k2
 ·rw[bx (by omega)] at k1;rw[bx (by rw[<-h.1];omega)] at k2
  have e1:i-ts.length=0:=by
   have:=(ap.mp k1).1;simp at this;omega
  rw[e1] at k1;rw[<-h.1,e1] at k2;simp at k1 k2;subst k1 k2;exact⟨q,ws,h1,h2,h3,h4,h5⟩
theorem lj.other{H0 H:Hp}{av P3 ts:List Addr}{ls:List mD}(h:lj H0 H av ts ls)(m:∀q,(H q).isSome=true->q∉av->q∉P3):lj H0 H P3 ts ls:=
 ⟨h.1,fun i t l h1 h2=>by
   obtain⟨q,ws,a,b,c,d,d0⟩:=h.2 i t l h1 h2;exact⟨q,ws,a,b,c,m q (by rw[b];rfl) d,d0⟩⟩
theorem WD(w:List Nat)(b:Nat):ig w++gJ [jk b]=ig (w++[b]):=by
 unfold ig gJ;rw[ao];show(⟨(w.map jk).toArray++[jk b].toArray⟩:Str)=_;simp
theorem vO:ig []=("":Str):=by rw[show(("":Str))=gJ (txt "") from jq ""];rfl
structure zi(n:Nat)(st:qb):Prop where
 w:st.word.length<=n
 k:st.words.length<=n
 ws:∀x∈st.words,x.1≠ []/\x.1.length<=n
 ls:∀l∈st.lines,l.1.length<=n/\∀x∈l.1,x.1≠ []/\x.1.length<=n
theorem zi.more{n m:Nat}{st:qb}(h:zi n st)(hm:n<=m):zi m st:=
 ⟨by have:=h.w;omega,by have:=h.k;omega,fun x hx=>⟨(h.ws x hx).1,by have:=(h.ws x hx).2;omega⟩,fun l hl=>⟨by have:=(h.ls l hl).1;omega,fun x hx=>⟨((h.ls l hl).2 x hx).1,by have:=((h.ls l hl).2 x hx).2;omega⟩⟩⟩
theorem Gy(t:List Nat):∀i,zi i (kI ⟨[],[],[]⟩ 0 (t.take i))
 |0=>⟨aA _,aA _,fun x hx=>by simp[kI] at hx,fun x hx=>by simp[kI] at hx⟩
 |i+1=>by
  cases h:t[i]? with
  |none=>
   have:t.take (i+1)=t.take i:=by rw[bC,h];simp
   rw[this];exact(Gy t i).more (by omega)
  |some b=>
   rw[take_snoc h,Ap];have ih:=Gy t i;generalize kI ⟨[],[],[]⟩ 0 (t.take i)=st at ih
   have f:∀p,zi (i+1) (jd st p):=by
    intro p;unfold jd;split
    ·exact ih.more (by omega)
    ·rename_i c;refine⟨aN _,?_,?_,(ih.more (by omega)).ls⟩
     ·have:=ih.k;simp only[ag,aj,aZ];omega
     ·intro x hx;rcases aG.mp hx with hx|hx
      ·exact(ih.more (m:=i+1) (by omega)).ws x hx
      ·rw[aq.mp hx];exact⟨c,by have:=ih.w;show st.word.length<=i+1;omega⟩
   unfold jL;split
   ·have Ir:=ih.more (m:=i+1) (by omega);exact⟨by have:=ih.w;simp only[ag,aj,aZ];omega,Ir.k,Ir.ws,Ir.ls⟩
   ·split
    ·have f1:=f (0+(t.take i).length);refine⟨f1.w,aN _,fun x hx=>(by cases hx),fun l hl=> ?_⟩;rcases aG.mp hl with hl|hl
     ·exact f1.ls l hl
     ·rw[aq.mp hl];exact⟨f1.k,f1.ws⟩
    ·exact f _
theorem NO(t:List Nat)(i:Nat):(kI ⟨[],[],[]⟩ 0 (t.take i)).word.length<=i/\(kI ⟨[],[],[]⟩ 0 (t.take i)).words.length<=i/\(kI ⟨[],[],[]⟩ 0 (t.take i)).lines.length<=i:=by
 induction i with
 |zero=>exact⟨aA _,aA _,aA _⟩
 |succ i ih=>
  cases h:t[i]? with
  |none=>
   have:t.take (i+1)=t.take i:=by rw[bC,h];simp
   rw[this];omega
  |some b=>
   rw[take_snoc h,Ap];generalize kI ⟨[],[],[]⟩ 0 (t.take i)=st at ih
   have f:∀p,(jd st p).word.length<=i/\(jd st p).words.length<=i+1/\(jd st p).lines.length<=i:=by
    intro p;unfold jd;split
    ·exact⟨ih.1,by omega,ih.2.2⟩
    ·simp only[ag,aj,aZ];omega
   unfold jL;split
   ·simp only[ag,aj,aZ];omega
   ·split
    ·have:=f (0+(t.take i).length);simp only[ag,aj,aZ];omega
    ·have:=f (0+(t.take i).length);omega
section
variable {P:Program} {w:World} {K:PySem.W.Frag} {mg:Str->Option Value} {base:Heap} {AA:gu}
theorem UP:gP ["text","lines","words","word","place","byte"] ["text"] (gL (fX 59)):=gX (by decide+kernel)
theorem UQ(T:Tx P w K mg AA):gK P w K mg base gT 2 AA.LA AA.LB ["text"] (Yv K):=by
 have WE:=Vv (base:=base) T;have SC:=UP;refine T.AC.fn.ok SC (fun vs H Q E h=> ?_) (fun gy A outer s H vs Q E hr h=> ?_)
 ·obtain⟨a,t,rfl,_⟩:=h;rfl
 ·obtain⟨a,t,rfl,ha,hl,hq⟩:=h
  refine⟨_,(fS (gj (i:=1) SC.nd Z (Or.inl Z) (gI fP))
   (fS (gj (i:=2) SC.nd Z (Or.inl Z) (gI fP))
   (fS (gj (i:=3) SC.nd Z (Or.inl Z) kq)
   (fS (lE bg Z (yf Z T.enumerate (fN (gA j2 (pv 0) (gI (fN (gz Z T.F1) fP))) fP)) (rb Z (lR (iI (i:=4) SC.nd Z (Or.inl Z)) (lR (iI (i:=5) SC.nd Z (Or.inl Z)) qX)))
     (fS (gY (PW.pt (A1 (io rc (pv 5) (gz Z T.aaw) (ii _)) (AM (io rc (pv 5) (gz Z T.F1) (ii _)))))
       (fS (vU (i:=3) SC.nd Z (Or.inl Z) (ic WE (hr.mono (by decide)) Z T.sign_of.mg T.sign_of.fn.kp T.sign_of.b .nil gG (fN (pv 5) fP)) Uv)
       (fV KL))
       ia)
     (fS (gY (io rc (pv 3) kq (ii _))
       (fS (iR (iT ax aI aL kE (pv 2) (fN (vW (fN (pv 3) (fN (gA jK (pv 4) (gU zQ (by rfl) T.len aF (fN (pv 3) fP))) fP))) fP)))
       (fV (gj (i:=3) SC.nd Z (Or.inl Z) kq)))
       ia)
     (fV (gY (io nj (pv 5) (gz Z T.F1) (ii _))
       (fS (iR (iT ax aI aL kE (pv 1) (fN (vW (fN (pv 2) (fN (pv 4) fP))) fP)))
       (fV (gj (i:=2) SC.nd Z (Or.inl Z) (gI fP))))
       ia)))))
   (fV (gC (pv 1))))))),?_⟩
  refine⟨aN _,fun q1 n1=> ?_⟩;refine⟨aN _,fun q2 n2=> ?_⟩;have s1:fQ H (fM H q1 (.lst [])):=fQ.new n1;have s2:fQ H (fM (fM H q1 (.lst [])) q2 (.lst [])):=s1.more n2;have l7:q1≠q2:=fun z=>by rw[<-z,fO] at n2;cases n2
  refine⟨_,Z,fY (by simp),fun q3 n3=> ?_⟩;have s3:=s2.more (o:=.lst [V.int 10]) n3;refine⟨a,q3,_,_,Z,Z,s3 _ _ ha,fO,fY (by simp;omega),fun q4 n4=> ?_⟩;have eT:t.map nV++[V.int 10]=(t++[10]).map nV:=by rw[ao];rfl
  rw[eT];have g1:(fM (fM H q1 (.lst [])) q2 (.lst [])) q1=some (.lst []):=by rw[fT l7,fO]
  have g2:(fM (fM H q1 (.lst [])) q2 (.lst [])) q2=some (.lst []):=fO;have P4:=(fQ.new (o:=.lst ((t++[10]).map nV)) n4) _ _ ((fQ.new (o:=.lst [V.int 10]) n3) _ _ g1);have pw:=(fQ.new (o:=.lst ((t++[10]).map nV)) n4) _ _ ((fQ.new (o:=.lst [V.int 10]) n3) _ _ g2);have s4:=s3.more (o:=.lst ((t++[10]).map nV)) n4;have f4:H q4=none:=s3.free n4;have g4:(fM (fM (fM (fM H q1 (.lst [])) q2 (.lst [])) q3 (.lst [V.int 10])) q4 (.lst ((t++[10]).map nV))) q4=some (.lst ((t++[10]).map nV)):=fO;have mY:q1≠q4:=gf ((fQ.new (o:=.lst [V.int 10]) n3) _ _ g1) n4;have zf:q2≠q4:=gf ((fQ.new (o:=.lst [V.int 10]) n3) _ _ g2) n4;generalize fM (fM (fM (fM H q1 (.lst [])) q2 (.lst [])) q3 (.lst [V.int 10])) q4 (.lst ((t++[10]).map nV))=H4 at s4 P4 pw g4;have f2:H q2=none:=s1.free n2;generalize hTX:t++[10]=tx at g4 hq;have tl:tx.length<=1001:=by rw[<-hTX];simp;omega
  refine⟨q4,_,Z,fR.of g4,AH (K:=K) (a:=q4) (xs:=tx.map nV) (fun i σ H'=>∃v4 v5 qw ts ws,σ=[some (.ref a),some (.ref q1),some (.ref qw),some (.str (ig (kI ⟨[],[],[]⟩ 0 (tx.take i)).word)),v4,v5]/\fQ H H'/\H' q4=some (.lst (tx.map nV))/\H' q1=some (.lst (ts.map V.ref))/\lj H H' [q1,qw] ts (kI ⟨[],[],[]⟩ 0 (tx.take i)).lines/\H' qw=some (.lst (ws.map V.ref))/\iG H' pi ws (kI ⟨[],[],[]⟩ 0 (tx.take i)).words/\H qw=none/\q1≠qw/\qw≠q4)
   ⟨none,none,q2,[],[],?_,s4,g4,P4,⟨Z,fun i t l h=>by simp at h⟩,pw,iG.nil,f2,l7,zf⟩ (fun i σ H' _ ⟨_,_,_,_,_,_,_,e,_⟩=>fR.of e) ?_ ?_⟩
  ·show[some (.ref a),some (.ref q1),some (.ref q2),some (V.str ""),none,none]=_;rw[<-vO];rfl
  ·rintro i x p σ H5 hx ⟨v4,v5,qw,ts,ws,rfl,s5,xg,oq,hL,P5,hW,fw,xh,Ck⟩ np;obtain⟨b,hb,rfl⟩:=kF hx;have hi:i<tx.length:=(ap.mp hb).1;have j6:(tx.take i).length=i:=by rw[aD];omega
   have s6:fQ H (fM H5 p (.tup [.int (i:Nat),nV b])):=s5.more np;have sp:=fQ.new (H:=H5) (o:=.tup [.int (i:Nat),nV b]) np;have P6:(fM H5 p (.tup [.int (i:Nat),nV b])) p=some (.tup [.int (i:Nat),nV b]):=fO;have tN:=sp _ _ xg;have mq:=sp _ _ oq;have rG:=hL.same sp;have vi:=sp _ _ P5;have vj:=hW.same sp;generalize fM H5 p (.tup [.int (i:Nat),nV b])=H6 at s6 P6 tN mq rG vi vj;obtain⟨Iu,oZ,Cm⟩:=NO tx i;rw[take_snoc hb,Ap,j6,dF];generalize kI ⟨[],[],[]⟩ 0 (tx.take i)=st at rG vj Iu oZ Cm;have zj:ws.length=st.words.length:=vj.1;have P7:ts.length=st.lines.length:=rG.1;refine⟨p,_,Z,kf P6,Z,_,_,Z,_,_,Z,Z,?_⟩
   have Ht:∀(Hx:Hp),Hx q1=some (.lst (ts.map V.ref))->(∃z,Hx qw=some (.lst z))->∀y∈([q1,qw]:List Addr),∀xs,Hx y≠some (.tup xs):=by
    intro Hx h1 ⟨z,h2⟩ y hy xs h;rcases az.mp hy with rfl|hy
    ·rw[h1] at h;cases h
    ·rw[aq.mp hy,h2] at h;cases h
   have fin:¬(b≠32/\b≠10)->∀(H7:Hp) (xi:List Addr),fQ H H7->H7 q4=some (.lst (tx.map nV))->H7 q1=some (.lst (ts.map V.ref))->lj H H7 [q1,qw] ts st.lines->H7 qw=some (.lst (xi.map V.ref))->iG H7 pi xi (jd st i).words->
    uP (sE (kz HD (iO 5) (tC (V.int 10)))) (jR (wb (u7 K "list" ux (iO 1) (i7 (Bv (i7 (iO 2) (i7 (iO 4) jw))) jw))) (uQ (yw jw) (sC 2))) uH
     ⟨fun σ H'=>∃v4 v5 qw ts ws,σ=[some (.ref a),some (.ref q1),some (.ref qw),some (.str (ig (jL st i b).word)),v4,v5]/\fQ H H'/\H' q4=some (.lst (tx.map nV))/\H' q1=some (.lst (ts.map V.ref))/\lj H H' [q1,qw] ts (jL st i b).lines/\H' qw=some (.lst (ws.map V.ref))/\iG H' pi ws (jL st i b).words/\H qw=none/\q1≠qw/\qw≠q4,fun _ _=>True,fun _ _=>True,fun _ _=>True⟩
     [some (.ref a),some (.ref q1),some (.ref qw),some (.str ""),some (.int (i:Nat)),some (nV b)] H7:=by
    intro hn H7 xi s7 P8 qO P9 Cn zk;have ew:(jd st i).word=[]:=Vs st i;refine⟨_,Z,Z,_,Z,?_⟩
    by_cases c:b=10
    ·refine fZ (by rw[c];rfl) ?_;have es:jL st i b=⟨(jd st i).lines++[((jd st i).words,i)],[],(jd st i).word⟩:=by unfold jL;rw[am hn,aw c]
     rw[es,ew,vO,Lf];refine⟨_,Z,.inl ⟨Z,_,fR.of qO⟩,_,Z,_,Z,(by show 2<=sizeLine;decide),fun q8 n8=> ?_⟩;have rH:=fQ.new (H:=H7) (o:=.tup [V.ref qw,V.int (i:Nat)]) n8;have n18:=gf qO n8;refine⟨q1,_,_,Z,Z,rH _ _ qO,iU (by rw[ac];omega),?_⟩;refine⟨aN _,fun q9 n9=> ?_⟩;have s8:fQ H (fM (fM H7 q8 (.tup [V.ref qw,V.int (i:Nat)])) q1 (.lst (ts.map V.ref++[V.ref q8]))):=(s7.more n8).put n1;have o8:gE [q1,qw] (fM H7 q8 (.tup [V.ref qw,V.int (i:Nat)])) (fM (fM H7 q8 (.tup [V.ref qw,V.int (i:Nat)])) q1 (.lst (ts.map V.ref++[V.ref q8]))):=gE.refl.put (by simp);have Qa:lj H (fM (fM H7 q8 (.tup [V.ref qw,V.int (i:Nat)])) q1 (.lst (ts.map V.ref++[V.ref q8]))) [q1,qw] ts st.lines:=(P9.same rH).keep o8 (Ht _ (rH _ _ qO) ⟨_,rH _ _ Cn⟩);have Iv:(fM (fM H7 q8 (.tup [V.ref qw,V.int (i:Nat)])) q1 (.lst (ts.map V.ref++[V.ref q8]))) qw=some (.lst (xi.map V.ref)):=by rw[fT xh.symm];exact rH _ _ Cn
     have Qb:iG (fM (fM H7 q8 (.tup [V.ref qw,V.int (i:Nat)])) q1 (.lst (ts.map V.ref++[V.ref q8]))) pi xi (jd st i).words:=⟨zk.1,fun j a x h3 h4=>kQ o8 (Ht _ (rH _ _ qO) ⟨_,rH _ _ Cn⟩) ((zk.same rH).2 j a x h3 h4)⟩;have Qc:(fM (fM H7 q8 (.tup [V.ref qw,V.int (i:Nat)])) q1 (.lst (ts.map V.ref++[V.ref q8]))) q8=some (.tup [V.ref qw,V.int (i:Nat)]):=by rw[fT n18.symm,fO]
     have rJ:(fM (fM H7 q8 (.tup [V.ref qw,V.int (i:Nat)])) q1 (.lst (ts.map V.ref++[V.ref q8]))) q1=some (.lst ((ts++[q8]).map V.ref)):=by rw[fO,ao];rfl
     have Iw:(fM (fM H7 q8 (.tup [V.ref qw,V.int (i:Nat)])) q1 (.lst (ts.map V.ref++[V.ref q8]))) q4=some (.lst (tx.map nV)):=by rw[fT mY.symm];exact rH _ _ P8
     have tO:(fM (fM H7 q8 (.tup [V.ref qw,V.int (i:Nat)])) q1 (.lst (ts.map V.ref++[V.ref q8]))) q9=none:=n9;generalize fM (fM H7 q8 (.tup [V.ref qw,V.int (i:Nat)])) q1 (.lst (ts.map V.ref++[V.ref q8]))=H8 at s8 Qa Iv Qb Qc rJ Iw tO;have xj:=fQ.new (H:=H8) (o:=.lst []) tO;have nw9:qw≠q9:=gf Iv tO;have Ix:q1≠q9:=gf rJ tO;have n49:q4≠q9:=gf Iw tO
     have hL9:lj H H8 [q1,q9] ts st.lines:=Qa.other fun q kC qL z=>by
      rcases az.mp z with rfl|z
      ·exact qL (by simp)
      ·rw[aq.mp z,tO] at kC;cases kC
     refine⟨some (.int (i:Nat)),some (nV b),q9,ts++[q8],[],Z,s8.more tO,xj _ _ Iw,xj _ _ rJ,(hL9.same xj).snoc (xj _ _ Qc) (xj _ _ Iv) (Qb.same xj) (by simp[xh.symm,nw9]) fw,fO,iG.nil,s8.free tO,Ix,n49.symm⟩
    ·refine gn (ae (fun z=>c (uE.mp z))) ?_;have es:jL st i b=jd st i:=by unfold jL;rw[am hn,am c]
     rw[es,ew,vO,Lf];exact⟨some (.int (i:Nat)),some (nV b),qw,ts,xi,Z,s7,P8,qO,P9,Cn,zk,fw,xh,Ck⟩
   have Qe:¬(b≠32/\b≠10)->
    jR (uP (sE (kz Po (iO 3) (tC (V.str "")))) (jR (wb (u7 K "list" ux (iO 2) (i7 (Bv (i7 (iO 3) (i7 (kz (kX fun i j=>V.int (i-j)) (iO 4) (nZ (fun xs H Q=>∃z,xs=[V.str z]/\z.length<=sizeLine/\Q (V.int z.length) H) (i7 (iO 3) jw))) jw))) jw))) (uQ (tC (V.str "")) (sC 3))) uH)
     (uP (sE (kz HD (iO 5) (tC (V.int 10)))) (jR (wb (u7 K "list" ux (iO 1) (i7 (Bv (i7 (iO 2) (i7 (iO 4) jw))) jw))) (uQ (yw jw) (sC 2))) uH)
     ⟨fun σ H'=>∃v4 v5 qw ts ws,σ=[some (.ref a),some (.ref q1),some (.ref qw),some (.str (ig (jL st i b).word)),v4,v5]/\fQ H H'/\H' q4=some (.lst (tx.map nV))/\H' q1=some (.lst (ts.map V.ref))/\lj H H' [q1,qw] ts (jL st i b).lines/\H' qw=some (.lst (ws.map V.ref))/\iG H' pi ws (jL st i b).words/\H qw=none/\q1≠qw/\qw≠q4,fun _ _=>True,fun _ _=>True,fun _ _=>True⟩
     [some (.ref a),some (.ref q1),some (.ref qw),some (.str (ig st.word)),some (.int (i:Nat)),some (nV b)] H6:=by
    intro hn;refine⟨_,Z,Z,_,Z,?_⟩
    by_cases c:st.word=[]
    ·refine gn ?_ ?_
     ·rw[c,vO];simp
     ·rw[c,vO];have ef:(jd st i).words=st.words:=by unfold jd;rw[aw c]
      exact fin hn H6 ws s6 tN mq rG vi (by rw[ef];exact vj)
    ·refine fZ ?_ ?_
     ·rw[<-vO]
      have:ig st.word≠ig []:=fun z=>c (by
       have:=congrArg Str.length z;rw[my,my] at this;exact aM.mp this)
      simpa using this
     ·refine⟨_,Z,.inl ⟨Z,_,fR.of vi⟩,_,Z,_,Z,_,Z,_,Z,fY (by rw[my];omega),_,_,Z,Z,(by show 2<=sizeLine;decide),fun q7 n7=> ?_⟩;have kY:=fQ.new (H:=H6) (o:=.tup [V.str (ig st.word),V.int ((i:Int)-((ig st.word).length:Int))]) n7;have nw7:=gf vi n7;refine⟨qw,_,_,Z,Z,kY _ _ vi,iU (by rw[ac];omega),?_⟩;refine ?_;have ef:(jd st i).words=st.words++[(st.word,i-st.word.length)]:=by unfold jd;rw[am c]
      have o7:gE [q1,qw] (fM H6 q7 (.tup [V.str (ig st.word),V.int ((i:Int)-((ig st.word).length:Int))])) (fM (fM H6 q7 (.tup [V.str (ig st.word),V.int ((i:Int)-((ig st.word).length:Int))])) qw (.lst (ws.map V.ref++[V.ref q7]))):=gE.refl.put (by simp);have mt:=Ht _ (kY _ _ mq) ⟨_,kY _ _ vi⟩;refine fin hn _ (ws++[q7]) ((s6.more n7).put fw) ?_ ?_ ((rG.same kY).keep o7 mt) ?_ ?_
      ·rw[fT Ck.symm];exact kY _ _ tN
      ·rw[fT xh];exact kY _ _ mq
      ·rw[fO,ao];rfl
      ·rw[ef];have zk:iG (fM (fM H6 q7 (.tup [V.str (ig st.word),V.int ((i:Int)-((ig st.word).length:Int))])) qw (.lst (ws.map V.ref++[V.ref q7]))) pi ws st.words:=⟨vj.1,fun j a x h3 h4=>kQ o7 mt ((vj.same kY).2 j a x h3 h4)⟩;refine zk.snoc ?_;rw[fT nw7.symm,fO];unfold pi;rw[my,show(i:Int)-(st.word.length:Int)=((i-st.word.length:Nat):Int) by omega]
   refine⟨_,Z,Z,_,Z,?_⟩
   by_cases c1:b=32
   ·refine gn (by rw[c1];rfl) ?_;refine gn Z ?_;exact Qe (by omega)
   ·refine fZ (by rw[cG];exact ae (fun z=>c1 (uE.mp z))) ?_;refine⟨_,Z,Z,_,Z,?_⟩
    by_cases c2:b=10
    ·refine gn (by rw[c2];rfl) ?_;exact Qe (by omega)
    ·refine fZ (by rw[cG];exact ae (fun z=>c2 (uE.mp z))) ?_;have es:jL st i b=⟨st.lines,st.words,st.word++[b]⟩:=by unfold jL;rw[aw ⟨c1,c2⟩]
     rw[es];refine⟨_,Z,_,Z,b,Z,_,_,Z,Z,fY (by rw[my,pI];simp;omega),?_⟩;rw[WD];exact⟨some (.int (i:Nat)),some (nV b),qw,ts,ws,Z,s6,tN,mq,rG,vi,vj,fw,xh,Ck⟩
  ·rintro σ H5 ⟨v4,v5,qw,ts,ws,rfl,s5,xg,oq,hL,P5,hW,fw,xh,Ck⟩;rw[ac,aT] at hL;exact⟨_,Z,hq H5 q1 ts s5 n1 oq hL.at⟩
end
open VbkdCore (numeral isSmall isDigit)
theorem mem_range'{x s n:Nat}:x∈List.range' s n↔s<=x/\x<s+n:=by
 rw[List.mem_range'];constructor
 ·rintro⟨i,hi,rfl⟩;omega
 ·intro h;exact⟨x-s,by omega,by omega⟩
theorem XF(b:Nat):decide (jk b∈(Str.ofString "abcdefghijklmnopqrstuvwxyz").cps.toList)=isSmall b:=by
 rw[jq];show decide (jk b∈txt "abcdefghijklmnopqrstuvwxyz")=_;rw[show txt "abcdefghijklmnopqrstuvwxyz"=List.range' 97 26 from by decide];unfold isSmall jk;rw[bK,aH,aJ,aJ,aJ,mem_range'];split<;>omega
theorem XG(b:Nat):decide (jk b∈(Str.ofString "0123456789").cps.toList)=isDigit b:=by
 rw[jq];show decide (jk b∈txt "0123456789")=_;rw[show txt "0123456789"=List.range' 48 10 from by decide];unfold isDigit jk;rw[bK,aH,aJ,aJ,aJ,mem_range'];split<;>omega
theorem yc(w:List Nat):∀ks:List (List Nat),(∀k∈ks,lG k=true)->oY (.str (ig w)) (ks.map fun k=>V.str (gJ k))=ks.contains w
 |[],_=>rfl
 |k::ks,h=>by
  have hk:=h k (by simp);have ih:=yc w ks fun k hk=>h k (by simp[hk])
  unfold oY at ih⊢;rw[aB,dv,ih,List.contains_cons]
  congr 1
  show(gJ k==ig w)=(w==k);rw[bK,ck,ck];exact⟨fun z=>(yh hk).mp z.symm,fun z=>((yh hk).mpr z).symm⟩
theorem Aq(ks:List (List Nat)):(ks.map fun k=>V.str (gJ k)).all qC=true:=by
 rw[db,a9];intro x _;rfl
theorem Lg{w:List Nat}(h:w.all isSmall=true):lG w=true:=by
 unfold lG;rw[a9] at h⊢;intro x hx;have:=h x hx;unfold isSmall at this;rw[this,Bool.or_true]
theorem UR{w:List Nat}(h:w.all isDigit=true):lG w=true:=by
 unfold lG;rw[a9] at h⊢;intro x hx;have:=h x hx;unfold isDigit at this;rw[this,Bool.true_or]
theorem XH{w:List Nat}(h:w.all isDigit=true)(hw:w≠ [])(hl:w.length<=640):PySem.intText? (ig w)=some ((VbkdCore.valueOf w:Nat):Int):=by
 rw[Ad (UR h)];have e:(gJ w).cps.toList=w:=by simp[gJ]
 have:=PySem.intText_digits (x:=gJ w) (by
  rw[e];intro c hc;have:=a9.mp h c hc;unfold isDigit at this;simpa using this) (by rw[e];exact hw) (by rw[pI];omega)
 rw[e] at this
 have e2:PySem.NumText.digitsVal w=VbkdCore.valueOf w:=by
  unfold PySem.NumText.digitsVal VbkdCore.valueOf
  congr 1
  funext n c
  omega
 rw[e2] at this;exact this
def ZP(AA:gu)(K:PySem.W.Frag):Sp:=fun vs H Q E=>∃(w:List Nat) (p:Nat) (a:Addr) (ns:List (List Nat)),vs=[.str (ig w),.int p,.ref a]/\fR K H a (ns.map fun n=>V.str (gJ n))/\(∀n∈ns,lG n=true)/\w≠ []/\w.length<=2000/\
 (Vbkdaa.isName w=false->mH AA H E 1 p)/\(Vbkdaa.isName w=true->ns.contains w=true->mH AA H E 4 p)/\(Vbkdaa.isName w=true->ns.contains w=false->∀H',fQ H H'->Q (.str (gJ w)) H')
def aaA(AA:gu):Sp:=fun vs H Q E=>∃(w:List Nat) (p hi:Nat),vs=[.str (ig w),.int p,.int hi]/\w≠ []/\w.length<=2000/\
 (numeral w=none->mH AA H E 1 p)/\(∀n,numeral w=some n->hi<n->mH AA H E 2 p)/\(∀n,numeral w=some n->n<=hi->∀H',fQ H H'->Q (.int n) H')
section
variable {P:Program} {w:World} {K:PySem.W.Frag} {mg:Str->Option Value} {base:Heap} {AA:gu}
theorem T7:gP ["word","place","names","sign"] ["word","place","names"] (gL (fX 63)):=gX (by decide+kernel)
theorem T8(T:Tx P w K mg AA):gK P w K mg base (jF P w AA.m8) 3 AA.KZ AA.K0 ["word","place","names"] (ZP AA K):=by
 have mB:=AG (base:=base) T;have SC:=T7;refine T.Am.fn.pZ SC (fun vs H Q E h=> ?_) (fun gy A outer s H vs Q E hr h=> ?_)
 ·obtain⟨w,p,a,ns,rfl,_⟩:=h;rfl
 ·obtain⟨wd,p,a,ns,rfl,hA,yU,vk,rK,kC,zd,hq⟩:=h
  refine⟨_,(fS (gY (PW.pt (pM (io mQ (gU zQ (by rfl) T.len aF (fN (pv 0) fP)) (gz Z T.T1) (ii _)) (qu (io xX (pv 0) (m7 Z T.Wg) (by with_unfolding_all rfl)))))
   (fV (nO T.xc mB (hr.mono (by decide)) Z T.mL T.nT (fN (gz Z T.rZ) (fN (pv 1) fP))))
   ia)
   (fS (gY (k9 (lT (gU (yk Z) (by rfl) T.all boot_all (fN (PE.rp (mf (own:=[("sign",3)]) Z SC.nd (GK (pv 0)) (lC (by kernel_rfl)) (fun s H C cl fp=>(iI (i:=3) SC.nd Z (Or.inl Z) (.inr Z))) (fun s H C cl fp=>md) (fun s H C cl fp=>(si Ln (pv 3) (uz Z T.NI) (by with_unfolding_all rfl))))) fP))))
     (fV (nO T.xc mB (hr.mono (by decide)) Z T.mL T.nT (fN (gz Z T.rZ) (fN (pv 1) fP))))
     ia)
   (fS (gY (io xX (pv 0) (pv 2) (by with_unfolding_all rfl))
     (fV (nO T.xc mB (hr.mono (by decide)) Z T.mL T.nT (fN (gz Z T.KG) (fN (pv 1) fP))))
     ia)
   (fV (gC (pv 0)))))),?_⟩
  have Bq:Vbkdaa.isName wd=(decide (wd.length<=8)&&(wd.all isSmall&& !Vbkdaa.KEYS.contains wd)):=by
   unfold Vbkdaa.isName
   have:1<=wd.length:=by
    cases wd with
    |nil=>exact absurd Z vk
    |cons _ _=>simp
   rw[show decide (1<=wd.length/\wd.length<=8)=decide (wd.length<=8) from by simp[this]]
  refine⟨_,Z,_,Z,fY (by rw[my];omega),_,_,Z,Z,_,Z,?_⟩;rw[my]
  by_cases c1:8<wd.length
  ·refine fZ (ai (by omega)) ?_;refine fZ Z ?_;refine⟨_,Z,_,_,Z,?_⟩;exact(kC (by rw[Bq,ae (by omega)];rfl)).go fQ.kG
  ·refine gn (ae (by omega)) ?_
   have ek:(Vbkdaa.KEYS.map fun k=>V.str (gJ k))=[.str "channel",.str "pedestal",.str "on",.str "off",.str "keep",.str "buffer",.str "rate",.str "high",.str "low",.str "delay",.str "gap"]:=by
    unfold Vbkdaa.KEYS;simp only[aB,cg,<-jq]
   have kk:=T.Vk;rw[<-ek] at kk;refine⟨_,Z,AA.Em,_,Z,.inr kk.sq,Z,Aq _,_,Z,?_⟩;show(if oY (.str (ig wd)) (Vbkdaa.KEYS.map fun k=>V.str (gJ k))=true then _ else _);rw[yc wd Vbkdaa.KEYS (by decide)]
   by_cases c2:Vbkdaa.KEYS.contains wd=true
   ·refine fZ c2 ?_;refine⟨_,Z,_,_,Z,?_⟩;exact(kC (by rw[Bq,c2];simp)).go fQ.kG
   ·have Qg:Vbkdaa.KEYS.contains wd=false:=by simpa using c2
    refine gn Qg ?_;refine⟨_,Z,_,Z,fun q1 n1=> ?_⟩;refine GS (x:=ig wd) (fun i H'=>H'=fM H q1 (.lst (((wd.take i).map isSmall).map V.bl))) Z ?_ ?_
    ·rintro i c H' hc rfl;have qE:(wd.map jk)[i]? =some c:=by rw[<-FG,Array.getElem?_toList];exact hc
     obtain⟨b,hb,rfl⟩:=kF qE;have hi:i<wd.length:=(ap.mp hb).1;refine⟨Z,?_⟩;refine⟨_,Z,jk b,_,Z,Z,_,fO,iU (by rw[ac,ac,aD];omega),?_⟩;rw[jn,take_snoc hb,ao,ao,XF];rfl
    ·rintro H' rfl;have es:(ig wd).cps.size=wd.length:=my wd;rw[es,aT];refine⟨q1,wd.map isSmall,Z,fR.of fO,_,Z,?_⟩;have ea:(wd.map isSmall).all id=wd.all isSmall:=by rw[db];rfl
     rw[ea];have s1:fQ H (fM H q1 (.lst ((wd.map isSmall).map V.bl))):=fQ.new n1
     by_cases c3:wd.all isSmall=true
     ·refine gn (by rw[c3];rfl) ?_;have hn:Vbkdaa.isName wd=true:=by rw[Bq,c3,Qg,ai (by omega)];rfl
      refine⟨_,Z,_,Z,a,_,Z,.inl (s1.seq hA),Z,Aq _,_,Z,?_⟩;show(if oY (.str (ig wd)) (ns.map fun k=>V.str (gJ k))=true then _ else _);rw[yc wd ns yU]
      by_cases c4:ns.contains wd=true
      ·refine fZ c4 ?_;refine⟨_,Z,_,_,Z,?_⟩;exact(zd hn c4).go s1
      ·have Qh:ns.contains wd=false:=by simpa using c4
       refine gn Qh ?_;refine⟨_,Z,?_⟩;rw[Ad (Lg c3)];exact hq hn Qh _ s1
     ·have zl:wd.all isSmall=false:=by simpa using c3
      refine fZ (by rw[zl];rfl) ?_;refine⟨_,Z,_,_,Z,?_⟩;exact(kC (by rw[Bq,zl];simp)).go s1
theorem SS:gP ["word","place","most","sign"] ["word","place","most"] (gL (fX 64)):=gX (by decide+kernel)
theorem SU(T:Tx P w K mg AA):gK P w K mg base (jF P w AA.m8) 3 AA.Ka AA.Kb ["word","place","most"] (aaA AA):=by
 have mB:=AG (base:=base) T;have SC:=SS;refine T.zX.fn.pZ SC (fun vs H Q E h=> ?_) (fun gy A outer s H vs Q E hr h=> ?_)
 ·obtain⟨w,p,hi,rfl,_⟩:=h;rfl
 ·obtain⟨wd,p,hi,rfl,vk,rK,kC,qL,hq⟩:=h
  refine⟨_,(fS (gY (PW.pt (pM (io mQ (gU zQ (by rfl) T.len aF (fN (pv 0) fP)) (gz Z T.UI) (ii _)) (qu (k9 (lT (gU (yk Z) (by rfl) T.all boot_all (fN (PE.rp (mf (own:=[("sign",3)]) Z SC.nd (GK (pv 0)) (lC (by kernel_rfl)) (fun s H C cl fp=>(iI (i:=3) SC.nd Z (Or.inl Z) (.inr Z))) (fun s H C cl fp=>md) (fun s H C cl fp=>(si Ln (pv 3) (uz Z T.Of) (by with_unfolding_all rfl))))) fP)))))))
   (fV (nO T.xc mB (hr.mono (by decide)) Z T.mL T.nT (fN (gz Z T.rZ) (fN (pv 1) fP))))
   ia)
   (fS (gY (PW.pt (A1 (io mQ (gU zQ (by rfl) T.len aF (fN (pv 0) fP)) fW (ii _)) (AM (io nj (hV GI (pv 0) fW (fun _ _=>rfl)) kq (ii _)))))
     (fV (nO T.xc mB (hr.mono (by decide)) Z T.mL T.nT (fN (gz Z T.rZ) (fN (pv 1) fP))))
     ia)
   (fS (gY (io mQ (xW Kn (by rfl) T.int boot_int (fN (pv 0) fP)) (pv 2) (ii _))
     (fV (nO T.xc mB (hr.mono (by decide)) Z T.mL T.nT (fN (gz Z T.ZH) (fN (pv 1) fP))))
     ia)
   (fV (gC (xW Kn (by rfl) T.int boot_int (fN (pv 0) fP))))))),?_⟩
  have h1:1<=wd.length:=by
   cases wd with
   |nil=>exact absurd Z vk
   |cons _ _=>simp
  have BB:numeral wd=if (decide (wd.length<=7)&&(wd.all isDigit&&(wd.length==1||wd.headD 48 !=48)))=true then some (VbkdCore.valueOf wd) else none:=by
   unfold numeral;rw[ai h1,dP]
  refine⟨_,Z,_,Z,fY (by rw[my];omega),_,_,Z,Z,_,Z,?_⟩;rw[my]
  by_cases c1:7<wd.length
  ·refine fZ (ai (by omega)) ?_;refine fZ Z ?_;refine⟨_,Z,_,_,Z,?_⟩;exact(kC (by rw[BB,ae (by omega)];rfl)).go fQ.kG
  ·refine gn (ae (by omega)) ?_;refine⟨_,Z,_,Z,fun q1 n1=> ?_⟩;refine GS (x:=ig wd) (fun i H'=>H'=fM H q1 (.lst (((wd.take i).map isDigit).map V.bl))) Z ?_ ?_
   ·rintro i c H' hc rfl;have qE:(wd.map jk)[i]? =some c:=by rw[<-FG,Array.getElem?_toList];exact hc
    obtain⟨b,hb,rfl⟩:=kF qE;have hi:i<wd.length:=(ap.mp hb).1;refine⟨Z,?_⟩;refine⟨_,Z,jk b,_,Z,Z,_,fO,iU (by rw[ac,ac,aD];omega),?_⟩;rw[jn,take_snoc hb,ao,ao,XG];rfl
   ·rintro H' rfl;have es:(ig wd).cps.size=wd.length:=my wd;rw[es,aT];refine⟨q1,wd.map isDigit,Z,fR.of fO,_,Z,?_⟩;have ea:(wd.map isDigit).all id=wd.all isDigit:=by rw[db];rfl
    rw[ea];have s1:fQ H (fM H q1 (.lst ((wd.map isDigit).map V.bl))):=fQ.new n1
    by_cases c3:wd.all isDigit=true
    ·refine gn (by rw[c3];rfl) ?_;refine⟨_,Z,_,Z,fY (by rw[my];omega),_,_,Z,Z,_,Z,?_⟩;rw[my]
     have fin:(wd.length==1||wd.headD 48 !=48)=true->
      jR (uP (sE (kz (kX fun i j=>V.bl (decide (j<i))) (nZ (fun xs H Q=>∃a n,xs=[V.str a]/\PySem.intText? a=some n/\a.length<=640/\Q (V.int n) H) (i7 (iO 0) jw)) (iO 2))) (GM AA.m8 E (i7 (tC (V.int 2)) (i7 (iO 1) jw))) uH)
       (ww (nZ (fun xs H Q=>∃a n,xs=[V.str a]/\PySem.intText? a=some n/\a.length<=640/\Q (V.int n) H) (i7 (iO 0) jw))) ⟨fun _ H'=>Q .gS H',Q,fun _ _=>True,fun _ _=>True⟩ [some (.str (ig wd)),some (.int p),some (.int hi),none] (fM H q1 (.lst ((wd.map isDigit).map V.bl))):=by
      intro hz;have hv:numeral wd=some (VbkdCore.valueOf wd):=by rw[BB,c3,hz,ai (by omega)];rfl
      have ht:=XH c3 vk (by omega);refine⟨_,Z,_,_,Z,ht,by rw[my];omega,_,Z,_,_,Z,Z,_,Z,?_⟩
      by_cases c5:hi<VbkdCore.valueOf wd
      ·refine fZ (ai (by omega)) ?_;refine⟨_,Z,_,_,Z,?_⟩;exact(qL _ hv c5).go s1
      ·refine gn (ae (by omega)) ?_;refine⟨_,Z,_,_,Z,ht,by rw[my];omega,?_⟩;exact hq _ hv (by omega) _ s1
     by_cases c4:1<wd.length
     ·refine fZ (ai (by omega)) ?_
      have hh:∃x r,wd=x::r:=by
       cases wd with
       |nil=>exact absurd Z vk
       |cons x r=>exact⟨x,r,Z⟩
      obtain⟨x,r,hx⟩:=hh;have Qi:isDigit x=true:=by rw[hx,cQ,aH] at c3;exact c3.1
      have hsx:jk x=x:=(FF (by unfold isDigit at Qi;rw[Qi];rfl)).1;refine⟨_,Z,_,_,x,Z,Z,fY (by rw[my];omega),?_,Z,_,Z,?_⟩
      ·have hl0:(ig wd).cps.toList[0]? =some x:=by rw[FG,hx,aB,hsx];rfl
       exact AO hl0
      have e0:(V.str ⟨#[x]⟩=V.str "0")↔x=48:=by
       rw[show(("0":Str))=gJ (txt "0") from jq "0"];constructor
       ·intro z;have:=V.str.inj z;have:=congrArg (fun y:Str=>y.cps.toList) this;simpa [gJ,txt] using this
       ·rintro rfl;rfl
      by_cases c6:x=48
      ·refine fZ (ai (e0.mpr c6)) ?_;refine⟨_,Z,_,_,Z,?_⟩;refine(kC ?_).go s1;rw[BB,c3,hx,c6]
       have:((48::r).length==1)=false:=by
        rw[<-c6,<-hx];simpa using (show wd.length≠1 by omega)
       rw[this];simp
      ·refine gn (ae (fun z=>c6 (e0.mp z))) ?_;exact fin (by rw[hx];simp[c6])
     ·refine gn (ae (by omega)) ?_;refine gn Z ?_;exact fin (by rw[show wd.length=1 by omega];rfl)
    ·have zl:wd.all isDigit=false:=by simpa using c3
     refine fZ (by rw[zl];rfl) ?_;refine⟨_,Z,_,_,Z,?_⟩;exact(kC (by rw[BB,zl];simp)).go s1
end
open Vbkdaa (Book)
def iw(k:Key):Str:=gJ (jt k)
theorem FH(k:Key):lG (jt k)=true:=by cases k<;>decide
theorem E3{w:List Nat}{k:Key}(h:nW w=some k):w=jt k:=by
 unfold nW at h;split at h
 ·rw[<-af h];assumption
 ·split at h
  ·rw[<-af h];assumption
  ·split at h
   ·rw[<-af h];assumption
   ·split at h
    ·rw[<-af h];assumption
    ·split at h
     ·rw[<-af h];assumption
     ·cases h
theorem ua:iw .jc="channel"/\iw .keep="keep"/\iw .buffer="buffer"/\iw .delay="delay"/\iw .gap="gap":=⟨(jq _).symm,(jq _).symm,(jq _).symm,(jq _).symm,(jq _).symm⟩
theorem Ae{j k:Key}:iw j=iw k↔j=k:=by
 unfold iw;rw[Ga];constructor
 ·intro h;cases j<;>cases k<;>first|rfl|(exfalso;revert h;decide)
 ·rintro rfl;rfl
theorem Gb{w:List Nat}{k:Key}(h:nW w=some k):ig w=iw k:=by rw[E3 h];exact Ad (FH k)
theorem NP{w:List Nat}{k:Key}:ig w=iw k↔w=jt k:=yh (FH k)
def mM(AA:gu):Key->Addr
 |.jc=>AA.uc|.keep=>AA.ue|.buffer=>AA.uf|.delay=>AA.uh|.gap=>AA.ui
def NQ(AA:gu):List (L2.Key×V):=[(Sum.inr "channel",.ref AA.uc),(Sum.inr "keep",.ref AA.ue),(Sum.inr "buffer",.ref AA.uf),(Sum.inr "delay",.ref AA.uh),(Sum.inr "gap",.ref AA.ui)]
theorem Gc(AA:gu)(w:List Nat):i5 (NQ AA) (Sum.inr (ig w))=(nW w).map fun k=>V.ref (mM AA k):=by
 obtain⟨e1,e2,e3,e4,e5⟩:=ua;unfold NQ;rw[<-e1,<-e2,<-e3,<-e4,<-e5]
 have step:∀(k:Key) (v:V) (r:List (L2.Key×V)),i5 ((Sum.inr (iw k),v)::r) (Sum.inr (ig w))=if w=jt k then some v else i5 r (Sum.inr (ig w)):=by
  intro k v r
  by_cases h:w=jt k
  ·rw[aw h];exact vM (p:=(Sum.inr (iw k),v)) (by rw[NP.mpr h])
  ·rw[am h];exact uq (p:=(Sum.inr (iw k),v)) (fun z=>h (NP.mp (Sum.inr.inj z).symm))
 rw[step,step,step,step,step];unfold nW
 by_cases h1:w=txt "channel"
 ·rw[aw (show w=jt .jc from h1),aw h1];rfl
 ·rw[am h1,am (show¬w=jt .jc from h1)]
  by_cases h2:w=txt "keep"
  ·rw[aw (show w=jt .keep from h2),aw h2];rfl
  ·rw[am h2,am (show¬w=jt .keep from h2)]
   by_cases h3:w=txt "buffer"
   ·rw[aw (show w=jt .buffer from h3),aw h3];rfl
   ·rw[am h3,am (show¬w=jt .buffer from h3)]
    by_cases h4:w=txt "delay"
    ·rw[aw (show w=jt .delay from h4),aw h4];rfl
    ·rw[am h4,am (show¬w=jt .delay from h4)]
     by_cases h5:w=txt "gap"
     ·rw[aw (show w=jt .gap from h5),aw h5];rfl
     ·rw[am h5,am (show¬w=jt .gap from h5)];rfl
def iM(b:Book):Key->Option (List Nat)
 |.jc=>none
 |.keep=>b.keep.map fun x=>[x.1,x.2]
 |.buffer=>b.buffer.map fun x=>[x.1,x.2.1,x.2.2.1,x.2.2.2]
 |.delay=>b.delay.map fun n=>[n]
 |.gap=>b.gap.map fun n=>[n]
theorem nP(b:Book)(s:Str)(l:List Nat):(s,l)∈uD b↔∃k,s=iw k/\iM b k=some l:=by
 obtain⟨e1,e2,e3,e4,e5⟩:=ua;unfold uD;rw[<-e2,<-e3,<-e4,<-e5];simp only[aG];constructor
 ·rintro(((h|h)|h)|h)
  ·cases hb:b.keep with
   |none=>rw[hb] at h;cases h
   |some x=>rw[hb] at h;simp at h;exact⟨.keep,h.1,by rw[h.2];simp[iM,hb]⟩
  ·cases hb:b.buffer with
   |none=>rw[hb] at h;cases h
   |some x=>rw[hb] at h;simp at h;exact⟨.buffer,h.1,by rw[h.2];simp[iM,hb]⟩
  ·cases hb:b.delay with
   |none=>rw[hb] at h;cases h
   |some x=>rw[hb] at h;simp at h;exact⟨.delay,h.1,by rw[h.2];simp[iM,hb]⟩
  ·cases hb:b.gap with
   |none=>rw[hb] at h;cases h
   |some x=>rw[hb] at h;simp at h;exact⟨.gap,h.1,by rw[h.2];simp[iM,hb]⟩
 ·rintro⟨k,rfl,h⟩;cases k with
  |jc=>cases h
  |keep=>
   unfold iM at h;cases hb:b.keep with
   |none=>rw[hb] at h;cases h
   |some x=>rw[hb] at h;simp at h;subst h;simp
  |buffer=>
   unfold iM at h;cases hb:b.buffer with
   |none=>rw[hb] at h;cases h
   |some x=>rw[hb] at h;simp at h;subst h;simp
  |delay=>
   unfold iM at h;cases hb:b.delay with
   |none=>rw[hb] at h;cases h
   |some x=>rw[hb] at h;simp at h;subst h;simp
  |gap=>
   unfold iM at h;cases hb:b.gap with
   |none=>rw[hb] at h;cases h
   |some x=>rw[hb] at h;simp at h;subst h;simp
theorem Mm(b:Book)(k:Key):(iM b k).isSome=me b k:=by
 cases k<;>simp[iM,me]
theorem YA{ts:List (Str×Addr)}{s:Str}:(i5 (ts.map fun x=>((Sum.inr x.1:L2.Key),V.ref x.2)) (Sum.inr s))=(ts.find? fun x=>decide (x.1=s)).map fun x=>V.ref x.2:=by
 unfold i5;rw[List.find?_map,Option.map_map]
 congr 1
 congr 1
 funext x
 show decide ((Sum.inr x.1:L2.Key)=Sum.inr s)=_;exact N5 _ _
theorem lU.val{H:Hp}{ld:Addr}{ts:List (Str×Addr)}{b:Book}(h:lU H ld ts b)(k:Key):
 (iM b k=none/\i5 (ts.map fun x=>((Sum.inr x.1:L2.Key),V.ref x.2)) (Sum.inr (iw k))=none)\/∃l a,iM b k=some l/\H a=some (Hr l)/\i5 (ts.map fun x=>((Sum.inr x.1:L2.Key),V.ref x.2)) (Sum.inr (iw k))=some (.ref a):=by
 rw[YA];cases hf:ts.find? fun x=>decide (x.1=iw k) with
 |none=>
  left;refine⟨?_,Z⟩;cases ht:iM b k with
  |none=>rfl
  |some l=>
   obtain⟨a,h1,_⟩:=(h.all (iw k,l)).mp ((nP b _ _).mpr ⟨k,Z,ht⟩);have:=List.find?_eq_none.mp hf _ h1;simp at this
 |some x=>
  right;have hx:=List.mem_of_find?_eq_some hf;have hs:x.1=iw k:=by have:=List.find?_some hf;simpa using this
  obtain⟨l,hl⟩:=h.only x hx;rw[hs] at hl;obtain⟨j,hj,ht⟩:=(nP b _ _).mp hl;have:k=j:=Ae.mp hj;subst this;obtain⟨a,h1,h2⟩:=(h.all (iw k,l)).mp hl
  have ea:a=x.2:=by
   obtain⟨i,hi⟩:=b5.mp h1;obtain⟨i2,mI⟩:=b5.mp hx;have e:i=i2:=GY h.nd (by rw[au,hi];rfl) (by rw[au,mI,Option.map_some,hs]);rw[e,mI] at hi;exact(congrArg Prod.snd (af hi)).symm
  exact⟨l,x.2,ht,by rw[<-ea];exact h2,Z⟩
def oJ:Key->Bool
 |.jc=>true
 |_=>false
def YB(AA:gu)(K:PySem.W.Frag):Sp:=fun vs H Q E=>∃(t:Addr) (w:List Nat) (p:Nat) (lc:Addr) (cs:List Addr) (ld:Addr) (ts:List (Str×Addr)) (b:Book),vs=[.ref t,.ref lc,.ref ld]/\H t=some (pi (w,p))/\H lc=some (.lst (cs.map V.ref))/\cs.length=b.channels.length/\lU H ld ts b/\
 (nW w=none->mH AA H E 1 p)/\∀k,nW w=some k->(me b k=true->mH AA H E 4 p)/\(me b k=false->oJ k=true->b.channels.length=8->mH AA H E 5 p)/\(me b k=false->¬(oJ k=true/\b.channels.length=8)->Q .gS H)
section
variable {P:Program} {w:World} {K:PySem.W.Frag} {mg:Str->Option Value} {base:Heap} {AA:gu}
theorem RH:gP ["first","channels","told","keyword","place"] ["first","channels","told"] (gL (fX 61)):=gX (by decide+kernel)
theorem RI(T:Tx P w K mg AA):gK P w K mg base (jF P w AA.m8) 3 AA.JA AA.JB ["first","channels","told"] (YB AA K):=by
 have mB:=AG (base:=base) T;have SC:=RH;refine T.zJ.fn.pZ SC (fun vs H Q E h=> ?_) (fun gy A outer s H vs Q E hr h=> ?_)
 ·obtain⟨t,w,p,lc,cs,ld,ts,b,rfl,_⟩:=h;rfl
 ·obtain⟨t,wd,p,lc,cs,ld,ts,b,rfl,ht,Co,mo,hT,kC,hqk⟩:=h;have hu:=wg hr
  refine⟨_,(fS (gj (i:=3) SC.nd Z (Or.inl Z) (hV jH (pv 0) fW (fun _ _=>rfl)))
   (fS (gj (i:=4) SC.nd Z (Or.inl Z) (hV jH (pv 0) fW (fun _ _=>rfl)))
   (fS (gY (qt (Wa T.GP (pv 3) (m7 Z T.G3)))
     (fV (nO T.xc mB (hr.mono (by decide)) Z T.mL T.nT (fN (gz Z T.rZ) (fN (pv 4) fP))))
     ia)
   (fS (gY (qt (Oc hu (pv 3) (pv 2)))
     (fV (nO T.xc mB (hr.mono (by decide)) Z T.mL T.nT (fN (gz Z T.KG) (fN (pv 4) fP))))
     ia)
   (fV (gY (PW.pt (A1 (io nj (pv 3) kq (ii _)) (AM (io nj (gU iL (by rfl) T.len aF (fN (pv 1) fP)) (gz Z T.zO) (ii _)))))
     (fV (nO T.xc mB (hr.mono (by decide)) Z T.mL T.nT (fN (gz Z T.Tf) (fN (pv 4) fP))))
     ia)))))),?_⟩
  refine⟨_,Z,t,_,_,_,Z,Z,kf ht,ir (j:=0) Z Z,?_⟩;refine⟨_,Z,t,_,_,_,Z,Z,kf ht,ir (j:=1) Z Z,?_⟩;refine⟨_,Z,Sum.inr (ig wd),Z,_,Z,?_⟩;have ef:i5 [((Sum.inr "channel":L2.Key),V.ref AA.uc),(Sum.inr "keep",.ref AA.ue),(Sum.inr "buffer",.ref AA.uf),(Sum.inr "delay",.ref AA.uh),(Sum.inr "gap",.ref AA.ui)] (Sum.inr (ig wd))=(nW wd).map fun k=>V.ref (mM AA k):=Gc AA wd
  rw[ef,Option.isSome_map];cases hk:nW wd with
  |none=>
   refine fZ Z ?_;refine⟨_,Z,_,_,Z,?_⟩;exact(kC hk).go fQ.kG
  |some k=>
   refine gn Z ?_;obtain⟨h4,h5,h0⟩:=hqk k hk;have ek:ig wd=iw k:=Gb hk;refine⟨_,Z,_,Z,ld,_,Z,lK.k (k:=Sum.inr (ig wd)) hT.dict,_,Z,?_⟩;rw[ek]
   have es:(i5 (ts.map fun x=>((Sum.inr x.1:L2.Key),V.ref x.2)) (Sum.inr (iw k))).isSome=me b k:=by
    rw[<-Mm];rcases hT.val k with⟨z1,z2⟩|⟨l,a,z1,_,z2⟩
    ·rw[z1,z2];rfl
    ·rw[z1,z2];rfl
   rw[es];cases qc:me b k with
   |true=>
    refine fZ Z ?_;refine⟨_,Z,_,_,Z,?_⟩;exact(h4 qc).go fQ.kG
   |false=>
    refine gn Z ?_;refine⟨_,Z,Z,_,Z,?_⟩
    have ec:decide (V.str (iw k)=V.str "channel")=oJ k:=by
     rw[<-ua.1];have:(V.str (iw k)=V.str (iw .jc))↔k=.jc:=by rw[V.str.injEq];exact Ae
     cases k
     ·exact ai (this.mpr Z)
     all_goals exact ae (fun z=>by have:=this.mp z;cases this)
    rw[ec];cases hc:oJ k with
    |false=>
     refine gn Z ?_;refine gn Z ?_;exact h0 qc (by rw[hc];simp)
    |true=>
     refine fZ Z ?_;refine⟨_,Z,lc,_,Z,.inl (fR.of Co),Z,_,Z,?_⟩;rw[ac,mo]
     by_cases c8:b.channels.length=8
     ·refine fZ (ai (by rw[c8];rfl)) ?_;refine⟨_,Z,_,_,Z,?_⟩;exact(h5 qc hc c8).go fQ.kG
     ·refine gn (ae (fun z=>c8 (by have:=V.int.inj z;omega))) ?_;exact h0 qc (fun z=>c8 z.2)
end
open VbkdCore (Fault)
open Vbkdaa (isName)
def mS:Due->V
 |.name=>.str "NAME"
 |.word k=>.str (gJ k)
 |.num hi=>.int hi
def kZ:ik->V
 |.inl n=>.str (gJ n)
 |.inr n=>.int n
theorem MX{P:Program}{w:World}{K:PySem.W.Frag}{mg:Str->Option Value}{AA:gu}(T:Tx P w K mg AA)(k:Key):iX K (mM AA k) ((jY k).map mS):=by
 cases k with
 |jc=>
  have:=T.Xf;simp only[jq] at this;exact this
 |keep=>exact T.Xg
 |buffer=>
  have:=T.Xh;simp only[jq] at this;exact this
 |delay=>exact T.Xi
 |gap=>exact T.Xj
theorem NR(k:List Nat)(h:lG k=true):V.str (gJ k)≠V.str "NAME":=by
 rw[show(("NAME":Str))=gJ (txt "NAME") from jq "NAME"];intro z;have:=Ga.mp (V.str.inj z);rw[this] at h;revert h;decide
def G5:Due->Bool
 |.word k=>lG k
 |_=>true
theorem NS(k:Key):(jY k).all G5=true:=by cases k<;>decide
theorem Gd(k:Key):(jY k).length<=7/\1<=(jY k).length:=by cases k<;>decide
theorem Ar{α:Type}{l:List α}{i:Nat}{x:α}(h:l[i]? =some x):l.drop i=x::l.drop (i+1):=by
 have hi:=(ap.mp h).1;rw[List.drop_eq_getElem_cons hi]
 congr 1
 exact(ap.mp h).2
theorem MY(e:Nat)(ns:List VbkdCore.Bytes)(ds:List Due)(h1 h2:Nat)(kw:VbkdCore.Bytes)(r:List j3)(vs us:List ik)(h:iF e ns (ds++[.num h1,.word kw,.num h2]) r vs=.ok us):∃pre m n,us=pre++[.inr m,.inr n]:=by
 rw[Eu] at h;cases hd:iF e ns ds r vs with
 |error f=>rw[hd] at h;cases h
 |ok ws=>
  rw[hd] at h;simp only at h;generalize r.drop ds.length=q at h
  match q,h with
  |[],h=>simp[iF] at h
  |[a],h=>
   simp only[iF,ji] at h;split at h
   ·cases h
   ·cases h
  |[a,b],h=>
   simp only[iF] at h;split at h
   ·cases h
   ·split at h
    ·cases h
    ·cases h
  |a::b::c::q,h=>
   simp only[iF] at h;cases ha:ji ns (.num h1) a with
   |error f=>rw[ha] at h;cases h
   |ok va=>
    rw[ha] at h;simp only at h;cases hb:ji ns (.word kw) b with
    |error f=>rw[hb] at h;cases h
    |ok vb=>
     rw[hb] at h;simp only at h;cases hc:ji ns (.num h2) c with
     |error f=>rw[hc] at h;cases h
     |ok vc=>
      rw[hc] at h;simp only[Except.ok.injEq] at h
      have na:∃m,va=[.inr m]:=by
       simp only[ji] at ha;split at ha
       ·cases ha
       ·split at ha
        ·cases ha
        ·exact⟨_,(dM ha).symm⟩
      have nb:vb=[]:=by
       simp only[ji] at hb;split at hb
       ·exact(dM hb).symm
       ·cases hb
      have nc:∃n,vc=[.inr n]:=by
       simp only[ji] at hc;split at hc
       ·cases hc
       ·split at hc
        ·cases hc
        ·exact⟨_,(dM hc).symm⟩
      obtain⟨m,rfl⟩:=na;obtain⟨n,rfl⟩:=nc;subst nb;exact⟨ws,m,n,by rw[<-h];simp⟩
theorem YC(e:Nat)(ns:List VbkdCore.Bytes)(k:Key)(hk:qy k=true)(r:List j3)(us:List ik)(h:iF e ns (jY k) r []=.ok us):∃pre m n,us=pre++[.inr m,.inr n]:=by
 cases k with
 |jc=>exact MY e ns [.name,.word (txt "pedestal"),.num 4095,.word (txt "on")] 4095 4095 (txt "off") r [] us h
 |buffer=>exact MY e ns [.num 400,.word (txt "rate"),.num 50,.word (txt "high")] 400 400 (txt "low") r [] us h
 |keep=>cases hk
 |delay=>cases hk
 |gap=>cases hk
def ZQ(AA:gu)(K:PySem.W.Frag):Sp:=fun vs H Q E=>∃(q:Addr) (ws:List Addr) (w0:j3) (r:List j3) (e:Nat) (a:Addr) (ns:List (List Nat)) (k:Key),vs=[.ref q,.int e,.ref a]/\H q=some (.lst (ws.map V.ref))/\iG H pi ws (w0::r)/\nW w0.1=some k/\fR K H a (ns.map fun n=>V.str (gJ n))/\(∀n∈ns,lG n=true)/\
 (∀x∈r,x.1≠ []/\x.1.length<=2000)/\r.length<=2000/\(∀f,jm e ns (qy k) (jY k) r=.error f->mH AA H E f.kind f.place)/\
 ∀us,jm e ns (qy k) (jY k) r=.ok us->∀(H':Hp) (p:Addr),fQ H H'->H p=none->H' p=some (.lst (us.map kZ))->Q (.ref p) H'
section
variable {P:Program} {w:World} {K:PySem.W.Frag} {mg:Str->Option Value} {base:Heap} {AA:gu}
theorem SV:gP ["words","end","names","keyword","form","values","number","due","word","place"] ["words","end","names"] (gL (fX 62)):=gX (by decide+kernel)
theorem SW(T:Tx P w K mg AA):gK P w K mg base (jF P w AA.m8) 4 AA.J8 AA.J9 ["words","end","names"] (ZQ AA K):=by
 have mB:=AG (base:=base) T;have US:=T8 (base:=base) T;have Tk:=SU (base:=base) T;have SC:=SV;refine T.zW.fn.pZ SC (fun vs H Q E h=> ?_) (fun gy A outer s H vs Q E hr h=> ?_)
 ·obtain⟨q,ws,w0,r,e,a,ns,k,rfl,_⟩:=h;rfl
 ·obtain⟨q,ws,w0,r,e,a,ns,k,rfl,vm,hW,hk,hA,yU,zm,xk,hE,hq⟩:=h
  refine⟨_,(fS (gj (i:=3) SC.nd Z (Or.inl Z) (hV jH (hV jb (pv 0) fW (fun _ _=>rfl)) fW (fun _ _=>rfl)))
   (fS (gj (i:=4) SC.nd Z (Or.inl Z) (qZ T.GP (m7 Z T.G3) (pv 3) (fun _ _=>rfl)))
   (fS (gj (i:=5) SC.nd Z (Or.inl Z) (gI fP))
   (fS (lE O4 Z (Xb Z T.enumerate (fN (pv 4) fP) (yd fW yj)) (rb Z (lR (iI (i:=6) SC.nd Z (Or.inl Z)) (lR (iI (i:=7) SC.nd Z (Or.inl Z)) qX)))
     (fS (gY (io nj (pv 6) (gU iL (by rfl) T.len aF (fN (pv 0) fP)) (ii _))
       (fV (nO T.xc mB (hr.mono (by decide)) Z T.mL T.nT (fN (gz Z T.rZ) (fN (pv 1) fP))))
       ia)
     (fS (gj (i:=8) SC.nd Z (Or.inl Z) (hV jH (hV jb (pv 0) (pv 6) (fun _ _=>rfl)) fW (fun _ _=>rfl)))
     (fS (gj (i:=9) SC.nd Z (Or.inl Z) (hV jH (hV jb (pv 0) (pv 6) (fun _ _=>rfl)) fW (fun _ _=>rfl)))
     (fV (gY (io nj (pv 7) (uz Z T.O6) (ii _))
       (fV (iR (iT ax aI aL kE (pv 5) (fN (ic US (hr.mono (by decide)) Z T.Am.mg T.Am.fn.kp T.Am.b .nil Bk (fN (pv 8) (fN (pv 9) (fN (pv 2) fP)))) fP))))
       (fV (gY (lT (gU Lq (by rfl) T.isinstance boot_isinstance (fN (pv 7) (fN (Ni (v:=V.ty "int") Z T.int boot_int Z) fP))))
         (fV (iR (iT ax aI aL kE (pv 5) (fN (ic Tk (hr.mono (by decide)) Z T.zX.mg T.zX.fn.kp T.zX.b .nil Bk (fN (pv 8) (fN (pv 9) (fN (pv 7) fP)))) fP))))
         (fV (gY (io rc (pv 8) (pv 7) (ii _))
           (fV (nO T.xc mB (hr.mono (by decide)) Z T.mL T.nT (fN (gz Z T.rZ) (fN (pv 9) fP))))
           ia))))))))))
   (fS (gY (PW.pt (A1 (io xX (pv 3) (m7 Z T.Yp) (by with_unfolding_all rfl)) (AM (io mQ (hV jb (pv 5) (qA qv fW) (fun _ _=>rfl)) (hV jb (pv 5) (qA qv fW) (fun _ _=>rfl)) (ii _)))))
     (fV (nO T.xc mB (hr.mono (by decide)) Z T.mL T.nT (fN (gz Z T.aax) (fN (hV jH (hV jb (pv 0) (gU iL (by rfl) T.len aF (fN (pv 4) fP)) (fun _ _=>rfl)) fW (fun _ _=>rfl)) fP))))
     ia)
   (fS (gY (io mQ (gU iL (by rfl) T.len aF (fN (pv 0) fP)) (gA jg (gU iL (by rfl) T.len aF (fN (pv 4) fP)) fW) (ii _))
     (fV (nO T.xc mB (hr.mono (by decide)) Z T.mL T.nT (fN (gz Z T.rZ) (fN (hV jH (hV jb (pv 0) (gA jg (gU iL (by rfl) T.len aF (fN (pv 4) fP)) fW) (fun _ _=>rfl)) fW (fun _ _=>rfl)) fP))))
     ia)
   (fV (gC (pv 5))))))))),?_⟩
  have wl:ws.length=r.length+1:=by rw[hW.1];rfl
  have Br:∀(Hx:Hp) (j:Nat) (x:j3),fQ H Hx->(w0::r)[j]? =some x->∃t,(ws.map V.ref)[j]? =some (V.ref t)/\Hx t=some (.tup [.str (ig x.1),.int x.2]):=by
   intro Hx j x sx hx;obtain⟨t,h1,h2⟩:=hW.addr hx;exact⟨t,by rw[au,h1];rfl,sx _ _ h2⟩
  obtain⟨t0,Cp,vk⟩:=Br H 0 w0 fQ.kG Z;have ek:ig w0.1=iw k:=Gb hk;refine⟨_,Z,q,_,_,_,Z,Z,fR.of vm,ir (j:=0) Z Cp,t0,_,_,_,Z,Z,kf vk,ir (j:=0) Z Z,?_⟩;have ef:i5 [((Sum.inr "channel":L2.Key),V.ref AA.uc),(Sum.inr "keep",.ref AA.ue),(Sum.inr "buffer",.ref AA.uf),(Sum.inr "delay",.ref AA.uh),(Sum.inr "gap",.ref AA.ui)] (Sum.inr (ig w0.1))=some (V.ref (mM AA k)):=(Gc AA w0.1).trans (by rw[hk];rfl);refine⟨_,Z,Sum.inr (ig w0.1),_,Z,ef,?_⟩;refine⟨aN _,fun q1 n1=> ?_⟩;have s1:fQ H (fM H q1 (.lst [])):=fQ.new n1;have kt:=MX T k;obtain⟨Iy,Iz⟩:=Gd k;have zn:=NS k;generalize Qj:jY k=ds at kt Iy Iz zn hE hq;have Qk:∀f,iF e ns ds r []=.error f->jm e ns (qy k) ds r=.error f:=fun f hf=>by unfold jm;rw[hf]
  refine⟨_,Z,mM AA k,_,Z,Z,kt.sq,NB (sq:=fun H xs=>iN K H (mM AA k) xs) (xs:=ds.map mS) (fun i σ H'=>∃v6 v7 v8 v9 us,σ=[some (.ref q),some (.int e),some (.ref a),some (.str (ig w0.1)),some (.ref (mM AA k)),some (.ref q1),v6,v7,v8,v9]/\fQ H H'/\H' q1=some (.lst (us.map kZ))/\i<=r.length/\us.length<=i/\iF e ns ds r []=iF e ns (ds.drop i) (r.drop i) us)
   ⟨none,none,none,none,[],Z,s1,fO,aN _,aA _,Z⟩ (fun i σ H' _ _=>kt.sq) ?_ ?_⟩
  ·rintro i x p σ H2 hx ⟨v6,v7,v8,v9,us,rfl,s2,g2,Ql,Qm,mF⟩ np;obtain⟨d,hd,rfl⟩:=kF hx;have hi:i<ds.length:=(ap.mp hd).1;have dk:G5 d=true:=a9.mp zn d (aS hd);have s3:fQ H (fM H2 p (.tup [.int ((i+1:Nat):Int),mS d])):=s2.more np;have sp:=fQ.new (H:=H2) (o:=.tup [.int ((i+1:Nat):Int),mS d]) np;have ow:(fM H2 p (.tup [.int ((i+1:Nat):Int),mS d])) p=some (.tup [.int ((i+1:Nat):Int),mS d]):=fO;have g3:=sp _ _ g2;generalize fM H2 p (.tup [.int ((i+1:Nat):Int),mS d])=H3 at s3 ow g3;rw[Ar hd] at mF;refine⟨p,_,Z,kf ow,Z,_,_,Z,_,_,Z,Z,?_⟩;refine⟨_,Z,_,Z,q,_,Z,.inl (fR.of (s3 _ _ vm)),Z,_,Z,?_⟩;rw[ac,wl]
   by_cases c1:i=r.length
   ·refine fZ (ai (by rw[c1])) ?_;refine⟨_,Z,_,_,Z,?_⟩;rw[c1,eu] at mF;exact(hE ⟨1,e⟩ (Qk _ (by rw[mF];rfl))).go s3
   ·refine gn (ae (fun z=>c1 (by have:=V.int.inj z;omega))) ?_;have abB:i<r.length:=by omega
    have px:r[i]? =some r[i]:=ak abB;generalize Qn:r[i]=x at px;have Cq:=zm x (aS px);rw[Ar px] at mF;obtain⟨tw,xl,wE⟩:=Br H3 (i+1) x s3 (by simpa using px);refine⟨_,Z,_,Z,q,_,_,_,Z,Z,fR.of (s3 _ _ vm),ir (j:=i+1) Z xl,tw,_,_,_,Z,Z,kf wE,ir (j:=0) Z Z,?_⟩;refine⟨_,Z,_,Z,q,_,_,_,Z,Z,fR.of (s3 _ _ vm),ir (j:=i+1) Z xl,tw,_,_,_,Z,Z,kf wE,ir (j:=1) Z Z,?_⟩;have next:∀v,ji ns d x=.ok v->iF e ns ds r []=iF e ns (ds.drop (i+1)) (r.drop (i+1)) (us++v):=fun v hv=>by rw[mF];simp only[iF,hv]
    have bad:∀f,ji ns d x=.error f->mH AA H E f.kind f.place:=fun f hf=>hE f (Qk f (by rw[mF];simp only[iF,hf]))
    have Qo:H q1=none:=n1;cases d with
    |name=>
     refine⟨_,Z,Z,_,Z,?_⟩;refine fZ (ai Z) ?_;refine⟨_,Z,.inl ⟨Z,_,fR.of g3⟩,_,Z,_,Z,_,Z,x.1,x.2,a,ns,Z,s3.seq hA,yU,Cq.1,Cq.2,fun hn=> ?_,fun hn hc=> ?_,fun hn hc H4 s4=> ?_⟩
     ·exact(bad ⟨1,x.2⟩ (by unfold ji;simp only;rw[aw hn])).at s3
     ·exact(bad ⟨4,x.2⟩ (by unfold ji;simp only;rw[am (by rw[hn];simp),aw hc])).at s3
     ·refine⟨q1,_,_,Z,Z,s4 _ _ g3,iU (by rw[ac];omega),?_⟩;refine⟨some (.int ((i+1:Nat):Int)),some (mS .name),some (.str (ig x.1)),some (.int x.2),us++[.inl x.1],Z,(s3.trans s4).put Qo,?_,by omega,by simp;omega,next _ (by unfold ji;simp only;rw[am (by rw[hn];simp),am (by rw[hc];simp)])⟩;rw[fO,ao];rfl
    |num hi=>
     refine⟨_,Z,Z,_,Z,?_⟩;refine gn (ae (by intro z;cases z)) ?_;refine⟨_,Z,_,Z,.inl ⟨_,Z⟩,_,Z,?_⟩;refine fZ Z ?_;refine⟨_,Z,.inl ⟨Z,_,fR.of g3⟩,_,Z,_,Z,_,Z,x.1,x.2,hi,Z,Cq.1,Cq.2,fun hn=> ?_,fun n hn hc=> ?_,fun n hn hc H4 s4=> ?_⟩
     ·exact(bad ⟨1,x.2⟩ (by unfold ji;simp only;rw[hn])).at s3
     ·exact(bad ⟨2,x.2⟩ (by unfold ji;simp only;rw[hn];simp only;rw[aw hc])).at s3
     ·refine⟨q1,_,_,Z,Z,s4 _ _ g3,iU (by rw[ac];omega),?_⟩;refine⟨some (.int ((i+1:Nat):Int)),some (mS (.num hi)),some (.str (ig x.1)),some (.int x.2),us++[.inr n],Z,(s3.trans s4).put Qo,?_,by omega,by simp;omega,next _ (by unfold ji;simp only;rw[hn];simp only;rw[am (by omega)])⟩;rw[fO,ao];rfl
    |word kw=>
     refine⟨_,Z,Z,_,Z,?_⟩;refine gn (ae (NR kw dk)) ?_;refine⟨_,Z,_,Z,.inr ⟨_,Z⟩,_,Z,?_⟩;refine gn Z ?_;refine⟨_,Z,_,Z,Z,_,Z,?_⟩;have ew:(V.str (ig x.1)=V.str (gJ kw))↔x.1=kw:=by rw[V.str.injEq];exact yh dk
     by_cases c2:x.1=kw
     ·refine gn (by rw[Bool.not_eq_false'];exact ai (ew.mpr c2)) ?_;exact⟨some (.int ((i+1:Nat):Int)),some (mS (.word kw)),some (.str (ig x.1)),some (.int x.2),us,Z,s3,g3,by omega,by omega,by rw[next [] (by unfold ji;simp only;rw[aw c2]),bc]⟩
     ·refine fZ (by rw[cG];exact ae (fun z=>c2 (ew.mp z))) ?_;refine⟨_,Z,_,_,Z,?_⟩;exact(bad ⟨1,x.2⟩ (by unfold ji;simp only;rw[am c2])).go s3
  ·rintro σ H2 ⟨v6,v7,v8,v9,us,rfl,s2,g2,Ql,Qm,mF⟩;rw[ac] at Ql Qm mF;rw[eu] at mF;have gh:iF e ns ds r []=.ok us:=by rw[mF];cases r.drop ds.length<;>rfl
   have w6:=(AF e ns ds r [] us gh).2;have IA:iN K H2 (mM AA k) (ds.map mS):=kt.sq
   have fin:(¬(qy k=true/\numOf us[us.length-2]? <numOf us[us.length-1]?))->
    jR (uP (sE (kz (kX fun i j=>V.bl (decide (j<i))) (nZ (fun xs H Q=>∃p ys,xs=[V.ref p]/\(fR K H p ys\/iN K H p ys)/\Q (V.int (ys.length:Nat)) H) (i7 (iO 0) jw)) (kz (kX fun i j=>V.int (i+j)) (nZ (fun xs H Q=>∃p ys,xs=[V.ref p]/\(fR K H p ys\/iN K H p ys)/\Q (V.int (ys.length:Nat)) H) (i7 (iO 4) jw)) (tC (V.int 1)))))
     (GM AA.m8 E (i7 (tC (V.int 1)) (i7 (kz (wy K) (kz (wx K) (iO 0) (kz (kX fun i j=>V.int (i+j)) (nZ (fun xs H Q=>∃p ys,xs=[V.ref p]/\(fR K H p ys\/iN K H p ys)/\Q (V.int (ys.length:Nat)) H) (i7 (iO 4) jw)) (tC (V.int 1)))) (tC (V.int 1))) jw))) uH) (ww (iO 5)) ⟨fun _ H'=>Q .gS H',Q,fun _ _=>True,fun _ _=>True⟩
     [some (.ref q),some (.int e),some (.ref a),some (.str (ig w0.1)),some (.ref (mM AA k)),some (.ref q1),v6,v7,v8,v9] H2:=by
    intro tz;refine⟨_,Z,q,_,Z,.inl (fR.of (s2 _ _ vm)),_,Z,mM AA k,_,Z,.inr IA,_,_,Z,Z,_,_,Z,Z,_,Z,?_⟩;rw[ac,ac,wl]
    by_cases c1:ds.length<r.length
    ·refine fZ (ai (by omega)) ?_;have px:r[ds.length]? =some r[ds.length]:=ak c1;generalize Qn:r[ds.length]=x at px;obtain⟨tw,xl,wE⟩:=Br H2 (ds.length+1) x s2 (by simpa using px);refine⟨_,Z,_,Z,mM AA k,_,Z,.inr IA,_,_,Z,Z,q,_,_,_,Z,Z,fR.of (s2 _ _ vm),ir (j:=ds.length+1) (by rw[ac];omega) xl,tw,_,_,_,Z,Z,kf wE,ir (j:=1) Z Z,_,_,Z,?_⟩;refine(hE ⟨1,x.2⟩ ?_).go s2;unfold jm;rw[gh];simp only;rw[am tz,px]
    ·refine gn (ae (by omega)) ?_;refine⟨_,Z,?_⟩;refine hq us ?_ H2 q1 s2 n1 g2;unfold jm;rw[gh];simp only;rw[am tz,bA (by omega)]
   have eo:[V.str "channel",V.str "buffer"]=([txt "channel",txt "buffer"].map fun k=>V.str (gJ k)):=by simp only[aB,cg,<-jq]
   have ko:=T.Xk;rw[eo] at ko;refine⟨_,Z,AA.Fj,_,Z,.inr ko.sq,Z,Aq _,_,Z,?_⟩;show(if oY (.str (ig w0.1)) ([txt "channel",txt "buffer"].map fun k=>V.str (gJ k))=true then _ else _);rw[yc w0.1 [txt "channel",txt "buffer"] (by decide)]
   have ec:[txt "channel",txt "buffer"].contains w0.1=qy k:=by
    rw[E3 hk];cases k<;>decide
   rw[ec];cases IB:qy k with
   |false=>
    refine gn Z ?_;refine gn Z ?_;exact fin (by rw[IB];simp)
   |true=>
    refine fZ Z ?_;obtain⟨pre,m,n,tF⟩:=YC e ns k IB r us (by rw[Qj];exact gh);have ul:us.length=pre.length+2:=by rw[tF];simp
    have e1:us[us.length-1]? =some (.inr n):=by rw[ul,tF];simp
    have e2:us[us.length-2]? =some (.inr m):=by rw[ul,tF];simp
    have a1:mn (us.map kZ) (-1)=some (V.int n):=vY (k:=1) (by decide) (by rw[ac];omega) (by rw[ac,au,e1];rfl);have a2:mn (us.map kZ) (-2)=some (V.int m):=vY (k:=2) (by decide) (by rw[ac];omega) (by rw[ac,au,e2];rfl);refine⟨_,Z,_,Z,q1,_,_,_,Z,Z,fR.of g2,a1,_,Z,_,Z,q1,_,_,_,Z,Z,fR.of g2,a2,_,_,Z,Z,_,Z,?_⟩;have en:(numOf us[us.length-2]? <numOf us[us.length-1]?)↔m<n:=by rw[e1,e2];rfl
    by_cases c3:m<n
    ·refine fZ (ai (by omega)) ?_;have px:r[ds.length-1]? =some (r[ds.length-1]'(by omega)):=ak (by omega);generalize Qn:r[ds.length-1]'(by omega)=x at px;obtain⟨tw,xl,wE⟩:=Br H2 ds.length x s2 (by rw[show ds.length=(ds.length-1)+1 by omega];simpa using px);refine⟨_,Z,_,Z,mM AA k,_,Z,.inr IA,q,_,_,_,Z,Z,fR.of (s2 _ _ vm),ir (j:=ds.length) (by rw[ac]) xl,tw,_,_,_,Z,Z,kf wE,ir (j:=1) Z Z,_,_,Z,?_⟩;refine(hE ⟨6,x.2⟩ ?_).go s2;unfold jm;rw[gh];simp only;rw[aw ⟨IB,en.mpr c3⟩,px];rfl
    ·refine gn (ae (by omega)) ?_;exact fin (fun z=>c3 (en.mp z.2))
end
end FE
namespace FE
open PySem PySem.Spec PyProof.Rows L2
open Vbkdaa (Book Channel ahead behind depth rate high low delayOf gapOf isHigh signal busyNow encoded bitsOf keptOf frameBits width signs)
def XI(AA:gu):Sp:=fun vs H Q _=>∃(L:gM) (b:Book) (m:RS) (t i:Nat),vs=[.ref L.r,.int t,.int i]/\ij AA H L b m/\lP b m/\i<b.channels.length/\∀H',fQ H H'->Q (.bl (m9 b m.highs t i)) H'
def YD(AA:gu):Sp:=fun vs H Q _=>∃(L:gM) (b:Book) (m:RS) (t:Nat),vs=[.ref L.r,.int t]/\ij AA H L b m/\lP b m/\t<m.samples.length/\∀H' p,fQ H H'->H p=none->H' p=some (.lst ((lA b m.highs m.samples t).map oV))->Q (.ref p) H'
section
variable {P:Program} {w:World} {K:PySem.W.Frag} {mg:Str->Option Value} {base:Heap} {AA:gu}
theorem RT:gP ["self","crossing","place","first","end","highs"] ["self","crossing","place"] (gL (iZ (fX 35) 11)):=gX (by decide+kernel)
theorem JD(T:Tx P w K mg AA):gK P w K mg base gT 1 AA.De AA.Df ["self","crossing","place"] (XI AA):=by
 have SC:=RT;refine T.R1.ok SC (fun vs H Q E h=> ?_) (fun gy A outer s H vs Q E hr h=> ?_)
 ·obtain⟨L,b,m,t,i,rfl,_⟩:=h;rfl
 ·obtain⟨L,b,m,t,i,rfl,hR,hF,hi,hq⟩:=h
  refine⟨_,(fS (gj (i:=3) SC.nd Z (Or.inl Z) (gU (r6 Z) (by rfl) T.max fB (fN fW (fN (gA jK (pv 1) (gc (gc (pv 0) Z) Z)) fP))))
   (fS (gj (i:=4) SC.nd Z (Or.inl Z) (gA jg (gA jg (pv 1) (gc (gc (pv 0) Z) Z)) fW))
   (fV (gC (gU (Zn Z) (by rfl) T.any boot_any (fN (mf (own:=[("highs",5)]) Z SC.nd (ma (oB (r:=Hi K) oF (show PE _ _ (yu K _ _) from gc (pv 0) Z) (kn (pv 3)) (kn (pv 4)))) (lC (by kernel_rfl)) (fun s H C cl fp=>(iI (i:=5) SC.nd Z (Or.inl Z) (.inr Z))) (fun s H C cl fp=>md) (fun s H C cl fp=>(hV (r:=wx K) jb (pv 5) (pv 2) (fun _ _=>rfl)))) fP)))))),?_⟩
  refine⟨_,Z,_,Z,L.r,_,L.dx,_,_,Z,hR.ins,T.gH,T.ly,Z,L.S.s,_,L.S.dx,_,_,Z,hR.set.ins,T.im,T.Dk,Z,_,_,Z,Z,_,_,Z,?_⟩;refine⟨_,Z,_,Z,L.r,_,L.dx,_,_,Z,hR.ins,T.gH,T.ly,Z,L.S.s,_,L.S.dx,_,_,Z,hR.set.ins,T.im,T.tZ,Z,_,_,Z,Z,_,_,Z,Z,?_⟩;have e1:(if (t:Int)-(behind b:Int)>0 then(t:Int)-(behind b:Int) else 0)=((t-behind b:Nat):Int):=by split<;>omega
  have e2:(t:Int)+(ahead b:Int)+1=((t+ahead b+1:Nat):Int):=by omega
  generalize hc:(m.highs.take (t+ahead b+1)).drop (t-behind b)=wF;have By:((m.highs.drop (t-behind b)).take (t+ahead b+1-(t-behind b)))=wF:=by rw[<-hc,List.drop_take]
  refine⟨_,Z,L.r,_,L.dx,_,_,Z,hR.ins,T.gH,T.t5,Z,_,Z,_,Z,_,Z,_,Z,L.lh,_,Z,fR.of hR.i0,fun q1 n1=> ?_⟩;have e3:jZ (L.gD.map V.ref) (some (if (t:Int)-(behind b:Int)>0 then(t:Int)-(behind b:Int) else 0)) (some ((t:Int)+(ahead b:Int)+1))=((L.gD.drop (t-behind b)).take (t+ahead b+1-(t-behind b))).map V.ref:=by rw[e1,e2,su,<-cq,<-b9]
  rw[e3];generalize hA:(L.gD.drop (t-behind b)).take (t+ahead b+1-(t-behind b))=as;have abC:as.length=wF.length:=by rw[<-hA,<-By,aD,aD,aW,aW,hR.gD.1]
  have abD:∀(j:Nat) (x:Addr),as[j]? =some x->∃h,wF[j]? =some h/\H x=some (.lst (h.map V.bl))/\h.length=b.channels.length:=fun j x hx=>by
   have hj:j<as.length:=(ap.mp hx).1;have pz:j<t+ahead b+1-(t-behind b):=by rw[<-hA,aD] at hj;omega
   rw[<-hA,dq pz,cU] at hx;obtain⟨h,h1,h2⟩:=hR.gD.get hx;refine⟨h,?_,h2,hF.hr _ (aS h1)⟩;rw[<-By,dq pz,cU];exact h1
  have alt:as.length<=1000:=by rw[<-hA,aD,aW];have:=hF.h;have:=hR.gD.1;omega
  have s1:fQ H (fM H q1 (.lst (as.map V.ref))):=fQ.new n1;generalize Cc:fM H q1 (.lst (as.map V.ref))=H1 at s1;have g1:H1 q1=some (.lst (as.map V.ref)):=by rw[<-Cc];exact fO
  refine⟨q1,Z,⟨_,fR.of g1⟩,fun q2 n2=> ?_⟩;have nq:q1≠q2:=gf g1 n2;refine sj (K:=K) (a:=q1) (xs:=as.map V.ref) (fun j H'=>H'=fM H1 q2 (.lst (((wF.take j).map fun h=>h.getD i false).map V.bl))) Z (fun j H' _ e=>by rw[e];exact fR.of (by rw[fT nq];exact g1)) ?_ ?_
  ·rintro j x H' hx rfl;rw[au] at hx;cases hy:as[j]? with
   |none=>rw[hy] at hx;cases hx
   |some y=>
    rw[hy] at hx;have ex:x=V.ref y:=(af hx).symm;subst ex;obtain⟨h,h1,h2,h3⟩:=abD j y hy;have rL:(fM H1 q2 (.lst (((wF.take j).map fun h=>h.getD i false).map V.bl))) y=some (.lst (h.map V.bl)):=by rw[fT (gf (s1 _ _ h2) n2)];exact s1 _ _ h2
    have mI:i<h.length:=by omega
    refine⟨Z,?_⟩;refine⟨_,Z,_,Z,y,_,_,_,Z,Z,fR.of rL,ir (j:=i) Z (by rw[au,ak mI];rfl),_,fO,?_,?_⟩
    ·rw[ac,ac,aD];exact iU (by omega)
    ·rw[jn,bC,h1,ao,ao]
     congr 3
     show[V.bl h[i]]=[V.bl (h.getD i false)];rw[aE,ak mI];rfl
  ·rintro H' rfl;rw[ac,abC,aT];refine⟨q2,_,Z,fR.of fO,?_⟩
   have e4:(wF.map fun h=>h.getD i false).any id=m9 b m.highs t i:=by
    unfold m9;rw[hc,fg];rfl
   rw[e4];exact hq _ (s1.more n2)
theorem Ra:gP ["self","crossing","samples","place","sample"] ["self","crossing"] (gL (iZ (fX 35) 10)):=gX (by decide+kernel)
theorem Rb(T:Tx P w K mg AA):gK P w K mg base gT 2 AA.CP AA.CQ ["self","crossing"] (YD AA):=by
 have Dg:=JD (base:=base) T;have SC:=Ra;refine T.Rc.ok SC (fun vs H Q E h=> ?_) (fun gy A outer s H vs Q E hr h=> ?_)
 ·obtain⟨L,b,m,t,rfl,_⟩:=h;rfl
 ·obtain⟨L,b,m,t,rfl,hR,hF,ht,hq⟩:=h
  refine⟨_,(fS (gj (i:=2) SC.nd Z (Or.inl Z) (hV jb (gc (pv 0) Z) (pv 1) (fun _ _=>rfl)))
   (fV (gC (mf (own:=[("place",3),("sample",4)]) Z SC.nd (yf Z T.enumerate (fN (pv 2) fP)) (lC (by kernel_rfl)) (fun s H C cl fp=>(show PG _ _ (OQ K 2 _) from rb Z (lR (iI (i:=3) SC.nd Z (Or.inl Z) (.inr Z)) (lR (iI (i:=4) SC.nd Z (Or.inl Z) (.inr Z)) qX)))) (fun s H C cl fp=>md) (fun s H C cl fp=>(ya (lT (oE (pv 0) T.gH T.JV Dg (hr.mono (by decide)) T.JL .nil gG (fN (pv 1) (fN (pv 3) fP)))) (pv 4) uC)))))),?_⟩
  have hs:m.samples[t]? =some m.samples[t]:=ak ht;generalize hS:m.samples[t]=sl at hs;obtain⟨a,ha,Qp⟩:=hR.rows.addr hs;have pq:sl.length=b.channels.length:=hF.sr _ (aS hs);have iC:=hR.set.iC;refine⟨_,Z,L.r,_,L.dx,_,_,Z,hR.ins,T.gH,T.Dj,Z,_,Z,L.ls,_,_,_,Z,Z,fR.of hR.jQ,ir (j:=t) Z (by rw[au,ha];rfl),?_⟩
  have vd:∀j y,sl[j]? =some y->(lA b m.highs m.samples t).take (j+1)=(lA b m.highs m.samples t).take j++[if m9 b m.highs t j=true then some y else none]:=fun j y hy=>by
   rw[bC]
   congr 1
   unfold lA;rw[aE,hs];simp only[Option.getD_some];rw[au,List.getElem?_zipIdx,hy];simp
  have Qq:(lA b m.highs m.samples t).length=sl.length:=by unfold lA;rw[aE,hs];simp
  refine⟨_,Z,a,_,Z,fR.of Qp,fun q1 n1=> ?_⟩;refine Yw (K:=K) (a:=a) (xs:=sl.map nV) (fun j H'=>fQ H H'/\H' q1=some (.lst (((lA b m.highs m.samples t).take j).map oV))) ⟨fQ.new n1,fO⟩ (fun j H' _ e=>fR.of (e.1 _ _ Qp)) ?_ ?_
  ·rintro j x p H2 hx ⟨s2,g2⟩ np;rw[au] at hx;cases hy:sl[j]? with
   |none=>rw[hy] at hx;cases hx
   |some y=>
    rw[hy] at hx;have ex:x=nV y:=(af hx).symm;subst ex;have hj:j<sl.length:=(ap.mp hy).1;have s3:fQ H (fM H2 p (.tup [.int (j:Nat),nV y])):=s2.more np;have nq:q1≠p:=gf g2 np;refine⟨p,_,Z,kf fO,Z,_,_,Z,_,_,Z,Z,Z,?_⟩;have kB:=hR.same s3;refine⟨_,Z,L.r,L.dx,_,Z,kB.ins,Z,_,Z,_,Z,L,b,m,t,j,Z,kB,hF,by omega,fun H4 s4=>⟨_,Z,?_⟩⟩;have g4:H4 q1=some (.lst (((lA b m.highs m.samples t).take j).map oV)):=s4 _ _ (by rw[fT nq];exact g2);have hz:(((lA b m.highs m.samples t).take j).map oV).length<sizeLine:=by rw[ac,aD];exact iU (by omega)
    rw[vd j y hy];cases c:m9 b m.highs t j with
    |true=>
     refine fZ Z ⟨_,Z,_,g4,hz,(s3.trans s4).put n1,?_⟩;rw[fO,ao];rfl
    |false=>
     refine gn Z ⟨_,g4,hz,(s3.trans s4).put n1,?_⟩;rw[fO,ao];rfl
  ·rintro H2 ⟨s2,g2⟩;rw[ac,aV (by omega)] at g2;exact hq H2 q1 s2 n1 g2
end
theorem Gz{α β γ:Type}(f:α->β->γ):∀(l:List α) (l2:List β) (x:α) (y:β),l.length=l2.length->List.zipWith f l l2++[f x y]=List.zipWith f (l++[x]) (l2++[y])
 |[],[],x,y,_=>rfl
 |a::l,b::l2,x,y,h=>by
  simp only[bM,cP];rw[Gz f l l2 x y (by simpa using h)]
theorem MZ{α β:Type}(l:List α)(l2:List β)(x:α)(y:β)(h:l.length=l2.length):(l++[x]).zip (l2++[y])=l.zip l2++[(x,y)]:=(Gz Prod.mk l l2 x y h).symm
theorem XJ(fs:List (Nat×Bool×List Nat))(ts:List Addr)(t:Nat)(h:∀x∈fs,x.1≠t):i5 (List.zipWith (fun(x:Nat×Bool×List Nat) (a:Addr)=>((Sum.inl (x.1:Int):L2.Key),V.ref a)) fs ts) (Sum.inl (t:Int))=none:=by
 induction fs generalizing ts with
 |nil=>rfl
 |cons x r ih=>
  cases ts with
  |nil=>rfl
  |cons a r2=>
   rw[cP,uq (by
    intro z;have:=Sum.inl.inj z;exact h x (by simp) (by omega))]
   exact ih _ fun y hy=>h y (by simp[hy])
theorem ij.putN{AA:gu}{H:Hp}{L:gM}{b:Book}{m:RS}(h:ij AA H L b m)(g k:Nat)(hg:g<=m.iB.length):ij AA (fM H L.r (.ins AA.hJ L.dx (pj L g k))) L b {m with gone:=g,most:=k}:=by
 have hn:=h.nd;unfold gM.mut at hn;have o:gE [L.r] H (fM H L.r (.ins AA.hJ L.dx (pj L g k))):=gE.refl.put (by simp);have n2:∀a∈L.rows++L.gD++L.gO++L.S.fp,a∉ [L.r]:=fun a ha z=>h.sep a ha (by simp at z;simp[gM.mut,z])
 have n3:∀y∈ [L.r],∀xs,H y≠some (.tup xs):=fun y hy=>h.rj y (by simp at hy;simp[gM.mut,hy])
 exact{
  ins:=fO
  jQ:=by rw[fT (by intro z;rw[z] at hn;simp at hn)];exact h.jQ
  i0:=by rw[fT (by intro z;rw[z] at hn;simp at hn)];exact h.i0
  iW:=by rw[fT (by intro z;rw[z] at hn;simp at hn)];exact h.iW
  jf:=by rw[fT (by intro z;rw[z] at hn;simp at hn)];exact h.jf
  jG:=by rw[fT (by intro z;rw[z] at hn;simp at hn)];exact h.jG
  kM:=by rw[fT (by intro z;rw[z] at hn;simp at hn)];exact h.kM
  rows:=h.rows.keep o fun a ha=>n2 a (by simp[ha])
  gD:=h.gD.keep o fun a ha=>n2 a (by simp[ha])
  gZ:=⟨h.gZ.1,fun i a x h1 h2=>kQ o n3 (h.gZ.2 i a x h1 h2)⟩
  gO:=h.gO.keep o fun a ha=>n2 a (by simp[ha])
  set:=h.set.keep o (fun a ha=>n2 a (by simp[ha])) n3
  nd:=h.nd
  sep:=h.sep
  kj:=hg}
theorem ij.abE{AA:gu}{H:Hp}{L:gM}{b:Book}{m:RS}(h:ij AA H L b m)(a:Addr)(s:List Nat)(ha:H a=some (.lst (s.map nV)))(na:a∉L.mut):ij AA (fM H L.ls (.lst (L.rows.map V.ref++[V.ref a]))) {L with rows:=L.rows++[a]} b {m with samples:=m.samples++[s]}:=by
 have hn:=h.nd;unfold gM.mut at hn;have o:gE [L.ls] H (fM H L.ls (.lst (L.rows.map V.ref++[V.ref a]))):=gE.refl.put (by simp);have n2:∀a∈L.rows++L.gD++L.gO++L.S.fp,a∉ [L.ls]:=fun a ha z=>h.sep a ha (by simp at z;simp[gM.mut,z])
 have n3:∀y∈ [L.ls],∀xs,H y≠some (.tup xs):=fun y hy=>h.rj y (by simp at hy;simp[gM.mut,hy])
 exact{
  ins:=by rw[fT (by intro z;rw[z] at hn;simp at hn)];exact h.ins
  jQ:=by rw[fO,ao];rfl
  i0:=by rw[fT (by intro z;rw[z] at hn;simp at hn)];exact h.i0
  iW:=by rw[fT (by intro z;rw[z] at hn;simp at hn)];exact h.iW
  jf:=by rw[fT (by intro z;rw[z] at hn;simp at hn)];exact h.jf
  jG:=by rw[fT (by intro z;rw[z] at hn;simp at hn)];exact h.jG
  kM:=by rw[fT (by intro z;rw[z] at hn;simp at hn)];exact h.kM
  rows:=(h.rows.keep o fun a ha=>n2 a (by simp[ha])).snoc (by rw[fT (fun z=>na (by rw[z];simp[gM.mut]))];exact ha)
  gD:=h.gD.keep o fun a ha=>n2 a (by simp[ha])
  gZ:=⟨h.gZ.1,fun i a x h1 h2=>kQ o n3 (h.gZ.2 i a x h1 h2)⟩
  gO:=h.gO.keep o fun a ha=>n2 a (by simp[ha])
  set:=h.set.keep o (fun a ha=>n2 a (by simp[ha])) n3
  nd:=h.nd
  sep:=by intro x hx;simp only[aG,az,bh,cN] at hx;rcases hx with((((hx|rfl)|hx)|hx)|hx);exact h.sep x (by simp[hx]);exact na;all_goals exact h.sep x (by simp[hx])
  kj:=h.kj}
theorem ij.abF{AA:gu}{H:Hp}{L:gM}{b:Book}{m:RS}(h:ij AA H L b m)(a:Addr)(s:List Bool)(ha:H a=some (.lst (s.map V.bl)))(na:a∉L.mut):ij AA (fM H L.lh (.lst (L.gD.map V.ref++[V.ref a]))) {L with gD:=L.gD++[a]} b {m with highs:=m.highs++[s]}:=by
 have hn:=h.nd;unfold gM.mut at hn;have o:gE [L.lh] H (fM H L.lh (.lst (L.gD.map V.ref++[V.ref a]))):=gE.refl.put (by simp);have n2:∀a∈L.rows++L.gD++L.gO++L.S.fp,a∉ [L.lh]:=fun a ha z=>h.sep a ha (by simp at z;simp[gM.mut,z])
 have n3:∀y∈ [L.lh],∀xs,H y≠some (.tup xs):=fun y hy=>h.rj y (by simp at hy;simp[gM.mut,hy])
 exact{
  ins:=by rw[fT (by intro z;rw[z] at hn;simp at hn)];exact h.ins
  jQ:=by rw[fT (by intro z;rw[z] at hn;simp at hn)];exact h.jQ
  i0:=by rw[fO,ao];rfl
  iW:=by rw[fT (by intro z;rw[z] at hn;simp at hn)];exact h.iW
  jf:=by rw[fT (by intro z;rw[z] at hn;simp at hn)];exact h.jf
  jG:=by rw[fT (by intro z;rw[z] at hn;simp at hn)];exact h.jG
  kM:=by rw[fT (by intro z;rw[z] at hn;simp at hn)];exact h.kM
  rows:=h.rows.keep o fun a ha=>n2 a (by simp[ha])
  gD:=(h.gD.keep o fun a ha=>n2 a (by simp[ha])).snoc (by rw[fT (fun z=>na (by rw[z];simp[gM.mut]))];exact ha)
  gZ:=⟨h.gZ.1,fun i a x h1 h2=>kQ o n3 (h.gZ.2 i a x h1 h2)⟩
  gO:=h.gO.keep o fun a ha=>n2 a (by simp[ha])
  set:=h.set.keep o (fun a ha=>n2 a (by simp[ha])) n3
  nd:=h.nd
  sep:=by intro x hx;simp only[aG,az,bh,cN] at hx;rcases hx with(((hx|(hx|rfl))|hx)|hx);exact h.sep x (by simp[hx]);exact h.sep x (by simp[hx]);exact na;all_goals exact h.sep x (by simp[hx])
  kj:=h.kj}
theorem ij.jB{AA:gu}{H:Hp}{L:gM}{b:Book}{m:RS}(h:ij AA H L b m)(k:Nat):ij AA (fM H L.lf (.lst (m.fates.map nV++[nV k]))) L b {m with fates:=m.fates++[k]}:=by
 have hn:=h.nd;unfold gM.mut at hn;have o:gE [L.lf] H (fM H L.lf (.lst (m.fates.map nV++[nV k]))):=gE.refl.put (by simp);have n2:∀a∈L.rows++L.gD++L.gO++L.S.fp,a∉ [L.lf]:=fun a ha z=>h.sep a ha (by simp at z;simp[gM.mut,z])
 have n3:∀y∈ [L.lf],∀xs,H y≠some (.tup xs):=fun y hy=>h.rj y (by simp at hy;simp[gM.mut,hy])
 exact{
  ins:=by rw[fT (by intro z;rw[z] at hn;simp at hn)];exact h.ins
  jQ:=by rw[fT (by intro z;rw[z] at hn;simp at hn)];exact h.jQ
  i0:=by rw[fT (by intro z;rw[z] at hn;simp at hn)];exact h.i0
  iW:=by rw[fO,ao];rfl
  jf:=by rw[fT (by intro z;rw[z] at hn;simp at hn)];exact h.jf
  jG:=by rw[fT (by intro z;rw[z] at hn;simp at hn)];exact h.jG
  kM:=by rw[fT (by intro z;rw[z] at hn;simp at hn)];exact h.kM
  rows:=h.rows.keep o fun a ha=>n2 a (by simp[ha])
  gD:=h.gD.keep o fun a ha=>n2 a (by simp[ha])
  gZ:=⟨h.gZ.1,fun i a x h1 h2=>kQ o n3 (h.gZ.2 i a x h1 h2)⟩
  gO:=h.gO.keep o fun a ha=>n2 a (by simp[ha])
  set:=h.set.keep o (fun a ha=>n2 a (by simp[ha])) n3
  nd:=h.nd
  sep:=h.sep
  kj:=h.kj}
theorem ij.abG{AA:gu}{H:Hp}{L:gM}{b:Book}{m:RS}(h:ij AA H L b m)(k:Bool):ij AA (fM H L.lb (.lst (m.gB.map bV++[bV k]))) L b {m with gB:=m.gB++[k]}:=by
 have hn:=h.nd;unfold gM.mut at hn;have o:gE [L.lb] H (fM H L.lb (.lst (m.gB.map bV++[bV k]))):=gE.refl.put (by simp);have n2:∀a∈L.rows++L.gD++L.gO++L.S.fp,a∉ [L.lb]:=fun a ha z=>h.sep a ha (by simp at z;simp[gM.mut,z])
 have n3:∀y∈ [L.lb],∀xs,H y≠some (.tup xs):=fun y hy=>h.rj y (by simp at hy;simp[gM.mut,hy])
 exact{
  ins:=by rw[fT (by intro z;rw[z] at hn;simp at hn)];exact h.ins
  jQ:=by rw[fT (by intro z;rw[z] at hn;simp at hn)];exact h.jQ
  i0:=by rw[fT (by intro z;rw[z] at hn;simp at hn)];exact h.i0
  iW:=by rw[fT (by intro z;rw[z] at hn;simp at hn)];exact h.iW
  jf:=by rw[fO,ao];rfl
  jG:=by rw[fT (by intro z;rw[z] at hn;simp at hn)];exact h.jG
  kM:=by rw[fT (by intro z;rw[z] at hn;simp at hn)];exact h.kM
  rows:=h.rows.keep o fun a ha=>n2 a (by simp[ha])
  gD:=h.gD.keep o fun a ha=>n2 a (by simp[ha])
  gZ:=⟨h.gZ.1,fun i a x h1 h2=>kQ o n3 (h.gZ.2 i a x h1 h2)⟩
  gO:=h.gO.keep o fun a ha=>n2 a (by simp[ha])
  set:=h.set.keep o (fun a ha=>n2 a (by simp[ha])) n3
  nd:=h.nd
  sep:=h.sep
  kj:=h.kj}
theorem ij.abH{AA:gu}{H:Hp}{L:gM}{b:Book}{m:RS}(h:ij AA H L b m)(y:List Nat):ij AA (fM H L.lq (.lst (m.iB.map nV++y.map nV))) L b {m with iB:=m.iB++y}:=by
 have hn:=h.nd;unfold gM.mut at hn;have o:gE [L.lq] H (fM H L.lq (.lst (m.iB.map nV++y.map nV))):=gE.refl.put (by simp);have n2:∀a∈L.rows++L.gD++L.gO++L.S.fp,a∉ [L.lq]:=fun a ha z=>h.sep a ha (by simp at z;simp[gM.mut,z])
 have n3:∀y∈ [L.lq],∀xs,H y≠some (.tup xs):=fun y hy=>h.rj y (by simp at hy;simp[gM.mut,hy])
 exact{
  ins:=by rw[fT (by intro z;rw[z] at hn;simp at hn)];exact h.ins
  jQ:=by rw[fT (by intro z;rw[z] at hn;simp at hn)];exact h.jQ
  i0:=by rw[fT (by intro z;rw[z] at hn;simp at hn)];exact h.i0
  iW:=by rw[fT (by intro z;rw[z] at hn;simp at hn)];exact h.iW
  jf:=by rw[fT (by intro z;rw[z] at hn;simp at hn)];exact h.jf
  jG:=by rw[fT (by intro z;rw[z] at hn;simp at hn)];exact h.jG
  kM:=by rw[fO,ao]
  rows:=h.rows.keep o fun a ha=>n2 a (by simp[ha])
  gD:=h.gD.keep o fun a ha=>n2 a (by simp[ha])
  gZ:=⟨h.gZ.1,fun i a x h1 h2=>kQ o n3 (h.gZ.2 i a x h1 h2)⟩
  gO:=h.gO.keep o fun a ha=>n2 a (by simp[ha])
  set:=h.set.keep o (fun a ha=>n2 a (by simp[ha])) n3
  nd:=h.nd
  sep:=h.sep
  kj:=by have:=h.kj;simp only[ag];omega}
theorem ij.putD{AA:gu}{H:Hp}{L:gM}{b:Book}{m:RS}(h:ij AA H L b m)(t:Nat)(r:Bool)(y:List Nat)(q p:Addr)(hp:H p=some (.lst (y.map nV)))(hq:H q=some (.tup [bV r,.ref p]))(np:p∉L.mut)(ht:∀x∈m.frames,x.1≠t):ij AA (fM H L.ld (.dK (lJ (List.zipWith (fun(x:Nat×Bool×List Nat) (a:Addr)=>(Sum.inl (x.1:Int),V.ref a)) m.frames L.gZ) (Sum.inl (t:Int)) (V.ref q)))) {L with gZ:=L.gZ++[q],gO:=L.gO++[p]} b {m with frames:=m.frames++[(t,r,y)]}:=by
 have hn:=h.nd;unfold gM.mut at hn;have o:gE [L.ld] H (fM H L.ld (.dK (lJ (List.zipWith (fun(x:Nat×Bool×List Nat) (a:Addr)=>(Sum.inl (x.1:Int),V.ref a)) m.frames L.gZ) (Sum.inl (t:Int)) (V.ref q)))):=gE.refl.put (by simp);have n2:∀a∈L.rows++L.gD++L.gO++L.S.fp,a∉ [L.ld]:=fun a ha z=>h.sep a ha (by simp at z;simp[gM.mut,z])
 have n3:∀y∈ [L.ld],∀xs,H y≠some (.tup xs):=fun y hy=>h.rj y (by simp at hy;simp[gM.mut,hy])
 have hl:m.frames.length=L.gZ.length:=by rw[h.gZ.1,cK,h.gO.1];omega
 have hv:i5 (List.zipWith (fun(x:Nat×Bool×List Nat) (a:Addr)=>((Sum.inl (x.1:Int):L2.Key),V.ref a)) m.frames L.gZ) (Sum.inl (t:Int))=none:=XJ _ _ _ ht
 exact{
  ins:=by rw[fT (by intro z;rw[z] at hn;simp at hn)];exact h.ins
  jQ:=by rw[fT (by intro z;rw[z] at hn;simp at hn)];exact h.jQ
  i0:=by rw[fT (by intro z;rw[z] at hn;simp at hn)];exact h.i0
  iW:=by rw[fT (by intro z;rw[z] at hn;simp at hn)];exact h.iW
  jf:=by rw[fT (by intro z;rw[z] at hn;simp at hn)];exact h.jf
  jG:=by rw[fO,MM _ hv];exact congrArg (fun z=>some (HO.dK z)) (Gz (fun(x:Nat×Bool×List Nat) (a:Addr)=>((Sum.inl (x.1:Int):L2.Key),V.ref a)) m.frames L.gZ (t,r,y) q hl)
  kM:=by rw[fT (by intro z;rw[z] at hn;simp at hn)];exact h.kM
  rows:=h.rows.keep o fun a ha=>n2 a (by simp[ha])
  gD:=h.gD.keep o fun a ha=>n2 a (by simp[ha])
  gZ:=by
   rw[MZ _ _ _ _ (h.gO.1.symm)];exact iG.snoc ⟨h.gZ.1,fun i a x h1 h2=>kQ o n3 (h.gZ.2 i a x h1 h2)⟩ (by rw[fT (pL hq h.jG (by intro z;cases z))];exact hq)
  gO:=(h.gO.keep o fun a ha=>n2 a (by simp[ha])).snoc (by rw[fT (fun z=>np (by rw[z];simp[gM.mut]))];exact hp)
  set:=h.set.keep o (fun a ha=>n2 a (by simp[ha])) n3
  nd:=h.nd
  sep:=by intro x hx;simp only[aG,az,bh,cN] at hx;rcases hx with(((hx|hx)|(hx|rfl))|hx);exact h.sep x (by simp[hx]);exact h.sep x (by simp[hx]);exact h.sep x (by simp[hx]);exact np;exact h.sep x (by simp[hx])
  kj:=h.kj}
theorem XM(w:Nat)(l:List Nat):(l.flatMap (bitsOf w)).length=l.length*w:=by
 induction l with
 |nil=>simp
 |cons x r ih=>rw[br,ag,ih,jX,aj,d9];omega
theorem YE(t:Nat)(ss:List (Option Nat))(h8:ss.length<=8)(hb:∀n,some n∈ss->n<4096):(frameBits ⟨t,ss⟩).length<=120:=by
 have hk:(keptOf ⟨t,ss⟩).length<=8:=a8 (cf _ _) h8
 have hw:width (keptOf ⟨t,ss⟩)<=12:=by
  have kl:∀x∈keptOf ⟨t,ss⟩,x<4096:=fun x hx=>by
   obtain⟨y,hy,rfl⟩:=ci.mp hx;exact hb x hy
  rw[FY _ kl];exact AT (wk _ 4096 kl (by decide))
 unfold frameBits;simp only[ag,jX,ac,XM];have:(keptOf ⟨t,ss⟩).length*width (keptOf ⟨t,ss⟩)<=8*12:=Nat.mul_le_mul hk hw;omega
theorem AX(t:Nat)(ss:List (Option Nat))(h8:ss.length<=8)(hb:∀n,some n∈ss->n<4096):(encoded ⟨t,ss⟩).length<=50:=by
 have h:=YE t ss h8 hb;have h1:=vR (frameBits ⟨t,ss⟩).length;have h2:jI (frameBits ⟨t,ss⟩).length<7:=by unfold jI;omega
 unfold encoded Vbkdaa.frameSigns Vbkdaa.checked;simp only[aj,ag,Fg,aZ];omega
def jz(b:Book)(m:RS)(c:Int):RS:=
 if 0<=c/\m.fates.getD c.toNat 0=1 then
  {m with iB:=if ie m+(mC b m.highs m.samples c.toNat).length<=depth b then m.iB++mC b m.highs m.samples c.toNat else m.iB,
          frames:=m.frames++[(c.toNat,decide (ie m+(mC b m.highs m.samples c.toNat).length<=depth b),mC b m.highs m.samples c.toNat)]}
 else m
def j4(H:Hp)(lp new:List Addr):Prop:=∀x∈new,x∈lp\/H x=none
theorem j4.kG{H:Hp}{l:List Addr}:j4 H l l:=fun _ h=>.inl h
theorem j4.snoc{H:Hp}{l:List Addr}{p:Addr}(h:H p=none):j4 H l (l++[p]):=fun x hx=>(aG.mp hx).elim .inl fun z=>.inr (by rw[aq.mp z];exact h)
theorem ij.free{AA:gu}{H H':Hp}{L:gM}{b:Book}{m:RS}(h:ij AA H' L b m)(o:gE L.mut H H'){x:Addr}(hx:H' x=none):H x=none:=qo o (fun z=>by have:=h.lL x z;rw[hx] at this;cases this) hx
theorem j4.back{H H':Hp}{l l2 l3:List Addr}(h1:j4 H l l2)(h2:j4 H' l2 l3)(hf:∀x,H' x=none->H x=none):j4 H l l3:=fun x hx=>(h2 x hx).elim (h1 x) fun z=>.inr (hf x z)
def ZR(AA:gu):Sp:=fun vs H Q _=>∃(L:gM) (b:Book) (m:RS) (c:Int),vs=[.ref L.r,.int c]/\ij AA H L b m/\lP b m/\(0<=c->c.toNat<m.fates.length/\c.toNat<m.samples.length)/\(∀x∈m.frames,(x.1:Int)≠c)/\
 ∀(H':Hp) (ts fs:List Addr),j4 H L.gO fs->gE L.mut H H'->ij AA H' {L with gZ:=ts,gO:=fs} b (jz b m c)->Q .gS H'
theorem E4{b:Book}{m:RS}(hF:lP b m)(iC:b.channels.length<=8)(t:Nat)(ht:t<m.samples.length):(lA b m.highs m.samples t).length<=8/\∀n,some n∈lA b m.highs m.samples t->n<4096:=by
 have hs:m.samples[t]? =some m.samples[t]:=ak ht;have hm:=aS hs;unfold lA;rw[aE,hs];refine⟨by simp[hF.sr _ hm];exact iC,fun n hn=> ?_⟩;simp only[Option.getD_some,bi] at hn;obtain⟨x,hx,e⟩:=hn;split at e
 ·have:x.1=n:=af e;rw[<-this];exact hF.sn _ hm x.1 (List.fst_mem_of_mem_zipIdx hx)
 ·cases e
section
variable {P:Program} {w:World} {K:PySem.W.Frag} {mg:Str->Option Value} {base:Heap} {AA:gu}
theorem Rj:gP ["self","crossing","frame"] ["self","crossing"] (gL (iZ (fX 35) 9)):=gX (by decide+kernel)
theorem Rk(T:Tx P w K mg AA):gK P w K mg base gT 4 AA.CW AA.CY ["self","crossing"] (ZR AA):=by
 have xT:=Es (base:=base) T;have Re:=Rb (base:=base) T;have pE:=xG (base:=base) T;have SC:=Rj;refine T.Rq.ok SC (fun vs H Q E h=> ?_) (fun gy A outer s H vs Q E hr h=> ?_)
 ·obtain⟨L,b,m,c,rfl,_⟩:=h;rfl
 ·obtain⟨L,b,m,c,rfl,hR,hF,hc,yx,hq⟩:=h;have hu:=wg hr
  refine⟨_,(fS (gY (PW.pt (pM (io sD (pv 1) fW (ii _)) (qu (io rc (hV jb (gc (pv 0) Z) (pv 1) (fun _ _=>rfl)) (gz Z T.sI) (ii _)))))
   (fV X7)
   ia)
   (fS (gj (i:=2) SC.nd Z (Or.inl Z) (ic xT (hr.mono (by decide)) Z T.qm.mg T.qm.fn.kp T.qm.b .nil gG (fN (pv 1) (fN (oE (pv 0) T.gH T.Rr Re (hr.mono (by decide)) T.Ri .nil gG (fN (pv 1) fP)) fP))))
   (fV (gY (io ju (gA jg (l9 (pv 0) T.gH T.t4 pE (hr.mono (by decide)) T.tX .nil gG) (gU iL (by rfl) T.len aF (fN (pv 2) fP))) (gc (gc (pv 0) Z) Z) (ii _))
     (fS (iR (iT ax a0 a5 m6 (gc (pv 0) Z) (fN (pv 2) fP)))
     (fV (Gs hu (gc (pv 0) Z) (pv 1) (vW (fN (gz Z T.NH) (fN (pv 2) fP))) Z)))
     (fV (Gs hu (gc (pv 0) Z) (pv 1) (vW (fN (gz Z T.abv) (fN (pv 2) fP))) Z)))))),?_⟩
  have iC:=hR.set.iC;refine⟨_,Z,_,_,Z,Z,_,Z,?_⟩
  by_cases h0:0<=c
  ·refine gn (ae (by omega)) ?_;obtain⟨t,rfl⟩:=bB h0;obtain⟨IC,Cb⟩:=hc h0;simp only[a7] at IC Cb;refine⟨_,Z,L.r,_,L.dx,_,_,Z,hR.ins,T.gH,T.qi,Z,_,Z,L.lf,_,_,_,Z,Z,fR.of hR.iW,ir (j:=t) Z (by rw[au,ak IC];rfl),Z,_,Z,?_⟩;have eg:m.fates.getD t 0=m.fates[t]:=by rw[aE,ak IC];rfl
   by_cases ht:m.fates[t]=1
   ·refine gn (by rw[ht];rfl) ?_;obtain⟨k1,k2⟩:=E4 hF iC t Cb;refine⟨_,Z,_,Z,L.r,L.dx,_,Z,hR.ins,Z,_,Z,L,b,m,t,Z,hR,hF,Cb,fun H1 p1 s1 f1 g1=> ?_⟩;refine⟨t,p1,lA b m.highs m.samples t,Z,fR.of g1,k1,k2,fun H2 p2 s2 f2 g2=> ?_⟩;have ey:encoded ⟨t% 4096,lA b m.highs m.samples t⟩=mC b m.highs m.samples t:=rfl;rw[ey] at g2;generalize hy:mC b m.highs m.samples t=y at g2;have yl:y.length<=50:=by rw[<-hy];exact AX _ _ k1 k2
    have nF:fQ H H2:=s1.trans s2;have iS:=hR.same nF;have ID:H p2=none:=s1.free f2
    have np:p2∉L.mut:=fun z=>by
     have:=hR.lL p2 z;rw[ID] at this;cases this
    have em:jz b m (t:Int)={m with iB:=if ie m+y.length<=depth b then m.iB++y else m.iB,frames:=m.frames++[(t,decide (ie m+y.length<=depth b),y)]}:=by
     unfold jz;rw[aw ⟨by omega,by rw[a7,eg];exact ht⟩];simp only[a7,hy]
    rw[em] at hq;refine⟨_,Z,L.r,L.dx,_,Z,iS.ins,Z,L,b,m,Z,iS,hF,_,Z,p2,_,Z,.inl (fR.of g2),_,_,Z,Z,_,Z,L.r,_,L.dx,_,_,Z,iS.ins,T.gH,T.ly,Z,L.S.s,_,L.S.dx,_,_,Z,iS.set.ins,T.im,T.xJ,Z,_,_,Z,Z,_,Z,?_⟩;rw[ac];have Qr:∀x∈m.frames,x.1≠t:=fun x hx z=>yx x hx (by rw[z])
    have kl:(List.zipWith (fun(x:Nat×Bool×List Nat) (a:Addr)=>((Sum.inl (x.1:Int):L2.Key),V.ref a)) m.frames L.gZ).length<sizeLine:=by
     rw[fG];exact iU (a8 (Nat.min_le_left _ _) (a8 hF.fr (by decide)))
    by_cases hd:ie m+y.length<=depth b
    ·refine fZ (ai (by omega)) ?_;rw[aw hd,ai hd] at hq;refine⟨_,Z,L.r,_,L.dx,_,_,Z,iS.ins,T.gH,T.zM,Z,.inl ⟨Z,_,fR.of iS.kM⟩,_,Z,L.lq,p2,_,_,Z,Z,iS.kM,g2,fY (by have:=hF.q;have:=hF.f;simp only[ac];omega),?_⟩;have kB:=iS.abH y;have nq:p2≠L.lq:=fun z=>np (by rw[z];simp[gM.mut])
     refine⟨_,Z,(by show 2<=sizeLine;decide),fun q3 n3=> ?_⟩;have g3:(fM H2 L.lq (.lst (m.iB.map nV++y.map nV))) p2=some (.lst (y.map nV)):=by rw[fT nq];exact g2
     have lw:=kB.same (fQ.new (o:=.tup [V.int 1,V.ref p2]) n3);refine⟨_,Z,L.r,_,L.dx,_,_,Z,lw.ins,T.gH,T.vD,Z,_,Z,L.ld,_,Z,uW.k (k:=Sum.inl (t:Int)) lw.jG kl,?_⟩;have g4:(fM (fM H2 L.lq (.lst (m.iB.map nV++y.map nV))) q3 (.tup [V.int 1,V.ref p2])) p2=some (.lst (y.map nV)):=by rw[fT (gf g3 n3)];exact g3
     refine hq _ _ _ (j4.snoc ID) ?_ (lw.putD t true y q3 p2 g4 fO np Qr);exact(((nF.own).put (by simp[gM.mut])).trans (fQ.new n3).own).put (by simp[gM.mut])
    ·refine gn (ae (by omega)) ?_;rw[am hd,ae hd] at hq;refine⟨_,Z,(by show 2<=sizeLine;decide),fun q3 n3=> ?_⟩;have lw:=iS.same (fQ.new (o:=.tup [V.int 0,V.ref p2]) n3);refine⟨_,Z,L.r,_,L.dx,_,_,Z,lw.ins,T.gH,T.vD,Z,_,Z,L.ld,_,Z,uW.k (k:=Sum.inl (t:Int)) lw.jG kl,?_⟩;have g4:(fM H2 q3 (.tup [V.int 0,V.ref p2])) p2=some (.lst (y.map nV)):=by rw[fT (gf g2 n3)];exact g2
     refine hq _ _ _ (j4.snoc ID) ?_ (lw.putD t false y q3 p2 g4 fO np Qr);exact((nF.trans (fQ.new n3)).own).put (by simp[gM.mut])
   ·refine fZ (by rw[cG];exact ae (fun z=>ht (uE.mp z))) ?_;have em:jz b m (t:Int)=m:=by unfold jz;rw[am (fun z=>ht (by rw[a7,eg] at z;exact z.2))]
    rw[em] at hq;exact hq H L.gZ L.gO j4.kG gE.refl hR
  ·refine fZ (ai (by omega)) ?_;refine fZ Z ?_;have em:jz b m c=m:=by unfold jz;rw[am (fun z=>h0 z.1)]
   rw[em] at hq;exact hq H L.gZ L.gO j4.kG gE.refl hR
end
open Vbkdaa (Front cross crossTimes)
structure nU(b:Book):Prop where
 ch:b.channels.length<=8
 cn:∀c∈b.channels,c.name.length<=8/\c.pedestal<=4095/\c.on<=4095/\c.off<=4095
 ah:ahead b<=4
 be:behind b<=4
 dp:depth b<=400
 rt:rate b<=50
 hi:high b<=400
 lo:low b<=400
 de:delayOf b<=8
 ga:gapOf b<=10
structure Good(b:Book)(m:RS)(f:Front):Prop where
 rel:j7 b m f
 q:m.iB.length<=100*m.fates.length
 sn:∀x∈m.samples,∀y∈x,y<4096
 n:f.done.length<=400
 bk:nU b
theorem Good.key{b:Book}{m:RS}{f:Front}(g:Good b m f):∀x∈m.frames,x.1<f.done.length-ahead b:=fun x hx=>by
 have h:=fH (f:=(·.1)) hx;rw[g.rel.key] at h;exact dX.mp (eJ.mp h).1
theorem Good.iC{b:Book}{m:RS}{f:Front}(g:Good b m f):lP b m where
 s:=by rw[g.rel.wD];exact g.n
 h:=by rw[g.rel.sQ];exact g.n
 f:=by rw[g.rel.oU];exact g.n
 bl:=by rw[g.rel.oW];exact g.n
 q:=g.q
 fr:=by
  have h:=congrArg List.length g.rel.key;rw[ac] at h;rw[h];refine a8 (cy _ _) ?_;rw[eY];have:=g.n;omega
 hr:=fun x hx=>by
  rw[g.rel.i0,List.mem_reverse,bi] at hx;obtain⟨d,hd,rfl⟩:=hx;exact(g.rel.len d hd).2
 sr:=fun x hx=>by
  rw[g.rel.jQ,List.mem_reverse,bi] at hx;obtain⟨d,hd,rfl⟩:=hx;exact(g.rel.len d hd).1
 sn:=g.sn
 ah:=g.bk.ah
 be:=g.bk.be
 dp:=g.bk.dp
 rt:=g.bk.rt
 hi:=g.bk.hi
 lo:=g.bk.lo
 de:=g.bk.de
 ga:=g.bk.ga
theorem aaB{b:Book}(h:nU b):Good b ou Vbkdaa.fresh:=⟨abz b,aN _,fun x hx=>by simp[ou] at hx,aN _,h⟩
def m4(b:Book)(m:RS)(asked:Bool)(s:List Nat):RS:=
 {m with gone:=m.gone+min (rate b) (ie m),samples:=m.samples++[s],highs:=m.highs++[iV b m.highs s],fates:=m.fates++[kS b m.fates m.gB asked]}
def m5(b:Book)(m:RS)(asked:Bool)(s:List Nat):RS:=jz b (m4 b m asked s) ((li b (m.highs.length+1):Nat)-1:Int)
theorem GA(b:Book)(m:RS)(asked:Bool)(s:List Nat):pN b m asked s=
 {m5 b m asked s with gB:=m.gB++[busyNow b (m.gB.getLast?.getD false) (ie (m5 b m asked s))],most:=max m.most (ie (m5 b m asked s))}:=by
 unfold m5 jz pN;simp only[m4,ie,ag,aj,aZ,li]
 by_cases ha:ahead b<m.highs.length+(0+1)
 ·have e:(((m.highs.length+1-ahead b:Nat):Int)-1).toNat=m.highs.length+(0+1)-1-ahead b:=by omega
  have c1:(0:Int)<=((m.highs.length+1-ahead b:Nat):Int)-1:=by omega
  by_cases hf:(m.fates++[kS b m.fates m.gB asked]).getD (m.highs.length+(0+1)-1-ahead b) 0=1
  ·simp only[e,ha,c1,hf,and_self,dz,Option.any_some,Option.getD_some];generalize mC b (m.highs++[iV b m.highs s]) (m.samples++[s]) (m.highs.length+(0+1)-1-ahead b)=y
   by_cases hd:m.iB.length-(m.gone+min (rate b) (m.iB.length-m.gone))+y.length<=depth b
   ·simp only[hd,decide_true,dz]
   ·simp only[hd,decide_false,cW,bo]
  ·simp only[e,hf,and_false,cW,Option.any_none,bo]
 ·have c1:¬(0:Int)<=((m.highs.length+1-ahead b:Nat):Int)-1:=by omega
  simp only[ha,c1,false_and,cW,Option.any_none,bo]
theorem XN{b:Book}{m:RS}(hF:lP b m)(iC:b.channels.length<=8)(c:Int)(hc:0<=c->c.toNat<m.samples.length):(jz b m c).iB.length<=m.iB.length+50:=by
 unfold jz;split
 ·rename_i h;obtain⟨k1,k2⟩:=E4 hF iC c.toNat (hc h.1);have:=AX (c.toNat% 4096) (lA b m.highs m.samples c.toNat) k1 k2;show(if _ then _ else _:List Nat).length<=_;split
  ·rw[ag];unfold mC;omega
  ·omega
 ·omega
theorem Mn{b:Book}{m:RS}{c:Int}:(jz b m c).samples=m.samples/\(jz b m c).highs=m.highs/\(jz b m c).fates=m.fates/\(jz b m c).gB=m.gB/\(jz b m c).gone=m.gone/\(jz b m c).most=m.most/\(jz b m c).frames.length<=m.frames.length+1:=by
 unfold jz;split
 ·refine⟨Z,Z,Z,Z,Z,Z,?_⟩;simp
 ·exact⟨Z,Z,Z,Z,Z,Z,by omega⟩
theorem BC{b:Book}{m:RS}{f:Front}(g:Good b m f)(hn:f.done.length<400)(asked:Bool)(s:List Nat)(hs:s.length=b.channels.length)(hv:∀y∈s,y<4096):lP b (m4 b m asked s):=by
 have F:=g.iC;have e1:=g.rel.wD;have e2:=g.rel.sQ;have e3:=g.rel.oU;refine⟨?_,?_,?_,F.bl,?_,F.fr,?_,?_,?_,F.ah,F.be,F.dp,F.rt,F.hi,F.lo,F.de,F.ga⟩
 ·simp only[m4,ag,aj,aZ];omega
 ·simp only[m4,ag,aj,aZ];omega
 ·simp only[m4,ag,aj,aZ];omega
 ·have:=F.q;simp only[m4,ag,aj,aZ];omega
 ·intro x hx;rcases aG.mp hx with hx|hx
  ·exact F.hr x hx
  ·rw[aq.mp hx];simp[iV]
 ·intro x hx;rcases aG.mp hx with hx|hx
  ·exact F.sr x hx
  ·rw[aq.mp hx];exact hs
 ·intro x hx;rcases aG.mp hx with hx|hx
  ·exact F.sn x hx
  ·rw[aq.mp hx];exact hv
theorem Hu{b:Book}{m:RS}{f:Front}(g:Good b m f)(hn:f.done.length<400)(asked:Bool)(s:List Nat)(hs:s.length=b.channels.length)(hv:∀y∈s,y<4096):lP b (m5 b m asked s):=by
 have F:=BC g hn asked s hs hv;have iC:=g.bk.ch;obtain⟨k1,k2,k3,k4,k5,k6,k7⟩:=Mn (b:=b) (m:=m4 b m asked s) (c:=((li b (m.highs.length+1):Nat)-1:Int))
 have hl:=XN F iC ((li b (m.highs.length+1):Nat)-1:Int) (fun h=>by
  have e1:=g.rel.wD;have e2:=g.rel.sQ;unfold li at h⊢;simp only[m4,ag,aj,aZ];omega)
 have jy:m.frames.length+1<=400:=by
  have h:=congrArg List.length g.rel.key;rw[ac] at h;have h2:=cy (fun t=>m.fates.getD t 0==1) (List.range (f.done.length-ahead b));rw[eY] at h2;omega
 refine⟨?_,?_,?_,?_,?_,?_,?_,?_,?_,F.ah,F.be,F.dp,F.rt,F.hi,F.lo,F.de,F.ga⟩
 ·show(jz _ _ _).samples.length<=400;rw[k1];exact F.s
 ·show(jz _ _ _).highs.length<=400;rw[k2];exact F.h
 ·show(jz _ _ _).fates.length<=400;rw[k3];exact F.f
 ·show(jz _ _ _).gB.length<=400;rw[k4];exact F.bl
 ·show(jz _ _ _).iB.length<=100*(jz _ _ _).fates.length;rw[k3];have:=g.iC.q;have e:(m4 b m asked s).fates.length=m.fates.length+1:=by simp[m4]
  have e':(m4 b m asked s).iB=m.iB:=rfl;rw[e'] at hl;omega
 ·show(jz _ _ _).frames.length<=400;have e':(m4 b m asked s).frames=m.frames:=rfl;rw[e'] at k7;omega
 ·show∀x∈(jz _ _ _).highs,_;rw[k2];exact F.hr
 ·show∀x∈(jz _ _ _).samples,_;rw[k1];exact F.sr
 ·show∀x∈(jz _ _ _).samples,_;rw[k1];exact F.sn
theorem Good.yG{b:Book}{m:RS}{f:Front}(g:Good b m f)(hn:f.done.length<400)(asked:Bool)(s:List Nat)(hs:s.length=b.channels.length)(hv:∀y∈s,y<4096):Good b (pN b m asked s) (cross b f asked s) where
 rel:=Xx g.rel asked s hs
 q:=by rw[GA];exact(Hu g hn asked s hs hv).q
 sn:=by rw[GA];exact(Hu g hn asked s hs hv).sn
 n:=by show(_::f.done).length<=400;rw[aj];omega
 bk:=g.bk
def ZS(AA:gu):Sp:=fun vs H Q _=>∃(L:gM) (b:Book) (m:RS) (f:Front) (asked:Bool) (a:Addr) (s:List Nat),vs=[.ref L.r,bV asked,.ref a]/\ij AA H L b m/\Good b m f/\f.done.length<400/\H a=some (.lst (s.map nV))/\a∉L.mut/\s.length=b.channels.length/\(∀y∈s,y<4096)/\
 ∀(H':Hp) (rs hs ts fs:List Addr),(∀x∈rs,x∈L.rows\/x=a)->j4 H L.gD hs->j4 H L.gO fs->gE L.mut H H'->ij AA H' {L with rows:=rs,gD:=hs,gZ:=ts,gO:=fs} b (pN b m asked s)->Q .gS H'
theorem XQ(L:gM)(g k n:Nat):L2.jB "gone" (.int n) (pj L g k)=pj L n k:=by rfl
theorem XR(L:gM)(g k n:Nat):L2.jB "most" (.int n) (pj L g k)=pj L g n:=by rfl
section
variable {P:Program} {w:World} {K:PySem.W.Frag} {mg:Str->Option Value} {base:Heap} {AA:gu}
theorem Sr:gP ["self","asked","samples","busy_before"] ["self","asked","samples"] (gL (iZ (fX 35) 1)):=gX (by decide+kernel)
theorem JW(T:Tx P w K mg AA):gK P w K mg base gT 5 AA.DD AA.DE ["self","asked","samples"] (ZS AA):=by
 have Ru:=Rk (base:=base) T;have vF:=DJ (base:=base) T;have pE:=xG (base:=base) T;have RU:=RG (base:=base) T;have R3:=RR (base:=base) T;have Du:=JM (base:=base) T;have xK:=Dl (base:=base) T;have SC:=Sr;refine T.SJ.ok SC (fun vs H Q E h=> ?_) (fun gy A outer s H vs Q E hr h=> ?_)
 ·obtain⟨L,b,m,f,asked,a,sl,rfl,_⟩:=h;rfl
 ·obtain⟨L,b,m,f,asked,a,sl,rfl,hR,hG,hn,ha,na,pq,hv,hq⟩:=h
  refine⟨_,(fS (Ag (pv 0) (gU (Fb Z) (by rfl) T.min boot_min (fN (gc (gc (pv 0) Z) Z) (fN (l9 (pv 0) T.gH T.t4 pE (hr.mono (by decide)) T.tX .nil gG) fP))) A6)
   (fS (iR (iT ax aI aL kE (gc (pv 0) Z) (fN (pv 2) fP)))
   (fS (iR (iT ax aI aL kE (gc (pv 0) Z) (fN (oE (pv 0) T.gH T.R6 RU (hr.mono (by decide)) T.RZ .nil gG (fN (pv 2) fP)) fP)))
   (fS (iR (iT ax aI aL kE (gc (pv 0) Z) (fN (oE (pv 0) T.gH T.Sl R3 (hr.mono (by decide)) T.R7 .nil gG (fN (pv 1) fP)) fP)))
   (fS (iR (oE (pv 0) T.gH T.RN Ru (hr.mono (by decide)) T.RE .nil gG (fN (gA jK (l9 (pv 0) T.gH T.DT xK (hr.mono (by decide)) T.DH .nil gG) fW) fP)))
   (fS (gj (i:=3) SC.nd Z (Or.inl Z) (ic vF (hr.mono (by decide)) Z T.nK.mg T.nK.fn.kp T.nK.b .nil gG (fN (gc (pv 0) Z) (fN (gA jK (gU iL (by rfl) T.len aF (fN (gc (pv 0) Z) fP)) fW) fP))))
   (fS (iR (iT ax aI aL kE (gc (pv 0) Z) (fN (ic Du (hr.mono (by decide)) Z T.t6.mg T.t6.fn.kp T.t6.b .nil gG (fN (gc (pv 0) Z) (fN (l9 (pv 0) T.gH T.t4 pE (hr.mono (by decide)) T.tX .nil gG) (fN (pv 3) fP)))) fP)))
   (fV (js (pv 0) (gU (r6 Z) (by rfl) T.max fB (fN (gc (pv 0) Z) (fN (l9 (pv 0) T.gH T.t4 pE (hr.mono (by decide)) T.tX .nil gG) fP))) Z))))))))),?_⟩
  have hF:=hG.iC;have iC:=hR.set.iC;have lH:=hG.rel.sQ;have lS:=hG.rel.wD;have lF:=hG.rel.oU;have lB:=hG.rel.oW;refine⟨_,Z,L.r,_,L.dx,_,_,Z,hR.ins,T.gH,T.xM,Z,_,Z,L.r,_,L.dx,_,_,Z,hR.ins,T.gH,T.ly,Z,L.S.s,_,L.S.dx,_,_,Z,hR.set.ins,T.im,T.qU,Z,_,Z,L.r,L.dx,_,Z,hR.ins,Z,L,b,m,Z,hR,hF,_,_,Z,_,_,Z,Z,L.dx,_,hR.ins,(by show 9<1000;decide),?_⟩;have e1:(m.gone:Int)+(if (ie m:Int)<(rate b:Int) then(ie m:Int) else(rate b:Int))=((m.gone+min (rate b) (ie m):Nat):Int):=by split<;>omega
  rw[e1,XQ];have wl:ie m=m.iB.length-m.gone:=rfl;have gl:=hR.kj;have iJ:=hR.putN (m.gone+min (rate b) (ie m)) m.most (by omega);have o1:gE L.mut H (fM H L.r (.ins AA.hJ L.dx (pj L (m.gone+min (rate b) (ie m)) m.most))):=gE.refl.put (by simp[gM.mut]);generalize Cc:fM H L.r (.ins AA.hJ L.dx (pj L (m.gone+min (rate b) (ie m)) m.most))=H1 at iJ o1;have a1:H1 a=some (.lst (sl.map nV)):=o1 _ _ ha na;refine⟨_,Z,L.r,_,L.dx,_,_,Z,iJ.ins,T.gH,T.Dj,Z,.inl ⟨Z,_,fR.of iJ.jQ⟩,_,Z,L.ls,_,_,Z,Z,iJ.jQ,iU (by rw[ac,iJ.rows.1];have:=hF.s;show m.samples.length<=_;omega),?_⟩;have iS:=iJ.abE a sl a1 na;have o2:=o1.put (o:=.lst (L.rows.map V.ref++[V.ref a])) (p:=L.ls) (by simp[gM.mut]);generalize w9:fM H1 L.ls (.lst (L.rows.map V.ref++[V.ref a]))=H2 at iS o2;have a2:H2 a=some (.lst (sl.map nV)):=o2 _ _ ha na
  have F2:lP b {m with gone:=m.gone+min (rate b) (ie m),samples:=m.samples++[sl]}:=by
   have F:=BC hG hn asked sl pq hv;exact⟨F.s,hF.h,hF.f,hF.bl,hF.q,hF.fr,hF.hr,F.sr,F.sn,F.ah,F.be,F.dp,F.rt,F.hi,F.lo,F.de,F.ga⟩
  refine⟨_,Z,L.r,_,L.dx,_,_,Z,iS.ins,T.gH,T.t5,Z,.inl ⟨Z,_,fR.of iS.i0⟩,_,Z,L.r,L.dx,_,Z,iS.ins,Z,_,Z,{L with rows:=L.rows++[a]},b,_,a,sl,Z,iS,F2,fR.of a2,pq,fun H3 p3 s3 f3 g3=> ?_⟩;have kB:=iS.same s3
  have np3:p3∉L.mut:=fun z=>by
   have:=iS.lL p3 z;rw[f3] at this;cases this
  refine⟨L.lh,_,_,Z,Z,kB.i0,iU (by rw[ac,kB.gD.1];have:=hF.h;show m.highs.length<=_;omega),?_⟩;have lw:=kB.abF p3 _ g3 np3;have o4:=(o2.trans s3.own).put (o:=.lst (L.gD.map V.ref++[V.ref p3])) (p:=L.lh) (by simp[gM.mut]);generalize Ih:fM H3 L.lh (.lst (L.gD.map V.ref++[V.ref p3]))=H4 at lw o4
  have F4:lP b {m with gone:=m.gone+min (rate b) (ie m),samples:=m.samples++[sl],highs:=m.highs++[iV b m.highs sl]}:=by
   have F:=BC hG hn asked sl pq hv;exact⟨F.s,F.h,hF.f,hF.bl,hF.q,hF.fr,F.hr,F.sr,F.sn,F.ah,F.be,F.dp,F.rt,F.hi,F.lo,F.de,F.ga⟩
  refine⟨_,Z,L.r,_,L.dx,_,_,Z,lw.ins,T.gH,T.qi,Z,.inl ⟨Z,_,fR.of lw.iW⟩,_,Z,L.r,L.dx,_,Z,lw.ins,Z,_,Z,{L with rows:=L.rows++[a],gD:=L.gD++[p3]},b,_,asked,Z,lw,F4,by show m.fates.length=m.gB.length;omega,fun H5 s5=> ?_⟩;have xm:=lw.same s5;refine⟨L.lf,_,_,Z,Z,xm.iW,iU (by rw[ac];have:=hF.f;show m.fates.length<=_;omega),?_⟩;have qd:=xm.jB (kS b m.fates m.gB asked);have o6:=(o4.trans s5.own).put (o:=.lst (m.fates.map nV++[nV (kS b m.fates m.gB asked)])) (p:=L.lf) (by simp[gM.mut]);have F6:lP b (m4 b m asked sl):=BC hG hn asked sl pq hv;generalize hH6:fM H5 L.lf (.lst (m.fates.map nV++[nV (kS b m.fates m.gB asked)]))=H6 at qd o6;refine⟨_,Z,L.r,L.dx,_,Z,qd.ins,Z,_,Z,L.r,L.dx,_,Z,qd.ins,Z,{L with rows:=L.rows++[a],gD:=L.gD++[p3]},b,_,Z,qd,F6,_,_,Z,Z,{L with rows:=L.rows++[a],gD:=L.gD++[p3]},b,m4 b m asked sl,_,Z,qd,F6,?_,?_,fun H7 ts fs nf7 o7 nH=> ?_⟩
  ·intro h;show _<(m4 b m asked sl).fates.length/\_<(m4 b m asked sl).samples.length;have eh:({m with gone:=m.gone+min (rate b) (ie m),samples:=m.samples++[sl],highs:=m.highs++[iV b m.highs sl],fates:=m.fates++[kS b m.fates m.gB asked]}:RS).highs.length=m.highs.length+1:=by simp
   rw[eh] at h⊢;unfold li at h⊢;simp only[m4,ag,aj,aZ];omega
  ·intro x hx z;have hk:=hG.key x hx;have eh:({m with gone:=m.gone+min (rate b) (ie m),samples:=m.samples++[sl],highs:=m.highs++[iV b m.highs sl],fates:=m.fates++[kS b m.fates m.gB asked]}:RS).highs.length=m.highs.length+1:=by simp
   rw[eh] at z;unfold li at z;omega
  have e5:jz b (m4 b m asked sl) ((li b (m4 b m asked sl).highs.length:Nat)-1:Int)=m5 b m asked sl:=by
   unfold m5;have eh:(m4 b m asked sl).highs.length=m.highs.length+1:=by simp[m4]
   rw[eh]
  have nH:ij AA H7 {L with rows:=L.rows++[a],gD:=L.gD++[p3],gZ:=ts,gO:=fs} b (m5 b m asked sl):=by rw[<-e5];exact nH
  obtain⟨k1,k2,k3,k4,k5,k6,k7⟩:=Mn (b:=b) (m:=m4 b m asked sl) (c:=((li b (m.highs.length+1):Nat)-1:Int));have kb:(m5 b m asked sl).gB=m.gB:=k4;have km:(m5 b m asked sl).most=m.most:=k6;have F7:=Hu hG hn asked sl pq hv;refine⟨_,Z,L.r,_,L.dx,_,_,Z,nH.ins,T.gH,T.rY,Z,_,Z,L.r,_,L.dx,_,_,Z,nH.ins,T.gH,T.rY,Z,L.lb,_,Z,.inl (fR.of nH.jf),_,_,Z,Z,L.lb,(m5 b m asked sl).gB,_,Z,fR.of nH.jf,by rw[ac];omega,?_⟩;rw[ac,kb]
  have e:(decide (0<=(m.gB.length:Int)-1)&&m.gB.getD ((m.gB.length:Int)-1).toNat false)=m.gB.getLast?.getD false:=by
   rw[cx,<-aE,show((m.gB.length:Int)-1).toNat=m.gB.length-1 by omega];cases hb:m.gB with
   |nil=>rfl
   |cons x r=>simp
  rw[e];refine⟨_,Z,L.r,_,L.dx,_,_,Z,nH.ins,T.gH,T.rY,Z,.inl ⟨Z,_,fR.of nH.jf⟩,_,Z,L.r,_,L.dx,_,_,Z,nH.ins,T.gH,T.ly,Z,_,Z,L.r,L.dx,_,Z,nH.ins,Z,{L with rows:=L.rows++[a],gD:=L.gD++[p3],gZ:=ts,gO:=fs},b,_,Z,nH,F7,_,Z,L.S,b,ie (m5 b m asked sl),m.gB.getLast?.getD false,Z,nH.set,?_⟩;refine⟨L.lb,_,_,Z,Z,nH.jf,iU (by rw[ac,kb];have:=hF.bl;omega),?_⟩;have xn:=nH.abG (busyNow b (m.gB.getLast?.getD false) (ie (m5 b m asked sl)));have o7':gE L.mut H H7:=o6.trans o7;have o8:=o7'.put (o:=.lst ((m5 b m asked sl).gB.map bV++[bV (busyNow b (m.gB.getLast?.getD false) (ie (m5 b m asked sl)))])) (p:=L.lb) (by simp[gM.mut])
  have F8:lP b {m5 b m asked sl with gB:=(m5 b m asked sl).gB++[busyNow b (m.gB.getLast?.getD false) (ie (m5 b m asked sl))]}:=by
   refine⟨F7.s,F7.h,F7.f,?_,F7.q,F7.fr,F7.hr,F7.sr,F7.sn,F7.ah,F7.be,F7.dp,F7.rt,F7.hi,F7.lo,F7.de,F7.ga⟩;show((m5 b m asked sl).gB++[_]).length<=400;rw[kb,ag];show m.gB.length+1<=400;omega
  refine⟨_,Z,L.r,_,L.dx,_,_,Z,xn.ins,T.gH,T.zN,Z,_,Z,L.r,L.dx,_,Z,xn.ins,Z,{L with rows:=L.rows++[a],gD:=L.gD++[p3],gZ:=ts,gO:=fs},b,_,Z,xn,F8,_,_,Z,_,Z,L.r,_,L.dx,_,Z,xn.ins,T.gH,T.zN,(by show 9<1000;decide),?_⟩;have hw:ie {m5 b m asked sl with gB:=(m5 b m asked sl).gB++[busyNow b (m.gB.getLast?.getD false) (ie (m5 b m asked sl))]}=ie (m5 b m asked sl):=rfl;have e9:(if (ie (m5 b m asked sl):Int)>((m5 b m asked sl).most:Int) then(ie (m5 b m asked sl):Int) else((m5 b m asked sl).most:Int))=((max m.most (ie (m5 b m asked sl)):Nat):Int):=by rw[km];split<;>omega
  have hR9:=xn.putN (m5 b m asked sl).gone (max m.most (ie (m5 b m asked sl))) xn.kj;have ec:({m5 b m asked sl with gB:=(m5 b m asked sl).gB++[busyNow b (m.gB.getLast?.getD false) (ie (m5 b m asked sl))],most:=max m.most (ie (m5 b m asked sl))}:RS)=pN b m asked sl:=by rw[GA,kb]
  refine hq _ (L.rows++[a]) (L.gD++[p3]) ts fs (fun x hx=>(aG.mp hx).imp id (fun z=>aq.mp z)) (j4.snoc (iS.free o2 f3)) (j4.kG.back nf7 fun x hx=>qd.free o6 hx) (o8.put (p:=L.r) (by simp[gM.mut])) ?_;rw[<-ec]
  have eo:L2.jB "most" (V.int (if (ie (m5 b m asked sl):Int)>((m5 b m asked sl).most:Int) then(ie (m5 b m asked sl):Int) else((m5 b m asked sl).most:Int))) (pj {L with rows:=L.rows++[a],gD:=L.gD++[p3],gZ:=ts,gO:=fs} (m5 b m asked sl).gone (m5 b m asked sl).most)=pj {L with rows:=L.rows++[a],gD:=L.gD++[p3],gZ:=ts,gO:=fs} (m5 b m asked sl).gone (max m.most (ie (m5 b m asked sl))):=by
   rw[e9,XR]
  have:=hR9;rw[<-eo] at this;exact this
end
end FE
namespace FE
open PySem PySem.Spec PyProof.Rows L2
open VbkdCore (txt numeral isSmall isDigit Fault)
open Vbkdaa (Book isName ahead behind depth rate high low delayOf gapOf)
def As(AA:gu):Key->Addr
 |.jc=>0|.keep=>AA.zZ|.buffer=>AA.z0|.delay=>AA.z8|.gap=>AA.z9
def dflt:Key->List Nat
 |.jc=>[]|.keep=>[0,0]|.buffer=>[400,20,200,100]|.delay=>[0]|.gap=>[0]
theorem Af(AA:gu)(k:Key)(h:oJ k=false):i5 [((Sum.inr "keep":L2.Key),V.ref AA.zZ),(Sum.inr "buffer",.ref AA.z0),(Sum.inr "delay",.ref AA.z8),(Sum.inr "gap",.ref AA.z9)] (Sum.inr (iw k))=some (V.ref (As AA k)):=by
 obtain⟨e1,e2,e3,e4,e5⟩:=ua;rw[<-e2,<-e3,<-e4,<-e5]
 have step:∀(j:Key) (v:V) (r:List (L2.Key×V)),i5 ((Sum.inr (iw j),v)::r) (Sum.inr (iw k))=if j=k then some v else i5 r (Sum.inr (iw k)):=by
  intro j v r
  by_cases h:j=k
  ·rw[aw h];exact vM (p:=(Sum.inr (iw j),v)) (by rw[h])
  ·rw[am h];exact uq (p:=(Sum.inr (iw j),v)) (fun z=>h (Ae.mp (Sum.inr.inj z)))
 rw[step,step,step,step];cases k
 ·cases h
 ·rfl
 ·rfl
 ·rfl
 ·rfl
theorem Vw{P:Program}{w:World}{K:PySem.W.Frag}{mg:Str->Option Value}{AA:gu}(T:Tx P w K mg AA)(k:Key)(h:oJ k=false):iX K (As AA k) ((dflt k).map nV):=by
 cases k with
 |jc=>cases h
 |keep=>exact T.Wh
 |buffer=>exact T.Wi
 |delay=>exact T.Wj
 |gap=>exact T.Wk
theorem AI{P:Program}{w:World}{K:PySem.W.Frag}{mg:Str->Option Value}{AA:gu}(T:Tx P w K mg AA){H:Hp}{ld:Addr}{ts:List (Str×Addr)}{b:Book}(hT:lU H ld ts b)(k:Key)(h:oJ k=false):
 ∃p,(i5 (ts.map fun x=>((Sum.inr x.1:L2.Key),V.ref x.2)) (Sum.inr (iw k))).getD (V.ref (As AA k))=V.ref p/\iN K H p (((iM b k).getD (dflt k)).map nV):=by
 rcases hT.val k with⟨z1,z2⟩|⟨l,a,z1,z3,z2⟩
 ·rw[z1,z2];exact⟨As AA k,Z,(Vw T k h).sq⟩
 ·rw[z1,z2];exact⟨a,Z,kf z3⟩
theorem r8{K:PySem.W.Frag}{Hx:Hp}{x C dx p:Addr}{fs:List (Str×V)}{o:HO}{xs:List V}(hx:Hx x=some (.ins C dx fs))(h:iN K Hx p xs):iN K (fM Hx x o) p xs:=by
 rcases h with(h|⟨u,h⟩)|h
 ·exact .inl (.inl (by rw[fT (pL h hx (by intro z;cases z))];exact h))
 ·exact .inl (.inr ⟨u,by rw[fT (pL h hx (by intro z;cases z))];exact h⟩)
 ·exact .inr h
def YF(AA:gu):Sp:=fun vs H Q _=>∃(x dx lc:Addr) (cs:List Addr) (ld:Addr) (ts:List (Str×Addr)) (b:Book),vs=[.ref x,.ref lc,.ref ld]/\H x=some (.ins AA.lQ dx [])/\H lc=some (.lst (cs.map V.ref))/\iG H Ch cs b.channels/\lU H ld ts b/\b.channels.length<=8/\
 ∀H',gE [x] H H'->lX AA H' ⟨x,dx,lc,ld,cs,ts⟩ b->Q .gS H'
section
variable {P:Program} {w:World} {K:PySem.W.Frag} {mg:Str->Option Value} {base:Heap} {AA:gu}
theorem Sb:gP ["self","channels","told","keep","buffer"] ["self","channels","told"] (gL (iZ (fX 57) 0)):=gX (by decide+kernel)
theorem Lh(T:Tx P w K mg AA):gK P w K mg base gT 1 AA.Dq AA.Dr ["self","channels","told"] (YF AA):=by
 have SC:=Sb;refine T.Sm.ok SC (fun vs H Q E h=> ?_) (fun gy A outer s H vs Q E hr h=> ?_)
 ·obtain⟨x,dx,lc,cs,ld,ts,b,rfl,_⟩:=h;rfl
 ·obtain⟨x,dx,lc,cs,ld,ts,b,rfl,hx,Co,hC,hT,h8,hq⟩:=h;have hu:=wg hr
  refine⟨_,(fS (js (pv 0) (pv 1) Z)
   (fS (js (pv 0) (pv 2) Z)
   (fS (gj (i:=3) SC.nd Z (Or.inl Z) (Ax hu (pv 2) kq (qZ T.AV (m7 Z T.Bb) kq (fun _ _=>rfl)) ⟨Z,Z,Z,Z⟩))
   (fS (js (pv 0) (hV jH (pv 3) fW (fun _ _=>rfl)) Z)
   (fS (js (pv 0) (hV jH (pv 3) fW (fun _ _=>rfl)) Z)
   (fS (gj (i:=4) SC.nd Z (Or.inl Z) (Ax hu (pv 2) kq (qZ T.AV (m7 Z T.Bb) kq (fun _ _=>rfl)) ⟨Z,Z,Z,Z⟩))
   (fS (js (pv 0) (hV jH (pv 4) fW (fun _ _=>rfl)) Z)
   (fS (js (pv 0) (hV jH (pv 4) fW (fun _ _=>rfl)) Z)
   (fS (js (pv 0) (hV jH (pv 4) fW (fun _ _=>rfl)) Z)
   (fS (js (pv 0) (hV jH (pv 4) fW (fun _ _=>rfl)) Z)
   (fS (js (pv 0) (hV jH (Ax hu (pv 2) kq (qZ T.AV (m7 Z T.Bb) kq (fun _ _=>rfl)) ⟨Z,Z,Z,Z⟩) fW (fun _ _=>rfl)) Z)
   (fV (js (pv 0) (hV jH (Ax hu (pv 2) kq (qZ T.AV (m7 Z T.Bb) kq (fun _ _=>rfl)) ⟨Z,Z,Z,Z⟩) fW (fun _ _=>rfl)) Z))))))))))))),?_⟩
  have nxl:lc≠x:=pL Co hx (by intro z;cases z);have Qs:ld≠x:=pL hT.dict hx (by intro z;cases z);have hd:∀u,(fM H x u) ld=_:=fun u=>(fT Qs).trans hT.dict
  obtain⟨e1,e2,e3,e4,e5⟩:=ua;obtain⟨pk,gk,sk⟩:=AI T hT .keep Z;obtain⟨pb,gb,sb⟩:=AI T hT .buffer Z;obtain⟨pd,gd,sd⟩:=AI T hT .delay Z;obtain⟨pg,gg,sg⟩:=AI T hT .gap Z;have uk:=Af AA .keep Z;have ub:=Af AA .buffer Z;have ud:=Af AA .delay Z;have ug:=Af AA .gap Z;rw[e2] at gk uk;rw[e3] at gb ub;rw[e4] at gd ud;rw[e5] at gg ug;have lk:(iM b .keep).getD (dflt .keep)=[ahead b,behind b]:=by unfold ahead behind iM;cases b.keep<;>rfl
  have lb:(iM b .buffer).getD (dflt .buffer)=[depth b,rate b,high b,low b]:=by unfold depth rate high low Vbkdaa.bufferOf iM;cases b.buffer<;>rfl
  have ldd:(iM b .delay).getD (dflt .delay)=[delayOf b]:=by unfold delayOf iM;cases b.delay<;>rfl
  have lg:(iM b .gap).getD (dflt .gap)=[gapOf b]:=by unfold gapOf iM;cases b.gap<;>rfl
  rw[lk] at sk;rw[lb] at sb;rw[ldd] at sd;rw[lg] at sg;refine⟨_,Z,_,Z,x,_,dx,_,Z,hx,T.im,T.nJ,(by show 0<1000;decide),?_⟩;refine⟨_,Z,_,Z,x,_,dx,_,Z,fO,T.im,T.DG,(by show 1<1000;decide),?_⟩;rw[jn];refine⟨_,Z,ld,Z,.inl ⟨_,.inl (hd _)⟩,Sum.inr "keep",_,Z,uk,_,lK.k (k:=Sum.inr "keep") (hd _),?_⟩;rw[gk];refine⟨_,Z,pk,_,_,_,Z,Z,r8 hx sk,ir (j:=0) Z Z,_,Z,x,_,dx,_,Z,fO,T.im,T.tZ,(by show 2<1000;decide),?_⟩;rw[jn];refine⟨_,Z,pk,_,_,_,Z,Z,r8 hx sk,ir (j:=1) Z Z,_,Z,x,_,dx,_,Z,fO,T.im,T.Dk,(by show 3<1000;decide),?_⟩;rw[jn];refine⟨_,Z,ld,Z,.inl ⟨_,.inl (hd _)⟩,Sum.inr "buffer",_,Z,ub,_,lK.k (k:=Sum.inr "buffer") (hd _),?_⟩;rw[gb];refine⟨_,Z,pb,_,_,_,Z,Z,r8 hx sb,ir (j:=0) Z Z,_,Z,x,_,dx,_,Z,fO,T.im,T.xJ,(by show 4<1000;decide),?_⟩;rw[jn];refine⟨_,Z,pb,_,_,_,Z,Z,r8 hx sb,ir (j:=1) Z Z,_,Z,x,_,dx,_,Z,fO,T.im,T.qU,(by show 5<1000;decide),?_⟩;rw[jn];refine⟨_,Z,pb,_,_,_,Z,Z,r8 hx sb,ir (j:=2) Z Z,_,Z,x,_,dx,_,Z,fO,T.im,T.tV,(by show 6<1000;decide),?_⟩;rw[jn];refine⟨_,Z,pb,_,_,_,Z,Z,r8 hx sb,ir (j:=3) Z Z,_,Z,x,_,dx,_,Z,fO,T.im,T.C9,(by show 7<1000;decide),?_⟩;rw[jn];refine⟨_,Z,ld,Z,.inl ⟨_,.inl (hd _)⟩,Sum.inr "delay",_,Z,ud,_,lK.k (k:=Sum.inr "delay") (hd _),?_⟩;rw[gd];refine⟨pd,_,_,_,Z,Z,r8 hx sd,ir (j:=0) Z Z,_,Z,x,_,dx,_,Z,fO,T.im,T.vE,(by show 8<1000;decide),?_⟩;rw[jn];refine⟨_,Z,ld,Z,.inl ⟨_,.inl (hd _)⟩,Sum.inr "gap",_,Z,ug,_,lK.k (k:=Sum.inr "gap") (hd _),?_⟩;rw[gg];refine⟨pg,_,_,_,Z,Z,r8 hx sg,ir (j:=0) Z Z,_,Z,x,_,dx,_,Z,fO,T.im,T.DS,(by show 9<1000;decide),?_⟩;rw[jn];have o1:gE [x] H (fM H x (.ins AA.lQ dx (Pc lc ld b))):=gE.refl.put (by simp);have nt:∀y∈([x]:List Addr),∀xs,H y≠some (.tup xs):=fun y hy xs z=>by rw[aq.mp hy,hx] at z;cases z
  refine hq _ o1 ⟨fO,(fT nxl).trans Co,⟨hC.1,fun i a y h1 h2=>kQ o1 nt (hC.2 i a y h1 h2)⟩,?_,h8⟩;exact hT.keep o1 (by simpa using Qs) nt
end
open VbkdCore (linesFrom wordsFrom Bytes)
open Vbkdaa (lineIn bookFrom noBook)
inductive mT:List Due->List ik->Prop
 |nil:mT [] []
 |word {k:Bytes} {ds:List Due} {us:List ik}:mT ds us->mT (.word k::ds) us
 |num {hi n:Nat} {ds:List Due} {us:List ik}:n<=hi->mT ds us->mT (.num hi::ds) (.inr n::us)
 |name {n:Bytes} {ds:List Due} {us:List ik}:isName n=true->mT ds us->mT (.name::ds) (.inl n::us)
theorem M0(e:Nat)(ns:List Bytes):∀(ds:List Due) (ws:List j3) (vs us:List ik),iF e ns ds ws vs=.ok us->∃ys,us=vs++ys/\mT ds ys
 |[],ws,vs,us,h=>by
  simp only[iF,Except.ok.injEq] at h;exact⟨[],by rw[h];simp,.nil⟩
 |d::ds,[],vs,us,h=>by simp[iF] at h
 |d::ds,w::ws,vs,us,h=>by
  simp only[iF] at h;cases q:ji ns d w with
  |error f=>rw[q] at h;cases h
  |ok v=>
   rw[q] at h;obtain⟨ys,h1,h2⟩:=M0 e ns ds ws _ us h;cases d with
   |name=>
    simp only[ji] at q;split at q
    ·cases q
    ·rename_i hn;split at q
     ·cases q
     ·have:=dM q;subst this;exact⟨.inl w.1::ys,by rw[h1];simp,.name (by simpa using hn) h2⟩
   |word k=>
    simp only[ji] at q;split at q
    ·have:=dM q;subst this;exact⟨ys,by rw[h1];simp,.word h2⟩
    ·cases q
   |num hi=>
    simp only[ji] at q;split at q
    ·cases q
    ·split at q
     ·cases q
     ·rename_i n _ hn;have:=dM q;subst this;exact⟨.inr n::ys,by rw[h1];simp,.num (by omega) h2⟩
theorem XS{e:Nat}{ns:List Bytes}{o:Bool}{ds:List Due}{r:List j3}{us:List ik}(h:jm e ns o ds r=.ok us):mT ds us:=by
 unfold jm at h;cases hd:iF e ns ds r [] with
 |error f=>rw[hd] at h;cases h
 |ok vs=>
  rw[hd] at h;simp only at h;split at h
  ·cases h
  ·split at h
   ·cases h
   ·have:=dM h;subst this;obtain⟨ys,h1,h2⟩:=M0 e ns ds r [] vs hd;rw[h1];exact h2
theorem Li{us:List ik}(h:mT vN us):∃n p a b,us=[.inl n,.inr p,.inr a,.inr b]/\isName n=true/\p<=4095/\a<=4095/\b<=4095:=by
 unfold vN at h;cases h with|name hn h=>cases h with|word h=>cases h with|num h1 h=>cases h with|word h=>cases h with|num h2 h=>cases h with|word h=>cases h with|num h3 h=>cases h with|nil=>exact⟨_,_,_,_,Z,hn,h1,h2,h3⟩
theorem M1{us:List ik}(h:mT wo us):∃a b,us=[.inr a,.inr b]/\a<=4/\b<=4:=by
 unfold wo at h;cases h with|num h1 h=>cases h with|num h2 h=>cases h with|nil=>exact⟨_,_,Z,h1,h2⟩
theorem LM{us:List ik}(h:mT vS us):∃a b c d,us=[.inr a,.inr b,.inr c,.inr d]/\a<=400/\b<=50/\c<=400/\d<=400:=by
 unfold vS at h;cases h with|num h1 h=>cases h with|word h=>cases h with|num h2 h=>cases h with|word h=>cases h with|num h3 h=>cases h with|word h=>cases h with|num h4 h=>cases h with|nil=>exact⟨_,_,_,_,Z,h1,h2,h3,h4⟩
theorem AY{hi:Nat}{us:List ik}(h:mT [.num hi] us):∃a,us=[.inr a]/\a<=hi:=by
 cases h with|num h1 h=>cases h with|nil=>exact⟨_,Z,h1⟩
structure uM(b:Book):Prop where
 ch:b.channels.length<=8
 cn:∀c∈b.channels,c.name.length<=8/\c.pedestal<=4095/\c.on<=4095/\c.off<=4095
 nm:∀n∈names b,lG n=true
 ke:∀x,b.keep=some x->x.1<=4/\x.2<=4
 bu:∀x,b.buffer=some x->x.1<=400/\x.2.1<=50/\x.2.2.1<=400/\x.2.2.2<=400
 de:∀x,b.delay=some x->x<=8
 ga:∀x,b.gap=some x->x<=10
theorem ZT:uM noBook:=⟨aN _,fun c hc=>(by simp[noBook] at hc),fun n hn=>(by simp[names,noBook] at hn),fun x h=>(by cases h),fun x h=>(by cases h),fun x h=>(by cases h),fun x h=>(by cases h)⟩
theorem uM.ok{b:Book}(h:uM b):nU b:=by
 refine⟨h.ch,h.cn,?_,?_,?_,?_,?_,?_,?_,?_⟩
 ·unfold ahead;cases hb:b.keep with|none=>simp|some x=>exact(h.ke x hb).1
 ·unfold behind;cases hb:b.keep with|none=>simp|some x=>exact(h.ke x hb).2
 ·unfold depth Vbkdaa.bufferOf;cases hb:b.buffer with|none=>simp|some x=>exact(h.bu x hb).1
 ·unfold rate Vbkdaa.bufferOf;cases hb:b.buffer with|none=>simp|some x=>exact(h.bu x hb).2.1
 ·unfold high Vbkdaa.bufferOf;cases hb:b.buffer with|none=>simp|some x=>exact(h.bu x hb).2.2.1
 ·unfold low Vbkdaa.bufferOf;cases hb:b.buffer with|none=>simp|some x=>exact(h.bu x hb).2.2.2
 ·unfold delayOf;cases hb:b.delay with|none=>simp|some x=>exact h.de x hb
 ·unfold gapOf;cases hb:b.gap with|none=>simp|some x=>exact h.ga x hb
theorem Vx{n:Bytes}(h:isName n=true):lG n=true:=by
 unfold isName at h;simp only[aH] at h;exact Lg h.2.1
theorem uM.add{b:Book}(h:uM b){k:Key}{us:List ik}(hf:mT (jY k) us)(h8:¬(oJ k=true/\b.channels.length=8)):uM (lV b us k):=by
 cases k with
 |jc=>
  obtain⟨n,p,a,c,rfl,hn,hn1,u6,hn3⟩:=Li hf;have hl:=h.ch;have hn8:n.length<=8:=by unfold isName at hn;simp only[aH,aJ] at hn;exact hn.1.2
  refine⟨?_,?_,?_,h.ke,h.bu,h.de,h.ga⟩
  ·show(b.channels++[_]).length<=8;rw[ag];have:b.channels.length≠8:=fun z=>h8 ⟨Z,z⟩
   simp only[aj,aZ];omega
  ·intro x hx;rcases aG.mp hx with hx|hx
   ·exact h.cn x hx
   ·rw[aq.mp hx];exact⟨hn8,hn1,u6,hn3⟩
  ·intro m hm;have:names (lV b [.inl n,.inr p,.inr a,.inr c] .jc)=names b++[n]:=by simp[names,lV,xS,GR]
   rw[this] at hm;rcases aG.mp hm with hm|hm
   ·exact h.nm m hm
   ·rw[aq.mp hm];exact Vx hn
 |keep=>
  obtain⟨a,c,rfl,h1,h2⟩:=M1 hf;exact⟨h.ch,h.cn,h.nm,fun x hx=>by have:=af hx;subst this;exact⟨h1,h2⟩,h.bu,h.de,h.ga⟩
 |buffer=>
  obtain⟨a,c,d,e,rfl,h1,h2,h3,h4⟩:=LM hf;exact⟨h.ch,h.cn,h.nm,h.ke,fun x hx=>by have:=af hx;subst this;exact⟨h1,h2,h3,h4⟩,h.de,h.ga⟩
 |delay=>
  obtain⟨a,rfl,h1⟩:=AY hf;exact⟨h.ch,h.cn,h.nm,h.ke,h.bu,fun x hx=>by have:=af hx;subst this;exact h1,h.ga⟩
 |gap=>
  obtain⟨a,rfl,h1⟩:=AY hf;exact⟨h.ch,h.cn,h.nm,h.ke,h.bu,h.de,fun x hx=>by have:=af hx;subst this;exact h1⟩
theorem XT{b:Book}{k:Key}{us:List ik}(hf:mT (jY k) us)(hc:oJ k=false):∃l,us.map kZ=l.map nV/\∀j,iM (lV b us k) j=if j=k then some l else iM b j:=by
 cases k with
 |jc=>cases hc
 |keep=>
  obtain⟨a,c,rfl,h1,h2⟩:=M1 hf;exact⟨[a,c],Z,fun j=>by cases j<;>rfl⟩
 |buffer=>
  obtain⟨a,c,d,e,rfl,_⟩:=LM hf;exact⟨[a,c,d,e],Z,fun j=>by cases j<;>rfl⟩
 |delay=>
  obtain⟨a,rfl,h1⟩:=AY hf;exact⟨[a],Z,fun j=>by cases j<;>rfl⟩
 |gap=>
  obtain⟨a,rfl,h1⟩:=AY hf;exact⟨[a],Z,fun j=>by cases j<;>rfl⟩
theorem WF{b:Book}{us:List ik}:∀j,iM (lV b us .jc) j=iM b j:=fun j=>by cases j<;>rfl
theorem XU{b:Book}{k:Key}{us:List ik}(hc:oJ k=false):(lV b us k).channels=b.channels:=by cases k<;>first|rfl|cases hc
theorem lU.add{H H':Hp}{ld t:Addr}{ts:List (Str×Addr)}{b b':Book}{k:Key}{l:List Nat}(h:lU H ld ts b)(hn:iM b k=none)(hb:∀j,iM b' j=if j=k then some l else iM b j)
 (o:∀a l,H a=some (.tup l)->H' a=some (.tup l)) (hd:H' ld=some (.dK (lJ (ts.map fun x=>((Sum.inr x.1:L2.Key),V.ref x.2)) (Sum.inr (iw k)) (V.ref t)))) (ht:H' t=some (Hr l)):lU H' ld (ts++[(iw k,t)]) b':=by
 have hv:i5 (ts.map fun x=>((Sum.inr x.1:L2.Key),V.ref x.2)) (Sum.inr (iw k))=none:=by
  rcases h.val k with⟨_,z⟩|⟨l,a,z,_⟩
  ·exact z
  ·rw[hn] at z;cases z
 have tz:∀x∈ts,x.1≠iw k:=fun x hx z=>by
  obtain⟨l2,oZ⟩:=h.only x hx;rw[z] at oZ;obtain⟨j,hj,pz⟩:=(nP b _ _).mp oZ;rw[<-Ae.mp hj,hn] at pz;cases pz
 refine⟨?_,?_,?_,?_⟩
 ·rw[hd,MM _ hv,ao];rfl
 ·rw[ao]
  exact Nz h.nd (fun z=>by
   obtain⟨x,hx,e⟩:=bi.mp z;exact tz x hx e)
 ·rintro⟨s,l2⟩;rw[nP];constructor
  ·rintro⟨j,rfl,hj⟩;rw[hb j] at hj
   by_cases c:j=k
   ·rw[aw c] at hj;rw[c,<-af hj];exact⟨t,by simp,ht⟩
   ·rw[am c] at hj;obtain⟨a,h1,h2⟩:=(h.all (iw j,l2)).mp ((nP b _ _).mpr ⟨j,Z,hj⟩);exact⟨a,by simp[h1],o _ _ h2⟩
  ·rintro⟨a,h1,h2⟩;rcases aG.mp h1 with h1|h1
   ·obtain⟨l3,Cm⟩:=h.only _ h1;obtain⟨j,hj,pz⟩:=(nP b _ _).mp Cm;have cj:j≠k:=fun z=>tz _ h1 (by rw[hj,z])
    refine⟨j,hj,?_⟩;rw[hb j,am cj,pz];obtain⟨a2,g1,g2⟩:=(h.all (s,l3)).mp Cm
    have ea:a=a2:=by
     obtain⟨i,hi⟩:=b5.mp h1;obtain⟨i2,mI⟩:=b5.mp g1;have e:i=i2:=GY h.nd (by rw[au,hi];rfl) (by rw[au,mI];rfl);rw[e,mI] at hi;exact(congrArg Prod.snd (af hi)).symm
    have g3:=o _ _ g2;rw[<-ea,h2] at g3;have:=HO.tup.inj (af g3);exact congrArg some (F3 this).symm
   ·have:=aq.mp h1;have e1:s=iw k:=congrArg Prod.fst this;have e2:a=t:=congrArg Prod.snd this;refine⟨k,e1,?_⟩;rw[hb k,aw Z];rw[e2,ht] at h2;exact congrArg some (F3 (HO.tup.inj (af h2)))
 ·intro x hx;rcases aG.mp hx with hx|hx
  ·obtain⟨l2,oZ⟩:=h.only x hx;obtain⟨j,hj,pz⟩:=(nP b _ _).mp oZ;have cj:j≠k:=fun z=>tz _ hx (by rw[hj,z])
   exact⟨l2,(nP b' _ _).mpr ⟨j,hj,by rw[hb j,am cj];exact pz⟩⟩
  ·rw[aq.mp hx];exact⟨l,(nP b' _ _).mpr ⟨k,Z,by rw[hb k,aw Z]⟩⟩
theorem lU.other{H:Hp}{ld:Addr}{ts:List (Str×Addr)}{b b':Book}(h:lU H ld ts b)(hb:∀j,iM b' j=iM b j):lU H ld ts b' where
 dict:=h.dict
 nd:=h.nd
 all:=fun x=>by
  rw[show(x∈uD b'↔x∈uD b) from by
   obtain⟨s,l⟩:=x;rw[nP,nP];constructor
   ·rintro⟨k,h1,h2⟩;exact⟨k,h1,by rw[<-hb];exact h2⟩
   ·rintro⟨k,h1,h2⟩;exact⟨k,h1,by rw[hb];exact h2⟩]
  exact h.all x
 only:=fun x hx=>by
  obtain⟨l,hl⟩:=h.only x hx;obtain⟨k,h1,h2⟩:=(nP b _ _).mp hl;exact⟨l,(nP b' _ _).mpr ⟨k,h1,by rw[hb];exact h2⟩⟩
theorem OH{H:Hp}{ld:Addr}(h:H ld=some (.dK [])):lU H ld [] noBook where
 dict:=h
 nd:=List.nodup_nil
 all:=fun x=>by
  constructor
  ·intro hx;simp[uD,noBook] at hx
  ·rintro⟨a,h1,_⟩;cases h1
 only:=fun x hx=>by cases hx
def YG(AA:gu)(K:PySem.W.Frag):Sp:=fun vs H Q E=>∃(a:Addr) (t:List Nat),vs=[.ref a]/\H a=some (.lst (t.map nV))/\t.length<=1000/\(∀f,Vbkdaa.read t=.error f->mH AA H E f.kind f.place)/\
 ∀b,Vbkdaa.read t=.ok b->∀(H':Hp) (L:ll),fQ H H'->lX AA H' L b->nU b->(∀n∈names b,lG n=true)->(∀y∈L.fp,H y=none)->Q (.ref L.s) H'
section
variable {P:Program} {w:World} {K:PySem.W.Frag} {mg:Str->Option Value} {base:Heap} {AA:gu}
theorem Sc:gP ["text","channels","told","words","end","keyword","channel","values"] ["text"] (gL (fX 58)):=gX (by decide+kernel)
theorem JN(T:Tx P w K mg AA):gK P w K mg base (jF P w AA.m8) 5 AA.JQ AA.JR ["text"] (YG AA K):=by
 have Vy:=UQ (base:=base) T;have E5:=Lh (base:=base) T;have RV:=RI (base:=base) T;have Tl:=SW (base:=base) T;have SC:=Sc;refine T.t7.fn.pZ SC (fun vs H Q E h=> ?_) (fun gy A outer s H vs Q E hr h=> ?_)
 ·obtain⟨a,t,rfl,_⟩:=h;rfl
 ·obtain⟨a,t,rfl,ha,hl,hE,hq⟩:=h;have hu:=wg hr
  refine⟨_,(fS (gj (i:=1) SC.nd Z (Or.inl Z) (gI fP))
   (fS (gj (i:=2) SC.nd Z (Or.inl Z) FU)
   (fS (lE O4 Z (ma (ic Vy (hr.mono (by decide)) Z T.AC.mg T.AC.fn.kp T.AC.b .nil gG (fN (pv 0) fP))) (rb Z (lR (iI (i:=3) SC.nd Z (Or.inl Z)) (lR (iI (i:=4) SC.nd Z (Or.inl Z)) qX)))
     (fV (gY (io mQ (gU iL (by rfl) T.len aF (fN (pv 3) fP)) fW (ii _))
       (fS (iR (ic RV (hr.mono (by decide)) Z T.zJ.mg T.zJ.fn.kp T.zJ.b .nil Bk (fN (hV jb (pv 3) fW (fun _ _=>rfl)) (fN (pv 1) (fN (pv 2) fP)))))
       (fS (gj (i:=5) SC.nd Z (Or.inl Z) (hV jH (hV jb (pv 3) fW (fun _ _=>rfl)) fW (fun _ _=>rfl)))
       (fS (gj (i:=7) SC.nd Z (Or.inl Z) (ic Tl (hr.mono (by decide)) Z T.zW.mg T.zW.fn.kp T.zW.b .nil Bk (fN (pv 3) (fN (pv 4) (fN (PE.rp (mf (own:=[("channel",6)]) Z SC.nd (ma (pv 1)) (lC (by kernel_rfl)) (fun s H C cl fp=>(iI (i:=6) SC.nd Z (Or.inl Z) (.inr Z))) (fun s H C cl fp=>md) (fun s H C cl fp=>(hV (r:=wy K) jH (pv 6) fW (fun _ _=>rfl))))) fP)))))
       (fV (gY (io xX (pv 5) (m7 Z T.O7) (by with_unfolding_all rfl))
         (fV (Gs hu (pv 2) (pv 5) (xW J3 (by rfl) T.tuple boot_tuple (fN (pv 7) fP)) Z))
         (fV (iR (iT ax aI aL kE (pv 1) (fN (xW J3 (by rfl) T.tuple boot_tuple (fN (pv 7) fP)) fP)))))))))
       ia)))
   (fV (gC (uw T.Mi E5 (hr.mono (by decide)) Z T.LH T.Mj .nil gG (fN (pv 1) (fN (pv 2) fP)))))))),?_⟩
  refine⟨aN _,fun q1 n1=> ?_⟩;refine fun q2 n2=> ?_
  have s1:fQ H (fM H q1 (.lst [])):=fQ.new n1;have s2:fQ H (fM (fM H q1 (.lst [])) q2 (.dK [])):=s1.more n2;have l7:q1≠q2:=fun z=>by rw[<-z,fO] at n2;cases n2
  have f2:H q2=none:=s1.free n2;have g1:(fM (fM H q1 (.lst [])) q2 (.dK [])) q1=some (.lst []):=by rw[fT l7,fO]
  have g2:(fM (fM H q1 (.lst [])) q2 (.dK [])) q2=some (.dK []):=fO;show jR _ _ _ _ (fM (fM H q1 (.lst [])) q2 (.dK []));generalize fM (fM H q1 (.lst [])) q2 (.dK [])=H2 at s2 g1 g2;refine⟨_,Z,a,t,Z,s2 _ _ ha,hl,fun H3 p3 vn s3 f3 g3 Cr=> ?_⟩;have IE:=XA t;have wd:=Gy (t++[10]) (t++[10]).length;rw[aT,IE] at wd;have vh:=(NO (t++[10]) (t++[10]).length).2.2;rw[aT,IE] at vh;simp only[ac] at vh;rw[IE] at Cr;simp only at Cr;have tl:(t++[10]).length<=1001:=by simp;omega
  generalize hTL:(t++[10]).length=tL at wd tl vh;have aaC:Vbkdaa.read t=bookFrom noBook (linesFrom 0 t):=rfl;rw[aaC] at hE hq;generalize hLS:linesFrom 0 t=LS at Cr hE hq wd vh;have h3p:H3 p3=some (.lst (vn.map V.ref)):=g3;have p8:q1≠p3:=gf g1 f3;have p5:q2≠p3:=gf g2 f3;have fp3:H p3=none:=s2.free f3
  refine⟨p3,Z,⟨_,fR.of g3⟩,qW (K:=K) (a:=p3) (xs:=vn.map V.ref) (fun i σ H'=>∃v3 v4 v5 v6 v7 cs ts b,σ=[some (.ref a),some (.ref q1),some (.ref q2),v3,v4,v5,v6,v7]/\fQ H H'/\H' p3=some (.lst (vn.map V.ref))/\q0 H2 H' vn (LS.map oM)/\H' q1=some (.lst (cs.map V.ref))/\iG H' Ch cs b.channels/\lU H' q2 ts b/\uM b/\ts.length<=i/\bookFrom noBook LS=bookFrom b (LS.drop i))
   ⟨none,none,none,none,none,[],[],noBook,Z,s2.trans s3,g3,Cr,s3 _ _ g1,iG.nil,OH (s3 _ _ g2),ZT,aA _,Z⟩ (fun i σ H' _ ⟨_,_,_,_,_,_,_,_,_,_,e,_⟩=>fR.of e) ?_ ?_⟩
  ·rintro i x σ H4 hx ⟨v3,v4,v5,v6,v7,cs,ts,b,rfl,s4,vo,xp,mX,xq,zo,hB,hti,mF⟩;obtain⟨tp,Qt,rfl⟩:=kF hx;have hi:i<vn.length:=(ap.mp Qt).1;have Qu:vn.length=LS.length:=by rw[xp.1,ac]
   have IF:LS[i]? =some LS[i]:=ak (by omega);generalize hln:LS[i]=ln at IF;have Io:(LS.map oM)[i]? =some (oM ln):=by rw[au,IF];rfl
   obtain⟨qw,ws,a1,a2,a3,a4⟩:=xp.2 i tp (oM ln) Qt Io;obtain⟨w1,w2⟩:=wd.ls (oM ln) (aS Io);rw[Ar IF] at mF;have wG:bookFrom noBook LS=match lineIn b (ln.1+ln.2.length) (wordsFrom ln.1 none ln.2) with|.error f=>.error f|.ok c=>bookFrom c (LS.drop (i+1)):=mF
   refine⟨tp,_,Z,kf a1,Z,_,_,Z,_,_,Z,Z,?_⟩;refine⟨_,Z,qw,_,Z,.inl (fR.of a2),_,_,Z,Z,_,Z,?_⟩;have zj:ws.length=(wordsFrom ln.1 none ln.2).length:=by rw[a3.1];simp[oM]
   rw[ac];cases IG:wordsFrom ln.1 none ln.2 with
   |nil=>
    rw[IG] at zj wG;refine gn (ae (by rw[zj];simp)) ?_;exact⟨_,_,v5,v6,v7,cs,ts,b,Z,s4,vo,xp,mX,xq,zo,hB,by omega,wG⟩
   |cons w0 r=>
    rw[IG] at zj wG;refine fZ (ai (by rw[zj];simp)) ?_;have Qv:(oM ln).1=ip w0::r.map ip:=by unfold oM;rw[IG];rfl
    rw[Qv] at a3 w2;have hby:lineIn b (ln.1+ln.2.length) (w0::r)=qz b (ln.1+ln.2.length) (ip w0) (r.map ip):=WB b _ w0 r hB.ch;rw[hby] at wG;have bad:∀f,qz b (ln.1+ln.2.length) (ip w0) (r.map ip)=.error f->mH AA H E f.kind f.place:=fun f hf=>hE f (by rw[wG,hf])
    obtain⟨t0,Cp,Pd⟩:=a3.addr (i:=0) (x:=ip w0) Z;have Cs:cs.length=b.channels.length:=xq.1;refine⟨_,Z,qw,_,_,_,Z,Z,fR.of a2,ir (j:=0) Z (by rw[au,Cp];rfl),_,Z,_,Z,t0,(ip w0).1,(ip w0).2,q1,cs,q2,ts,b,Z,Pd,mX,Cs,zo,fun hk=> ?_,fun k hk=>⟨fun qc=> ?_,fun qc hc h8=> ?_,fun qc qI=> ?_⟩⟩
    ·exact(bad ⟨1,(ip w0).2⟩ (by unfold qz;rw[hk])).at s4
    ·exact(bad ⟨4,(ip w0).2⟩ (by unfold qz;rw[hk];simp only;rw[aw qc])).at s4
    ·refine(bad ⟨5,(ip w0).2⟩ ?_).at s4;unfold qz;rw[hk];simp only;rw[am (by rw[qc];simp)];cases k<;>first|cases hc|skip
     rw[aw (ai h8)]
    have oK:qz b (ln.1+ln.2.length) (ip w0) (r.map ip)=(jm (ln.1+ln.2.length) (names b) (qy k) (jY k) (r.map ip)).map fun vs=>lV b vs k:=by
     unfold qz;rw[hk];simp only;rw[am (by rw[qc];simp),am];cases k<;>simp;intro z;exact qI ⟨Z,z⟩
    refine⟨_,Z,qw,_,_,_,Z,Z,fR.of a2,ir (j:=0) Z (by rw[au,Cp];rfl),t0,_,_,_,Z,Z,kf Pd,ir (j:=0) Z Z,?_⟩;refine⟨_,Z,_,Z,_,Z,q1,Z,⟨_,fR.of mX⟩,fun q5 n5=> ?_⟩;have tJ:=gf mX n5;refine sj (K:=K) (a:=q1) (xs:=cs.map V.ref) (fun j H'=>H'=fM H4 q5 (.lst ((((names b).take j).map fun n=>V.str (gJ n))))) Z (fun j H' _ e=>by rw[e];exact fR.of (by rw[fT tJ];exact mX)) ?_ ?_
    ·rintro j y H' hy rfl;obtain⟨c,hc,rfl⟩:=kF hy;obtain⟨chn,kh,BD⟩:=xq.get hc;have hj:j<b.channels.length:=(ap.mp kh).1;have hnj:(names b)[j]? =some chn.name:=by unfold names;rw[au,kh];rfl
     refine⟨Z,?_⟩;refine⟨_,Z,c,_,_,_,Z,Z,kf (by rw[fT (gf BD n5)];exact BD),ir (j:=0) Z Z,_,fO,iU (by rw[ac,aD];have:=hB.ch;unfold names;rw[ac];omega),?_⟩;rw[jn,take_snoc hnj,ao];rfl
    ·rintro H5 rfl;have enl:(names b).take (cs.map V.ref).length=names b:=aV (by rw[ac,Cs];unfold names;simp);rw[enl];have rM:=fQ.new (H:=H4) (o:=.lst ((names b).map fun n=>V.str (gJ n))) n5;have s5:=s4.trans rM;have Qw:(fM H4 q5 (.lst ((names b).map fun n=>V.str (gJ n)))) q5=some (.lst ((names b).map fun n=>V.str (gJ n))):=fO;have xr:=rM _ _ vo;have Qx:=xp.same rM;have oq:=rM _ _ mX;have Qy:=xq.same rM;have Qz:=zo.keep (ys:=[]) rM.own (by simp) (fun _ z=>by cases z);have IH:=rM _ _ a1;have Ct:=rM _ _ a2;have Cu:=a3.same rM;generalize fM H4 q5 (.lst ((names b).map fun n=>V.str (gJ n)))=H5 at s5 Qw xr Qx oq Qy Qz IH Ct Cu;refine⟨qw,ws,ip w0,r.map ip,ln.1+ln.2.length,q5,names b,k,Z,Ct,Cu,hk,fR.of Qw,hB.nm,fun x hx=> ?_,?_,fun f hf=> ?_,fun us tF H6 p6 s6 f6 g6=> ?_⟩
     ·have:=w2 x (by simp[hx]);exact⟨this.1,by omega⟩
     ·rw[Qv] at w1;simp only[aj] at w1;omega
     ·exact(bad f (by rw[oK,hf];rfl)).at s5
     have sP:=XS tF;have Bm:bookFrom noBook LS=bookFrom (lV b us k) (LS.drop (i+1)):=by rw[wG,oK,tF];rfl
     have xa:=hB.add sP qI;have tP:=s5.trans s6;have mq:=s6 _ _ oq;have QA:=Qz.keep (ys:=[]) s6.own (by simp) (fun _ z=>by cases z);have Cv:=Qy.same s6;have rG:=Qx.same s6;have xt:=s6 _ _ xr;have eo:[V.str "keep",V.str "buffer",V.str "delay",V.str "gap"]=([txt "keep",txt "buffer",txt "delay",txt "gap"].map fun k=>V.str (gJ k)):=by simp only[aB,cg,<-jq]
     have ko:=T.OF;rw[eo] at ko;refine⟨_,Z,AA.yn,_,Z,.inr ko.sq,Z,Aq _,_,Z,?_⟩;show(if oY (.str (ig (ip w0).1)) ([txt "keep",txt "buffer",txt "delay",txt "gap"].map fun k=>V.str (gJ k))=true then _ else _);rw[yc (ip w0).1 [txt "keep",txt "buffer",txt "delay",txt "gap"] (by decide)]
     have ec:[txt "keep",txt "buffer",txt "delay",txt "gap"].contains (ip w0).1= !oJ k:=by
      rw[E3 hk];cases k<;>decide
     rw[ec];have ekp:ig (ip w0).1=iw k:=Gb hk
     have QB:∀y∈([q1,q2]:List Addr),(H2 y).isSome=true:=fun y hy=>by
      rcases az.mp hy with rfl|hy
      ·rw[g1];rfl
      ·rw[aq.mp hy,g2];rfl
     cases kh:oJ k with
     |false=>
      refine fZ Z ?_;obtain⟨l,Iu,oZ⟩:=XT (b:=b) sP kh;refine⟨_,Z,p6,_,Z,.inl ⟨fR.of g6,fun q7 n7=> ?_⟩⟩;have kY:=fQ.new (H:=H6) (o:=.tup (us.map kZ)) n7;have zp:=QA.keep (ys:=[]) kY.own (by simp) (fun _ z=>by cases z);have P7:ts.length<sizeLine:=iU (by omega);refine⟨_,Z,_,Z,q2,_,Z,uW.k (k:=Sum.inr (ig (ip w0).1)) zp.dict (by rw[ac];exact P7),?_⟩;rw[ekp];have II:=zp.dict
      have ot:∀a l,(fM H6 q7 (.tup (us.map kZ))) a=some (.tup l)->(fM (fM H6 q7 (.tup (us.map kZ))) q2 (.dK (lJ (ts.map fun x=>((Sum.inr x.1:L2.Key),V.ref x.2)) (Sum.inr (iw k)) (V.ref q7)))) a=some (.tup l):=fun a l z=>by
       rw[fT (pL z II (by intro y;cases y))];exact z
      have n27:q7≠q2:=pL (o:=.tup (us.map kZ)) fO II (by intro y;cases y)
      have HW:iM b k=none:=by
       have:=Mm b k;rw[qc] at this;cases h:iM b k with
       |none=>rfl
       |some l=>rw[h] at this;cases this
      have IJ:lU (fM (fM H6 q7 (.tup (us.map kZ))) q2 (.dK (lJ (ts.map fun x=>((Sum.inr x.1:L2.Key),V.ref x.2)) (Sum.inr (iw k)) (V.ref q7)))) q2 (ts++[(iw k,q7)]) (lV b us k):=
       zp.add HW oZ ot fO (by rw[fT n27,fO,Iu];rfl)
      have o8:gE [q2] (fM H6 q7 (.tup (us.map kZ))) (fM (fM H6 q7 (.tup (us.map kZ))) q2 (.dK (lJ (ts.map fun x=>((Sum.inr x.1:L2.Key),V.ref x.2)) (Sum.inr (iw k)) (V.ref q7)))):=gE.refl.put (by simp);have xu:∀y∈([q2]:List Addr),∀xs,(fM H6 q7 (.tup (us.map kZ))) y≠some (.tup xs):=fun y hy xs z=>by rw[aq.mp hy,II] at z;cases z
      refine⟨_,_,_,v6,_,cs,ts++[(iw k,q7)],lV b us k,Z,(tP.trans kY).put f2,?_,(rG.same kY).keep o8 (fun y hy=>QB y (by simp at hy;simp[hy])) xu,?_,?_,IJ,xa,by simp;omega,Bm⟩
      ·rw[fT p5.symm];exact kY _ _ xt
      ·rw[fT l7];exact kY _ _ mq
      ·rw[XU kh];exact⟨Cv.1,fun j a y h1 h2=>kQ o8 xu ((Cv.same kY).2 j a y h1 h2)⟩
     |true=>
      refine gn Z ?_;have ekc:k=.jc:=by cases k<;>first|rfl|cases kh
      subst ekc;obtain⟨n,pp,aa,bb,rfl,hnm,_⟩:=Li sP;refine⟨_,Z,.inl ⟨Z,_,fR.of mq⟩,_,Z,p6,_,Z,.inl ⟨fR.of g6,fun q7 n7=> ?_⟩⟩;have kY:=fQ.new (H:=H6) (o:=.tup ([Sum.inl n,Sum.inr pp,Sum.inr aa,Sum.inr bb].map kZ)) n7;have qO:=kY _ _ mq;refine⟨q1,_,_,Z,Z,qO,iU (by rw[ac,Cs];have:=hB.ch;omega),?_⟩;have o8:gE [q1] (fM H6 q7 (.tup ([Sum.inl n,Sum.inr pp,Sum.inr aa,Sum.inr bb].map kZ))) (fM (fM H6 q7 (.tup ([Sum.inl n,Sum.inr pp,Sum.inr aa,Sum.inr bb].map kZ))) q1 (.lst (cs.map V.ref++[V.ref q7]))):=gE.refl.put (by simp);have xu:∀y∈([q1]:List Addr),∀xs,(fM H6 q7 (.tup ([Sum.inl n,Sum.inr pp,Sum.inr aa,Sum.inr bb].map kZ))) y≠some (.tup xs):=fun y hy xs z=>by rw[aq.mp hy,qO] at z;cases z
      have zp:=QA.keep (ys:=[]) kY.own (by simp) (fun _ z=>by cases z);have IJ:=(zp.keep o8 (by simpa using l7.symm) xu).other (b':=lV b [.inl n,.inr pp,.inr aa,.inr bb] .jc) WF;have hC8:iG (fM (fM H6 q7 (.tup ([Sum.inl n,Sum.inr pp,Sum.inr aa,Sum.inr bb].map kZ))) q1 (.lst (cs.map V.ref++[V.ref q7]))) Ch cs b.channels:=⟨Cv.1,fun j a y h1 h2=>kQ o8 xu ((Cv.same kY).2 j a y h1 h2)⟩;have IK:q7≠q1:=pL (o:=.tup ([Sum.inl n,Sum.inr pp,Sum.inr aa,Sum.inr bb].map kZ)) fO qO (by intro y;cases y);refine⟨_,_,_,v6,_,cs++[q7],ts,lV b [.inl n,.inr pp,.inr aa,.inr bb] .jc,Z,(tP.trans kY).put n1,?_,(rG.same kY).keep o8 (fun y hy=>QB y (by simp at hy;simp[hy])) xu,?_,?_,IJ,xa,by omega,Bm⟩
      ·rw[fT p8.symm];exact kY _ _ xt
      ·rw[fO,ao];rfl
      ·refine hC8.snoc ?_;rw[fT IK,fO];rfl
  ·rintro σ H4 ⟨v3,v4,v5,v6,v7,cs,ts,b,rfl,s4,vo,xp,mX,xq,zo,hB,hti,mF⟩;have Qu:vn.length=LS.length:=by rw[xp.1,ac]
   rw[ac,Qu,eu] at mF;have gh:bookFrom noBook LS=.ok b:=mF;refine⟨_,Z,_,Z,?_⟩;intro x dx nx Cw ne;have sA:fQ H4 (fM (fM H4 dx (.own x)) x (.ins AA.lQ dx [])):=(fQ.new Cw).more (by rw[fT ne.symm];exact nx);refine⟨x,dx,q1,cs,q2,ts,b,Z,fO,sA _ _ mX,xq.same sA,zo.keep (ys:=[]) sA.own (by simp) (fun _ z=>by cases z),hB.ch,fun H5 o5 hS5=>⟨Z,?_⟩⟩;have fx:H x=none:=s4.free nx;refine hq b gh H5 ⟨x,dx,q1,q2,cs,ts⟩ ?_ hS5 hB.ok hB.nm ?_
   ·intro c o e;refine o5 _ _ (sA _ _ (s4 _ _ e)) ?_;simp only[aq];intro z;rw[z,fx] at e;cases e
   ·intro y hy;simp only[ll.fp,az,bh,cN] at hy;rcases hy with rfl|rfl|rfl
    ·exact fx
    ·exact n1
    ·exact f2
end
end FE
namespace L2
open PySem PySem.Spec PyProof.Rows
theorem T9{X:Cx}:mP X (.type "str") (fun xs H Q=>(∃i,xs=[.int i]/\i.natAbs.log2<1920/\Q (.str (toString i)) H)\/∃z,xs=[.str z]/\Q (.str z) H):=by
 intro fL s σ H xs us Q I r h;rcases h with h|⟨z,rfl,q⟩
 ·exact TR fL s σ H xs us Q I r h
 ·obtain⟨u,rfl,t,rfl⟩:=vals1 r;exact PySem.P.str_of_str ⟨.str z,H,I,⟨_,Z⟩,q⟩
end L2
namespace FE
open PySem PySem.Spec PyProof.Rows L2
open VbkdCore (txt decimal between Bytes)
open Vbkdaa (Book Channel lineOf printed)
inductive pS:List Due->List ik->Prop
 |nil:pS [] []
 |word {k:Bytes} {ds:List Due} {us:List ik}:pS ds us->pS (.word k::ds) us
 |num {hi n:Nat} {ds:List Due} {us:List ik}:pS ds us->pS (.num hi::ds) (.inr n::us)
 |name {n:Bytes} {ds:List Due} {us:List ik}:pS ds us->pS (.name::ds) (.inl n::us)
def uF:ik->Bytes
 |.inl n=>n
 |.inr n=>decimal n
def j1:List Due->List ik->List Bytes
 |.word k::ds,us=>k::j1 ds us
 |.num _::ds,u::us=>uF u::j1 ds us
 |.name::ds,u::us=>uF u::j1 ds us
 |_,_=>[]
def nX(k:Key)(us:List ik):Bytes:=between 32 (jt k::j1 (jY k) us)++[10]
def wt:ik->Prop
 |.inl n=>n.length<=8
 |.inr n=>n<=4095
theorem AN(n:Nat):(toString (n:Int):String)=String.ofList (Nat.toDigits 10 n):=by
 show Int.repr (n:Int)=_;simp[Int.repr,Nat.repr]
theorem YH(n:Nat):Str.ofString (toString (n:Int))=gJ (decimal n):=by
 rw[jq,AN];unfold txt decimal;simp
theorem NT{n:Nat}(h:n<=4095):(decimal n).length<=4:=by
 unfold decimal;rw[ac];exact(Nat.length_toDigits_le_iff (by decide) (by decide)).mpr (by omega)
theorem NU{v:ik}(h:wt v):(uF v).length<=8:=by
 cases v with
 |inl n=>exact h
 |inr n=>
  have:=NT (n:=n) h;show(decimal n).length<=8;omega
theorem NV:∀(w:Bytes) (ws:List Bytes) (acc:Bytes),((ws.map gJ).foldl (fun acc p=>acc++(gJ [32]).cps++p.cps) (acc++w).toArray)=(acc++between 32 (w::ws)).toArray
 |w,[],acc=>by simp[between]
 |w,x::ws,acc=>by
  rw[aB,bJ];have e:(acc++w).toArray++(gJ [32]).cps++(gJ x).cps=((acc++w++[32])++x).toArray:=by simp[gJ]
  rw[e,NV x ws (acc++w++[32])]
  congr 1
  show acc++w++[32]++between 32 (x::ws)=acc++(w++(32::between 32 (x::ws)));simp
theorem LN(w:Bytes)(ws:List Bytes):Txt.join (Str.ofString " ") ((w::ws).map gJ)=gJ (between 32 (w::ws)):=by
 show Builtin.Str.glued (Str.ofString " ") _=_;unfold Builtin.Str.glued;rw[show Str.ofString " "=gJ [32] from by rw[jq];rfl];have:=NV w ws [];simp only[List.nil_append] at this;rw[aB,List.drop_one,List.tail_cons,List.headD_cons];show(⟨(ws.map gJ).foldl _ w.toArray⟩:Str)=_;rw[this];rfl
theorem WG(ws:List Bytes):Txt.join (Str.ofString "") (ws.map gJ)=gJ ws.flatten:=by
 show Builtin.Str.glued (Str.ofString "") _=_;unfold Builtin.Str.glued;rw[show Str.ofString ""=gJ [] from by rw[jq];rfl];cases ws with
 |nil=>rfl
 |cons w ws=>
  rw[aB,List.drop_one,List.tail_cons,List.headD_cons]
  have:∀(ws:List Bytes) (acc:Bytes),((ws.map gJ).foldl (fun acc p=>acc++(gJ []).cps++p.cps) acc.toArray)=(acc++ws.flatten).toArray:=by
   intro ws
   induction ws with
   |nil=>intro acc;simp
   |cons x ws ih=>
    intro acc;rw[aB,bJ];have e:acc.toArray++(gJ []).cps++(gJ x).cps=(acc++x).toArray:=by simp[gJ]
    rw[e,ih];simp
  show(⟨(ws.map gJ).foldl _ w.toArray⟩:Str)=_;rw[this ws w];simp[gJ]
theorem Ev:∀ws:List Bytes,(∀w∈ws,w.length<=20)->(between 32 ws).length<=21*ws.length
 |[],_=>by simp[between]
 |[w],h=>by have:=h w (by simp);simp[between];omega
 |w::x::ws,h=>by
  have:=Ev (x::ws) fun y hy=>h y (by simp[hy])
  have h2:=h w (by simp);show(w++(32::between 32 (x::ws))).length<=_;simp only[ag,aj] at this⊢;omega
theorem WH(k:Key):nW (jt k)=some k:=by cases k<;>decide
def ZU(AA:gu)(K:PySem.W.Frag):Sp:=fun vs H Q _=>∃(k:Key) (p:Addr) (us:List ik),vs=[.str (iw k),.ref p]/\iN K H p (us.map kZ)/\pS (jY k) us/\(∀u∈us,wt u)/\∀H',fQ H H'->Q (.str (gJ (nX k us))) H'
def ZV(AA:gu)(K:PySem.W.Frag):Sp:=fun vs H Q _=>∃(L:ll) (b:Book),vs=[.ref L.s]/\lX AA H L b/\nU b/\∀(H':Hp) (p:Addr),fQ H H'->H p=none->H' p=some (.lst ((printed b).map nV))->Q (.ref p) H'
theorem NW{k:Key}:∀w∈jt k::(jY k).filterMap (fun d=>match d with|.word w=>some w|_=>none),w.length<=8:=by
 cases k<;>decide
theorem WI{n:Nat}(h:n<=4095):((n:Int).natAbs).log2<1920:=by
 show n.log2<1920
 by_cases h0:n=0
 ·subst h0;decide
 ·exact aU ((Nat.log2_lt h0).mpr (show n<2^12 by omega)) (by decide)
section
variable {P:Program} {w:World} {K:PySem.W.Frag} {mg:Str->Option Value} {base:Heap} {AA:gu}
theorem Vz:gP ["keyword","values","words","used","due"] ["keyword","values"] (gL (fX 66)):=gX (by decide+kernel)
theorem VA(T:Tx P w K mg AA):gK P w K mg base gT 1 AA.Md AA.Me ["keyword","values"] (ZU AA K):=by
 have SC:=Vz;refine T.uA.fn.ok SC (fun vs H Q E h=> ?_) (fun gy A outer s H vs Q E hr h=> ?_)
 ·obtain⟨k,p,us,rfl,_⟩:=h;rfl
 ·obtain⟨k,p,us,rfl,hP,sP,gh,hq⟩:=h
  refine⟨_,(fS (gj (i:=2) SC.nd Z (Or.inl Z) (gI (fN (pv 0) fP)))
   (fS (gj (i:=3) SC.nd Z (Or.inl Z) fW)
   (fS (lE bg Z (GG (qZ T.GP (m7 Z T.G3) (pv 0) (fun _ _=>rfl))) (iI (i:=4) SC.nd Z (Or.inl Z))
     (fV (gY (PW.pt (pM (io nj (pv 4) (uz Z T.O6) (ii _)) (qu (lT (gU Lq (by rfl) T.isinstance boot_isinstance (fN (pv 4) (fN (Ni (v:=V.ty "int") Z T.int boot_int Z) fP)))))))
       (fS (iR (iT ax aI aL kE (pv 2) (fN (xW T9 (by rfl) T.str boot_str (fN (hV jH (pv 1) (pv 3) (fun _ _=>rfl)) fP)) fP)))
       (fV (vU (i:=3) SC.nd Z (Or.inl Z) fW A3)))
       (fV (iR (iT ax aI aL kE (pv 2) (fN (pv 4) fP)))))))
   (fV (gC (gA Vb (Ny kq (pv 2)) kq)))))),?_⟩
  have kt:=MX T k;obtain⟨Iy,Iz⟩:=Gd k;have zn:=NS k;have dl:=NW (k:=k);refine⟨_,Z,fY (by simp),fun q1 n1=> ?_⟩;have s1:fQ H (fM H q1 (.lst [V.str (iw k)])):=fQ.new n1
  have ef:i5 [((Sum.inr "channel":L2.Key),V.ref AA.uc),(Sum.inr "keep",.ref AA.ue),(Sum.inr "buffer",.ref AA.uf),(Sum.inr "delay",.ref AA.uh),(Sum.inr "gap",.ref AA.ui)] (Sum.inr (iw k))=some (V.ref (mM AA k)):=by
   have:=Gc AA (jt k);rw[Ad (FH k)] at this;exact this.trans (by rw[WH];rfl)
  have QC:nX k us=between 32 (jt k::j1 (jY k) us)++[10]:=rfl;generalize Qj:jY k=ds at kt Iy Iz zn dl sP QC
  refine⟨_,Z,Sum.inr (iw k),_,Z,ef,mM AA k,Z,⟨_,kt.sq⟩,Nj (K:=K) (a:=mM AA k) (xs:=ds.map mS) (fun i σ H'=>∃(v4:Option V) (ws:List Bytes) (j:Nat),σ=[some (.str (iw k)),some (.ref p),some (.ref q1),some (.int j),v4]/\fQ H H'/\H' q1=some (.lst (ws.map fun x=>V.str (gJ x)))/\ws.length=i+1/\(∀x∈ws,x.length<=20)/\pS (ds.drop i) (us.drop j)/\jt k::j1 ds us=ws++j1 (ds.drop i) (us.drop j))
   ⟨none,[jt k],0,Z,s1,fO,Z,fun x hx=>by rw[aq.mp hx];have:=dl (jt k) (by simp);omega,sP,Z⟩ (fun i σ H' _ _=>kt.sq) ?_ ?_⟩
  ·rintro i x σ H2 hx ⟨v4,ws,j,rfl,s2,g2,rK,uZ,hf,lO⟩;obtain⟨d,hd,rfl⟩:=kF hx;have hi:i<ds.length:=(ap.mp hd).1;have dk:G5 d=true:=a9.mp zn d (aS hd);rw[Ar hd] at hf lO;have hz:(ws.map fun x=>V.str (gJ x)).length<sizeLine:=iU (by rw[ac];omega);cases d with
   |word kw=>
    refine⟨_,Z,Z,_,Z,?_⟩;refine gn (ae (NR kw dk)) ?_;refine⟨_,Z,_,Z,.inr ⟨_,Z⟩,_,Z,?_⟩;refine gn Z ?_;refine⟨_,Z,.inl ⟨Z,_,fR.of g2⟩,_,Z,q1,_,_,Z,Z,g2,hz,?_⟩;cases hf with
    |word hf=>
     refine⟨some (mS (.word kw)),ws++[kw],j,Z,s2.put n1,?_,by simp;omega,fun x hx=> ?_,hf,?_⟩
     ·rw[fO,ao];rfl
     ·rcases aG.mp hx with hx|hx
      ·exact uZ x hx
      ·rw[aq.mp hx]
       have:=dl kw (by
        refine aX _ (ci.mpr ⟨.word kw,aS hd,Z⟩))
       omega
     ·rw[lO,a6];rfl
   |num mI=>
    refine⟨_,Z,Z,_,Z,?_⟩;refine gn (ae (by intro z;cases z)) ?_;refine⟨_,Z,_,Z,.inl ⟨_,Z⟩,_,Z,?_⟩;refine fZ Z ?_;generalize hu:us.drop j=ur at hf lO;cases hf with
    | @num _ n _ tH hf=>
      have zq:us[j]? =some (.inr n):=by
       have:(us.drop j)[0]? =some (.inr n):=by rw[hu];rfl
       rwa [cU,Nat.add_zero] at this
      have hn:n<=4095:=gh _ (aS zq);refine⟨_,Z,.inl ⟨Z,_,fR.of g2⟩,_,Z,_,Z,p,_,_,_,Z,Z,O5 s2 hP,ir (j:=j) Z (by rw[au,zq];rfl),.inl ⟨_,Z,WI hn,?_⟩⟩;refine⟨q1,_,_,Z,Z,g2,hz,?_⟩;refine⟨_,Z,_,_,Z,Z,?_⟩;refine⟨some (mS (.num mI)),ws++[decimal n],j+1,Z,s2.put n1,?_,by simp;omega,fun x hx=> ?_,?_,?_⟩
      ·rw[fO,ao];show some (HO.lst (ws.map (fun x=>V.str (gJ x))++[V.str (Str.ofString (toString (n:Int)))]))=_;rw[YH];rfl
      ·rcases aG.mp hx with hx|hx
       ·exact uZ x hx
       ·rw[aq.mp hx];have:=NT hn;omega
      ·have:us.drop (j+1)=tH:=by rw[<-bw,hu];rfl
       rw[this];exact hf
      ·have:us.drop (j+1)=tH:=by rw[<-bw,hu];rfl
       rw[this,lO,a6];rfl
   |name=>
    refine⟨_,Z,Z,_,Z,?_⟩;refine fZ (ai Z) ?_;refine fZ Z ?_;generalize hu:us.drop j=ur at hf lO;cases hf with
    | @name n _ tH hf=>
      have zq:us[j]? =some (.inl n):=by
       have:(us.drop j)[0]? =some (.inl n):=by rw[hu];rfl
       rwa [cU,Nat.add_zero] at this
      have hn:n.length<=8:=gh _ (aS zq);refine⟨_,Z,.inl ⟨Z,_,fR.of g2⟩,_,Z,_,Z,p,_,_,_,Z,Z,O5 s2 hP,ir (j:=j) Z (by rw[au,zq];rfl),.inr ⟨_,Z,?_⟩⟩;refine⟨q1,_,_,Z,Z,g2,hz,?_⟩;refine⟨_,Z,_,_,Z,Z,?_⟩;refine⟨some (mS .name),ws++[n],j+1,Z,s2.put n1,?_,by simp;omega,fun x hx=> ?_,?_,?_⟩
      ·rw[fO,ao];rfl
      ·rcases aG.mp hx with hx|hx
       ·exact uZ x hx
       ·rw[aq.mp hx];omega
      ·have:us.drop (j+1)=tH:=by rw[<-bw,hu];rfl
       rw[this];exact hf
      ·have:us.drop (j+1)=tH:=by rw[<-bw,hu];rfl
       rw[this,lO,a6];rfl
  ·rintro σ H2 ⟨v4,ws,j,rfl,s2,g2,rK,uZ,hf,lO⟩;rw[ac,eu] at hf lO;rw[ac] at rK;have wH:jt k::j1 ds us=ws:=by rw[lO];cases us.drop j<;>simp[j1]
   have em:ws.map (fun x=>V.str (gJ x))=(ws.map gJ).map V.str:=by rw[bE];rfl
   rw[em] at g2;have zg:=Ev ws uZ
   have afh:((ws.map gJ).map (·.length)).sum<=20*ws.length:=by
    clear wH lO em g2 rK zg
    induction ws with
    |nil=>simp
    |cons x r ih=>
     have h1:=uZ x (by simp);have h2:=ih fun y hy=>uZ y (by simp[hy])
     rw[aB,aB,List.sum_cons,pI,aj];omega
   have l1:(Str.ofString " ").length=1:=by rw[jq,pI];rfl
   have l2:(Str.ofString "\n").length=1:=by rw[jq,pI];rfl
   refine⟨⟨_,Z⟩,_,Z,_,q1,ws.map gJ,Z,Z,.inl (fR.of g2),?_,_,_,Z,Z,?_,?_⟩
   ·rw[l1,ac];omega
   ·rw[<-wH,LN,pI,l2,wH];exact fY (by omega)
   ·rw[<-wH,LN,wH]
    have e:gJ (between 32 ws)++Str.ofString "\n"=gJ (between 32 ws++[10]):=by
     rw[jq];show(⟨(between 32 ws).toArray++(txt "\n").toArray⟩:Str)=_;rw[show txt "\n"=[10] from by decide];unfold gJ;simp
    rw[e];have:=hq H2 s2;rw[QC,wH] at this;exact this
end
open Vbkdaa (ahead behind depth rate high low delayOf gapOf)
def uG(c:Channel):List ik:=[.inl c.name,.inr c.pedestal,.inr c.on,.inr c.off]
def oC:List Key:=[.keep,.buffer,.delay,.gap]
def kO(b:Book)(k:Key):List Bytes:=match iM b k with
 |some l=>[nX k (l.map Sum.inr)]
 |none=>[]
def oy(b:Book):List Bytes:=b.channels.map (fun c=>nX .jc (uG c))++oC.flatMap (kO b)
theorem E6(b:Book):(oy b).flatten=printed b:=by
 unfold oy printed oC;rw[eB]
 congr 1
 ·have e:[Key.keep,Key.buffer,Key.delay,Key.gap].flatMap (kO b)=kO b .keep++(kO b .buffer++(kO b .delay++kO b .gap)):=by simp
  rw[e,eB,eB,eB]
  congr 1
  ·unfold kO iM;cases b.keep<;>simp[nX,jt,jY,wo,j1,uF,lineOf]
  ·congr 1
   ·unfold kO iM;cases b.buffer<;>simp[nX,jt,jY,vS,j1,uF,lineOf]
   ·congr 1
    ·unfold kO iM;cases b.delay<;>simp[nX,jt,jY,Bc,j1,uF,lineOf]
    ·unfold kO iM;cases b.gap<;>simp[nX,jt,jY,Bz,j1,uF,lineOf]
theorem NX{b:Book}(h:nU b){k:Key}{l:List Nat}(ht:iM b k=some l):(∀u∈l.map (Sum.inr:Nat->ik),wt u)/\pS (jY k) (l.map Sum.inr):=by
 have h1:=h.ah;have h2:=h.be;have h3:=h.dp;have h4:=h.rt;have h5:=h.hi;have h6:=h.lo;have h7:=h.de;have h8:=h.ga;cases k with
 |jc=>cases ht
 |keep=>
  unfold iM at ht;cases hb:b.keep with
  |none=>rw[hb] at ht;cases ht
  |some x=>
   rw[hb] at ht;have:=af ht;subst this;unfold ahead at h1;unfold behind at h2;rw[hb] at h1 h2;refine⟨?_,.num (.num .nil)⟩;simp only[Option.getD_some] at h1 h2;intro u hu;simp only[aB,cg,az,bh,cN] at hu;rcases hu with rfl|rfl<;>(show _<=4095)<;>omega
 |buffer=>
  unfold iM at ht;cases hb:b.buffer with
  |none=>rw[hb] at ht;cases ht
  |some x=>
   rw[hb] at ht;have:=af ht;subst this;unfold depth Vbkdaa.bufferOf at h3;unfold rate Vbkdaa.bufferOf at h4;unfold high Vbkdaa.bufferOf at h5;unfold low Vbkdaa.bufferOf at h6;rw[hb] at h3 h4 h5 h6;refine⟨?_,.num (.word (.num (.word (.num (.word (.num .nil))))))⟩;simp only[Option.getD_some] at h3 h4 h5 h6;intro u hu;simp only[aB,cg,az,bh,cN] at hu;rcases hu with rfl|rfl|rfl|rfl<;>(show _<=4095)<;>omega
 |delay=>
  unfold iM at ht;cases hb:b.delay with
  |none=>rw[hb] at ht;cases ht
  |some x=>
   rw[hb] at ht;have:=af ht;subst this;unfold delayOf at h7;rw[hb] at h7;refine⟨?_,.num .nil⟩;simp only[Option.getD_some] at h7;intro u hu;simp only[aB,cg,az,bh,cN] at hu;subst hu;show _<=4095;omega
 |gap=>
  unfold iM at ht;cases hb:b.gap with
  |none=>rw[hb] at ht;cases ht
  |some x=>
   rw[hb] at ht;have:=af ht;subst this;unfold gapOf at h8;rw[hb] at h8;refine⟨?_,.num .nil⟩;simp only[Option.getD_some] at h8;intro u hu;simp only[aB,cg,az,bh,cN] at hu;subst hu;show _<=4095;omega
theorem OI{b:Book}(h:nU b){c:Channel}(hc:c∈b.channels):(∀u∈uG c,wt u)/\pS (jY .jc) (uG c):=by
 obtain⟨h1,h2,h3,h4⟩:=h.cn c hc;refine⟨?_,.name (.word (.num (.word (.num (.word (.num .nil))))))⟩;intro u hu;unfold uG at hu;simp only[az,bh,cN] at hu;rcases hu with rfl|rfl|rfl|rfl
 ·exact h1
 ·exact h2
 ·exact h3
 ·exact h4
theorem AJ:∀(ds:List Due) (us:List ik),(∀w,Due.word w∈ds->w.length<=8)->(∀u∈us,wt u)->(∀w∈j1 ds us,w.length<=20)/\(j1 ds us).length<=ds.length
 |[],us,_,_=>⟨fun w hw=>by simp[j1] at hw,by simp[j1]⟩
 |.word k::ds,us,h1,h2=>by
  obtain⟨a,b⟩:=AJ ds us (fun w hw=>h1 w (by simp[hw])) h2;unfold j1;refine⟨fun w hw=> ?_,by simp only[aj];omega⟩;rcases az.mp hw with rfl|hw
  ·have:=h1 w (by simp);omega
  ·exact a w hw
 |.num hi::ds,[],_,_=>⟨fun w hw=>by simp[j1] at hw,by simp[j1]⟩
 |.num hi::ds,u::us,h1,h2=>by
  obtain⟨a,b⟩:=AJ ds us (fun w hw=>h1 w (by simp[hw])) (fun v hv=>h2 v (by simp[hv]));unfold j1;refine⟨fun w hw=> ?_,by simp only[aj];omega⟩;rcases az.mp hw with rfl|hw
  ·have:=NU (h2 u (by simp));omega
  ·exact a w hw
 |.name::ds,[],_,_=>⟨fun w hw=>by simp[j1] at hw,by simp[j1]⟩
 |.name::ds,u::us,h1,h2=>by
  obtain⟨a,b⟩:=AJ ds us (fun w hw=>h1 w (by simp[hw])) (fun v hv=>h2 v (by simp[hv]));unfold j1;refine⟨fun w hw=> ?_,by simp only[aj];omega⟩;rcases az.mp hw with rfl|hw
  ·have:=NU (h2 u (by simp));omega
  ·exact a w hw
theorem Mo{k:Key}{us:List ik}(h:∀u∈us,wt u):(nX k us).length<=200:=by
 have dl:=NW (k:=k);obtain⟨a,b⟩:=AJ (jY k) us (fun w hw=>dl w (aX _ (ci.mpr ⟨.word w,hw,Z⟩))) h;have b7:=(Gd k).1;unfold nX
 have:=Ev (jt k::j1 (jY k) us) (fun w hw=>by
  rcases az.mp hw with rfl|hw
  ·have:=dl (jt k) (by simp);omega
  ·exact a w hw)
 rw[ag];simp only[aj,aZ] at this⊢;omega
theorem M3{b:Book}(h:nU b):(∀x∈oy b,x.length<=200)/\(oy b).length<=12:=by
 have h8:=h.ch;unfold oy;constructor
 ·intro x hx;rcases aG.mp hx with hx|hx
  ·obtain⟨c,hc,rfl⟩:=bi.mp hx;exact Mo (OI h hc).1
  ·obtain⟨k,_,hk⟩:=List.mem_flatMap.mp hx;unfold kO at hk;cases ht:iM b k with
   |none=>rw[ht] at hk;cases hk
   |some l=>
    rw[ht] at hk;rw[aq.mp hk];exact Mo (NX h ht).1
 ·have e:∀k,(kO b k).length<=1:=fun k=>by unfold kO;split<;>simp
  have e1:=e .keep;have e2:=e .buffer;have e3:=e .delay;have e4:=e .gap;unfold oC;simp only[ag,ac,br,List.flatMap_nil,aZ];omega
theorem M4:∀ws:List Bytes,((ws.map gJ).map (·.length)).sum=ws.flatten.length
 |[]=>rfl
 |w::ws=>by rw[aB,aB,List.sum_cons,pI,M4 ws,cu,ag]
theorem GB:∀ws:List Bytes,(∀x∈ws,x.length<=200)->ws.flatten.length<=200*ws.length
 |[],_=>by simp
 |w::ws,h=>by
  have h1:=h w (by simp);have h2:=GB ws fun x hx=>h x (by simp[hx])
  rw[cu,ag,aj];omega
section
variable {P:Program} {w:World} {K:PySem.W.Frag} {mg:Str->Option Value} {base:Heap} {AA:gu}
theorem UT:gP ["settings","channel","lines","keyword","sign"] ["settings"] (gL (fX 65)):=gX (by decide+kernel)
theorem UU(T:Tx P w K mg AA):gK P w K mg base gT 2 AA.LC AA.LD ["settings"] (ZV AA K):=by
 have Mp:=VA (base:=base) T;have SC:=UT;refine T.AD.fn.ok SC (fun vs H Q E h=> ?_) (fun gy A outer s H vs Q E hr h=> ?_)
 ·obtain⟨L,b,rfl,_⟩:=h;rfl
 ·obtain⟨L,b,rfl,hS,hB,hq⟩:=h;have hu:=wg hr
  refine⟨_,(fS (ML (i:=2) (own:=[("channel",1)]) Z SC.nd Z Z (Nr Z Z Z (by kernel_rfl)) (ma (show PE _ _ (yu K _ _) from gc (pv 0) Z)) (lC (by kernel_rfl)) (fun s H C cl fp=>(iI (i:=1) SC.nd Z (Or.inl Z) (.inr Z))) (fun s H C cl fp=>md) (fun s H C cl fp=>(ic Mp (hr.mono (by decide)) Z T.uA.mg T.uA.fn.kp T.uA.b .nil gG (fN kq (fN (pv 1) fP)))))
   (fS (lE bg Z (GG (m7 Z T.O7)) (iI (i:=3) SC.nd Z (Or.inl Z))
     (fV (gY (qt (Oc hu (pv 3) (gc (pv 0) Z)))
       (fV (iR (iT ax aI aL kE (pv 2) (fN (ic Mp (hr.mono (by decide)) Z T.uA.mg T.uA.fn.kp T.uA.b .nil gG (fN (pv 3) (fN (Nv hu (gc (pv 0) Z) (pv 3) (fun _ _=>rfl)) fP))) fP))))
       ia)))
   (fV (gC (mf (own:=[("sign",4)]) Z SC.nd (GK (Ny kq (pv 2))) (lC (by kernel_rfl)) (fun s H C cl fp=>(iI (i:=4) SC.nd Z (Or.inl Z) (.inr Z))) (fun s H C cl fp=>md) (fun s H C cl fp=>(gU uo (by rfl) T.ord boot_ord (fN (pv 4) fP)))))))),?_⟩
  obtain⟨tl1,tl2⟩:=M3 hB;have h8:=hB.ch;generalize Cy:b.channels.map (fun c=>nX .jc (uG c))=CL;have cll:CL.length=b.channels.length:=by rw[<-Cy,ac]
  have Cs:L.cs.length=b.channels.length:=hS.mv.1;refine⟨_,Z,L.s,_,L.dx,_,_,Z,hS.ins,T.im,T.nJ,Z,L.lc,Z,⟨_,fR.of hS.mr⟩,fun q1 n1=> ?_⟩;refine sj (K:=K) (a:=L.lc) (xs:=L.cs.map V.ref) (fun j H'=>fQ H H'/\H' q1=some (.lst ((CL.take j).map fun x=>V.str (gJ x)))) ⟨fQ.new n1,fO⟩ (fun j H' _ e=>fR.of (e.1 _ _ hS.mr)) ?_ ?_
  ·rintro j y H2 hy ⟨s2,g2⟩;obtain⟨c,hc,rfl⟩:=kF hy;obtain⟨ch,kh,BD⟩:=hS.mv.get hc;obtain⟨o1,o2⟩:=OI hB (aS kh);have mo:CL[j]? =some (nX .jc (uG ch)):=by rw[<-Cy,au,kh];rfl
   have hj:j<CL.length:=(ap.mp mo).1;refine⟨Z,?_⟩;refine⟨_,Z,.jc,c,uG ch,by rw[ua.1];rfl,kf (s2 _ _ BD),o2,o1,fun H3 s3=> ?_⟩;refine⟨_,s3 _ _ g2,iU (by rw[ac,aD];omega),(s2.trans s3).put n1,?_⟩;rw[fO,take_snoc mo,ao];rfl
  ·rintro H2 ⟨s2,g2⟩;rw[ac,aV (by omega)] at g2;have ko:=T.OF
   have ek:[V.str "keep",V.str "buffer",V.str "delay",V.str "gap"]=oC.map fun k=>V.str (iw k):=by
    obtain⟨e1,e2,e3,e4,e5⟩:=ua;unfold oC;simp only[aB,cg,e2,e3,e4,e5]
   rw[ek] at ko
   refine⟨AA.yn,Z,⟨_,ko.sq⟩,Nj (K:=K) (a:=AA.yn) (xs:=oC.map fun k=>V.str (iw k)) (fun i σ H'=>∃(v1 v3 v4:Option V),σ=[some (.ref L.s),v1,some (.ref q1),v3,v4]/\fQ H H'/\H' q1=some (.lst ((CL++(oC.take i).flatMap (kO b)).map fun x=>V.str (gJ x))))
    ⟨none,none,none,Z,s2,by rw[g2];simp⟩ (fun i σ H' _ _=>ko.sq) ?_ ?_⟩
   ·rintro i x σ H3 hx ⟨v1,v3,v4,rfl,s3,g3⟩;obtain⟨k,hk,rfl⟩:=kF hx;have ox:=hS.same s3;have hi:i<oC.length:=(ap.mp hk).1
    have j6:(CL++(oC.take i).flatMap (kO b)).length<=12:=by
     refine a8 ?_ tl2;unfold oy;rw[Cy,ag,ag]
     have:((oC.take i).flatMap (kO b)).length<=(oC.flatMap (kO b)).length:=by
      conv=>rhs;rw[<-bP i oC,bO,ag]
      omega
     omega
    rw[take_snoc hk,bO];refine⟨_,Z,_,Z,L.s,_,L.dx,_,_,Z,ox.ins,T.im,T.DG,Z,L.ld,_,Z,lK.k (k:=Sum.inr (iw k)) ox.told.dict,_,Z,?_⟩;rcases ox.told.val k with⟨z1,z2⟩|⟨l,a,z1,z3,z2⟩
    ·have IL:kO b k=[]:=by unfold kO;rw[z1]
     refine gn (by rw[z2];rfl) ?_;refine⟨v1,some (.str (iw k)),v4,Z,s3,?_⟩;rw[g3];simp[IL]
    ·have IL:kO b k=[nX k (l.map Sum.inr)]:=by unfold kO;rw[z1]
     refine fZ (by rw[z2];rfl) ?_;obtain⟨o1,o2⟩:=NX hB z1
     have hg:lK H3 L.ld (V.str (iw k)) (some (V.ref a)):=by
      have:=lK.k (k:=Sum.inr (iw k)) ox.told.dict;rw[z2] at this;exact this
     refine⟨_,Z,.inl ⟨Z,_,fR.of g3⟩,_,Z,_,Z,L.s,_,L.dx,_,_,Z,ox.ins,T.im,T.DG,Z,_,Z,L.ld,_,Z,hg,k,a,l.map Sum.inr,Z,?_,o2,o1,fun H4 s4=> ?_⟩
     ·have:=kf (K:=K) (H:=H3) (a:=a) z3;rw[show l.map nV=(l.map (Sum.inr:Nat->ik)).map kZ from by rw[bE];rfl] at this;exact this
     refine⟨q1,_,_,Z,Z,s4 _ _ g3,iU (by rw[ac];omega),?_⟩;refine⟨v1,some (.str (iw k)),v4,Z,(s3.trans s4).put n1,?_⟩;rw[fO];simp[IL]
   ·rintro σ H3 ⟨v1,v3,v4,rfl,s3,g3⟩;rw[ac,aT,<-Cy] at g3;have QD:H3 q1=some (.lst ((oy b).map fun x=>V.str (gJ x))):=g3;have em:(oy b).map (fun x=>V.str (gJ x))=((oy b).map gJ).map V.str:=by rw[bE];rfl
    rw[em] at QD;have tK:=GB (oy b) tl1;refine⟨⟨_,Z⟩,_,Z,_,q1,(oy b).map gJ,Z,Z,.inl (fR.of QD),?_,?_⟩
    ·have l0:(Str.ofString "").length=0:=by rw[jq,pI];rfl
     rw[M4,l0];omega
    rw[WG,E6];rw[E6] at tK;generalize printed b=pr at hq tK;refine⟨_,Z,fun q2 n2=> ?_⟩;refine GS (x:=gJ pr) (fun i H'=>H'=fM H3 q2 (.lst ((pr.take i).map nV))) Z ?_ ?_
    ·rintro i c H' hc rfl
     have qE:pr[i]? =some c:=by
      have:(gJ pr).cps=pr.toArray:=rfl;rw[this,List.getElem?_toArray] at hc;exact hc
     refine⟨Z,?_⟩;refine⟨_,Z,_,Z,Z,_,fO,iU (by rw[ac,aD];omega),?_⟩;rw[jn,take_snoc qE,ao];rfl
    ·rintro H' rfl;have es:(gJ pr).cps.size=pr.length:=pI pr;rw[es,aT];exact hq _ q2 (s3.more n2) (s3.free n2) fO
end
end FE
namespace FE
open PySem PySem.Spec PyProof.Rows L2
open Vbkdaa (Book Channel Front ahead behind depth rate high low delayOf gapOf isHigh signal busyNow encoded bitsOf keptOf frameBits width signs cross crossTimes)
def pK(b:Book):Nat->RS->Bool->List Nat->RS
 |0,m,_,_=>m
 |k+1,m,a,s=>pN b (pK b k m a s) a s
theorem zK(b:Book):∀(k:Nat) (f:Front) (a:Bool) (s:List Nat),crossTimes b (k+1) f a s=cross b (crossTimes b k f a s) a s
 |0,f,a,s=>rfl
 |k+1,f,a,s=>by
  show crossTimes b (k+1) (cross b f a s) a s=_;rw[zK b k];rfl
theorem WJ(b:Book)(f:Front)(a:Bool)(s:List Nat):(cross b f a s).done.length=f.done.length+1:=rfl
theorem FI(b:Book):∀(k:Nat) (f:Front) (a:Bool) (s:List Nat),(crossTimes b k f a s).done.length=f.done.length+k
 |0,f,a,s=>rfl
 |k+1,f,a,s=>by rw[zK,WJ,FI b k];omega
theorem E7{b:Book}{m:RS}{f:Front}(g:Good b m f)(asked:Bool)(s:List Nat)(hs:s.length=b.channels.length)(hv:∀y∈s,y<4096):∀k:Nat,f.done.length+k<=400->Good b (pK b k m asked s) (crossTimes b k f asked s)
 |0,_=>g
 |k+1,hk=>by
  rw[zK];exact(E7 g asked s hs hv k (by omega)).yG (by rw[FI];omega) asked s hs hv
def YI(AA:gu):Sp:=fun vs H Q _=>∃(L:gM) (b:Book) (m:RS) (f:Front) (n:Nat) (asked:Bool) (a:Addr) (s:List Nat),vs=[.ref L.r,.int n,bV asked,.ref a]/\ij AA H L b m/\Good b m f/\f.done.length+n<=400/\H a=some (.lst (s.map nV))/\a∉L.mut/\s.length=b.channels.length/\(∀y∈s,y<4096)/\
 ∀(H':Hp) (rs hs ts fs:List Addr),(∀x∈rs,x∈L.rows\/x=a)->j4 H L.gD hs->j4 H L.gO fs->gE L.mut H H'->ij AA H' {L with rows:=rs,gD:=hs,gZ:=ts,gO:=fs} b (pK b n m asked s)->Q .gS H'
def YJ(AA:gu):Sp:=fun vs H Q _=>∃(x dx:Addr) (LS:ll) (b:Book),vs=[.ref x,.ref LS.s]/\H x=some (.ins AA.hJ dx [])/\lX AA H LS b/\x∉LS.fp/\
 ∀(H':Hp) (L:gM),L.r=x->L.S=LS->gE [x] H H'->ij AA H' L b ou->(∀y∈L.mut,y=x\/H y=none)->L.rows=[]->L.gD=[]->L.gO=[]->Q .gS H'
theorem vZ{H:Hp}{q x:Addr}{u o:HO}{o0:HO}(hx:H x=some o0)(nq:H q=none):(fM (fM H q u) x o) q=some u:=by rw[fT (fun z=>by rw[z,hx] at nq;cases nq),fO]
theorem mK{H:Hp}{q x:Addr}{u o w:HO}{c:Addr}(nq:H q=none)(hc:H c=some w)(nc:c≠x):(fM (fM H q u) x o) c=some w:=by rw[fT nc,fT (gf hc nq)];exact hc
theorem vP{H H0:Hp}{q x:Addr}{u o:HO}(s:gE [x] H0 H)(nq:H q=none):gE [x] H0 (fM (fM H q u) x o):=(s.trans (fQ.new nq).own).put (by simp)
section
variable {P:Program} {w:World} {K:PySem.W.Frag} {mg:Str->Option Value} {base:Heap} {AA:gu}
theorem Rl:gP ["self","often","asked","samples","turn"] ["self","often","asked","samples"] (gL (iZ (fX 35) 2)):=gX (by decide+kernel)
theorem Rm(T:Tx P w K mg AA):gK P w K mg base gT 6 AA.CU AA.CV ["self","often","asked","samples"] (YI AA):=by
 have DK:=JW (base:=base) T;have SC:=Rl;refine T.Rp.ok SC (fun vs H Q E h=> ?_) (fun gy A outer s H vs Q E hr h=> ?_)
 ·obtain⟨L,b,m,f,n,asked,a,sl,rfl,_⟩:=h;rfl
 ·obtain⟨L,b,m,f,n,asked,a,sl,rfl,hR,hG,hn,ha,na,pq,hv,hq⟩:=h
  refine⟨_,(fV (lE bg Z (xU Z T.range (fN (pv 1) fP)) (iI (i:=4) SC.nd Z (Or.inl Z))
   (fV (iR (oE (pv 0) T.gH T.KE DK (hr.mono (by decide)) T.Kk .nil gG (fN (pv 2) (fN (pv 3) fP))))))),?_⟩
  refine⟨_,Z,(n:Int),Z,by omega,by omega,VX (n:=(n:Int).toNat) (fun i σ H'=>∃v4 rs hs ts fs,σ=[some (.ref L.r),some (.int n),some (bV asked),some (.ref a),v4]/\(∀x∈rs,x∈L.rows\/x=a)/\j4 H L.gD hs/\j4 H L.gO fs/\gE L.mut H H'/\ij AA H' {L with rows:=rs,gD:=hs,gZ:=ts,gO:=fs} b (pK b i m asked sl))
   ⟨none,L.rows,L.gD,L.gZ,L.gO,Z,fun _ z=>.inl z,j4.kG,j4.kG,gE.refl,hR⟩ ?_ ?_⟩
  ·rintro i σ H1 hi ⟨v4,rs,hs,ts,fs,rfl,IM,tQ,qe,o1,iJ⟩;have hi:i<n:=by omega
   refine⟨_,Z,L.r,L.dx,_,Z,iJ.ins,Z,_,Z,_,Z,{L with rows:=rs,gD:=hs,gZ:=ts,gO:=fs},b,pK b i m asked sl,crossTimes b i f asked sl,asked,a,sl,Z,iJ,E7 hG asked sl pq hv i (by omega),by rw[FI];omega,o1 _ _ ha na,na,pq,hv,fun H2 rs2 sZ ts2 fs2 nr2 nh2 rN o2 iS=> ?_⟩;have fr:∀x,H1 x=none->H x=none:=fun x hx=>iJ.free (L:={L with rows:=rs,gD:=hs,gZ:=ts,gO:=fs}) o1 hx
   exact⟨_,rs2,sZ,ts2,fs2,Z,fun x hx=>(nr2 x hx).elim (IM x) .inr,tQ.back nh2 fr,qe.back rN fr,o1.trans o2,iS⟩
  ·rintro σ H1 ⟨v4,rs,hs,ts,fs,rfl,IM,tQ,qe,o1,iJ⟩;rw[a7] at iJ;exact hq H1 rs hs ts fs IM tQ qe o1 iJ
theorem Ss:gP ["self","settings"] ["self","settings"] (gL (iZ (fX 35) 0)):=gX (by decide+kernel)
theorem LO(T:Tx P w K mg AA):gK P w K mg base gT 1 AA.DB AA.DC ["self","settings"] (YJ AA):=by
 have SC:=Ss;refine T.SI.ok SC (fun vs H Q E h=> ?_) (fun gy A outer s H vs Q E hr h=> ?_)
 ·obtain⟨x,dx,LS,b,rfl,_⟩:=h;rfl
 ·obtain⟨x,dx,LS,b,rfl,hx,hS,nx,hq⟩:=h
  refine⟨_,(fS (js (pv 0) (pv 1) Z)
   (fS (js (pv 0) (gI fP) Z)
   (fS (js (pv 0) (gI fP) Z)
   (fS (js (pv 0) (gI fP) Z)
   (fS (js (pv 0) (gI fP) Z)
   (fS (js (pv 0) FU Z)
   (fS (js (pv 0) (gI fP) Z)
   (fS (js (pv 0) fW Z)
   (fV (js (pv 0) fW Z)))))))))),?_⟩
  refine⟨_,Z,_,Z,x,_,dx,_,Z,hx,T.gH,T.ly,(by show 0<1000;decide),?_⟩;have o1:gE [x] H (fM H x (.ins AA.hJ dx [("settings",.ref LS.s)])):=gE.refl.put (by simp);have x1:(fM H x (.ins AA.hJ dx [("settings",.ref LS.s)])) x=some (.ins AA.hJ dx [("settings",.ref LS.s)]):=fO;show jR _ _ _ _ (fM H x (.ins AA.hJ dx [("settings",.ref LS.s)]));generalize fM H x (.ins AA.hJ dx [("settings",.ref LS.s)])=H1 at o1 x1;refine⟨aN _,fun q1 n1=> ?_⟩;have e1:(fM H1 q1 (.lst [])) x=some (.ins AA.hJ dx [("settings",.ref LS.s)]):=(fQ.new n1) _ _ x1;refine⟨_,Z,x,_,dx,_,Z,e1,T.gH,T.Dj,(by show 1<1000;decide),?_⟩;have o2:=vP (u:=.lst []) (o:=.ins AA.hJ dx [("settings",.ref LS.s),("samples",.ref q1)]) o1 n1;have x2:(fM (fM H1 q1 (.lst [])) x (.ins AA.hJ dx [("settings",.ref LS.s),("samples",.ref q1)])) x=_:=fO;have qM:=vZ (u:=.lst []) (o:=.ins AA.hJ dx [("settings",.ref LS.s),("samples",.ref q1)]) x1 n1;have d1:q1≠x:=(gf x1 n1).symm;have f1:H q1=none:=qo o1 (by simpa using d1) n1;show jR _ _ _ _ (fM (fM H1 q1 (.lst [])) x (.ins AA.hJ dx [("settings",.ref LS.s),("samples",.ref q1)]));generalize fM (fM H1 q1 (.lst [])) x (.ins AA.hJ dx [("settings",.ref LS.s),("samples",.ref q1)])=H2 at o2 x2 qM;refine⟨aN _,fun q2 n2=> ?_⟩;refine⟨_,Z,x,_,dx,_,Z,(fQ.new n2) _ _ x2,T.gH,T.t5,(by show 2<1000;decide),?_⟩;have o3:=vP (u:=.lst []) (o:=.ins AA.hJ dx [("settings",.ref LS.s),("samples",.ref q1),("highs",.ref q2)]) o2 n2;have x3:(fM (fM H2 q2 (.lst [])) x (.ins AA.hJ dx [("settings",.ref LS.s),("samples",.ref q1),("highs",.ref q2)])) x=_:=fO;have qf:=vZ (u:=.lst []) (o:=.ins AA.hJ dx [("settings",.ref LS.s),("samples",.ref q1),("highs",.ref q2)]) x2 n2;have rO:=mK (u:=.lst []) (o:=.ins AA.hJ dx [("settings",.ref LS.s),("samples",.ref q1),("highs",.ref q2)]) n2 qM d1;have d2:q2≠x:=(gf x2 n2).symm;have f2:H q2=none:=qo o2 (by simpa using d2) n2;show jR _ _ _ _ (fM (fM H2 q2 (.lst [])) x (.ins AA.hJ dx [("settings",.ref LS.s),("samples",.ref q1),("highs",.ref q2)]));generalize fM (fM H2 q2 (.lst [])) x (.ins AA.hJ dx [("settings",.ref LS.s),("samples",.ref q1),("highs",.ref q2)])=H3 at o3 x3 rO qf;refine⟨aN _,fun q3 n3=> ?_⟩;refine⟨_,Z,x,_,dx,_,Z,(fQ.new n3) _ _ x3,T.gH,T.qi,(by show 3<1000;decide),?_⟩;have o4:=vP (u:=.lst []) (o:=.ins AA.hJ dx [("settings",.ref LS.s),("samples",.ref q1),("highs",.ref q2),("fates",.ref q3)]) o3 n3;have x4:(fM (fM H3 q3 (.lst [])) x (.ins AA.hJ dx [("settings",.ref LS.s),("samples",.ref q1),("highs",.ref q2),("fates",.ref q3)])) x=_:=fO;have vo:=vZ (u:=.lst []) (o:=.ins AA.hJ dx [("settings",.ref LS.s),("samples",.ref q1),("highs",.ref q2),("fates",.ref q3)]) x3 n3;have mX:=mK (u:=.lst []) (o:=.ins AA.hJ dx [("settings",.ref LS.s),("samples",.ref q1),("highs",.ref q2),("fates",.ref q3)]) n3 rO d1;have qa:=mK (u:=.lst []) (o:=.ins AA.hJ dx [("settings",.ref LS.s),("samples",.ref q1),("highs",.ref q2),("fates",.ref q3)]) n3 qf d2;have d3:q3≠x:=(gf x3 n3).symm;have f3:H q3=none:=qo o3 (by simpa using d3) n3;show jR _ _ _ _ (fM (fM H3 q3 (.lst [])) x (.ins AA.hJ dx [("settings",.ref LS.s),("samples",.ref q1),("highs",.ref q2),("fates",.ref q3)]));generalize fM (fM H3 q3 (.lst [])) x (.ins AA.hJ dx [("settings",.ref LS.s),("samples",.ref q1),("highs",.ref q2),("fates",.ref q3)])=H4 at o4 x4 mX qa vo;refine⟨aN _,fun q4 n4=> ?_⟩;refine⟨_,Z,x,_,dx,_,Z,(fQ.new n4) _ _ x4,T.gH,T.rY,(by show 4<1000;decide),?_⟩;have o5:=vP (u:=.lst []) (o:=.ins AA.hJ dx [("settings",.ref LS.s),("samples",.ref q1),("highs",.ref q2),("fates",.ref q3),("busies",.ref q4)]) o4 n4;have x5:(fM (fM H4 q4 (.lst [])) x (.ins AA.hJ dx [("settings",.ref LS.s),("samples",.ref q1),("highs",.ref q2),("fates",.ref q3),("busies",.ref q4)])) x=_:=fO;have xg:=vZ (u:=.lst []) (o:=.ins AA.hJ dx [("settings",.ref LS.s),("samples",.ref q1),("highs",.ref q2),("fates",.ref q3),("busies",.ref q4)]) x4 n4;have oq:=mK (u:=.lst []) (o:=.ins AA.hJ dx [("settings",.ref LS.s),("samples",.ref q1),("highs",.ref q2),("fates",.ref q3),("busies",.ref q4)]) n4 mX d1;have tI:=mK (u:=.lst []) (o:=.ins AA.hJ dx [("settings",.ref LS.s),("samples",.ref q1),("highs",.ref q2),("fates",.ref q3),("busies",.ref q4)]) n4 qa d2;have xr:=mK (u:=.lst []) (o:=.ins AA.hJ dx [("settings",.ref LS.s),("samples",.ref q1),("highs",.ref q2),("fates",.ref q3),("busies",.ref q4)]) n4 vo d3;have d4:q4≠x:=(gf x4 n4).symm;have f4:H q4=none:=qo o4 (by simpa using d4) n4;show jR _ _ _ _ (fM (fM H4 q4 (.lst [])) x (.ins AA.hJ dx [("settings",.ref LS.s),("samples",.ref q1),("highs",.ref q2),("fates",.ref q3),("busies",.ref q4)]));generalize fM (fM H4 q4 (.lst [])) x (.ins AA.hJ dx [("settings",.ref LS.s),("samples",.ref q1),("highs",.ref q2),("fates",.ref q3),("busies",.ref q4)])=H5 at o5 x5 oq tI xr xg;refine fun q5 n5=> ?_
  refine⟨_,Z,x,_,dx,_,Z,(fQ.new n5) _ _ x5,T.gH,T.vD,(by show 5<1000;decide),?_⟩;have o6:=vP (u:=.dK []) (o:=.ins AA.hJ dx [("settings",.ref LS.s),("samples",.ref q1),("highs",.ref q2),("fates",.ref q3),("busies",.ref q4),("frames",.ref q5)]) o5 n5;have x6:(fM (fM H5 q5 (.dK [])) x (.ins AA.hJ dx [("settings",.ref LS.s),("samples",.ref q1),("highs",.ref q2),("fates",.ref q3),("busies",.ref q4),("frames",.ref q5)])) x=_:=fO;have IN:=vZ (u:=.dK []) (o:=.ins AA.hJ dx [("settings",.ref LS.s),("samples",.ref q1),("highs",.ref q2),("fates",.ref q3),("busies",.ref q4),("frames",.ref q5)]) x5 n5;have mq:=mK (u:=.dK []) (o:=.ins AA.hJ dx [("settings",.ref LS.s),("samples",.ref q1),("highs",.ref q2),("fates",.ref q3),("busies",.ref q4),("frames",.ref q5)]) n5 oq d1;have ph:=mK (u:=.dK []) (o:=.ins AA.hJ dx [("settings",.ref LS.s),("samples",.ref q1),("highs",.ref q2),("fates",.ref q3),("busies",.ref q4),("frames",.ref q5)]) n5 tI d2;have xt:=mK (u:=.dK []) (o:=.ins AA.hJ dx [("settings",.ref LS.s),("samples",.ref q1),("highs",.ref q2),("fates",.ref q3),("busies",.ref q4),("frames",.ref q5)]) n5 xr d3;have tN:=mK (u:=.dK []) (o:=.ins AA.hJ dx [("settings",.ref LS.s),("samples",.ref q1),("highs",.ref q2),("fates",.ref q3),("busies",.ref q4),("frames",.ref q5)]) n5 xg d4;have d5:q5≠x:=(gf x5 n5).symm;have f5:H q5=none:=qo o5 (by simpa using d5) n5;show jR _ _ _ _ (fM (fM H5 q5 (.dK [])) x (.ins AA.hJ dx [("settings",.ref LS.s),("samples",.ref q1),("highs",.ref q2),("fates",.ref q3),("busies",.ref q4),("frames",.ref q5)]));generalize fM (fM H5 q5 (.dK [])) x (.ins AA.hJ dx [("settings",.ref LS.s),("samples",.ref q1),("highs",.ref q2),("fates",.ref q3),("busies",.ref q4),("frames",.ref q5)])=H6 at o6 x6 mq ph xt tN IN;refine⟨aN _,fun q6 n6=> ?_⟩;refine⟨_,Z,x,_,dx,_,Z,(fQ.new n6) _ _ x6,T.gH,T.zM,(by show 6<1000;decide),?_⟩;refine⟨_,Z,x,_,dx,_,Z,fO,T.gH,T.xM,(by show 7<1000;decide),?_⟩;refine⟨_,Z,x,_,dx,_,Z,fO,T.gH,T.zN,(by show 8<1000;decide),?_⟩;rw[jn,jn];have d6:q6≠x:=(gf x6 n6).symm;have f6:H q6=none:=qo o6 (by simpa using d6) n6
  have nd:([x,q1,q2,q3,q4,q5,q6]:List Addr).Nodup:=by
   have a12:=gf qM n2;have a13:=gf rO n3;have a14:=gf mX n4;have IH:=gf oq n5;have a16:=gf mq n6;have a23:=gf qf n3;have a24:=gf qa n4;have Ct:=gf tI n5;have a26:=gf ph n6;have a34:=gf vo n4;have Cu:=gf xr n5;have a36:=gf xt n6;have a45:=gf xg n5;have a46:=gf tN n6;have a56:=gf IN n6;simp only[bj,az,bh,cN,not_or,not_false_eq_true,List.nodup_nil,and_true];exact⟨⟨d1.symm,d2.symm,d3.symm,d4.symm,d5.symm,d6.symm⟩,⟨a12,a13,a14,IH,a16⟩,⟨a23,a24,Ct,a26⟩,⟨a34,Cu,a36⟩,⟨a45,a46⟩,a56⟩
  have o7:=vP (u:=.lst []) (o:=.ins AA.hJ dx (pj ⟨x,dx,q1,q2,q3,q4,q5,q6,[],[],[],[],LS⟩ 0 0)) o6 n6;refine hq _ ⟨x,dx,q1,q2,q3,q4,q5,q6,[],[],[],[],LS⟩ Z Z o7 ?_ ?_ Z Z Z
  ·have hS7:lX AA _ LS b:=hS.keep o7 (fun a ha z=>nx (by rw[<-aq.mp z];exact ha)) (fun y hy xs z=>by rw[aq.mp hy,hx] at z;cases z)
   exact{
    ins:=fO
    jQ:=mK n6 mq d1
    rows:=iG.nil
    i0:=mK n6 ph d2
    gD:=iG.nil
    iW:=mK n6 xt d3
    jf:=mK n6 tN d4
    jG:=mK n6 IN d5
    gZ:=iG.nil
    gO:=iG.nil
    kM:=vZ x6 n6
    set:=hS7
    nd:=nd
    sep:=by
     intro a ha z;have ha:a∈LS.fp:=by simpa using ha
     have hs:(H a).isSome=true:=hS.xf a ha;simp only[gM.mut,az,bh,cN] at z;rcases z with rfl|rfl|rfl|rfl|rfl|rfl|rfl
     ·exact nx ha
     ·rw[f1] at hs;cases hs
     ·rw[f2] at hs;cases hs
     ·rw[f3] at hs;cases hs
     ·rw[f4] at hs;cases hs
     ·rw[f5] at hs;cases hs
     ·rw[f6] at hs;cases hs
    kj:=aA _}
  ·intro y hy;simp only[gM.mut,az,bh,cN] at hy;rcases hy with rfl|rfl|rfl|rfl|rfl|rfl|rfl
   ·exact .inl Z
   ·exact .inr f1
   ·exact .inr f2
   ·exact .inr f3
   ·exact .inr f4
   ·exact .inr f5
   ·exact .inr f6
end
end FE
namespace FE
open Vbkdaa (bitsOf signs bitsIn shift remainder checked encoded Frame keptOf width frameBits samplesIn decoded frameSigns)
theorem YK(a b:Nat)(y:Bool):2*(a^^^b)+iu y=(2*a)^^^(2*b+iu y):=by
 apply Nat.eq_of_testBit_eq;intro i;cases i with
 |zero=>cases y<;>simp[iu,Nat.testBit_zero,eM]<;>omega
 |succ i=>
  have e1:(2*(a^^^b)+iu y)/2=a^^^b:=by cases y<;>simp[iu]<;>omega
  have e2:(2*b+iu y)/2=b:=by cases y<;>simp[iu]<;>omega
  have e3:2*a/2=a:=by omega
  rw[eM,Nat.testBit_succ,Nat.testBit_succ,Nat.testBit_succ,e1,e2,e3,eM]
theorem YL{u:Nat}(h:u<32768):decide (16384<=u)=u.testBit 14:=by
 have e:u.testBit 14=decide (u/2^14% 2=1):=by rw[dj]
 rw[e]
 congr 1
 apply propext;simp only[show(2:Nat)^14=16384 by decide];omega
theorem WK(r:Nat)(b:Bool):shift r b=if (2*r+iu b).testBit 14=true/\2*r+iu b<32768\/32768<=2*r+iu b then(2*r+iu b)^^^17475 else 2*r+iu b:=by
 unfold shift iu Vbkdaa.TOP Vbkdaa.POLY;simp only;generalize 2*r+(if b=true then 1 else 0)=x
 by_cases h:x<32768
 ·have:=YL h
  by_cases c:16384<=x
  ·rw[ai c] at this;rw[aw c,aw (.inl ⟨this.symm,h⟩)]
  ·rw[ae c] at this;rw[am c,am (by rintro(⟨z,_⟩|z);rw[<-this] at z;cases z;omega)]
 ·rw[aw (by omega),aw (.inr (by omega))]
theorem FJ{r:Nat}(h:r<16384)(b:Bool):shift r b=if (2*r+iu b).testBit 14=true then(2*r+iu b)^^^17475 else 2*r+iu b:=by
 have hx:2*r+iu b<32768:=by cases b<;>simp[iu]<;>omega
 rw[WK]
 by_cases c:(2*r+iu b).testBit 14=true
 ·rw[aw (.inl ⟨c,hx⟩),aw c]
 ·rw[am (by rintro(⟨z,_⟩|z);exact c z;omega),am c]
theorem WL{a b:Nat}(ha:a<16384)(hb:b<16384)(y:Bool):shift (a^^^b) y=shift a false^^^shift b y:=by
 have IP:a^^^b<16384:=Nat.xor_lt_two_pow (n:=14) ha hb;rw[FJ IP,FJ ha,FJ hb,YK];have e0:2*a+iu false=2*a:=by simp[iu]
 rw[e0];generalize 2*a=u;generalize 2*b+iu y=v;rw[eM];cases hu:u.testBit 14<;>cases hv:v.testBit 14<;>simp
 ·rw[eE]
 ·rw[eE,Nat.xor_comm v 17475,<-eE]
 ·rw[eE,Nat.xor_comm 17475 (v^^^17475),eE v,Nat.xor_self,Nat.xor_zero]
theorem M5:∀(l:List Bool) (a b:Nat),a<16384->b<16384->l.foldl shift (a^^^b)=(List.replicate l.length false).foldl shift a^^^l.foldl shift b
 |[],a,b,_,_=>rfl
 |y::l,a,b,ha,hb=>by
  rw[bJ,WL ha hb,M5 l _ _ (FW _ _ ha) (FW _ _ hb)];rfl
theorem LP:∀(l:List Bool) (n:Nat),n<16384->(l.foldl (fun n b=>n*2+iu b) n)<16384->l.foldl shift n=l.foldl (fun n b=>n*2+iu b) n
 |[],n,_,_=>rfl
 |y::l,n,h,hz=>by
  rw[bJ] at hz⊢
  have mono:∀(l:List Bool) (m:Nat),m<=l.foldl (fun n b=>n*2+iu b) m:=by
   intro l
   induction l with
   |nil=>intro m;exact aA _
   |cons x l ih=>intro m;rw[bJ];exact a8 (by omega) (ih _)
  have hm:=mono l (n*2+iu y)
  have e:shift n y=n*2+iu y:=by
   unfold shift Vbkdaa.TOP;simp only;have:2*n+(if y=true then 1 else 0)=n*2+iu y:=by unfold iu;omega
   rw[this,am (by omega)]
  rw[bJ,e];exact LP l _ (by omega) hz
theorem Lj(k n:Nat):bitsOf (k+1) n=bitsOf k (n/2)++[n% 2==1]:=by
 apply List.ext_getElem?;intro i
 by_cases hi:i<k
 ·rw[Aj (by omega),bp (by rw[jX];exact hi),Aj hi];rw[show k+1-1-i=(k-1-i)+1 by omega,Nat.pow_succ,Nat.mul_comm,<-Nat.div_div_eq_div_mul]
 ·by_cases mI:i=k
  ·subst mI;rw[Aj (by omega),bx (by rw[jX];omega),jX];simp
  ·rw[bA (by rw[jX];omega),bA (by simp[jX];omega)]
theorem xO(k n:Nat)(h:n<2^k):Vbkdaa.valueOf (bitsOf k n)=n:=by
 induction k generalizing n with
 |zero=>
  have:n=0:=by simp at h;omega
  subst this;rfl
 |succ k ih=>
  rw[Lj,pG,bX];have:=ih (n/2) (by rw[Nat.pow_succ] at h;omega);rw[pG] at this;rw[this];show n/2*2+iu (n% 2==1)=n;rw[NC];omega
theorem Ua(l:List Bool)(x:Bool):Vbkdaa.valueOf (l++[x])=Vbkdaa.valueOf l*2+iu x:=by
 rw[pG,pG,bX];rfl
theorem Ge:∀(m:List Bool) (n:Nat),m.foldl (fun n b=>n*2+iu b) n=n*2^m.length+m.foldl (fun n b=>n*2+iu b) 0
 |[],n=>by simp
 |x::m,n=>by
  rw[bJ,bJ,Ge m (n*2+iu x),Ge m (0*2+iu x),aj,Nat.pow_succ,Nat.add_mul,Nat.zero_mul,dF,Nat.mul_assoc,Nat.mul_comm 2 (2^m.length),Nat.add_assoc]
theorem UV(l m:List Bool):Vbkdaa.valueOf (l++m)=Vbkdaa.valueOf l*2^m.length+Vbkdaa.valueOf m:=by
 rw[pG,pG,pG,bX,Ge m]
theorem xP:∀(k:Nat) (l:List Bool),l.length=k->bitsOf k (Vbkdaa.valueOf l)=l
 |0,l,h=>by
  have:l=[]:=aM.mp h;subst this;rfl
 |k+1,l,h=>by
  have ne:l≠ []:=by intro z;rw[z] at h;simp at h
  have e:=List.dropLast_concat_getLast ne;generalize hl:l.dropLast=l' at e;generalize l.getLast ne=x at e;have Hy:l'.length=k:=by rw[<-hl,List.length_dropLast];omega
  rw[<-e,Ua,Lj];have e1:(Vbkdaa.valueOf l'*2+iu x)/2=Vbkdaa.valueOf l':=by cases x<;>simp[iu]<;>omega
  have e2:((Vbkdaa.valueOf l'*2+iu x)% 2==1)=x:=by
   cases x
   ·rw[show(Vbkdaa.valueOf l'*2+iu false)% 2=0 by simp[iu]];rfl
   ·rw[show(Vbkdaa.valueOf l'*2+iu true)% 2=1 by simp[iu]];rfl
  rw[e1,e2,xP k l' Hy]
theorem NY(l:List Nat)(c d:Nat)(hc:c<128)(hd:d<128):remainder (l++[c,d])=remainder (l++[0,0])^^^(c*128+d):=by
 have split:∀u v:Nat,(bitsIn (l++[u,v])).foldl shift 0=(bitsOf 7 u++bitsOf 7 v).foldl shift ((bitsIn l).foldl shift 0):=by
  intro u v;unfold bitsIn;rw[bO,bX];simp
 unfold remainder;rw[split,split];have hr:(bitsIn l).foldl shift 0<16384:=AS _ _ (by decide);generalize (bitsIn l).foldl shift 0=r at hr
 have QE:∀u v:Nat,u<128->v<128->(bitsOf 7 u++bitsOf 7 v).foldl shift r=(List.replicate 14 false).foldl shift r^^^(u*128+v):=by
  intro u v hu hv;have e:=M5 (bitsOf 7 u++bitsOf 7 v) r 0 hr (by decide);rw[Nat.xor_zero] at e
  have QF:Vbkdaa.valueOf (bitsOf 7 u++bitsOf 7 v)=u*128+v:=by
   rw[UV,xO 7 u (by simpa using hu),xO 7 v (by simpa using hv),jX]
  have hs:=LP (bitsOf 7 u++bitsOf 7 v) 0 (by decide) (by rw[<-pG,QF];omega);rw[<-pG,QF] at hs;rw[e,hs,ag,jX,jX]
 rw[QE c d hc hd,QE 0 0 (by decide) (by decide)];simp
theorem VB(l:List Nat):remainder (checked l)=0:=by
 unfold checked;simp only;have h:=zR (l++[0,0]);rw[NY l _ _ (by omega) (by omega)];rw[show remainder (l++[0,0])/128*128+remainder (l++[0,0])% 128=remainder (l++[0,0]) by omega,Nat.xor_self]
theorem Tn(l:List Nat)(c d:Nat)(hc:c<128)(hd:d<128)(h:remainder (l++[c,d])=0):checked l=l++[c,d]:=by
 rw[NY l c d hc hd] at h
 have e:remainder (l++[0,0])=c*128+d:=by
  have:=congrArg (·^^^(c*128+d)) h;simpa [eE] using this
 unfold checked;simp only;rw[e,show(c*128+d)/128=c by omega,show(c*128+d)% 128=d by omega]
theorem r0(l:List Nat):(bitsIn l).length=7*l.length:=by
 unfold bitsIn
 induction l with
 |nil=>rfl
 |cons x r ih=>rw[br,ag,jX,ih,aj];omega
theorem LQ:∀(l m:List Nat),(∀x∈l,x<128)->(∀x∈m,x<128)->bitsIn l=bitsIn m->l=m
 |[],[],_,_,_=>rfl
 |[],y::m,_,_,h=>by
  have:=congrArg List.length h;rw[r0,r0] at this;simp at this
 |x::l,[],_,_,h=>by
  have:=congrArg List.length h;rw[r0,r0] at this;simp at this
 |x::l,y::m,hl,hm,h=>by
  unfold bitsIn at h;rw[br,br] at h;obtain⟨h1,h2⟩:=List.append_inj h (by rw[jX,jX]);have hx:=xO 7 x (hl x (by simp));have hy:=xO 7 y (hm y (by simp));rw[h1,hy] at hx;rw[hx,LQ l m (fun z hz=>hl z (by simp[hz])) (fun z hz=>hm z (by simp[hz])) h2]
theorem Kl:∀(k:Nat) (l:List Bool),l.length=7*k->bitsIn ((List.range k).map (lW l))=l
 |0,l,h=>by
  have:l=[]:=aM.mp (by omega);subst this;rfl
 |k+1,l,h=>by
  unfold bitsIn;rw[bT,aB,br,bE]
  have e0:bitsOf 7 (lW l 0)=l.take 7:=by
   unfold lW;simp only[Nat.mul_zero,List.drop_zero];exact xP 7 _ (by rw[aD];omega)
  have e1:(List.range k).map (lW l∘Nat.succ)=(List.range k).map (lW (l.drop 7)):=by
   apply bW;intro i _;show lW l (i+1)=lW (l.drop 7) i;unfold lW;rw[bw]
   congr 3
   omega
  rw[e0,e1];have:=Kl k (l.drop 7) (by rw[aW];omega);unfold bitsIn at this;rw[this,bP]
theorem KJ(l:List Bool):bitsIn (signs l)=l++List.replicate (jI l.length) false:=by
 rw[Ay];exact Kl _ _ (by rw[ag,bQ];exact vR _)
def iq(gQ:List Bool):Nat:=(gQ.filter fun m=>m).length
theorem AK(w:Nat):∀(gQ hU:List Bool),(samplesIn w gQ hU).map (fun x=>x.isSome)=gQ
 |[],_=>rfl
 |true::ms,l=>by unfold samplesIn;simp[AK w ms]
 |false::ms,l=>by unfold samplesIn;simp[AK w ms]
theorem GC(w:Nat)(gQ hU:List Bool):(samplesIn w gQ hU).length=gQ.length:=by
 have:=congrArg List.length (AK w gQ hU)
 rwa [ac] at this
theorem Gf(w:Nat):∀(gQ hU:List Bool),((samplesIn w gQ hU).filterMap fun x=>x).length=iq gQ
 |[],_=>rfl
 |true::ms,l=>by
  unfold samplesIn iq;simp only[dz,bU,aj,cS];rw[Gf w ms];rfl
 |false::ms,l=>by
  unfold samplesIn iq;simp only[bo,cW,bU,cS];exact Gf w ms l
theorem Be(w:Nat):∀(gQ hU:List Bool) (n:Nat),some n∈samplesIn w gQ hU->n<2^w
 |[],_,n,h=>by simp[samplesIn] at h
 |m::ms,l,n,h=>by
  unfold samplesIn at h;split at h
  ·rcases az.mp h with h|h
   ·have:=af h;subst this;exact aU (Ez _) (dg (by decide) (by rw[aD];omega))
   ·exact Be w ms _ n h
  ·rcases az.mp h with h|h
   ·cases h
   ·exact Be w ms _ n h
theorem Gg(w:Nat):∀(gQ hU:List Bool),iq gQ*w<=hU.length->((samplesIn w gQ hU).filterMap fun x=>x).flatMap (bitsOf w)=hU.take (iq gQ*w)
 |[],hU,_=>by simp[samplesIn,iq]
 |true::ms,l,h=>by
  have hm:iq (true::ms)=iq ms+1:=by simp[iq]
  rw[hm] at h⊢;rw[d9] at h⊢;unfold samplesIn;simp only[dz,bU,br];rw[xP w (l.take w) (by rw[aD];omega),Gg w ms (l.drop w) (by rw[aW];omega),Nat.add_comm,fA]
 |false::ms,l,h=>by
  have hm:iq (false::ms)=iq ms:=by simp[iq]
  rw[hm] at h⊢;unfold samplesIn;simp only[bo,cW,bU];exact Gg w ms l h
theorem YM(gQ:List Bool):iq gQ<=gQ.length:=cy _ _
def kg(l:List Nat):List Nat:=(l.drop 1).take (l.length-3)
def qp(n:Nat)(gW:List Bool):Frame:=⟨Vbkdaa.valueOf (gW.take 12),samplesIn (Vbkdaa.valueOf ((gW.drop (12+n)).take 4)) ((gW.drop 12).take n) (gW.drop (16+n))⟩
def G6(n:Nat)(l:List Nat):Option Frame:=
 if (bitsIn (kg l)).length<16+n\/12<Vbkdaa.valueOf (((bitsIn (kg l)).drop (12+n)).take 4) then none
 else if encoded (qp n (bitsIn (kg l)))=128::(l++[129]) then some (qp n (bitsIn (kg l))) else none
theorem YN{a b:List Nat}:(128::(a++[129])=128::(b++[129]))↔a=b:=by
 constructor
 ·intro h;have:=dr h;exact(List.append_inj' this.2 rfl).1
 ·rintro rfl;rfl
theorem ZW(n:Nat):jI n<7:=by unfold jI;omega
theorem YO(n:Nat)(h8:n<=8)(l:List Nat):decoded n l=G6 n l:=by
 unfold G6;cases l with
 |nil=>
  have:(bitsIn (kg [])).length<16+n:=by rw[r0];simp[kg];omega
  rw[aw (.inl this)];rfl
 |cons k r=>
  unfold decoded;simp only
  by_cases Bf:(bitsIn (kg (k::r))).length<16+n\/12<Vbkdaa.valueOf (((bitsIn (kg (k::r))).drop (12+n)).take 4)
  ·rw[aw Bf]
   by_cases jx:((k::r).all fun x=>decide (x<128))=false\/r.length≠k+2\/remainder (k::r)≠0
   ·rw[aw jx]
   ·rw[am jx]
    have j6:r.length=k+2:=by
     apply c9;intro z;exact jx (.inr (.inl z))
    have ec:kg (k::r)=r.take k:=by unfold kg;simp[j6]
    rw[ec] at Bf;rw[aw];rcases Bf with h|h
    ·left;omega
    ·right;left;exact h
  ·rw[am Bf];have xw:16+n<=(bitsIn (kg (k::r))).length:=by omega
   have sZ:Vbkdaa.valueOf (((bitsIn (kg (k::r))).drop (12+n)).take 4)<=12:=by omega
   generalize hB:bitsIn (kg (k::r))=gW at xw sZ;generalize hw:Vbkdaa.valueOf ((gW.drop (12+n)).take 4)=w at sZ;generalize yt:(gW.drop 12).take n=gQ;generalize uN:gW.drop (16+n)=hU;have hml:gQ.length=n:=by rw[<-yt,aD,aW];omega
   have hf:qp n gW=⟨Vbkdaa.valueOf (gW.take 12),samplesIn w gQ hU⟩:=by unfold qp;rw[hw,yt,uN]
   rw[hf];generalize hF:(⟨Vbkdaa.valueOf (gW.take 12),samplesIn w gQ hU⟩:Frame)=f;have fs:f.samples=samplesIn w gQ hU:=by rw[<-hF]
   have fc:f.crossing=Vbkdaa.valueOf (gW.take 12):=by rw[<-hF]
   have kl:(keptOf f).length=iq gQ:=by unfold keptOf;rw[fs];exact Gf w gQ hU
   have ze:∀x∈keptOf f,x<4096:=by
    intro x hx;unfold keptOf at hx;rw[fs] at hx;obtain⟨y,hy,e⟩:=ci.mp hx;subst e;exact aU (Be w gQ hU x hy) (show 2^w<=2^12 from dg (by decide) sZ)
   have hW:width (keptOf f)<=12:=by rw[FY _ ze];exact AT (wk _ 4096 ze (by decide))
   have aaD:iq gQ<=8:=by have:=YM gQ;omega
   have fb:frameBits f=gW.take (12+n)++(bitsOf 4 (width (keptOf f))++(keptOf f).flatMap (bitsOf (width (keptOf f)))):=by
    unfold frameBits;simp only;rw[fs,AK,fc,xP 12 _ (by rw[aD];omega),<-yt,fA,a6]
   have QG:(frameBits f).length=16+n+iq gQ*width (keptOf f):=by
    rw[fb]
    have:∀(q:List Nat) (v:Nat),(q.flatMap (bitsOf v)).length=q.length*v:=by
     intro q v
     induction q with
     |nil=>simp
     |cons x q ih=>rw[br,ag,ih,jX,aj,d9];omega
    rw[ag,ag,aD,jX,this,kl];omega
   have fbs:(frameBits f).length<=120:=by
    have:iq gQ*width (keptOf f)<=8*12:=Nat.mul_le_mul aaD hW;omega
   by_cases BE:encoded f=128::(k::r++[129])
   ·rw[aw BE];have hl:frameSigns f=k::r:=YN.mp BE;have IQ:frameSigns f=checked ((signs (frameBits f)).length::signs (frameBits f)):=rfl;have hz:remainder (k::r)=0:=by rw[<-hl,IQ];exact VB _
    generalize hS:signs (frameBits f)=S at IQ;have hSl:S.length=sH (frameBits f).length:=by rw[<-hS,Fg]
    have jp:=vR (frameBits f).length;have hp7:=ZW (frameBits f).length;have aaE:∀x∈S,x<128:=fun x hx=>by rw[<-hS] at hx;exact MQ hx
    have afi:=zR (S.length::S++[0,0]);have xx:k::r=(S.length::S)++[remainder (S.length::S++[0,0])/128,remainder (S.length::S++[0,0])% 128]:=by rw[<-hl,IQ];rfl
    have hk:k=S.length:=(dr xx).1;have hr:r=S++[remainder (S.length::S++[0,0])/128,remainder (S.length::S++[0,0])% 128]:=(dr xx).2;have xk:r.length=k+2:=by rw[hr,hk];simp
    have hrt:r.take k=S:=by rw[hr,hk];simp
    have oR:((k::r).all fun x=>decide (x<128))=true:=by
     rw[a9];intro x hx;rw[xx] at hx;apply ai;rcases aG.mp hx with hx|hx
     ·rcases az.mp hx with rfl|hx
      ·omega
      ·exact aaE x hx
     ·simp only[az,bh,cN] at hx;rcases hx with rfl|rfl
      ·omega
      ·omega
    have G7:gW=frameBits f++List.replicate (jI (frameBits f).length) false:=by
     rw[<-hB];have ec:kg (k::r)=r.take k:=by unfold kg;simp[xk]
     rw[ec,hrt,<-hS,KJ]
    have IR:w=width (keptOf f):=by
     have e1:(gW.drop (12+n)).take 4=bitsOf 4 (width (keptOf f)):=by
      have e2:gW.take (12+n)++gW.drop (12+n)=gW.take (12+n)++((bitsOf 4 (width (keptOf f))++(keptOf f).flatMap (bitsOf (width (keptOf f))))++List.replicate (jI (frameBits f).length) false):=by
       rw[bP,<-a6,<-fb];exact G7
      rw[List.append_cancel_left e2,a6,cD (by rw[jX];omega),aV (by rw[jX];omega)]
     rw[<-hw,e1,xO 4 _ (by omega)]
    rw[am (by rw[oR,xk,hz];simp)];have zg:gW.length=16+n+iq gQ*w+jI (frameBits f).length:=by rw[G7,ag,QG,bQ,IR]
    have zr:bitsIn (r.take k)=gW:=by
     rw[<-hB];have ec:kg (k::r)=r.take k:=by unfold kg;simp[xk]
     rw[ec]
    rw[zr,yt,hw,uN,hF];have IS:(gQ.filter fun m=>m).length=iq gQ:=rfl;rw[IS,am];rintro(z|z|z|z|z)
    ·omega
    ·omega
    ·omega
    ·have:hU.drop (iq gQ*w)=List.replicate (jI (frameBits f).length) false:=by
      rw[<-uN,bw,G7,IR,<-QG,List.drop_left]
     rw[this] at z;rw[List.all_replicate] at z;simp at z
    ·exact z IR.symm
   ·rw[am BE]
    by_cases jx:((k::r).all fun x=>decide (x<128))=false\/r.length≠k+2\/remainder (k::r)≠0
    ·rw[aw jx]
    ·rw[am jx]
     have oR:((k::r).all fun x=>decide (x<128))=true:=by
      cases h:((k::r).all fun x=>decide (x<128)) with
      |true=>rfl
      |false=>exact absurd (.inl h) jx
     have xk:r.length=k+2:=c9 fun z=>jx (.inr (.inl z))
     have hz:remainder (k::r)=0:=c9 fun z=>jx (.inr (.inr z))
     have zr:bitsIn (r.take k)=gW:=by
      rw[<-hB];have ec:kg (k::r)=r.take k:=by unfold kg;simp[xk]
      rw[ec]
     rw[zr,yt,hw,uN,hF];have IS:(gQ.filter fun m=>m).length=iq gQ:=rfl;rw[IS];split
     ·rfl
     ·rename_i OJ;exfalso;apply BE;have g1:16+n+iq gQ*w<=gW.length:=by omega
      have g3:gW.length-(16+n+iq gQ*w)<7:=by omega
      have g4:((hU.drop (iq gQ*w)).all fun b=> !b)=true:=by
       cases h:((hU.drop (iq gQ*w)).all fun b=> !b) with
       |true=>rfl
       |false=>exact absurd (.inr (.inr (.inr (.inl h)))) OJ
      have g5:width (keptOf f)=w:=c9 fun z=>OJ (.inr (.inr (.inr (.inr z))))
      have zg:gW.length=7*k:=by rw[<-zr,r0,aD];omega
      have abI:hU.length=gW.length-(16+n):=by rw[<-uN,aW]
      have e1:frameBits f=gW.take (16+n+iq gQ*w):=by
       have e2:(keptOf f).flatMap (bitsOf w)=hU.take (iq gQ*w):=by
        unfold keptOf;rw[fs];exact Gg w gQ hU (by omega)
       have t1:gW.take ((12+n)+(4+iq gQ*w))=gW.take (12+n)++(gW.drop (12+n)).take (4+iq gQ*w):=fA;have t2:(gW.drop (12+n)).take (4+iq gQ*w)=(gW.drop (12+n)).take 4++((gW.drop (12+n)).drop 4).take (iq gQ*w):=fA;have t3:bitsOf 4 w=(gW.drop (12+n)).take 4:=by rw[<-hw];exact xP 4 _ (by rw[aD,aW];omega)
       rw[bw,show 12+n+4=16+n by omega,uN] at t2;rw[fb,g5,e2,t3,show 16+n+iq gQ*w=(12+n)+(4+iq gQ*w) by omega,t1,t2]
      have aaF:gW.drop (16+n+iq gQ*w)=List.replicate (gW.length-(16+n+iq gQ*w)) false:=by
       rw[<-bw,uN];apply List.eq_replicate_iff.mpr;refine⟨by rw[aW,abI];omega,fun x hx=> ?_⟩;have:=a9.mp g4 x hx;simpa using this
      have abJ:jI (frameBits f).length=gW.length-(16+n+iq gQ*w):=by
       rw[e1,aD,cw g1];unfold jI;omega
      have hSr:signs (frameBits f)=r.take k:=by
       apply LQ
       ·intro x hx;exact MQ hx
       ·intro x hx;exact cF (a9.mp oR x (aX _ (List.mem_of_mem_take hx)))
       ·rw[KJ,zr,abJ,<-aaF,e1,bP]
      have pq:(r.take k).length=k:=by rw[aD];omega
      have hdr:∃c d,r.drop k=[c,d]:=by
       have hd:(r.drop k).length=2:=by rw[aW];omega
       match h:r.drop k,hd with
       |[c,d],_=>exact⟨c,d,Z⟩
      obtain⟨c,d,nY⟩:=hdr;have qg:r=r.take k++[c,d]:=by rw[<-nY,bP]
      have mo:c<128/\d<128:=by
       have hh:∀x∈r,x<128:=fun x hx=>cF (a9.mp oR x (aX _ hx))
       exact⟨hh c (by rw[qg];simp),hh d (by rw[qg];simp)⟩
      have hz2:remainder ((k::r.take k)++[c,d])=0:=by
       rw[bM,<-qg];exact hz
      have xx:=Tn (k::r.take k) c d mo.1 mo.2 hz2;rw[bM,<-qg] at xx;show 128::(frameSigns f++[129])=_;unfold frameSigns;simp only;rw[hSr,pq,xx]
end FE
namespace FE
open PySem PySem.Spec PyProof.Rows L2
open Vbkdaa (bitsOf signs bitsIn shift remainder encoded Frame keptOf width frameBits samplesIn decoded)
theorem XV(xs:List V)(b:Nat):jZ xs none (some (b:Int))=xs.take b:=by
 unfold jZ;rw[HT.ye,HT.MI]
 by_cases h:b<=xs.length
 ·rw[cw h];simp
 ·rw[show min b xs.length=xs.length by omega,aV (by simp),aV (by omega)];simp
theorem VC(l:List Nat):jZ (l.map nV) (some 1) (some (-2))=(kg l).map nV:=by
 unfold jZ kg;have e1:HT.kL (l.map nV).length 0 (some 1)=min 1 l.length:=by rw[show(1:Int)=((1:Nat):Int) from Z,HT.ye,ac]
 have e2:HT.kL (l.map nV).length (l.map nV).length (some (-2))=l.length-2:=by
  simp only[HT.kL,ac];rw[aw (by decide)];omega
 rw[e1,e2]
 by_cases h:1<=l.length
 ·rw[cw h,<-cq,<-b9,show l.length-2-1=l.length-3 by omega]
 ·have:l=[]:=aM.mp (by omega);subst this;rfl
theorem Gh(w:Nat):∀(ms hU:List Bool) (m:Bool),samplesIn w (ms++[m]) hU=samplesIn w ms hU++[if m=true then some (Vbkdaa.valueOf ((hU.drop (iq ms*w)).take w)) else none]
 |[],hU,m=>by
  cases m<;>simp[samplesIn,iq]
 |true::ms,hU,m=>by
  have hm:iq (true::ms)=iq ms+1:=by simp[iq]
  rw[bM,hm];unfold samplesIn;simp only[dz];rw[Gh w ms (hU.drop w) m,bw,d9,Nat.add_comm w];rfl
 |false::ms,hU,m=>by
  have hm:iq (false::ms)=iq ms:=by simp[iq]
  rw[bM,hm];unfold samplesIn;simp only[bo,cW];rw[Gh w ms hU m];rfl
theorem WM(ms:List Bool)(m:Bool):iq (ms++[m])=iq ms+iu m:=by
 unfold iq iu;rw[List.filter_append,ag];cases m<;>rfl
theorem M6:∀{p q:List Nat},p.map (fun(x:Nat)=>(x:Int))=q.map (fun(x:Nat)=>(x:Int))->p=q
 |[],[],_=>rfl
 |[],y::q,h=>by cases h
 |x::p,[],h=>by cases h
 |x::p,y::q,h=>by
  rw[aB,aB] at h;obtain⟨h1,h2⟩:=dr h;rw[show x=y by omega,M6 h2]
theorem UW(l:List Nat)(x:Nat):bitsIn (l++[x])=bitsIn l++bitsOf 7 x:=by unfold bitsIn;rw[bO];simp
def ZX:Sp:=fun vs H Q _=>∃(a:Addr) (l:List Nat) (n:Nat),vs=[.ref a,.int n]/\H a=some (.lst (l.map nV))/\l.length<=50000/\n<=8/\(decoded n l=none->∀H',fQ H H'->Q .gS H')/\
 ∀f,decoded n l=some f->∀(H':Hp) (p q:Addr),fQ H H'->H p=none->H q=none->H' p=some (.tup [nV f.crossing,.ref q])->H' q=some (.lst (f.samples.map oV))->Q (.ref p) H'
section
variable {P:Program} {w:World} {K:PySem.W.Frag} {mg:Str->Option Value} {base:Heap} {AA:gu}
theorem To:gP ["inside","channels","bits","sign","marks_end","place","width","crossing","samples","mark"] ["inside","channels"] (gL (fX 17)):=gX (by decide+kernel)
theorem Tp(T:Tx P w K mg AA):gK P w K mg base gT 4 AA.Kr AA.Ks ["inside","channels"] ZX:=by
 have xR:=KI (base:=base) T;have xT:=Es (base:=base) T;have um:=EY (base:=base) T;have SC:=To;refine T.Aa.fn.ok SC (fun vs H Q E h=> ?_) (fun gy A outer s H vs Q E hr h=> ?_)
 ·obtain⟨a,l,n,rfl,_⟩:=h;rfl
 ·obtain⟨a,l,n,rfl,ha,hl,h8,mw,kC⟩:=h
  refine⟨_,(fS (gj (i:=2) SC.nd Z (Or.inl Z) (gI fP))
   (fS (lE bg Z (ma (oB oF (pv 0) (kn fW) (kn (qA qv fW)))) (iI (i:=3) SC.nd Z (Or.inl Z))
     (fV (iR (iT ax a0 a5 m6 (pv 2) (fN (ic um (hr.mono (by decide)) Z T.mz.mg T.mz.fn.kp T.mz.b .nil gG (fN (pv 3) (fN (gz Z T.uj) fP))) fP)))))
   (fS (gj (i:=4) SC.nd Z (Or.inl Z) (gA jg (gz Z T.xQ) (pv 1)))
   (fS (gj (i:=5) SC.nd Z (Or.inl Z) (gA jg (pv 4) (gz Z T.EW)))
   (fS (gj (i:=6) SC.nd Z (Or.inl Z) (ic xR (hr.mono (by decide)) Z T.nM.mg T.nM.fn.kp T.nM.b .nil gG (fN (oB oF (pv 2) (kn (pv 4)) (kn (pv 5))) fP)))
   (fS (gY (PW.pt (pM (io sD (gU iL (by rfl) T.len aF (fN (pv 2) fP)) (pv 5) (ii _)) (qu (io mQ (pv 6) (gz Z T.La) (ii _)))))
     (fV (gC uC))
     ia)
   (fS (gj (i:=7) SC.nd Z (Or.inl Z) (ic xR (hr.mono (by decide)) Z T.nM.mg T.nM.fn.kp T.nM.b .nil gG (fN (oB oF (pv 2) Gp (kn (gz Z T.xQ))) fP)))
   (fS (gj (i:=8) SC.nd Z (Or.inl Z) (gI fP))
   (fS (lE bg Z (ma (oB oF (pv 2) (kn (gz Z T.xQ)) (kn (pv 4)))) (iI (i:=9) SC.nd Z (Or.inl Z))
     (fV (gY (io nj (pv 9) fW (ii _))
       (fV (iR (iT ax aI aL kE (pv 8) (fN uC fP))))
       (fS (iR (iT ax aI aL kE (pv 8) (fN (ic xR (hr.mono (by decide)) Z T.nM.mg T.nM.fn.kp T.nM.b .nil gG (fN (oB oF (pv 2) (kn (pv 5)) (kn (gA jg (pv 5) (pv 6)))) fP)) fP)))
       (fV (vU (i:=5) SC.nd Z (Or.inl Z) (pv 6) A3))))))
   (fS (gY (io (ZD hr.units) (ic xT (hr.mono (by decide)) Z T.qm.mg T.qm.fn.kp T.qm.b .nil gG (fN (pv 7) (fN (pv 8) fP))) (gA j2 (gA j2 (gI (fN (gz Z T.Eb) fP)) (pv 0)) (gI (fN (gz Z T.EV) fP))) (ii _))
     (fV (gC uC))
     ia)
   (fV (gC (vW (fN (pv 7) (fN (pv 8) fP))))))))))))))),?_⟩
  rw[YO n h8 l] at mw kC;unfold G6 at mw kC;refine⟨aN _,fun q1 n1=> ?_⟩;have s1:fQ H (fM H q1 (.lst [])):=fQ.new n1;refine⟨_,Z,_,Z,_,Z,_,Z,a,_,Z,fR.of (s1 _ _ ha),fun q2 n2=> ?_⟩;have ec:jZ (l.map nV) (some 1) (some (-(2:Int)))=(kg l).map nV:=VC l;rw[ec];generalize hC:kg l=rP at mw kC;have cl:rP.length<=50000:=by rw[<-hC];unfold kg;rw[aD,aW];omega
  have l7:q1≠q2:=fun z=>by rw[<-z,fO] at n2;cases n2
  have s2:fQ H (fM (fM H q1 (.lst [])) q2 (.lst (rP.map nV))):=s1.more n2
  refine⟨q2,Z,⟨_,fR.of fO⟩,qW (K:=K) (a:=q2) (xs:=rP.map nV) (fun i σ H'=>∃v3,σ=[some (.ref a),some (.int n),some (.ref q1),v3,none,none,none,none,none,none]/\fQ H H'/\H' q2=some (.lst (rP.map nV))/\H' q1=some (.lst ((bitsIn (rP.take i)).map bV)))
   ⟨none,Z,s2,fO,by rw[fT l7,fO];rfl⟩ (fun i σ H' _ ⟨_,_,_,e,_⟩=>fR.of e) ?_ ?_⟩
  ·rintro i x σ H3 hx ⟨v3,rfl,s3,g2,g1⟩;obtain⟨y,hy,rfl⟩:=kF hx;refine⟨_,Z,.inl ⟨Z,_,fR.of g1⟩,_,Z,y,7,Z,by decide,fun q3 n3=> ?_⟩;have p8:=gf g1 n3;have p5:=gf g2 n3;have bl:=r0 (rP.take i);have tl:(rP.take i).length<=50000:=by rw[aD];omega
   refine⟨q1,q3,_,_,Z,Z,(by rw[fT p8];exact g1),fO,fY (by simp only[ac,jX];omega),?_⟩;refine⟨_,Z,(s3.more n3).put n1,(by rw[fT l7.symm,fT p5];exact g2),?_⟩;rw[fO,take_snoc hy,UW,ao]
  ·rintro σ H3 ⟨v3,rfl,s3,g2,g1⟩;rw[ac,aT] at g1;have bl:=r0 rP;generalize hB:bitsIn rP=gW at g1 bl mw kC;refine⟨_,Z,_,_,Z,Z,?_⟩;refine⟨_,Z,_,_,Z,Z,?_⟩;refine⟨_,Z,_,Z,_,Z,_,Z,_,Z,q1,_,Z,fR.of g1,fun q4 n4=> ?_⟩
   have e4:jZ (gW.map bV) (some ((12:Int)+(n:Int))) (some ((12:Int)+(n:Int)+4))=((gW.drop (12+n)).take 4).map bV:=by
    rw[show(12:Int)+(n:Int)=((12+n:Nat):Int) by omega,show((12+n:Nat):Int)+4=((16+n:Nat):Int) by omega,su,<-cq,<-b9,show 16+n-(12+n)=4 by omega]
   rw[e4];have s4:=s3.more (o:=.lst (((gW.drop (12+n)).take 4).map bV)) n4;refine⟨q4,_,Z,fR.of fO,?_⟩;have mY:=gf g1 n4;have zt:(fM H3 q4 (.lst (((gW.drop (12+n)).take 4).map bV))) q1=some (.lst (gW.map bV)):=by rw[fT mY];exact g1
   show jR _ _ _ _ (fM H3 q4 (.lst (((gW.drop (12+n)).take 4).map bV)));generalize fM H3 q4 (.lst (((gW.drop (12+n)).take 4).map bV))=H4 at s4 zt;have jy:qp n gW=⟨Vbkdaa.valueOf (gW.take 12),samplesIn (Vbkdaa.valueOf ((gW.drop (12+n)).take 4)) ((gW.drop 12).take n) (gW.drop (16+n))⟩:=rfl;generalize hW:Vbkdaa.valueOf ((gW.drop (12+n)).take 4)=W at mw kC jy;refine⟨_,Z,q1,_,Z,.inl (fR.of zt),_,Z,_,_,Z,Z,_,Z,?_⟩;rw[ac]
   by_cases c1:gW.length<16+n
   ·refine fZ (ai (by omega)) ?_;refine fZ Z ?_;rw[aw (.inl c1)] at mw;exact mw Z H4 s4
   ·refine gn (ae (by omega)) ?_;refine⟨_,Z,_,_,Z,Z,_,Z,?_⟩
    by_cases c2:12<W
    ·refine fZ (ai (by omega)) ?_;rw[aw (.inr c2)] at mw;exact mw Z H4 s4
    ·refine gn (ae (by omega)) ?_;rw[am (by omega)] at mw kC;refine⟨_,Z,_,Z,q1,_,Z,fR.of zt,fun q5 n5=> ?_⟩;have e5:jZ (gW.map bV) none (some (12:Int))=(gW.take 12).map bV:=by rw[show(12:Int)=((12:Nat):Int) from Z,XV,<-b9]
     rw[e5];have s5:=s4.more (o:=.lst ((gW.take 12).map bV)) n5;refine⟨q5,_,Z,fR.of fO,?_⟩;have tJ:=gf zt n5;have IT:(fM H4 q5 (.lst ((gW.take 12).map bV))) q1=some (.lst (gW.map bV)):=by rw[fT tJ];exact zt
     show jR _ _ _ _ (fM H4 q5 (.lst ((gW.take 12).map bV)));generalize fM H4 q5 (.lst ((gW.take 12).map bV))=H5 at s5 IT;refine⟨aN _,fun q6 n6=> ?_⟩;have IU:=gf IT n6;have f6:H q6=none:=s5.free n6;have IV:(fM H5 q6 (.lst [])) q1=some (.lst (gW.map bV)):=by rw[fT IU];exact IT
     have s6:=s5.more (o:=.lst []) n6;refine⟨_,Z,_,Z,_,Z,_,Z,q1,_,Z,fR.of IV,fun q7 n7=> ?_⟩
     have e7:jZ (gW.map bV) (some (12:Int)) (some ((12:Int)+(n:Int)))=((gW.drop 12).take n).map bV:=by
      rw[show(12:Int)=((12:Nat):Int) from Z,show((12:Nat):Int)+(n:Int)=((12+n:Nat):Int) by omega,su,<-cq,<-b9,show 12+n-12=n by omega]
     rw[e7];generalize hM:(gW.drop 12).take n=gQ at jy;generalize hR:gW.drop (16+n)=hU at jy;have ml:gQ.length=n:=by rw[<-hM,aD,aW];omega
     have IK:=gf IV n7;have IW:q6≠q7:=fun z=>by rw[<-z,fO] at n7;cases n7
     have s7:=s6.more (o:=.lst (gQ.map bV)) n7
     refine⟨q7,Z,⟨_,fR.of fO⟩,qW (K:=K) (a:=q7) (xs:=gQ.map bV) (fun i σ H'=>∃v9,σ=[some (.ref a),some (.int n),some (.ref q1),v3,some (.int ((12:Int)+(n:Int))),some (.int (((16+n+iq (gQ.take i)*W:Nat)):Int)),some (.int W),some (.int (Vbkdaa.valueOf (gW.take 12))),some (.ref q6),v9]/\fQ H H'/\H' q7=some (.lst (gQ.map bV))/\H' q1=some (.lst (gW.map bV))/\H' q6=some (.lst ((samplesIn W (gQ.take i) hU).map oV)))
      ⟨none,?_,s7,fO,by rw[fT IK];exact IV,by rw[fT IW,fO];rfl⟩ (fun i σ H' _ ⟨_,_,_,e,_⟩=>fR.of e) ?_ ?_⟩
     ·have:(12:Int)+(n:Int)+4=((16+n+iq (gQ.take 0)*W:Nat):Int):=by simp[iq];omega
      rw[<-this];rfl
     ·rintro i x σ H8 hx ⟨v9,rfl,s8,Cz,rJ,qP⟩;obtain⟨m,hm,rfl⟩:=kF hx;have hi:i<gQ.length:=(ap.mp hm).1;have sl:(samplesIn W (gQ.take i) hU).length<=8:=by rw[GC,aD];omega
      rw[take_snoc hm,Gh,WM];refine⟨_,Z,Z,_,Z,?_⟩;cases m with
      |false=>
       refine fZ Z ?_;refine⟨_,Z,.inl ⟨Z,_,fR.of qP⟩,q6,_,_,Z,Z,qP,iU (by rw[ac];omega),?_⟩;refine⟨some (bV false),Z,s8.put f6,?_,?_,?_⟩
       ·rw[fT IW.symm];exact Cz
       ·rw[fT IU];exact rJ
       ·rw[fO,ao];rfl
      |true=>
       refine gn Z ?_;refine⟨_,Z,.inl ⟨Z,_,fR.of qP⟩,_,Z,_,Z,_,Z,_,Z,_,Z,_,_,Z,Z,_,Z,q1,_,Z,fR.of rJ,fun q9 n9=> ?_⟩
       have e9:jZ (gW.map bV) (some ((16+n+iq (gQ.take i)*W:Nat):Int)) (some (((16+n+iq (gQ.take i)*W:Nat):Int)+(W:Int)))=((hU.drop (iq (gQ.take i)*W)).take W).map bV:=by
        rw[show((16+n+iq (gQ.take i)*W:Nat):Int)+(W:Int)=((16+n+iq (gQ.take i)*W+W:Nat):Int) by omega,su,<-cq,<-b9,<-hR,bw]
        congr 2
        omega
       rw[e9];have n69:=gf qP n9;have n79:=gf Cz n9;have Ix:=gf rJ n9;refine⟨q9,_,Z,fR.of fO,q6,_,_,Z,Z,(by rw[fT n69];exact qP),iU (by rw[ac];omega),?_⟩;refine⟨_,Z,_,Z,_,_,Z,Z,?_⟩;refine⟨some (bV true),?_,(s8.more n9).put f6,?_,?_,?_⟩
       ·have:((16+n+iq (gQ.take i)*W:Nat):Int)+(W:Int)=((16+n+(iq (gQ.take i)+iu true)*W:Nat):Int):=by
         show _=((16+n+(iq (gQ.take i)+1)*W:Nat):Int);rw[d9];omega
        rw[<-this];rfl
       ·rw[fT IW.symm,fT n79];exact Cz
       ·rw[fT IU,fT Ix];exact rJ
       ·rw[fO,ao];rfl
     ·rintro σ H8 ⟨v9,rfl,s8,Cz,rJ,qP⟩;rw[ac,aT] at qP⊢;generalize QH:samplesIn W gQ hU=ss at qP jy;have ssl:ss.length<=8:=by rw[<-QH,GC];omega
      have ssb:∀k,some k∈ss->k<4096:=fun k hk=>by
       rw[<-QH] at hk;exact aU (Be W gQ hU k hk) (show 2^W<=2^12 from dg (by decide) (by omega))
      have QI:Vbkdaa.valueOf (gW.take 12)<4096:=aU (Ez _) (show 2^(gW.take 12).length<=2^12 from dg (by decide) (by rw[aD];omega));generalize Vbkdaa.valueOf (gW.take 12)=cr at QI jy;refine⟨_,Z,_,Z,cr,q6,ss,Z,fR.of qP,ssl,ssb,fun H9 p9 s9 f9 g9=> ?_⟩;rw[Nat.mod_eq_of_lt QI,<-jy] at g9;have s89:fQ H H9:=s8.trans s9;refine⟨fY (by simp),fun tM rF=> ?_⟩;have HM:=s89.more (o:=.lst [V.int 128]) rF;refine⟨_,Z,tM,a,_,_,Z,Z,fO,HM _ _ ha,fY (by simp;omega),fun vf xb=> ?_⟩;have yN:=HM.more (o:=.lst ([V.int 128]++l.map nV)) xb;refine⟨fY (by simp),fun QJ yH=> ?_⟩;have nF:=yN.more (o:=.lst [V.int 129]) yH;have nn:vf≠QJ:=fun z=>by rw[<-z,fO] at yH;cases yH
      refine⟨vf,QJ,_,_,Z,Z,(by rw[fT nn];exact fO),fO,fY (by simp;omega),fun Cd p8=> ?_⟩;have IX:=nF.more (o:=.lst ([V.int 128]++l.map nV++[V.int 129])) p8;have g10:=(fQ.new (o:=.lst [V.int 128]) rF) _ _ g9;have Ik:=(fQ.new (o:=.lst ([V.int 128]++l.map nV)) xb) _ _ g10;have Il:=(fQ.new (o:=.lst [V.int 129]) yH) _ _ Ik;have QK:=(fQ.new (o:=.lst ([V.int 128]++l.map nV++[V.int 129])) p8) _ _ Il;have Pe:∀z:List Nat,z.map nV=(z.map fun(x:Nat)=>(x:Int)).map V.int:=fun z=>by rw[bE];rfl
      have ei:[V.int 128]++l.map nV++[V.int 129]=((128::(l++[129])).map fun(x:Nat)=>(x:Int)).map V.int:=by rw[<-Pe];simp[nV]
      rw[Pe (encoded (qp n gW))] at QK;refine⟨p9,Cd,(encoded (qp n gW)).map (fun(x:Nat)=>(x:Int)),(128::(l++[129])).map (fun(x:Nat)=>(x:Int)),Z,Z,QK,(by rw[fO,ei]),_,Z,?_⟩
      have Pf:((encoded (qp n gW)).map (fun(x:Nat)=>(x:Int))=(128::(l++[129])).map (fun(x:Nat)=>(x:Int)))↔encoded (qp n gW)=128::(l++[129]):=by
       constructor
       ·intro z;exact M6 z
       ·intro z;rw[z]
      by_cases c3:encoded (qp n gW)=128::(l++[129])
      ·refine gn (by rw[ai (Pf.mpr c3)];rfl) ?_;rw[aw c3] at kC;refine⟨_,Z,_,Z,(by show 2<=sizeLine;decide),fun Ce mY=> ?_⟩;refine kC _ Z _ Ce q6 (IX.more mY) (IX.free mY) f6 ?_ ?_
       ·rw[fO,jy];rfl
       ·have h1:=s9 _ _ qP;have h2:=(fQ.new (o:=.lst [V.int 128]) rF) _ _ h1;have h3:=(fQ.new (o:=.lst ([V.int 128]++l.map nV)) xb) _ _ h2;have h4:=(fQ.new (o:=.lst [V.int 129]) yH) _ _ h3;have h5:=(fQ.new (o:=.lst ([V.int 128]++l.map nV++[V.int 129])) p8) _ _ h4;rw[fT (gf h5 mY),jy];exact h5
      ·refine fZ (by rw[ae (fun z=>c3 (Pf.mp z))];rfl) ?_;rw[am c3] at mw;exact mw Z _ IX
end
end FE
namespace FE
open Vbkdaa
open VbkdCore (addSpan joined normal Spans)
def pJ(st:List Nat×Bool)(p:Nat)(mark:Bool):List Nat×Bool:=if mark=st.2 then st else(st.1++[p],mark)
def kc:List Nat×Bool->Nat->List Bool->List Nat×Bool
 |st,_,[]=>st
 |st,p,x::r=>kc (pJ st p x) (p+1) r
theorem zT:∀(l:List Bool) (st:List Nat×Bool) (p:Nat) (x:Bool),kc st p (l++[x])=pJ (kc st p l) (p+l.length) x
 |[],st,p,x=>by simp[kc]
 |y::r,st,p,x=>by
  show kc (pJ st p y) (p+1) (r++[x])=pJ (kc (pJ st p y) (p+1) r) (p+(r.length+1)) x;rw[zT r,show p+1+r.length=p+(r.length+1) by omega]
def sK(l:List Bool):List Nat:=(kc ([],false) 0 l).1++(if (kc ([],false) 0 l).2=true then[l.length] else[])
def nu(s:Spans):List Nat:=s.flatMap fun x=>[x.1,x.2]
theorem Mq(s t:Spans):nu (s++t)=nu s++nu t:=by simp[nu]
theorem WN(s:Spans):(nu s).length=2*s.length:=by
 induction s with
 |nil=>rfl
 |cons x r ih=>
  show(x.1::x.2::nu r).length=_;simp only[aj,ih];omega
theorem Ew{a b:Nat}(IP:a<b):∀(s t:Spans),(∀x∈s,x.2<a)->addSpan a b (s++t)=s++addSpan a b t
 |[],t,_=>rfl
 |x::r,t,h=>by
  show addSpan a b (x::(r++t))=_;have e:addSpan a b (x::(r++t))=(if b<=a then x::(r++t) else if x.2<a then x::addSpan a b (r++t) else if b<x.1 then(a,b)::x::(r++t) else addSpan (min a x.1) (max b x.2) (r++t)):=by rw[addSpan]
  rw[e,am (by omega),aw (h x bv),Ew IP r t fun y hy=>h y (aX _ hy)];rfl
theorem SX(l:List Bool)(x:Bool):stretches (l++[x])=if x=true then addSpan l.length (l.length+1) (stretches l) else stretches l:=by
 unfold stretches normal joined;rw[List.zipIdx_append,List.filterMap_append,bX];cases x<;>simp
theorem snocInd{α:Type}{P:List α->Prop}(h0:P [])(hs:∀l x,P l->P (l++[x]))(l:List α):P l:=by
 have h:∀l:List α,P l.reverse:=by
  intro l
  induction l with
  |nil=>exact h0
  |cons x r ih=>rw[bZ];exact hs _ _ ih
 have:=h l.reverse
 rwa [List.reverse_reverse] at this
theorem UX:∀l:List Bool,
 ((kc ([],false) 0 l).2=false/\nu (stretches l)=(kc ([],false) 0 l).1/\∀x∈stretches l,x.2<l.length)\/
 ((kc ([],false) 0 l).2=true/\∃s a,stretches l=s++[(a,l.length)]/\a<l.length/\(∀x∈s,x.2<a)/\(kc ([],false) 0 l).1=nu s++[a]):=by
 intro l
 refine snocInd (P:=fun l=>((kc ([],false) 0 l).2=false/\nu (stretches l)=(kc ([],false) 0 l).1/\∀x∈stretches l,x.2<l.length)\/
  ((kc ([],false) 0 l).2=true/\∃s a,stretches l=s++[(a,l.length)]/\a<l.length/\(∀x∈s,x.2<a)/\(kc ([],false) 0 l).1=nu s++[a])) ?_ ?_ l
 ·exact .inl ⟨Z,Z,fun x hx=>absurd hx (by simp[stretches,normal,joined])⟩
 ·intro l x ih;rw[zT,SX,dF,ag,bD];generalize kK:kc ([],false) 0 l=st at ih;obtain⟨es,ins⟩:=st;simp only at ih;rcases ih with⟨rfl,h1,h2⟩|⟨rfl,s,a,h1,h2,h3,h4⟩
  ·cases x with
   |false=>
    left;refine⟨Z,?_,?_⟩
    ·simpa [pJ] using h1
    ·intro y hy;have:=h2 y (by simpa using hy);omega
   |true=>
    right;refine⟨Z,stretches l,l.length,?_,by omega,h2,?_⟩
    ·rw[aw Z];have:=Ew (show l.length<l.length+1 by omega) (stretches l) [] h2;rw[bc] at this;rw[this];simp[addSpan]
    ·simp[pJ,h1]
  ·cases x with
   |false=>
    left;refine⟨Z,?_,?_⟩
    ·simp[pJ,h1,h4,Mq,nu]
    ·intro y hy;have hy':y∈s++[(a,l.length)]:=by rw[<-h1];simpa using hy
     rcases aG.mp hy' with z|z
     ·have:=h3 y z;omega
     ·have:y=(a,l.length):=by simpa using z
      rw[this];show l.length<l.length+1;omega
   |true=>
    right;refine⟨Z,s,a,?_,by omega,h3,?_⟩
    ·rw[aw Z,h1,Ew (by omega) s _ (fun y hy=>by have:=h3 y hy;omega)]
     congr 1
     unfold addSpan;rw[am (by omega),am (by simp),am (by simp;omega)];rw[show min l.length a=a by omega,show max (l.length+1) l.length=l.length+1 by omega];unfold addSpan;rw[aw (by omega)]
    ·simp[pJ,h4]
theorem LU(l:List Bool):spansTold (stretches l)=nat ((sK l).length/2)::(sK l).map nat:=by
 have e:nu (stretches l)=sK l:=by
  unfold sK;rcases UX l with⟨h0,h1,_⟩|⟨h0,s,a,h1,_,_,h4⟩
  ·rw[h0,h1];simp
  ·rw[h0,h1,h4,Mq];simp[nu]
 unfold spansTold;rw[<-e,WN,show 2*(stretches l).length/2=(stretches l).length by omega]
 congr 1
 unfold nu;rw[List.map_flatMap];rfl
end FE
namespace FE
open PySem PySem.Spec PyProof.Rows L2
open Vbkdaa (Ear decoded hear hearAll quiet)
structure jO where
 h:Addr
 dx:Addr
 lb:Option Addr
def Pg:Option Addr->V
 |none=>.gS
 |some p=>.ref p
def CA(L:jO)(n rd bad:Nat):List (Str×V):=[("channels",.int n),("begun",Pg L.lb),("read",.int rd),("bad",.int bad)]
def jO.mut(L:jO):List Addr:=L.h::L.lb.toList
def aaG(H:Hp)(h:Addr):Option Addr->Option (List Nat)->Prop
 |none,none=>True
 |some p,some l=>H p=some (.lst (l.map nV))/\p≠h
 |_,_=>False
structure kx(AA:gu)(H:Hp)(L:jO)(n:Nat)(e:Ear):Prop where
 ins:H L.h=some (.ins AA.mJ L.dx (CA L n e.read e.bad))
 rQ:aaG H L.h L.lb e.inside
theorem kx.keep{AA:gu}{H H':Hp}{L:jO}{n:Nat}{e:Ear}{ys:List Addr}(h:kx AA H L n e)(o:gE ys H H')(m:∀a∈L.mut,a∉ys):kx AA H' L n e where
 ins:=o _ _ h.ins (m _ (by simp[jO.mut]))
 rQ:=by
  have hb:=h.rQ;cases e1:L.lb with
  |none=>rw[e1] at hb;cases e2:e.inside with
   |none=>trivial
   |some l=>rw[e2] at hb;exact hb
  |some p=>rw[e1] at hb;cases e2:e.inside with
   |none=>rw[e2] at hb;exact hb
   |some l=>rw[e2] at hb;exact⟨o _ _ hb.1 (m _ (by simp[jO.mut,e1])),hb.2⟩
theorem kx.same{AA:gu}{H H':Hp}{L:jO}{n:Nat}{e:Ear}(h:kx AA H L n e)(s:fQ H H'):kx AA H' L n e:=h.keep (ys:=[]) s.own fun _ _ z=>by cases z
theorem kx.lL{AA:gu}{H:Hp}{L:jO}{n:Nat}{e:Ear}(h:kx AA H L n e):∀y∈L.mut,(H y).isSome=true:=by
 intro y hy;rcases az.mp hy with rfl|hy
 ·rw[h.ins];rfl
 ·have hb:=h.rQ;cases e1:L.lb with
  |none=>rw[e1] at hy;cases hy
  |some p=>
   rw[e1] at hy hb;have:y=p:=by simpa using hy
   subst this;cases e2:e.inside with
   |none=>rw[e2] at hb;exact hb.elim
   |some l=>rw[e2] at hb;rw[hb.1];rfl
theorem kx.rj{AA:gu}{H:Hp}{L:jO}{n:Nat}{e:Ear}(h:kx AA H L n e):∀y∈L.mut,∀xs,H y≠some (.tup xs):=by
 intro y hy xs z;rcases az.mp hy with rfl|hy
 ·rw[h.ins] at z;cases z
 ·have hb:=h.rQ;cases e1:L.lb with
  |none=>rw[e1] at hy;cases hy
  |some p=>
   rw[e1] at hy hb;have:y=p:=by simpa using hy
   subst this;cases e2:e.inside with
   |none=>rw[e2] at hb;exact hb.elim
   |some l=>rw[e2] at hb;rw[hb.1] at z;cases z
structure sL(H:Hp)(ts qs:List Addr)(fs:List Vbkdaa.Frame):Prop where
 t:iG H (fun x:Vbkdaa.Frame×Addr=>.tup [nV x.1.crossing,.ref x.2]) ts (fs.zip qs)
 q:iG H (fun f:Vbkdaa.Frame=>.lst (f.samples.map oV)) qs fs
theorem sL.keep{H H':Hp}{ts qs:List Addr}{fs:List Vbkdaa.Frame}{ys:List Addr}(h:sL H ts qs fs)(o:gE ys H H')(n:∀a∈qs,a∉ys)(m:∀y∈ys,∀xs,H y≠some (.tup xs)):sL H' ts qs fs:=
 ⟨⟨h.t.1,fun i a x h1 h2=>kQ o m (h.t.2 i a x h1 h2)⟩,h.q.keep o n⟩
theorem sL.snoc{H:Hp}{ts qs:List Addr}{fs:List Vbkdaa.Frame}{t q:Addr}{f:Vbkdaa.Frame}(h:sL H ts qs fs)(ht:H t=some (.tup [nV f.crossing,.ref q]))(hq:H q=some (.lst (f.samples.map oV))):sL H (ts++[t]) (qs++[q]) (fs++[f]):=
 ⟨by rw[MZ _ _ _ _ h.q.1.symm];exact h.t.snoc ht,h.q.snoc hq⟩
theorem zU(n:Nat):∀(l:List Nat) (e:Ear) (c:Nat),hearAll n e (l++[c])=((hear n (hearAll n e l).1 c).1,(hearAll n e l).2++(hear n (hearAll n e l).1 c).2)
 |[],e,c=>by simp[hearAll]
 |x::l,e,c=>by
  rw[bM];unfold hearAll;simp only;rw[zU n l,a6]
theorem VD(n:Nat)(e:Ear):hear n e 128=({e with inside:=some [],bad:=e.bad+(if e.inside.isSome=true then 1 else 0)},[]):=by unfold hear;rw[aw (by rfl)]
theorem XW{n:Nat}{e:Ear}{c:Nat}(h:c≠128)(h2:e.inside=none):hear n e c=(e,[]):=by unfold hear;rw[am (by exact h),h2]
theorem XX{n:Nat}{e:Ear}{l:List Nat}(h2:e.inside=some l)(hd:decoded n l=none):hear n e 129=(⟨none,e.read,e.bad+1⟩,[]):=by
 unfold hear;rw[am (by decide),h2];simp only;rw[aw (by rfl),hd]
theorem WO{n:Nat}{e:Ear}{l:List Nat}{f:Vbkdaa.Frame}(h2:e.inside=some l)(hd:decoded n l=some f):hear n e 129=(⟨none,e.read+1,e.bad⟩,[f]):=by
 unfold hear;rw[am (by decide),h2];simp only;rw[aw (by rfl),hd]
theorem WP{n:Nat}{e:Ear}{c:Nat}{l:List Nat}(h:c≠128)(h3:c≠129)(h2:e.inside=some l):hear n e c=({e with inside:=some (l++[c])},[]):=by
 unfold hear;rw[am (by exact h),h2];simp only;rw[am (by exact h3)]
theorem XY(n:Nat)(e:Ear)(c:Nat):(((hear n e c).1.inside).getD []).length<=(e.inside.getD []).length+1:=by
 unfold hear;split
 ·simp
 ·split
  ·simp
  ·rename_i l hl;split
   ·split<;>simp
   ·simp[hl]
theorem Mr(n:Nat)(e:Ear)(l:List Nat):(((hearAll n e l).1.inside).getD []).length<=(e.inside.getD []).length+l.length:=by
 refine snocInd (P:=fun l=>(((hearAll n e l).1.inside).getD []).length<=(e.inside.getD []).length+l.length) (aA _) (fun l x ih=> ?_) l;rw[zU,ag];have:=XY n (hearAll n e l).1 x;simp only[aj,aZ];omega
def YQ(AA:gu):Sp:=fun vs H Q _=>∃(x dx:Addr) (n:Nat),vs=[.ref x,.int n]/\H x=some (.ins AA.mJ dx [])/\∀H',gE [x] H H'->kx AA H' ⟨x,dx,none⟩ n quiet->Q .gS H'
def YR(AA:gu):Sp:=fun vs H Q _=>∃(L:jO) (n:Nat) (e:Ear),vs=[.ref L.h]/\kx AA H L n e/\∀(H':Hp) (p:Addr),H p=none->j0 H H'->gE [L.h] H H'->kx AA H' {L with lb:=some p} n {e with inside:=some [],bad:=e.bad+(if e.inside.isSome=true then 1 else 0)}->Q .gS H'
def aaH(AA:gu):Sp:=fun vs H Q _=>∃(L:jO) (n:Nat) (e:Ear) (l:List Nat),vs=[.ref L.h]/\kx AA H L n e/\e.inside=some l/\l.length<=50000/\n<=8/\
 (decoded n l=none->∀(H':Hp) (p:Addr),H p=none->j0 H H'->gE [L.h] H H'->kx AA H' {L with lb:=none} n ⟨none,e.read,e.bad+1⟩->H' p=some (.lst [])->Q (.ref p) H')/\
 ∀f,decoded n l=some f->∀(H':Hp) (p t q:Addr),H p=none->H t=none->H q=none->j0 H H'->gE [L.h] H H'->kx AA H' {L with lb:=none} n ⟨none,e.read+1,e.bad⟩->H' p=some (.lst [.ref t])->H' t=some (.tup [nV f.crossing,.ref q])->H' q=some (.lst (f.samples.map oV))->Q (.ref p) H'
section
variable {P:Program} {w:World} {K:PySem.W.Frag} {mg:Str->Option Value} {base:Heap} {AA:gu}
theorem Su:gP ["self","channels"] ["self","channels"] (gL (iZ (fX 27) 0)):=gX (by decide+kernel)
theorem E8(T:Tx P w K mg AA):gK P w K mg base gT 1 AA.Dx AA.Dy ["self","channels"] (YQ AA):=by
 have SC:=Su;refine T.SE.ok SC (fun vs H Q E h=> ?_) (fun gy A outer s H vs Q E hr h=> ?_)
 ·obtain⟨x,dx,n,rfl,_⟩:=h;rfl
 ·obtain⟨x,dx,n,rfl,hx,hq⟩:=h
  refine⟨_,(fS (js (pv 0) (pv 1) Z)
   (fS (js (pv 0) uC Z)
   (fS (js (pv 0) fW Z)
   (fV (js (pv 0) fW Z))))),?_⟩
  refine⟨_,Z,_,Z,x,_,dx,_,Z,hx,T.ka,T.JH,(by show 0<1000;decide),?_⟩;refine⟨_,Z,x,_,dx,_,Z,fO,T.ka,T.qh,(by show 1<1000;decide),?_⟩;refine⟨_,Z,x,_,dx,_,Z,fO,T.ka,T.DR,(by show 2<1000;decide),?_⟩;refine⟨_,Z,x,_,dx,_,Z,fO,T.ka,T.vG,(by show 3<1000;decide),?_⟩;rw[jn,jn,jn];exact hq _ (gE.refl.put (by simp)) ⟨fO,trivial⟩
theorem Rf:gP ["self"] ["self"] (gL (iZ (fX 27) 2)):=gX (by decide+kernel)
theorem Rg(T:Tx P w K mg AA):gK P w K mg base gT 1 AA.CS AA.CT ["self"] (YR AA):=by
 have SC:=Rf;refine T.Rh.ok SC (fun vs H Q E h=> ?_) (fun gy A outer s H vs Q E hr h=> ?_)
 ·obtain⟨L,n,e,rfl,_⟩:=h;rfl
 ·obtain⟨L,n,e,rfl,hE,hq⟩:=h
  refine⟨_,(fS (gY (qt (Gn (gc (pv 0) Z)))
   (fV (Ag (pv 0) fW A6))
   ia)
   (fV (js (pv 0) (gI fP) Z))),?_⟩
  have hb:=hE.rQ;refine⟨_,Z,L.h,_,L.dx,_,_,Z,hE.ins,T.ka,T.qh,Z,_,Z,?_⟩
  have fin:∀(H1:Hp) (k:Nat),j0 H H1->gE [L.h] H H1->H1 L.h=some (.ins AA.mJ L.dx (CA L n e.read k))->k=e.bad+(if e.inside.isSome=true then 1 else 0)->
   OT K (iO 0) (yw jw) "begun" ⟨fun _ H'=>Q .gS H',Q,fun _ _=>True,fun _ _=>True⟩ [some (.ref L.h)] H1:=by
   rintro H1 k gr1 o1 h1 rfl;refine⟨aN _,fun q1 n1=> ?_⟩;refine⟨_,Z,L.h,_,L.dx,_,Z,(fQ.new n1) _ _ h1,T.ka,T.qh,(by show 4<1000;decide),?_⟩;have nq:q1≠L.h:=(gf h1 n1).symm;refine hq _ q1 (qo o1 (by simpa using nq) n1) (gr1.trans (fQ.new n1).grow).put ((o1.trans (fQ.new n1).own).put (by simp)) ⟨fO,?_⟩;exact⟨by rw[fT nq,fO];rfl,nq⟩
  cases e1:L.lb with
  |none=>
   rw[e1] at hb;cases e2:e.inside with
   |some l=>rw[e2] at hb;exact hb.elim
   |none=>
    refine gn Z ?_;refine fin H e.bad j0.refl gE.refl hE.ins (by rw[e2];rfl)
  |some p=>
   rw[e1] at hb;cases e2:e.inside with
   |none=>rw[e2] at hb;exact hb.elim
   |some l=>
    refine fZ Z ?_;refine⟨_,Z,L.h,_,L.dx,_,_,Z,hE.ins,T.ka,T.vG,Z,_,_,Z,Z,L.dx,_,hE.ins,(by show 4<1000;decide),?_⟩;exact fin _ (e.bad+1) j0.refl.put (gE.refl.put (by simp)) fO (by rw[e2];rfl)
theorem Rv:gP ["self","found"] ["self"] (gL (iZ (fX 27) 3)):=gX (by decide+kernel)
theorem Rw(T:Tx P w K mg AA):gK P w K mg base gT 5 AA.CZ AA.C0 ["self"] (aaH AA):=by
 have Ub:=Tp (base:=base) T;have SC:=Rv;refine T.RA.ok SC (fun vs H Q E h=> ?_) (fun gy A outer s H vs Q E hr h=> ?_)
 ·obtain⟨L,n,e,l,rfl,_⟩:=h;rfl
 ·obtain⟨L,n,e,l,rfl,hE,zu,hl,h8,mw,kC⟩:=h
  refine⟨_,(fS (gj (i:=1) SC.nd Z (Or.inl Z) (ic Ub (hr.mono (by decide)) Z T.Aa.mg T.Aa.fn.kp T.Aa.b .nil gG (fN (gc (pv 0) Z) (fN (gc (pv 0) Z) fP))))
   (fS (js (pv 0) uC Z)
   (fS (gY (qt (A0 (pv 1)))
     (fS (Ag (pv 0) fW A6)
     (fV (gC (gI fP))))
     ia)
   (fS (Ag (pv 0) fW A6)
   (fV (gC (gI (fN (pv 1) fP)))))))),?_⟩
  have hb:=hE.rQ;rw[zu] at hb;cases e1:L.lb with
  |none=>rw[e1] at hb;exact hb.elim
  |some p=>
   rw[e1] at hb;have hbv:Pg L.lb=V.ref p:=by rw[e1];rfl
   refine⟨_,Z,L.h,_,L.dx,_,_,Z,hE.ins,T.ka,T.qh,Z,_,Z,L.h,_,L.dx,_,_,Z,hE.ins,T.ka,T.JH,Z,p,l,n,by rw[hbv];rfl,hb.1,hl,h8,fun hd H1 s1=> ?_,fun f hd H1 t q s1 ft fq gt gq=> ?_⟩
   ·have iH:=hE.same s1;refine⟨_,Z,L.h,_,L.dx,_,Z,iH.ins,T.ka,T.qh,(by show 4<1000;decide),?_⟩;refine⟨_,Z,_,Z,?_⟩;refine fZ Z ?_;refine⟨_,Z,L.h,_,L.dx,_,_,Z,fO,T.ka,T.vG,Z,_,_,Z,Z,L.dx,_,fO,(by show 4<1000;decide),?_⟩;rw[jn];have o2:gE [L.h] H (fM H1 L.h (.ins AA.mJ L.dx (CA {L with lb:=none} n e.read (e.bad+1)))):=s1.own.put (by simp);refine⟨aN _,fun q1 n1=> ?_⟩;have o3:=o2.trans (fQ.new (o:=.lst []) n1).own
    have nq:q1≠L.h:=fun z=>by
     have zw:(fM H1 L.h _) q1=none:=n1;rw[z,fO] at zw;cases zw
    exact mw hd _ q1 (qo o2 (by simpa using nq) n1) (s1.grow.put.trans (fQ.new n1).grow) o3 ⟨(fQ.new n1) _ _ fO,trivial⟩ fO
   ·have iH:=hE.same s1;refine⟨_,Z,L.h,_,L.dx,_,Z,iH.ins,T.ka,T.qh,(by show 4<1000;decide),?_⟩;refine⟨_,Z,_,Z,?_⟩;refine gn Z ?_;refine⟨_,Z,L.h,_,L.dx,_,_,Z,fO,T.ka,T.DR,Z,_,_,Z,Z,L.dx,_,fO,(by show 4<1000;decide),?_⟩;rw[jn];have o2:gE [L.h] H (fM H1 L.h (.ins AA.mJ L.dx (CA {L with lb:=none} n (e.read+1) e.bad))):=s1.own.put (by simp);have nt:t≠L.h:=fun z=>by rw[z,hE.ins] at ft;cases ft
    have nqq:q≠L.h:=fun z=>by rw[z,hE.ins] at fq;cases fq
    refine⟨_,Z,fY (by simp),fun q1 n1=> ?_⟩;have o3:=o2.trans (fQ.new (o:=.lst [.ref t]) n1).own
    have nq:q1≠L.h:=fun z=>by
     have zw:(fM H1 L.h _) q1=none:=n1;rw[z,fO] at zw;cases zw
    refine kC f hd _ q1 t q (qo o2 (by simpa using nq) n1) ft fq (s1.grow.put.trans (fQ.new n1).grow) o3 ⟨(fQ.new n1) _ _ fO,trivial⟩ fO ?_ ?_
    ·refine(fQ.new n1) _ _ ?_;show(fM H1 L.h _) t=_;rw[fT nt];exact gt
    ·refine(fQ.new n1) _ _ ?_;show(fM H1 L.h _) q=_;rw[fT nqq];exact gq
end
def ZY(AA:gu):Sp:=fun vs H Q _=>∃(L:jO) (n:Nat) (e:Ear) (a:Addr) (l:List Nat),vs=[.ref L.h,.ref a]/\kx AA H L n e/\H a=some (.lst (l.map nV))/\a∉L.mut/\(e.inside.getD []).length+l.length<=49999/\n<=8/\
 ∀(H':Hp) (lb:Option Addr) (p:Addr) (ts qs:List Addr),gE L.mut H H'->j0 H H'->kx AA H' {L with lb:=lb} n (hearAll n e l).1->(∀x,lb=some x->x∈L.mut\/H x=none)->H p=none->H' p=some (.lst (ts.map V.ref))->sL H' ts qs (hearAll n e l).2->(hearAll n e l).2.length<=l.length->Q (.ref p) H'
theorem M7(n:Nat)(e:Ear)(l:List Nat):(hearAll n e l).2.length<=l.length:=by
 refine snocInd (P:=fun l=>(hearAll n e l).2.length<=l.length) (aA _) (fun l x ih=> ?_) l;rw[zU,ag,ag]
 have:(hear n (hearAll n e l).1 x).2.length<=1:=by
  unfold hear;split
  ·simp
  ·split
   ·simp
   ·split
    ·split<;>simp
    ·simp
 simp only[aj,aZ];omega
section
variable {P:Program} {w:World} {K:PySem.W.Frag} {mg:Str->Option Value} {base:Heap} {AA:gu}
theorem Sv:gP ["self","octets","frames","octet"] ["self","octets"] (gL (iZ (fX 27) 1)):=gX (by decide+kernel)
theorem Sw(T:Tx P w K mg AA):gK P w K mg base gT 6 AA.Dz AA.DA ["self","octets"] (ZY AA):=by
 have Rn:=Rg (base:=base) T;have RJ:=Rw (base:=base) T;have SC:=Sv;refine T.SH.ok SC (fun vs H Q E h=> ?_) (fun gy A outer s H vs Q E hr h=> ?_)
 ·obtain⟨L,n,e,a,l,rfl,_⟩:=h;rfl
 ·obtain⟨L,n,e,a,l,rfl,hE,ha,na,hl,h8,hq⟩:=h
  refine⟨_,(fS (gj (i:=2) SC.nd Z (Or.inl Z) (gI fP))
   (fS (lE bg Z (ma (pv 1)) (iI (i:=3) SC.nd Z (Or.inl Z))
     (fV (gY (io nj (pv 3) (gz Z T.Eb) (ii _))
       (fV (iR (l9 (pv 0) T.ka T.Rz Rn (hr.mono (by decide)) T.Ro .nil gG)))
       (fV (gY (qt (A0 (gc (pv 0) Z)))
         (fV KL)
         (fV (gY (io nj (pv 3) (gz Z T.EV) (ii _))
           (fV (iR (iT ax a0 a5 m6 (pv 2) (fN (l9 (pv 0) T.ka T.RX RJ (hr.mono (by decide)) T.RK .nil gG) fP))))
           (fV (iR (iT ax aI aL kE (gc (pv 0) Z) (fN (pv 3) fP)))))))))))
   (fV (gC (pv 2))))),?_⟩
  refine⟨aN _,fun q1 n1=> ?_⟩;have s1:fQ H (fM H q1 (.lst [])):=fQ.new n1
  refine⟨_,Z,a,Z,⟨_,fR.of (s1 _ _ ha)⟩,qW (K:=K) (a:=a) (xs:=l.map nV) (fun i σ H'=>∃v3 lb ts qs,σ=[some (.ref L.h),some (.ref a),some (.ref q1),v3]/\gE L.mut H H'/\j0 H H'/\kx AA H' {L with lb:=lb} n (hearAll n e (l.take i)).1/\(∀x,lb=some x->x∈L.mut\/H x=none)/\lb≠some q1/\H' q1=some (.lst (ts.map V.ref))/\sL H' ts qs (hearAll n e (l.take i)).2/\∀q∈qs,H q=none/\q≠q1/\lb≠some q)
   ⟨none,L.lb,[],[],Z,s1.own,s1.grow,hE.same s1,fun x hx=>.inl (by simp[jO.mut,hx]),?_,fO,⟨iG.nil,iG.nil⟩,fun q hq=>by cases hq⟩ (fun i σ H' _ ⟨_,_,_,_,_,o,_,_⟩=>fR.of (o _ _ ha na)) ?_ ?_⟩
  ·intro z;have:=hE.lL q1 (by simp[jO.mut,z]);rw[n1] at this;cases this
  ·rintro i x σ H2 hx ⟨v3,lb,ts,qs,rfl,o2,l8,jl,qQ,xy,g2,mZ,nI⟩;obtain⟨c,hc,rfl⟩:=kF hx;have hi:i<l.length:=(ap.mp hc).1;have zu:=Mr n e (l.take i);have htl:(l.take i).length=i:=by rw[aD];omega
   have tK:=M7 n e (l.take i);rw[take_snoc hc,zU];generalize hearAll n e (l.take i)=st at jl mZ zu tK;have hhm:L.h∈L.mut:=by simp[jO.mut]
   have wC:∀y∈([L.h]:List Addr),y∈L.mut:=fun y hy=>by rw[aq.mp hy];exact hhm
   have hLm:∀y∈L.mut,(H y).isSome=true:=hE.lL;have tQ:q1≠L.h:=fun z=>by rw[z,hE.ins] at n1;cases n1
   have IY:∀y∈([L.h]:List Addr),∀xs,H2 y≠some (.tup xs):=fun y hy xs z=>by
    rw[aq.mp hy,jl.ins] at z;cases z
   have IZ:∀q∈qs,q∉([L.h]:List Addr):=fun q hq z=>by
    have:=(nI q hq).1;rw[aq.mp z,hE.ins] at this;cases this
   refine⟨_,Z,Z,_,Z,?_⟩
   by_cases c1:c=128
   ·refine fZ (by rw[c1];rfl) ?_;refine⟨_,Z,L.h,L.dx,_,Z,jl.ins,Z,{L with lb:=lb},n,st.1,Z,jl,fun H3 p3 f3 zx o3 kN=> ?_⟩;rw[c1,VD,bc];refine⟨_,some p3,ts,qs,Z,o2.trans (o3.mono wC),l8.trans zx,kN,fun x hx=> ?_,?_,o3 _ _ g2 (by simpa using tQ),mZ.keep o3 IZ IY,fun q hq=> ?_⟩
    ·rw[<-af hx];exact .inr (l8 _ f3)
    ·intro z;rw[af z,g2] at f3;cases f3
    ·refine⟨(nI q hq).1,(nI q hq).2.1,fun z=> ?_⟩;obtain⟨j,hj⟩:=b5.mp hq;obtain⟨y,_,hy⟩:=mZ.q.get hj;rw[af z,hy] at f3;cases f3
   ·refine gn (ae (fun z=>c1 (uE.mp z))) ?_;refine⟨_,Z,L.h,_,L.dx,_,_,Z,jl.ins,T.ka,T.qh,Z,_,Z,?_⟩;have hb:=jl.rQ;cases e1:lb with
    |none=>
     rw[e1] at hb;cases e2:st.1.inside with
     |some z=>rw[e2] at hb;exact hb.elim
     |none=>
      refine fZ Z ?_;rw[XW c1 e2,bc];rw[e1] at jl xy nI;exact⟨_,none,ts,qs,Z,o2,l8,jl,fun x hx=>(by cases hx),xy,g2,mZ,nI⟩
    |some p=>
     rw[e1] at hb jl xy nI qQ;cases e2:st.1.inside with
     |none=>rw[e2] at hb;exact hb.elim
     |some z=>
      rw[e2] at hb zu;simp only[Option.getD_some] at zu;refine gn Z ?_;refine⟨_,Z,Z,_,Z,?_⟩
      by_cases c2:c=129
      ·refine fZ (by rw[c2];rfl) ?_;refine⟨_,Z,.inl ⟨Z,_,fR.of g2⟩,_,Z,L.h,L.dx,_,Z,jl.ins,Z,{L with lb:=some p},n,st.1,z,Z,jl,e2,by omega,h8,fun hd H3 p3 f3 zx o3 kN g3=> ?_,fun f hd H3 p3 t3 q3 f3 ft fq zx o3 kN g3 gt gq=> ?_⟩
       ·rw[c2,XX e2 hd,bc];have pw:=o3 _ _ g2 (by simpa using tQ);refine⟨q1,p3,_,_,Z,Z,pw,g3,fY (by rw[ac,mZ.t.1,cK];simp;omega),?_⟩;rw[bc]
        have eid:fM H3 q1 (.lst (ts.map V.ref))=H3:=by
         funext b
         by_cases QL:b=q1
         ·rw[QL,fO,pw]
         ·rw[fT QL]
        rw[eid];exact⟨_,none,ts,qs,Z,o2.trans (o3.mono wC),l8.trans zx,kN,fun x hx=>(by cases hx),fun h=>(by cases h),pw,mZ.keep o3 IZ IY,fun q hq=>⟨(nI q hq).1,(nI q hq).2.1,fun h=>by cases h⟩⟩
       ·rw[c2,WO e2 hd];have pw:=o3 _ _ g2 (by simpa using tQ);refine⟨q1,p3,_,_,Z,Z,pw,g3,fY (by rw[ac,mZ.t.1,cK];simp;omega),?_⟩;have hF3:=(mZ.keep o3 IZ IY).snoc gt gq;have n1t:t3≠q1:=fun h=>by rw[h,g2] at ft;cases ft
        have QM:q3≠q1:=fun h=>by rw[h,g2] at fq;cases fq
        have o4:gE [q1] H3 (fM H3 q1 (.lst (ts.map V.ref++[V.ref t3]))):=gE.refl.put (by simp);have fq':H q3=none:=l8 _ fq;refine⟨_,none,ts++[t3],qs++[q3],Z,(o2.trans (o3.mono wC)).new n1,(l8.trans zx).put,kN.keep o4 ?_,fun x hx=>(by cases hx),fun h=>(by cases h),?_,hF3.keep o4 ?_ ?_,?_⟩
        ·intro y hy rL;rw[aq.mp rL] at hy;rcases az.mp hy with h|h
         ·exact tQ h
         ·cases h
        ·rw[fO,ao];rfl
        ·intro q hq qL;rw[aq.mp qL] at hq;rcases aG.mp hq with h|h
         ·exact(nI q1 h).2.1 rfl
         ·exact QM (aq.mp h).symm
        ·intro y hy xs h;rw[aq.mp hy,pw] at h;cases h
        ·intro q hq;rcases aG.mp hq with h|h
         ·exact⟨(nI q h).1,(nI q h).2.1,fun h=>by cases h⟩
         ·rw[aq.mp h];exact⟨fq',QM,fun h=>by cases h⟩
      ·refine gn (ae (fun z=>c2 (uE.mp z))) ?_;rw[WP c1 c2 e2,bc];refine⟨_,Z,L.h,_,L.dx,_,_,Z,jl.ins,T.ka,T.qh,Z,.inl ⟨Z,_,fR.of hb.1⟩,_,Z,p,_,_,Z,Z,hb.1,iU (by rw[ac];omega),?_⟩;have npq:p≠q1:=fun h=>xy (by rw[h])
       have o4:gE [p] H2 (fM H2 p (.lst (z.map nV++[nV c]))):=gE.refl.put (by simp);refine⟨_,some p,ts,qs,Z,?_,l8.put,⟨?_,?_⟩,qQ,xy,?_,mZ.keep o4 ?_ ?_,nI⟩
       ·rcases qQ p Z with h|h
        ·exact o2.put h
        ·exact o2.new h
       ·show(fM H2 p _) L.h=_;rw[fT hb.2.symm];exact jl.ins
       ·refine⟨?_,hb.2⟩;rw[fO,ao];rfl
       ·rw[fT npq.symm];exact g2
       ·intro q hq h;exact(nI q hq).2.2 (by rw[aq.mp h])
       ·intro y hy xs h;rw[aq.mp hy,hb.1] at h;cases h
  ·rintro σ H2 ⟨v3,lb,ts,qs,rfl,o2,l8,jl,qQ,xy,g2,mZ,nI⟩;rw[ac,aT] at jl mZ;exact⟨_,Z,hq H2 lb q1 ts qs o2 l8 jl qQ n1 g2 mZ (M7 n e l)⟩
end
end FE
namespace FE
open PySem PySem.Spec PyProof.Rows L2
open Vbkdaa (Book Channel Front ahead behind depth rate high low delayOf gapOf busyNow yieldMost loop worst play playOne Play)
theorem Gi{α:Type}(x:α)(k:Nat):(List.replicate k [x]).flatten=List.replicate k x:=by
 induction k with
 |zero=>rfl
 |succ k ih=>rw[bN,cu,ih,bN];rfl
theorem NZ(l:List Bool)(k:Nat)(z:Int)(hz:z=(l.length:Int)-(k:Int)-1):(decide (0<=z)&&l.reverse.getD z.toNat false)=l[k]?.getD false:=by
 subst hz
 by_cases h:k<l.length
 ·rw[ai (by omega),dP,aE,show((l.length:Int)-(k:Int)-1).toNat=l.length-1-k by omega,b8 (by omega),show l.length-1-(l.length-1-k)=k by omega]
 ·rw[ae (by omega),cZ,bA (by omega)];rfl
def YS(AA:gu):Sp:=fun vs H Q _=>∃(L:ll) (b:Book),vs=[.ref L.s]/\lX AA H L b/\nU b/\∀(H':Hp) (p:Addr),fQ H H'->H p=none->H' p=some (.lst ((worst b).map nV))->Q (.ref p) H'
def ZZ(AA:gu)(K:PySem.W.Frag):Sp:=fun vs H Q _=>∃(L:ll) (b:Book) (a:Addr) (l:List Nat),vs=[.ref L.s,.ref a]/\lX AA H L b/\fR K H a (l.map nV)/\l.length<=1000/\
 ∀(H':Hp) (p:Addr),fQ H H'->H p=none->H' p=some (.lst [nV (play b l).most,nV (play b l).shut,nV (play b l).now])->Q (.ref p) H'
theorem Ms(b:Book)(l:List Nat)(y:Nat):play b (l++[y])=playOne b (play b l) y:=by unfold play;rw[bX];rfl
theorem XZ(b:Book)(l:List Nat):(play b l).busy.length=l.length:=by
 refine snocInd (P:=fun l=>(play b l).busy.length=l.length) Z (fun l x ih=> ?_) l;rw[Ms];show(_::(play b l).busy).length=_;rw[aj,ih,ag];rfl
section
variable {P:Program} {w:World} {K:PySem.W.Frag} {mg:Str->Option Value} {base:Heap} {AA:gu}
theorem Uc:gP ["settings","greatest","unseen","rising"] ["settings"] (gL (fX 24)):=gX (by decide+kernel)
theorem Ud(T:Tx P w K mg AA):gK P w K mg base gT 2 AA.KW AA.KY ["settings"] (YS AA):=by
 have t8:=zP (base:=base) T;have SC:=Uc;refine T.Al.fn.ok SC (fun vs H Q E h=> ?_) (fun gy A outer s H vs Q E hr h=> ?_)
 ·obtain⟨L,b,rfl,_⟩:=h;rfl
 ·obtain⟨L,b,rfl,hS,hB,hq⟩:=h
  refine⟨_,(fS (gj (i:=1) SC.nd Z (Or.inl Z) (ic t8 (hr.mono (by decide)) Z T.nL.mg T.nL.fn.kp T.nL.b .nil gG (fN (gU iL (by rfl) T.len aF (fN (gc (pv 0) Z) fP)) fP)))
   (fS (gY (io ju (pv 1) (gc (pv 0) Z) (ii _))
     (fV (gC (gI (fN (pv 1) fP))))
     ia)
   (fS (gj (i:=2) SC.nd Z (Or.inl Z) (gA A8 (gI (fN (pv 1) fP)) (gA jg (gA jg (gc (pv 0) Z) (gc (pv 0) Z)) fW)))
   (fS (gY (io ju (gc (pv 0) Z) (pv 1) (ii _))
     (fV (gC (gA j2 (gI (fN (gc (pv 0) Z) fP)) (pv 2))))
     ia)
   (fS (gj (i:=3) SC.nd Z (Or.inl Z) (gA A8 (gI (fN (gA jg (gc (pv 0) Z) fW) fP)) (gA jK (gc (pv 0) Z) (pv 1))))
   (fV (gC (gA j2 (gA j2 (gI (fN (pv 1) fP)) (pv 3)) (pv 2))))))))),?_⟩
  have iC:=hS.iC;have kH:(L.cs.map V.ref).length=b.channels.length:=by rw[ac];exact hS.mv.1
  refine⟨_,Z,L.s,_,L.dx,_,_,Z,hS.ins,T.im,T.nJ,Z,L.lc,_,Z,.inl (fR.of hS.mr),b.channels.length,by rw[kH];rfl,by omega,?_⟩;have hw:worst b=(let y:=yieldMost b.channels.length;if y<=rate b then[y] else(if high b<=y then[high b] else y::List.replicate (high b-y) (rate b+1))++List.replicate (loop b+1) y):=rfl;simp only at hw;generalize hY:yieldMost b.channels.length=y at hw;have hB1:=hB.ah;have xa:=hB.de;have Ii:=hB.hi;have hB4:=hB.rt;refine⟨_,Z,_,Z,L.s,_,L.dx,_,_,Z,hS.ins,T.im,T.qU,Z,_,_,Z,Z,_,Z,?_⟩
  by_cases c:y<=rate b
  ·refine fZ (ai (by show(y:Int)<=(rate b:Int);omega)) ?_;rw[aw c] at hw;refine⟨_,Z,fY (by simp),fun q1 n1=> ?_⟩;exact hq _ q1 (fQ.new n1) n1 (by rw[fO,hw];rfl)
  ·refine gn (ae (by show¬(y:Int)<=(rate b:Int);omega)) ?_;rw[am c] at hw;refine⟨_,Z,fY (by simp),fun q1 n1=> ?_⟩;have pA:=hS.same (fQ.new (o:=.lst [V.int (y:Int)]) n1);refine⟨_,Z,L.s,_,L.dx,_,_,Z,pA.ins,T.im,T.tZ,Z,_,Z,L.s,_,L.dx,_,_,Z,pA.ins,T.im,T.vE,Z,_,_,Z,Z,_,_,Z,Z,q1,_,_,Z,Z,fO,by omega,by omega,fY (by simp;omega),fun q2 n2=> ?_⟩;rw[Gi,show((ahead b:Int)+(delayOf b:Int)+1).toNat=loop b+1 by unfold loop;omega];have s2:fQ H (fM (fM H q1 (.lst [V.int (y:Int)])) q2 (.lst (List.replicate (loop b+1) (V.int (y:Int))))):=(fQ.new n1).more n2;have g2:(fM (fM H q1 (.lst [V.int (y:Int)])) q2 (.lst (List.replicate (loop b+1) (V.int (y:Int))))) q2=some (.lst ((List.replicate (loop b+1) y).map nV)):=by rw[fO,List.map_replicate];rfl
   show jR _ _ _ _ (fM (fM H q1 (.lst [V.int (y:Int)])) q2 (.lst (List.replicate (loop b+1) (V.int (y:Int)))));generalize fM (fM H q1 (.lst [V.int (y:Int)])) q2 (.lst (List.replicate (loop b+1) (V.int (y:Int))))=H2 at s2 g2;have I0:=hS.same s2;refine⟨_,Z,L.s,_,L.dx,_,_,Z,I0.ins,T.im,T.tV,Z,_,Z,_,_,Z,Z,_,Z,?_⟩
   by_cases c2:high b<=y
   ·refine fZ (ai (by show(high b:Int)<=(y:Int);omega)) ?_;rw[aw c2] at hw;refine⟨_,Z,L.s,_,L.dx,_,_,Z,I0.ins,T.im,T.tV,Z,fY (by simp),fun q3 n3=> ?_⟩;have p5:=gf g2 n3;refine⟨_,Z,q3,q2,_,_,Z,Z,fO,(by rw[fT p5];exact g2),fY (by simp;unfold loop;omega),fun q4 n4=> ?_⟩;have s4:=(s2.more (o:=.lst [V.int (high b:Int)]) n3);refine hq _ q4 (s4.more n4) (s4.free n4) ?_;rw[fO,hw,ao];rfl
   ·refine gn (ae (by show¬(high b:Int)<=(y:Int);omega)) ?_;rw[am c2] at hw;refine⟨_,Z,L.s,_,L.dx,_,_,Z,I0.ins,T.im,T.qU,Z,_,_,Z,Z,fY (by simp),fun q3 n3=> ?_⟩;have ox:=hS.same (s2.more (o:=.lst [V.int ((rate b:Int)+1)]) n3);have p5:=gf g2 n3;refine⟨_,Z,L.s,_,L.dx,_,_,Z,ox.ins,T.im,T.tV,Z,_,Z,_,_,Z,Z,q3,_,_,Z,Z,fO,by omega,by omega,fY (by simp;omega),fun q4 n4=> ?_⟩;rw[Gi,show((high b:Int)-(y:Int)).toNat=high b-y by omega];have s4:=(s2.more (o:=.lst [V.int ((rate b:Int)+1)]) n3).more (o:=.lst (List.replicate (high b-y) (V.int ((rate b:Int)+1)))) n4;have pw:(fM H2 q3 (.lst [V.int ((rate b:Int)+1)])) q2=some (.lst ((List.replicate (loop b+1) y).map nV)):=by rw[fT p5];exact g2
    have zf:=gf pw n4;have qa:(fM (fM H2 q3 (.lst [V.int ((rate b:Int)+1)])) q4 (.lst (List.replicate (high b-y) (V.int ((rate b:Int)+1))))) q2=some (.lst ((List.replicate (loop b+1) y).map nV)):=by rw[fT zf];exact pw
    have Ja:(fM (fM H2 q3 (.lst [V.int ((rate b:Int)+1)])) q4 (.lst (List.replicate (high b-y) (V.int ((rate b:Int)+1))))) q4=some (.lst ((List.replicate (high b-y) (rate b+1)).map nV)):=by rw[fO,List.map_replicate];rfl
    generalize fM (fM H2 q3 (.lst [V.int ((rate b:Int)+1)])) q4 (.lst (List.replicate (high b-y) (V.int ((rate b:Int)+1))))=H4 at s4 qa Ja;refine⟨_,Z,fY (by simp),fun q5 n5=> ?_⟩;have Ie:=gf Ja n5;have Ij:=gf qa n5;refine⟨_,Z,q5,q4,_,_,Z,Z,fO,(by rw[fT Ie];exact Ja),fY (by simp;omega),fun q6 n6=> ?_⟩;have tI:(fM H4 q5 (.lst [V.int (y:Int)])) q2=some (.lst ((List.replicate (loop b+1) y).map nV)):=by rw[fT Ij];exact qa
    have n26:=gf tI n6;refine⟨_,Z,q6,q2,_,_,Z,Z,fO,(by rw[fT n26];exact tI),fY (by simp;unfold loop;omega),fun q7 n7=> ?_⟩;have s6:=(s4.more (o:=.lst [V.int (y:Int)]) n5).more (o:=.lst ([V.int (y:Int)]++(List.replicate (high b-y) (rate b+1)).map nV)) n6;refine hq _ q7 (s6.more n7) (s6.free n7) ?_;rw[fO,hw,ao,aB];rfl
theorem UY:gP ["settings","yields","late","waiting","most","busies","stopped","now","coming"] ["settings","yields"] (gL (fX 25)):=gX (by decide+kernel)
theorem UZ(T:Tx P w K mg AA):gK P w K mg base gT 2 AA.Ly AA.Lz ["settings","yields"] (ZZ AA K):=by
 have vF:=DJ (base:=base) T;have Du:=JM (base:=base) T;have SC:=UY;refine T.AB.fn.ok SC (fun vs H Q E h=> ?_) (fun gy A outer s H vs Q E hr h=> ?_)
 ·obtain⟨L,b,a,l,rfl,_⟩:=h;rfl
 ·obtain⟨L,b,a,l,rfl,hS,hA,hl,hq⟩:=h
  refine⟨_,(fS (gj (i:=2) SC.nd Z (Or.inl Z) (gA jg (gA jg (gc (pv 0) Z) (gc (pv 0) Z)) fW))
   (fS (gj (i:=3) SC.nd Z (Or.inl Z) fW)
   (fS (gj (i:=4) SC.nd Z (Or.inl Z) fW)
   (fS (gj (i:=5) SC.nd Z (Or.inl Z) (gI fP))
   (fS (gj (i:=6) SC.nd Z (Or.inl Z) fW)
   (fS (lE bg Z (yf Z T.enumerate (fN (pv 1) fP)) (rb Z (lR (iI (i:=7) SC.nd Z (Or.inl Z)) (lR (iI (i:=8) SC.nd Z (Or.inl Z)) qX)))
     (fS (vU (i:=3) SC.nd Z (Or.inl Z) (gU (Fb Z) (by rfl) T.min boot_min (fN (gc (pv 0) Z) (fN (pv 3) fP))) Zf)
     (fS (gY (io nj (ic vF (hr.mono (by decide)) Z T.nK.mg T.nK.fn.kp T.nK.b .nil gG (fN (pv 5) (fN (gA jK (pv 7) (pv 2)) fP))) fW (ii _))
       (fV (vU (i:=6) SC.nd Z (Or.inl Z) fW A3))
       (fV (vU (i:=3) SC.nd Z (Or.inl Z) (pv 8) A3)))
     (fS (iR (iT ax aI aL kE (pv 5) (fN (ic Du (hr.mono (by decide)) Z T.t6.mg T.t6.fn.kp T.t6.b .nil gG (fN (pv 0) (fN (pv 3) (fN (ic vF (hr.mono (by decide)) Z T.nK.mg T.nK.fn.kp T.nK.b .nil gG (fN (pv 5) (fN (gA jK (pv 7) fW) fP))) fP)))) fP)))
     (fV (gj (i:=4) SC.nd Z (Or.inl Z) (gU (r6 Z) (by rfl) T.max fB (fN (pv 4) (fN (pv 3) fP)))))))))
   (fV (gC (gI (fN (pv 4) (fN (pv 6) (fN (pv 3) fP)))))))))))),?_⟩
  refine⟨_,Z,L.s,_,L.dx,_,_,Z,hS.ins,T.im,T.tZ,Z,_,Z,L.s,_,L.dx,_,_,Z,hS.ins,T.im,T.vE,Z,_,_,Z,Z,_,_,Z,Z,?_⟩;refine⟨aN _,fun q1 n1=> ?_⟩;have s1:fQ H (fM H q1 (.lst [])):=fQ.new n1
  refine⟨_,Z,a,_,Z,s1.seq hA,AH (K:=K) (a:=a) (xs:=l.map nV) (fun i σ H'=>∃v7 v8,σ=[some (.ref L.s),some (.ref a),some (.int ((ahead b:Int)+(delayOf b:Int)+1)),some (nV (play b (l.take i)).now),some (nV (play b (l.take i)).most),some (.ref q1),some (nV (play b (l.take i)).shut),v7,v8]/\fQ H H'/\H' q1=some (.lst ((play b (l.take i)).busy.reverse.map bV)))
   ⟨none,none,Z,s1,fO⟩ (fun i σ H' _ ⟨_,_,_,s2,_⟩=>s2.seq hA) ?_ ?_⟩
  ·rintro i x p σ H2 hx ⟨v7,v8,rfl,s2,g2⟩ np;obtain⟨y,hy,rfl⟩:=kF hx;have hi:i<l.length:=(ap.mp hy).1;have j6:(play b (l.take i)).busy.length=i:=by rw[XZ,aD];omega
   have s3:fQ H (fM H2 p (.tup [.int (i:Nat),nV y])):=s2.more np;have nq:=gf g2 np;have g3:(fM H2 p (.tup [.int (i:Nat),nV y])) q1=some (.lst ((play b (l.take i)).busy.reverse.map bV)):=by rw[fT nq];exact g2
   have ow:(fM H2 p (.tup [.int (i:Nat),nV y])) p=some (.tup [.int (i:Nat),nV y]):=fO;generalize fM H2 p (.tup [.int (i:Nat),nV y])=H3 at s3 g3 ow;rw[take_snoc hy,Ms];generalize hp:play b (l.take i)=pl at g3 j6;have ox:=hS.same s3;refine⟨p,_,Z,kf ow,Z,_,_,Z,_,_,Z,Z,?_⟩;refine⟨_,Z,_,Z,L.s,_,L.dx,_,_,Z,ox.ins,T.im,T.qU,Z,_,Z,_,_,Z,_,_,Z,Z,?_⟩;have e1:(pl.now:Int)-(if (pl.now:Int)<(rate b:Int) then(pl.now:Int) else(rate b:Int))=((pl.now-rate b:Nat):Int):=by split<;>omega
   dsimp only;rw[e1];refine⟨_,Z,_,Z,_,Z,_,_,Z,Z,q1,pl.busy.reverse,_,Z,fR.of g3,by rw[cv];omega,Z,_,Z,?_⟩;rw[NZ pl.busy (loop b) _ (by unfold loop;omega)]
   have fin:∀(n sh:Nat),(n:Int)=((pl.now-rate b+(if (pl.busy[loop b]?).getD false=true then 0 else y):Nat):Int)->(sh:Int)=((pl.shut+(if (pl.busy[loop b]?).getD false=true then 1 else 0):Nat):Int)->
    jR (wb (u7 K "list" ux (iO 5) (i7 (GW (NN AA) [] E0 (i7 (iO 0) (i7 (iO 3) (i7 (GW (MW K) [] E0 (i7 (iO 5) (i7 (kz (kX fun i j=>V.int (i-j)) (iO 7) (tC (V.int 1))) jw))) jw)))) jw))) (uQ (nZ (fun xs H Q=>∃i j,xs=[V.int i,V.int j]/\Q (V.int (if j>i then j else i)) H) (i7 (iO 4) (i7 (iO 3) jw))) (sC 4))
     ⟨fun σ H'=>∃v7 v8,σ=[some (.ref L.s),some (.ref a),some (.int ((ahead b:Int)+(delayOf b:Int)+1)),some (nV (playOne b pl y).now),some (nV (playOne b pl y).most),some (.ref q1),some (nV (playOne b pl y).shut),v7,v8]/\fQ H H'/\H' q1=some (.lst ((playOne b pl y).busy.reverse.map bV)),fun _ _=>True,fun _ _=>True,fun _ _=>True⟩
     [some (.ref L.s),some (.ref a),some (.int ((ahead b:Int)+(delayOf b:Int)+1)),some (.int n),some (nV pl.most),some (.ref q1),some (.int sh),some (.int (i:Nat)),some (nV y)] H3:=by
    intro n sh hn Ig;refine⟨_,Z,.inl ⟨Z,_,fR.of g3⟩,_,Z,_,Z,_,Z,_,Z,_,_,Z,Z,q1,pl.busy.reverse,_,Z,fR.of g3,by rw[cv];omega,?_⟩;rw[NZ pl.busy 0 _ (by omega)];refine⟨L,b,n,(pl.busy[0]?).getD false,Z,ox,?_⟩;refine⟨q1,_,_,Z,Z,g3,iU (by rw[ac,cv];omega),?_⟩;refine⟨_,Z,_,Z,_,_,Z,?_⟩;have en:(playOne b pl y).now=n:=by show pl.now-rate b+_=n;omega
    have es:(playOne b pl y).shut=sh:=by show pl.shut+_=sh;omega
    have em:(playOne b pl y).most=max pl.most n:=by show max pl.most (pl.now-rate b+_)=_;rw[<-en];rfl
    have eb:(playOne b pl y).busy=busyNow b ((pl.busy[0]?).getD false) n::pl.busy:=by
     show busyNow b ((pl.busy.head?).getD false) (pl.now-rate b+_)::pl.busy=_;rw[List.head?_eq_getElem?,<-en];rfl
    refine⟨some (.int (i:Nat)),some (nV y),?_,s3.put n1,?_⟩
    ·rw[en,es,em];show[_,_,_,_,some (V.int (if (n:Int)>(pl.most:Int) then(n:Int) else(pl.most:Int))),_,_,_,_]=_;rw[show(if (n:Int)>(pl.most:Int) then(n:Int) else(pl.most:Int))=((max pl.most n:Nat):Int) by split<;>omega];rfl
    ·rw[fO,eb,bZ,ao];rfl
   cases c:(pl.busy[loop b]?).getD false with
   |true=>
    refine fZ Z ?_;refine⟨_,Z,_,_,Z,Z,?_⟩;have:=fin (pl.now-rate b) (pl.shut+1) (by rw[c];rfl) (by rw[c];rfl);exact this
   |false=>
    refine gn Z ?_;refine⟨_,Z,_,Z,_,_,Z,Z,?_⟩;have:=fin (pl.now-rate b+y) pl.shut (by rw[c];rfl) (by rw[c];rfl);exact this
  ·rintro σ H2 ⟨v7,v8,rfl,s2,g2⟩;rw[ac,aT];refine⟨_,Z,_,Z,_,Z,fY (by simp),fun q2 n2=> ?_⟩;exact hq _ q2 (s2.more n2) (s2.free n2) fO
end
end FE
namespace FE
open PySem PySem.Spec PyProof.Rows L2
open Vbkdaa (spansTold stretches nat)
def WQ(K:PySem.W.Frag):Sp:=fun vs H Q _=>∃(a:Addr) (l:List Bool),vs=[.ref a]/\fR K H a (l.map V.bl)/\l.length<=1000/\∀(H':Hp) (p:Addr),fQ H H'->H p=none->H' p=some (.lst ((spansTold (stretches l)).map V.int))->Q (.ref p) H'
def aaI:Sp:=fun vs H Q _=>∃n k:Nat,vs=[.int n,.int k]/\1<=k/\n<=1000/\k<=1000/\∀p,H p=none->Q (.ref p) (fM H p (.lst [nV (n/Nat.gcd n k),nV (k/Nat.gcd n k)]))
theorem Gj(l:List Bool):(kc ([],false) 0 l).1.length<=l.length:=by
 refine snocInd (P:=fun l=>(kc ([],false) 0 l).1.length<=l.length) (aA _) (fun l x ih=> ?_) l;rw[zT,ag];unfold pJ;split
 ·simp only[aj,aZ];omega
 ·simp only[ag,aj,aZ];omega
section
variable {P:Program} {w:World} {K:PySem.W.Frag} {mg:Str->Option Value} {base:Heap} {AA:gu}
theorem Sx:gP ["marks","edges","inside","place","mark"] ["marks"] (gL (fX 68)):=gX (by decide+kernel)
theorem Dv(T:Tx P w K mg AA):gK P w K mg base gT 1 AA.JZ AA.J0 ["marks"] (WQ K):=by
 have SC:=Sx;refine T.qj.fn.ok SC (fun vs H Q E h=> ?_) (fun gy A outer s H vs Q E hr h=> ?_)
 ·obtain⟨a,l,rfl,_⟩:=h;rfl
 ·obtain⟨a,l,rfl,hA,hl,hq⟩:=h
  refine⟨_,(fS (gj (i:=1) SC.nd Z (Or.inl Z) (gI fP))
   (fS (gj (i:=2) SC.nd Z (Or.inl Z) On)
   (fS (lE bg Z (yf Z T.enumerate (fN (pv 0) fP)) (rb Z (lR (iI (i:=3) SC.nd Z (Or.inl Z)) (lR (iI (i:=4) SC.nd Z (Or.inl Z)) qX)))
     (fV (gY (io rc (pv 4) (pv 2) (ii _))
       (fS (iR (iT ax aI aL kE (pv 1) (fN (pv 3) fP)))
       (fV (gj (i:=2) SC.nd Z (Or.inl Z) (pv 4))))
       ia)))
   (fS (gY (lT (pv 2))
     (fV (iR (iT ax aI aL kE (pv 1) (fN (gU iL (by rfl) T.len aF (fN (pv 0) fP)) fP))))
     ia)
   (fV (gC (gA j2 (gI (fN (gA vQ (gU iL (by rfl) T.len aF (fN (pv 1) fP)) fW) fP)) (pv 1)))))))),?_⟩
  refine⟨aN _,fun q1 n1=> ?_⟩;have s1:fQ H (fM H q1 (.lst [])):=fQ.new n1
  refine⟨_,Z,a,_,Z,s1.seq hA,AH (K:=K) (a:=a) (xs:=l.map V.bl) (fun i σ H'=>∃v3 v4,σ=[some (.ref a),some (.ref q1),some (.bl (kc ([],false) 0 (l.take i)).2),v3,v4]/\fQ H H'/\H' q1=some (.lst ((kc ([],false) 0 (l.take i)).1.map nV)))
   ⟨none,none,Z,s1,fO⟩ (fun i σ H' _ ⟨_,_,_,s2,_⟩=>s2.seq hA) ?_ ?_⟩
  ·rintro i x p σ H2 hx ⟨v3,v4,rfl,s2,g2⟩ np;obtain⟨y,hy,rfl⟩:=kF hx;have hi:i<l.length:=(ap.mp hy).1;have j6:(l.take i).length=i:=by rw[aD];omega
   have s3:fQ H (fM H2 p (.tup [.int (i:Nat),.bl y])):=s2.more np;have nq:=gf g2 np;have g3:(fM H2 p (.tup [.int (i:Nat),.bl y])) q1=some (.lst ((kc ([],false) 0 (l.take i)).1.map nV)):=by rw[fT nq];exact g2
   have ow:(fM H2 p (.tup [.int (i:Nat),.bl y])) p=some (.tup [.int (i:Nat),.bl y]):=fO;generalize fM H2 p (.tup [.int (i:Nat),.bl y])=H3 at s3 g3 ow;have rB:=Gj (l.take i);rw[take_snoc hy,zT,j6,dF];generalize kc ([],false) 0 (l.take i)=st at g3 rB;refine⟨p,_,Z,kf ow,Z,_,_,Z,_,_,Z,Z,?_⟩;refine⟨_,Z,_,Z,Z,_,Z,?_⟩;unfold pJ
   by_cases c:y=st.2
   ·refine gn (by rw[c];simp) ?_;rw[aw c];exact⟨_,_,Z,s3,g3⟩
   ·refine fZ (by simpa using c) ?_;rw[am c];refine⟨_,Z,.inl ⟨Z,_,fR.of g3⟩,_,Z,q1,_,_,Z,Z,g3,iU (by rw[ac];omega),?_⟩;refine⟨_,Z,?_⟩;refine⟨some (.int (i:Nat)),some (.bl y),Z,s3.put n1,?_⟩;rw[fO,ao];rfl
  ·rintro σ H2 ⟨v3,v4,rfl,s2,g2⟩;rw[ac,aT] at g2⊢;have rB:=Gj l;have hE:Vbkdaa.spansTold (stretches l)=nat ((sK l).length/2)::(sK l).map nat:=LU l;unfold sK at hE;generalize kc ([],false) 0 l=st at g2 rB hE
   have fin:∀(H3:Hp) (es:List Nat),fQ H H3->H3 q1=some (.lst (es.map nV))->es=st.1++(if st.2=true then[l.length] else[])->es.length<=1001->
    ww (kz OY (yw (i7 (kz (rI OR fun i j=>V.int (i/j)) (nZ (fun xs H Q=>∃p ys,xs=[V.ref p]/\(fR K H p ys\/iN K H p ys)/\Q (V.int (ys.length:Nat)) H) (i7 (iO 1) jw)) (tC (V.int 2))) jw)) (iO 1)) ⟨fun _ H'=>Q .gS H',Q,fun _ _=>True,fun _ _=>True⟩ [some (.ref a),some (.ref q1),some (.bl st.2),v3,v4] H3:=by
    intro H3 es s3 g3 he hz;refine⟨_,Z,q1,_,Z,.inl (fR.of g3),_,_,Z,Z,⟨by decide,by decide⟩,fY (by simp),fun q2 n2=> ?_⟩;have l7:=gf g3 n2;refine⟨_,Z,q2,q1,_,_,Z,Z,fO,(by rw[fT l7];exact g3),fY (by simp;omega),fun q3 n3=> ?_⟩;have s4:=s3.more (o:=.lst [V.int (((es.map nV).length:Int)/2)]) n2;refine hq _ q3 (s4.more n3) (s4.free n3) ?_;rw[fO,hE,<-he,aB,bE,ac];rfl
   refine⟨_,Z,_,Z,?_⟩;cases c:st.2 with
   |true=>
    refine fZ Z ?_;rw[<-c];refine⟨_,Z,.inl ⟨Z,_,fR.of g2⟩,_,Z,a,_,Z,.inl (s2.seq hA),q1,_,_,Z,Z,g2,iU (by rw[ac];omega),?_⟩;refine fin _ (st.1++[l.length]) (s2.put n1) ?_ (by rw[aw c]) (by simp;omega);rw[fO,ao,ac];rfl
   |false=>
    refine gn Z ?_;rw[<-c];exact fin _ st.1 s2 g2 (by rw[c];simp) (by omega)
theorem Sy:gP ["part","whole","common","rest","remainder"] ["part","whole"] (gL (fX 69)):=gX (by decide+kernel)
theorem Sz(T:Tx P w K mg AA):gK P w K mg base gT 1 AA.J1 AA.J2 ["part","whole"] aaI:=by
 have SC:=Sy;refine T.zS.fn.ok SC (fun vs H Q E h=> ?_) (fun gy A outer s H vs Q E hr h=> ?_)
 ·obtain⟨n,k,rfl,_⟩:=h;rfl
 ·obtain⟨n,k,rfl,hk,hn,Jb,hq⟩:=h
  refine⟨_,(fS (gj (i:=2) SC.nd Z (Or.inl Z) (pv 1))
   (fS (gj (i:=3) SC.nd Z (Or.inl Z) (pv 0))
   (fS (MD bg (io mQ (pv 3) fW (ii _))
     (fS (gj (i:=4) SC.nd Z (Or.inl Z) (gA A5 (pv 2) (pv 3)))
     (fS (gj (i:=2) SC.nd Z (Or.inl Z) (pv 3))
     (fV (gj (i:=3) SC.nd Z (Or.inl Z) (pv 4))))))
   (fV (gC (gI (fN (gA vQ (pv 0) (pv 2)) (fN (gA vQ (pv 1) (pv 2)) fP)))))))),?_⟩
  refine⟨_,Z,_,Z,?_⟩
  refine ME (fun σ H'=>∃(c r:Nat) (v4:Option V),σ=[some (.int n),some (.int k),some (.int c),some (.int r),v4]/\H'=H/\1<=c/\c<=1000/\r<=1000/\Nat.gcd r c=Nat.gcd n k) (fun σ _=>match σ with|[_,_,_,some (.int r),_]=>r.toNat|_=>0)
   ⟨k,n,none,Z,Z,hk,Jb,hn,Z⟩ ?_ ?_
  ·rintro σ H' ⟨c,r,v4,rfl,rfl,h1,h2,h3,hg⟩;refine⟨_,Z,_,_,Z,Z,_,Z,?_⟩
   by_cases h0:0<r
   ·refine fZ (ai (by omega)) ?_;refine⟨_,Z,_,Z,_,_,Z,Z,(by show(0:Int)<(r:Int);omega),?_⟩;refine⟨_,Z,_,Z,?_⟩;refine⟨⟨r,c% r,some (.int ((c% r:Nat):Int)),Z,Z,h0,h3,?_,?_⟩,?_⟩
    ·have:=Nat.mod_lt c h0;omega
    ·rw[<-Nat.gcd_rec];exact hg
    ·show((c% r:Nat):Int).toNat<(r:Int).toNat;have:=Nat.mod_lt c h0;omega
   ·refine gn (ae (by omega)) ?_;have zm:r=0:=by omega
    rw[zm,Nat.gcd_zero_left] at hg;refine⟨_,Z,_,Z,_,_,Z,Z,⟨by show(0:Int)<(c:Int);omega,?_⟩,_,Z,_,Z,_,_,Z,Z,⟨by show(0:Int)<(c:Int);omega,?_⟩,fY (by simp),fun q1 n1=> ?_⟩
    ·show(c:Int)<1073741824;omega
    ·show(c:Int)<1073741824;omega
    ·have:=hq q1 n1;rw[<-hg] at this;exact this
  ·rintro σ H' Q1 Q2 hm ⟨v,hv,i,j,e1,e2,c,e3,q⟩;exact⟨v,hv,i,j,e1,e2,c,e3,hm _ _ q⟩
end
end FE
namespace FE
open PySem PySem.Spec PyProof.Rows L2
open Vbkdaa (nat keptOf frameTold)
def pairsOf(ss:List (Option Nat)):List Int:=ss.zipIdx.flatMap fun x=>match x.1 with
 |some n=>[nat (x.2+1),nat n]
 |none=>[]
theorem N0(f:Vbkdaa.Frame):frameTold f=nat f.crossing::nat (keptOf f).length::pairsOf f.samples:=rfl
theorem VE(ss:List (Option Nat))(i:Nat)(y:Option Nat)(h:ss[i]? =some y):pairsOf (ss.take (i+1))=pairsOf (ss.take i)++(match y with|some n=>[nat (i+1),nat n]|none=>[]):=by
 have hi:=(ap.mp h).1;unfold pairsOf;rw[take_snoc h,List.zipIdx_append,bO,aD,cw (by omega)];simp;cases y<;>rfl
theorem pairs_len(ss:List (Option Nat)):(pairsOf ss).length=2*(ss.filterMap fun x=>x).length:=by
 have:∀(ss:List (Option Nat)) (k:Nat),((ss.zipIdx k).flatMap fun x=>(match x.1 with|some n=>[nat (x.2+1),nat n]|none=>[]:List Int)).length=2*(ss.filterMap fun x=>x).length:=by
  intro ss
  induction ss with
  |nil=>intro k;rfl
  |cons y r ih=>
   intro k;rw[List.zipIdx_cons,br,ag,ih];cases y<;>simp<;>omega
 exact this ss 0
def YT(K:PySem.W.Frag):Sp:=fun vs H Q _=>∃(a:Addr) (ss:List (Option Nat)),vs=[.ref a]/\fR K H a (ss.map oV)/\ss.length<=8/\
 ∀(H':Hp) (p:Addr),fQ H H'->H p=none->H' p=some (.lst ((nat (ss.filterMap fun x=>x).length::pairsOf ss).map V.int))->Q (.ref p) H'
section
variable {P:Program} {w:World} {K:PySem.W.Frag} {mg:Str->Option Value} {base:Heap} {AA:gu}
theorem Sd:gP ["samples","pairs","channel","sample"] ["samples"] (gL (fX 70)):=gX (by decide+kernel)
theorem Se(T:Tx P w K mg AA):gK P w K mg base gT 1 AA.JS AA.JT ["samples"] (YT K):=by
 have SC:=Sd;refine T.zL.fn.ok SC (fun vs H Q E h=> ?_) (fun gy A outer s H vs Q E hr h=> ?_)
 ·obtain⟨a,ss,rfl,_⟩:=h;rfl
 ·obtain⟨a,ss,rfl,hA,hl,hq⟩:=h
  refine⟨_,(fS (gj (i:=1) SC.nd Z (Or.inl Z) (gI fP))
   (fS (lE bg Z (Xa Z T.enumerate (fN (pv 0) fP) (yd fW yj)) (rb Z (lR (iI (i:=2) SC.nd Z (Or.inl Z)) (lR (iI (i:=3) SC.nd Z (Or.inl Z)) qX)))
     (fV (gY (qt (Gn (pv 3)))
       (fV (iR (iT ax a0 a5 m6 (pv 1) (fN (gI (fN (pv 2) (fN (pv 3) fP))) fP))))
       ia)))
   (fV (gC (gA j2 (gI (fN (gA vQ (gU iL (by rfl) T.len aF (fN (pv 1) fP)) fW) fP)) (pv 1)))))),?_⟩
  have Ph:∀i,(pairsOf (ss.take i)).length<=16:=fun i=>by
   rw[pairs_len];have:=cf (fun x=>x) (ss.take i);rw[aD] at this;omega
  refine⟨aN _,fun q1 n1=> ?_⟩;have s1:fQ H (fM H q1 (.lst [])):=fQ.new n1
  refine⟨_,Z,a,_,Z,Z,s1.seq hA,NB (sq:=fun H xs=>fR K H a xs) (xs:=ss.map oV) (fun i σ H'=>∃v2 v3,σ=[some (.ref a),some (.ref q1),v2,v3]/\fQ H H'/\H' q1=some (.lst ((pairsOf (ss.take i)).map V.int)))
   ⟨none,none,Z,s1,fO⟩ (fun i σ H' _ ⟨_,_,_,s2,_⟩=>s2.seq hA) ?_ ?_⟩
  ·rintro i x p σ H2 hx ⟨v2,v3,rfl,s2,g2⟩ np;obtain⟨y,hy,rfl⟩:=kF hx;have s3:fQ H (fM H2 p (.tup [.int ((i+1:Nat):Int),oV y])):=s2.more np;have nq:=gf g2 np;have g3:(fM H2 p (.tup [.int ((i+1:Nat):Int),oV y])) q1=some (.lst ((pairsOf (ss.take i)).map V.int)):=by rw[fT nq];exact g2
   have ow:(fM H2 p (.tup [.int ((i+1:Nat):Int),oV y])) p=some (.tup [.int ((i+1:Nat):Int),oV y]):=fO;generalize fM H2 p (.tup [.int ((i+1:Nat):Int),oV y])=H3 at s3 g3 ow;refine⟨p,_,Z,kf ow,Z,_,_,Z,_,_,Z,Z,?_⟩;rw[VE ss i y hy];refine⟨_,Z,_,Z,?_⟩;cases y with
   |none=>
    refine gn Z ?_;rw[bc];exact⟨_,_,Z,s3,g3⟩
   |some n=>
    refine fZ Z ?_;refine⟨_,Z,.inl ⟨Z,_,fR.of g3⟩,_,Z,_,Z,fY (by simp),fun q4 n4=> ?_⟩;have mY:=gf g3 n4;refine⟨q1,q4,_,_,Z,Z,(by rw[fT mY];exact g3),fO,fY (by have:=Ph i;simp;omega),?_⟩;refine⟨some (.int ((i+1:Nat):Int)),some (nV n),Z,(s3.more n4).put n1,?_⟩;rw[fO,ao];rfl
  ·rintro σ H2 ⟨v2,v3,rfl,s2,g2⟩;have jp:=Ph ss.length;rw[ac,aT] at g2;rw[aT] at jp;refine⟨_,Z,q1,_,Z,.inl (fR.of g2),_,_,Z,Z,⟨by decide,by decide⟩,fY (by simp),fun q2 n2=> ?_⟩;have l7:=gf g2 n2;refine⟨_,Z,q2,q1,_,_,Z,Z,fO,(by rw[fT l7];exact g2),fY (by simp;omega),fun q3 n3=> ?_⟩;have s4:=s2.more (o:=.lst [V.int ((((pairsOf ss).map V.int).length:Int)/2)]) n2;refine hq _ q3 (s4.more n3) (s4.free n3) ?_;have e:((((pairsOf ss).map V.int).length:Int)/2)=nat (ss.filterMap fun x=>x).length:=by rw[ac,pairs_len];unfold nat;omega
   show fM _ q3 (.lst ([V.int ((((pairsOf ss).map V.int).length:Int)/2)]++(pairsOf ss).map V.int)) q3=_;rw[fO,e];rfl
end
end FE
namespace FE
open PySem PySem.Spec PyProof.Rows L2
open Vbkdaa (Book inside_ State stepNumbers decode Ear)
structure iy where
 f:Addr
 dx:Addr
 R:gM
 E:jO
def iy.mut(F:iy):List Addr:=F.f::(F.R.mut++F.E.mut)
def iy.deep(F:iy):List Addr:=F.R.rows++F.R.gD++F.R.gO++F.R.S.fp
def qR(F:iy):List (Str×V):=[("readout",.ref F.R.r),("hearing",.ref F.E.h)]
structure je(AA:gu)(H:Hp)(F:iy)(s:State)(m:RS)(c:Nat):Prop where
 ins:H F.f=some (.ins AA.j8 F.dx (qR F))
 rd:ij AA H F.R s.book m
 gd:Good s.book m s.front
 ea:kx AA H F.E s.book.channels.length s.ear
 nd:F.mut.Nodup
 sep:∀a∈F.deep,a∉F.mut
 el:(s.ear.inside.getD []).length<=400*c
theorem je.lL{AA:gu}{H:Hp}{F:iy}{s:State}{m:RS}{c:Nat}(h:je AA H F s m c):∀y∈F.mut,(H y).isSome=true:=by
 intro y hy;rcases az.mp hy with rfl|hy
 ·rw[h.ins];rfl
 ·rcases aG.mp hy with hy|hy
  ·exact h.rd.lL y hy
  ·exact h.ea.lL y hy
theorem je.keep{AA:gu}{H H':Hp}{F:iy}{s:State}{m:RS}{c:Nat}{ys:List Addr}(h:je AA H F s m c)(o:gE ys H H')(n1:∀a∈F.mut,a∉ys)(n2:∀a∈F.deep,a∉ys)(n3:∀y∈ys,∀xs,H y≠some (.tup xs)):je AA H' F s m c where
 ins:=o _ _ h.ins (n1 _ (by simp[iy.mut]))
 rd:=h.rd.keep o (fun a ha=>n1 a (by simp[iy.mut,ha])) n2 n3
 gd:=h.gd
 ea:=h.ea.keep o (fun a ha=>n1 a (by simp[iy.mut,ha]))
 nd:=h.nd
 sep:=h.sep
 el:=h.el
theorem je.same{AA:gu}{H H':Hp}{F:iy}{s:State}{m:RS}{c:Nat}(h:je AA H F s m c)(e:fQ H H'):je AA H' F s m c:=h.keep (ys:=[]) e.own (fun _ _ z=>by cases z) (fun _ _ z=>by cases z) (fun _ z=>by cases z)
theorem je.later{AA:gu}{H:Hp}{F:iy}{s:State}{m:RS}{c:Nat}(h:je AA H F s m c):je AA H F s m (c+1):=⟨h.ins,h.rd,h.gd,h.ea,h.nd,h.sep,by have:=h.el;omega⟩
def iE(p:Int)(Bg:Bool)(ns row:List Int):List (List Int):=if Bg=true then[p::ns,row] else[p::ns]
def kD(AA:gu)(p:Int)(Bg:Bool)(k:Nat):Sp:=fun vs H Q _=>∃(F:iy) (s:State) (m:RS) (c:Nat) (an ar:Addr) (ns row:List Int),vs=[.ref F.f,.ref an,.ref ar]/\je AA H F s m c/\c<120/\H an=some (.lst (ns.map V.int))/\H ar=some (.lst (row.map V.int))/\an∉F.mut/\ar∉F.mut/\ns.length=k/\row.length<=1100/\
 ∀(H':Hp) (F':iy) (m':RS) (q:Addr),F'.f=F.f->gE F.mut H H'->j0 H H'->je AA H' F' (stepNumbers s (iE p Bg ns row)).1 m' (c+1)->(∀a∈F'.mut,a∈F.mut\/H a=none)->(∀a∈F'.deep,a∈F.deep\/a=ar\/H a=none)->H' q=some (.lst ((stepNumbers s (iE p Bg ns row)).2.map V.int))->H q=none->Q (.ref q) H'
theorem iQ{AA:gu}{ar:Addr}{H:Hp}{F:iy}{s:State}{m:RS}{c:Nat}{Q:VK}{call:List (List Int)}{QN:List Int}(h:je AA H F s m c)(e:stepNumbers s call=(s,QN))
 (hq:∀(H':Hp) (F':iy) (m':RS) (q:Addr),F'.f=F.f->gE F.mut H H'->j0 H H'->je AA H' F' (stepNumbers s call).1 m' (c+1)->(∀a∈F'.mut,a∈F.mut\/H a=none)->(∀a∈F'.deep,a∈F.deep\/a=ar\/H a=none)->H' q=some (.lst ((stepNumbers s call).2.map V.int))->H q=none->Q (.ref q) H'):
 ∀(H':Hp) (q:Addr),fQ H H'->H' q=some (.lst (QN.map V.int))->H q=none->Q (.ref q) H':=fun H' q sm g fr=>by
 refine hq H' F m q Z sm.own sm.grow ?_ (fun a ha=>.inl ha) (fun a ha=>.inl ha) ?_ fr
 ·rw[e];exact(h.same sm).later
 ·rw[e];exact g
theorem oA{s:State}{call:List (List Int)}(h:decode call=none):stepNumbers s call=(s,[-1]):=by unfold stepNumbers;rw[h]
theorem ja{s:State}{call:List (List Int)}{x:Vbkdaa.Call}(h:decode call=some x):stepNumbers s call=Vbkdaa.step s x:=by unfold stepNumbers;rw[h]
theorem kR{s t:State}{x:Vbkdaa.Call}{l:List Int}(h:Vbkdaa.does s x=.ok (t,l)):Vbkdaa.step s x=(t,0::l):=by unfold Vbkdaa.step;rw[h]
theorem nQ{s:State}{x:Vbkdaa.Call}{e:Int}(h:Vbkdaa.does s x=.error e):Vbkdaa.step s x=(s,[e]):=by unfold Vbkdaa.step;rw[h]
theorem oG{b:Bool}{x:Vbkdaa.Call}(h:b=true):Vbkdaa.guard b x=some x:=by unfold Vbkdaa.guard;rw[aw h]
theorem oH{b:Bool}{x:Vbkdaa.Call}(h:b=false):Vbkdaa.guard b x=none:=by unfold Vbkdaa.guard;rw[h];rfl
theorem x8(l:List Nat):l.map nV=(l.map Vbkdaa.nat).map V.int:=by rw[bE];rfl
def Z0(K:PySem.W.Frag):Sp:=fun vs H Q _=>∃(a:Addr) (row:List Int) (lo:Nat) (hi:Int),vs=[.ref a,.int lo,.int hi]/\fR K H a (row.map V.int)/\row.length<=100000/\∀H',fQ H H'->Q (.bl (decide (row.length<=lo)&&row.all fun n=>inside_ n 0 hi)) H'
def Z1(K:PySem.W.Frag):Sp:=fun vs H Q _=>∃(a:Addr) (row:List Int),vs=[.ref a]/\fR K H a (row.map V.int)/\row.length<=100000/\∀H',fQ H H'->Q (.bl (Vbkdaa.areSamples row)) H'
def YU(AA:gu)(K:PySem.W.Frag):Sp:=fun vs H Q _=>∃(L:gM) (b:Book) (m:RS) (k:Int) (a:Addr) (row:List Int),vs=[.ref L.r,.int k,.ref a]/\ij AA H L b m/\lP b m/\fR K H a (row.map V.int)/\row.length<=100000/\
 Q (.int (if row.length≠b.channels.length then-6 else if 400<(m.gB.length:Int)+k then-4 else 0)) H
def YV(AA:gu):Sp:=fun vs H Q _=>∃(L:gM) (b:Book) (m:RS) (k:Int),vs=[.ref L.r,.int k]/\ij AA H L b m/\Q (.int (if (1<=k/\k<=8) then(if (b.channels.length:Int)<k then-5 else 0) else-1)) H
section
variable {P:Program} {w:World} {K:PySem.W.Frag} {mg:Str->Option Value} {base:Heap} {AA:gu}
theorem U0:gP ["row","longest","greatest","number"] ["row","longest","greatest"] (gL (fX 95)):=gX (by decide+kernel)
theorem vH(T:Tx P w K mg AA):gK P w K mg base gT 1 AA.LF AA.LG ["row","longest","greatest"] (Z0 K):=by
 have SC:=U0;refine T.lD.fn.ok SC (fun vs H Q E h=> ?_) (fun gy A outer s H vs Q E hr h=> ?_)
 ·obtain⟨a,row,lo,hi,rfl,_⟩:=h;rfl
 ·obtain⟨a,row,lo,hi,rfl,hA,hl,hq⟩:=h;refine⟨_,(fV (gC (GF (si ju (gU iL (by rfl) T.len aF (fN (pv 0) fP)) (pv 1) (ii _)) (A2 (gU (yk Z) (by rfl) T.all boot_all (fN (mf (own:=[("number",3)]) Z SC.nd (ma (pv 0)) (lC (by kernel_rfl)) (fun s H C cl fp=>(iI (i:=3) SC.nd Z (Or.inl Z) (.inr Z))) (fun s H C cl fp=>md) (fun s H C cl fp=>(MF ju ju fW (pv 3) (pv 2)))) fP)))))),?_⟩;refine⟨_,Z,a,_,Z,.inl hA,_,Z,_,_,Z,Z,_,Z,?_⟩;rw[ac]
  by_cases c1:row.length<=lo
  ·refine fZ (ai (by omega)) ?_;rw[ai c1,dP] at hq;refine⟨_,Z,a,Z,⟨_,hA⟩,fun q1 n1=> ?_⟩;have s1:∀o,fQ H (fM H q1 o):=fun o=>fQ.new n1
   refine sj (K:=K) (a:=a) (xs:=row.map V.int) (fun i H'=>H'=fM H q1 (.lst (((row.take i).map fun n=>inside_ n 0 hi).map V.bl))) Z (fun i H' _ e=>by rw[e];exact(s1 _).seq hA) ?_ ?_
   ·rintro i x H' hx rfl;obtain⟨n,hn,rfl⟩:=kF hx;have hi':i<row.length:=(ap.mp hn).1
    have fin:∀z:Bool,z=inside_ n 0 hi->∃acc,(fM H q1 (.lst (((row.take i).map fun n=>inside_ n 0 hi).map V.bl))) q1=some (.lst acc)/\acc.length<sizeLine/\fM (fM H q1 (.lst (((row.take i).map fun n=>inside_ n 0 hi).map V.bl))) q1 (.lst (acc++[V.bl z]))=fM H q1 (.lst (((row.take (i+1)).map fun n=>inside_ n 0 hi).map V.bl)):=by
     intro z hz;refine⟨_,fO,iU (by rw[ac,ac,aD];omega),?_⟩;rw[jn,take_snoc hn,ao,ao,hz];rfl
    refine⟨Z,?_⟩;refine⟨_,Z,_,_,Z,Z,_,Z,?_⟩
    by_cases c2:0<=n
    ·refine fZ (ai c2) ?_;refine⟨_,Z,_,_,Z,Z,?_⟩;exact fin _ (by unfold inside_;rw[ai c2];rfl)
    ·refine gn (ae c2) ?_;exact fin false (by unfold inside_;rw[ae c2];rfl)
   ·rintro H' rfl;rw[ac,aT];refine⟨q1,_,Z,fR.of fO,?_⟩;have e:(row.map fun n=>inside_ n 0 hi).all id=row.all fun n=>inside_ n 0 hi:=by rw[db];rfl
    rw[e];exact hq _ (s1 _)
  ·refine gn (ae (by omega)) ?_;rw[ae c1,cZ] at hq;exact hq H fQ.kG
theorem SY:gP ["samples"] ["samples"] (gL (fX 96)):=gX (by decide+kernel)
theorem DL(T:Tx P w K mg AA):gK P w K mg base gT 2 AA.Kc AA.Kd ["samples"] (Z1 K):=by
 have pH:=vH (base:=base) T;have SC:=SY;refine T.qk.fn.ok SC (fun vs H Q E h=> ?_) (fun gy A outer s H vs Q E hr h=> ?_)
 ·obtain⟨a,row,rfl,_⟩:=h;rfl
 ·obtain⟨a,row,rfl,hA,hl,hq⟩:=h;refine⟨_,(fV (gC (ic pH (hr.mono (by decide)) Z T.lD.mg T.lD.fn.kp T.lD.b .nil gG (fN (pv 0) (fN (gz Z T.zO) (fN (gz Z T.So) fP)))))),?_⟩;exact⟨_,Z,a,row,8,4095,Z,hA,hl,hq⟩
theorem Rx:gP ["readout","often","samples"] ["readout","often","samples"] (gL (fX 97)):=gX (by decide+kernel)
theorem Jx(T:Tx P w K mg AA):gK P w K mg base gT 2 AA.Jy AA.Jz ["readout","often","samples"] (YU AA K):=by
 have qT:=xE (base:=base) T;have SC:=Rx;refine T.tW.fn.ok SC (fun vs H Q E h=> ?_) (fun gy A outer s H vs Q E hr h=> ?_)
 ·obtain⟨L,b,m,k,a,row,rfl,_⟩:=h;rfl
 ·obtain⟨L,b,m,k,a,row,rfl,hR,hF,hA,hl,hq⟩:=h
  refine⟨_,(fS (gY (io rc (gU iL (by rfl) T.len aF (fN (pv 2) fP)) (gU iL (by rfl) T.len aF (fN (gc (gc (pv 0) Z) Z) fP)) (ii _))
   (fV (gC (gz Z T.T2)))
   ia)
   (fS (gY (io mQ (gA jg (l9 (pv 0) T.gH T.xI qT (hr.mono (by decide)) T.xF .nil gG) (pv 1)) (gz Z T.SM) (ii _))
     (fV (gC (gz Z T.RO)))
     ia)
   (fV (gC fW)))),?_⟩
  have kH:(L.S.cs.map V.ref).length=b.channels.length:=by rw[ac];exact hR.set.mv.1
  refine⟨_,Z,a,_,Z,.inl hA,_,Z,L.r,_,L.dx,_,_,Z,hR.ins,T.gH,T.ly,Z,L.S.s,_,L.S.dx,_,_,Z,hR.set.ins,T.im,T.nJ,Z,L.S.lc,_,Z,.inl (fR.of hR.set.mr),Z,_,Z,?_⟩;rw[ac,kH]
  by_cases c1:row.length=b.channels.length
  ·refine gn (by rw[Bool.not_eq_false'];exact ai (by rw[c1])) ?_;rw[am (by simpa using c1)] at hq;refine⟨_,Z,L.r,L.dx,_,Z,hR.ins,Z,L,b,m,Z,hR,hF,_,Z,_,_,Z,Z,_,_,Z,Z,_,Z,?_⟩
   by_cases c2:400<(m.gB.length:Int)+k
   ·refine fZ (ai c2) ?_;rw[aw c2] at hq;exact hq
   ·refine gn (ae c2) ?_;rw[am c2] at hq;exact hq
  ·refine fZ (by rw[cG];exact ae (fun z=>c1 (by have:=V.int.inj z;omega))) ?_;rw[aw c1] at hq;exact hq
theorem RW:gP ["readout","channel"] ["readout","channel"] (gL (fX 98)):=gX (by decide+kernel)
theorem JE(T:Tx P w K mg AA):gK P w K mg base gT 1 AA.JF AA.JG ["readout","channel"] (YV AA):=by
 have SC:=RW;refine T.tY.fn.ok SC (fun vs H Q E h=> ?_) (fun gy A outer s H vs Q E hr h=> ?_)
 ·obtain⟨L,b,m,k,rfl,_⟩:=h;rfl
 ·obtain⟨L,b,m,k,rfl,hR,hq⟩:=h
  refine⟨_,(fS (gY (k9 (ql ju ju fW (pv 1) (gz Z T.zO)))
   (fV (gC (gz Z T.pF)))
   ia)
   (fS (gY (io mQ (pv 1) (gU iL (by rfl) T.len aF (fN (gc (gc (pv 0) Z) Z) fP)) (ii _))
     (fV (gC (gz Z T.FD)))
     ia)
   (fV (gC fW)))),?_⟩
  have kH:(L.S.cs.map V.ref).length=b.channels.length:=by rw[ac];exact hR.set.mv.1
  refine⟨_,Z,_,_,Z,Z,_,Z,?_⟩
  by_cases c1:1<=k
  ·refine fZ (ai c1) ?_;refine⟨_,_,Z,Z,_,Z,?_⟩
   by_cases c2:k<=8
   ·refine gn (by rw[ai c2];rfl) ?_;rw[aw ⟨c1,c2⟩] at hq;refine⟨_,Z,_,Z,L.r,_,L.dx,_,_,Z,hR.ins,T.gH,T.ly,Z,L.S.s,_,L.S.dx,_,_,Z,hR.set.ins,T.im,T.nJ,Z,L.S.lc,_,Z,.inl (fR.of hR.set.mr),_,_,Z,Z,_,Z,?_⟩;rw[kH]
    by_cases c3:(b.channels.length:Int)<k
    ·refine fZ (ai c3) ?_;rw[aw c3] at hq;exact hq
    ·refine gn (ae c3) ?_;rw[am c3] at hq;exact hq
   ·refine fZ (by rw[ae c2];rfl) ?_;rw[am (fun z=>c2 z.2)] at hq;exact hq
  ·refine gn (ae c1) ?_;refine⟨_,Z,?_⟩;refine fZ Z ?_;rw[am (fun z=>c1 z.1)] at hq;exact hq
end
open Vbkdaa (nat ahead behind depth rate high low delayOf gapOf mostOf loop yieldMost)
theorem WR{b:Book}(h:nU b):(Vbkdaa.worst b).length<=1000:=by
 have l3:=h.hi;have l4:=h.ah;have l5:=h.de;unfold Vbkdaa.worst loop;simp only;split
 ·simp
 ·split
  ·simp;omega
  ·simp;omega
theorem je.iC{AA:gu}{H:Hp}{F:iy}{s:State}{m:RS}{c:Nat}(h:je AA H F s m c):lP s.book m:=h.gd.iC
section
variable {P:Program} {w:World} {K:PySem.W.Frag} {mg:Str->Option Value} {base:Heap} {AA:gu}
theorem Tq:gP ["front","numbers","row","settings","answer"] ["front","numbers","row"] (gL (fX 121)):=gX (by decide+kernel)
theorem Tr(T:Tx P w K mg AA):gK P w K mg base gT 2 AA.D8 AA.KD ["front","numbers","row"] (kD AA 20 false 0):=by
 have qT:=xE (base:=base) T;have SC:=Tq;refine T.EU.fn.ok SC (fun vs H Q E h=> ?_) (fun gy A outer s H vs Q E hr h=> ?_)
 ·obtain⟨F,st,m,c,an,ar,ns,row,rfl,_⟩:=h;rfl
 ·obtain⟨F,st,m,c,an,ar,ns,row,rfl,hE,hc,hn,i6,lx,jW,hk,jU,hq⟩:=h;obtain rfl:=aM.mp hk;have hq:=iQ hE (call:=iE 20 false [] row) ((ja Z).trans (kR Z)) hq
  refine⟨_,(fS (gj (i:=3) SC.nd Z (Or.inl Z) (gc (gc (pv 0) Z) Z))
   (fS (gj (i:=4) SC.nd Z (Or.inl Z) (gI (fN fW (fN (gU iL (by rfl) T.len aF (fN (gc (pv 3) Z) fP)) (fN (gc (pv 3) Z) (fN (gc (pv 3) Z) fP))))))
   (fS (iR (iT ax a0 a5 m6 (pv 4) (fN (gI (fN (gc (pv 3) Z) (fN (gc (pv 3) Z) (fN (gc (pv 3) Z) (fN (gc (pv 3) Z) fP))))) fP)))
   (fS (iR (iT ax a0 a5 m6 (pv 4) (fN (gI (fN (gc (pv 3) Z) (fN (gc (pv 3) Z) (fN (l9 (gc (pv 0) Z) T.gH T.xI qT (hr.mono (by decide)) T.xF .nil gG) fP)))) fP)))
   (fV (gC (pv 4))))))),?_⟩
  have kH:(F.R.S.cs.map V.ref).length=st.book.channels.length:=by rw[ac];exact hE.rd.set.mv.1
  refine⟨_,Z,F.f,_,F.dx,_,_,Z,hE.ins,T.j9,T.lz,Z,F.R.r,_,F.R.dx,_,_,Z,hE.rd.ins,T.gH,T.ly,Z,?_⟩;have hS:=hE.rd.set;refine⟨_,Z,F.R.S.s,_,F.R.S.dx,_,_,Z,hS.ins,T.im,T.nJ,Z,F.R.S.lc,_,Z,.inl (fR.of hS.mr),_,Z,F.R.S.s,_,F.R.S.dx,_,_,Z,hS.ins,T.im,T.tZ,Z,_,Z,F.R.S.s,_,F.R.S.dx,_,_,Z,hS.ins,T.im,T.Dk,Z,fY (by simp),fun q1 n1=> ?_⟩;rw[kH];have s1:∀o,fQ H (fM H q1 o):=fun o=>fQ.new n1
  refine⟨_,Z,.inl ⟨Z,_,fR.of fO⟩,?_⟩;have iH:=hE.same (s1 (.lst [V.int 0,V.int st.book.channels.length,V.int (ahead st.book),V.int (behind st.book)]));have pA:=iH.rd.set;refine⟨_,Z,F.R.S.s,_,F.R.S.dx,_,_,Z,pA.ins,T.im,T.xJ,Z,_,Z,F.R.S.s,_,F.R.S.dx,_,_,Z,pA.ins,T.im,T.qU,Z,_,Z,F.R.S.s,_,F.R.S.dx,_,_,Z,pA.ins,T.im,T.tV,Z,_,Z,F.R.S.s,_,F.R.S.dx,_,_,Z,pA.ins,T.im,T.C9,Z,fY (by simp),fun q2 n2=> ?_⟩;have vp:=gf fO n2;refine⟨q1,q2,_,_,Z,Z,(by rw[fT vp];exact fO),fO,fY (by simp),?_⟩;have s3:=((s1 (.lst [V.int 0,V.int st.book.channels.length,V.int (ahead st.book),V.int (behind st.book)])).more (o:=.lst [V.int (depth st.book),V.int (rate st.book),V.int (high st.book),V.int (low st.book)]) n2).put (o:=.lst ([V.int 0,V.int st.book.channels.length,V.int (ahead st.book),V.int (behind st.book)]++[V.int (depth st.book),V.int (rate st.book),V.int (high st.book),V.int (low st.book)])) n1;have kN:=hE.same s3;have ox:=kN.rd.set;refine⟨_,Z,.inl ⟨Z,_,fR.of fO⟩,?_⟩;refine⟨_,Z,F.R.S.s,_,F.R.S.dx,_,_,Z,ox.ins,T.im,T.vE,Z,_,Z,F.R.S.s,_,F.R.S.dx,_,_,Z,ox.ins,T.im,T.DS,Z,_,Z,F.f,_,F.dx,_,_,Z,kN.ins,T.j9,T.lz,Z,F.R.r,F.R.dx,_,Z,kN.rd.ins,Z,F.R,st.book,m,Z,kN.rd,kN.iC,fY (by simp),fun q4 n4=> ?_⟩;have d14:=gf fO n4;refine⟨q1,q4,_,_,Z,Z,(by rw[fT d14];exact fO),fO,fY (by simp),?_⟩;refine⟨_,Z,?_⟩;refine hq _ q1 ((s3.more n4).put n1) ?_ n1;rw[fO,hE.gd.rel.oW];rfl
theorem SZ:gP ["front","numbers","row","settings","margin"] ["front","numbers","row"] (gL (fX 111)):=gX (by decide+kernel)
theorem S0(T:Tx P w K mg AA):gK P w K mg base gT 3 AA.DO AA.Kg ["front","numbers","row"] (kD AA 10 false 0):=by
 have U1:=T5 (base:=base) T;have SC:=SZ;refine T.Ep.fn.ok SC (fun vs H Q E h=> ?_) (fun gy A outer s H vs Q E hr h=> ?_)
 ·obtain⟨F,st,m,c,an,ar,ns,row,rfl,_⟩:=h;rfl
 ·obtain⟨F,st,m,c,an,ar,ns,row,rfl,hE,hc,hn,i6,lx,jW,hk,jU,hq⟩:=h;obtain rfl:=aM.mp hk;have hq:=iQ hE (call:=iE 10 false [] row) ((ja Z).trans (kR Z)) hq
  refine⟨_,(fS (gj (i:=3) SC.nd Z (Or.inl Z) (gc (gc (pv 0) Z) Z))
   (fS (gj (i:=4) SC.nd Z (Or.inl Z) (ic U1 (hr.mono (by decide)) Z T.Ak.mg T.Ak.fn.kp T.Ak.b .nil gG (fN (pv 3) fP)))
   (fV (gC (gI (fN fW (fN (pv 4) (fN (gc (pv 3) Z) (fN (ya (io ju (pv 4) (gc (pv 3) Z) (ii _)) fW fW) fP))))))))),?_⟩
  have hB:=hE.gd.bk;have hS:=hE.rd.set;have l1:=hB.dp;have l2:=hB.rt;have l3:=hB.hi;have l4:=hB.ah;have l5:=hB.de;refine⟨_,Z,F.f,_,F.dx,_,_,Z,hE.ins,T.j9,T.lz,Z,F.R.r,_,F.R.dx,_,_,Z,hE.rd.ins,T.gH,T.ly,Z,?_⟩;refine⟨_,Z,F.R.S,st.book,Z,hS,by omega,by omega,by omega,by unfold loop;omega,?_⟩;refine⟨_,Z,_,Z,F.R.S.s,_,F.R.S.dx,_,_,Z,hS.ins,T.im,T.xJ,Z,_,Z,_,Z,F.R.S.s,_,F.R.S.dx,_,_,Z,hS.ins,T.im,T.xJ,Z,_,_,Z,Z,_,Z,?_⟩
  by_cases c1:mostOf st.book<=depth st.book
  ·refine fZ (ai (by omega)) ?_;refine⟨fY (by simp),fun q1 n1=> ?_⟩;refine hq _ q1 (fQ.new n1) ?_ n1;rw[fO,ai c1];rfl
  ·refine gn (ae (by omega)) ?_;refine⟨fY (by simp),fun q1 n1=> ?_⟩;refine hq _ q1 (fQ.new n1) ?_ n1;rw[fO,ae c1];rfl
theorem Ts:gP ["front","numbers","row","yields"] ["front","numbers","row"] (gL (fX 112)):=gX (by decide+kernel)
theorem Tt(T:Tx P w K mg AA):gK P w K mg base gT 3 AA.D3 AA.Ky ["front","numbers","row"] (kD AA 11 false 0):=by
 have U2:=Ud (base:=base) T;have SC:=Ts;refine T.EO.fn.ok SC (fun vs H Q E h=> ?_) (fun gy A outer s H vs Q E hr h=> ?_)
 ·obtain⟨F,st,m,c,an,ar,ns,row,rfl,_⟩:=h;rfl
 ·obtain⟨F,st,m,c,an,ar,ns,row,rfl,hE,hc,hn,i6,lx,jW,hk,jU,hq⟩:=h;obtain rfl:=aM.mp hk;have hq:=iQ hE (call:=iE 11 false [] row) ((ja Z).trans (kR Z)) hq
  refine⟨_,(fS (gj (i:=3) SC.nd Z (Or.inl Z) (ic U2 (hr.mono (by decide)) Z T.Al.mg T.Al.fn.kp T.Al.b .nil gG (fN (gc (gc (pv 0) Z) Z) fP)))
   (fV (gC (gA j2 (gI (fN fW (fN (gU iL (by rfl) T.len aF (fN (pv 3) fP)) fP))) (pv 3))))),?_⟩
  have hB:=hE.gd.bk;have hS:=hE.rd.set;refine⟨_,Z,F.f,_,F.dx,_,_,Z,hE.ins,T.j9,T.lz,Z,F.R.r,_,F.R.dx,_,_,Z,hE.rd.ins,T.gH,T.ly,Z,F.R.S,st.book,Z,hS,hB,fun H1 p1 s1 f1 g1=> ?_⟩;refine⟨_,Z,p1,_,Z,.inl (fR.of g1),fY (by simp),fun q2 n2=> ?_⟩;have vp:=gf g1 n2;have wl:(Vbkdaa.worst st.book).length<=1000:=WR hB;refine⟨_,Z,q2,p1,_,_,Z,Z,fO,(by rw[fT vp];exact g1),fY (by simp;omega),fun q3 n3=> ?_⟩;refine hq _ q3 ((s1.more n2).more n3) ?_ ((s1.more n2).free n3);rw[fO,ac,x8];rfl
theorem Tu:gP ["front","numbers","row","hearing"] ["front","numbers","row"] (gL (fX 116)):=gX (by decide+kernel)
theorem Tv(T:Tx P w K mg AA):gK P w K mg base gT 1 AA.D6 AA.KB ["front","numbers","row"] (kD AA 15 false 0):=by
 have SC:=Tu;refine T.ES.fn.ok SC (fun vs H Q E h=> ?_) (fun gy A outer s H vs Q E hr h=> ?_)
 ·obtain⟨F,st,m,c,an,ar,ns,row,rfl,_⟩:=h;rfl
 ·obtain⟨F,st,m,c,an,ar,ns,row,rfl,hE,hc,hn,i6,lx,jW,hk,jU,hq⟩:=h;obtain rfl:=aM.mp hk;have hq:=iQ hE (call:=iE 15 false [] row) ((ja Z).trans (kR Z)) hq
  refine⟨_,(fS (gj (i:=3) SC.nd Z (Or.inl Z) (gc (pv 0) Z))
   (fV (gC (gI (fN fW (fN (gc (pv 3) Z) (fN (gc (pv 3) Z) (fN (ya (qt (A0 (gc (pv 3) Z))) (qA qv fW) (gU iL (by rfl) T.len aF (fN (gc (pv 3) Z) fP))) fP)))))))),?_⟩
  have hA:=hE.ea;refine⟨_,Z,F.f,_,F.dx,_,_,Z,hE.ins,T.j9,T.xH,Z,?_⟩;refine⟨_,Z,F.E.h,_,F.E.dx,_,_,Z,hA.ins,T.ka,T.DR,Z,_,Z,F.E.h,_,F.E.dx,_,_,Z,hA.ins,T.ka,T.vG,Z,_,Z,F.E.h,_,F.E.dx,_,_,Z,hA.ins,T.ka,T.qh,Z,_,Z,?_⟩;have hb:=hA.rQ;cases e1:F.E.lb with
  |none=>
   rw[e1] at hb;cases e2:st.ear.inside with
   |some l=>rw[e2] at hb;cases hb
   |none=>
    refine fZ Z ?_;refine⟨_,Z,fY (by simp),fun q1 n1=> ?_⟩;refine hq _ q1 (fQ.new n1) ?_ n1;rw[fO,e2];rfl
  |some p=>
   rw[e1] at hb;cases e2:st.ear.inside with
   |none=>rw[e2] at hb;cases hb
   |some l=>
    rw[e2] at hb;refine gn Z ?_;refine⟨_,Z,F.E.h,_,F.E.dx,_,_,Z,hA.ins,T.ka,T.qh,Z,p,_,by rw[e1];rfl,.inl (fR.of hb.1),fY (by simp),fun q1 n1=> ?_⟩;refine hq _ q1 (fQ.new n1) ?_ n1;rw[fO,e2,ac];rfl
end
end FE
namespace FE
open PySem PySem.Spec PyProof.Rows L2
open Vbkdaa (Book inside_ State stepNumbers decode Ear nat nats ahead behind depth rate high low delayOf gapOf printed fates Front)
theorem uB{row:List Int}{hi:Int}(h:(row.all fun n=>inside_ n 0 hi)=true):row.map V.int=(nats row).map nV:=by
 unfold nats;rw[bE];apply bW;intro x hx;have h1:=a9.mp h x hx;unfold inside_ at h1;rw[aH,aJ,aJ] at h1;show V.int x=V.int ((x.toNat:Nat):Int);rw[fD h1.1]
theorem N1{row:List Int}{hi:Int}{k:Nat}(h:(row.all fun n=>inside_ n 0 hi)=true)(hk:hi<k):∀y∈nats row,y<k:=by
 intro y hy;unfold nats at hy;obtain⟨x,hx,rfl⟩:=bi.mp hy;have h1:=a9.mp h x hx;unfold inside_ at h1;rw[aH,aJ,aJ] at h1;omega
theorem r9(row:List Int):(nats row).length=row.length:=by unfold nats;rw[ac]
theorem U3{b:Book}(h:nU b):(printed b).length<=2400:=by
 obtain⟨h1,h2⟩:=M3 h;rw[<-E6];have:=GB (oy b) h1;omega
theorem iG.G8{α:Type}{H:Hp}{g:α->HO}{as:List Addr}{xs:List α}(h:iG H g as xs):∀a∈as,(H a).isSome=true:=by
 intro a ha;obtain⟨i,hi,e⟩:=fE ha;have h2:i<xs.length:=by rw[<-h.1];exact hi
 rw[h.2 i a xs[i] (by rw[ak hi,e]) (ak h2)];rfl
theorem ij.G9{AA:gu}{H:Hp}{L:gM}{b:Book}{m:RS}(h:ij AA H L b m):∀a∈L.rows++L.gD++L.gO++L.S.fp,(H a).isSome=true:=by
 intro a ha;simp only[aG] at ha;rcases ha with((ha|ha)|ha)|ha
 ·exact h.rows.G8 a ha
 ·exact h.gD.G8 a ha
 ·exact h.gO.G8 a ha
 ·exact h.set.xf a ha
theorem je.build{AA:gu}{H1:Hp}{F:iy}{s:State}{m:RS}{c:Nat}{fs:List (Str×V)}(hf:H1 F.f=some (.ins AA.j8 F.dx fs))(rd:ij AA H1 F.R s.book m)(gd:Good s.book m s.front)(ea:kx AA H1 F.E s.book.channels.length s.ear)
 (nd:F.mut.Nodup) (sep:∀a∈F.deep,a∉F.mut) (el:(s.ear.inside.getD []).length<=400*c):je AA (fM H1 F.f (.ins AA.j8 F.dx (qR F))) F s m c:=by
 have o:gE [F.f] H1 (fM H1 F.f (.ins AA.j8 F.dx (qR F))):=gE.refl.put (by simp);have nf:F.f∉F.R.mut++F.E.mut:=(bj.mp nd).1
 exact{
  ins:=fO
  rd:=rd.keep o (fun a ha z=>nf (by rw[<-aq.mp z];simp[ha])) (fun a ha z=>sep a ha (by rw[aq.mp z];simp[iy.mut])) (fun y hy xs z=>by rw[aq.mp hy,hf] at z;cases z)
  gd:=gd
  ea:=ea.keep o (fun a ha z=>nf (by rw[<-aq.mp z];simp[ha]))
  nd:=nd
  sep:=sep
  el:=el}
theorem je.abK{AA:gu}{H H1:Hp}{F:iy}{s:State}{m:RS}{c:Nat}{E':jO}{e':Ear}(h:je AA H F s m c)(s1:fQ H H1)(hA:kx AA H1 E' s.book.channels.length e')(nd:E'.mut.Nodup)(fr:∀a∈E'.mut,H a=none)(el:(e'.inside.getD []).length<=400*c):
 je AA (fM H1 F.f (.ins AA.j8 F.dx (qR {F with E:=E'}))) {F with E:=E'} {s with ear:=e'} m c:=by
 have n0:=h.nd;unfold iy.mut at n0;have n1:=bj.mp n0;have n2:=dh.mp n1.2;have nE:∀a∈E'.mut,∀o,H a≠some o:=fun a ha o z=>by rw[fr a ha] at z;cases z
 refine je.build (F:={F with E:=E'}) (s:={s with ear:=e'}) (s1 _ _ h.ins) (h.rd.same s1) h.gd hA ?_ ?_ el
 ·show(F.f::(F.R.mut++E'.mut)).Nodup;refine bj.mpr ⟨fun z=> ?_,dh.mpr ⟨n2.1,nd,fun a ha b hb e=> ?_⟩⟩
  ·rcases aG.mp z with z|z
   ·exact n1.1 (dm _ z)
   ·exact nE _ z _ h.ins
  ·have:=h.rd.lL a ha;rw[e,fr b hb] at this;cases this
 ·intro a ha z;have QO:(H a).isSome=true:=h.rd.G9 a ha;rcases az.mp z with z|z
  ·exact h.sep a ha (by rw[z];simp[iy.mut])
  ·rcases aG.mp z with z|z
   ·exact h.sep a ha (by simp[iy.mut,z])
   ·rw[fr a z] at QO;cases QO
theorem t9{b:Book}{m:RS}{f:Front}(r:j7 b m f)(k:Nat):(m.fates.map Int.ofNat).count (k:Int)=fates f k:=by
 have e:(m.fates.map Int.ofNat).count (k:Int)=m.fates.count k:=by
  rw[dZ,dJ,dZ]
  congr 1
  funext x
  show(Int.ofNat x==(k:Int))=(x==k);rw[bK,ck,ck];exact⟨fun z=>Int.ofNat.inj z,fun z=>by rw[z];rfl⟩
 rw[e,r.iW,List.count_reverse,dZ,dJ,bI];rfl
theorem M8(f:Front)(k:Nat):fates f k<=f.done.length:=cy _ _
theorem FK(l:List Bool):(Vbkdaa.spansTold (Vbkdaa.stretches l)).length<=l.length+2:=by
 rw[LU,aj,ac];unfold sK;have:=Gj l;rw[ag];split<;>simp at this⊢ <;>omega
theorem X0(f:Front):fates f 0+fates f 1<=f.done.length:=by
 unfold fates;generalize f.done=l
 induction l with
 |nil=>exact aA _
 |cons d r ih=>
  rw[cS,cS,aj]
  by_cases h0:d.fate=0
  ·rw[aw (by rw[h0];rfl),am (by rw[h0];decide),aj];omega
  ·rw[am (by simpa using h0)];split
   ·rw[aj];omega
   ·omega
theorem YW(f:Front):[VbkdCore.mk (nat (fates f 1)) (f.done.length-fates f 0)|>.n,nat (VbkdCore.mk (nat (fates f 1)) (f.done.length-fates f 0)).d]=[nat (fates f 1/Nat.gcd (fates f 1) (max 1 (f.done.length-fates f 0))),nat (max 1 (f.done.length-fates f 0)/Nat.gcd (fates f 1) (max 1 (f.done.length-fates f 0)))]:=by
 have h:=X0 f;unfold VbkdCore.mk
 by_cases h0:f.done.length-fates f 0=0
 ·have h1:fates f 1=0:=by omega
  rw[aw h0,h0,h1];rfl
 ·rw[am h0,show max 1 (f.done.length-fates f 0)=f.done.length-fates f 0 by omega];rfl
theorem YX{b:Book}{m:RS}{f:Front}(r:j7 b m f)(t:Nat)(ht:t<f.done.length):(decide (0<=(t:Int)-(delayOf b:Int)-1)&&m.gB.getD ((t:Int)-(delayOf b:Int)-1).toNat false)=Vbkdaa.seen b (f.done.drop (f.done.length-t)):=by
 unfold Vbkdaa.seen;rw[r.jf,cU]
 by_cases h:delayOf b+1<=t
 ·rw[ai (by omega),dP,aE,b8 (by rw[ac];omega),au,ac,show f.done.length-1-((t:Int)-(delayOf b:Int)-1).toNat=f.done.length-t+delayOf b by omega]
 ·rw[ae (by omega),cZ,bA (by omega)];rfl
section
variable {P:Program} {w:World} {K:PySem.W.Frag} {mg:Str->Option Value} {base:Heap} {AA:gu}
theorem R4:gP ["front","numbers","row"] ["front","numbers","row"] (gL (fX 103)):=gX (by decide+kernel)
theorem R5(T:Tx P w K mg AA):gK P w K mg base gT 3 AA.Di AA.JK ["front","numbers","row"] (kD AA 2 false 0):=by
 have VF:=UU (base:=base) T;have SC:=R4;refine T.DF.fn.ok SC (fun vs H Q E h=> ?_) (fun gy A outer s H vs Q E hr h=> ?_)
 ·obtain⟨F,st,m,c,an,ar,ns,row,rfl,_⟩:=h;rfl
 ·obtain⟨F,st,m,c,an,ar,ns,row,rfl,hE,hc,hn,i6,lx,jW,hk,jU,hq⟩:=h;obtain rfl:=aM.mp hk;have hq:=iQ hE (call:=iE 2 false [] row) ((ja Z).trans (kR Z)) hq;refine⟨_,(fV (gC (gA j2 (gI (fN fW fP)) (ic VF (hr.mono (by decide)) Z T.AD.mg T.AD.fn.kp T.AD.b .nil gG (fN (gc (gc (pv 0) Z) Z) fP))))),?_⟩;have hB:=hE.gd.bk;refine⟨fY (by simp),fun q1 n1=> ?_⟩;have iH:=hE.same (fQ.new (o:=.lst [V.int 0]) n1);refine⟨_,Z,F.f,_,F.dx,_,_,Z,iH.ins,T.j9,T.lz,Z,F.R.r,_,F.R.dx,_,_,Z,iH.rd.ins,T.gH,T.ly,Z,F.R.S,st.book,Z,iH.rd.set,hB,fun H2 p2 s2 f2 g2=> ?_⟩;refine⟨q1,p2,_,_,Z,Z,s2 _ _ fO,g2,fY (by have:=U3 hB;simp;omega),fun q3 n3=> ?_⟩;refine hq _ q3 (((fQ.new n1).trans s2).more n3) ?_ (((fQ.new n1).trans s2).free n3);rw[fO,x8];rfl
theorem YY:gP ["front","numbers","row"] ["front","numbers","row"] (gL (fX 118)):=gX (by decide+kernel)
theorem YZ(T:Tx P w K mg AA):gK P w K mg base gT 3 AA.GO AA.Oe ["front","numbers","row"] (kD AA 17 false 0):=by
 have x9:=E8 (base:=base) T;have SC:=YY;refine T.hush.fn.ok SC (fun vs H Q E h=> ?_) (fun gy A outer s H vs Q E hr h=> ?_)
 ·obtain⟨F,st,m,c,an,ar,ns,row,rfl,_⟩:=h;rfl
 ·obtain⟨F,st,m,c,an,ar,ns,row,rfl,hE,hc,hn,i6,lx,jW,hk,jU,hq⟩:=h;obtain rfl:=aM.mp hk
  refine⟨_,(fS (js (pv 0) (uw T.FZ x9 (hr.mono (by decide)) Z T.FA T.F0 .nil gG (fN (gU iL (by rfl) T.len aF (fN (gc (gc (gc (pv 0) Z) Z) Z) fP)) fP)) Z)
   (fV (gC (gI (fN fW fP))))),?_⟩
  have kH:(F.R.S.cs.map V.ref).length=st.book.channels.length:=by rw[ac];exact hE.rd.set.mv.1
  refine⟨_,Z,F.f,_,F.dx,_,_,Z,hE.ins,T.j9,T.lz,Z,F.R.r,_,F.R.dx,_,_,Z,hE.rd.ins,T.gH,T.ly,Z,F.R.S.s,_,F.R.S.dx,_,_,Z,hE.rd.set.ins,T.im,T.nJ,Z,F.R.S.lc,_,Z,.inl (fR.of hE.rd.set.mr),?_⟩;rw[kH];intro x dx nx nd Cw;refine⟨x,dx,st.book.channels.length,Z,fO,fun H1 o1 rR=>⟨Z,?_⟩⟩;have s1:fQ H H1:=fQ.made nx nd fun b o e n=>o1 b o e (by simpa using n)
  refine⟨_,Z,F.f,_,F.dx,_,Z,s1 _ _ hE.ins,T.j9,T.xH,(by show 2<1000;decide),?_⟩;have jl:=hE.abK s1 rR (by simp[jO.mut]) (fun a ha=>by rw[show a=x by simpa [jO.mut] using ha];exact nx) (aN _);refine⟨fY (by simp),fun q3 n3=> ?_⟩;refine hq _ {F with E:=⟨x,dx,none⟩} m q3 Z ?_ ?_ ?_ ?_ ?_ ?_ ((s1.grow.put) _ n3)
  ·exact((s1.own).put (by simp[iy.mut])).trans (fQ.new n3).own
  ·exact(s1.grow.put).put
  ·exact(jl.same (fQ.new n3)).later
  ·intro a ha;rcases az.mp ha with rfl|ha
   ·exact .inl (by simp[iy.mut])
   ·rcases aG.mp ha with ha|ha
    ·exact .inl (by simp[iy.mut,ha])
    ·exact .inr (by rw[show a=x by simpa [jO.mut] using ha];exact nx)
  ·exact fun a ha=>.inl ha
  ·rw[fO];rfl
theorem Tw:gP ["front","numbers","signs"] ["front","numbers","signs"] (gL (fX 117)):=gX (by decide+kernel)
theorem Tz(T:Tx P w K mg AA):gK P w K mg base gT 3 AA.D7 AA.KC ["front","numbers","signs"] (kD AA 16 true 0):=by
 have pH:=vH (base:=base) T;have EZ:=Lc (base:=base) T;have SC:=Tw;refine T.ET.fn.ok SC (fun vs H Q E h=> ?_) (fun gy A outer s H vs Q E hr h=> ?_)
 ·obtain⟨F,st,m,c,an,ar,ns,row,rfl,_⟩:=h;rfl
 ·obtain⟨F,st,m,c,an,ar,ns,row,rfl,hE,hc,hn,i6,lx,jW,hk,jU,hq⟩:=h;obtain rfl:=aM.mp hk
  refine⟨_,(fS (gY (k9 (lT (ic pH (hr.mono (by decide)) Z T.lD.mg T.lD.fn.kp T.lD.b .nil gG (fN (pv 2) (fN (gz Z T.Vn) (fN (gz Z T.Th) fP))))))
   (fV (gC (gI (fN (gz Z T.pF) fP))))
   ia)
   (fV (gC (gA j2 (gI (fN fW fP)) (ic EZ (hr.mono (by decide)) Z T.ut.mg T.ut.fn.kp T.ut.b .nil gG (fN (pv 2) fP)))))),?_⟩
  refine⟨_,Z,ar,row,100,127,Z,fR.of i6,by omega,fun H1 s1=> ?_⟩;refine⟨_,Z,?_⟩;have kJ:=s1 _ _ i6
  by_cases hb:(decide (row.length<=100)&&row.all fun n=>inside_ n 0 127)=true
  ·refine gn (by rw[hb];rfl) ?_;have hq:=iQ hE (call:=iE 16 true [] row) ((ja (show decode [[16],row]=some (.crc row) from oG hb)).trans (kR Z)) hq;rw[aH,aJ] at hb;refine⟨fY (by simp),fun q2 n2=> ?_⟩;rw[uB hb.2] at kJ;refine⟨_,Z,ar,nats row,Z,(fQ.new n2) _ _ kJ,by rw[r9];omega,fun H3 p3 s3 f3 g3=> ?_⟩;refine⟨q2,p3,_,_,Z,Z,s3 _ _ fO,g3,fY (by simp),fun q4 n4=> ?_⟩;refine hq _ q4 ((s1.trans ((fQ.new n2).trans s3)).more n4) ?_ ((s1.trans ((fQ.new n2).trans s3)).free n4);rw[fO];unfold Vbkdaa.checked;simp only;rw[List.drop_left' (r9 row)];rfl
  ·rw[bS] at hb;refine fZ (by rw[hb];rfl) ?_;have hq:=iQ hE (call:=iE 16 true [] row) (oA (show decode [[16],row]=none from oH hb)) hq;refine⟨fY (by simp),fun q2 n2=> ?_⟩;exact hq _ q2 (s1.more n2) fO (s1.free n2)
theorem Ue:gP ["front","numbers","row","skipped","most","readout","shown"] ["front","numbers","row"] (gL (fX 106)):=gX (by decide+kernel)
theorem Uf(T:Tx P w K mg AA):gK P w K mg base gT 2 AA.Eh AA.K3 ["front","numbers","row"] (kD AA 5 false 2):=by
 have SC:=Ue;refine T.Fv.fn.ok SC (fun vs H Q E h=> ?_) (fun gy A outer s H vs Q E hr h=> ?_)
 ·obtain⟨F,st,m,c,an,ar,ns,row,rfl,_⟩:=h;rfl
 ·obtain⟨F,st,m,c,an,ar,ns,row,rfl,hE,hc,hn,i6,lx,jW,hk,jU,hq⟩:=h
  obtain⟨i,k,rfl⟩:∃i k,ns=[i,k]:=by
   match ns,hk with
   |[i,k],_=>exact⟨i,k,Z⟩
  refine⟨_,(fS (gj (i:=3) SC.nd Z (Or.inl Z) (hV jb (pv 1) fW (fun _ _=>rfl)))
   (fS (gj (i:=4) SC.nd Z (Or.inl Z) (hV jb (pv 1) fW (fun _ _=>rfl)))
   (fS (gY (PW.pt (pM (k9 (ql ju ju fW (pv 3) (gz Z T.Tg))) (qu (k9 (ql ju ju fW (pv 4) (gz Z T.R8))))))
     (fV (gC (gI (fN (gz Z T.pF) fP))))
     ia)
   (fS (gj (i:=5) SC.nd Z (Or.inl Z) (gc (pv 0) Z))
   (fS (gj (i:=6) SC.nd Z (Or.inl Z) (oB oF (gc (pv 5) Z) (kn (pv 3)) (kn (gU (Fb Z) (by rfl) T.min boot_min (fN (gA jg (pv 3) (pv 4)) (fN (gc (pv 5) Z) fP))))))
   (fV (gC (gA j2 (gI (fN fW (fN (gU iL (by rfl) T.len aF (fN (pv 6) fP)) fP))) (pv 6))))))))),?_⟩
  refine⟨_,Z,an,_,_,_,Z,Z,fR.of hn,ir (j:=0) Z Z,?_⟩;refine⟨_,Z,an,_,_,_,Z,Z,fR.of hn,ir (j:=1) Z Z,?_⟩;have jx:(inside_ i 0 20000&&inside_ k 0 300)=false->∀q,H q=none->Q (.ref q) (fM H q (.lst [V.int (-1)])):=fun h q n=>iQ hE (call:=iE 5 false [i,k] row) (oA (show decode [[5,i,k]]=none from oH h)) hq _ q (fQ.new n) fO n
  refine⟨_,Z,_,_,Z,Z,_,Z,?_⟩
  by_cases c1:0<=i
  ·refine fZ (ai c1) ?_;refine⟨_,_,Z,Z,_,Z,?_⟩
   by_cases c2:i<=20000
   ·refine gn (by rw[ai c2];rfl) ?_;refine⟨_,Z,_,_,Z,Z,_,Z,?_⟩
    by_cases c3:0<=k
    ·refine fZ (ai c3) ?_;refine⟨_,_,Z,Z,_,Z,?_⟩
     by_cases c4:k<=300
     ·refine gn (by rw[ai c4];rfl) ?_;obtain⟨i,rfl⟩:=bB c1;obtain⟨k,rfl⟩:=bB c3;have hq:=iQ hE (call:=iE 5 false [(i:Int),(k:Int)] row) ((ja (show decode [[5,(i:Int),(k:Int)]]=some (.wire (i:Int).toNat (k:Int).toNat) from oG (by unfold inside_;rw[ai c1,ai c2,ai c3,ai c4];rfl))).trans (kR Z)) hq;rw[a7,a7] at hq;have hR:=hE.rd;refine⟨_,Z,F.f,_,F.dx,_,_,Z,hE.ins,T.j9,T.lz,Z,?_⟩;refine⟨_,Z,F.R.r,_,F.R.dx,_,_,Z,hR.ins,T.gH,T.zM,Z,_,Z,_,Z,_,Z,_,Z,_,_,Z,Z,_,Z,F.R.r,_,F.R.dx,_,_,Z,hR.ins,T.gH,T.xM,Z,_,_,Z,_,Z,F.R.lq,_,Z,fR.of hR.kM,fun q1 n1=> ?_⟩
      have ec:jZ (m.iB.map nV) (some (i:Int)) (some (if (m.gone:Int)<(i:Int)+(k:Int) then(m.gone:Int) else(i:Int)+(k:Int)))=((st.front.wire.drop i).take k).map nV:=by
       rw[show(if (m.gone:Int)<(i:Int)+(k:Int) then(m.gone:Int) else(i:Int)+(k:Int))=((min (i+k) m.gone:Nat):Int) by split<;>omega,su,hE.gd.rel.Cg,List.drop_take,List.take_take,b9,cq,show min (i+k) m.gone-i=min k (m.gone-i) by omega]
      rw[ec];generalize hW:(st.front.wire.drop i).take k=W at hq;have wl:W.length<=300:=by rw[<-hW,aD];omega
      refine⟨_,Z,q1,_,Z,.inl (fR.of fO),fY (by simp),fun q2 n2=> ?_⟩;have vp:=gf fO n2;refine⟨_,Z,q2,q1,_,_,Z,Z,fO,(by rw[fT vp];exact fO),fY (by simp;omega),fun q3 n3=> ?_⟩;refine hq _ q3 (((fQ.new n1).more n2).more n3) ?_ (((fQ.new n1).more n2).free n3);rw[fO,ac,x8];rfl
     ·refine fZ (by rw[ae c4];rfl) ?_;exact⟨fY (by simp),jx (by unfold inside_;rw[ae c4];simp)⟩
    ·refine gn (ae c3) ?_;refine⟨_,Z,?_⟩;refine fZ Z ?_;exact⟨fY (by simp),jx (by unfold inside_;rw[ae c3];simp)⟩
   ·refine fZ (by rw[ae c2];rfl) ?_;refine fZ Z ?_;exact⟨fY (by simp),jx (by unfold inside_;rw[ae c2];simp)⟩
  ·refine gn (ae c1) ?_;refine⟨_,Z,?_⟩;refine fZ Z ?_;refine fZ Z ?_;exact⟨fY (by simp),jx (by unfold inside_;rw[ae c1];simp)⟩
theorem Ug:gP ["front","numbers","row","readout","crossing"] ["front","numbers","row"] (gL (fX 120)):=gX (by decide+kernel)
theorem Uh(T:Tx P w K mg AA):gK P w K mg base gT 3 AA.El AA.K7 ["front","numbers","row"] (kD AA 19 false 0):=by
 have xL:=Dv (base:=base) T;have C5:=Jw (base:=base) T;have qT:=xE (base:=base) T;have SC:=Ug;refine T.Fz.fn.ok SC (fun vs H Q E h=> ?_) (fun gy A outer s H vs Q E hr h=> ?_)
 ·obtain⟨F,st,m,c,an,ar,ns,row,rfl,_⟩:=h;rfl
 ·obtain⟨F,st,m,c,an,ar,ns,row,rfl,hE,hc,hn,i6,lx,jW,hk,jU,hq⟩:=h;obtain rfl:=aM.mp hk;have hq:=iQ hE (call:=iE 19 false [] row) ((ja Z).trans (kR Z)) hq
  refine⟨_,(fS (gj (i:=3) SC.nd Z (Or.inr Z) (gc (pv 0) Z))
   (fV (gC (gA j2 (gI (fN fW fP)) (ic xL (hr.mono (by decide)) Z T.qj.mg T.qj.fn.kp T.qj.b .nil gG (fN (mf (own:=[("crossing",4)]) Z SC.nd (xU Z T.range (fN (l9 (pv 3) T.gH T.xI qT (hr.mono (by decide)) T.xF .nil gG) fP)) (lC (by kernel_rfl)) (fun s H C cl fp=>(iI (i:=4) SC.nd Z (Or.inl Z) (.inr Z))) (fun s H C cl fp=>md) (fun s H C cl fp=>(oE (pv 3) T.gH T.JI C5 (hr.mono (by decide)) T.JC .nil gG (fN (pv 4) fP)))) fP)))))),?_⟩
  refine⟨_,Z,F.f,_,F.dx,_,_,Z,hE.ins,T.j9,T.lz,Z,?_⟩;refine⟨fY (by simp),fun q1 n1=> ?_⟩;have iH:=hE.same (fQ.new (o:=.lst [V.int 0]) n1);have s1:fQ H (fM H q1 (.lst [V.int 0])):=fQ.new n1;have g1:(fM H q1 (.lst [V.int 0])) q1=some (.lst [V.int 0]):=fO;generalize fM H q1 (.lst [V.int 0])=H1 at iH s1 g1;have iJ:=iH.rd;have lB:=hE.gd.rel.oW;have l4:=hE.gd.n;refine⟨_,Z,F.R.r,F.R.dx,_,Z,iJ.ins,Z,F.R,st.book,m,Z,iJ,hE.iC,(m.gB.length:Int),Z,by omega,by omega,fun D hD=> ?_⟩;refine Aw (n:=(m.gB.length:Int).toNat) (fun i H'=>H'=fM H1 D (.lst (((List.range i).map fun t=>Vbkdaa.seen st.book (st.front.done.drop (st.front.done.length-t))).map V.bl))) Z (fun i H' hi hH=> ?_) (fun H' hH=> ?_)
  ·subst hH;have hi:i<m.gB.length:=by omega
   have iS:=iJ.same (fQ.new (o:=.lst (((List.range i).map fun t=>Vbkdaa.seen st.book (st.front.done.drop (st.front.done.length-t))).map V.bl)) hD);refine⟨Z,?_⟩;refine⟨_,Z,F.R.r,F.R.dx,_,Z,iS.ins,Z,_,Z,F.R,st.book,m,(0+(i:Int)),Z,iS,by omega,_,fO,iU (by simp;omega),?_⟩;rw[jn,eO,ao,ao,Int.zero_add,YX hE.gd.rel i (by omega)];rfl
  ·subst hH;have iS:=iJ.same (fQ.new (o:=.lst (((List.range (m.gB.length:Int).toNat).map fun t=>Vbkdaa.seen st.book (st.front.done.drop (st.front.done.length-t))).map V.bl)) hD);refine⟨D,(List.range (m.gB.length:Int).toNat).map fun t=>Vbkdaa.seen st.book (st.front.done.drop (st.front.done.length-t)),Z,fR.of fO,by simp;omega,fun H2 p2 s2 f2 g2=> ?_⟩;refine⟨q1,p2,_,_,Z,Z,s2 _ _ (by rw[fT (gf g1 hD)];exact g1),g2,fY ?_,fun q3 n3=> ?_⟩
   ·rw[ac];have:=FK ((List.range (m.gB.length:Int).toNat).map fun t=>Vbkdaa.seen st.book (st.front.done.drop (st.front.done.length-t)));simp at this⊢;omega
   ·refine hq _ q3 (((s1.more hD).trans s2).more n3) ?_ (((s1.more hD).trans s2).free n3);rw[fO,a7,lB];rfl
theorem Ui:gP ["front","numbers","row","fates","asked"] ["front","numbers","row"] (gL (fX 119)):=gX (by decide+kernel)
theorem Uj(T:Tx P w K mg AA):gK P w K mg base gT 3 AA.Ek AA.K6 ["front","numbers","row"] (kD AA 18 false 0):=by
 have S1:=Sz (base:=base) T;have SC:=Ui;refine T.Fy.fn.ok SC (fun vs H Q E h=> ?_) (fun gy A outer s H vs Q E hr h=> ?_)
 ·obtain⟨F,st,m,c,an,ar,ns,row,rfl,_⟩:=h;rfl
 ·obtain⟨F,st,m,c,an,ar,ns,row,rfl,hE,hc,hn,i6,lx,jW,hk,jU,hq⟩:=h;obtain rfl:=aM.mp hk;have hq:=iQ hE (call:=iE 18 false [] row) ((ja Z).trans (kR Z)) hq
  refine⟨_,(fS (gj (i:=3) SC.nd Z (Or.inl Z) (gc (gc (pv 0) Z) Z))
   (fS (gj (i:=4) SC.nd Z (Or.inl Z) (gA jK (gU iL (by rfl) T.len aF (fN (pv 3) fP)) (iT ax cH cE xZ (pv 3) (fN (gz Z T.FC) fP))))
   (fV (gC (gA j2 (gI (fN fW fP)) (ic S1 (hr.mono (by decide)) Z T.zS.mg T.zS.fn.kp T.zS.b .nil gG (fN (iT ax cH cE xZ (pv 3) (fN (gz Z T.sI) fP)) (fN (gU (r6 Z) (by rfl) T.max fB (fN fW (fN (pv 4) fP))) fP)))))))),?_⟩
  refine⟨_,Z,F.f,_,F.dx,_,_,Z,hE.ins,T.j9,T.lz,Z,F.R.r,_,F.R.dx,_,_,Z,hE.rd.ins,T.gH,T.qi,Z,?_⟩;refine⟨_,Z,F.R.lf,_,Z,.inl (fR.of hE.rd.iW),?_⟩;have rel:=hE.gd.rel;have wI:H F.R.lf=some (.lst ((m.fates.map Int.ofNat).map V.int)):=by rw[hE.rd.iW,bE];rfl
  refine⟨_,Z,.inl ⟨Z,_,fR.of hE.rd.iW⟩,F.R.lf,m.fates.map Int.ofNat,0,Z,Z,fR.of wI,_,_,Z,Z,?_⟩;refine⟨fY (by simp),fun q1 n1=> ?_⟩;have s1:fQ H (fM H q1 (.lst [V.int 0])):=fQ.new n1;have c0:=t9 rel 0;have c1:=t9 rel 1;have lF:=rel.oU;have l4:=hE.gd.n;have l0:=M8 st.front 0;have l1:=M8 st.front 1;refine⟨_,Z,.inl ⟨Z,_,fR.of (s1 _ _ hE.rd.iW)⟩,F.R.lf,m.fates.map Int.ofNat,1,Z,Z,fR.of (s1 _ _ wI),_,Z,_,_,Z,fates st.front 1,max 1 (st.front.done.length-fates st.front 0),?_,by omega,by omega,by omega,fun p2 n2=> ?_⟩
  ·rw[show(1:Int)=((1:Nat):Int) from Z,c1,show(0:Int)=((0:Nat):Int) from Z,c0,ac,lF];have e:(if (st.front.done.length:Int)-(fates st.front 0:Int)>((1:Nat):Int) then(st.front.done.length:Int)-(fates st.front 0:Int) else((1:Nat):Int))=((max 1 (st.front.done.length-fates st.front 0):Nat):Int):=by split<;>omega
   rw[e];rfl
  ·have vp:=gf fO n2;refine⟨q1,p2,_,_,Z,Z,(by rw[fT vp];exact fO),fO,fY (by simp),fun q3 n3=> ?_⟩;refine hq _ q3 ((s1.more n2).more n3) ?_ ((s1.more n2).free n3);rw[fO,aB,YW];rfl
end
end FE
namespace L2
open PySem PySem.Spec PyProof.Rows
theorem Y0{d:Addr}{o:Obj}{kvs:List (Key×V)}{g:TG}{tt:TT}{te:TE}{vs:List Nat}{σ:St}{H1:Hp}{D:Addr}{Qd:Hp->Prop}(Pv:Nat->Hp->Prop)(h0:Pv 0 (fM H1 D (.lst [])))(hl:∀i H,i<=kvs.length->Pv i H->H d=some (.jP o (.dK kvs)))
 (hs:∀i k x H,kvs[i]? =some (k,x)->Pv i H->g x (iA σ vs) H fun gv H2=>iA gv vs=iA σ vs/\tt gv H2 fun b H3=>
   if b=true then te gv H3 fun y H4=>∃acc,H4 D=some (.lst acc)/\acc.length<sizeLine/\Pv (i+1) (fM H4 D (.lst (acc++[y]))) else Pv (i+1) H3) (hd:∀H,Pv kvs.length H->Qd H):
 ∃W:Nat->Nat->Hp->Prop,(∃m,W 0 m (fM H1 D (.lst [])))/\∀i m H,W i m H->
  ((yR d o kvs).stop i H/\Qd H)\/((yR d o kvs).go i H/\∃Nx:Hp->Prop,(∀H',Nx H'->∃m',m'<m/\W (i+1) m' H')/\∀x H',(yR d o kvs).mG i H x H'->g x (iA σ vs) H' fun gv H2=>iA gv vs=iA σ vs/\tt gv H2 fun b H3=>
    if b=true then te gv H3 fun y H4=>∃acc,H4 D=some (.lst acc)/\acc.length<sizeLine/\Nx (fM H4 D (.lst (acc++[y]))) else Nx H3):=by
 refine⟨fun i m H=>m=kvs.length-i/\i<=kvs.length/\Pv i H,⟨kvs.length,by simp,aN _,h0⟩,?_⟩;rintro i m H ⟨rfl,hi,p⟩;have q:=hl i H hi p
 by_cases hZ:i<kvs.length
 ·refine .inr ⟨⟨q,hZ⟩,Pv (i+1),fun H' p'=>⟨kvs.length-(i+1),by omega,Z,hZ,p'⟩,fun x H' y=> ?_⟩;obtain⟨e,k,y⟩:=y;subst e;exact hs i k x _ y p
 ·have e:i=kvs.length:=by omega
  subst e;exact .inl ⟨⟨q,aA _⟩,hd H p⟩
end L2
namespace FE
open PySem PySem.Spec PyProof.Rows L2
open Vbkdaa (Book inside_ State stepNumbers decode Ear nat nats ahead behind depth rate high low delayOf gapOf printed fates Front keptAll keptNow guards noChannel isC isT)
theorem vJ{g:Bool×Int}{x:Vbkdaa.Res}(h:g.1=true):guards [g] x=.error g.2:=by unfold guards;rw[e6 h]
theorem vK{g:Bool×Int}{x:Vbkdaa.Res}(h:g.1=false):guards [g] x=x:=by unfold guards;rw[fh (by rw[h];decide)];rfl
theorem vL{g k:Bool×Int}{x:Vbkdaa.Res}(h:g.1=false):guards [g,k] x=guards [k] x:=by unfold guards;rw[fh (by rw[h];decide)]
theorem FL{g k:Bool×Int}{x:Vbkdaa.Res}(h:g.1=true):guards [g,k] x=.error g.2:=by unfold guards;rw[e6 h]
theorem VG{b:Book}{m:RS}{f:Front}(r:j7 b m f){i:Nat}(hi:i<b.channels.length):keptAll b f i=(List.range (li b m.highs.length)).map fun t=>m9 b m.highs t i:=by
 unfold keptAll li;rw[r.sQ];apply bW;intro t ht;have ht:t<f.done.length-ahead b:=dX.mp ht;have hl:(f.done.drop (f.done.length-1-ahead b-t)).length=t+ahead b+1:=by rw[aW];omega
 rw[NJ _ i hi (by omega),hl,show t+ahead b+1-1-ahead b=t by omega]
 have e:m.highs=((f.done.drop (f.done.length-1-ahead b-t)).map (·.high)).reverse++((f.done.take (f.done.length-1-ahead b-t)).map (·.high)).reverse:=by
  rw[r.i0,<-fF,<-ao,bP]
 rw[e,Le];rw[cv,ac,hl];omega
section
variable {P:Program} {w:World} {K:PySem.W.Frag} {mg:Str->Option Value} {base:Heap} {AA:gu}
theorem Uk:gP ["front","numbers","row","channel","readout","refusal","crossing"] ["front","numbers","row"] (gL (fX 107)):=gX (by decide+kernel)
theorem Ul(T:Tx P w K mg AA):gK P w K mg base gT 3 AA.Ei AA.K4 ["front","numbers","row"] (kD AA 6 false 1):=by
 have Dh:=JE (base:=base) T;have xL:=Dv (base:=base) T;have Dg:=JD (base:=base) T;have xK:=Dl (base:=base) T;have SC:=Uk;refine T.Fw.fn.ok SC (fun vs H Q E h=> ?_) (fun gy A outer s H vs Q E hr h=> ?_)
 ·obtain⟨F,st,m,c,an,ar,ns,row,rfl,_⟩:=h;rfl
 ·obtain⟨F,st,m,c,an,ar,ns,row,rfl,hE,hc,hn,i6,lx,jW,hk,jU,hq⟩:=h;obtain⟨k,rfl⟩:=cO.mp hk
  refine⟨_,(fS (gj (i:=3) SC.nd Z (Or.inr Z) (hV jb (pv 1) fW (fun _ _=>rfl)))
   (fS (gj (i:=4) SC.nd Z (Or.inr Z) (gc (pv 0) Z))
   (fS (gj (i:=5) SC.nd Z (Or.inl Z) (ic Dh (hr.mono (by decide)) Z T.tY.mg T.tY.fn.kp T.tY.b .nil gG (fN (pv 4) (fN (pv 3) fP))))
   (fS (gY (io sD (pv 5) fW (ii _))
     (fV (gC (gI (fN (pv 5) fP))))
     ia)
   (fV (gC (gA j2 (gI (fN fW fP)) (ic xL (hr.mono (by decide)) Z T.qj.mg T.qj.fn.kp T.qj.b .nil gG (fN (mf (own:=[("crossing",6)]) Z SC.nd (xU Z T.range (fN (l9 (pv 4) T.gH T.DT xK (hr.mono (by decide)) T.DH .nil gG) fP)) (lC (by kernel_rfl)) (fun s H C cl fp=>(iI (i:=6) SC.nd Z (Or.inl Z) (.inr Z))) (fun s H C cl fp=>md) (fun s H C cl fp=>(oE (pv 4) T.gH T.JV Dg (hr.mono (by decide)) T.JL .nil gG (fN (pv 6) (fN (gA jK (pv 3) fW) fP))))) fP))))))))),?_⟩
  refine⟨_,Z,an,_,_,_,Z,Z,fR.of hn,ir (j:=0) Z Z,?_⟩;refine⟨_,Z,F.f,_,F.dx,_,_,Z,hE.ins,T.j9,T.lz,Z,?_⟩;refine⟨_,Z,_,Z,F.R,st.book,m,k,Z,hE.rd,?_⟩;refine⟨_,Z,_,_,Z,Z,_,Z,?_⟩
  by_cases c1:1<=k/\k<=8
  ·obtain⟨k,rfl⟩:=bB (show 0<=k by omega);have ed:decode (iE 6 false [(k:Int)] row)=some (.kept (k:Int).toNat):=oG (by unfold isC inside_;rw[ai c1.1,ai c1.2];rfl);rw[a7] at ed;rw[aw c1]
   by_cases c2:st.book.channels.length<k
   ·rw[aw (show(st.book.channels.length:Int)<(k:Int) by omega)];refine fZ Z ?_;have hq:=iQ hE ((ja ed).trans (nQ (vJ (by unfold noChannel;exact ai (.inr c2))))) hq;exact⟨_,Z,fY (by simp),fun q n=>hq _ q (fQ.new n) fO n⟩
   ·rw[am (show¬(st.book.channels.length:Int)<(k:Int) by omega)];refine gn Z ?_;have hq:=iQ hE ((ja ed).trans (kR (vK (by unfold noChannel;exact ae (by omega))))) hq;have hi:k-1<st.book.channels.length:=by omega
    rw[VG hE.gd.rel hi] at hq;refine⟨fY (by simp),fun q1 n1=> ?_⟩;have iH:=hE.same (fQ.new (o:=.lst [V.int 0]) n1);have s1:fQ H (fM H q1 (.lst [V.int 0])):=fQ.new n1;have g1:(fM H q1 (.lst [V.int 0])) q1=some (.lst [V.int 0]):=fO;generalize fM H q1 (.lst [V.int 0])=H1 at iH s1 g1;have iJ:=iH.rd;have lH:=hE.gd.rel.sQ;have l4:=hE.gd.n;have kl:li st.book m.highs.length<=400:=by unfold li;omega
    refine⟨_,Z,F.R.r,F.R.dx,_,Z,iJ.ins,Z,F.R,st.book,m,Z,iJ,hE.iC,((li st.book m.highs.length:Nat):Int),Z,by omega,by omega,fun D hD=> ?_⟩;refine Aw (n:=((li st.book m.highs.length:Nat):Int).toNat) (fun i H'=>fQ H1 H'/\H' D=some (.lst (((List.range i).map fun t=>m9 st.book m.highs t (k-1)).map V.bl))) ⟨fQ.new hD,fO⟩ (fun i H' mI hH=> ?_) (fun H' hH=> ?_)
    ·obtain⟨s2,g2⟩:=hH;have iS:=iJ.same s2;refine⟨Z,?_⟩;refine⟨_,Z,F.R.r,F.R.dx,_,Z,iS.ins,Z,_,Z,_,Z,_,_,Z,Z,F.R,st.book,m,i,k-1,?_,iS,hE.iC,hi,fun H3 s3=> ?_⟩
     ·show[V.ref F.R.r,V.int (0+(i:Int)),V.int ((k:Int)-1)]=_;rw[Int.zero_add,show(k:Int)-1=((k-1:Nat):Int) by omega]
     ·refine⟨_,s3 _ _ g2,iU (by simp;omega),(s2.trans s3).put hD,?_⟩;rw[fO,eO,ao,ao];rfl
    ·obtain⟨s2,g2⟩:=hH;rw[a7] at g2;refine⟨D,_,Z,fR.of g2,by simp;omega,fun H3 p3 s3 f3 g3=> ?_⟩;refine⟨q1,p3,_,_,Z,Z,s3 _ _ (s2 _ _ g1),g3,fY ?_,fun q4 n4=> ?_⟩
     ·rw[ac];have:=FK ((List.range (li st.book m.highs.length)).map fun t=>m9 st.book m.highs t (k-1));simp at this⊢;omega
     ·refine hq _ q4 ((s1.trans (s2.trans s3)).more n4) ?_ ((s1.trans (s2.trans s3)).free n4);rw[fO];rfl
  ·rw[am c1];refine fZ Z ?_;have hq:=iQ hE (oA (show decode (iE 6 false [k] row)=none from oH (by unfold isC inside_;by_cases c2:1<=k;rw[ae (fun z=>c1 ⟨c2,z⟩),dA];rw[ae c2,cZ]))) hq;exact⟨_,Z,fY (by simp),fun q n=>hq _ q (fQ.new n) fO n⟩
theorem Um:gP ["front","numbers","row","channel","readout","refusal","highs"] ["front","numbers","row"] (gL (fX 108)):=gX (by decide+kernel)
theorem Uo(T:Tx P w K mg AA):gK P w K mg base gT 3 AA.Ej AA.K5 ["front","numbers","row"] (kD AA 7 false 1):=by
 have Dh:=JE (base:=base) T;have xL:=Dv (base:=base) T;have SC:=Um;refine T.Fx.fn.ok SC (fun vs H Q E h=> ?_) (fun gy A outer s H vs Q E hr h=> ?_)
 ·obtain⟨F,st,m,c,an,ar,ns,row,rfl,_⟩:=h;rfl
 ·obtain⟨F,st,m,c,an,ar,ns,row,rfl,hE,hc,hn,i6,lx,jW,hk,jU,hq⟩:=h;obtain⟨k,rfl⟩:=cO.mp hk
  refine⟨_,(fS (gj (i:=3) SC.nd Z (Or.inr Z) (hV jb (pv 1) fW (fun _ _=>rfl)))
   (fS (gj (i:=4) SC.nd Z (Or.inl Z) (gc (pv 0) Z))
   (fS (gj (i:=5) SC.nd Z (Or.inl Z) (ic Dh (hr.mono (by decide)) Z T.tY.mg T.tY.fn.kp T.tY.b .nil gG (fN (pv 4) (fN (pv 3) fP))))
   (fS (gY (io sD (pv 5) fW (ii _))
     (fV (gC (gI (fN (pv 5) fP))))
     ia)
   (fV (gC (gA j2 (gI (fN fW fP)) (ic xL (hr.mono (by decide)) Z T.qj.mg T.qj.fn.kp T.qj.b .nil gG (fN (mf (own:=[("highs",6)]) Z SC.nd (ma (show PE _ _ (yu K _ _) from gc (pv 4) Z)) (lC (by kernel_rfl)) (fun s H C cl fp=>(iI (i:=6) SC.nd Z (Or.inl Z) (.inr Z))) (fun s H C cl fp=>md) (fun s H C cl fp=>(hV (r:=wx K) jb (pv 6) (gA jK (pv 3) fW) (fun _ _=>rfl)))) fP))))))))),?_⟩
  refine⟨_,Z,an,_,_,_,Z,Z,fR.of hn,ir (j:=0) Z Z,?_⟩;refine⟨_,Z,F.f,_,F.dx,_,_,Z,hE.ins,T.j9,T.lz,Z,?_⟩;refine⟨_,Z,_,Z,F.R,st.book,m,k,Z,hE.rd,?_⟩;refine⟨_,Z,_,_,Z,Z,_,Z,?_⟩
  by_cases c1:1<=k/\k<=8
  ·obtain⟨k,rfl⟩:=bB (show 0<=k by omega);have ed:decode (iE 7 false [(k:Int)] row)=some (.high (k:Int).toNat):=oG (by unfold isC inside_;rw[ai c1.1,ai c1.2];rfl);rw[a7] at ed;rw[aw c1]
   by_cases c2:st.book.channels.length<k
   ·rw[aw (show(st.book.channels.length:Int)<(k:Int) by omega)];refine fZ Z ?_;have hq:=iQ hE ((ja ed).trans (nQ (vJ (by unfold noChannel;exact ai (.inr c2))))) hq;exact⟨_,Z,fY (by simp),fun q n=>hq _ q (fQ.new n) fO n⟩
   ·rw[am (show¬(st.book.channels.length:Int)<(k:Int) by omega)];refine gn Z ?_;have hq:=iQ hE ((ja ed).trans (kR (vK (by unfold noChannel;exact ae (by omega))))) hq;have hi:k-1<st.book.channels.length:=by omega
    have eh:(st.front.done.reverse.map fun d=>d.high.getD (k-1) false)=m.highs.map fun h=>h.getD (k-1) false:=by
     rw[hE.gd.rel.i0,<-List.map_reverse,bE];rfl
    rw[eh] at hq;refine⟨fY (by simp),fun q1 n1=> ?_⟩;have iH:=hE.same (fQ.new (o:=.lst [V.int 0]) n1);have s1:fQ H (fM H q1 (.lst [V.int 0])):=fQ.new n1;have g1:(fM H q1 (.lst [V.int 0])) q1=some (.lst [V.int 0]):=fO;generalize fM H q1 (.lst [V.int 0])=H1 at iH s1 g1;have iJ:=iH.rd;have hF:=hE.iC;have lh:=hF.h;refine⟨_,Z,F.R.r,_,F.R.dx,_,_,Z,iJ.ins,T.gH,T.t5,Z,F.R.lh,Z,⟨_,fR.of iJ.i0⟩,fun D hD=> ?_⟩;refine sj (K:=K) (a:=F.R.lh) (xs:=F.R.gD.map V.ref) (fun j H'=>H'=fM H1 D (.lst (((m.highs.take j).map fun h=>h.getD (k-1) false).map V.bl))) Z (fun j H' _ e=>by rw[e];exact fR.of (by rw[fT (gf iJ.i0 hD)];exact iJ.i0)) ?_ ?_
    ·rintro j x H' hx rfl;rw[au] at hx;cases hy:F.R.gD[j]? with
     |none=>rw[hy] at hx;cases hx
     |some y=>
      rw[hy] at hx;have ex:x=V.ref y:=(af hx).symm;subst ex;obtain⟨h,h1,h2⟩:=iJ.gD.get hy;have h3:=hF.hr _ (aS h1);have hj:=(ap.mp h1).1;have rL:(fM H1 D (.lst (((m.highs.take j).map fun h=>h.getD (k-1) false).map V.bl))) y=some (.lst (h.map V.bl)):=by rw[fT (gf h2 hD)];exact h2
      have mI:k-1<h.length:=by omega
      refine⟨Z,?_⟩;refine⟨_,Z,_,Z,_,_,Z,Z,y,_,_,_,Z,Z,fR.of rL,ir (j:=k-1) (by omega) (by rw[au,ak mI];rfl),_,fO,?_,?_⟩
      ·rw[ac,ac,aD];exact iU (by omega)
      ·rw[jn,bC,h1,ao,ao]
       congr 3
       show[V.bl h[k-1]]=[V.bl (h.getD (k-1) false)];rw[aE,ak mI];rfl
    ·rintro H' rfl;rw[ac,iJ.gD.1,aT];refine⟨D,_,Z,fR.of fO,by simp;omega,fun H3 p3 s3 f3 g3=> ?_⟩;refine⟨q1,p3,_,_,Z,Z,s3 _ _ (by rw[fT (gf g1 hD)];exact g1),g3,fY ?_,fun q4 n4=> ?_⟩
     ·rw[ac];have:=FK (m.highs.map fun h=>h.getD (k-1) false);simp at this⊢;omega
     ·refine hq _ q4 (((s1.more hD).trans s3).more n4) ?_ (((s1.more hD).trans s3).free n4);rw[fO];rfl
  ·rw[am c1];refine fZ Z ?_;have hq:=iQ hE (oA (show decode (iE 7 false [k] row)=none from oH (by unfold isC inside_;by_cases c2:1<=k;rw[ae (fun z=>c1 ⟨c2,z⟩),dA];rw[ae c2,cZ]))) hq;exact⟨_,Z,fY (by simp),fun q n=>hq _ q (fQ.new n) fO n⟩
end
end FE
namespace L2
open PySem PySem.Spec PyProof.Rows
def uO(xs:List V)(lo:Option Int)(k:Int):List V:=(sliceRange (sliceBounds lo none (some k) xs.length).1 (sliceBounds lo none (some k) xs.length).2.1 (sliceBounds lo none (some k) xs.length).2.2).filterMap (xs[·]?)
theorem gF.pick{xs:List V}{us:List Value}(r:gF xs us):∀ix:List Nat,gF (ix.filterMap (xs[·]?)) (ix.filterMap (us[·]?))
 |[]=>.nil
 |i::ix=>by
  cases e:xs[i]? with
  |none=>rw[List.filterMap_cons_none e,List.filterMap_cons_none (r.none_of e)];exact r.pick ix
  |some x=>
   obtain⟨u,e2,q⟩:=r.get e;rw[du e,du e2];exact .cons q (r.pick ix)
def abL(K:PySem.W.Frag)(te:TE)(tl:TO)(ts:TE):TE:=fun σ H Q=>te σ H fun x H1=>tl σ H1 fun l H2=>ts σ H2 fun z H3=>∃(a:Addr) (xs:List V) (k:Int),x=.ref a/\z=.int k/\k≠0/\fR K H3 a xs/\(uO xs l k).length<=sizeLine/\∀p,H3 p=none->Q (.ref p) (fM H3 p (.lst (uO xs l k)))
section
variable {X:Cx} {e es:Expr} {te ts:TE} {lo:Option Expr} {tl:TO} {pos p2:Pos}
theorem Mt(he:PE X e te)(hl:PO X lo tl)(kK:PE X es ts):PE X (.Subscript e (.Slice lo none (some es) p2) pos) (abL X.K te tl ts):=by
 intro fL s σ H Q I h;refine Subscript_ (gm (he fL s σ H _ I h) fun v s1 ⟨x,H1,I1,r1,q1⟩=> ?_);refine wpAny_Slice (gm (hl fL s1 σ H1 _ I1 q1) fun vl s2 ⟨l,H2,I2,pl,q2⟩=> ?_);rw[evalPart_none];refine aY ?_;rw[evalPart_some];refine gm (kK fL s2 σ H2 _ I2 q2) fun vu s3 ⟨z,H3,I3,rz,a,xs,k,ex,ez,k0,hx,jp,q⟩=> ?_
 subst ex;subst ez;cases r1;obtain⟨t,rfl⟩:=rz;have I4:Inv X fL σ H3 {s3 with heap:=s3.heap.push {cls:=.type "slice",data:=.fields #[vl,.none,.int k t]}}:=I3.kept (t':=s3.toks) fun b ob q=>aC _ q
 obtain⟨fU,r,ht,hz⟩:=I4.list hx;have j6:=r.length;show wpAny (model X.prog X.w) X.A (subscriptTail e (.Slice lo none (some es) p2) (.ref a) (.ref s3.heap.objs.size)) (EP X fL σ Q) X.xe {s3 with heap:=s3.heap.push {cls:=.type "slice",data:=.fields #[vl,.none,.int k t]}};refine tail_any (ops:=[.ref a,.ref s3.heap.objs.size]) ht.isList.typeIs slot_list_getitem.lookup ?_ (by with_unfolding_all rfl);refine wpAny_getItem_list_slice ht.isList (Heap.IsSliceOf.new ..) pl .none (.int k t) (fun z=>k0 (af z)) ?_ (by rw[aR]<;>omega)
 have ep:slicePick fU.toArray l none (some k)=((sliceRange (sliceBounds l none (some k) xs.length).1 (sliceBounds l none (some k) xs.length).2.1 (sliceBounds l none (some k) xs.length).2.2).filterMap (fU[·]?)).toArray:=by
  unfold slicePick;rw[aR,j6]
  congr 1
  congr 1
  funext i
  simp
 rw[ep];refine⟨.ref _,_,I4.laid (t':=s3.toks) (o:=.lst (uO xs l k)) (fun b ob q=>aC _ q) (aA _) ?_,Z,q _ (I4.gh.fresh (aA _))⟩;exact⟨jp,_,0,r.pick _,aO _ Z⟩
end
end L2
namespace FE
open PySem PySem.Spec PyProof.Rows L2
def i8{α:Type}:List α->List α
 |[]=>[]
 |[a]=>[a]
 |a::_::r=>a::i8 r
def i9{α:Type}:List α->List α
 |[]=>[]
 |[_]=>[]
 |_::b::r=>b::i9 r
theorem LV{α:Type}:∀xs:List α,(List.range ((xs.length+1)/2)).filterMap (fun k=>xs[2*k]?)=i8 xs
 |[]=>by simp[i8]
 |[a]=>by simp[i8]
 |a::b::r=>by
  have ih:=LV r;rw[show((a::b::r).length+1)/2=(r.length+1)/2+1 by simp only[aj];omega,bT,du (b:=a) (by rfl),eU];show a::(List.range ((r.length+1)/2)).filterMap (fun k=>(a::b::r)[2*(k+1)]?)=a::i8 r;rw[<-ih];rfl
theorem Mu{α:Type}:∀xs:List α,(List.range (xs.length/2)).filterMap (fun k=>xs[2*k+1]?)=i9 xs
 |[]=>by simp[i9]
 |[a]=>by simp[i9]
 |a::b::r=>by
  have ih:=Mu r;rw[show((a::b::r).length)/2=r.length/2+1 by simp only[aj];omega,bT,du (b:=b) (by rfl),eU];show b::(List.range (r.length/2)).filterMap (fun k=>(a::b::r)[2*(k+1)+1]?)=b::i9 r;rw[<-ih];rfl
theorem OK(xs:List V):uO xs (some 0) 2=i8 xs:=by
 unfold uO
 have e1:sliceBounds (some 0) none (some 2) xs.length=(0,(xs.length:Int),2):=by
  unfold sliceBounds;simp;omega
 rw[e1];show(sliceRange 0 (xs.length:Int) 2).filterMap (xs[·]?)=_
 have e2:sliceRange 0 (xs.length:Int) 2=(List.range ((xs.length+1)/2)).map fun k=>2*k:=by
  unfold sliceRange;simp only[show(2:Int)>0 by decide,dz];rw[show((if (0:Int)<(xs.length:Int) then((xs.length:Int)-0+2-1)/2 else 0)).toNat=(xs.length+1)/2 by split<;>omega];apply bW;intro k _;omega
 rw[e2,eU,<-LV];rfl
theorem OL(xs:List V):uO xs (some 1) 2=i9 xs:=by
 unfold uO
 by_cases h:xs=[]
 ·rw[h];rfl
 have hl:1<=xs.length:=by cases xs with|nil=>exact absurd Z h|cons a r=>simp
 have e1:sliceBounds (some 1) none (some 2) xs.length=(1,(xs.length:Int),2):=by
  unfold sliceBounds;simp;omega
 rw[e1];show(sliceRange 1 (xs.length:Int) 2).filterMap (xs[·]?)=_
 have e2:sliceRange 1 (xs.length:Int) 2=(List.range (xs.length/2)).map fun k=>2*k+1:=by
  unfold sliceRange;simp only[show(2:Int)>0 by decide,dz];rw[show((if (1:Int)<(xs.length:Int) then((xs.length:Int)-1+2-1)/2 else 0)).toNat=xs.length/2 by split<;>omega];apply bW;intro k _;omega
 rw[e2,eU,<-Mu];rfl
end FE
namespace L2
open PySem PySem.Spec PyProof.Rows
theorem Y1{K:PySem.W.Frag}{a b:Addr}{xs ys:List V}{g:TG}{tb:TS}{D:oO}{σ:St}{H:Hp}(he:xs.length=ys.length)(Pv:Nat->St->Hp->Prop)(h0:Pv 0 σ H)(hl:∀i σ H,i<=xs.length->Pv i σ H->fR K H a xs/\fR K H b ys)
 (hs:∀i x y T σ H,xs[i]? =some x->ys[i]? =some y->Pv i σ H->H T=none->g (.ref T) σ (fM H T (.tup [x,y])) fun gv H2=>tb {D with nx:=Pv (i+1),ct:=Pv (i+1),bk:=D.nx} gv H2) (hd:∀σ H,Pv xs.length σ H->D.nx σ H):
 ∃W:Nat->Nat->St->Hp->Prop,(∃m,W 0 m σ H)/\∀i m σ H,W i m σ H->
  ((yT K a b).stop i H/\D.nx σ H)\/((yT K a b).go i H/\∃N:St->Hp->Prop,(∀gw H',N gw H'->∃m',m'<m/\W (i+1) m' gw H')/\∀x H',(yT K a b).mG i H x H'->g x σ H' fun gv H2=>tb {D with nx:=N,ct:=N,bk:=D.nx} gv H2):=by
 refine⟨fun i m σ H=>m=xs.length-i/\i<=xs.length/\Pv i σ H,⟨xs.length,by simp,aN _,h0⟩,?_⟩;rintro i m σ H ⟨rfl,hi,p⟩;obtain⟨q1,q2⟩:=hl i σ H hi p
 by_cases hZ:i<xs.length
 ·have abM:i<ys.length:=by omega
  refine .inr ⟨⟨xs,ys,xs[i],ys[i],q1,q2,by simp[hZ],by simp[abM]⟩,Pv (i+1),fun gw H' p'=>⟨xs.length-(i+1),by omega,Z,hZ,p'⟩,fun x H' y=> ?_⟩;obtain⟨T,x1,y1,rfl,hT,rfl,g1,g2⟩:=y;exact hs i x1 y1 T σ H (g1 xs q1) (g2 ys q2) p hT
 ·have e:i=xs.length:=by omega
  subst e;exact .inl ⟨⟨xs,ys,q1,q2,.inl (aA _)⟩,hd σ H p⟩
end L2
namespace FE
open PySem PySem.Spec PyProof.Rows L2
open Vbkdaa (Book inside_ State stepNumbers decode Ear nat nats isT areSamples arePairs pairsIn risingPairs packed noChannel guards encoded)
theorem Mv{α:Type}:∀l:List α,(i8 l).length<=l.length
 |[]=>aA _
 |[_]=>aA _
 |_::_::r=>by have:=Mv r;simp only[i8,aj];omega
theorem M9{α:Type}:∀l:List α,(i9 l).length<=l.length
 |[]=>aA _
 |[_]=>aN _
 |_::_::r=>by have:=M9 r;simp only[i9,aj];omega
theorem FM{α β:Type}(f:α->β):∀l:List α,i8 (l.map f)=(i8 l).map f
 |[]=>rfl
 |[_]=>rfl
 |_::_::r=>by simp only[i8,aB];rw[FM f r]
theorem Gk{α β:Type}(f:α->β):∀l:List α,i9 (l.map f)=(i9 l).map f
 |[]=>rfl
 |[_]=>rfl
 |_::_::r=>by simp only[i9,aB];rw[Gk f r]
def rk(cs ss:List Int):Bool:=decide (cs.length=ss.length)&&(areSamples ss&&cs.all fun c=>inside_ c 1 8)
theorem FN:∀l:List Int,arePairs l=(decide ((i8 l).length=(i9 l).length)&&((i9 l).all (fun n=>inside_ n 0 4095)&&(i8 l).all fun c=>inside_ c 1 8))/\(arePairs l=true->l.length=2*(i9 l).length)
 |[]=>⟨Z,fun _=>rfl⟩
 |[_]=>⟨Z,fun h=>by cases h⟩
 |a::n::r=>by
  obtain⟨h1,h2⟩:=FN r;refine⟨?_,fun h=> ?_⟩
  ·show(inside_ a 1 8&&(inside_ n 0 4095&&arePairs r))=_;have e:decide ((i8 (a::n::r)).length=(i9 (a::n::r)).length)=decide ((i8 r).length=(i9 r).length):=decide_eq_decide.mpr (by show(i8 r).length+1=(i9 r).length+1↔_;omega);rw[h1,e];show _=(decide ((i8 r).length=(i9 r).length)&&((inside_ n 0 4095&&(i9 r).all (fun n=>inside_ n 0 4095))&&(inside_ a 1 8&&(i8 r).all fun c=>inside_ c 1 8)));cases decide ((i8 r).length=(i9 r).length)<;>cases inside_ a 1 8<;>cases inside_ n 0 4095<;>cases ((i9 r).all (fun n=>inside_ n 0 4095))<;>rfl
  ·have h:(inside_ a 1 8&&(inside_ n 0 4095&&arePairs r))=true:=h;rw[aH,aH] at h;have:=h2 h.2.2;simp only[i9,aj];omega
theorem Z2(l:List Int):rk (i8 l) (i9 l)=(decide (l.length<=16)&&arePairs l):=by
 obtain⟨h1,h2⟩:=FN l;unfold rk areSamples;rw[h1];cases e1:decide ((i8 l).length=(i9 l).length) with
 |false=>simp
 |true=>
  cases e2:(i9 l).all fun n=>inside_ n 0 4095 with
  |false=>simp
  |true=>
   cases e3:(i8 l).all fun c=>inside_ c 1 8 with
   |false=>simp
   |true=>
    have:=h2 (by rw[h1,e1,e2,e3];rfl)
    by_cases h:l.length<=16
    ·rw[ai h,ai (by omega)];rfl
    ·rw[ae h,ae (by omega)];rfl
theorem Mw:∀l:List Int,arePairs l=true->(pairsIn l).map (fun x=>(x.1:Int))=i8 l/\(pairsIn l).map (fun x=>(x.2:Int))=i9 l
 |[],_=>⟨Z,Z⟩
 |[_],h=>by cases h
 |a::n::r,h=>by
  have h:(inside_ a 1 8&&(inside_ n 0 4095&&arePairs r))=true:=h;rw[aH,aH] at h;obtain⟨h1,h2⟩:=Mw r h.2.2;have ha:=h.1;have hn:=h.2.1;unfold inside_ at ha hn;rw[aH,aJ,aJ] at ha hn;simp only[pairsIn,i8,i9,aB,h1,h2];exact⟨by rw[fD (by omega)],by rw[fD (by omega)]⟩
def sM(l:List Int):Bool:=(List.range (l.length-1)).all fun i=>decide (l.getD i 0<l.getD (i+1) 0)
theorem WS(a b:Int)(r:List Int):sM (a::b::r)=(decide (a<b)&&sM (b::r)):=by
 unfold sM;rw[show(a::b::r).length-1=(b::r).length-1+1 by simp,bT,cQ,db];rfl
theorem LW:∀ps:List (Nat×Nat),sM (ps.map fun x=>(x.1:Int))=risingPairs ps
 |[]=>rfl
 |[_]=>rfl
 |x::y::r=>by
  have ih:=LW (y::r);show sM ((x.1:Int)::(y.1:Int)::r.map fun x=>(x.1:Int))=(decide (x.1<y.1)&&risingPairs (y::r));rw[WS,<-ih]
  congr 1
  exact decide_eq_decide.mpr (by omega)
theorem FO:∀(ps:List (Nat×Nat)),risingPairs ps=true->∀(i j:Nat) (x y:Nat×Nat),ps[i]? =some x->ps[j]? =some y->i<j->x.1<y.1
 |[],_,_,_,_,_,h,_,_=>by simp at h
 |[z],_,i,j,x,y,h1,h2,hl=>by
  have:=(ap.mp h2).1;simp at this;omega
 |z::u::r,h,i,j,x,y,h1,h2,hl=>by
  have h:(decide (z.1<u.1)&&risingPairs (u::r))=true:=h;rw[aH,aJ] at h;obtain⟨j,rfl⟩:∃k,j=k+1:=⟨j-1,by omega⟩;rw[dB] at h2;cases i with
  |zero=>
   have e:z=x:=af h1;rw[<-e];cases j with
   |zero=>have e2:u=y:=af h2;rw[<-e2];exact h.1
   |succ j=>exact Nat.lt_trans h.1 (FO (u::r) h.2 0 (j+1) u y Z h2 (by omega))
  |succ i=>exact FO (u::r) h.2 i j x y h1 h2 (by omega)
def kT(n:Nat)(ps:List (Nat×Nat)):List (Option Nat):=(List.range n).map fun i=>(ps.find? fun x=>x.1==i+1).map fun x=>x.2
theorem X1(n:Nat):(kT n []).map oV=List.replicate n V.gS:=by
 unfold kT;rw[bE];apply List.ext_getElem
 ·simp
 ·intro i h1 h2;simp[oV]
theorem WT(n:Nat)(ps:List (Nat×Nat))(x:Nat×Nat)(h1:1<=x.1)(hx:∀y∈ps,y.1<x.1):kT n (ps++[x])=(kT n ps).set (x.1-1) (some x.2):=by
 unfold kT;apply List.ext_getElem
 ·simp
 ·intro i h2 h3;rw[List.getElem_set];simp only[List.getElem_map,List.getElem_range,List.find?_append]
  by_cases e:x.1-1=i
  ·rw[aw e,List.find?_eq_none.mpr (fun y hy z=>by have h4:=hx y hy;have h5:y.1=i+1:=ck.mp z;omega),e6 (by rw[ck];omega)];rfl
  ·rw[am e,fh (by rw[ck];omega),List.find?_nil,Option.or_none]
def abN(K:PySem.W.Frag):Sp:=fun vs H Q _=>∃(a b:Addr) (cs ss:List Int),vs=[.ref a,.ref b]/\fR K H a (cs.map V.int)/\fR K H b (ss.map V.int)/\cs.length<=100000/\ss.length<=100000/\∀H',fQ H H'->Q (.bl (rk cs ss)) H'
def Z3(K:PySem.W.Frag):Sp:=fun vs H Q _=>∃(a:Addr) (cs:List Int),vs=[.ref a]/\fR K H a (cs.map V.int)/\cs.length<=100000/\∀H',fQ H H'->Q (.bl (sM cs)) H'
section
variable {P:Program} {w:World} {K:PySem.W.Frag} {mg:Str->Option Value} {base:Heap} {AA:gu}
theorem Up:gP ["channels","samples","channel"] ["channels","samples"] (gL (fX 99)):=gX (by decide+kernel)
theorem Uq(T:Tx P w K mg AA):gK P w K mg base gT 3 AA.K1 AA.K2 ["channels","samples"] (abN K):=by
 have xN:=DL (base:=base) T;have SC:=Up;refine T.An.fn.ok SC (fun vs H Q E h=> ?_) (fun gy A outer s H vs Q E hr h=> ?_)
 ·obtain⟨a,b,cs,ss,rfl,_⟩:=h;rfl
 ·obtain⟨a,b,cs,ss,rfl,hA,hB,hl,oZ,hq⟩:=h
  refine⟨_,(fS (gY (PW.pt (pM (io rc (gU iL (by rfl) T.len aF (fN (pv 0) fP)) (gU iL (by rfl) T.len aF (fN (pv 1) fP)) (ii _)) (qu (k9 (lT (ic xN (hr.mono (by decide)) Z T.qk.mg T.qk.fn.kp T.qk.b .nil gG (fN (pv 1) fP)))))))
   (fV (gC On))
   ia)
   (fV (gC (gU (yk Z) (by rfl) T.all boot_all (fN (mf (own:=[("channel",2)]) Z SC.nd (ma (pv 0)) (lC (by kernel_rfl)) (fun s H C cl fp=>(iI (i:=2) SC.nd Z (Or.inl Z) (.inr Z))) (fun s H C cl fp=>md) (fun s H C cl fp=>(MF ju ju fW (pv 2) (gz Z T.zO)))) fP))))),?_⟩
  refine⟨_,Z,a,_,Z,.inl hA,_,Z,b,_,Z,.inl hB,Z,_,Z,?_⟩;rw[ac,ac]
  by_cases c1:cs.length=ss.length
  ·refine gn (by rw[Bool.not_eq_false'];exact ai (by rw[c1])) ?_;refine⟨_,Z,b,ss,Z,hB,oZ,fun H1 s1=> ?_⟩;refine⟨_,Z,?_⟩
   by_cases c2:areSamples ss=true
   ·refine gn (by rw[c2];rfl) ?_;have ef:rk cs ss=cs.all fun c=>inside_ c 1 8:=by unfold rk;rw[ai c1,c2];rfl
    rw[ef] at hq;have rR:=s1.seq hA;refine⟨_,Z,a,Z,⟨_,rR⟩,fun q1 n1=> ?_⟩;have s2:∀o,fQ H1 (fM H1 q1 o):=fun o=>fQ.new n1
    refine sj (K:=K) (a:=a) (xs:=cs.map V.int) (fun i H'=>H'=fM H1 q1 (.lst (((cs.take i).map fun n=>inside_ n 1 8).map V.bl))) Z (fun i H' _ e=>by rw[e];exact(s2 _).seq rR) ?_ ?_
    ·rintro i x H' hx rfl;obtain⟨n,hn,rfl⟩:=kF hx;have hi':i<cs.length:=(ap.mp hn).1
     have fin:∀z:Bool,z=inside_ n 1 8->∃acc,(fM H1 q1 (.lst (((cs.take i).map fun n=>inside_ n 1 8).map V.bl))) q1=some (.lst acc)/\acc.length<sizeLine/\fM (fM H1 q1 (.lst (((cs.take i).map fun n=>inside_ n 1 8).map V.bl))) q1 (.lst (acc++[V.bl z]))=fM H1 q1 (.lst (((cs.take (i+1)).map fun n=>inside_ n 1 8).map V.bl)):=by
      intro z hz;refine⟨_,fO,iU (by rw[ac,ac,aD];omega),?_⟩;rw[jn,take_snoc hn,ao,ao,hz];rfl
     refine⟨Z,?_⟩;refine⟨_,Z,_,_,Z,Z,_,Z,?_⟩
     by_cases c3:1<=n
     ·refine fZ (ai c3) ?_;refine⟨_,_,Z,Z,?_⟩;exact fin _ (by unfold inside_;rw[ai c3];rfl)
     ·refine gn (ae c3) ?_;exact fin false (by unfold inside_;rw[ae c3];rfl)
    ·rintro H' rfl;rw[ac,aT];refine⟨q1,_,Z,fR.of fO,?_⟩;have e:(cs.map fun n=>inside_ n 1 8).all id=cs.all fun n=>inside_ n 1 8:=by rw[db];rfl
     rw[e];exact hq _ (s1.trans (s2 _))
   ·rw[bS] at c2;refine fZ (by rw[c2];rfl) ?_;have ef:rk cs ss=false:=by unfold rk;rw[c2];simp
    rw[ef] at hq;exact hq _ s1
  ·refine fZ (by rw[cG];exact ae (fun z=>c1 (by have:=V.int.inj z;omega))) ?_;refine fZ Z ?_;have ef:rk cs ss=false:=by unfold rk;rw[ae c1];rfl
   rw[ef] at hq;exact hq _ fQ.kG
theorem X2:gP ["row","place"] ["row"] (gL (fX 100)):=gX (by decide+kernel)
theorem X3(T:Tx P w K mg AA):gK P w K mg base gT 1 AA.ND AA.NE ["row"] (Z3 K):=by
 have SC:=X2;refine T.Bo.fn.ok SC (fun vs H Q E h=> ?_) (fun gy A outer s H vs Q E hr h=> ?_)
 ·obtain⟨a,cs,rfl,_⟩:=h;rfl
 ·obtain⟨a,cs,rfl,hA,hl,hq⟩:=h;refine⟨_,(fV (gC (gU (yk Z) (by rfl) T.all boot_all (fN (mf (own:=[("place",1)]) Z SC.nd (xU Z T.range (fN (gA jK (gU iL (by rfl) T.len aF (fN (pv 0) fP)) fW) fP)) (lC (by kernel_rfl)) (fun s H C cl fp=>(iI (i:=1) SC.nd Z (Or.inl Z) (.inr Z))) (fun s H C cl fp=>md) (fun s H C cl fp=>(si sD (hV (r:=wx K) jb (pv 0) (pv 1) (fun _ _=>rfl)) (hV (r:=wx K) jb (pv 0) (gA jg (pv 1) fW) (fun _ _=>rfl)) (ii _)))) fP)))),?_⟩;refine⟨_,Z,a,_,Z,.inl hA,_,_,Z,Z,_,Z,by rw[ac];omega,by rw[ac];omega,fun D hD=> ?_⟩;have el:((cs.map V.int).length:Int)-1=(cs.length:Int)-1:=by rw[ac]
  rw[el];have s1:∀o,fQ H (fM H D o):=fun o=>fQ.new hD
  refine Aw (n:=((cs.length:Int)-1).toNat) (fun i H'=>H'=fM H D (.lst (((List.range i).map fun i=>decide (cs.getD i 0<cs.getD (i+1) 0)).map V.bl))) Z (fun i H' hi hH=> ?_) (fun H' hH=> ?_)
  ·subst hH;have hi:i+1<cs.length:=by omega
   have xz:=(s1 (.lst (((List.range i).map fun i=>decide (cs.getD i 0<cs.getD (i+1) 0)).map V.bl))).seq hA;have e1:(cs.map V.int)[i]? =some (V.int (cs.getD i 0)):=by rw[au,aE,ak (by omega)];rfl
   have e2:(cs.map V.int)[i+1]? =some (V.int (cs.getD (i+1) 0)):=by rw[au,aE,ak hi];rfl
   refine⟨Z,?_⟩;refine⟨_,Z,_,Z,a,_,_,_,Z,Z,xz,ir (j:=i) (by omega) e1,_,Z,_,Z,_,_,Z,Z,a,_,_,_,Z,Z,xz,ir (j:=i+1) (by omega) e2,_,_,Z,Z,_,fO,iU (by simp;omega),?_⟩;rw[jn,eO,ao,ao];rfl
  ·subst hH;refine⟨D,_,Z,fR.of fO,?_⟩
   have e:((List.range ((cs.length:Int)-1).toNat).map fun i=>decide (cs.getD i 0<cs.getD (i+1) 0)).all id=sM cs:=by
    unfold sM;rw[db,show((cs.length:Int)-1).toNat=cs.length-1 by omega];rfl
   rw[e];exact hq _ (s1 _)
theorem TB:gP ["front","numbers","pairs","crossing","channels","samples","told","channel","sample"] ["front","numbers","pairs"] (gL (fX 114)):=gX (by decide+kernel)
theorem TC(T:Tx P w K mg AA):gK P w K mg base gT 4 AA.D4 AA.Kz ["front","numbers","pairs"] (kD AA 13 true 1):=by
 have Y2:=X3 (base:=base) T;have xT:=Es (base:=base) T;have U4:=Uq (base:=base) T;have SC:=TB;refine T.EQ.fn.ok SC (fun vs H Q E h=> ?_) (fun gy A outer s H vs Q E hr h=> ?_)
 ·obtain⟨F,st,m,c,an,ar,ns,row,rfl,_⟩:=h;rfl
 ·obtain⟨F,st,m,c,an,ar,ns,row,rfl,hE,hc,hn,i6,lx,jW,hk,jU,hq⟩:=h;obtain⟨k,rfl⟩:=cO.mp hk
  refine⟨_,(fS (gj (i:=3) SC.nd Z (Or.inl Z) (hV jb (pv 1) fW (fun _ _=>rfl)))
   (fS (gj (i:=4) SC.nd Z (Or.inl Z) (Mt (pv 2) (kn fW) fW))
   (fS (gj (i:=5) SC.nd Z (Or.inl Z) (Mt (pv 2) (kn fW) fW))
   (fS (gY (PW.pt (pM (k9 (ql ju ju fW (pv 3) (gz Z T.JJ))) (qu (k9 (lT (ic U4 (hr.mono (by decide)) Z T.An.mg T.An.fn.kp T.An.b .nil gG (fN (pv 4) (fN (pv 5) fP))))))))
     (fV (gC (gI (fN (gz Z T.pF) fP))))
     ia)
   (fS (gj (i:=6) SC.nd Z (Or.inl Z) (gA A8 (gI (fN uC fP)) (gU iL (by rfl) T.len aF (fN (gc (gc (gc (pv 0) Z) Z) Z) fP))))
   (fS (gY (io mQ (Gw Z Z T.max (fN (pv 4) fP) (yd fW yj)) (gU iL (by rfl) T.len aF (fN (pv 6) fP)) (ii _))
     (fV (gC (gI (fN (gz Z T.FD) fP))))
     ia)
   (fS (gY (k9 (lT (ic Y2 (hr.mono (by decide)) Z T.Bo.mg T.Bo.fn.kp T.Bo.b .nil gG (fN (pv 4) fP))))
     (fV (gC (gI (fN (gz Z T.Vl) fP))))
     ia)
   (fS (lE bg Z (Zy Z T.zip (fN (pv 4) (fN (pv 5) fP))) (rb Z (lR (iI (i:=7) SC.nd Z (Or.inl Z)) (lR (iI (i:=8) SC.nd Z (Or.inl Z)) qX)))
     (fV (Ze (pv 8) (Zd (pv 6) (gA jK (pv 7) fW) W4))))
   (fV (gC (gA j2 (gI (fN fW fP)) (ic xT (hr.mono (by decide)) Z T.qm.mg T.qm.fn.kp T.qm.b .nil gG (fN (pv 3) (fN (pv 6) fP)))))))))))))),?_⟩
  refine⟨_,Z,an,_,_,_,Z,Z,fR.of hn,ir (j:=0) Z Z,?_⟩;have le:=Mv row;have lo:=M9 row;refine⟨_,Z,_,Z,ar,_,2,Z,Z,by decide,fR.of i6,fY (by rw[OK,FM,ac];omega),fun q1 n1=> ?_⟩;rw[OK,FM];have s1:fQ H (fM H q1 (.lst ((i8 row).map V.int))):=fQ.new n1;have g1:(fM H q1 (.lst ((i8 row).map V.int))) q1=some (.lst ((i8 row).map V.int)):=fO;show jR _ _ _ _ (fM H q1 (.lst ((i8 row).map V.int)));generalize fM H q1 (.lst ((i8 row).map V.int))=H1 at s1 g1;refine⟨_,Z,_,Z,ar,_,2,Z,Z,by decide,fR.of (s1 _ _ i6),fY (by rw[OL,Gk,ac];omega),fun q2 n2=> ?_⟩;rw[OL,Gk];have s2:fQ H (fM H1 q2 (.lst ((i9 row).map V.int))):=s1.more n2;have Jc:(fM H1 q2 (.lst ((i9 row).map V.int))) q2=some (.lst ((i9 row).map V.int)):=fO;have qM:(fM H1 q2 (.lst ((i9 row).map V.int))) q1=some (.lst ((i8 row).map V.int)):=(fT (gf g1 n2)).trans g1;show jR _ _ _ _ (fM H1 q2 (.lst ((i9 row).map V.int)));generalize fM H1 q2 (.lst ((i9 row).map V.int))=H2 at s2 Jc qM;have jx:(isT k&&(decide (row.length<=16)&&arePairs row))=false->∀H3,fQ H H3->∀q,H3 q=none->Q (.ref q) (fM H3 q (.lst [V.int (-1)])):=fun h H3 s3 q n=>iQ hE (call:=iE 13 true [k] row) (oA (show decode [[13,k],row]=none from oH h)) hq _ q (s3.more n) fO (s3.free n)
  refine⟨_,Z,_,_,Z,Z,_,Z,?_⟩
  by_cases c1:0<=k
  ·refine fZ (ai c1) ?_;refine⟨_,_,Z,Z,_,Z,?_⟩
   by_cases c2:k<=4095
   ·refine gn (by rw[ai c2];rfl) ?_;refine⟨_,Z,_,Z,q1,q2,i8 row,i9 row,Z,fR.of qM,fR.of Jc,by omega,by omega,fun H3 s3=> ?_⟩;refine⟨_,Z,?_⟩;rw[Z2];have tR:=s2.trans s3
    by_cases hb:(decide (row.length<=16)&&arePairs row)=true
    ·refine gn (by rw[hb];rfl) ?_;obtain⟨t,rfl⟩:=bB c1;have ed:decode (iE 13 true [(t:Int)] row)=some (.pack (t:Int).toNat row):=oG (by rw[hb];unfold isT inside_;rw[ai c1,ai c2];rfl);rw[a7] at ed;rw[aH,aJ] at hb;obtain⟨wZ,lu⟩:=hb;obtain⟨z1,z2⟩:=Mw row lu;obtain⟨i1,i2⟩:=FN row;have i1:=i1.symm.trans lu;rw[aH,aH,aJ] at i1;obtain⟨il,i3,i4⟩:=i1;have rO:=s3 _ _ qM;have qf:=s3 _ _ Jc;have kN:=hE.same tR;generalize hPS:pairsIn row=ps at z1 z2
     have pr:∀x∈ps,1<=x.1/\x.1<=8/\x.2<4096:=by
      intro x hx;have h1:=a9.mp i4 (x.1:Int) (by rw[<-z1];exact bi.mpr ⟨x,hx,Z⟩);have h2:=a9.mp i3 (x.2:Int) (by rw[<-z2];exact bi.mpr ⟨x,hx,Z⟩);unfold inside_ at h1 h2;rw[aH,aJ,aJ] at h1 h2;omega
     have iC:=kN.rd.set.iC;have kH:(F.R.S.cs.map V.ref).length=st.book.channels.length:=by rw[ac];exact kN.rd.set.mv.1
     refine⟨fY (by simp),fun q4 n4=> ?_⟩;have s4:fQ H3 (fM H3 q4 (.lst [V.gS])):=fQ.new n4;have CB:=kN.same s4;refine⟨_,Z,F.f,_,F.dx,_,_,Z,CB.ins,T.j9,T.lz,Z,F.R.r,_,F.R.dx,_,_,Z,CB.rd.ins,T.gH,T.ly,Z,F.R.S.s,_,F.R.S.dx,_,_,Z,CB.rd.set.ins,T.im,T.nJ,Z,F.R.S.lc,_,Z,.inl (fR.of CB.rd.set.mr),q4,_,_,Z,Z,fO,by rw[kH];omega,by rw[kH];omega,fY (by rw[kH];simp;omega),fun q5 n5=> ?_⟩;rw[kH,Gi,a7,<-X1];have s5:fQ H3 (fM (fM H3 q4 (.lst [V.gS])) q5 (.lst ((kT st.book.channels.length []).map oV))):=s4.more n5;have g5:(fM (fM H3 q4 (.lst [V.gS])) q5 (.lst ((kT st.book.channels.length []).map oV))) q5=some (.lst ((kT st.book.channels.length []).map oV)):=fO;have f5:H3 q5=none:=s4.free n5;show jR _ _ _ _ (fM (fM H3 q4 (.lst [V.gS])) q5 (.lst ((kT st.book.channels.length []).map oV)));generalize fM (fM H3 q4 (.lst [V.gS])) q5 (.lst ((kT st.book.channels.length []).map oV))=H5 at s5 g5;have tl:∀l,((kT st.book.channels.length l).map oV).length=st.book.channels.length:=fun l=>by unfold kT;simp
     refine⟨_,Z,q1,i8 row,0,Z,Z,fR.of (s5 _ _ rO),fun mx m1 m2=> ?_⟩;refine⟨_,Z,q5,_,Z,.inl (fR.of g5),_,_,Z,Z,_,Z,?_⟩;rw[tl]
     have ey:decide (mx>(st.book.channels.length:Int))=ps.any fun x=>(noChannel st x.1).1:=by
      rw[bK,aJ,List.any_eq_true]
      by_cases h0:i8 row=[]
      ·rw[m1 h0];have p0:ps=[]:=by rw[h0] at z1;exact List.map_eq_nil_iff.mp z1
       rw[p0];constructor
       ·intro z;omega
       ·rintro⟨x,hx,_⟩;cases hx
      ·obtain⟨h1,h2⟩:=m2 h0;constructor
       ·intro z;rw[<-z1] at h1;obtain⟨x,hx,ex⟩:=bi.mp h1;refine⟨x,hx,?_⟩;unfold noChannel;exact ai (.inr (by omega))
       ·rintro⟨x,hx,hl⟩;have h3:=h2 (x.1:Int) (by rw[<-z1];exact bi.mpr ⟨x,hx,Z⟩);have h4:=pr x hx;unfold noChannel at hl;have:=cF hl;omega
     have er:Vbkdaa.does st (.pack t row)=guards [(ps.any fun x=>(noChannel st x.1).1,-5),(!risingPairs ps,-7)] (.ok (st,(encoded ⟨t,kT st.book.channels.length ps⟩).map nat)):=by rw[<-hPS];rfl
     cases ha:ps.any fun x=>(noChannel st x.1).1 with
     |true=>
      refine fZ (ey.trans ha) ?_;have hq:=iQ hE ((ja ed).trans (nQ (er.trans (FL ha)))) hq;exact⟨fY (by simp),fun q n=>hq _ q ((tR.trans s5).more n) fO ((tR.trans s5).free n)⟩
     |false=>
      refine gn (ey.trans ha) ?_;refine⟨_,Z,q1,i8 row,Z,fR.of (s5 _ _ rO),by omega,fun H6 s6=> ?_⟩;refine⟨_,Z,?_⟩;rw[<-z1,LW];have zy:=s5.trans s6
      by_cases qg:risingPairs ps=true
      ·refine gn (by rw[qg];rfl) ?_;have hq:=iQ hE ((ja ed).trans (kR (er.trans ((vL ha).trans (vK (by rw[qg];rfl)))))) hq
       have cn:∀x∈ps,x.1<=st.book.channels.length:=by
        intro x hx;have h1:=List.any_eq_false.mp ha x hx;unfold noChannel at h1;have h2:=of_decide_eq_false (Bool.eq_false_iff.mpr h1);omega
       have eN:(i8 row).map V.int=ps.map fun x=>nV x.1:=by rw[<-z1,bE];rfl
       have oN:(i9 row).map V.int=ps.map fun x=>nV x.2:=by rw[<-z2,bE];rfl
       rw[eN] at rO;rw[oN] at qf;have pl:ps.length<=16:=by have:=congrArg List.length z1;rw[ac] at this;omega
       have r1:=zy _ _ rO;have r2:=zy _ _ qf;have r5:=s6 _ _ g5
       refine⟨_,Z,_,Z,q1,q2,_,_,Z,fR.of r1,fR.of r2,Y1 (K:=K) (a:=q1) (b:=q2) (xs:=ps.map fun x=>nV x.1) (ys:=ps.map fun x=>nV x.2) (by simp) (fun i σ H'=>∃v7 v8,σ=[some (.ref F.f),some (.ref an),some (.ref ar),some (.int (t:Int)),some (.ref q1),some (.ref q2),some (.ref q5),v7,v8]/\fQ H3 H'/\H' q5=some (.lst ((kT st.book.channels.length (ps.take i)).map oV)))
        ⟨none,none,Z,zy,r5⟩ (fun i σ H' _ ⟨_,_,_,s,_⟩=>⟨fR.of (s _ _ rO),fR.of (s _ _ qf)⟩) ?_ ?_⟩
       ·rintro i x y T' σ H' hx hy ⟨v7,v8,rfl,s7,g7⟩ QP;obtain⟨p,hp,rfl⟩:=kF hx;obtain⟨p',hp',rfl⟩:=kF hy;obtain rfl:p=p':=af (hp.symm.trans hp');obtain⟨h1,h2,h3⟩:=pr p (aS hp);have h4:=cn p (aS hp);have QQ:(fM H' T' (.tup [nV p.1,nV p.2])) T'=some (.tup [nV p.1,nV p.2]):=fO;have g8:(fM H' T' (.tup [nV p.1,nV p.2])) q5=_:=(fT (gf g7 QP)).trans g7;have s8:fQ H3 (fM H' T' (.tup [nV p.1,nV p.2])):=s7.more QP;generalize fM H' T' (.tup [nV p.1,nV p.2])=H8 at QQ g8 s8;refine⟨T',_,Z,kf QQ,Z,_,_,Z,_,_,Z,Z,?_⟩
        have hix:qG ((kT st.book.channels.length (ps.take i)).map oV).length ((p.1:Int)-1)=some (p.1-1):=by
         rw[tl];unfold qG;rw[aw (by omega),aw (by omega),show((p.1:Int)-1).toNat=p.1-1 by omega]
        refine⟨_,Z,_,Z,_,Z,_,_,Z,Z,q5,_,_,_,Z,Z,g8,hix,?_⟩;refine⟨_,_,Z,s8.put f5,?_⟩;rw[fO,take_snoc hp,WT _ _ _ h1,List.map_set]
        ·rfl
        ·intro y hy;obtain⟨j,hj,ej⟩:=fE hy;have pz:j<i:=by rw[aD] at hj;omega
         refine FO ps qg j i y p ?_ hp pz;rw[<-dq pz,ak hj,ej]
       ·rintro σ H' ⟨v7,v8,rfl,s7,g7⟩;rw[ac,aT] at g7;refine⟨fY (by simp),fun q8 n8=> ?_⟩;have s8:fQ H' (fM H' q8 (.lst [V.int 0])):=fQ.new n8;have afj:(kT st.book.channels.length ps).length=st.book.channels.length:=by unfold kT;simp
        have tf:∀n,some n∈kT st.book.channels.length ps->n<4096:=by
         intro n hn;unfold kT at hn;obtain⟨i,_,e⟩:=bi.mp hn;cases hf:ps.find? fun x=>x.1==i+1 with
         |none=>rw[hf] at e;cases e
         |some x=>
          rw[hf] at e;have e:x.2=n:=af e;rw[<-e];exact(pr x (List.mem_of_find?_eq_some hf)).2.2
        refine⟨_,Z,_,Z,t,q5,kT st.book.channels.length ps,Z,fR.of (s8 _ _ g7),by omega,?_,fun H9 p9 s9 f9 g9=> ?_⟩
        ·exact tf
        ·rw[show t% 4096=t by omega] at g9;refine⟨q8,p9,_,_,Z,Z,s9 _ _ fO,g9,fY (by have:=AX t (kT st.book.channels.length ps) (by omega) tf;simp;omega),fun tM rF=> ?_⟩;refine hq _ tM ((tR.trans (s7.trans (s8.trans s9))).more rF) ?_ ((tR.trans (s7.trans (s8.trans s9))).free rF);rw[fO,x8];rfl
      ·rw[bS] at qg;refine fZ (by rw[qg];rfl) ?_;have hq:=iQ hE ((ja ed).trans (nQ (er.trans ((vL ha).trans (vJ (by rw[qg];rfl)))))) hq;exact⟨fY (by simp),fun q n=>hq _ q ((tR.trans zy).more n) fO ((tR.trans zy).free n)⟩
    ·rw[bS] at hb;refine fZ (by rw[hb];rfl) ?_;exact⟨fY (by simp),jx (by rw[hb,dA]) H3 tR⟩
   ·refine fZ (by rw[ae c2];rfl) ?_;refine fZ Z ?_;exact⟨fY (by simp),jx (by unfold isT inside_;rw[ae c2];simp) H2 s2⟩
  ·refine gn (ae c1) ?_;refine⟨_,Z,?_⟩;refine fZ Z ?_;refine fZ Z ?_;exact⟨fY (by simp),jx (by unfold isT inside_;rw[ae c1];simp) H2 s2⟩
end
end FE
namespace L2
open PySem PySem.Spec PyProof.Rows
theorem X4{H:Hp}{d D:Addr}{u v o:HO}(n:D≠d)(h:H d=some u):fM (fM (fM H d v) D o) d u=fM H D o:=by
 funext b
 unfold fM
 by_cases h1:b=d
 ·rw[aw h1,am (by rw[h1];exact n.symm),h1,h]
 ·rw[am h1]
  by_cases h2:b=D
  ·rw[aw h2,aw h2]
  ·rw[am h2,am h2,am h1]
abbrev Y3(K:PySem.W.Frag):V->List V->Hp->VK->Prop:=fun x xs H Q=>∃(a:Addr) (ns:List Int) (k:Int),x=.ref a/\xs=[.int k]/\fR K H a (ns.map V.int)/\Q (.int (ns.count k:Nat)) H
end L2
namespace FE
open PySem PySem.Spec PyProof.Rows L2
open Vbkdaa (Book inside_ State stepNumbers decode Ear nat nats ahead behind depth rate high low delayOf gapOf fates Front isT from_ frameNow encoded flag Done)
theorem Oi:∀(fs:List (Nat×Bool×List Nat)) (ts:List Addr) (j:Nat) (x:Nat×Bool×List Nat) (a:Addr),(fs.map (·.1)).Nodup->fs[j]? =some x->ts[j]? =some a->i5 (List.zipWith (fun(x:Nat×Bool×List Nat) (a:Addr)=>((Sum.inl (x.1:Int):L2.Key),V.ref a)) fs ts) (Sum.inl (x.1:Int))=some (V.ref a)
 |[],_,j,x,a,_,h,_=>by simp at h
 |y::fs,[],j,x,a,_,_,h=>by simp at h
 |y::fs,b::ts,0,x,a,_,h1,h2=>by
  simp at h1 h2;rw[cP,vM (by rw[h1]),h2]
 |y::fs,b::ts,j+1,x,a,hn,h1,h2=>by
  rw[dB] at h1 h2;rw[aB,bj] at hn;rw[cP,uq (fun z=>hn.1 (bi.mpr ⟨x,aS h1,by have:=Sum.inl.inj z;show x.1=y.1;omega⟩))];exact Oi fs ts j x a hn.2 h1 h2
theorem Mx{b:Book}{m:RS}{f:Front}(r:j7 b m f):(m.frames.map (·.1)).Nodup:=by
 rw[r.key];exact List.Nodup.sublist List.filter_sublist List.nodup_range
theorem VH{fs:List (Nat×Bool×List Nat)}(h:(fs.map (·.1)).Nodup){x y:Nat×Bool×List Nat}(hx:x∈fs)(hy:y∈fs)(e:x.1=y.1):x=y:=by
 induction fs with
 |nil=>cases hx
 |cons z r ih=>
  rw[aB,bj] at h;rcases az.mp hx with rfl|QR
  ·rcases az.mp hy with rfl|rL
   ·rfl
   ·exact absurd (show _∈r.map (·.1) from bi.mpr ⟨y,rL,e.symm⟩) h.1
  ·rcases az.mp hy with rfl|rL
   ·exact absurd (show _∈r.map (·.1) from bi.mpr ⟨x,QR,e⟩) h.1
   ·exact ih h.2 QR rL
theorem WU{b:Book}{m:RS}{f:Front}(r:j7 b m f){x:Nat×Bool×List Nat}(hx:x∈m.frames):f.made.contains (x.1,true)=x.2.1:=by
 rw[r.vg];cases e:x.2.1 with
 |true=>exact fu.mpr (bi.mpr ⟨x,hx,by rw[e]⟩)
 |false=>
  rw[Bool.eq_false_iff];intro z;obtain⟨y,hy,e2⟩:=bi.mp (fu.mp z);have h1:y.1=x.1:=congrArg (fun p:Nat×Bool=>p.1) e2;have h2:y.2.1=true:=congrArg (fun p:Nat×Bool=>p.2) e2;have:=VH (Mx r) hy hx h1;rw[this,e] at h2;cases h2
theorem AZ{b:Book}{m:RS}{f:Front}(r:j7 b m f){t:Nat}(ht:t<f.done.length):∃d,f.done[f.done.length-1-t]? =some d/\m.fates[t]? =some d.fate:=by
 have h:f.done.length-1-t<f.done.length:=by omega
 refine⟨f.done[f.done.length-1-t],ak h,?_⟩;rw[r.iW,b8 (by rw[ac];exact ht),au,ac,ak h];rfl
theorem LX{α:Type}(p:α->Bool):∀l:List α,(l.filter p).length+(l.filter fun x=> !p x).length=l.length
 |[]=>rfl
 |x::l=>by
  have ih:=LX p l;rw[cS,cS,aj];cases p x<;>simp<;>omega
theorem Y4{b:Book}{m:RS}{f:Front}(r:j7 b m f):m.frames.length<=fates f 1:=by
 have e1:m.frames.length=((List.range (f.done.length-ahead b)).filter fun t=>m.fates.getD t 0==1).length:=by rw[<-r.key,ac]
 have e2:fates f 1=((List.range m.fates.length).filter fun t=>m.fates.getD t 0==1).length:=by
  rw[<-t9 r 1]
  have e3:m.fates=(List.range m.fates.length).map fun t=>m.fates.getD t 0:=by
   apply List.ext_getElem
   ·simp
   ·intro i h1 h2;simp[ak h1]
  have e4:(m.fates.map Int.ofNat).count ((1:Nat):Int)=m.fates.countP fun x=>x==1:=by
   rw[dZ,dJ]
   congr 1
   funext x
   show(Int.ofNat x==((1:Nat):Int))=(x==1);rw[bK,ck,ck];exact⟨fun z=>Int.ofNat.inj z,fun z=>by rw[z];rfl⟩
  rw[e4]
  conv=>lhs;rw[e3]
  rw[dJ,bI];rfl
 rw[e1,e2,<-r.oU];have hs:(List.range (m.fates.length-ahead b)).Sublist (List.range m.fates.length):=List.range_sublist.mpr (by omega);exact(hs.filter _).length_le
section
variable {st:State} {m:RS} (r:j7 st.book m st.front) (t:Nat)
include r
theorem WV(h:st.front.done.length<=t):Vbkdaa.does st (.frame t)=.error (-5):=by
 show(match (if t<st.front.done.length then some (from_ st.front t) else none) with|none=>_|some l=>_)=_;rw[am (by omega)]
theorem WW{k:Nat}(h:t<st.front.done.length)(hk:m.fates[t]? =some k)(h1:k≠1):Vbkdaa.does st (.frame t)=.error (-7):=by
 obtain⟨d,hd,hf⟩:=AZ r h;have e:d.fate=k:=af (hf.symm.trans hk);show(match (if t<st.front.done.length then some (from_ st.front t) else none) with|none=>_|some l=>_)=_;rw[aw h];show(if ((from_ st.front t).head?.map fun d=>d.fate)≠some 1 then _ else _)=_;rw[aw];unfold from_;rw[cJ,hd];intro z;exact h1 (by rw[<-e];exact af z)
theorem VI(h:t<st.front.done.length)(hk:m.fates[t]? =some 1)(h1:st.front.done.length<=t+ahead st.book):Vbkdaa.does st (.frame t)=.error (-8):=by
 obtain⟨d,hd,hf⟩:=AZ r h;have e:d.fate=1:=af (hf.symm.trans hk);show(match (if t<st.front.done.length then some (from_ st.front t) else none) with|none=>_|some l=>_)=_;rw[aw h];show(if ((from_ st.front t).head?.map fun d=>d.fate)≠some 1 then _ else _)=_;rw[am,aw h1];unfold from_;rw[cJ,hd];intro z;exact z (by rw[<-e];rfl)
theorem U5(h:t<st.front.done.length)(hk:m.fates[t]? =some 1)(h1:t+ahead st.book<st.front.done.length):∃x∈m.frames,x.1=t/\Vbkdaa.does st (.frame t)=.ok (st,flag x.2.1::x.2.2.map nat):=by
 obtain⟨d,hd,hf⟩:=AZ r h;have e:d.fate=1:=af (hf.symm.trans hk)
 have hm:t∈m.frames.map (·.1):=by
  rw[r.key,eJ,dX];refine⟨by omega,?_⟩;rw[aE,hk];rfl
 obtain⟨x,hx,ex⟩:=bi.mp hm;refine⟨x,hx,ex,?_⟩;show(match (if t<st.front.done.length then some (from_ st.front t) else none) with|none=>_|some l=>_)=_;rw[aw h];show(if ((from_ st.front t).head?.map fun d=>d.fate)≠some 1 then _ else _)=_;rw[am (by unfold from_;rw[cJ,hd];intro z;exact z (by rw[<-e];rfl)),am (by omega)];have hl:(from_ st.front (t+ahead st.book)).length=t+ahead st.book+1:=by unfold from_;rw[aW];omega
 have hg:(from_ st.front (t+ahead st.book))[ahead st.book]? =some d:=by
  unfold from_;rw[cU,show st.front.done.length-1-(t+ahead st.book)+ahead st.book=st.front.done.length-1-t by omega];exact hd
 have en:=Ld (b:=st.book) (from_ st.front (t+ahead st.book)) d hg (r.len d (aS hd)).1;rw[aw e,hl,show t+ahead st.book+1-1-ahead st.book=t by omega] at en;rw[en];show Except.ok (st,flag (st.front.made.contains (t,true))::(encoded ⟨t% 4096,_⟩).map nat)=_
 have ef:x.2.2=mC st.book ((from_ st.front (t+ahead st.book)).map (·.high)).reverse ((from_ st.front (t+ahead st.book)).map (·.samples)).reverse t:=by
  rw[r.jG x hx,ex]
  have e1:m.highs=((from_ st.front (t+ahead st.book)).map (·.high)).reverse++((st.front.done.take (st.front.done.length-1-(t+ahead st.book))).map (·.high)).reverse:=by
   rw[r.i0,<-fF,<-ao];unfold from_;rw[bP]
  have e2:m.samples=((from_ st.front (t+ahead st.book)).map (·.samples)).reverse++((st.front.done.take (st.front.done.length-1-(t+ahead st.book))).map (·.samples)).reverse:=by
   rw[r.jQ,<-fF,<-ao];unfold from_;rw[bP]
  rw[e1,e2,LI]
  ·rw[cv,ac,hl];omega
  ·rw[cv,ac,hl];omega
 rw[<-WU r hx,ex,ef];rfl
end
section
variable {P:Program} {w:World} {K:PySem.W.Frag} {mg:Str->Option Value} {base:Heap} {AA:gu}
theorem TD:gP ["front","numbers","row","crossing","readout","frame"] ["front","numbers","row"] (gL (fX 110)):=gX (by decide+kernel)
theorem TF(T:Tx P w K mg AA):gK P w K mg base gT 2 AA.D0 AA.Kx ["front","numbers","row"] (kD AA 9 false 1):=by
 have qT:=xE (base:=base) T;have xK:=Dl (base:=base) T;have SC:=TD;refine T.EN.fn.ok SC (fun vs H Q E h=> ?_) (fun gy A outer s H vs Q E hr h=> ?_)
 ·obtain⟨F,st,m,c,an,ar,ns,row,rfl,_⟩:=h;rfl
 ·obtain⟨F,st,m,c,an,ar,ns,row,rfl,hE,hc,hn,i6,lx,jW,hk,jU,hq⟩:=h;have hu:=wg hr;obtain⟨k,rfl⟩:=cO.mp hk
  refine⟨_,(fS (gj (i:=3) SC.nd Z (Or.inl Z) (hV jb (pv 1) fW (fun _ _=>rfl)))
   (fS (gj (i:=4) SC.nd Z (Or.inl Z) (gc (pv 0) Z))
   (fS (gY (k9 (ql ju ju fW (pv 3) (gz Z T.JJ)))
     (fV (gC (gI (fN (gz Z T.pF) fP))))
     ia)
   (fS (gY (io we (pv 3) (l9 (pv 4) T.gH T.xI qT (hr.mono (by decide)) T.xF .nil gG) (ii _))
     (fV (gC (gI (fN (gz Z T.FD) fP))))
     ia)
   (fS (gY (io rc (hV jb (gc (pv 4) Z) (pv 3) (fun _ _=>rfl)) (gz Z T.sI) (ii _))
     (fV (gC (gI (fN (gz Z T.Wl) fP))))
     ia)
   (fS (gY (io we (pv 3) (l9 (pv 4) T.gH T.DT xK (hr.mono (by decide)) T.DH .nil gG) (ii _))
     (fV (gC (gI (fN (gz Z T.Wm) fP))))
     ia)
   (fS (gj (i:=5) SC.nd Z (Or.inl Z) (Nv hu (gc (pv 4) Z) (pv 3) (fun _ _=>rfl)))
   (fV (gC (gA j2 (gI (fN fW (fN (hV jH (pv 5) fW (fun _ _=>rfl)) fP))) (hV jH (pv 5) fW (fun _ _=>rfl)))))))))))),?_⟩
  refine⟨_,Z,an,_,_,_,Z,Z,fR.of hn,ir (j:=0) Z Z,?_⟩;refine⟨_,Z,F.f,_,F.dx,_,_,Z,hE.ins,T.j9,T.lz,Z,?_⟩;have rel:=hE.gd.rel;have hR:=hE.rd;have jx:inside_ k 0 4095=false->∀q,H q=none->Q (.ref q) (fM H q (.lst [V.int (-1)])):=fun h q n=>iQ hE (call:=iE 9 false [k] row) (oA (show decode [[9,k]]=none from oH h)) hq _ q (fQ.new n) fO n
  refine⟨_,Z,_,_,Z,Z,_,Z,?_⟩
  by_cases c1:0<=k
  ·refine fZ (ai c1) ?_;refine⟨_,_,Z,Z,_,Z,?_⟩
   by_cases c2:k<=4095
   ·refine gn (by rw[ai c2];rfl) ?_;obtain⟨t,rfl⟩:=bB c1;have ed:decode (iE 9 false [(t:Int)] row)=some (.frame (t:Int).toNat):=oG (by unfold isT inside_;rw[ai c1,ai c2];rfl);rw[a7] at ed;refine⟨_,Z,_,Z,F.R.r,F.R.dx,_,Z,hR.ins,Z,F.R,st.book,m,Z,hR,hE.iC,_,_,Z,Z,_,Z,?_⟩;have lB:=rel.oW;have lF:=rel.oU;have lH:=rel.sQ
    by_cases c3:t<st.front.done.length
    ·refine gn (ae (by omega)) ?_;obtain⟨d,hd,hf⟩:=AZ rel c3;refine⟨_,Z,F.R.r,_,F.R.dx,_,_,Z,hR.ins,T.gH,T.qi,Z,_,Z,F.R.lf,_,_,_,Z,Z,fR.of hR.iW,ir (j:=t) Z (by rw[au,hf];rfl),Z,_,Z,?_⟩
     by_cases c4:d.fate=1
     ·refine gn (by rw[c4];rfl) ?_;rw[c4] at hf;refine⟨_,Z,_,Z,F.R.r,F.R.dx,_,Z,hR.ins,Z,F.R,st.book,m,Z,hR,hE.iC,_,_,Z,Z,_,Z,?_⟩;unfold li
      by_cases c5:t+ahead st.book<st.front.done.length
      ·refine gn (ae (by omega)) ?_;obtain⟨x,hx,ex,er⟩:=U5 rel t c3 hf c5;have hq:=iQ hE ((ja ed).trans (kR er)) hq;obtain⟨j,hj,exj⟩:=fE hx;have Jd:m.frames[j]? =some x:=by rw[ak hj,exj]
       have fl:F.R.gO.length=m.frames.length:=hR.gO.1;have ft:F.R.gZ.length=m.frames.length:=by rw[hR.gZ.1,cK];omega
       have h1:F.R.gZ[j]? =some F.R.gZ[j]:=ak (by omega);have h2:F.R.gO[j]? =some F.R.gO[j]:=ak (by omega);generalize F.R.gZ[j]=a at h1;generalize F.R.gO[j]=p at h2;have ga:=hR.gZ.2 j a (x,p) h1 (by rw[eA];exact⟨Jd,h2⟩);have gp:=hR.gO.2 j p x h2 Jd;have hv:=Oi m.frames F.R.gZ j x a (Mx rel) Jd h1;rw[ex] at hv
       have hg:lK H F.R.ld (V.int (t:Int)) (some (V.ref a)):=by
        have:=lK.k (k:=Sum.inl (t:Int)) hR.jG;rw[hv] at this;exact this
       refine⟨_,Z,F.R.r,_,F.R.dx,_,_,Z,hR.ins,T.gH,T.vD,Z,_,Z,F.R.ld,_,Z,hg,?_⟩
       have yl:x.2.2.length<=50:=by
        rw[rel.jG x hx];obtain⟨k1,k2⟩:=E4 hE.iC hR.set.iC x.1 (by rw[ex,rel.wD];exact c3);exact AX _ _ k1 k2
       refine⟨_,Z,a,_,_,_,Z,Z,iN.of ga,ir (j:=0) Z Z,fY (by simp),fun q1 n1=> ?_⟩;have s1:∀o,fQ H (fM H q1 o):=fun o=>fQ.new n1
       refine⟨_,Z,a,_,_,_,Z,Z,iN.of (s1 _ _ _ ga),ir (j:=1) Z Z,?_⟩;refine⟨q1,p,_,_,Z,Z,fO,s1 _ _ _ gp,fY (by simp;omega),fun q2 n2=> ?_⟩;refine hq _ q2 ((s1 _).more n2) ?_ ((s1 _).free n2);rw[fO,x8];cases x.2.1<;>rfl
      ·refine fZ (ai (by omega)) ?_;have hq:=iQ hE ((ja ed).trans (nQ (VI rel t c3 hf (by omega)))) hq;exact⟨fY (by simp),fun q n=>hq _ q (fQ.new n) fO n⟩
     ·refine fZ (by rw[cG];exact ae (fun z=>c4 (uE.mp z))) ?_;have hq:=iQ hE ((ja ed).trans (nQ (WW rel t c3 hf c4))) hq;exact⟨fY (by simp),fun q n=>hq _ q (fQ.new n) fO n⟩
    ·refine fZ (ai (by omega)) ?_;have hq:=iQ hE ((ja ed).trans (nQ (WV rel t (by omega)))) hq;exact⟨fY (by simp),fun q n=>hq _ q (fQ.new n) fO n⟩
   ·refine fZ (by rw[ae c2];rfl) ?_;exact⟨fY (by simp),jx (by unfold inside_;rw[ae c2];simp)⟩
  ·refine gn (ae c1) ?_;refine⟨_,Z,?_⟩;refine fZ Z ?_;exact⟨fY (by simp),jx (by unfold inside_;rw[ae c1];simp)⟩
theorem S2:gP ["front","numbers","row","readout","fates","made","frame","went_in","answer","fate"] ["front","numbers","row"] (gL (fX 109)):=gX (by decide+kernel)
theorem S3(T:Tx P w K mg AA):gK P w K mg base gT 2 AA.DN AA.Kf ["front","numbers","row"] (kD AA 8 false 0):=by
 have qT:=xE (base:=base) T;have pE:=xG (base:=base) T;have SC:=S2;refine T.Eo.fn.ok SC (fun vs H Q E h=> ?_) (fun gy A outer s H vs Q E hr h=> ?_)
 ·obtain⟨F,st,m,c,an,ar,ns,row,rfl,_⟩:=h;rfl
 ·obtain⟨F,st,m,c,an,ar,ns,row,rfl,hE,hc,hn,i6,lx,jW,hk,jU,hq⟩:=h;obtain rfl:=aM.mp hk;have hq:=iQ hE (call:=iE 8 false [] row) ((ja Z).trans (kR Z)) hq
  refine⟨_,(fS (gj (i:=3) SC.nd Z (Or.inl Z) (gc (pv 0) Z))
   (fS (gj (i:=4) SC.nd Z (Or.inr Z) (gc (pv 3) Z))
   (fS (gj (i:=5) SC.nd Z (Or.inl Z) (gU V8 (by rfl) T.len aF (fN (gc (pv 3) Z) fP)))
   (fS (gj (i:=7) SC.nd Z (Or.inl Z) (gU iL (by rfl) T.len aF (fN (Yg (mf (own:=[("frame",6)]) Z SC.nd (V5 (show PE _ _ (yu K _ _) from gc (pv 3) Z)) (lC (by kernel_rfl)) (fun s H C cl fp=>(iI (i:=6) SC.nd Z (Or.inl Z) (.inr Z))) (fun s H C cl fp=>(Np (io nj (hV (r:=wy K) jH (pv 6) fW (fun _ _=>rfl)) (gz Z T.NH) (ii _)))) (fun s H C cl fp=>(pv 6)))) fP)))
   (fS (gj (i:=8) SC.nd Z (Or.inl Z) (gI (fN fW (fN (l9 (pv 3) T.gH T.xI qT (hr.mono (by decide)) T.xF .nil gG) fP))))
   (fS (iR (iT ax a0 a5 m6 (pv 8) (fN (mf (own:=[("fate",9)]) Z SC.nd (GG (vW (fN (gz Z T.FC) (fN (gz Z T.sI) (fN (gz Z T.Lb) (fN (gz Z T.KF) fP)))))) (lC (by kernel_rfl)) (fun s H C cl fp=>(iI (i:=9) SC.nd Z (Or.inl Z) (.inr Z))) (fun s H C cl fp=>md) (fun s H C cl fp=>(show PE _ _ (u7 K "list" (Y3 K) _ _) from iT ax cH cE xZ (pv 4) (fN (pv 9) fP)))) fP)))
   (fS (iR (iT ax a0 a5 m6 (pv 8) (fN (gI (fN (pv 7) (fN (gA jK (pv 5) (pv 7)) (fN (gA jK (iT ax cH cE xZ (pv 4) (fN (gz Z T.sI) fP)) (pv 5)) fP)))) fP)))
   (fS (iR (iT ax a0 a5 m6 (pv 8) (fN (gI (fN (gc (pv 3) Z) (fN (l9 (pv 3) T.gH T.t4 pE (hr.mono (by decide)) T.tX .nil gG) (fN (gc (pv 3) Z) fP)))) fP)))
   (fV (gC (pv 8))))))))))),?_⟩
  have rel:=hE.gd.rel;have hR:=hE.rd;have hF:=hE.iC;have fl:F.R.gO.length=m.frames.length:=hR.gO.1;have ft:F.R.gZ.length=m.frames.length:=by rw[hR.gZ.1,cK];omega
  refine⟨_,Z,F.f,_,F.dx,_,_,Z,hE.ins,T.j9,T.lz,Z,?_⟩;refine⟨_,Z,F.R.r,_,F.R.dx,_,_,Z,hR.ins,T.gH,T.qi,Z,?_⟩;refine⟨_,Z,F.R.r,_,F.R.dx,_,_,Z,hR.ins,T.gH,T.vD,Z,F.R.ld,_,Z,hR.jG,?_⟩;rw[fG,ft,Nat.min_self];refine⟨F.R.ld,_,hR.jG,trivial,fun od=> ?_⟩;generalize Je:List.zipWith (fun(x:Nat×Bool×List Nat) (a:Addr)=>((Sum.inl (x.1:Int):L2.Key),V.ref a)) m.frames F.R.gZ=kvs;have hn:=hR.nd;unfold gM.mut at hn;have n1:F.R.r≠F.R.ld:=by intro z;rw[z] at hn;simp at hn
  have i1:(fM H F.R.ld (.jP od (.dK kvs))) F.R.r=_:=(fT n1).trans hR.ins;refine⟨_,Z,F.R.r,_,F.R.dx,_,_,Z,i1,T.gH,T.vD,Z,F.R.ld,od,kvs,Z,fO,fun D hD=> ?_⟩
  have g0:∀(j:Nat) (k:L2.Key) (x:V),kvs[j]? =some (k,x)->∃(a p:Addr) (y:Nat×Bool×List Nat),x=V.ref a/\m.frames[j]? =some y/\H a=some (Iq (y,p)):=by
   intro j k x hx;rw[<-Je,List.getElem?_zipWith] at hx;cases h1:m.frames[j]? with
   |none=>rw[h1] at hx;cases hx
   |some y=>
    cases h2:F.R.gZ[j]? with
    |none=>rw[h1,h2] at hx;cases hx
    |some a=>
     rw[h1,h2] at hx;have hj:=(ap.mp h1).1;have h3:F.R.gO[j]? =some F.R.gO[j]:=ak (by omega);exact⟨a,F.R.gO[j],y,(congrArg Prod.snd (af hx)).symm,Z,hR.gZ.2 j a (y,F.R.gO[j]) h2 (by rw[eA];exact⟨h1,h3⟩)⟩
  have kl:kvs.length=m.frames.length:=by rw[<-Je,fG,ft,Nat.min_self]
  have lfr:=hF.fr;have gk:H F.R.ld=some (.dK kvs):=by rw[<-Je];exact hR.jG
  have dD:D≠F.R.ld:=fun z=>by rw[z,fO] at hD;cases hD
  have QS:H D=none:=by rw[fT dD] at hD;exact hD
  refine Y0 (d:=F.R.ld) (o:=od) (kvs:=kvs) (fun j H'=>∃acc,H'=fM (fM H F.R.ld (.jP od (.dK kvs))) D (.lst acc)/\acc.length=((m.frames.take j).filter fun x=>x.2.1).length) ⟨[],Z,Z⟩ (fun j H' _ ⟨acc,e,_⟩=>by rw[e,fT dD.symm];exact fO) ?_ ?_
  ·rintro j k x H' hx ⟨acc,rfl,ha⟩;obtain⟨a,p,y,rfl,hy,ga⟩:=g0 j k x hx;have hj:=(ap.mp hy).1
   have ga2:(fM (fM H F.R.ld (.jP od (.dK kvs))) D (.lst acc)) a=some (Iq (y,p)):=by
    rw[fT (gf ga QS),fT (pL ga gk (by intro z;cases z))];exact ga
   have al:acc.length<=m.frames.length:=by
    rw[ha];exact a8 (cy _ _) (by rw[aD];omega)
   have nx:∀Jf:List V,Jf.length=acc.length+(if y.2.1=true then 1 else 0)->Jf.length=((m.frames.take (j+1)).filter fun x=>x.2.1).length:=by
    intro Jf h;rw[h,ha,bC,hy,List.filter_append,ag]
    congr 1
    show _=([y].filter fun x=>x.2.1).length;rw[cS,List.filter_nil]
    by_cases hb:y.2.1=true
    ·rw[aw hb,aw hb];rfl
    ·rw[am hb,am hb];rfl
   refine⟨Z,?_⟩;refine⟨_,Z,a,_,_,_,Z,Z,iN.of ga2,ir (j:=0) Z Z,Z,_,Z,?_⟩;cases hb:y.2.1 with
   |true=>
    refine fZ (by rfl) ?_;exact⟨_,Z,_,fO,iU (by omega),_,jn,nx _ (by rw[hb,ag];rfl)⟩
   |false=>
    refine gn (by rfl) ?_;exact⟨_,Z,nx _ (by rw[hb];rfl)⟩
  ·rintro H' ⟨acc,rfl,ha⟩;rw[kl,aT] at ha;refine⟨by rw[fT dD.symm];exact fO,?_⟩;rw[X4 dD gk];refine⟨D,acc,Z,.inl (fR.of fO),?_⟩;have s1:fQ H (fM H D (.lst acc)):=fQ.new QS;rw[ha];generalize Jg:(m.frames.filter fun x=>x.2.1).length=wn at ha;show jR _ _ _ _ (fM H D (.lst acc));generalize fM H D (.lst acc)=H1 at s1;have iJ:=hR.same s1;refine⟨_,Z,F.R.r,F.R.dx,_,Z,iJ.ins,Z,F.R,st.book,m,Z,iJ,hF,fY (by simp),fun q2 n2=> ?_⟩;have f2:H q2=none:=s1.free n2;have s2:=s1.more (o:=.lst [V.int 0,V.int m.gB.length]) n2;have g2:(fM H1 q2 (.lst [V.int 0,V.int m.gB.length])) q2=some (.lst [V.int 0,V.int m.gB.length]):=fO;generalize fM H1 q2 (.lst [V.int 0,V.int m.gB.length])=H2 at s2 g2;refine⟨_,Z,.inl ⟨Z,_,fR.of g2⟩,fY (by simp),fun q3 n3=> ?_⟩;have s3:=s2.more (o:=.tup [V.int 0,V.int 1,V.int 2,V.int 3]) n3;have qf:(fM H2 q3 (.tup [V.int 0,V.int 1,V.int 2,V.int 3])) q2=_:=(fT (gf g2 n3)).trans g2;have CC:(fM H2 q3 (.tup [V.int 0,V.int 1,V.int 2,V.int 3])) q3=some (.tup (([0,1,2,3]:List Nat).map nV)):=fO;generalize fM H2 q3 (.tup [V.int 0,V.int 1,V.int 2,V.int 3])=H3 at s3 qf CC;refine⟨q3,Z,⟨_,iN.of CC⟩,fun D2 CD=> ?_⟩;have wI:H F.R.lf=some (.lst ((m.fates.map Int.ofNat).map V.int)):=by rw[hR.iW,bE];rfl
   refine Zq (K:=K) (a:=q3) (xs:=([0,1,2,3]:List Nat).map nV) (fun j H'=>H'=fM H3 D2 (.lst ((([0,1,2,3]:List Nat).take j).map fun k=>nV (fates st.front k)))) Z (fun j H' _ e=>by rw[e];exact iN.of (by rw[fT (gf CC CD)];exact CC)) ?_ ?_
   ·rintro j x H' hx rfl;obtain⟨k,Jb,rfl⟩:=kF hx;refine⟨Z,?_⟩;have QT:(fM H3 D2 (.lst ((([0,1,2,3]:List Nat).take j).map fun k=>nV (fates st.front k)))) F.R.lf=some (.lst ((m.fates.map Int.ofNat).map V.int)):=by rw[fT (gf (s3 _ _ wI) CD)];exact s3 _ _ wI
    refine⟨_,Z,.inl ⟨Z,_,fR.of QT⟩,_,Z,F.R.lf,m.fates.map Int.ofNat,(k:Int),Z,Z,fR.of QT,_,fO,iU (by simp;omega),?_⟩;rw[jn,take_snoc Jb,ao,t9 rel k];rfl
   ·rintro H' rfl;refine⟨q2,D2,_,_,Z,Z,(by rw[fT (gf qf CD)];exact qf),fO,fY (by simp),?_⟩;have s4:=(s3.more (o:=.lst ((([0,1,2,3]:List Nat).take 4).map fun k=>nV (fates st.front k))) CD).put (o:=.lst ([V.int 0,V.int m.gB.length]++[nV (fates st.front 0),nV (fates st.front 1),nV (fates st.front 2),nV (fates st.front 3)])) f2;show jR _ _ _ _ (fM (fM H3 D2 (.lst ((([0,1,2,3]:List Nat).take 4).map fun k=>nV (fates st.front k)))) q2 (.lst ([V.int 0,V.int m.gB.length]++[nV (fates st.front 0),nV (fates st.front 1),nV (fates st.front 2),nV (fates st.front 3)])));have g4:(fM (fM H3 D2 (.lst ((([0,1,2,3]:List Nat).take 4).map fun k=>nV (fates st.front k)))) q2 (.lst ([V.int 0,V.int m.gB.length]++[nV (fates st.front 0),nV (fates st.front 1),nV (fates st.front 2),nV (fates st.front 3)]))) q2=_:=fO;generalize fM (fM H3 D2 (.lst ((([0,1,2,3]:List Nat).take 4).map fun k=>nV (fates st.front k)))) q2 (.lst ([V.int 0,V.int m.gB.length]++[nV (fates st.front 0),nV (fates st.front 1),nV (fates st.front 2),nV (fates st.front 3)]))=H4 at s4 g4;have QU:=s4 _ _ wI;refine⟨_,Z,.inl ⟨Z,_,fR.of g4⟩,_,Z,_,Z,_,Z,_,_,Z,Z,_,Z,.inl ⟨Z,_,fR.of QU⟩,F.R.lf,m.fates.map Int.ofNat,1,Z,Z,fR.of QU,_,Z,_,_,Z,Z,fY (by simp),fun q5 n5=> ?_⟩;have mk0:=Y4 rel;have wl:wn<=m.frames.length:=by rw[<-Jg];exact cy _ _
    have e5:([V.int (wn:Int),V.int ((m.frames.length:Int)-(wn:Int)),V.int (((m.fates.map Int.ofNat).count 1:Int)-(m.frames.length:Int))]:List V)=[nV wn,nV (m.frames.length-wn),nV (fates st.front 1-m.frames.length)]:=by
     rw[show(1:Int)=((1:Nat):Int) from Z,t9 rel 1];show _=[V.int _,V.int _,V.int _];rw[Int.ofNat_sub wl,Int.ofNat_sub mk0]
    rw[e5];have d25:=gf g4 n5;refine⟨q2,q5,_,_,Z,Z,(by rw[fT d25];exact g4),fO,fY (by simp),?_⟩;have s5:=(s4.more (o:=.lst [nV wn,nV (m.frames.length-wn),nV (fates st.front 1-m.frames.length)]) n5).put (o:=.lst (([V.int 0,V.int m.gB.length]++[nV (fates st.front 0),nV (fates st.front 1),nV (fates st.front 2),nV (fates st.front 3)])++[nV wn,nV (m.frames.length-wn),nV (fates st.front 1-m.frames.length)])) f2;show jR _ _ _ _ (fM (fM H4 q5 (.lst [nV wn,nV (m.frames.length-wn),nV (fates st.front 1-m.frames.length)])) q2 (.lst (([V.int 0,V.int m.gB.length]++[nV (fates st.front 0),nV (fates st.front 1),nV (fates st.front 2),nV (fates st.front 3)])++[nV wn,nV (m.frames.length-wn),nV (fates st.front 1-m.frames.length)])));have g6:(fM (fM H4 q5 (.lst [nV wn,nV (m.frames.length-wn),nV (fates st.front 1-m.frames.length)])) q2 (.lst (([V.int 0,V.int m.gB.length]++[nV (fates st.front 0),nV (fates st.front 1),nV (fates st.front 2),nV (fates st.front 3)])++[nV wn,nV (m.frames.length-wn),nV (fates st.front 1-m.frames.length)]))) q2=_:=fO;generalize fM (fM H4 q5 (.lst [nV wn,nV (m.frames.length-wn),nV (fates st.front 1-m.frames.length)])) q2 (.lst (([V.int 0,V.int m.gB.length]++[nV (fates st.front 0),nV (fates st.front 1),nV (fates st.front 2),nV (fates st.front 3)])++[nV wn,nV (m.frames.length-wn),nV (fates st.front 1-m.frames.length)]))=H6 at s5 g6;have qd:=hR.same s5;refine⟨_,Z,.inl ⟨Z,_,fR.of g6⟩,_,Z,F.R.r,_,F.R.dx,_,_,Z,qd.ins,T.gH,T.xM,Z,_,Z,F.R.r,F.R.dx,_,Z,qd.ins,Z,F.R,st.book,m,Z,qd,hF,_,Z,F.R.r,_,F.R.dx,_,_,Z,qd.ins,T.gH,T.zN,Z,fY (by simp),fun q7 n7=> ?_⟩;have d27:=gf g6 n7;refine⟨q2,q7,_,_,Z,Z,(by rw[fT d27];exact g6),fO,fY (by simp),?_⟩;refine⟨_,Z,?_⟩;refine hq _ q2 ((s5.more n7).put f2) ?_ f2;rw[fO];have e1:(st.front.made.filter fun x=>x.2).length=wn:=by rw[rel.vg,<-bI,dJ,bI];exact Jg
    have e2:(st.front.made.filter fun x=> !x.2).length=m.frames.length-wn:=by
     rw[rel.vg,<-bI,dJ,<-Jg,bI];have:=LX (fun x:Nat×Bool×List Nat=>x.2.1) m.frames;show(m.frames.filter fun x=> !x.2.1).length=_;omega
    have e3:st.front.made.length=m.frames.length:=by rw[rel.vg,ac]
    have e4:st.front.wire.length=m.gone:=by rw[rel.Cg,aD];have:=rel.kj;omega
    rw[e1,e2,e3,e4,rel.wait,rel.Im,rel.oW];rfl
end
end FE
namespace FE
open PySem PySem.Spec PyProof.Rows L2
open Vbkdaa (Book inside_ State stepNumbers decode Ear nat nats guards yieldMost hearAll frameTold decoded samplesIn keptOf)
theorem N2(n:Nat)(e:Ear)(c:Nat):e.bad<=(Vbkdaa.hear n e c).1.bad/\∀f∈(Vbkdaa.hear n e c).2,f.samples.length<=n:=by
 unfold Vbkdaa.hear;split
 ·exact⟨cA _ _,fun f h=>by cases h⟩
 ·split
  ·exact⟨aA _,fun f h=>by cases h⟩
  ·split
   ·split
    ·rename_i f hd;refine⟨aA _,fun g hg=> ?_⟩;rw[aq.mp hg];unfold decoded at hd;split at hd
     ·cases hd
     ·split at hd
      ·cases hd
      ·simp only at hd;split at hd
       ·cases hd
       ·rw[<-af hd];show(samplesIn _ _ _).length<=n;rw[GC,aD];exact Nat.min_le_left _ _
    ·exact⟨Nat.le_succ _,fun f h=>by cases h⟩
   ·exact⟨aA _,fun f h=>by cases h⟩
theorem Oj(n:Nat):∀(e:Ear) (l:List Nat),e.bad<=(hearAll n e l).1.bad
 |e,[]=>aA _
 |e,c::r=>a8 (N2 n e c).1 (Oj n _ r)
theorem My(n:Nat):∀(e:Ear) (l:List Nat),∀f∈(hearAll n e l).2,f.samples.length<=n
 |e,[],f,h=>by cases h
 |e,c::r,f,h=>by
  rcases aG.mp (show f∈(Vbkdaa.hear n e c).2++(hearAll n (Vbkdaa.hear n e c).1 r).2 from h) with h|h
  ·exact(N2 n e c).2 f h
  ·exact My n _ r f h
section
variable {P:Program} {w:World} {K:PySem.W.Frag} {mg:Str->Option Value} {base:Heap} {AA:gu}
theorem S4:gP ["front","numbers","yields","settings"] ["front","numbers","yields"] (gL (fX 113)):=gX (by decide+kernel)
theorem S5(T:Tx P w K mg AA):gK P w K mg base gT 3 AA.DP AA.Kh ["front","numbers","yields"] (kD AA 12 true 0):=by
 have pH:=vH (base:=base) T;have t8:=zP (base:=base) T;have VJ:=UZ (base:=base) T;have SC:=S4;refine T.Er.fn.ok SC (fun vs H Q E h=> ?_) (fun gy A outer s H vs Q E hr h=> ?_)
 ·obtain⟨F,st,m,c,an,ar,ns,row,rfl,_⟩:=h;rfl
 ·obtain⟨F,st,m,c,an,ar,ns,row,rfl,hE,hc,hn,i6,lx,jW,hk,jU,hq⟩:=h;obtain rfl:=aM.mp hk
  refine⟨_,(fS (gY (k9 (lT (ic pH (hr.mono (by decide)) Z T.lD.mg T.lD.fn.kp T.lD.b .nil gG (fN (pv 2) (fN (gz Z T.UJ) (fN (gz Z T.SN) fP))))))
   (fV (gC (gI (fN (gz Z T.pF) fP))))
   ia)
   (fS (gj (i:=3) SC.nd Z (Or.inl Z) (gc (gc (pv 0) Z) Z))
   (fS (gY (io mQ (Gw Z Z T.max (fN (pv 2) fP) (yd fW yj)) (ic t8 (hr.mono (by decide)) Z T.nL.mg T.nL.fn.kp T.nL.b .nil gG (fN (gU iL (by rfl) T.len aF (fN (gc (pv 3) Z) fP)) fP)) (ii _))
     (fV (gC (gI (fN (gz Z T.SL) fP))))
     ia)
   (fV (gC (gA j2 (gI (fN fW fP)) (ic VJ (hr.mono (by decide)) Z T.AB.mg T.AB.fn.kp T.AB.b .nil gG (fN (pv 3) (fN (pv 2) fP))))))))),?_⟩
  refine⟨_,Z,ar,row,500,100,Z,fR.of i6,by omega,fun H1 s1=> ?_⟩;refine⟨_,Z,?_⟩;have kJ:=s1 _ _ i6;have iH:=hE.same s1
  by_cases hb:(decide (row.length<=500)&&row.all fun n=>inside_ n 0 100)=true
  ·refine gn (by rw[hb];rfl) ?_;have ed:decode (iE 12 true [] row)=some (.play row):=oG hb;rw[aH,aJ] at hb;refine⟨_,Z,F.f,_,F.dx,_,_,Z,iH.ins,T.j9,T.lz,Z,F.R.r,_,F.R.dx,_,_,Z,iH.rd.ins,T.gH,T.ly,Z,?_⟩;have pA:=iH.rd.set;have iC:=pA.iC;have kH:(F.R.S.cs.map V.ref).length=st.book.channels.length:=by rw[ac];exact pA.mv.1
   have zz:fR K H1 ar ((nats row).map nV):=by rw[<-uB hb.2];exact fR.of kJ
   refine⟨_,Z,ar,row,0,Z,Z,fR.of kJ,fun mx m1 m2=> ?_⟩;refine⟨_,Z,F.R.S.s,_,F.R.S.dx,_,_,Z,pA.ins,T.im,T.nJ,Z,F.R.S.lc,_,Z,.inl (fR.of pA.mr),st.book.channels.length,by rw[kH];rfl,by omega,_,_,Z,Z,_,Z,?_⟩
   have e:decide (mx>((yieldMost st.book.channels.length:Nat):Int))=(nats row).any fun y=>decide (yieldMost st.book.channels.length<y):=by
    rw[bK,aJ,List.any_eq_true]
    by_cases h0:row=[]
    ·rw[m1 h0,h0];constructor
     ·intro z;omega
     ·rintro⟨x,hx,_⟩;cases hx
    ·obtain⟨h1,h2⟩:=m2 h0;constructor
     ·intro z;exact⟨mx.toNat,bi.mpr ⟨mx,h1,Z⟩,ai (by omega)⟩
     ·rintro⟨x,hx,hl⟩;obtain⟨y,hy,rfl⟩:=bi.mp hx;have:=h2 y hy;have:=cF hl;omega
   cases ha:(nats row).any fun y=>decide (yieldMost st.book.channels.length<y) with
   |true=>
    refine fZ (e.trans ha) ?_;have hq:=iQ hE ((ja ed).trans (nQ (vJ ha))) hq;exact⟨fY (by simp),fun q n=>hq _ q (s1.more n) fO (s1.free n)⟩
   |false=>
    refine gn (e.trans ha) ?_;have hq:=iQ hE ((ja ed).trans (kR (vK ha))) hq;refine⟨fY (by simp),fun q2 n2=> ?_⟩;have s2:=s1.more (o:=.lst [V.int 0]) n2;have jl:=hE.same s2;refine⟨_,Z,_,Z,F.R.S,st.book,ar,nats row,Z,jl.rd.set,(fQ.new n2).seq zz,by rw[r9];omega,fun H3 p3 s3 f3 g3=> ?_⟩;refine⟨q2,p3,_,_,Z,Z,s3 _ _ fO,g3,fY (by simp),fun q4 n4=> ?_⟩;refine hq _ q4 ((s2.trans s3).more n4) ?_ ((s2.trans s3).free n4);rw[fO];rfl
  ·rw[bS] at hb;refine fZ (by rw[hb];rfl) ?_;have hq:=iQ hE (call:=iE 12 true [] row) (oA (show decode [[12],row]=none from oH hb)) hq;exact⟨fY (by simp),fun q n=>hq _ q (s1.more n) fO (s1.free n)⟩
theorem TH:gP ["front","numbers","octets","hearing","bad_before","frames","answer","frame"] ["front","numbers","octets"] (gL (fX 115)):=gX (by decide+kernel)
theorem TJ(T:Tx P w K mg AA):gK P w K mg base gT 7 AA.D5 AA.KA ["front","numbers","octets"] (kD AA 14 true 0):=by
 have S6:=Sw (base:=base) T;have pH:=vH (base:=base) T;have SA:=Se (base:=base) T;have SC:=TH;refine T.ER.fn.ok SC (fun vs H Q E h=> ?_) (fun gy A outer s H vs Q E hr h=> ?_)
 ·obtain⟨F,st,m,c,an,ar,ns,row,rfl,_⟩:=h;rfl
 ·obtain⟨F,st,m,c,an,ar,ns,row,rfl,hE,hc,hn,i6,lx,jW,hk,jU,hq⟩:=h;obtain rfl:=aM.mp hk
  refine⟨_,(fS (gY (k9 (lT (ic pH (hr.mono (by decide)) Z T.lD.mg T.lD.fn.kp T.lD.b .nil gG (fN (pv 2) (fN (gz Z T.SO) (fN (gz Z T.DU) fP))))))
   (fV (gC (gI (fN (gz Z T.pF) fP))))
   ia)
   (fS (gj (i:=3) SC.nd Z (Or.inl Z) (gc (pv 0) Z))
   (fS (gj (i:=4) SC.nd Z (Or.inl Z) (gc (pv 3) Z))
   (fS (gj (i:=5) SC.nd Z (Or.inl Z) (oE (pv 3) T.ka T.TY S6 (hr.mono (by decide)) T.Te .nil gG (fN (pv 2) fP)))
   (fS (gj (i:=6) SC.nd Z (Or.inl Z) (gI (fN fW (fN (gU iL (by rfl) T.len aF (fN (pv 5) fP)) fP))))
   (fS (lE bg Z (ma (pv 5)) (iI (i:=7) SC.nd Z (Or.inl Z))
     (fS (iR (iT ax aI aL kE (pv 6) (fN (hV jH (pv 7) fW (fun _ _=>rfl)) fP)))
     (fV (iR (iT ax a0 a5 m6 (pv 6) (fN (ic SA (hr.mono (by decide)) Z T.zL.mg T.zL.fn.kp T.zL.b .nil gG (fN (hV jH (pv 7) fW (fun _ _=>rfl)) fP)) fP))))))
   (fS (iR (iT ax aI aL kE (pv 6) (fN (gA jK (gc (pv 3) Z) (pv 4)) fP)))
   (fV (gC (pv 6)))))))))),?_⟩
  refine⟨_,Z,ar,row,400,255,Z,fR.of i6,by omega,fun H1 s1=> ?_⟩;refine⟨_,Z,?_⟩;have kJ:=s1 _ _ i6;have iH:=hE.same s1
  by_cases hb:(decide (row.length<=400)&&row.all fun n=>inside_ n 0 255)=true
  ·refine gn (by rw[hb];rfl) ?_;have ed:decode (iE 14 true [] row)=some (.feed row):=oG hb;rw[aH,aJ] at hb;have rS:stepNumbers st (iE 14 true [] row)=({st with ear:=(hearAll st.book.channels.length st.ear (nats row)).1},0::(nat (hearAll st.book.channels.length st.ear (nats row)).2.length::(hearAll st.book.channels.length st.ear (nats row)).2.flatMap frameTold++[nat ((hearAll st.book.channels.length st.ear (nats row)).1.bad-st.ear.bad)])):=(ja ed).trans (kR Z);rw[rS] at hq;rw[uB hb.2] at kJ;refine⟨_,Z,F.f,_,F.dx,_,_,Z,iH.ins,T.j9,T.xH,Z,?_⟩;have rR:=iH.ea;refine⟨_,Z,F.E.h,_,F.E.dx,_,_,Z,rR.ins,T.ka,T.vG,Z,?_⟩;have iC:=iH.rd.set.iC;have nl:(nats row).length<=400:=by rw[r9];exact hb.1
   have el:=hE.el;refine⟨_,Z,F.E.h,F.E.dx,_,Z,rR.ins,Z,_,Z,F.E,st.book.channels.length,st.ear,ar,nats row,Z,rR,kJ,fun z=>jW (by simp[iy.mut,z]),by omega,iC,fun H2 lb p2 ts qs o2 l8 xz qQ fp g2 jy tK=> ?_⟩;have ml:=Mr st.book.channels.length st.ear (nats row);have bd:=Oj st.book.channels.length st.ear (nats row);have fc:=My st.book.channels.length st.ear (nats row);generalize hearAll st.book.channels.length st.ear (nats row)=X at hq xz jy tK ml bd fc;have n0:=iH.nd;unfold iy.mut at n0;have tS:=bj.mp n0;have xA:=dh.mp tS.2
   have mZ:je AA H2 {F with E:={F.E with lb:=lb}} {st with ear:=X.1} m (c+1):={
    ins:=o2 _ _ iH.ins (fun z=>tS.1 (bn _ z))
    rd:=iH.rd.keep o2 (fun a ha z=>xA.2.2 a ha a z Z) (fun a ha z=>iH.sep a ha (by simp[iy.mut,z])) rR.rj
    gd:=hE.gd
    ea:=xz
    nd:=by
     show(F.f::(F.R.mut++(F.E.h::lb.toList))).Nodup
     have key:∀y∈lb.toList,y≠F.f/\y∉F.R.mut/\y≠F.E.h:=by
      intro y hy;have hy:lb=some y:=by simpa using hy
      refine⟨fun z=> ?_,fun z=> ?_,fun z=> ?_⟩
      ·rcases qQ y hy with h|h
       ·exact tS.1 (by rw[<-z];exact bn _ h)
       ·rw[z,iH.ins] at h;cases h
      ·rcases qQ y hy with h|h
       ·exact xA.2.2 y z y h Z
       ·have:=iH.rd.lL y z;rw[h] at this;cases this
      ·have lu:=xz.rQ;rw[hy] at lu;cases e2:X.1.inside with
       |none=>rw[e2] at lu;exact lu
       |some l=>rw[e2] at lu;exact lu.2 z
     refine bj.mpr ⟨fun z=> ?_,dh.mpr ⟨xA.1,?_,fun a ha b lu e=> ?_⟩⟩
     ·rcases aG.mp z with z|z
      ·exact tS.1 (dm _ z)
      ·rcases az.mp z with z|z
       ·exact tS.1 (by rw[z];exact bn _ (by simp[jO.mut]))
       ·exact(key _ z).1 rfl
     ·refine bj.mpr ⟨fun z=>(key _ z).2.2 rfl,?_⟩;cases lb<;>simp
     ·rcases az.mp lu with z|z
      ·exact xA.2.2 a ha F.E.h (by simp[jO.mut]) (by rw[e,z])
      ·exact(key b z).2.1 (by rw[<-e];exact ha)
    sep:=by
     intro a ha z;have xw:=iH.sep a ha;rcases az.mp z with z|z
     ·exact xw (by rw[z];simp[iy.mut])
     ·rcases aG.mp z with z|z
      ·exact xw (by simp[iy.mut,z])
      ·rcases az.mp z with z|z
       ·exact xw (by rw[z];simp[iy.mut,jO.mut])
       ·have hy:lb=some a:=by simpa using z
        rcases qQ a hy with h|h
        ·exact xw (by simp[iy.mut,h])
        ·have hd:(H1 a).isSome=true:=iH.rd.G9 a ha;rw[h] at hd;cases hd
    el:=by show(X.1.inside.getD []).length<=400*(c+1);omega}
   have tl:ts.length=X.2.length:=by rw[jy.t.1,cK,jy.q.1];omega
   refine⟨_,Z,p2,_,Z,.inl (fR.of g2),fY (by simp),fun q3 n3=> ?_⟩;rw[ac,tl];have s3:fQ H2 (fM H2 q3 (.lst [V.int 0,V.int (X.2.length:Int)])):=fQ.new n3
   have yF:∀i,((X.2.take i).flatMap frameTold).length<=18*X.2.length:=by
    intro i
    have h1:∀(l:List Vbkdaa.Frame),(∀f∈l,f.samples.length<=8)->(l.flatMap frameTold).length<=18*l.length:=by
     intro l
     induction l with
     |nil=>intro _;exact aA _
     |cons f r ih=>
      intro h;have hf:=h f (by simp);have ih:=ih fun g hg=>h g (by simp[hg])
      rw[br,ag,aj,N0,aj,aj,pairs_len];have:=cf (fun x:Option Nat=>x) f.samples;omega
    have:=h1 (X.2.take i) fun f hf=>a8 (fc f (List.mem_of_mem_take hf)) iC
    rw[aD] at this;omega
   refine⟨_,Z,p2,Z,⟨_,fR.of (s3 _ _ g2)⟩,qW (K:=K) (a:=p2) (xs:=ts.map V.ref) (fun i σ H'=>∃v7,σ=[some (.ref F.f),some (.ref an),some (.ref ar),some (.ref F.E.h),some (.int st.ear.bad),some (.ref p2),some (.ref q3),v7]/\fQ H2 H'/\H' q3=some (.lst ((0::nat X.2.length::(X.2.take i).flatMap frameTold).map V.int)))
    ⟨none,Z,s3,fO⟩ (fun i σ H' _ ⟨_,_,s,_⟩=>fR.of (s _ _ g2)) ?_ ?_⟩
   ·rintro i x σ H' hx ⟨v7,rfl,s4,g4⟩;obtain⟨t,ht,rfl⟩:=kF hx;have hi:i<X.2.length:=by rw[<-tl];exact(ap.mp ht).1
    have hf:X.2[i]? =some X.2[i]:=ak hi;generalize X.2[i]=f at hf;obtain⟨q,Jh⟩:∃q,qs[i]? =some q:=⟨_,ak (by rw[jy.q.1];exact hi)⟩;have gt:=s4 _ _ (jy.t.2 i t (f,q) ht (by rw[eA];exact⟨hf,Jh⟩));have gq:=s4 _ _ (jy.q.2 i q f Jh hf);have f8:f.samples.length<=8:=a8 (fc f (aS hf)) iC;have QV:=yF i;refine⟨_,Z,.inl ⟨Z,_,fR.of g4⟩,_,Z,t,_,_,_,Z,Z,iN.of gt,ir (j:=0) Z Z,q3,_,_,Z,Z,g4,iU (by simp only[ac,aj];omega),?_⟩;have s5:=s4.put (o:=.lst ((0::nat X.2.length::(X.2.take i).flatMap frameTold).map V.int++[nV f.crossing])) n3;have g5:(fM H' q3 (.lst ((0::nat X.2.length::(X.2.take i).flatMap frameTold).map V.int++[nV f.crossing]))) q3=_:=fO;have QW:(fM H' q3 (.lst ((0::nat X.2.length::(X.2.take i).flatMap frameTold).map V.int++[nV f.crossing]))) t=_:=(fT (pL gt g4 (by intro z;cases z))).trans gt;have QX:=s5 _ _ (jy.q.2 i q f Jh hf);generalize fM H' q3 (.lst ((0::nat X.2.length::(X.2.take i).flatMap frameTold).map V.int++[nV f.crossing]))=H5 at s5 g5 QW QX;refine⟨_,Z,.inl ⟨Z,_,fR.of g5⟩,_,Z,t,_,_,_,Z,Z,iN.of QW,ir (j:=1) Z Z,q,f.samples,Z,fR.of QX,f8,fun H6 p6 s6 f6 g6=> ?_⟩;have pl:=pairs_len f.samples;have pf:=cf (fun x:Option Nat=>x) f.samples;refine⟨q3,p6,_,_,Z,Z,s6 _ _ g5,g6,fY (by simp only[ac,aj,ag,aZ];omega),?_⟩;refine⟨_,Z,(s5.trans s6).put n3,?_⟩;rw[fO,take_snoc hf,bO,br,List.flatMap_nil,N0];simp only[ao,aB,a6,bM,List.nil_append,bc];rfl
   ·rintro σ H' ⟨v7,rfl,s4,g4⟩;rw[ac,tl,aT] at g4;have QV:=yF X.2.length;rw[aT] at QV;have hF4:=mZ.same s4;have CF:=hF4.ea;refine⟨_,Z,.inl ⟨Z,_,fR.of g4⟩,_,Z,F.E.h,_,F.E.dx,_,_,Z,CF.ins,T.ka,T.vG,Z,_,Z,_,_,Z,Z,q3,_,_,Z,Z,g4,iU (by simp only[ac,aj];omega),?_⟩;refine⟨_,Z,?_⟩;have s5:=s4.put (o:=.lst ((0::nat X.2.length::X.2.flatMap frameTold).map V.int++[V.int ((X.1.bad:Int)-(st.ear.bad:Int))])) n3;refine hq _ {F with E:={F.E with lb:=lb}} m q3 Z ?_ ?_ (mZ.same s5) ?_ (fun a ha=>.inl ha) ?_ ((s1.grow.trans l8) _ n3)
    ·exact((s1.own).trans (o2.mono (fun y hy=>by simp[iy.mut,hy]))).trans s5.own
    ·exact(s1.grow.trans l8).trans s5.grow
    ·intro a ha;rcases az.mp ha with rfl|ha
     ·exact .inl (by simp[iy.mut])
     ·rcases aG.mp ha with ha|ha
      ·exact .inl (by simp[iy.mut,ha])
      ·rcases az.mp ha with rfl|ha
       ·exact .inl (by simp[iy.mut,jO.mut])
       ·rcases qQ a (by simpa using ha) with h|h
        ·exact .inl (by simp[iy.mut,h])
        ·exact .inr (s1.free h)
    ·rw[fO];show some (HO.lst ((0::nat X.2.length::X.2.flatMap frameTold).map V.int++[V.int ((X.1.bad:Int)-(st.ear.bad:Int))]))=_;rw[<-Int.ofNat_sub bd];simp only[ao,aB,bM,cg];rfl
  ·rw[bS] at hb;refine fZ (by rw[hb];rfl) ?_;have hq:=iQ hE (call:=iE 14 true [] row) (oA (show decode [[14],row]=none from oH hb)) hq;exact⟨fY (by simp),fun q n=>hq _ q (s1.more n) fO (s1.free n)⟩
end
end FE
namespace FE
open PySem PySem.Spec PyProof.Rows L2
open Vbkdaa (Book inside_ State stepNumbers decode Ear nat nats guards Front Done isBit areSamples wrongSamples cross crossTimes flag fates CROSSINGS)
theorem je.yG{AA:gu}{H H':Hp}{F:iy}{s:State}{m m':RS}{c:Nat}{f':Front}{rs hs ts fs:List Addr}{ar:Addr}(h:je AA H F s m c)(jW:ar∉F.mut)(nr:∀x∈rs,x∈F.R.rows\/x=ar)(nh:j4 H F.R.gD hs)(nf:j4 H F.R.gO fs)(o:gE F.R.mut H H')
 (hR:ij AA H' {F.R with rows:=rs,gD:=hs,gZ:=ts,gO:=fs} s.book m') (g:Good s.book m' f'):
 je AA H' {F with R:={F.R with rows:=rs,gD:=hs,gZ:=ts,gO:=fs}} {s with front:=f'} m' (c+1)/\j0 H H'/\(∀a∈iy.deep {F with R:={F.R with rows:=rs,gD:=hs,gZ:=ts,gO:=fs}},a∈F.deep\/a=ar\/H a=none):=by
 have n0:=h.nd;unfold iy.mut at n0;have tS:=bj.mp n0;have xA:=dh.mp tS.2
 have dp:∀a∈iy.deep {F with R:={F.R with rows:=rs,gD:=hs,gZ:=ts,gO:=fs}},a∈F.deep\/a=ar\/H a=none:=by
  intro a ha;have ha:a∈rs++hs++fs++F.R.S.fp:=ha;simp only[aG] at ha;rcases ha with((ha|ha)|ha)|ha
  ·exact(nr a ha).imp (fun z=>by simp[iy.deep,z]) .inl
  ·exact(nh a ha).imp (fun z=>by simp[iy.deep,z]) .inr
  ·exact(nf a ha).imp (fun z=>by simp[iy.deep,z]) .inr
  ·exact .inl (by simp[iy.deep,ha])
 refine⟨{
  ins:=o _ _ h.ins (fun z=>tS.1 (dm _ z))
  rd:=hR
  gd:=g
  ea:=h.ea.keep o (fun a ha z=>xA.2.2 a z a ha Z)
  nd:=h.nd
  sep:= ?_
  el:=by have:=h.el;show(s.ear.inside.getD []).length<=400*(c+1);omega},?_,dp⟩
 ·intro a ha z;have z:a∈F.mut:=z;rcases dp a ha with h1|h1|h1
  ·exact h.sep a h1 z
  ·exact jW (by rw[<-h1];exact z)
  ·have:=h.lL a z;rw[h1] at this;cases this
 ·exact fun b hb=>hR.free (L:={F.R with rows:=rs,gD:=hs,gZ:=ts,gO:=fs}) o hb
theorem Mz{b:Book}{m:RS}{f:Front}{d:Done}(r:j7 b m f)(h:f.done.head?=some d):0<m.fates.length/\m.fates[m.fates.length-1]? =some d.fate/\m.gB[m.gB.length-1]? =some d.busy:=by
 have e1:=AE f.done (·.fate);have e2:=AE f.done (·.busy);rw[<-r.iW,h,cx] at e1;rw[<-r.jf,h,cx] at e2;refine⟨?_,e1,e2⟩;rw[r.oU];cases e:f.done with
 |nil=>rw[e] at h;cases h
 |cons x l=>simp
theorem LY(b:Book)(f:Front)(a:Bool)(s:List Nat):∃d,(cross b f a s).done.head?=some d:=⟨_,Z⟩
theorem VL(b:Book)(f:Front)(a:Bool)(s:List Nat){n:Nat}(h:0<n):∃d,(crossTimes b n f a s).done.head?=some d:=by
 obtain⟨k,rfl⟩:∃k,n=k+1:=⟨n-1,by omega⟩;rw[zK];exact LY _ _ _ _
theorem Lk(b:Book)(m:RS)(a:Bool)(s:List Nat):∀n:Nat,∃more,(pK b n m a s).fates=m.fates++more/\more.length=n
 |0=>⟨[],(bc _).symm,Z⟩
 |n+1=>by
  obtain⟨more,e,l⟩:=Lk b m a s n;refine⟨more++[kS b (pK b n m a s).fates (pK b n m a s).gB a],?_,by rw[ag,l];rfl⟩;rw[<-a6,<-e];rfl
theorem Y5(xs:List V){k:Nat}(h:0<k):jZ xs (some (-(k:Int))) none=xs.drop (xs.length-k):=by
 unfold jZ
 have e1:HT.kL xs.length 0 (some (-(k:Int)))=xs.length-k:=by
  show(if (-(k:Int))<0 then(-(k:Int)+(xs.length:Int)).toNat else min (-(k:Int)).toNat xs.length)=xs.length-k;rw[aw (by omega)];omega
 have e2:HT.kL xs.length xs.length none=xs.length:=rfl;rw[e1,e2,aV (by rw[aW];omega)]
section
variable {P:Program} {w:World} {K:PySem.W.Frag} {mg:Str->Option Value} {base:Heap} {AA:gu}
theorem TK:gP ["front","numbers","samples","asked","readout","refusal"] ["front","numbers","samples"] (gL (fX 104)):=gX (by decide+kernel)
theorem TL(T:Tx P w K mg AA):gK P w K mg base gT 6 AA.DZ AA.Kw ["front","numbers","samples"] (kD AA 3 true 1):=by
 have C6:=Jx (base:=base) T;have DK:=JW (base:=base) T;have pE:=xG (base:=base) T;have xN:=DL (base:=base) T;have SC:=TK;refine T.EM.fn.ok SC (fun vs H Q E h=> ?_) (fun gy A outer s H vs Q E hr h=> ?_)
 ·obtain⟨F,st,m,c,an,ar,ns,row,rfl,_⟩:=h;rfl
 ·obtain⟨F,st,m,c,an,ar,ns,row,rfl,hE,hc,hn,i6,lx,jW,hk,jU,hq⟩:=h;obtain⟨k,rfl⟩:=cO.mp hk
  refine⟨_,(fS (gj (i:=3) SC.nd Z (Or.inl Z) (hV jb (pv 1) fW (fun _ _=>rfl)))
   (fS (gY (PW.pt (pM (k9 (ql ju ju fW (pv 3) fW)) (qu (k9 (lT (ic xN (hr.mono (by decide)) Z T.qk.mg T.qk.fn.kp T.qk.b .nil gG (fN (pv 2) fP)))))))
     (fV (gC (gI (fN (gz Z T.pF) fP))))
     ia)
   (fS (gj (i:=4) SC.nd Z (Or.inl Z) (gc (pv 0) Z))
   (fS (gj (i:=5) SC.nd Z (Or.inl Z) (ic C6 (hr.mono (by decide)) Z T.tW.mg T.tW.fn.kp T.tW.b .nil gG (fN (pv 4) (fN fW (fN (pv 2) fP)))))
   (fS (gY (io sD (pv 5) fW (ii _))
     (fV (gC (gI (fN (pv 5) fP))))
     ia)
   (fS (iR (oE (pv 4) T.gH T.KE DK (hr.mono (by decide)) T.Kk .nil gG (fN (pv 3) (fN (pv 2) fP))))
   (fV (gC (gI (fN fW (fN (hV jb (gc (pv 4) Z) (qA qv fW) (fun _ _=>rfl)) (fN (l9 (pv 4) T.gH T.t4 pE (hr.mono (by decide)) T.tX .nil gG) (fN (hV jb (gc (pv 4) Z) (qA qv fW) (fun _ _=>rfl)) fP))))))))))))),?_⟩
  refine⟨_,Z,an,_,_,_,Z,Z,fR.of hn,ir (j:=0) Z Z,?_⟩;have jx:(isBit k&&areSamples row)=false->∀H1,fQ H H1->∀q,H1 q=none->Q (.ref q) (fM H1 q (.lst [V.int (-1)])):=fun h H1 s1 q n=>iQ hE (call:=iE 3 true [k] row) (oA (show decode [[3,k],row]=none from oH h)) hq _ q (s1.more n) fO (s1.free n)
  refine⟨_,Z,_,_,Z,Z,_,Z,?_⟩
  by_cases c1:0<=k
  ·refine fZ (ai c1) ?_;refine⟨_,_,Z,Z,_,Z,?_⟩
   by_cases c2:k<=1
   ·refine gn (by rw[ai c2];rfl) ?_;refine⟨_,Z,ar,row,Z,fR.of i6,by omega,fun H1 s1=> ?_⟩;refine⟨_,Z,?_⟩
    by_cases hb:areSamples row=true
    ·refine gn (by rw[hb];rfl) ?_
     obtain⟨asked,rfl⟩:∃b:Bool,k=(if b=true then 1 else 0):=by
      by_cases z:k=1
      ·exact⟨true,z⟩
      ·exact⟨false,by show k=0;omega⟩
     have ed:decode (iE 3 true [if asked=true then 1 else 0] row)=some (.cross (if asked=true then(1:Int) else 0).toNat row):=oG (by rw[hb];unfold isBit inside_;rw[ai c1,ai c2];rfl);have ea:((if asked=true then(1:Int) else 0).toNat==1)=asked:=by cases asked<;>rfl
     unfold areSamples at hb;rw[aH,aJ] at hb;have iH:=hE.same s1;have iJ:=iH.rd;have rel:=hE.gd.rel;have lB:=rel.oW;have kJ:=s1 _ _ i6;refine⟨_,Z,F.f,_,F.dx,_,_,Z,iH.ins,T.j9,T.lz,Z,?_⟩;refine⟨_,Z,_,Z,F.R,st.book,m,1,ar,row,Z,iJ,hE.iC,fR.of kJ,by omega,?_⟩;refine⟨_,Z,_,_,Z,Z,_,Z,?_⟩
     by_cases d1:row.length=st.book.channels.length
     ·rw[am (show¬row.length≠st.book.channels.length from fun z=>z d1)];have g1:(wrongSamples st row).1=false:=by unfold wrongSamples;rw[d1];exact bne_self_eq_false _
      by_cases d2:CROSSINGS<=st.front.done.length
      ·rw[aw (show 400<(m.gB.length:Int)+1 by have:400<=st.front.done.length:=d2;omega)];refine fZ Z ?_;have hq:=iQ hE ((ja ed).trans (nQ ((vL g1).trans (vJ (ai d2))))) hq;exact⟨_,Z,fY (by simp),fun q n=>hq _ q (s1.more n) fO (s1.free n)⟩
      ·have zA:st.front.done.length<400:=by have:¬400<=st.front.done.length:=d2;omega
       rw[am (show¬400<(m.gB.length:Int)+1 by omega)];refine gn Z ?_;have rS:=(ja (s:=st) ed).trans (kR ((vL g1).trans (vK (ae d2))));rw[ea] at rS;rw[rS] at hq;have zz:H1 ar=some (.lst ((nats row).map nV)):=by rw[<-uB hb.2];exact kJ
       have sl:(nats row).length=st.book.channels.length:=by rw[r9];exact d1
       have sv:=N1 hb.2 (k:=4096) (by decide);refine⟨_,Z,F.R.r,F.R.dx,_,Z,iJ.ins,Z,_,Z,_,Z,F.R,st.book,m,st.front,asked,ar,nats row,(by cases asked<;>rfl),iJ,hE.gd,zA,zz,fun z=>jW (by simp[iy.mut,z]),sl,sv,fun H2 rs hs ts fs nr nh nf o2 iS=> ?_⟩;have G2:=hE.gd.yG zA asked (nats row) sl sv;obtain⟨jl,l8,Ji⟩:=iH.yG jW nr nh nf o2 iS G2;obtain⟨d,hd⟩:=LY st.book st.front asked (nats row);obtain⟨l0,l1,l2⟩:=Mz G2.rel hd;have Jj:(pN st.book m asked (nats row)).gB.length=(pN st.book m asked (nats row)).fates.length:=by rw[G2.rel.oW,G2.rel.oU]
       have wq:=G2.rel.wait;generalize cross st.book st.front asked (nats row)=f2 at hq jl G2 hd wq;generalize pN st.book m asked (nats row)=m2 at jl iS G2 l0 l1 l2 Jj wq;refine⟨_,Z,F.R.r,_,F.R.dx,_,_,Z,iS.ins,T.gH,T.qi,Z,_,Z,F.R.lf,_,_,_,Z,Z,fR.of iS.iW,vY (k:=1) (by decide) (by rw[ac];omega) (by rw[ac,au,l1];rfl),?_⟩;refine⟨_,Z,F.R.r,F.R.dx,_,Z,iS.ins,Z,{F.R with rows:=rs,gD:=hs,gZ:=ts,gO:=fs},st.book,m2,Z,iS,jl.iC,?_⟩;refine⟨_,Z,F.R.r,_,F.R.dx,_,_,Z,iS.ins,T.gH,T.rY,Z,_,Z,F.R.lb,_,_,_,Z,Z,fR.of iS.jf,vY (k:=1) (by decide) (by rw[ac];omega) (by rw[ac,au,l2];rfl),fY (by simp),fun q3 n3=> ?_⟩;have s3:∀o,fQ H2 (fM H2 q3 o):=fun o=>fQ.new n3
       refine hq _ {F with R:={F.R with rows:=rs,gD:=hs,gZ:=ts,gO:=fs}} m2 q3 Z (((s1.own).trans (o2.mono fun y hy=>by simp[iy.mut,hy])).trans (s3 _).own) ((s1.grow.trans l8).trans (s3 _).grow) (jl.same (s3 _)) (fun a ha=>.inl ha) ?_ ?_ ((s1.grow.trans l8) _ n3)
       ·exact fun a ha=>(Ji a ha).imp id (fun z=>z.imp id fun y=>s1.free y)
       ·rw[fO,hd,wq];show _=some (HO.lst [V.int 0,V.int (d.fate:Int),V.int (ie m2:Int),V.int (flag d.busy)]);cases d.busy<;>rfl
     ·rw[aw d1];refine fZ Z ?_;have hq:=iQ hE ((ja ed).trans (nQ (FL (by unfold wrongSamples;exact bne_iff_ne.mpr d1)))) hq;exact⟨_,Z,fY (by simp),fun q n=>hq _ q (s1.more n) fO (s1.free n)⟩
    ·rw[bS] at hb;refine fZ (by rw[hb];rfl) ?_;exact⟨fY (by simp),jx (by rw[hb,dA]) H1 s1⟩
   ·refine fZ (by rw[ae c2];rfl) ?_;refine fZ Z ?_;exact⟨fY (by simp),jx (by unfold isBit inside_;rw[ae c2];simp) H fQ.kG⟩
  ·refine gn (ae c1) ?_;refine⟨_,Z,?_⟩;refine fZ Z ?_;refine fZ Z ?_;exact⟨fY (by simp),jx (by unfold isBit inside_;rw[ae c1];simp) H fQ.kG⟩
theorem S7:gP ["front","numbers","samples","often","asked","readout","refusal"] ["front","numbers","samples"] (gL (fX 105)):=gX (by decide+kernel)
theorem S8(T:Tx P w K mg AA):gK P w K mg base gT 7 AA.DM AA.Ke ["front","numbers","samples"] (kD AA 4 true 2):=by
 have C6:=Jx (base:=base) T;have Ry:=Rm (base:=base) T;have pE:=xG (base:=base) T;have xN:=DL (base:=base) T;have SC:=S7;refine T.En.fn.ok SC (fun vs H Q E h=> ?_) (fun gy A outer s H vs Q E hr h=> ?_)
 ·obtain⟨F,st,m,c,an,ar,ns,row,rfl,_⟩:=h;rfl
 ·obtain⟨F,st,m,c,an,ar,ns,row,rfl,hE,hc,hn,i6,lx,jW,hk,jU,hq⟩:=h
  obtain⟨n,k,rfl⟩:∃n k,ns=[n,k]:=by
   match ns,hk with
   |[i,k],_=>exact⟨i,k,Z⟩
  refine⟨_,(fS (gj (i:=3) SC.nd Z (Or.inl Z) (hV jb (pv 1) fW (fun _ _=>rfl)))
   (fS (gj (i:=4) SC.nd Z (Or.inl Z) (hV jb (pv 1) fW (fun _ _=>rfl)))
   (fS (gY (PW.pt (pM (k9 (ql ju ju fW (pv 3) (gz Z T.Vm))) (pM (k9 (ql ju ju fW (pv 4) fW)) (qu (k9 (lT (ic xN (hr.mono (by decide)) Z T.qk.mg T.qk.fn.kp T.qk.b .nil gG (fN (pv 2) fP))))))))
     (fV (gC (gI (fN (gz Z T.pF) fP))))
     ia)
   (fS (gj (i:=5) SC.nd Z (Or.inl Z) (gc (pv 0) Z))
   (fS (gj (i:=6) SC.nd Z (Or.inl Z) (ic C6 (hr.mono (by decide)) Z T.tW.mg T.tW.fn.kp T.tW.b .nil gG (fN (pv 5) (fN (pv 3) (fN (pv 2) fP)))))
   (fS (gY (io sD (pv 6) fW (ii _))
     (fV (gC (gI (fN (pv 6) fP))))
     ia)
   (fS (iR (oE (pv 5) T.gH T.RL Ry (hr.mono (by decide)) T.RB .nil gG (fN (pv 3) (fN (pv 4) (fN (pv 2) fP)))))
   (fV (gC (gI (fN fW (fN (iT ax cH cE xZ (oB oF (gc (pv 5) Z) (kn (qA qv (pv 3))) Gp) (fN (gz Z T.sI) fP)) (fN (l9 (pv 5) T.gH T.t4 pE (hr.mono (by decide)) T.tX .nil gG) (fN (hV jb (gc (pv 5) Z) (qA qv fW) (fun _ _=>rfl)) fP)))))))))))))),?_⟩
  refine⟨_,Z,an,_,_,_,Z,Z,fR.of hn,ir (j:=0) Z Z,?_⟩;refine⟨_,Z,an,_,_,_,Z,Z,fR.of hn,ir (j:=1) Z Z,?_⟩;have jx:(inside_ n 1 100&&(isBit k&&areSamples row))=false->∀H1,fQ H H1->∀q,H1 q=none->Q (.ref q) (fM H1 q (.lst [V.int (-1)])):=fun h H1 s1 q n1=>iQ hE (call:=iE 4 true [n,k] row) (oA (show decode [[4,n,k],row]=none from oH h)) hq _ q (s1.more n1) fO (s1.free n1)
  refine⟨_,Z,_,_,Z,Z,_,Z,?_⟩
  by_cases b1:1<=n
  ·refine fZ (ai b1) ?_;refine⟨_,_,Z,Z,_,Z,?_⟩
   by_cases b2:n<=100
   ·refine gn (by rw[ai b2];rfl) ?_;refine⟨_,Z,_,_,Z,Z,_,Z,?_⟩
    by_cases c1:0<=k
    ·refine fZ (ai c1) ?_;refine⟨_,_,Z,Z,_,Z,?_⟩
     by_cases c2:k<=1
     ·refine gn (by rw[ai c2];rfl) ?_;refine⟨_,Z,ar,row,Z,fR.of i6,by omega,fun H1 s1=> ?_⟩;refine⟨_,Z,?_⟩
      by_cases hb:areSamples row=true
      ·refine gn (by rw[hb];rfl) ?_
       obtain⟨asked,rfl⟩:∃b:Bool,k=(if b=true then 1 else 0):=by
        by_cases z:k=1
        ·exact⟨true,z⟩
        ·exact⟨false,by show k=0;omega⟩
       obtain⟨n,rfl⟩:=bB (show 0<=n by omega);have ed:decode (iE 4 true [(n:Int),if asked=true then 1 else 0] row)=some (.times (n:Int).toNat (if asked=true then(1:Int) else 0).toNat row):=oG (by rw[hb];unfold isBit inside_;rw[ai b1,ai b2,ai c1,ai c2];rfl);have ea:((if asked=true then(1:Int) else 0).toNat==1)=asked:=by cases asked<;>rfl
       rw[a7] at ed;unfold areSamples at hb;rw[aH,aJ] at hb;have iH:=hE.same s1;have iJ:=iH.rd;have rel:=hE.gd.rel;have lB:=rel.oW;have lF:=rel.oU;have kJ:=s1 _ _ i6;refine⟨_,Z,F.f,_,F.dx,_,_,Z,iH.ins,T.j9,T.lz,Z,?_⟩;refine⟨_,Z,_,Z,_,Z,F.R,st.book,m,n,ar,row,Z,iJ,hE.iC,fR.of kJ,by omega,?_⟩;refine⟨_,Z,_,_,Z,Z,_,Z,?_⟩
       by_cases d1:row.length=st.book.channels.length
       ·rw[am (show¬row.length≠st.book.channels.length from fun z=>z d1)];have g1:(wrongSamples st row).1=false:=by unfold wrongSamples;rw[d1];exact bne_self_eq_false _
        by_cases d2:CROSSINGS<st.front.done.length+n
        ·rw[aw (show 400<(m.gB.length:Int)+(n:Int) by have:400<st.front.done.length+n:=d2;omega)];refine fZ Z ?_;have hq:=iQ hE ((ja ed).trans (nQ ((vL g1).trans (vJ (ai d2))))) hq;exact⟨_,Z,fY (by simp),fun q n=>hq _ q (s1.more n) fO (s1.free n)⟩
        ·have zA:st.front.done.length+n<=400:=by have:¬400<st.front.done.length+n:=d2;omega
         rw[am (show¬400<(m.gB.length:Int)+(n:Int) by omega)];refine gn Z ?_;have rS:=(ja (s:=st) ed).trans (kR ((vL g1).trans (vK (ae d2))));rw[ea] at rS;rw[rS] at hq;have zz:H1 ar=some (.lst ((nats row).map nV)):=by rw[<-uB hb.2];exact kJ
         have sl:(nats row).length=st.book.channels.length:=by rw[r9];exact d1
         have sv:=N1 hb.2 (k:=4096) (by decide);refine⟨_,Z,F.R.r,F.R.dx,_,Z,iJ.ins,Z,_,Z,_,Z,_,Z,F.R,st.book,m,st.front,n,asked,ar,nats row,(by cases asked<;>rfl),iJ,hE.gd,zA,zz,fun z=>jW (by simp[iy.mut,z]),sl,sv,fun H2 rs hs ts fs nr nh nf o2 iS=> ?_⟩;have G2:=E7 hE.gd asked (nats row) sl sv n zA;obtain⟨jl,l8,Ji⟩:=iH.yG jW nr nh nf o2 iS G2;obtain⟨d,hd⟩:=VL st.book st.front asked (nats row) (by omega:0<n);obtain⟨l0,l1,l2⟩:=Mz G2.rel hd;obtain⟨more,em,eml⟩:=Lk st.book m asked (nats row) n;have Jj:(pK st.book n m asked (nats row)).gB.length=(pK st.book n m asked (nats row)).fates.length:=by rw[G2.rel.oW,G2.rel.oU]
         have wq:=G2.rel.wait;have k1:=t9 G2.rel 1;have k0:=t9 rel 1;generalize crossTimes st.book n st.front asked (nats row)=f2 at hq jl G2 hd wq k1;generalize pK st.book n m asked (nats row)=m2 at jl iS G2 l0 l1 l2 Jj wq em k1;refine⟨_,Z,F.R.r,_,F.R.dx,_,_,Z,iS.ins,T.gH,T.qi,Z,_,Z,_,Z,_,Z,F.R.lf,_,Z,fR.of iS.iW,fun q3 n3=> ?_⟩
         have ec:jZ (m2.fates.map nV) (some (-(n:Int))) none=(more.map Int.ofNat).map V.int:=by
          rw[Y5 _ (by omega),em,ac,ag,eml,ao,List.drop_left' (by rw[ac];omega),bE];rfl
         rw[ec];have s3:∀o,fQ H2 (fM H2 q3 o):=fun o=>fQ.new n3
         have kB:=iS.same (s3 (.lst ((more.map Int.ofNat).map V.int)));refine⟨.inl ⟨Z,_,fR.of fO⟩,q3,more.map Int.ofNat,1,Z,Z,fR.of fO,?_⟩;refine⟨_,Z,F.R.r,F.R.dx,_,Z,kB.ins,Z,{F.R with rows:=rs,gD:=hs,gZ:=ts,gO:=fs},st.book,m2,Z,kB,jl.iC,?_⟩;refine⟨_,Z,F.R.r,_,F.R.dx,_,_,Z,kB.ins,T.gH,T.rY,Z,_,Z,F.R.lb,_,_,_,Z,Z,fR.of kB.jf,vY (k:=1) (by decide) (by rw[ac];omega) (by rw[ac,au,l2];rfl),fY (by simp),fun q4 n4=> ?_⟩;have s4:∀o,fQ H2 (fM (fM H2 q3 (.lst ((more.map Int.ofNat).map V.int))) q4 o):=fun o=>(s3 _).more n4
         refine hq _ {F with R:={F.R with rows:=rs,gD:=hs,gZ:=ts,gO:=fs}} m2 q4 Z (((s1.own).trans (o2.mono fun y hy=>by simp[iy.mut,hy])).trans (s4 _).own) ((s1.grow.trans l8).trans (s4 _).grow) (jl.same (s4 _)) (fun a ha=>.inl ha) ?_ ?_ ((s1.grow.trans l8) _ ((s3 _).free n4))
         ·exact fun a ha=>(Ji a ha).imp id (fun z=>z.imp id fun y=>s1.free y)
         ·have k2:((more.map Int.ofNat).count 1:Nat)=fates f2 1-fates st.front 1:=by
           rw[em,ao,List.count_append] at k1;rw[<-k0,<-k1];show _=_+List.count (1:Int) _-_;omega
          rw[fO,hd,wq,<-k2];show _=some (HO.lst [V.int 0,V.int ((more.map Int.ofNat).count 1:Nat),V.int (ie m2:Int),V.int (flag d.busy)]);cases d.busy<;>rfl
       ·rw[aw d1];refine fZ Z ?_;have hq:=iQ hE ((ja ed).trans (nQ (FL (by unfold wrongSamples;exact bne_iff_ne.mpr d1)))) hq;exact⟨_,Z,fY (by simp),fun q n=>hq _ q (s1.more n) fO (s1.free n)⟩
      ·rw[bS] at hb;refine fZ (by rw[hb];rfl) ?_;exact⟨fY (by simp),jx (by rw[hb,dA,dA]) H1 s1⟩
     ·refine fZ (by rw[ae c2];rfl) ?_;refine fZ Z ?_;exact⟨fY (by simp),jx (by unfold isBit inside_;rw[ae c2];simp) H fQ.kG⟩
    ·refine gn (ae c1) ?_;refine⟨_,Z,?_⟩;refine fZ Z ?_;refine fZ Z ?_;exact⟨fY (by simp),jx (by unfold isBit inside_;rw[ae c1];simp) H fQ.kG⟩
   ·refine fZ (by rw[ae b2];rfl) ?_;refine fZ Z ?_;exact⟨fY (by simp),jx (by unfold inside_;rw[ae b2];simp) H fQ.kG⟩
  ·refine gn (ae b1) ?_;refine⟨_,Z,?_⟩;refine fZ Z ?_;refine fZ Z ?_;exact⟨fY (by simp),jx (by unfold inside_;rw[ae b1];simp) H fQ.kG⟩
end
end FE
namespace FE
open PySem PySem.Spec PyProof.Rows L2
open Vbkdaa (Book inside_ State stepNumbers decode Ear nat nats isText yieldMost fresh quiet noBook)
theorem je.made{AA:gu}{H5:Hp}{f dx x2 rT:Addr}{LR:gM}{b:Book}{fs:List (Str×V)}{c:Nat}(hf:H5 f=some (.ins AA.j8 dx fs))(hR:ij AA H5 LR b ou)(e1:LR.rows=[])(e2:LR.gD=[])(e3:LR.gO=[])(hA:kx AA H5 ⟨x2,rT,none⟩ b.channels.length quiet)
 (qe:f∉LR.mut) (rN:f≠x2) (nx:x2∉LR.mut) (BV:f∉LR.S.fp) (nxp:x2∉LR.S.fp) (hB:nU b):je AA (fM H5 f (.ins AA.j8 dx (qR ⟨f,dx,LR,⟨x2,rT,none⟩⟩))) ⟨f,dx,LR,⟨x2,rT,none⟩⟩ ⟨b,fresh,quiet⟩ ou c:=by
 refine je.build (F:=⟨f,dx,LR,⟨x2,rT,none⟩⟩) (s:=⟨b,fresh,quiet⟩) hf hR (aaB hB) hA ?_ ?_ (aN _)
 ·show(f::(LR.mut++[x2])).Nodup;refine bj.mpr ⟨fun z=> ?_,dh.mpr ⟨hR.nd,by simp,fun a ha b hb e=> ?_⟩⟩
  ·rcases aG.mp z with z|z
   ·exact qe z
   ·exact rN (aq.mp z)
  ·rw[aq.mp hb] at e;exact nx (by rw[<-e];exact ha)
 ·intro a ha z;have Jk:a∈LR.rows++LR.gD++LR.gO++LR.S.fp:=ha;have ha:a∈LR.S.fp:=by rw[e1,e2,e3] at Jk;simpa using Jk
  rcases az.mp z with z|z
  ·have z:a=f:=z;exact BV (by rw[<-z];exact ha)
  ·rcases aG.mp z with z|z
   ·exact hR.sep a Jk z
   ·have z:a=x2:=by simpa [jO.mut] using z
    exact nxp (by rw[<-z];exact ha)
section
variable {P:Program} {w:World} {K:PySem.W.Frag} {mg:Str->Option Value} {base:Heap} {AA:gu}
theorem Sf:gP ["front","numbers","text","settings","channels"] ["front","numbers","text"] (gL (fX 101)):=gX (by decide+kernel)
theorem Sg(T:Tx P w K mg AA):gK P w K mg base gT 6 AA.Dm AA.JU ["front","numbers","text"] (kD AA 0 true 0):=by
 have FP:=LO (base:=base) T;have x9:=E8 (base:=base) T;have pH:=vH (base:=base) T;have Dw:=JN (base:=base) T;have t8:=zP (base:=base) T;have SC:=Sf;refine T.DQ.fn.ok SC (fun vs H Q E h=> ?_) (fun gy A outer s H vs Q E hr h=> ?_)
 ·obtain⟨F,st,m,c,an,ar,ns,row,rfl,_⟩:=h;rfl
 ·obtain⟨F,st,m,c,an,ar,ns,row,rfl,hE,hc,hn,i6,lx,jW,hk,jU,hq⟩:=h;obtain rfl:=aM.mp hk;obtain⟨EX,zB⟩:∃EX:XK,EX=fun v o H'=>∃f:VbkdCore.Fault,Vbkdaa.read (nats row)=.error f/\fQ H H':=⟨_,Z⟩
  refine⟨_,(fS (gY (k9 (lT (ic pH (hr.mono (by decide)) Z T.lD.mg T.lD.fn.kp T.lD.b .nil gG (fN (pv 2) (fN (gz Z T.KH) (fN (gz Z T.DU) fP))))))
   (fV (gC (gI (fN (gz Z T.pF) fP))))
   ia)
   (fS (ZB (E:=EX) Z Z T.xc Z T.mL (fun XE pn hp=>(fV (gj (i:=3) SC.nd Z (Or.inl Z) (ic Dw (hr.mono (by decide)) Z T.t7.mg T.t7.fn.kp T.t7.b .nil hp (fN (pv 2) fP)))))
     (fun e=>(fV (gC (gI (fN (gz Z T.SK) fP))))))
   (fS (gj (i:=4) SC.nd Z (Or.inl Z) (gU iL (by rfl) T.len aF (fN (gc (pv 3) Z) fP)))
   (fS (js (pv 0) (uw T.MS FP (hr.mono (by decide)) Z T.Mh T.MT .nil gG (fN (pv 3) fP)) Z)
   (fS (js (pv 0) (uw T.FZ x9 (hr.mono (by decide)) Z T.FA T.F0 .nil gG (fN (pv 4) fP)) Z)
   (fV (gC (gI (fN fW (fN (pv 4) (fN (ic t8 (hr.mono (by decide)) Z T.nL.mg T.nL.fn.kp T.nL.b .nil gG (fN (pv 4) fP)) fP))))))))))),?_⟩
  refine⟨_,Z,ar,row,1000,255,Z,fR.of i6,by omega,fun H1 s1=> ?_⟩;refine⟨_,Z,?_⟩;have kJ:=s1 _ _ i6;have iH:=hE.same s1
  by_cases hb:(decide (row.length<=1000)&&row.all fun n=>inside_ n 0 255)=true
  ·refine gn (by rw[hb];rfl) ?_;have ed:decode (iE 0 true [] row)=some (.settings row):=oG hb;rw[aH,aJ] at hb;rw[uB hb.2] at kJ;refine⟨⟨_,Z,ar,nats row,Z,kJ,by rw[r9];exact hb.1,?_,?_⟩,?_⟩
   ·intro f hf H' dx s2 n2 g2;rw[zB];exact⟨f,hf,s1.trans s2⟩
   ·intro b tT H2 L s2 hS hB pl fp
    have er:Vbkdaa.does st (.settings row)=.ok (⟨b,fresh,quiet⟩,[nat b.channels.length,nat (yieldMost b.channels.length)]):=by
     show(match Vbkdaa.read (nats row) with|.error _=>_|.ok b=>_)=_;rw[tT]
    have rS:=(ja (s:=st) ed).trans (kR er);rw[rS] at hq;have nF:=s1.trans s2;have iC:=hS.iC;have kH:(L.cs.map V.ref).length=b.channels.length:=by rw[ac];exact hS.mv.1
    refine⟨_,Z,L.s,_,L.dx,_,_,Z,hS.ins,T.im,T.nJ,Z,L.lc,_,Z,.inl (fR.of hS.mr),?_⟩;rw[kH];refine⟨_,Z,fun x dx nx nd Cw=> ?_⟩;refine⟨x,dx,L,b,Z,fO,hS.same ((fQ.new nd).put nx),(fun z=>(by have:=hS.xf x z;rw[nx] at this;cases this)),fun H3 LR eR eS o3 kB BO r1 r2 r3=>⟨Z,?_⟩⟩;subst eR;subst eS;have s3:fQ H2 H3:=fQ.made nx nd fun b o e n=>o3 b o e (by simpa using n)
    have f3:=s3 _ _ (nF _ _ hE.ins);refine⟨_,Z,F.f,_,F.dx,_,Z,f3,T.j9,T.lz,(by show 2<1000;decide),?_⟩
    have zC:∀y∈LR.mut,H2 y=none:=fun y hy=>by
     rcases BO y hy with h|h
     ·rw[h];exact nx
     ·exact((fQ.new nd).put nx).free h
    have zD:∀y∈LR.S.fp,H1 y=none:=fp;have qe:F.f∉LR.mut:=fun z=>by have:=zC _ z;rw[nF _ _ hE.ins] at this;cases this
    have rN:F.f∉LR.S.fp:=fun z=>by have:=zD _ z;rw[s1 _ _ hE.ins] at this;cases this
    have o4:gE [F.f] H3 (fM H3 F.f (.ins AA.j8 F.dx (L2.jB "readout" (.ref LR.r) (qR F)))):=gE.refl.put (by simp);have g4:(fM H3 F.f (.ins AA.j8 F.dx (L2.jB "readout" (.ref LR.r) (qR F)))) F.f=_:=fO;have QY:j0 H3 (fM H3 F.f (.ins AA.j8 F.dx (L2.jB "readout" (.ref LR.r) (qR F)))):=j0.refl.put;show jR _ _ _ _ (fM H3 F.f (.ins AA.j8 F.dx (L2.jB "readout" (.ref LR.r) (qR F))));generalize fM H3 F.f (.ins AA.j8 F.dx (L2.jB "readout" (.ref LR.r) (qR F)))=H4 at o4 g4 QY
    have lw:ij AA H4 LR b ou:=kB.keep o4 (fun a ha z=>qe (by rw[<-aq.mp z];exact ha)) (fun a ha z=>by
     rw[r1,r2,r3] at ha;exact rN (by rw[<-aq.mp z];simpa using ha)) (fun y hy xs z=>by rw[aq.mp hy,f3] at z;cases z)
    refine⟨_,Z,fun x2 rT pB zE abO=> ?_⟩;refine⟨x2,rT,b.channels.length,Z,fO,fun H5 o5 hA5=>⟨Z,?_⟩⟩;have s5:fQ H4 H5:=fQ.made pB zE fun b o e n=>o5 b o e (by simpa using n)
    refine⟨_,Z,F.f,_,F.dx,_,Z,s5 _ _ g4,T.j9,T.xH,(by show 2<1000;decide),?_⟩;have Jl:=je.made (c:=c) (s5 _ _ g4) (lw.same s5) r1 r2 r3 hA5 qe (fun z=>by rw[<-z,g4] at pB;cases pB) (fun z=>by have:=lw.lL _ z;rw[pB] at this;cases this) rN (fun z=>by have:=lw.set.xf _ z;rw[pB] at this;cases this) hB;refine⟨_,Z,_,Z,b.channels.length,Z,by omega,fY (by simp),fun q7 n7=> ?_⟩;have gr:j0 H H4:=((nF.trans s3).grow).trans QY;refine hq _ ⟨F.f,F.dx,LR,⟨x2,rT,none⟩⟩ ou q7 Z ?_ ?_ ((Jl.same (fQ.new n7)).later) ?_ ?_ ?_ (((gr.trans s5.grow).put) _ n7)
    ·exact((((((nF.trans s3).own).trans (o4.mono fun y hy=>by rw[aq.mp hy];simp[iy.mut])).trans s5.own).put (by simp[iy.mut]))).trans (fQ.new n7).own
    ·exact((gr.trans s5.grow).put).put
    ·intro a ha;rcases az.mp ha with rfl|ha
     ·exact .inl (by simp[iy.mut])
     ·rcases aG.mp ha with ha|ha
      ·exact .inr (nF.free (zC a ha))
      ·have z:a=x2:=by simpa [jO.mut] using ha
       exact .inr (by rw[z];exact gr _ pB)
    ·intro a ha;have ha:a∈LR.rows++LR.gD++LR.gO++LR.S.fp:=ha;rw[r1,r2,r3] at ha;exact .inr (.inr (s1.free (zD a (by simpa using ha))))
    ·rw[fO];rfl
   ·intro dx gw H' hl hx;rw[zB] at hx;obtain⟨f,hf,sf⟩:=hx
    have er:Vbkdaa.does st (.settings row)=.error (-3):=by
     show(match Vbkdaa.read (nats row) with|.error _=>_|.ok b=>_)=_;rw[hf]
    have hq:=iQ hE ((ja ed).trans (nQ er)) hq;exact⟨fY (by simp),fun q n=>hq _ q (sf.more n) fO (sf.free n)⟩
  ·rw[bS] at hb;refine fZ (by rw[hb];rfl) ?_;have hq:=iQ hE (call:=iE 0 true [] row) (oA (show decode [[0],row]=none from oH hb)) hq;exact⟨fY (by simp),fun q n=>hq _ q (s1.more n) fO (s1.free n)⟩
theorem TM:gP ["front","numbers","text","settings","fault"] ["front","numbers","text"] (gL (fX 102)):=gX (by decide+kernel)
theorem TN(T:Tx P w K mg AA):gK P w K mg base gT 6 AA.DY AA.Kv ["front","numbers","text"] (kD AA 1 true 0):=by
 have pH:=vH (base:=base) T;have Dw:=JN (base:=base) T;have SC:=TM;refine T.EL.fn.ok SC (fun vs H Q E h=> ?_) (fun gy A outer s H vs Q E hr h=> ?_)
 ·obtain⟨F,st,m,c,an,ar,ns,row,rfl,_⟩:=h;rfl
 ·obtain⟨F,st,m,c,an,ar,ns,row,rfl,hE,hc,hn,i6,lx,jW,hk,jU,hq⟩:=h;obtain rfl:=aM.mp hk;obtain⟨EX,zB⟩:∃EX:XK,EX=fun v o H'=>∃(f:VbkdCore.Fault) (dx:Addr),o=some dx/\Vbkdaa.read (nats row)=.error f/\fQ H H'/\H' dx=some (XD dx [("kind",.int f.kind),("place",.int f.place)]):=⟨_,Z⟩
  refine⟨_,(fS (gY (k9 (lT (ic pH (hr.mono (by decide)) Z T.lD.mg T.lD.fn.kp T.lD.b .nil gG (fN (pv 2) (fN (gz Z T.KH) (fN (gz Z T.DU) fP))))))
   (fV (gC (gI (fN (gz Z T.pF) fP))))
   ia)
   (fS (W7 (E:=EX) Z Z T.xc Z T.mL SC.nd (i:=4) Z Z (fun XE pn hp=>(fV (gj (i:=3) SC.nd Z (Or.inl Z) (ic Dw (hr.mono (by decide)) Z T.t7.mg T.t7.fn.kp T.t7.b .nil hp (fN (pv 2) fP)))))
     (fun e=>(fV (gC (gI (fN fW (fN fW (fN (OA T.xc (Or.inl Z) (pv 4) Z) (fN (OA T.xc (Or.inr Z) (pv 4) Z) fP)))))))))
   (fV (gC (gI (fN fW (fN fW (fN (gU iL (by rfl) T.len aF (fN (gc (pv 3) Z) fP)) fP)))))))),?_⟩
  refine⟨_,Z,ar,row,1000,255,Z,fR.of i6,by omega,fun H1 s1=> ?_⟩;refine⟨_,Z,?_⟩;have kJ:=s1 _ _ i6
  by_cases hb:(decide (row.length<=1000)&&row.all fun n=>inside_ n 0 255)=true
  ·refine gn (by rw[hb];rfl) ?_;have ed:decode (iE 1 true [] row)=some (.check row):=oG hb;rw[aH,aJ] at hb;rw[uB hb.2] at kJ;refine⟨⟨_,Z,ar,nats row,Z,kJ,by rw[r9];exact hb.1,?_,?_⟩,?_⟩
   ·intro f hf H' dx s2 n2 g2;rw[zB];exact⟨f,dx,Z,hf,s1.trans s2,g2⟩
   ·intro b tT H2 L s2 hS hB pl fp
    have er:Vbkdaa.does st (.check row)=.ok (st,[0,nat b.channels.length]):=by
     show(match Vbkdaa.read (nats row) with|.error _=>_|.ok b=>_)=_;rw[tT]
    have hq:=iQ hE ((ja ed).trans (kR er)) hq;have kH:(L.cs.map V.ref).length=b.channels.length:=by rw[ac];exact hS.mv.1
    refine⟨_,Z,L.s,_,L.dx,_,_,Z,hS.ins,T.im,T.nJ,Z,L.lc,_,Z,.inl (fR.of hS.mr),fY (by simp),fun q3 n3=> ?_⟩;refine hq _ q3 ((s1.trans s2).more n3) ?_ ((s1.trans s2).free n3);rw[fO,kH];rfl
   ·intro e dx gw H' hl ne hx;rw[zB] at hx;obtain⟨f,BR,hd,hf,sf,gx⟩:=hx;obtain rfl:=af hd
    have er:Vbkdaa.does st (.check row)=.ok (st,[1,nat f.kind,nat f.place]):=by
     show(match Vbkdaa.read (nats row) with|.error _=>_|.ok b=>_)=_;rw[hf]
    have hq:=iQ hE ((ja ed).trans (kR er)) hq;have hl5:gw.length=5:=hl;have hv:(gw.set 4 (some (.ref e)))[4]? =some (some (V.ref e)):=by rw[dE (by omega)]
    have de:dx≠e:=gf gx ne;refine⟨_,hv,e,dx,_,_,false,Z,fO,(fT de).trans gx,Z,?_⟩;refine⟨_,hv,e,dx,_,_,false,Z,fO,(fT de).trans gx,Z,fY (by simp),fun q n=> ?_⟩;exact hq _ q ((sf.more ne).more n) fO ((sf.more ne).free n)
  ·rw[bS] at hb;refine fZ (by rw[hb];rfl) ?_;have hq:=iQ hE (call:=iE 1 true [] row) (oA (show decode [[1],row]=none from oH hb)) hq;exact⟨fY (by simp),fun q n=>hq _ q (s1.more n) fO (s1.free n)⟩
end
end FE
namespace FE
open PySem PySem.Spec PyProof.Rows L2
open Vbkdaa (Book inside_ State stepNumbers decode Ear)
open PyVbkdaa (shape)
def Z4(AA:gu):List (L2.Key×V):=[(Sum.inl 0,.ref AA.Fk),(Sum.inl 1,.ref AA.Fl),(Sum.inl 2,.ref AA.Fm),(Sum.inl 3,.ref AA.Fn),(Sum.inl 4,.ref AA.Fo),(Sum.inl 5,.ref AA.Fp),(Sum.inl 6,.ref AA.Fq),(Sum.inl 7,.ref AA.Fs),(Sum.inl 8,.ref AA.Ft),(Sum.inl 9,.ref AA.Fu),(Sum.inl 10,.ref AA.EA),(Sum.inl 11,.ref AA.EB),(Sum.inl 12,.ref AA.EC),(Sum.inl 13,.ref AA.ED),(Sum.inl 14,.ref AA.EE),(Sum.inl 15,.ref AA.EF),(Sum.inl 16,.ref AA.EG),(Sum.inl 17,.ref AA.EH),(Sum.inl 18,.ref AA.EI),(Sum.inl 19,.ref AA.EJ),(Sum.inl 20,.ref AA.EK)]
structure Row(P:Program)(w:World)(K:PySem.W.Frag)(mg:Str->Option Value)(base:Heap)(AA:gu)(p:Int)(k r:Nat)(a f:Addr)(fd:FuncData)(ps:List Str)(lv:Nat):Prop where
 val:i5 (Z4 AA) (Sum.inl p)=some (.ref a)
 tup:iX K a [.int k,.bl (r==1),.ref f]
 kp:PySem.W.keepIn K (.ref f)=true
 ok:gK P w K mg base gT lv f fd ps (kD AA p (r==1) k)
 b:Binds K fd ps []
 le:lv<=7
def aaJ:Sp:=fun vs H Q _=>∃(p:Int) (k r:Nat),vs=[.int p]/\shape p=some (k,r)/\Q (.int k) H
def aaK:Sp:=fun vs H Q _=>∃(p:Int) (k r:Nat),vs=[.int p]/\shape p=some (k,r)/\Q (.bl (r==1)) H
def Y6(AA:gu):Sp:=fun vs H Q E=>∃(f:Addr) (p:Int) (an ar:Addr) (k r:Nat),vs=[.ref f,.int p,.ref an,.ref ar]/\shape p=some (k,r)/\kD AA p (r==1) k [.ref f,.ref an,.ref ar] H Q E0
section
variable {P:Program} {w:World} {K:PySem.W.Frag} {mg:Str->Option Value} {base:Heap} {AA:gu}
theorem GU(T:Tx P w K mg AA){p:Int}{k r:Nat}(h:shape p=some (k,r)):∃a f fd ps lv,Row P w K mg base AA p k r a f fd ps lv:=by
 unfold shape at h
 by_cases h0:p=0
 ·rw[aw h0] at h;obtain⟨rfl,rfl⟩:=aP (af h);subst h0;exact⟨_,_,_,_,_,Z,T.Xl,T.DQ.fn.kp,Sg T,T.DQ.b,by decide⟩
 rw[am h0] at h
 by_cases h1:p=1
 ·rw[aw h1] at h;obtain⟨rfl,rfl⟩:=aP (af h);subst h1;exact⟨_,_,_,_,_,Z,T.Xm,T.EL.fn.kp,TN T,T.EL.b,by decide⟩
 rw[am h1] at h
 by_cases h2:p=2
 ·rw[aw h2] at h;obtain⟨rfl,rfl⟩:=aP (af h);subst h2;exact⟨_,_,_,_,_,Z,T.Xn,T.DF.fn.kp,R5 T,T.DF.b,by decide⟩
 rw[am h2] at h
 by_cases h3:p=3
 ·rw[aw h3] at h;obtain⟨rfl,rfl⟩:=aP (af h);subst h3;exact⟨_,_,_,_,_,Z,T.Xo,T.EM.fn.kp,TL T,T.EM.b,by decide⟩
 rw[am h3] at h
 by_cases h4:p=4
 ·rw[aw h4] at h;obtain⟨rfl,rfl⟩:=aP (af h);subst h4;exact⟨_,_,_,_,_,Z,T.Xp,T.En.fn.kp,S8 T,T.En.b,by decide⟩
 rw[am h4] at h
 by_cases h5:p=5
 ·rw[aw h5] at h;obtain⟨rfl,rfl⟩:=aP (af h);subst h5;exact⟨_,_,_,_,_,Z,T.Xq,T.Fv.fn.kp,Uf T,T.Fv.b,by decide⟩
 rw[am h5] at h
 by_cases h6:p=6
 ·rw[aw h6] at h;obtain⟨rfl,rfl⟩:=aP (af h);subst h6;exact⟨_,_,_,_,_,Z,T.Xr,T.Fw.fn.kp,Ul T,T.Fw.b,by decide⟩
 rw[am h6] at h
 by_cases h7:p=7
 ·rw[aw h7] at h;obtain⟨rfl,rfl⟩:=aP (af h);subst h7;exact⟨_,_,_,_,_,Z,T.Xs,T.Fx.fn.kp,Uo T,T.Fx.b,by decide⟩
 rw[am h7] at h
 by_cases h8:p=8
 ·rw[aw h8] at h;obtain⟨rfl,rfl⟩:=aP (af h);subst h8;exact⟨_,_,_,_,_,Z,T.Xt,T.Eo.fn.kp,S3 T,T.Eo.b,by decide⟩
 rw[am h8] at h
 by_cases h9:p=9
 ·rw[aw h9] at h;obtain⟨rfl,rfl⟩:=aP (af h);subst h9;exact⟨_,_,_,_,_,Z,T.Xu,T.EN.fn.kp,TF T,T.EN.b,by decide⟩
 rw[am h9] at h
 by_cases mW:p=10
 ·rw[aw mW] at h;obtain⟨rfl,rfl⟩:=aP (af h);subst mW;exact⟨_,_,_,_,_,Z,T.Wn,T.Ep.fn.kp,S0 T,T.Ep.b,by decide⟩
 rw[am mW] at h
 by_cases rV:p=11
 ·rw[aw rV] at h;obtain⟨rfl,rfl⟩:=aP (af h);subst rV;exact⟨_,_,_,_,_,Z,T.Wo,T.EO.fn.kp,Tt T,T.EO.b,by decide⟩
 rw[am rV] at h
 by_cases vq:p=12
 ·rw[aw vq] at h;obtain⟨rfl,rfl⟩:=aP (af h);subst vq;exact⟨_,_,_,_,_,Z,T.Wp,T.Er.fn.kp,S5 T,T.Er.b,by decide⟩
 rw[am vq] at h
 by_cases rW:p=13
 ·rw[aw rW] at h;obtain⟨rfl,rfl⟩:=aP (af h);subst rW;exact⟨_,_,_,_,_,Z,T.Wq,T.EQ.fn.kp,TC T,T.EQ.b,by decide⟩
 rw[am rW] at h
 by_cases vt:p=14
 ·rw[aw vt] at h;obtain⟨rfl,rfl⟩:=aP (af h);subst vt;exact⟨_,_,_,_,_,Z,T.Wr,T.ER.fn.kp,TJ T,T.ER.b,by decide⟩
 rw[am vt] at h
 by_cases vw:p=15
 ·rw[aw vw] at h;obtain⟨rfl,rfl⟩:=aP (af h);subst vw;exact⟨_,_,_,_,_,Z,T.Ws,T.ES.fn.kp,Tv T,T.ES.b,by decide⟩
 rw[am vw] at h
 by_cases vx:p=16
 ·rw[aw vx] at h;obtain⟨rfl,rfl⟩:=aP (af h);subst vx;exact⟨_,_,_,_,_,Z,T.Wt,T.ET.fn.kp,Tz T,T.ET.b,by decide⟩
 rw[am vx] at h
 by_cases vy:p=17
 ·rw[aw vy] at h;obtain⟨rfl,rfl⟩:=aP (af h);subst vy;exact⟨_,_,_,_,_,Z,T.Wu,T.hush.fn.kp,YZ T,T.hush.b,by decide⟩
 rw[am vy] at h
 by_cases vz:p=18
 ·rw[aw vz] at h;obtain⟨rfl,rfl⟩:=aP (af h);subst vz;exact⟨_,_,_,_,_,Z,T.Wv,T.Fy.fn.kp,Uj T,T.Fy.b,by decide⟩
 rw[am vz] at h
 by_cases vA:p=19
 ·rw[aw vA] at h;obtain⟨rfl,rfl⟩:=aP (af h);subst vA;exact⟨_,_,_,_,_,Z,T.Ww,T.Fz.fn.kp,Uh T,T.Fz.b,by decide⟩
 rw[am vA] at h
 by_cases vB:p=20
 ·rw[aw vB] at h;obtain⟨rfl,rfl⟩:=aP (af h);subst vB;exact⟨_,_,_,_,_,Z,T.Wx,T.EU.fn.kp,Tr T,T.EU.b,by decide⟩
 rw[am vB] at h;cases h
theorem S9:gP ["call"] ["call"] (gL (fX 123)):=gX (by decide+kernel)
theorem Ta(T:Tx P w K mg AA):gK P w K mg base gT 1 AA.Ki AA.Kj ["call"] aaJ:=by
 have SC:=S9;refine T.zY.fn.ok SC (fun vs H Q E h=> ?_) (fun gy A outer s H vs Q E hr h=> ?_)
 ·obtain⟨p,k,r,rfl,_⟩:=h;rfl
 ·obtain⟨p,k,r,rfl,hs,hq⟩:=h;refine⟨_,(fV (gC (hV jH (qZ T.GQ (m7 Z T.G4) (pv 0) (fun _ _=>rfl)) fW (fun _ _=>rfl)))),?_⟩;obtain⟨a,f,fd,ps,lv,R⟩:=GU (base:=base) T hs;exact⟨_,Z,Sum.inl p,_,Z,R.val,a,_,_,_,Z,Z,R.tup.sq,ir (j:=0) Z Z,hq⟩
theorem VM:gP ["call"] ["call"] (gL (fX 124)):=gX (by decide+kernel)
theorem VN(T:Tx P w K mg AA):gK P w K mg base gT 1 AA.Mf AA.Mg ["call"] aaK:=by
 have SC:=VM;refine T.AU.fn.ok SC (fun vs H Q E h=> ?_) (fun gy A outer s H vs Q E hr h=> ?_)
 ·obtain⟨p,k,r,rfl,_⟩:=h;rfl
 ·obtain⟨p,k,r,rfl,hs,hq⟩:=h;refine⟨_,(fV (gC (hV jH (qZ T.GQ (m7 Z T.G4) (pv 0) (fun _ _=>rfl)) fW (fun _ _=>rfl)))),?_⟩;obtain⟨a,f,fd,ps,lv,R⟩:=GU (base:=base) T hs;exact⟨_,Z,Sum.inl p,_,Z,R.val,a,_,_,_,Z,Z,R.tup.sq,ir (j:=1) Z Z,hq⟩
theorem Ur:gP ["front","call","numbers","row","handler"] ["front","call","numbers","row"] (gL (fX 125)):=gX (by decide+kernel)
theorem Us(T:Tx P w K mg AA):gK P w K mg base gT 8 AA.K8 AA.K9 ["front","call","numbers","row"] (Y6 AA):=by
 have SC:=Ur;refine T.Ao.fn.ok SC (fun vs H Q E h=> ?_) (fun gy A outer s H vs Q E hr h=> ?_)
 ·obtain⟨f,p,an,ar,k,r,rfl,_⟩:=h;rfl
 ·obtain⟨f0,p,an,ar,k,r,rfl,hs,hh⟩:=h
  refine⟨_,(fS (gj (i:=4) SC.nd Z (Or.inl Z) (hV jH (qZ T.GQ (m7 Z T.G4) (pv 1) (fun _ _=>rfl)) fW (fun _ _=>rfl)))
   (fV (gC (W9 (pv 4) (fN (pv 0) (fN (pv 2) (fN (pv 3) fP))))))),?_⟩
  obtain⟨a,f,fd,ps,lv,R⟩:=GU (base:=base) T hs;refine⟨_,Z,Sum.inl p,_,Z,R.val,a,_,_,_,Z,Z,R.tup.sq,ir (j:=2) Z Z,?_⟩;refine⟨f,Z,R.kp,_,Z,_,Z,_,Z,lv,fd,ps,_,R.ok,hr.mono (by have:=R.le;omega),R.b,hh⟩
end
end FE
namespace FE
open PySem PySem.Spec PyProof.Rows L2
open Vbkdaa (Book State noBook)
def Y7(AA:gu):Sp:=fun vs H Q _=>∃(x dx:Addr),vs=[.ref x]/\H x=some (.ins AA.j8 dx [])/\
 ∀(H':Hp) (F:iy),F.f=x->gE [x] H H'->je AA H' F Vbkdaa.start ou 0->(∀a∈F.mut,a=x\/H a=none)->(∀a∈F.deep,H a=none)->Q .gS H'
theorem aaL:nU noBook:=⟨by decide,(by intro c h;cases h),by decide,by decide,by decide,by decide,by decide,by decide,by decide,by decide⟩
section
variable {P:Program} {w:World} {K:PySem.W.Frag} {mg:Str->Option Value} {base:Heap} {AA:gu}
theorem Sh:gP ["self"] ["self"] (gL (iZ (fX 94) 0)):=gX (by decide+kernel)
theorem U6(T:Tx P w K mg AA):gK P w K mg base gT 3 AA.Ds AA.Dt ["self"] (Y7 AA):=by
 have FP:=LO (base:=base) T;have x9:=E8 (base:=base) T;have E5:=Lh (base:=base) T;have SC:=Sh;refine T.Sn.ok SC (fun vs H Q E h=> ?_) (fun gy A outer s H vs Q E hr h=> ?_)
 ·obtain⟨x,dx,rfl,_⟩:=h;rfl
 ·obtain⟨x,dx,rfl,hx,hq⟩:=h
  refine⟨_,(fS (js (pv 0) (uw T.MS FP (hr.mono (by decide)) Z T.Mh T.MT .nil gG (fN (uw T.Mi E5 (hr.mono (by decide)) Z T.LH T.Mj .nil gG (fN (gI fP) (fN FU fP))) fP)) Z)
   (fV (js (pv 0) (uw T.FZ x9 (hr.mono (by decide)) Z T.FA T.F0 .nil gG (fN fW fP)) Z))),?_⟩
  refine⟨aN _,fun q1 n1=>fun q2 n2=>fun xs CG CH Jm afk=> ?_⟩;have s1:fQ H (fM H q1 (.lst [])):=fQ.new n1;have s2:fQ H (fM (fM H q1 (.lst [])) q2 (.dK [])):=s1.more n2;have g1:(fM (fM H q1 (.lst [])) q2 (.dK [])) q1=some (.lst []):=(fT (gf fO n2)).trans fO;have g2:(fM (fM H q1 (.lst [])) q2 (.dK [])) q2=some (.dK []):=fO;have f2:H q2=none:=s1.free n2;generalize fM (fM H q1 (.lst [])) q2 (.dK [])=H2 at s2 g1 g2 CH Jm;have s3:fQ H2 (fM (fM H2 CG (.own xs)) xs (.ins AA.lQ CG [])):=(fQ.new Jm).put CH;refine⟨xs,CG,q1,[],q2,[],noBook,Z,fO,s3 _ _ g1,iG.nil,OH (s3 _ _ g2),by decide,fun H3 o3 hS=>⟨Z,?_⟩⟩;have QZ:fQ H2 H3:=fQ.made CH Jm fun b o e n=>o3 b o e (by simpa using n)
  refine fun x2 rT pB zE abO=> ?_
  refine⟨x2,rT,⟨xs,CG,q1,q2,[],[]⟩,noBook,Z,fO,hS.same ((fQ.new zE).put pB),(fun z=>(by have:=hS.xf x2 z;rw[pB] at this;cases this)),fun H4 LR eR eS o4 lw fr4 r1 r2 r3=>⟨Z,?_⟩⟩;have s34:fQ H3 H4:=fQ.made pB zE fun b o e n=>o4 b o e (by simpa using n)
  have Jn:fQ H H4:=s2.trans (QZ.trans s34);have f4:=Jn _ _ hx;refine⟨_,Z,x,_,dx,_,Z,f4,T.j9,T.lz,(by show 0<1000;decide),?_⟩
  have zC:∀y∈LR.mut,H y=none:=fun y hy=>by
   refine(s2.trans QZ).free ?_;rcases fr4 y hy with h|h
   ·rw[h];exact pB
   ·exact((fQ.new zE).put pB).free h
  have zD:∀y∈LR.S.fp,H y=none:=fun y hy=>by
   rw[eS] at hy;simp only[ll.fp,az,bh,cN] at hy;rcases hy with rfl|rfl|rfl
   ·exact s2.free CH
   ·exact n1
   ·exact f2
  have qe:x∉LR.mut:=fun z=>by have:=zC _ z;rw[hx] at this;cases this
  have rN:x∉LR.S.fp:=fun z=>by have:=zD _ z;rw[hx] at this;cases this
  have o5:gE [x] H4 (fM H4 x (.ins AA.j8 dx [("readout",.ref x2)])):=gE.refl.put (by simp);have g5:(fM H4 x (.ins AA.j8 dx [("readout",.ref x2)])) x=some (.ins AA.j8 dx [("readout",.ref x2)]):=fO;have CI:j0 H4 (fM H4 x (.ins AA.j8 dx [("readout",.ref x2)])):=j0.refl.put;have e0:L2.jB "readout" (V.ref x2) []=[(("readout":Str),V.ref x2)]:=rfl;rw[e0];dsimp only;generalize fM H4 x (.ins AA.j8 dx [("readout",.ref x2)])=H5 at o5 g5 CI
  have xm:ij AA H5 LR noBook ou:=lw.keep o5 (fun a ha z=>qe (by rw[<-aq.mp z];exact ha)) (fun a ha z=>by
   rw[r1,r2,r3] at ha;exact rN (by rw[<-aq.mp z];simpa using ha)) (fun y hy xs z=>by rw[aq.mp hy,f4] at z;cases z)
  refine fun x3 Q0 xB nd3 afl=> ?_
  refine⟨x3,Q0,0,Z,fO,fun H6 o6 hA6=>⟨Z,?_⟩⟩;have CJ:fQ H5 H6:=fQ.made xB nd3 fun b o e n=>o6 b o e (by simpa using n)
  refine⟨_,Z,x,_,dx,_,Z,CJ _ _ g5,T.j9,T.xH,(by show 1<1000;decide),?_⟩;have Jl:=je.made (c:=0) (CJ _ _ g5) (xm.same CJ) r1 r2 r3 hA6 qe (fun z=>by rw[<-z,g5] at xB;cases xB) (fun z=>by have:=xm.lL _ z;rw[xB] at this;cases this) rN (fun z=>by have:=xm.set.xf _ z;rw[xB] at this;cases this) aaL;rw[<-eR];refine hq _ ⟨x,dx,LR,⟨x3,Q0,none⟩⟩ Z ?_ Jl ?_ ?_
  ·exact(((Jn.own).trans o5).trans CJ.own).put (by simp)
  ·intro a ha;rcases az.mp ha with rfl|ha
   ·exact .inl Z
   ·rcases aG.mp ha with ha|ha
    ·exact .inr (zC a ha)
    ·have z:a=x3:=by simpa [jO.mut] using ha
     exact .inr (by rw[z];exact Jn.free (CI _ xB))
  ·intro a ha;have ha:a∈LR.rows++LR.gD++LR.gO++LR.S.fp:=ha;rw[r1,r2,r3] at ha;exact zD a (by simpa using ha)
end
end FE
namespace FE
open PySem PySem.Spec PyProof.Rows L2
open Vbkdaa (Book State stepNumbers)
open PyVbkdaa (shape)
theorem FQ{p:Int}{k r:Nat}(h:shape p=some (k,r)):(r=0\/r=1)/\k<=2/\(r=1->(PyVbkdaa.bound p).2=[(-1000000000000000000,1000000000000000000,0,1100)]):=by
 unfold shape at h;unfold PyVbkdaa.bound
 by_cases h0:p=0
 ·rw[aw h0] at h;obtain⟨rfl,rfl⟩:=aP (af h);subst h0;exact⟨.inr Z,by decide,fun z=>by first|rfl|cases z⟩
 rw[am h0] at h
 by_cases h1:p=1
 ·rw[aw h1] at h;obtain⟨rfl,rfl⟩:=aP (af h);subst h1;exact⟨.inr Z,by decide,fun z=>by first|rfl|cases z⟩
 rw[am h1] at h
 by_cases h2:p=2
 ·rw[aw h2] at h;obtain⟨rfl,rfl⟩:=aP (af h);subst h2;exact⟨.inl Z,by decide,fun z=>by first|rfl|cases z⟩
 rw[am h2] at h
 by_cases h3:p=3
 ·rw[aw h3] at h;obtain⟨rfl,rfl⟩:=aP (af h);subst h3;exact⟨.inr Z,by decide,fun z=>by first|rfl|cases z⟩
 rw[am h3] at h
 by_cases h4:p=4
 ·rw[aw h4] at h;obtain⟨rfl,rfl⟩:=aP (af h);subst h4;exact⟨.inr Z,by decide,fun z=>by first|rfl|cases z⟩
 rw[am h4] at h
 by_cases h5:p=5
 ·rw[aw h5] at h;obtain⟨rfl,rfl⟩:=aP (af h);subst h5;exact⟨.inl Z,by decide,fun z=>by first|rfl|cases z⟩
 rw[am h5] at h
 by_cases h6:p=6
 ·rw[aw h6] at h;obtain⟨rfl,rfl⟩:=aP (af h);subst h6;exact⟨.inl Z,by decide,fun z=>by first|rfl|cases z⟩
 rw[am h6] at h
 by_cases h7:p=7
 ·rw[aw h7] at h;obtain⟨rfl,rfl⟩:=aP (af h);subst h7;exact⟨.inl Z,by decide,fun z=>by first|rfl|cases z⟩
 rw[am h7] at h
 by_cases h8:p=8
 ·rw[aw h8] at h;obtain⟨rfl,rfl⟩:=aP (af h);subst h8;exact⟨.inl Z,by decide,fun z=>by first|rfl|cases z⟩
 rw[am h8] at h
 by_cases h9:p=9
 ·rw[aw h9] at h;obtain⟨rfl,rfl⟩:=aP (af h);subst h9;exact⟨.inl Z,by decide,fun z=>by first|rfl|cases z⟩
 rw[am h9] at h
 by_cases mW:p=10
 ·rw[aw mW] at h;obtain⟨rfl,rfl⟩:=aP (af h);subst mW;exact⟨.inl Z,by decide,fun z=>by first|rfl|cases z⟩
 rw[am mW] at h
 by_cases rV:p=11
 ·rw[aw rV] at h;obtain⟨rfl,rfl⟩:=aP (af h);subst rV;exact⟨.inl Z,by decide,fun z=>by first|rfl|cases z⟩
 rw[am rV] at h
 by_cases vq:p=12
 ·rw[aw vq] at h;obtain⟨rfl,rfl⟩:=aP (af h);subst vq;exact⟨.inr Z,by decide,fun z=>by first|rfl|cases z⟩
 rw[am vq] at h
 by_cases rW:p=13
 ·rw[aw rW] at h;obtain⟨rfl,rfl⟩:=aP (af h);subst rW;exact⟨.inr Z,by decide,fun z=>by first|rfl|cases z⟩
 rw[am rW] at h
 by_cases vt:p=14
 ·rw[aw vt] at h;obtain⟨rfl,rfl⟩:=aP (af h);subst vt;exact⟨.inr Z,by decide,fun z=>by first|rfl|cases z⟩
 rw[am vt] at h
 by_cases vw:p=15
 ·rw[aw vw] at h;obtain⟨rfl,rfl⟩:=aP (af h);subst vw;exact⟨.inl Z,by decide,fun z=>by first|rfl|cases z⟩
 rw[am vw] at h
 by_cases vx:p=16
 ·rw[aw vx] at h;obtain⟨rfl,rfl⟩:=aP (af h);subst vx;exact⟨.inr Z,by decide,fun z=>by first|rfl|cases z⟩
 rw[am vx] at h
 by_cases vy:p=17
 ·rw[aw vy] at h;obtain⟨rfl,rfl⟩:=aP (af h);subst vy;exact⟨.inl Z,by decide,fun z=>by first|rfl|cases z⟩
 rw[am vy] at h
 by_cases vz:p=18
 ·rw[aw vz] at h;obtain⟨rfl,rfl⟩:=aP (af h);subst vz;exact⟨.inl Z,by decide,fun z=>by first|rfl|cases z⟩
 rw[am vz] at h
 by_cases vA:p=19
 ·rw[aw vA] at h;obtain⟨rfl,rfl⟩:=aP (af h);subst vA;exact⟨.inl Z,by decide,fun z=>by first|rfl|cases z⟩
 rw[am vA] at h
 by_cases vB:p=20
 ·rw[aw vB] at h;obtain⟨rfl,rfl⟩:=aP (af h);subst vB;exact⟨.inl Z,by decide,fun z=>by first|rfl|cases z⟩
 rw[am vB] at h;cases h
theorem X5(c:List (List Int)):PyVbkdaa.whole c=c:=by
 unfold PyVbkdaa.whole;split<;>rfl
theorem Y8{p:Int}{hU:List Int}{f:Nat}{cs:List (List (List Int))}(h:PyFlat.calls shape f (p::hU)=some cs):
 ∃(k r:Nat) (row t:List Int) (f':Nat) (pC:List (List (List Int))),shape p=some (k,r)/\k<=hU.length/\cs=iE p (r==1) (hU.take k) row::pC/\PyFlat.calls shape f' t=some pC/\
  ((r=0/\row=[]/\t=hU.drop k)\/(r=1/\∃(n:Nat) (jA:List Int),hU.drop k=(n:Int)::jA/\n<=jA.length/\row=jA.take n/\t=jA.drop n)):=by
 cases f with
 |zero=>cases h
 |succ f=>
  unfold PyFlat.calls at h;cases hc:PyFlat.call shape (p::hU) with
  |none=>rw[hc] at h;cases h
  |some ct=>
   obtain⟨c,t⟩:=ct;rw[hc] at h;simp only at h;cases pD:PyFlat.calls shape f t with
   |none=>rw[pD] at h;cases h
   |some pC=>
    rw[pD] at h;have h:c::pC=cs:=af h;unfold PyFlat.call at hc;simp only at hc;cases hs:shape p with
    |none=>rw[hs] at hc;cases hc
    |some kr=>
     obtain⟨k,r⟩:=kr;rw[hs] at hc;simp only at hc
     by_cases hl:hU.length<k
     ·rw[aw hl] at hc;cases hc
     ·rw[am hl] at hc;rcases(FQ hs).1 with h0|h0
      ·subst h0;have hc:some ((p::hU.take k)::[],hU.drop k)=some (c,t):=hc;have e:=aP (af hc);exact⟨k,0,[],t,f,pC,Z,by omega,by rw[<-h,<-e.1];rfl,pD,.inl ⟨Z,Z,e.2.symm⟩⟩
      ·subst h0;cases hd:hU.drop k with
       |nil=>
        rw[hd] at hc;cases hc
       |cons n jA=>
        rw[hd] at hc
        by_cases hn:0<=n/\n.toNat<=jA.length
        ·have hr:PyFlat.rows 1 (n::jA)=some ([jA.take n.toNat],jA.drop n.toNat):=by
          have jU:PyFlat.row (n::jA)=some (jA.take n.toNat,jA.drop n.toNat):=by
           show(if 0<=n/\n.toNat<=jA.length then _ else _)=_;rw[aw hn]
          show(match PyFlat.row (n::jA) with|none=>none|some (x,s)=>_)=_;rw[jU];rfl
         rw[hr] at hc;have e:=aP (af hc);obtain⟨j,rfl⟩:=bB hn.1;rw[a7] at e hn;exact⟨k,1,jA.take j,t,f,pC,Z,by omega,by rw[<-h,<-e.1];rfl,pD,.inr ⟨Z,j,jA,hd,hn.2,Z,e.2.symm⟩⟩
        ·have hr:PyFlat.rows 1 (n::jA)=none:=by
          have jU:PyFlat.row (n::jA)=none:=by
           show(if 0<=n/\n.toNat<=jA.length then _ else _)=_;rw[am hn]
          show(match PyFlat.row (n::jA) with|none=>none|some (x,s)=>_)=_;rw[jU]
         rw[hr] at hc;cases hc
theorem WX{p:Int}{k r:Nat}{ns row:List Int}(hs:shape p=some (k,r))(h:PyInside.call PyVbkdaa.bound (iE p (r==1) ns row)=true)(h0:r=0->row=[]):row.length<=1100:=by
 rcases(FQ hs).1 with e|e
 ·rw[h0 e];exact aN _
 ·subst e;have h:(PyInside.each (PyVbkdaa.bound p).1 ns&&PyInside.lists (PyVbkdaa.bound p).2 [row])=true:=h;rw[(FQ hs).2.2 rfl,aH] at h;have h2:=h.2;unfold PyInside.lists at h2;rw[aH,aH,aH,aJ,aJ] at h2;exact h2.1.1.2
def after:State->List (List (List Int))->State
 |s,[]=>s
 |s,c::r=>after (stepNumbers s c).1 r
theorem LZ(s:State)(l:List (List (List Int)))(c:List (List Int)):after s (l++[c])=(stepNumbers (after s l) c).1:=by
 induction l generalizing s with
 |nil=>rfl
 |cons x r ih=>exact ih _
theorem VO(s:State)(l r:List (List (List Int))):PyFlat.played stepNumbers s (l++r)=PyFlat.played stepNumbers s l++PyFlat.played stepNumbers (after s l) r:=by
 induction l generalizing s with
 |nil=>rfl
 |cons x t ih=>
  show _::PyFlat.played stepNumbers _ (t++r)=_::(PyFlat.played stepNumbers _ t++_);rw[ih];rfl
def kd(l:List (List (List Int))):List Int:=PyFlat.told (PyFlat.played stepNumbers Vbkdaa.start l)
theorem Na(l r:List (List (List Int))):kd (l++r)=kd l++PyFlat.told (PyFlat.played stepNumbers (after Vbkdaa.start l) r):=by
 unfold kd PyFlat.told;rw[VO,bO]
theorem VP{l:List Int}{cs:List (List (List Int))}(h:PyFlat.calls shape l.length l=some cs):PyVbkdaa.answers l=kd cs:=by
 unfold PyVbkdaa.answers PyVbkdaa.calls;rw[h];show PyFlat.told (PyFlat.played VbkdaaNeutral.step VbkdaaNeutral.start (cs.map PyVbkdaa.whole))=_;rw[show cs.map PyVbkdaa.whole=cs by rw[bW (fun c _=>X5 c),List.map_id']];rfl
theorem Nb(l:List (List (List Int)))(c:List (List Int)):kd (l++[c])=kd l++((((stepNumbers (after Vbkdaa.start l) c).2.length:Nat):Int)::(stepNumbers (after Vbkdaa.start l) c).2):=by
 rw[Na];show _++PyFlat.told [(stepNumbers (after Vbkdaa.start l) c).2]=_;unfold PyFlat.told;rw[br,List.flatMap_nil,bc]
theorem Nc(l r:List (List (List Int))):(kd l).length<=(kd (l++r)).length:=by rw[Na,ag];omega
def GV(K:PySem.W.Frag):Sp:=fun vs H Q _=>∃(a:Addr) (l:List Int),vs=[.ref a]/\fR K H a (l.map V.int)/\PyVbkdaa.answers_asked l=true/\∀(H':Hp) (q:Addr),fQ H H'->H' q=some (.lst ((PyVbkdaa.answers l).map V.int))->Q (.ref q) H'
section
variable {P:Program} {w:World} {K:PySem.W.Frag} {mg:Str->Option Value} {base:Heap} {AA:gu}
theorem VQ:gP ["calls","front","given","place","call","numbers_end","numbers","row","answer"] ["calls"] (gL (fX 127)):=gX (by decide+kernel)
theorem VR(T:Tx P w K mg AA):gK P w K mg base gT 9 AA.Fh AA.Fi ["calls"] (GV K):=by
 have VS:=U6 (base:=base) T;have WY:=VN (base:=base) T;have U7:=Us (base:=base) T;have TQ:=Ta (base:=base) T;have SC:=VQ;refine T.answers.fn.ok SC (fun vs H Q E h=> ?_) (fun gy A outer s H vs Q E hr h=> ?_)
 ·obtain⟨a,l,rfl,_⟩:=h;rfl
 ·obtain⟨a,l,rfl,hA,rl,hq⟩:=h
  obtain⟨all,oR⟩:∃cs,PyFlat.calls shape l.length l=some cs:=by
   unfold PyVbkdaa.answers_asked at rl;cases e:PyFlat.calls shape l.length l with
   |none=>rw[e] at rl;cases rl
   |some cs=>exact⟨cs,Z⟩
  have mw:=VP oR
  have hb:all.length<=120/\(∀c∈all,PyInside.call PyVbkdaa.bound c=true)/\(kd all).length<=10000000:=by
   unfold PyVbkdaa.answers_asked at rl;rw[oR] at rl;simp only[aH] at rl;obtain⟨⟨⟨⟨_,h1⟩,h2⟩,_⟩,h3⟩:=rl;unfold PyFlat.atMost at h1;unfold PyInside.calls at h2;unfold PyFlat.short at h3;rw[mw] at h3;exact⟨cF h1,a9.mp h2,cF h3⟩
  obtain⟨wZ,lu,hb3⟩:=hb;rw[mw] at hq
  refine⟨_,(fS (gj (i:=1) SC.nd Z (Or.inl Z) (W3 T.We VS (hr.mono (by decide)) Z T.Vj T.Wf .nil gG))
   (fS (gj (i:=2) SC.nd Z (Or.inl Z) (gI fP))
   (fS (gj (i:=3) SC.nd Z (Or.inl Z) fW)
   (fS (MD bg (io sD (pv 3) (gU iL (by rfl) T.len aF (fN (pv 0) fP)) (ii _))
     (fS (gj (i:=4) SC.nd Z (Or.inl Z) (hV jb (pv 0) (pv 3) (fun _ _=>rfl)))
     (fS (gj (i:=5) SC.nd Z (Or.inl Z) (gA jg (gA jg (pv 3) fW) (ic TQ (hr.mono (by decide)) Z T.zY.mg T.zY.fn.kp T.zY.b .nil gG (fN (pv 4) fP))))
     (fS (gj (i:=6) SC.nd Z (Or.inl Z) (oB oF (pv 0) (kn (gA jg (pv 3) fW)) (kn (pv 5))))
     (fS (gj (i:=7) SC.nd Z (Or.inl Z) (gI fP))
     (fS (gj (i:=3) SC.nd Z (Or.inl Z) (pv 5))
     (fS (gY (lT (ic WY (hr.mono (by decide)) Z T.AU.mg T.AU.fn.kp T.AU.b .nil gG (fN (pv 4) fP)))
       (fS (gj (i:=3) SC.nd Z (Or.inl Z) (gA jg (gA jg (pv 5) fW) (hV jb (pv 0) (pv 5) (fun _ _=>rfl))))
       (fV (gj (i:=7) SC.nd Z (Or.inl Z) (oB oF (pv 0) (kn (gA jg (pv 5) fW)) (kn (pv 3))))))
       ia)
     (fS (gj (i:=8) SC.nd Z (Or.inl Z) (ic U7 (hr.mono (by decide)) Z T.Ao.mg T.Ao.fn.kp T.Ao.b .nil gG (fN (pv 1) (fN (pv 4) (fN (pv 6) (fN (pv 7) fP))))))
     (fS (iR (iT ax aI aL kE (pv 2) (fN (gU iL (by rfl) T.len aF (fN (pv 8) fP)) fP)))
     (fV (iR (iT ax a0 a5 m6 (pv 2) (fN (pv 8) fP)))))))))))))
   (fV (gC (pv 2))))))),?_⟩
  refine fun x dx nx nd Cw=> ?_
  refine⟨x,dx,Z,fO,fun H1 F eF o1 iH Q3 fd1=>⟨Z,?_⟩⟩;have s1:fQ H H1:=fQ.made nx nd fun b o e n=>o1 b o e (by simpa using n)
  have yX:∀y,(fM (fM H dx (.own x)) x (.ins AA.j8 dx [])) y=none->H y=none:=fun y hy=>((fQ.new nd).put nx).free hy
  refine⟨aN _,fun g ng=> ?_⟩;have s2:fQ H (fM H1 g (.lst [])):=s1.more ng;have g2:(fM H1 g (.lst [])) g=some (.lst []):=fO;have jl:=iH.same (fQ.new (o:=.lst []) ng);have CK:H g=none:=s1.free ng
  refine ME (fun σ H'=>∃(F:iy) (m:RS) (dn cs:List (List (List Int))) (f j:Nat) (v4 v5 v6 v7 v8:Option V),σ=[some (.ref a),some (.ref x),some (.ref g),some (.int (j:Int)),v4,v5,v6,v7,v8]/\F.f=x/\fQ H H'/\je AA H' F (after Vbkdaa.start dn) m dn.length/\dn++cs=all/\PyFlat.calls shape f (l.drop j)=some cs/\j<=l.length/\H' g=some (.lst ((kd dn).map V.int))/\(∀y∈F.mut,H y=none/\y≠g)/\(∀y∈F.deep,y≠g))
   (fun σ _=>match σ with|[_,_,_,some (.int j),_,_,_,_,_]=>l.length-j.toNat|_=>0)
   ⟨F,ou,[],all,l.length,0,none,none,none,none,none,Z,eF,s2,jl,Z,oR,aN _,g2,fun y hy=>⟨?_,?_⟩,fun y hy z=> ?_⟩ ?_ ?_
  ·rcases Q3 y hy with h|h
   ·rw[h];exact nx
   ·exact yX y h
  ·intro z;have:=iH.lL y hy;rw[z,ng] at this;cases this
  ·have:(H1 y).isSome=true:=iH.rd.G9 y hy;rw[z,ng] at this;cases this
  ·clear iH jl Q3 fd1 g2 s2 o1 eF;rintro σ H3 ⟨F,m,dn,cs,f,j,v4,v5,v6,v7,v8,rfl,eF,s3,kN,tU,pD,hj,g3,fm,fd⟩;subst eF;have CM:=s3.seq hA;refine⟨_,Z,_,Z,a,_,Z,.inl CM,_,_,Z,Z,_,Z,?_⟩;rw[ac]
   by_cases hZ:j<l.length
   ·refine fZ (ai (by omega)) ?_;have hd:l.drop j=l[j]::l.drop (j+1):=List.drop_eq_getElem_cons hZ;have hp:l[j]? =some l[j]:=ak hZ;rw[hd] at pD;generalize l[j]=p at pD hp;obtain⟨k,r,row,t,f',pC,hs,Qq,xC,Pi,jU⟩:=Y8 pD;rw[aW] at Qq;have dl:dn.length+cs.length=all.length:=by rw[<-tU,ag]
    have cl:cs.length=pC.length+1:=by rw[xC,aj]
    have Q4:row.length<=1100:=by
     refine WX (ns:=(l.drop (j+1)).take k) hs (lu _ ?_) ?_
     ·rw[<-tU,xC];simp
     ·rintro rfl;rcases jU with h|h
      ·exact h.2.1
      ·cases h.1
    refine⟨_,Z,_,Z,a,_,_,_,Z,Z,CM,ir (j:=j) Z (by rw[au,hp];rfl),?_⟩;refine⟨_,Z,_,_,Z,Z,_,Z,p,k,r,Z,hs,_,_,Z,Z,?_⟩;refine⟨_,Z,_,Z,_,_,Z,Z,_,Z,_,Z,_,Z,a,_,Z,CM,fun q1 n1=> ?_⟩
    have ec1:jZ (l.map V.int) (some ((j:Int)+1)) (some ((j:Int)+1+(k:Int)))=((l.drop (j+1)).take k).map V.int:=by
     rw[show(j:Int)+1=((j+1:Nat):Int) by omega,show((j+1:Nat):Int)+(k:Int)=((j+1+k:Nat):Int) by omega,su,b9,cq,show j+1+k-(j+1)=k by omega]
    rw[ec1];have Q5:fQ H3 (fM H3 q1 (.lst (((l.drop (j+1)).take k).map V.int))):=fQ.new n1;have Q6:(fM H3 q1 (.lst (((l.drop (j+1)).take k).map V.int))) q1=_:=fO;refine⟨aN _,fun q2 n2=> ?_⟩;have zF:=Q5.more (o:=.lst []) n2;have CN:(fM (fM H3 q1 (.lst (((l.drop (j+1)).take k).map V.int))) q2 (.lst [])) q1=some (.lst (((l.drop (j+1)).take k).map V.int)):=(fT (gf Q6 n2)).trans Q6;have Q7:(fM (fM H3 q1 (.lst (((l.drop (j+1)).take k).map V.int))) q2 (.lst [])) q2=some (.lst (([]:List Int).map V.int)):=fO;have nR2:H3 q2=none:=Q5.free n2;show jR _ _ _ _ (fM (fM H3 q1 (.lst (((l.drop (j+1)).take k).map V.int))) q2 (.lst []));generalize fM (fM H3 q1 (.lst (((l.drop (j+1)).take k).map V.int))) q2 (.lst [])=H4 at zF CN Q7;refine⟨_,Z,?_⟩;refine⟨_,Z,p,k,r,Z,hs,_,Z,?_⟩;rcases jU with⟨zm,abP,hT⟩|⟨hr1,n,jA,hT0,hn,kJ,hT⟩
    ·refine gn (by rw[zm];rfl) ?_;have qS:=zF;have gN:=CN;have gR:=Q7;rw[<-abP] at gR;have nN:=n1;have nR:=nR2;have hT:t=l.drop (j+1+k):=by rw[hT,bw]
     have Jo:j+1+k<=l.length:=by omega
     refine⟨_,Z,_,Z,_,Z,_,Z,F.f,p,q1,q2,k,r,Z,hs,F,after Vbkdaa.start dn,m,dn.length,q1,q2,(l.drop (j+1)).take k,row,Z,kN.same qS,by omega,gN,gR,fun z=> ?_,fun z=> ?_,by rw[aD,aW];omega,Q4,fun H5 F5 m5 q5 e5 o5 CI zG Jp Jq g5 f5=> ?_⟩
     ·have:=kN.lL _ z;rw[nN] at this;cases this
     ·have:=kN.lL _ z;rw[nR] at this;cases this
     have rX:=qS _ _ g3;have vC:=o5 _ _ rX (fun z=>(fm g z).2 rfl);have Jr:q5≠g:=fun z=>by rw[z,rX] at f5;cases f5
     have j6:(kd (dn++[iE p (r==1) ((l.drop (j+1)).take k) row])).length<=10000000:=by
      have:=Nc (dn++[iE p (r==1) ((l.drop (j+1)).take k) row]) pC;rw[a6,c7,<-xC,tU] at this;omega
     have et:=Nb dn (iE p (r==1) ((l.drop (j+1)).take k) row);rw[et,ag,aj] at j6;have Js:fQ H H5:=fun b o e=>o5 b o ((s3.trans qS) b o e) (fun z=>by have:=(fm b z).1;rw[e] at this;cases this)
     have e7:=LZ Vbkdaa.start dn (iE p (r==1) ((l.drop (j+1)).take k) row);generalize hST:stepNumbers (after Vbkdaa.start dn) (iE p (r==1) ((l.drop (j+1)).take k) row)=ST at zG g5 et j6 e7;refine⟨_,Z,.inl ⟨Z,_,fR.of vC⟩,_,Z,q5,_,Z,.inl (fR.of g5),g,_,_,Z,Z,vC,cC (show _<=10000000 by rw[ac];omega) (by decide),?_⟩;rw[ac];have tP:=Js.put (o:=.lst ((kd dn).map V.int++[V.int (ST.2.length:Int)])) CK;have g6:(fM H5 g (.lst ((kd dn).map V.int++[V.int (ST.2.length:Int)]))) g=_:=fO;have zH:(fM H5 g (.lst ((kd dn).map V.int++[V.int (ST.2.length:Int)]))) q5=_:=(fT Jr).trans g5;have o6:gE [g] H5 (fM H5 g (.lst ((kd dn).map V.int++[V.int (ST.2.length:Int)]))):=gE.refl.put (by simp);generalize fM H5 g (.lst ((kd dn).map V.int++[V.int (ST.2.length:Int)]))=H6 at tP g6 zH o6;refine⟨_,Z,.inl ⟨Z,_,fR.of g6⟩,_,Z,g,q5,_,_,Z,Z,g6,zH,a8 (show _<=10000000 by rw[ag,ac,ac];simp only[aj,aZ];omega) (by decide),?_⟩;have o7:=o6.put (o:=.lst ((kd dn).map V.int++[V.int (ST.2.length:Int)]++ST.2.map V.int)) (p:=g) (by simp)
     have nm:∀y∈F5.mut,H y=none/\y≠g:=fun y hy=>by
      rcases Jp y hy with h|h
      ·exact fm y h
      ·exact⟨(s3.trans qS).free h,fun z=>by rw[z,rX] at h;cases h⟩
     have zI:∀y∈F5.deep,y≠g:=fun y hy z=>by
      rcases Jq y hy with h|h|h
      ·exact fd y h z
      ·rw[z] at h;rw[<-h,g3] at nR;cases nR
      ·rw[z,rX] at h;cases h
     refine⟨⟨F5,m5,dn++[iE p (r==1) ((l.drop (j+1)).take k) row],pC,f',(j+1+k),_,_,_,_,_,Z,e5,tP.put CK,?_,?_,?_,Jo,?_,nm,zI⟩,?_⟩
     ·rw[e7,ag];exact zG.keep o7 (fun a ha z=>(nm a ha).2 (aq.mp z)) (fun a ha z=>zI a ha (aq.mp z)) (fun y hy xs z=>by rw[aq.mp hy,vC] at z;cases z)
     ·rw[a6,c7,<-xC];exact tU
     ·rw[<-hT];exact Pi
     ·rw[fO,et,ao,aB,a6];rfl
     ·show l.length-_<l.length-(j:Int).toNat;omega
    ·refine fZ (by rw[hr1];rfl) ?_;have CF:=zF.seq CM;have Jt:l.drop (j+1+k)=(n:Int)::jA:=by rw[<-bw];exact hT0
     have hpn:l[j+1+k]? =some (n:Int):=by
      have:=congrArg List.head? Jt;rw[cJ] at this;exact this
     have Q8:jA=l.drop (j+1+k+1):=by
      have:=congrArg List.tail Jt;rw[List.tail_drop] at this;exact this.symm
     have P2:(l.drop (j+1+k)).length=jA.length+1:=by rw[Jt,aj]
     rw[aW] at P2;refine⟨_,Z,_,_,Z,Z,_,Z,_,Z,a,_,_,_,Z,Z,CF,ir (j:=j+1+k) (by omega) (by rw[au,hpn];rfl),_,_,Z,Z,?_⟩;refine⟨_,Z,_,Z,_,_,Z,Z,_,Z,_,Z,_,Z,a,_,Z,CF,fun q3 n3=> ?_⟩
     have ec2:jZ (l.map V.int) (some ((j:Int)+1+(k:Int)+1)) (some ((j:Int)+1+(k:Int)+1+(n:Int)))=(jA.take n).map V.int:=by
      rw[show(j:Int)+1+(k:Int)+1=((j+1+k+1:Nat):Int) by omega,show((j+1+k+1:Nat):Int)+(n:Int)=((j+1+k+1+n:Nat):Int) by omega,su,b9,Q8,cq,show j+1+k+1+n-(j+1+k+1)=n by omega]
     rw[ec2];have qS:=zF.more (o:=.lst ((jA.take n).map V.int)) n3;have gN:(fM H4 q3 (.lst ((jA.take n).map V.int))) q1=_:=(fT (gf CN n3)).trans CN;have gR:(fM H4 q3 (.lst ((jA.take n).map V.int))) q3=some (.lst ((jA.take n).map V.int)):=fO;have nN:=n1;have nR:H3 q3=none:=zF.free n3;generalize fM H4 q3 (.lst ((jA.take n).map V.int))=H4' at qS gN gR;have hT:t=l.drop (j+1+k+1+n):=by rw[hT,Q8,bw]
     have Jo:j+1+k+1+n<=l.length:=by omega
     rw[<-kJ] at gR;refine⟨_,Z,_,Z,_,Z,_,Z,F.f,p,q1,q3,k,r,Z,hs,F,after Vbkdaa.start dn,m,dn.length,q1,q3,(l.drop (j+1)).take k,row,Z,kN.same qS,by omega,gN,gR,fun z=> ?_,fun z=> ?_,by rw[aD,aW];omega,Q4,fun H5 F5 m5 q5 e5 o5 CI zG Jp Jq g5 f5=> ?_⟩
     ·have:=kN.lL _ z;rw[nN] at this;cases this
     ·have:=kN.lL _ z;rw[nR] at this;cases this
     have rX:=qS _ _ g3;have vC:=o5 _ _ rX (fun z=>(fm g z).2 rfl);have Jr:q5≠g:=fun z=>by rw[z,rX] at f5;cases f5
     have j6:(kd (dn++[iE p (r==1) ((l.drop (j+1)).take k) row])).length<=10000000:=by
      have:=Nc (dn++[iE p (r==1) ((l.drop (j+1)).take k) row]) pC;rw[a6,c7,<-xC,tU] at this;omega
     have et:=Nb dn (iE p (r==1) ((l.drop (j+1)).take k) row);rw[et,ag,aj] at j6;have Js:fQ H H5:=fun b o e=>o5 b o ((s3.trans qS) b o e) (fun z=>by have:=(fm b z).1;rw[e] at this;cases this)
     have e7:=LZ Vbkdaa.start dn (iE p (r==1) ((l.drop (j+1)).take k) row);generalize hST:stepNumbers (after Vbkdaa.start dn) (iE p (r==1) ((l.drop (j+1)).take k) row)=ST at zG g5 et j6 e7;refine⟨_,Z,.inl ⟨Z,_,fR.of vC⟩,_,Z,q5,_,Z,.inl (fR.of g5),g,_,_,Z,Z,vC,cC (show _<=10000000 by rw[ac];omega) (by decide),?_⟩;rw[ac];have tP:=Js.put (o:=.lst ((kd dn).map V.int++[V.int (ST.2.length:Int)])) CK;have g6:(fM H5 g (.lst ((kd dn).map V.int++[V.int (ST.2.length:Int)]))) g=_:=fO;have zH:(fM H5 g (.lst ((kd dn).map V.int++[V.int (ST.2.length:Int)]))) q5=_:=(fT Jr).trans g5;have o6:gE [g] H5 (fM H5 g (.lst ((kd dn).map V.int++[V.int (ST.2.length:Int)]))):=gE.refl.put (by simp);generalize fM H5 g (.lst ((kd dn).map V.int++[V.int (ST.2.length:Int)]))=H6 at tP g6 zH o6;refine⟨_,Z,.inl ⟨Z,_,fR.of g6⟩,_,Z,g,q5,_,_,Z,Z,g6,zH,a8 (show _<=10000000 by rw[ag,ac,ac];simp only[aj,aZ];omega) (by decide),?_⟩;have o7:=o6.put (o:=.lst ((kd dn).map V.int++[V.int (ST.2.length:Int)]++ST.2.map V.int)) (p:=g) (by simp)
     have nm:∀y∈F5.mut,H y=none/\y≠g:=fun y hy=>by
      rcases Jp y hy with h|h
      ·exact fm y h
      ·exact⟨(s3.trans qS).free h,fun z=>by rw[z,rX] at h;cases h⟩
     have zI:∀y∈F5.deep,y≠g:=fun y hy z=>by
      rcases Jq y hy with h|h|h
      ·exact fd y h z
      ·rw[z] at h;rw[<-h,g3] at nR;cases nR
      ·rw[z,rX] at h;cases h
     refine⟨⟨F5,m5,dn++[iE p (r==1) ((l.drop (j+1)).take k) row],pC,f',(j+1+k+1+n),_,_,_,_,_,Z,e5,tP.put CK,?_,?_,?_,Jo,?_,nm,zI⟩,?_⟩
     ·rw[e7,ag];exact zG.keep o7 (fun a ha z=>(nm a ha).2 (aq.mp z)) (fun a ha z=>zI a ha (aq.mp z)) (fun y hy xs z=>by rw[aq.mp hy,vC] at z;cases z)
     ·rw[a6,c7,<-xC];exact tU
     ·rw[<-hT];exact Pi
     ·rw[fO,et,ao,aB,a6];rfl
     ·show l.length-_<l.length-(j:Int).toNat;omega
   ·refine gn (ae (by omega)) ?_;have e:j=l.length:=by omega
    rw[e,eu] at pD;have pD:some []=some cs:=by cases f<;>exact pD
    rw[<-af pD,bc] at tU;refine⟨_,Z,?_⟩;refine hq H3 g s3 ?_;rw[<-tU];exact g3
  ·rintro σ H' Q1 Q2 hm ⟨v,hv,v0,hv0,p,ys,e0,sq,i,j,e1,e2,c,e3,q⟩;exact⟨v,hv,v0,hv0,p,ys,e0,sq,i,j,e1,e2,c,e3,hm _ _ q⟩
end
end FE
namespace FE
open PySem PySem.Spec PyProof.Rows L2
def Pj(w:World):List (L2.Key×V)->List DictEntry->Prop:=Paired fun p e=>sy p.1 e.key=true/\e.hash=Ha w p.1/\RelV p.2 e.val
theorem AL{P:Program}{w:World}{kvs:List (L2.Key×V)}{es:List DictEntry}(h:Pj w kvs es):KV kvs (List.zipWith (fun p e=>(p.1,e.val)) kvs es)/\(∀e∈es,∃k,sy k e.key=true/\e.hash=Ha w k)/\Pairs (k8 P w) es (List.zipWith (fun p e=>(p.1,e.val)) kvs es)/\(List.zipWith (fun p e=>(p.1,e.val)) kvs es).map (·.1)=kvs.map (·.1):=by
 induction h with
 |nil=>exact⟨.nil,(fun e h=>(by cases h)),.nil,Z⟩
 |cons h1 _ ih=>
  obtain⟨i1,i2,i3,i4⟩:=ih;refine⟨.cons ⟨Z,h1.2.2⟩ i1,fun e he=> ?_,.cons h1.1 rfl i3,?_⟩
  ·rcases az.mp he with rfl|he
   ·exact⟨_,h1.1,h1.2.1⟩
   ·exact i2 e he
  ·rw[cP,aB,i4];rfl
theorem Nd{P:Program}{w:World}{K:PySem.W.Frag}{a:Addr}{es:List DictEntry}{ep:Nat}{kvs:List (L2.Key×V)}(l:K.lookup a=some ⟨.type "dict",none,.dict es.toArray ep,#[]⟩)(hs:(a==sysModules)=false)(he:Pj w kvs es)(hn:(kvs.map (·.1)).Nodup):wj P w K a kvs:=by
 refine⟨hs,List.zipWith (fun p e=>(p.1,e.val)) kvs es,?_,fun h X=>⟨_,es.toArray,ep,X _ _ l,⟨Z,Z,Z⟩,Z,?_,?_,?_⟩⟩
 ·exact(AL (P:=P) he).1
 ·exact fun e h=>(AL (P:=P) he).2.1 e (List.mem_toArray.mp h)
 ·exact(AL (P:=P) he).2.2.1
 ·rw[(AL (P:=P) he).2.2.2];exact hn
theorem N3{K:PySem.W.Frag}{a:Addr}{xs:List V}{o:Option Addr}{fU:List Value}{n:Nat}{sl:Array (Option Value)}(l:K.lookup a=some ⟨.type "tuple",o,.seq fU.toArray n,sl⟩)(h:fU.length<=sizeLine)(r:gF xs fU):iX K a xs:=⟨_,fU.toArray,_,l,Z,Z,by simpa using h,by simpa using r⟩
theorem Ol{K:PySem.W.Frag}{h:Heap}{mg:Str->Option Value}{x:Str}{st:Stmt}{ps:List Str}{f:Addr}{oc:Value}{od an:Option Addr}{oX:Array (Option Value)}{kV doc pm gy ct:Value}(X:K.In h)(G:h.Ns mainGlobals mg)(a:PySem.W.nsIn K mainGlobals x=some (some (.ref f)))
 (l:K.lookup f=some ⟨oc,od,.func (PySem.W.fnOf x x (uy st) (qY st) (gL st) .none kV doc pm an gy ct),oX⟩) (c:PySem.W.codeIn K gy x=true) (k:PySem.W.keepIn K (.ref f)=true)
 (b:∀(kV doc pm:Value) (an:Option Addr) (gy ct:Value) (us:List Value),us.length=ps.length->bindArgs (PySem.W.fnOf x x (uy st) (qY st) (gL st) .none kV doc pm an gy ct) ⟨us,[]⟩=pure (ps.zip us)):iz K mg x st ps f (PySem.W.fnOf x x (uy st) (qY st) (gL st) .none kV doc pm an gy ct):=
 ⟨Ba l c k,eI X G a,(Ba l c k).binds b⟩
def Nf(es:List DictEntry):Bool:=es.all fun e=>match e.key with
 |.str _ _=>true
 |_=>false
theorem VT{es:List DictEntry}(h:Nf es=true):StrKeys es.toArray:=fun e he=>by
 have z:=a9.mp h e (List.mem_toArray.mp he);revert z;cases e.key with
 |str n t=>exact fun _=>⟨n,t,Z⟩
 |_=>intro z;cases z
theorem N4{K:PySem.W.Frag}{C fI N:Addr}{nm q bs sn sub ab col dd k0 k1 k2 k3 k5}{oc:Value}{od:Option Addr}{sl:Array (Option Value)}{es:List DictEntry}{ep:Nat}{of:Option Addr}{df:Data}{sf:Array (Option Value)}
 (h0:PySem.W.findIn K (.ref C) "__init__"=some (some (.ref fI)))
 (h1:K.lookup C=some (excClassObj nm q C N bs FX.qJ true sn sub ab col dd k0 k1 k2 k3 k5 "Exception.__new__")) (h2:K.lookup N=some ⟨oc,od,.dict es.toArray ep,sl⟩)
 (h4:Nf es=true) (h5:nsFind es.toArray "__init__"=some (.ref fI)) (h6:nsFind es.toArray "__setattr__"=none) (h7:nsFind es.toArray "__getattribute__"=none) (h8:nsFind es.toArray "__getattr__"=none) (h9:nsFind es.toArray "kind"=none) (mW:nsFind es.toArray "place"=none)
 (rV:K.lookup fI=some ⟨.type "function",of,df,sf⟩) (rW:PySem.W.keepIn K (.ref C)=true):pR K C fI:=
 ⟨⟨nm,q,N,bs,sn,sub,ab,col,dd,k0,k1,k2,k3,k5,_,_,ep,h1,h2,Z,VT h4,h5,h6,h7,h8,h9,mW⟩,⟨_,rV,Z⟩,rW⟩
theorem OM{K:PySem.W.Frag}{C:Addr}{f:Str}(h:PySem.W.findIn K (.ref C) f=some none):jh K C f:=h
theorem fin{P:Program}{w:World}{K:PySem.W.Frag}{mg:Str->Option Value}{AA:gu}{f:Addr}(T:Tx P w K mg AA)(e:AA.Fh=f)(b:∀(s:Shared) (us:List Value),us.length=(["calls"]:List Str).length->BindsTo s AA.Fi ⟨us,[]⟩ ((["calls"]:List Str).zip us)):
 ∃fd:FuncData,(∀(s:Shared) (us:List Value),us.length=(["calls"]:List Str).length->BindsTo s fd ⟨us,[]⟩ ((["calls"]:List Str).zip us))/\∀base:Heap,K.In base->base.Ns mainGlobals mg->gK P w K mg base gT 9 f fd ["calls"] (GV K):=by
 subst e;exact⟨_,b,fun base _ _=>VR T⟩
open PySem.W (WData Codec OpenSpec Well WellAll ReadsW ReadsAllW)
theorem MA{P:Params}{h:Heap}:∀(l:List Int) (us:List Value),WellAll P h us (l.map WData.int)->gF (l.map V.int) us
 |[],_,x=>by
  cases x;exact .nil
 |i::r,_,x=>by
  cases x with
  |cons h1 h2=>
   cases h1;exact .cons ⟨_,Z⟩ (MA r _ h2)
theorem FR{R:PySem.W.WRecords}{cl:Str->Option Addr}{h:Heap}:∀(l:List Int) (us:List Value),gF (l.map V.int) us->∃as,ReadsAllW R cl h us (l.map WData.int) as
 |[],_,x=>by
  cases x;exact⟨_,ReadsAllW.nil⟩
 |i::r,_,x=>by
  cases x with
  |cons h1 h2=>
   obtain⟨t,rfl⟩:=h1;obtain⟨as,q⟩:=FR r _ h2;exact⟨_,ReadsAllW.cons (ReadsW.int i t) q⟩
def Hv(K:PySem.W.Frag)(a:Addr)(o:Obj)(xs:List V):Hp:=fun b=>if b=a/\(K.lookup b).isNone=true then some (.jP o (.lst xs)) else none
theorem walk{q:Program}{aaM:List Str}{XP:(Str->Option Value)->Heap->Prop}{YP:World->Heap->Prop}{d:DefRec}{K:Params->PySem.W.Frag}{sp:PySem.W.Frag->Sp}
 (aaN:PySem.Challenge.rw_frontends_s01_answers.wellSaid=true)
 (hY:∀(w:World) (h:Heap),YP w h->(K w.params).In h)
 (F:∀(w:World) (mg:Str->Option Value) (fa:Addr) (h:Heap),YP w h->(K w.params).In h->h.Ns mainGlobals mg->mg d.name=some (.ref fa)->
   ∃fd:FuncData,(∀(s:Shared) (us:List Value),us.length=(["calls"]:List Str).length->BindsTo s fd ⟨us,[]⟩ ((["calls"]:List Str).zip us))/\
    ∀base:Heap,(K w.params).In base->base.Ns mainGlobals mg->gK PySem.Challenge.rw_frontends_s01_answers.prog w (K w.params) mg base gT 9 fa fd ["calls"] (sp (K w.params)))
 (tj:∀(K:PySem.W.Frag) (H:Hp) (a:Addr) (l:List Int),PyVbkdaa.answers_asked l=true->fR K H a (l.map V.int)->
   sp K [.ref a] H (fun v H'=>∃p,v=.ref p/\fR K H' p ((PyVbkdaa.answers l).map V.int)) fun _ _ _=>False):
 PySem.W.WalkOS q aaM XP YP PySem.Challenge.rw_frontends_s01_answers d [] (fun f vs=>PySem.call f vs):=by
 intro w kW iK mg mb G Y fa o pm cd doc dV kV ho hd nY hD Ju hg args abQ as abR abS tT rK hlo;obtain⟨a,e1,e2⟩:=PySem.W.os_pre_some abR;obtain⟨e3,Cj⟩:=Codec.encAll_of_decAll _ args a e1;subst e3;have KX:=hY w _ Y;obtain⟨fd,hbd,hF⟩:=F w mg fa _ Y KX G.T.g Ju;refine PySem.W.enter_call ?_;generalize hl:a.1=l at*;have rl:PyVbkdaa.answers_asked l=true:=by rw[<-hl];exact e2
 have rK:WellAll w.params iK.heap abQ [.list (l.map WData.int)]:=by rw[<-hl];exact rK
 have hz:l.length<=sizeLine:=by
  have z:=(PySem.W.layableW_iff.mp (a9.mp abS (.list (a.1.map WData.int)) (bv ..))).2.2;have z2:WData.weightAll (a.1.map WData.int)<=1048576:=z;have z3:=PySem.W.length_le_weightAllW (a.1.map WData.int);rw[ac,hl] at z3;rw[hl] at z2;exact a8 z3 (a8 z2 (by decide))
 cases rK with
 |cons x1 x2=>
 cases x2;cases x1 with
 |list xD oR=>
 rename_i ad us;have hv:=MA l us oR;generalize Jv:({cls:=.type "list",data:=.seq us.toArray}:Obj)=ob at xD;generalize hH:Hv (K w.params) ad ob (l.map V.int)=H
 have hO:∀b u,H b=some u->b=ad/\(K w.params).lookup b=none/\u=.jP ob (.lst (l.map V.int)):=fun b u e=>by
  rw[<-hH] at e;unfold Hv at e;split at e
  ·rename_i c;exact⟨c.1,Option.isNone_iff_eq_none.mp c.2,(af e).symm⟩
  ·cases e
 have gh:iY PySem.Challenge.rw_frontends_s01_answers.prog w H iK.heap:=fun b u e=>by
  obtain⟨rfl,_,rfl⟩:=hO b u e;exact⟨xD,by rw[ac];exact hz,us,_,hv,by rw[xD,<-Jv]⟩
 have hS:fR (K w.params) H ad (l.map V.int):=by
  cases hk:(K w.params).lookup ad with
  |none=>exact .inl (.inr ⟨ob,by rw[<-hH];unfold Hv;rw[aw ⟨Z,by rw[hk];rfl⟩]⟩)
  |some o2=>
   have e2:=KX ad o2 hk;rw[xD] at e2;obtain rfl:=af e2;subst Jv;exact .inr ⟨_,us.toArray,_,hk,Z,Z,Z,by rw[aR,<-hv.length,ac];exact hz,by simpa using hv⟩
 have yK:∀{b:Addr} {o:Obj} {es:Array DictEntry} {ep:Nat},iK.heap.get? b=some o->o.data=.dict es ep->H b=none:=fun{b o es ep} e d=>by
  cases q:H b with
  |none=>rfl
  |some u=>
   obtain⟨rfl,_,_⟩:=hO b u q;rw[xD] at e;cases e;rw[<-Jv] at d;cases d
 have CO:∀{b:Addr} {m:Str->Option Value},iK.heap.Ns b m->(sN iK.heap H).Ns b m:=fun{b m} ⟨o,es,ep,e,d,r⟩=>⟨o,es,ep,MB e (yK e d),d,r⟩
 have Q9:(K w.params).In (sN iK.heap H):=fun b o e=>MB (KX b o e) (by
  cases q:H b with
  |none=>rfl
  |some u=>
   rw[(hO b u q).2.1] at e;cases e)
 have hM:Mod (K w.params) mg (sN iK.heap H):=⟨Q9,CO G.T.g,⟨mb,CO G.T.b,G.T.builtins⟩,let ⟨mc,h1,h2⟩:=G.T.nolimit;⟨mc,CO h1,h2⟩⟩;have e0:uU PySem.Challenge.rw_frontends_s01_answers.prog w (K w.params) mg (sN iK.heap H) callerA [] iK H:=⟨Z,hM,fun b o e=>X6 e,Nat.le_of_eq (VU _ _),trivial,fun b hb=>absurd (show b∈([]:List Addr) from hb) (by simp),gh,.of_eq hg⟩;refine eZ ((hF _ Q9 (CO G.T.g)).run callerA [] iK H ⟨[.ref ad],[]⟩ [.ref ad] [.ref ad] _ _ ⟨Z,by decide,by decide⟩ e0 (hbd iK _ Z) (.cons Z .nil) (tj _ H ad l rl hS)) fun r s' x=> ?_
 cases r with
 |error e=>exact x.elim
 |ok fl=>
  cases fl with
  |next=>exact False.elim x
  |brk=>exact False.elim x
  |cont=>exact False.elim x
  |ret u=>
   obtain⟨v,H',os,bare,un,Pk,r',p,rfl,hq⟩:=x
   have kept:∀b o,iK.heap.get? b=some o->s'.heap.get? b=some o:=fun b o e=>by
    cases q2:H b with
    |none=>exact un.keep b o e q2 (by intro z;exact absurd (show b∈([]:List Addr) from z) (by simp)) (by simp)
    |some u2=>
     obtain⟨rfl,_,rfl⟩:=hO b u2 q2;obtain⟨e2,_⟩:=Pk b _ (un.lI b ob _ q2);rw[xD] at e;cases e;exact e2
   have KX':(K w.params).In s'.heap:=fun b o e=>kept b o (KX b o e)
   cases r'
   have tT:∃as,ReadsW ([]:PySem.W.WRecords) (classAt kW.heap) s'.heap (.ref p) (.list ((PyVbkdaa.answers l).map WData.int)) as:=by
    rcases hq with q|⟨o,fU,n,e,hc,_,hd,_,hv⟩
    ·obtain⟨_,fU,n,hv,e⟩:=(show jj PySem.Challenge.rw_frontends_s01_answers.prog w H' s'.heap p (.lst _) from q.ok Pk);obtain⟨as,z⟩:=FR _ fU hv;exact⟨_,ReadsW.list e Z Z z⟩
    ·obtain⟨as,z⟩:=FR _ fU.toList hv;exact⟨_,ReadsW.list (KX' _ _ e) hc (show _=Data.seq fU.toList.toArray n by simp[hd]) z⟩
   obtain⟨as',tT⟩:=tT;exact⟨.inl ⟨.ref p,_,as',Z,fun _=>rfl,tT,(OpenSpec.post_iff aaN Cj _ _).mpr (by subst hl;rfl),fun z=>Bool.noConfusion (show false=true from z)⟩,OldK.of_keep kept,os,bare⟩
end FE
open PySem PySem.W PyProof.Rows
set_option maxRecDepth 100000 in
set_option maxHeartbeats 0 in
theorem PySem.Challenge.cw_frontends_s01_answers_holds : PySem.Challenge.rw_frontends_s01_answers.Holds := by
 w_on;k_headS;(case hw=>exact⟨[.list [.int 2]],by decide+kernel,by decide+kernel⟩)
 k_fillS
 refine FE.walk (sp:=FE.GV) (by decide+kernel) (fun w h Y=>PySem.W.kIn_of Y) ?F ?S
 case F=>
  intro w mg fa h Y KX G Ju;have e:=Ju.symm.trans (eI KX G (n:="answers") (by k_is));cases e
  exact FE.fin (AA:=⟨_,_,_,_,_,_,_,_,_,_,_,_,_,_,_,_,_,_,_,_,_,_,_,_,_,_,_,_,_,_,_,_,_,_,_,_,_,_,_,_,_,_,_,_,_,_,_,_,_,_,_,_,_,_,_,_,_,_,_,_,_,_,_,_,_,_,_,_,_,_,_,_,_,_,_,_,_,_,_,_,_,_,_,_,_,_,_,_,_,_,_,_,_,_,_,_,_,_,_,_,_,_,_,_,_,_,_,_,_,_,_,_,_,_,_,_,_,_,_,_,_,_,_,_,_,_,_,_,_,_,_,_,_,_,_,_,_,_,_,_,_,_,_,_,_,_,_,_,_,_,_,_,_,_,_,_,_,_,_,_,_,_,_,_,_,_,_,_,_,_,_,_,_,_,_,_,_,_,_,_,_,_,_,_,_,_,_,_,_⟩) (by
   constructor
   all_goals try dsimp only
   all_goals try first
    |exact PySem.W.mg_none_of KX G (by k_is)
    |exact eI KX G (by k_is)
    |exact FE.OM (by k_is)
    |exact⟨_,eI KX G (by k_is)⟩
    |(refine' FE.Ol KX G (by k_is) (by k_is) (by k_is) (by k_is) ?_;first|(exact fun _ _ _ _ _ _ us hl=>match us,hl with|[_,_,_],_=>rfl)|(exact fun _ _ _ _ _ _ us hl=>match us,hl with|[_],_=>rfl)|(exact fun _ _ _ _ _ _ us hl=>match us,hl with|[_,_],_=>rfl)|(exact fun _ _ _ _ _ _ us hl=>match us,hl with|[_,_,_,_],_=>rfl))
    |exact L2.Ba (by k_is) (by k_is) (by k_is)
    |(exact .all fun us hl=>match us,hl with|[_],_=>rfl)|(exact .all fun us hl=>match us,hl with|[_,_],_=>rfl)|(exact .all fun us hl=>match us,hl with|[_,_,_],_=>rfl)|(exact .all fun us hl=>match us,hl with|[_,_,_,_],_=>rfl)
    |exact⟨by k_is,by k_is,by k_is,by k_is⟩
    |exact⟨by k_is,by k_is,by k_is⟩
    |exact FE.N3 (by k_is) (by decide) (by repeat first|exact .nil|refine' .cons (by first|exact⟨_,Z⟩|exact Z) ?_)
    |exact FE.Nd (by k_is) (by decide) (by repeat first|exact .nil|refine' .cons ⟨by first|exact L2.Fa _ _|exact L2.E9 _ _,by exact Z,by exact Z⟩ ?_) (by decide+kernel)
    |exact FE.N4 (by k_is) (by k_is) (by k_is) (by kernel_rfl) (by kernel_rfl) (by kernel_rfl) (by kernel_rfl) (by kernel_rfl) (by kernel_rfl) (by kernel_rfl) (by k_is) (by k_is)
   all_goals try dsimp only
   all_goals first
    |exact PySem.W.mg_none_of KX G (by k_is)
    |exact eI KX G (by k_is)
    |exact FE.OM (by k_is)
    |exact⟨_,eI KX G (by k_is)⟩
    |(refine' FE.Ol KX G (by k_is) (by k_is) (by k_is) (by k_is) ?_;first|(exact fun _ _ _ _ _ _ us hl=>match us,hl with|[_,_,_],_=>rfl)|(exact fun _ _ _ _ _ _ us hl=>match us,hl with|[_],_=>rfl)|(exact fun _ _ _ _ _ _ us hl=>match us,hl with|[_,_],_=>rfl)|(exact fun _ _ _ _ _ _ us hl=>match us,hl with|[_,_,_,_],_=>rfl))
    |exact L2.Ba (by k_is) (by k_is) (by k_is)
    |(exact .all fun us hl=>match us,hl with|[_],_=>rfl)|(exact .all fun us hl=>match us,hl with|[_,_],_=>rfl)|(exact .all fun us hl=>match us,hl with|[_,_,_],_=>rfl)|(exact .all fun us hl=>match us,hl with|[_,_,_,_],_=>rfl)
    |exact⟨by k_is,by k_is,by k_is,by k_is⟩
    |exact⟨by k_is,by k_is,by k_is⟩
    |exact FE.N3 (by k_is) (by decide) (by repeat first|exact .nil|refine' .cons (by first|exact⟨_,Z⟩|exact Z) ?_)
    |exact FE.Nd (by k_is) (by decide) (by repeat first|exact .nil|refine' .cons ⟨by first|exact L2.Fa _ _|exact L2.E9 _ _,by exact Z,by exact Z⟩ ?_) (by decide+kernel)
    |exact FE.N4 (by k_is) (by k_is) (by k_is) (by kernel_rfl) (by kernel_rfl) (by kernel_rfl) (by kernel_rfl) (by kernel_rfl) (by kernel_rfl) (by kernel_rfl) (by k_is) (by k_is)
   ) Z (by exact fun s us hu=>match us,hu with|[_],_=>.of_eq Z)
 case S=>exact fun K H a l ha hs=>⟨_,l,Z,hs,ha,fun H' p _ hp=>⟨p,Z,L2.fR.of hp⟩⟩
