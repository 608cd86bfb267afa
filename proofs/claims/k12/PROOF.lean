import PyProof.Rows.All
import KE.KNestM
import Wide.FinOn
import PyProof.EqAt
import PyProof.EqKinds
import PyProof.TupleCall
import PyProof.ZipIter
import PyProof.WalksMore
import PyProof.CompFree
import PyProof.NeKinds
import KE.KRevIter
import PyProof.Rows.Range3
import KE.KIntText
import OpenK.KOwn
import PyProof.NsDelKeeps
import KE.KIsAll
import PyProof.CompMap
import PyProof.Cells
import PyProof.ConsumeWalk
import PyProof.SumWalk
import PyProof.Rows.SortShell
import PyProof.MeetsStr
import PyProof.StrOps2
import PyProof.DictWalks
import PyProof.Rows.SetFrom
import PyProof.SetRoads
import PyProof.ListRange
import PyProof.ListNew
import PyProof.ExcInit
import PyProof.InstStoreFacts
import PyProof.LayNew
import PyProof.MeetsSeq
import PyProof.Draws
import PyProof.EnumMake
import PyProof.ListMulRoad
import PySem.Challenge.RW_partsmith_k12_twice_lacking_and_no_bar
local macro_rules|`(tactic|omega)=>`(tactic|lia)
local macro_rules|`(tactic|ext)=>`(tactic|omega)
local macro_rules|`(())=>`(by omega)
local macro_rules|`(∅)=>`(by decide)
local macro_rules|`(↑$s)=>`(($s).heap.objs.size)
local macro_rules|`($a <|> $b)=>`(autoParam $a $b)
local macro_rules (kind:=«term{_}»)|`({$xs,*})=>`(⟨$xs,*⟩)
local macro_rules|`(⇑$x)=>`(($x).length)
def tpt:Nat->Lean.Term->Lean.MacroM (Lean.TSyntax `rcasesPat)
|0,_=>Lean.Macro.throwUnsupported
|n+1,p=>match p with
 |`(⟨$ps,*⟩)=>do let qs<-ps.getElems.mapM (tpt n);`(rcasesPat|⟨$[$qs],*⟩)
 |`($i:ident)=>`(rcasesPat|$i:ident)
 |_=>`(rcasesPat|_)
local macro_rules|`(tactic|let $d:letDecl)=>`(tactic|have $d:letDecl)
local macro_rules|`(tactic|let $p:term:=$v:term)=>do let q<-tpt 9 p;`(tactic|obtain $q:rcasesPat:=$v)
set_option compiler.extract_closed false
set_option Elab.async false
set_option linter.all false
set_option maxRecDepth 100000
set_option maxHeartbeats 8000000
def qa_1(h:True:=by first | exact .inl rfl | exact .inr rfl | assumption):=h
def qa_:=qa_1._auto_1
def qb_1(h:True:=by decide):=h
def qb_:=qb_1._auto_1
def qc_1(h:True:=by first | exact Il _ (by decide) (by decide) | rfl):=h
def qc_:=qc_1._auto_1
def qd_1(h:True:=by intro _;rfl):=h
def qd_:=qd_1._auto_1
def qe_1(h:True:=by rfl):=h
def qe_:=qe_1._auto_1
def qf_1(h:True:=by with_unfolding_all rfl):=h
def qf_:=qf_1._auto_1
def qg_1(h:True:=by first | exact Or.inl rfl | exact Or.inr (Or.inl rfl) | exact Or.inr (Or.inr rfl)):=h
def qg_:=qg_1._auto_1
def qh_1(h:True:=by repeat constructor):=h
def qh_:=qh_1._auto_1
def qi_1(h:True:=by first | exact Or.inl rfl | exact Or.inr rfl):=h
def qi_:=qi_1._auto_1
def qj_1(h:True:=by exact fun _ _=>rfl):=h
def qj_:=qj_1._auto_1
def qk_1(h:True:=by intro vs H Q E h;first | (obtain⟨_,rfl,_⟩:=h;rfl) | (cases h;subst_vars;rfl)):=h
def qk_:=qk_1._auto_1
def ql_1(h:True:=by decide +kernel):=h
def ql_:=ql_1._auto_1
def qm_1(h:True:=by repeat' (first | exact trivial | exact .inl rfl | exact rfl | constructor)):=h
def qm_:=qm_1._auto_1
def qn_1(h:True:=by k_is):=h
def qn_:=qn_1._auto_1
def qo_1(h:True:=by intros;rfl):=h
def qo_:=qo_1._auto_1
def qp_1(h:True:=by k_exc):=h
def qp_:=qp_1._auto_1
def zd:=@List.length_map
def ze:=@List.getElem?_eq_getElem
def zg:=@decide_eq_false
def zh:=@decide_eq_true
def zj:=@List.length_append
def zk:=@List.map_cons
def zm:=@List.map_append
def zp:=@Nat.le_refl
def zr:=@List.mem_cons_of_mem
def zt:=@List.mem_cons_self
def zv:=@Int.emod_lt_of_pos
def zw:=@List.length_cons
def zy:=@Int.emod_nonneg
def zA:=@List.getElem?_eq_some_iff
def zB:=@List.mem_singleton
def zC:=@List.map_map
def zD:=@List.mem_of_getElem?
def zE:=@List.mem_cons
def zF:=@List.not_mem_nil
def zG:=@List.append_assoc
def zH:=@List.mem_append
def zI:=@List.mem_map
def zJ:=@List.mem_append_right
def zK:=@List.mem_append_left
def zL:=@List.getElem?_map
def zM:=@Bool.false_ne_true
def zN:=@Nat.le_trans
def zO:=@List.take_length
def zP:=@Bool.and_eq_true
def zQ:=@List.mem_map_of_mem
def zR:=@List.length_take
def zT:=@List.length_range
def zU:=@List.nodup_append
def zV:=@List.pairwise_append
def zW:=@List.append_nil
def zX:=@Int.ediv_nonneg
def zY:=@Int.ediv_le_self
def zZ:=@List.foldl_append
def z9:=@List.getElem?_append_right
def ya:=@List.flatten_cons
def yb:=@List.size_toArray
def yc:=@Nat.lt_of_lt_of_le
def yd:=@List.nodup_cons
def ye:=@of_decide_eq_true
def yf:=@Nat.lt_irrefl
def yg:=@Nat.zero_le
def yi:=@Nat.le_of_lt
def yj:=@Nat.ne_of_gt
def yk:=@Nat.ne_of_lt
def ym:=@Option.some.inj
def yo:=@List.getElem_mem
def yq:=@List.map_nil
def yr:=@List.any_eq_true
def yt:=@List.all_eq_true
def yu:=@List.lookup_cons
def yv:=@List.length_pos_iff
def yw:=@List.length_eq_zero_iff
def yx:=@PySem.wpAny_bind
def yy:=@PySem.Heap.get?_push_of_some
def yz:=@PySem.wpAny_pure
def yA:=@PySem.Heap.get?_push_size
def yB:=@PySem.Heap.lt_size
def yC:=@PySem.Heap.get?_update_other
def yD:=@PySem.Heap.get?_update_self
abbrev yE:=PySem.W.Frag
def yF:=@PySem.sizeLine_eq
def yG:=@PySem.F.plainAttrs_list
def yH:=@PySem.F.type_list_append
def yI:=@PySem.F.slot_list_append
def yJ:=@PySem.F.plainAttrs_str
def yK:=@PySem.F.type_str_join
def yL:=@PySem.F.slot_str_join
def yM:=@PySem.F.type_str_split
def yN:=@PySem.F.slot_str_split
def yO:=@Int.eq_ofNat_of_zero_le
def yP:=@PyProof.Rows.callWith_type1
def yQ:=@if_neg
def yR:=@if_pos
def yS:=@PySem.PassesOwn.never
def yT:=@Array.length_toList
def yU:=@List.mem_range
def yV:=@List.find?_cons
def yW:=@Bool.false_and
def yX:=@or_false
def yY:=@Bool.true_and
def yZ:=@List.zip_cons_cons
def y3:=@List.filter_append
def y4:=@PySem.wpAny_callSpecial?_slot
def y6:=@congrArg
def y7:=@PySem.wpAny_field
def y8:=@Int.le_of_lt
def y9:=@PySem.wpAny_call_entry
def xa:=@List.pairwise_cons
def xb:=@PySem.wpAny_newObj_type
def xc:=@PySem.wpAny_mono
def xg:=@List.flatten_append
def xh:=@PySem.wpAny_truthy_bool
def xi:=@List.length_filter_le
def xj:=@Array.getElem?_toList
def xk:=@PySem.Heap.size_push
def xm:=@PySem.W.kia_one
def xn:=@Option.map_some
def xo:=@List.length_nil
def xq:=@PySem.wpAny_Call_Name_kw
def xt:=@List.any_cons
def xu:=@PySem.wpAny_seqItems
def xw:=@List.take_add_one
def xx:=@List.take_of_length_le
def xy:=@List.map_congr_left
def xA:=@Int.mul_pos
def xB:=@List.length_zip
def xC:=@List.length_drop
def xD:=@Int.mul_comm
def xE:=@decide_eq_true_eq
def xF:=@beq_eq_false_iff_ne
def xG:=@Nat.lt_trans
def xH:=@Nat.lt_or_ge
def xI:=@PySem.wpAny_holding
def xJ:=@PySem.wpAny_setField_rec
def xK:=@PySem.F.slot_zip_next
def xM:=@Bool.eq_iff_iff
def xN:=@Option.some.injEq
def xO:=@PyProof.Rows.slot_tuple_getitem
def xP:=@Nat.lt_succ_self
def xQ:=@PyProof.Rows.part_short
def xR:=@PySem.wpAny_typeNameOfWhole_keyiter
def xS:=@PySem.codeAny_mono
def xT:=@List.find?_eq_none
def xU:=@PySem.wpAny_passesOwn
def xV:=@PySem.codeAny_builtin
def xW:=@List.dropLast_concat_getLast
def xX:=@PySem.F.slot_dict_keyiterator_next
def xY:=@PySem.Paired.length
def xZ:=@Int.toNat_natCast
def x6:=@Nat.le_succ
def x8:=@List.nodup_nil
def x9:=@Int.mul_nonneg
def wc:=@Int.mul_le_mul
def wg:=@PySem.F.slot_tuple_iterator_next
def wj:=@List.all_map
def wk:=@beq_self_eq_true
def wm:=@List.mem_flatten
def wo:=@List.getLast?_eq_getElem?
def wq:=@List.getElem?_append_left
def wt:=@PySem.mem_of_lookup
def wu:=@if_false
def wx:=@PySem.wpAny_typeNameOf_keyiter
def wy:=@PySem.wpAny_execs_nil
def wz:=@List.of_mem_zip
def wA:=@List.mem_filter
def wB:=@PySem.call_meets
def wC:=@PySem.tupleKind_room_in1
def wD:=@List.lookup_append
def wF:=@PySem.Calls.spliced_cons
def wG:=@List.any_map
def wH:=@Nat.mul_le_mul
def wI:=@List.take_zero
def wJ:=@Bool.and_false
def wK:=@PySem.wpAny_pyIter_list
def wL:=@Nat.lt_succ_of_lt
def wM:=@PySem.Calls.callWith_builtin
def wN:=@List.getElem?_eq_none
def wO:=@PySem.typeIs_str
def wQ:=@List.cons_append
def wR:=@PySem.wpAny_attempt
def wU:=@List.sum_cons
def wV:=@List.all_cons
def wW:=@Sum.inr.inj
def wX:=@List.mem_of_getLast?
def wY:=@PySem.W.hideAll_get
def wZ:=@List.take_succ_cons
def w5:=@List.filterMap_cons
def w6:=@PySem.Heap.SameBut.update
def w8:=@if_true
def w9:=@PySem.wpAny_typeOf
def vb:=@beq_iff_eq
def vc:=@Nat.mod_lt
def vd:=@PySem.W.callWith_K
def vf:=@PySem.Obj.data_mapFields
def vg:=@List.mem_filterMap
def vh:=@Int.fdiv_eq_ediv_of_nonneg
def vi:=@List.any_eq_false
def vj:=@PySem.Calls.spliced_nil
def vk:=@PySem.W.mg_of
abbrev vm:=PySem.Value
abbrev vn:=PySem.Shared
abbrev vo:=PySem.Program
abbrev vq:=PySem.World
abbrev vt:=PySem.Around
abbrev vv:=PySem.FuncData
abbrev vw:=PySem.Addr
abbrev vx:=PySem.Heap
namespace L2
open PySem PySem.Spec PyProof.Rows
abbrev Key:=Sum Int Str
noncomputable def DW:Key->vm->Bool
 | .inl k,v=>Value.isInt k v
 | .inr x,v=>Value.isStrOf x v
noncomputable def WD (w:vq):Key->Int
 | .inl k=>hashInt k
 | .inr x=>hashStr w x
def dh:∀{k:Key} {v:vm},DW k v=true->(∃i t,k=Sum.inl i/\v=Value.int i t)\/(∃x t,k=Sum.inr x/\v=Value.str x t)
 | .inl i,v,h=>by
  let⟨t,e⟩:=Value.isInt_shape (k:=i) (v:=v) h;exact .inl {(i),t,rfl,e}
 | .inr x,v,h=>by
  let⟨t,e⟩:=Value.isStrOf_shape (x:=x) (v:=v) h;exact .inr {(x),t,rfl,e}
def M8 (i:Int) (t:Tok):DW (.inl i) (.int i t)=true:=by simp[DW,Value.isInt]
def oz (x:Str) (t:Tok):DW (.inr x) (.str x t)=true:=by simp[DW,Value.isStrOf]
def TB (a b:Int):decide ((Sum.inl a:Key)=Sum.inl b)=(a == b):=by
 by_cases e:a=b
 ·subst e;simp
 ·let h:¬(Sum.inl a:Key)=Sum.inl b:=λq=>e (Sum.inl.inj q)
  rw[zg h];exact(xF.mpr e).symm
def Tw (a b:Str):decide ((Sum.inr a:Key)=Sum.inr b)=decide (a=b):=by
 by_cases e:a=b
 ·subst e;simp
 ·let h:¬(Sum.inr a:Key)=Sum.inr b:=λq=>e (wW q)
  rw[zg h,zg e]
def Tz (a:Int) (b:Str):decide ((Sum.inl a:Key)=Sum.inr b)=false:=zg (λq=>nomatch q)
def Tx (a:Str) (b:Int):decide ((Sum.inr a:Key)=Sum.inl b)=false:=zg (λq=>nomatch q)
noncomputable def de (prog:vo) (w:vq):PySem.KeyKind prog w Key where
 is:=DW
 hash:=WD w
 inj:=λv a b ha hb=>by
  rcases dh ha with⟨i,t,rfl,rfl⟩ | ⟨x,t,rfl,rfl⟩
  ·rcases dh hb with⟨j,u,rfl,e⟩ | ⟨y,u,rfl,e⟩
   ·injection e with e1 _;rw[e1]
   ·exact nomatch e
  ·rcases dh hb with⟨j,u,rfl,e⟩ | ⟨y,u,rfl,e⟩
   ·exact nomatch e
   ·injection e with e1 _;rw[e1]
 byValue:=λk v h=>by
  rcases dh h with⟨i,t,rfl,rfl⟩ | ⟨x,t,rfl,rfl⟩ <;> rfl
 pyHash:=λhv h=>by
  rcases dh hv with⟨i,t,rfl,rfl⟩ | ⟨x,t,rfl,rfl⟩
  ·exact wpAny_pyHash_int h
  ·exact wpAny_pyHash_str h
 eqBool:=λhu hv h=>by
  rcases dh hu with⟨i,t,rfl,rfl⟩ | ⟨x,t,rfl,rfl⟩
  ·rcases dh hv with⟨j,u,rfl,rfl⟩ | ⟨y,u,rfl,rfl⟩
   ·rw[TB] at h;exact wpAny_eqBool_int h
   ·rw[Tz] at h;exact SeqAt.EqAt.int_str i t y u _ _ _ _ h
  ·rcases dh hv with⟨j,u,rfl,rfl⟩ | ⟨y,u,rfl,rfl⟩
   ·rw[Tx] at h;exact SeqAt.EqAt.str_int x t j u _ _ _ _ h
   ·rw[Tw] at h;exact wpAny_eqBool_str h
 «strs»:=λk x t v h=>by
  rcases dh h with⟨i,u,rfl,e⟩ | ⟨y,u,rfl,e⟩
  ·exact nomatch e
  ·injection e with e1 _
   subst e1;cases v <;> rfl
def Ir (prog:vo) (w:vq) (i:Int) (t:Tok):(de prog w).is (.inl i) (.int i t)=true:=M8 i t
def tT (prog:vo) (w:vq) (x:Str) (t:Tok):(de prog w).is (.inr x) (.str x t)=true:=oz x t
end L2
namespace L2
open PySem PySem.Spec PyProof.Rows
inductive V where
 | bQ | bl (b:Bool) | int (i:Int) | str (x:Str) | Mh (b:Array UInt8) | Rw (b:UInt64) | ref (a:vw) | ty (n:String)
 deriving DecidableEq
def RelV:V->vm->Prop
 | .bQ,u=>u=Value.none
 | .bl b,u=>u=Value.bool b
 | .int i,u=>∃t,u=Value.int i t
 | .str x,u=>∃t,u=Value.str x t
 | .Mh b,u=>∃t,u=Value.bytes b t
 | .Rw b,u=>∃t,u=Value.float b t
 | .ref a,u=>u=Value.ref a
 | .ty n,u=>u=Value.type n
abbrev Vals:List V->List vm->Prop:=Paired RelV
theorem Vals.length (r:Vals xs us):⇑xs=⇑us:=xY r
theorem Vals.get:∀{xs:List V} {us:List vm} {i:Nat} {x:V},Vals xs us->xs[i]?=some x->∃u,us[i]?=some u/\RelV x u
 | _,_,_,_,.nil,e=>by simp at e
 | _,_,0,_,.cons r _,e=>by simp at e;subst e;exact{_,rfl,r}
 | _,_,i+1,x,.cons _ t,e=>by
  let⟨u,h1,h2⟩:=Vals.get (i:=i) (x:=x) t (by simpa using e);exact{u,by simpa using h1,h2}
theorem Vals.append:∀{xs ys:List V} {us ws:List vm},Vals xs us->Vals ys ws->Vals (xs++ys) (us++ws)
 | _,_,_,_,.nil,s=>s
 | _,_,_,_,.cons r t,s=>.cons r (Vals.append t s)
theorem Vals.take:∀{xs:List V} {us:List vm} (n:Nat),Vals xs us->Vals (xs.take n) (us.take n)
 | _,_,0,_=>.nil
 | _,_,_+1,.nil=>.nil
 | _,_,n+1,.cons r t=>.cons r (Vals.take n t)
theorem Vals.drop:∀{xs:List V} {us:List vm} (n:Nat),Vals xs us->Vals (xs.drop n) (us.drop n)
 | _,_,0,r=>r
 | _,_,_+1,.nil=>.nil
 | _,_,n+1,.cons _ t=>Vals.drop n t
def fN:Option V->Option vm->Prop
 | some v,some u=>RelV v u
 | none,none=>True
 | _,_=>False
def KV:List (κ×V)->List (κ×vm)->Prop:=Paired λ(p:κ×V) (q:κ×vm)=>p.1=q.1/\RelV p.2 q.2
noncomputable def kV:Key->V
 | .inl i=>.int i
 | .inr x=>.str x
inductive HO where
 | lst (xs:List V)
 | tup (xs:List V)
 | dK (kvs:List (Key×V)) | dT (kvs:List (List Key×V))
 | set (S:Int->Bool) (n:Nat)
 | ins (C dx:vw) (fs:List (Str×V))
 | own (x:vw)
 | xd (fs:List (Str×V))
 | met (f x:vw)
 | MS (lo hi:Int)
 | mG (o:Obj) (u:HO)
 | Oh (ps:Array vm)
 | ext (φ:vx->Prop)
abbrev Hp:=vw->Option HO
noncomputable def upd (H:Hp) (a:vw) (o:HO):Hp:=λb=>if b=a then some o else H b
def aE:upd H a o a=some o:=by unfold upd;rw[yR rfl]
def aC (h:b≠a):upd H a o b=H b:=by unfold upd;rw[yQ h]
def bB {H:Hp} {a b:vw} {o u:HO} (h:H a=some o) (h':H b=some u) (d:o≠u):a≠b:=by
 intro e;subst e;rw[h] at h';exact d (ym h')
def bI {H:Hp} {a b:vw} {o:HO} (h:H a=some o) (h':H b=none):a≠b:=by
 intro e;subst e;rw[h] at h';cases h'
section
variable (P:vo) (w:vq)
def b8 (H:Hp) (h:vx) (a:vw):HO->Prop
 | .lst xs=>⇑xs<=sizeLine/\∃(its:List vm) (n:Nat),Vals xs its/\h.get? a=some {cls:=.type "list",data:=.seq its.toArray n}
 | .tup xs=>⇑xs<=sizeLine/\∃its:List vm,Vals xs its/\IsTup h a its.toArray
 | .dK kvs=>⇑kvs<=sizeLine/\(a == sysModules)=false/\∃vs,KV kvs vs/\h.DictOf (de P w) a vs
 | .dT kvs=>⇑kvs<=sizeLine/\(a == sysModules)=false/\∃xs:List (List Key×vw×vm),
   Paired (λ(p:List Key×V) (q:List Key×vw×vm)=>p.1=q.1/\H q.2.1=some (.tup (p.1.map kV))/\RelV p.2 q.2.2) kvs xs/\
   ∃o es ep,h.get? a=some o/\o.ExactDict/\o.data=.dict es ep/\es.toList=xs.map (entryOfKey (tupleKind (de P w)))/\(xs.map (·.1)).Nodup
 | .set S n=>h.SetOf (intKind P w) a S n
 | .ins C dx fs=>H dx=some (.own a)/\⇑fs<=1000/\dx≠a/\h.get? a=some (PySem.W.instObj C dx)/\
   ∃mA,h.Ns1 dx mA/\(∀f,fN (fs.lookup f) (mA f))/\PySem.Within mA (fs.map (·.1))
 | .own _=>∃o,h.get? a=some o
 | .xd fs=>∃mA,h.Ns1 a mA/\∀f,fN (fs.lookup f) (mA f)
 | .MS lo hi=>∃t u v,h.get? a=some {cls:=.type "range",data:=.fields #[.int lo t,.int hi u,.int 1 v]}
 | .mG o u=>h.get? a=some o/\b8 H h a u
 | .Oh ps=>h.get? a=some {cls:=.none,data:=.fields ps}
 | .met f x=>h.get? a=some (PySem.W.methodObj (.ref f) (.ref x))
 | .ext φ=>φ h/\(∃o,h.get? a=some o)/\∀h1 h2:vx,φ h1->(∀o,h1.get? a=some o->h2.get? a=some o)->φ h2
def oH (H:Hp) (h:vx):Prop:=∀a o,H a=some o->b8 P w H h a o
end
section
variable {P:vo} {w:vq} {H H':Hp} {h h':vx} {a:vw} {o:HO}
theorem b8.lt (x:b8 P w H h a o):a<h.objs.size:=by
 cases o with
 | lst xs=>let⟨_,_,_,_,e⟩:=x;exact yB e
 | tup xs=>let⟨_,_,_,p⟩:=x;exact p.lt
 | dK kvs=>let⟨_,_,_,_,o,_,_,e,_⟩:=x;exact yB e
 | dT kvs=>let⟨_,_,_,_,o,_,_,e,_⟩:=x;exact yB e
 | set S n=>let⟨o,_,_,_,e,_⟩:=x;exact yB e
 | ins C dx fs=>let⟨_,_,_,e,_⟩:=x;exact yB e
 | own y=>let⟨_,e⟩:=x;exact yB e
 | xd fs=>let⟨_,⟨_,_,_,e,_⟩,_⟩:=x;exact yB e
 | MS lo hi=>let⟨_,_,_,e⟩:=x;exact yB e
 | mG ob u=>let⟨e,_⟩:=x;exact yB e
 | Oh ps=>exact yB (show h.get? a=some _ from x)
 | met f y=>exact yB (show h.get? a=some _ from x)
 | ext φ=>let⟨_,⟨_,e⟩,_⟩:=x;exact yB e
theorem Paired.Ts:∀{l₁:List α} {l₂:List β},Paired F l₁ l₂->(∀a b,F a b->G a b)->Paired G l₁ l₂
 | _,_,.nil,_=>.nil
 | _,_,.cons r t,f=>.cons (f _ _ r) (Paired.Ts t f)
def b8.jH (x:b8 P w H h a o) (k:∀b u,(b=a\/H b=some (.own a))->h.get? b=some u->h'.get? b=some u)
  (ho:∀b,H b=some (.own a)->H' b=some (.own a)) (ht:∀b xs,H b=some (.tup xs)->H' b=some (.tup xs)):b8 P w H' h' a o:=by
 induction o with
 | lst xs=>let⟨z,its,n,r,e⟩:=x;exact{z,its,n,r,k _ _ (.inl rfl) e}
 | tup xs=>let⟨z,its,r,ob,e,c⟩:=x;exact{z,its,r,ob,k _ _ (.inl rfl) e,c}
 | dK kvs=>let⟨z,y,vs,r,ob,es,ep,e,c⟩:=x;exact{z,y,vs,r,ob,es,ep,k _ _ (.inl rfl) e,c}
 | dT kvs=>
  let⟨z,y,xs,r,ob,es,ep,e,c⟩:=x;exact{z,y,xs,Paired.Ts r λp q z=>{z.1,ht _ _ z.2.1,z.2.2},ob,es,ep,k _ _ (.inl rfl) e,c}
 | set S n=>let⟨ob,es,ep,t,e,c⟩:=x;exact{ob,es,ep,t,k _ _ (.inl rfl) e,c}
 | ins C dx fs=>
  let⟨d,z,ne,e,mA,⟨od,es,ep,e2,c⟩,r⟩:=x;exact{ho _ d,z,ne,k _ _ (.inl rfl) e,mA,{od,es,ep,k _ _ (.inr d) e2,c},r}
 | own y=>let⟨ob,e⟩:=x;exact{ob,k _ _ (.inl rfl) e}
 | xd fs=>let⟨mA,⟨od,es,ep,e,c⟩,r⟩:=x;exact{mA,{od,es,ep,k _ _ (.inl rfl) e,c},r}
 | MS lo hi=>let⟨t,u,v,e⟩:=x;exact{t,u,v,k _ _ (.inl rfl) e}
 | mG ob u ih=>let⟨e,q⟩:=x;exact{k _ _ (.inl rfl) e,ih q}
 | Oh ps=>
  let e:h.get? a=some {cls:=.none,data:=.fields ps}:=x;show h'.get? a=some {cls:=.none,data:=.fields ps};exact k a _ (.inl rfl) e
 | met f y=>
  let e:h.get? a=some (PySem.W.methodObj (.ref f) (.ref y)):=x;show h'.get? a=some (PySem.W.methodObj (.ref f) (.ref y));exact k a _ (.inl rfl) e
 | ext φ=>let⟨p,⟨o,e⟩,st⟩:=x;exact{st _ _ p λo q=>k _ _ (.inl rfl) q,{o,k _ _ (.inl rfl) e},st}
theorem oH.lt (x:oH P w H h) (e:H a=some o):a<h.objs.size:=(x a o e).lt
def oH.fresh (x:oH P w H h) (e:h.objs.size<=a):H a=none:=by
 cases q:H a with
 | none=>rfl
 | some u=>exact absurd (yc (x.lt q) e) (yf _)
def oH.kept (x:oH P w H h) (k:∀b u,h.get? b=some u->h'.get? b=some u):oH P w H h':=λa o e=>
 (x a o e).jH (λb u _ q=>k b u q) (λ_ q=>q) λ_ _ q=>q
def oH.laid (x:oH P w H h) (k:∀b u,h.get? b=some u->h'.get? b=some u) (hp:h.objs.size<=a) (new:b8 P w (upd H a o) h' a o):oH P w (upd H a o) h':=λb u e=>by
 let hn:=x.fresh hp
 by_cases hb:b=a
 ·subst hb;rw[aE] at e;cases e;exact new
 ·rw[aC hb] at e
  exact(x b u e).jH (λc v _ q=>k c v q) (λc q=>by rw[aC (bI q hn)];exact q) λc xs q=>by rw[aC (bI q hn)];exact q
end
def Rd (H:Hp) (a:vw) (u:HO):Prop:=H a=some u\/∃o,H a=some (.mG o u)
def Rd.ok (r:Rd H a u) (x:oH P w H h):b8 P w H h a u:=by
 rcases r with r | ⟨o,r⟩
 ·exact x a u r
 ·let⟨_,q⟩:=x a _ r
  exact q
def Vt:Option HO->Prop
 | some (.lst _)=>True
 | some (.dK _)=>True
 | some (.dT _)=>True
 | some (.set _ _)=>True
 | some (.ins _ _ _)=>True
 | some (.ext _)=>True
 | _=>False
section
variable {P:vo} {w:vq} {H:Hp} {h h':vx} {x e:vw} {o':HO}
def oH.write (ok:oH P w H h) (mu:Vt (H x)) (he:e=x\/H e=some (.own x)) (k:∀b u,b≠e->h.get? b=some u->h'.get? b=some u) (heo:∃u,h'.get? e=some u)
  (new:b8 P w (upd H x o') h' x o'):oH P w (upd H x o') h':=λb u q=>by
 let nown:∀c y,H c=some (.own y)->c≠x:=λc y r z=>by subst z;rw[r] at mu;exact mu
 let ntup:∀c xs,H c=some (.tup xs)->c≠x:=λc xs r z=>by subst z;rw[r] at mu;exact mu
 by_cases hb:b=x
 ·subst hb;rw[aE] at q;cases q;exact new
 ·rw[aC hb] at q
  by_cases hbe:b=e
  ·let q':H b=some (.own x):=by
    rcases he with z | z
    ·exact absurd (hbe.trans z) hb
    ·rw[hbe];exact z
   rw[q] at q';cases q';let⟨v,hv⟩:=heo;exact{v,by rw[hbe];exact hv}
  ·refine(ok b u q).jH (λc v hc r=>k c v ?_ r) (λc r=>by rw[aC (nown c b r)];exact r) λc xs r=>by rw[aC (ntup c xs r)];exact r
   rcases hc with rfl | hc
   ·exact hbe
   ·rintro rfl
    rcases he with z | z
    ·exact nown c b hc z
    ·rw[hc] at z;cases z;exact hb rfl
end
structure Un (fs ex:List vw) (H H':Hp) (h h':vx):Prop where
 keep:∀b o,h.get? b=some o->H b=none->b∉fs->b∉ex->h'.get? b=some o
 slot:∀b o,h.get? b=some o->H b=none->b∈fs->b∉ex->∃sl,h'.get? b=some {o with slots:=sl}
 free:∀b o,h.get? b=some o->H b=none->b∉ex->H' b=none
 there:∀b o,h.get? b=some o->b∉ex->∃o',h'.get? b=some o'
 mz:∀b xs,H b=some (.tup xs)->H' b=some (.tup xs)
 kE:∀b o u,H b=some (.mG o u)->H' b=some (.mG o u)
 mC:∀b ps,H b=some (.Oh ps)->∃more,H' b=some (.Oh (ps++more))
section
variable {fs fs' ex ex':List vw} {H H1 H2:Hp} {h h1 h2 h':vx} {a x e:vw} {o:HO}
def Un.any (u:Un fs ex H H1 h h1) (q:h.get? b=some ob) (n:H b=none) (hx:b∉ex):∃sl,h1.get? b=some {ob with slots:=sl}:=by
 by_cases hb:b∈fs
 ·exact u.slot b ob q n hb hx
 ·exact{ob.slots,u.keep b ob q n hb hx}
def Un.kept (k:∀b u,h.get? b=some u->h'.get? b=some u):Un fs ex H H h h':=
 {λb ob q _ _ _=>k b ob q,λb ob q _ _ _=>{ob.slots,k b ob q},λ_ _ _ n _=>n,λb ob q _=>{ob,k b ob q},λ_ _ q=>q,λ_ _ _ q=>q,λ_ ps q=>{#[],by rw[q];simp}}
def Un.refl:Un fs ex H H h h:=Un.kept λ_ _ q=>q
def Un.laid (k:∀b u,h.get? b=some u->h'.get? b=some u) (hp:h.objs.size<=a) (hn:H a=none):Un fs ex H (upd H a o) h h' where
 keep:=λb u q _ _ _=>k b u q
 slot:=λb u q _ _ _=>{u.slots,k b u q}
 free:=λb u q n _=>by rw[aC (yk (yc (yB q) hp))];exact n
 there:=λb u q _=>{u,k b u q}
 mz:=λb xs q=>by rw[aC (bI q hn)];exact q
 kE:=λb u xs q=>by rw[aC (bI q hn)];exact q
 mC:=λb ps q=>{#[],by rw[aC (bI q hn),q];simp}
def Un.write (mu:Vt (H x)) (he:e=x\/H e=some (.own x)) (k:∀b u,b≠e->h.get? b=some u->h'.get? b=some u) (heo:∃u,h'.get? e=some u):Un fs ex H (upd H x o) h h':=by
 let hx:∀b,H b=none->b≠x:=λb n z=>by subst z;rw[n] at mu;exact mu
 let hb:∀b,H b=none->b≠e:=λb n z=>by
  subst z;rcases he with r | r
  ·exact hx b n r
  ·rw[n] at r;cases r
 let hm:∀b u,H b=some u->¬Vt (some u)->b≠x:=λb u q nm z=>by subst z;rw[q] at mu;exact nm mu
 refine{λb u q n _ _=>k b u (hb b n) q,λb u q n _ _=>{u.slots,k b u (hb b n) q},λb u q n _=>by rw[aC (hx b n)];exact n,λb u q _=>?_,
  λb xs q=>by rw[aC (hm b _ q λz=>z)];exact q,λb u xs q=>by rw[aC (hm b _ q λz=>z)];exact q,λb ps q=>{#[],by rw[aC (hm b _ q λz=>z),q];simp}}
 by_cases hbe:b=e
 ·subst hbe;exact heo
 ·exact{u,k b u hbe q}
end
noncomputable def VC (h:vx) (H:Hp):List vw:=(List.range h.objs.size).filter λa=>(H a).isSome
noncomputable def FQ (h:vx) (H:Hp):vx:=PySem.W.hideAll h (VC h H)
def Ng (h:vx) (H:Hp):(FQ h H).objs.size=h.objs.size:=PySem.W.hideAll_size _ _
def PM (e:h.get? b=some o) (n:H b=none):(FQ h H).get? b=some o:=
 wY _ e λhm=>by
  let q:(H b).isSome=true:=(wA.mp hm).2;rw[n] at q;simp at q
def Rm (e:(FQ h H).get? b=some o):h.get? b=some o/\H b=none:=by
 let e':h.get? b=some o:=PySem.W.of_hideAll (VC h H) e;refine{e',?_};cases q:H b with
 | none=>rfl
 | some x=>
  let hm:b∈VC h H:=wA.mpr {yU.mpr (yB e'),by simp[q]};let z:(FQ h H).get? b=none:=PySem.W.hideAll_none (VC h H) hm;rw[z] at e;cases e
end L2
namespace L2
open PySem PySem.Spec PyProof.Rows
structure Mod (K:yE) (mg:Str->Option vm) (base:vx):Prop where
 Qy:K.In base
 glob:base.Ns mainGlobals mg
 blt:∃mb,base.Ns builtinsNs mb/\∀x:Str,x≠ "__name__"->mb x=bootBuiltins x
 nolimit:base.NoLimit
set_option genInjectivity false in
structure Cx where
 prog:vo
 w:vq
 K:yE
 mg:Str->Option vm
 base:vx
 A:vt
 N:List Str
 s₀:vn
 H₀:Hp
 env:Env
 outer:List Env
 stack:List Env
 ex:List vw
 fn:Str->Bool
 calm:Bool
 pn:List (vw×Obj)
 xe:vm->vn->Prop
noncomputable def jG (l:List Env):List vw:=l.filterMap (·.frame)
noncomputable abbrev Cx.fs (X:Cx):List vw:=jG X.outer
def Sg (sc:Scope) (x:Str):Prop:=sc.names.lookup x=some .local\/sc.names.lookup x=some .cell\/sc.names.lookup x=some .free
def Loc (sc:Scope) (x:Str):Prop:=sc.names.lookup x=some .local\/sc.names.lookup x=some .cell
def Look (env:Env) (h:vx) (m:Str->Option vm) (x:Str) (u:vm):Prop:=
 (env.kindOf x=some .local/\m x=some u)\/((env.kindOf x=some .cell\/env.kindOf x=some .free)/\∃c,env.cells.lookup x=some c/\h.IsCell c (some u))
structure Cx.Ok (X:Cx):Prop where
 mod:Mod X.K X.mg X.base
 kind:X.env.scope.kind=.function
 glob:X.env.globals=mainGlobals
 blt:X.env.builtins=builtinsNs
 above:X.s₀.heap.objs.size<=X.env.locals
 inj:∀x y c,X.env.cells.lookup x=some c->X.env.cells.lookup y=some c->x=y
 has:∀x,(X.env.kindOf x=some .cell\/X.env.kindOf x=some .free)->∃c,X.env.cells.lookup x=some c
 T9:∀x c,X.fn x=true->X.env.cells.lookup x=some c->X.s₀.heap.objs.size<=c
 hd:X.calm=true->X.A.handled=none
 frames:X.A.frames=some X.stack
 Ui:X.stack=X.outer\/(X.stack=X.env::X.outer/\X.env.frame=some X.env.locals)
 VE:∀b∈X.ex,b≠X.env.locals/\∀x c,X.env.cells.lookup x=some c->c≠b
 bs:∀b o,X.base.get? b=some o->X.s₀.heap.get? b=some o/\X.H₀ b=none
 NY:X.base.objs.size<=X.s₀.heap.objs.size
 mF:∀b o,X.base.get? b=some o->b∉X.ex
 KJ:∀b∈X.ex,b∉X.fs
 nG:X.s₀.heap.FunFrames X.base X.outer
 FT:∀b∈X.fs,X.H₀ b=none
structure Inv (X:Cx) (pins:List (vw×Obj)) (σ:List (Option V)) (H:Hp) (s:vn):Prop where
 ok:X.Ok
 os:s.os=X.s₀.os
 bare:AllBare s.gens
 base:Un X.fs X.ex X.H₀ H X.s₀.heap s.heap
 loc:∃m,s.heap.Ns X.env.locals m/\∀(i:Nat) (x:Str) (v:V),X.N[i]?=some x->σ[i]?=some (some v)->Sg X.env.scope x->∃u,RelV v u/\Look X.env s.heap m x u
 cell:∀x c,X.env.cells.lookup x=some c->∃v,s.heap.IsCell c v
 free:H X.env.locals=none
 jy:∀x c,X.env.cells.lookup x=some c->H c=none
 pin:∀p∈X.pn++pins,s.heap.get? p.1=some p.2/\H p.1=none/\p.1≠X.env.locals/\p.1∉X.fs/\∀v,p.2.data≠.cell v
 bV:oH X.prog X.w H s.heap
 len:⇑σ=⇑X.N
section
variable {X:Cx} {pins:List (vw×Obj)} {σ:List (Option V)} {H H':Hp} {s:vn} {h':vx}
def Cx.Ok.Wz (ok:X.Ok) (e:X.base.get? b=some o):b∉X.fs:=λhb=>by
 have:=(ok.nG.mem hb).1;rw[e] at this;cases this
theorem Inv.bs (I:Inv X pins σ H s):∀b o,X.base.get? b=some o->s.heap.get? b=some o/\H b=none:=λb o e=>
 {I.base.keep b o (I.ok.bs b o e).1 (I.ok.bs b o e).2 (I.ok.Wz e) (I.ok.mF b o e),I.base.free b o (I.ok.bs b o e).1 (I.ok.bs b o e).2 (I.ok.mF b o e)}
def Inv.bk (I:Inv X pins σ H s):∀b o,X.base.get? b=some o->s.heap.get? b=some o:=λb o e=>(I.bs b o e).1
theorem Inv.mod (I:Inv X pins σ H s):Mod X.K X.mg X.base:=I.ok.mod
def Inv.kc (I:Inv X pins σ H s):X.K.In s.heap:=I.ok.mod.Qy.keeps I.bk
theorem Inv.lt (I:Inv X pins σ H s):X.env.locals<↑s:=let ⟨_,hn,_⟩:=I.loc;hn.lt
def Inv.sz (I:Inv X pins σ H s):X.s₀.heap.objs.size<=↑s:=zN I.ok.above (yi I.lt)
def Inv.U1 (I:Inv X pins σ H s) (h:↑s<=a):a∉X.fs:=λhb=>by
 let⟨_,o,ho,_⟩:=I.ok.nG.mem hb;exact absurd (yc (yB ho) (zN I.sz h)) (yf _)
def Inv.Me (I:Inv X pins σ H s):∀x c,X.env.cells.lookup x=some c->c≠X.env.locals:=λx c e z=>by
 let⟨v,o,ho,hd⟩:=I.cell x c e;let⟨m,⟨o',es,ep,ho',hd',_⟩,_⟩:=I.loc;rw[z,ho'] at ho;cases ho;rw[hd'] at hd;cases hd
theorem Inv.nG (I:Inv X pins σ H s):s.heap.FunFrames X.base X.outer:=by
 let all:∀(l:List Env),(∀b∈jG l,b∈X.fs)->X.s₀.heap.FunFrames X.base l->s.heap.FunFrames X.base l:=by
  intro l
  induction l with
  | nil=>intro _ _;trivial
  | cons env r ih=>
   intro hs hl;let⟨hk,⟨L,o,hf,hn,ho,hd⟩,hr⟩:=hl;let hL:L∈X.fs:=hs L (by unfold jG;rw[w5,hf];exact zt);let⟨sl,e⟩:=I.base.slot L o ho (I.ok.FT L hL) hL λz=>I.ok.KJ L z hL;exact{hk,{L,_,hf,hn,e,hd},ih (λb hb=>hs b (by unfold jG;rw[w5,hf];exact zr _ hb)) hr}
 exact all X.outer (λ_ hb=>hb) I.ok.nG
theorem Inv.stack (I:Inv X pins σ H s):s.heap.FunFrames X.base X.stack:=by
 rcases I.ok.Ui with e | ⟨e,hf⟩
 ·rw[e];exact I.nG
 ·rw[e]
  let⟨m,hn,_⟩:=I.loc;refine .cons (by rw[I.ok.kind];decide) hf hn ?_ I.nG;exact Heap.get?_none_of_le (zN I.ok.NY I.ok.above)
def Inv.EN (I:Inv X pins σ H s):∀b∈jG X.stack,b∈X.env.locals::X.fs:=λb hb=>by
 rcases I.ok.Ui with e | ⟨e,hf⟩
 ·rw[e] at hb;exact zr _ hb
 ·rw[e] at hb
  unfold jG at hb;rw[w5,hf] at hb;exact hb
def Inv.kP (I:Inv X pins σ H s):∀b∈jG X.stack,H b=none:=λb hb=>by
 rcases zE.mp (I.EN b hb) with e | hb
 ·rw[e];exact I.free
 ·let⟨_,o,ho,_⟩:=I.ok.nG.mem hb
  exact I.base.free b o ho (I.ok.FT b hb) λz=>I.ok.KJ b z hb
def Inv.step {g':Array GenState} {t':Nat} {d':Drawn} {ch:List vw} (I:Inv X pins σ H s)
  (hch:∀b∈ch,(b∈X.ex\/X.s₀.heap.objs.size<=b)/\b≠X.env.locals/\(∀x c,X.env.cells.lookup x=some c->c≠b)/\∀p∈X.pn++pins,p.1≠b)
  (keep:∀b o,b≠X.env.locals->b∉X.fs->b∉ch->s.heap.get? b=some o->H b=none->h'.get? b=some o)
  (slot:∀b o,b≠X.env.locals->b∈X.fs->b∉ch->s.heap.get? b=some o->H b=none->∃sl,h'.get? b=some {o with slots:=sl}) (free:∀b o,b∉ch->s.heap.get? b=some o->H b=none->H' b=none)
  (there:∀b o,b∉ch->s.heap.get? b=some o->∃o',h'.get? b=some o')
  (mz:∀b xs,H b=some (.tup xs)->H' b=some (.tup xs)) (kE:∀b o u,H b=some (.mG o u)->H' b=some (.mG o u)) (mC:∀b ps,H b=some (.Oh ps)->∃more,H' b=some (.Oh (ps++more)))
  (ns:∀m,s.heap.Ns X.env.locals m->h'.Ns X.env.locals m) (bV:oH X.prog X.w H' h') (hg:AllBare g') :
  Inv X pins σ H' {s with heap:=h',gens:=g',drawn:=d',toks:=t'}:=by
 let neL:∀b o,X.s₀.heap.get? b=some o->b≠X.env.locals:=λb o e=>yk (yc (yB e) I.ok.above);let neC:∀b o,X.s₀.heap.get? b=some o->b∉X.ex->b∉ch:=λb o e hx hb=>by
  rcases(hch b hb).1 with z | z
  ·exact hx z
  ·exact absurd (yc (yB e) z) (yf _)
 let cellK:∀x c,X.env.cells.lookup x=some c->∀v,s.heap.IsCell c v->h'.IsCell c v:=λx c e v ⟨o,ho,hd⟩=>by
  let nch:c∉ch:=λz=>(hch c z).2.2.1 x c e rfl
  by_cases hc:c∈X.fs
  ·let⟨sl,q⟩:=slot c o (I.Me x c e) hc nch ho (I.jy x c e)
   exact{_,q,hd}
  ·exact{o,keep c o (I.Me x c e) hc nch ho (I.jy x c e),hd}
 refine{I.ok,I.os,hg,{λb o e n hb hx=>?_,λb o e n hb hx=>?_,λb o e n hx=>?_,λb o e hx=>?_,λb xs e=>mz b xs (I.base.mz b xs e),λb o xs e=>kE b o xs (I.base.kE b o xs e),λb ps e=>?_},?_,λx c e=>?_,?_,λx c e=>?_,λp hp=>?_,bV,I.len}
 ·exact keep b o (neL b o e) hb (neC b o e hx) (I.base.keep b o e n hb hx) (I.base.free b o e n hx)
 ·let⟨sl,e1⟩:=I.base.slot b o e n hb hx
  let⟨sl',e2⟩:=slot b _ (neL b o e) hb (neC b o e hx) e1 (I.base.free b o e n hx);exact{(sl'),e2}
 ·let⟨o',e1⟩:=I.base.there b o e hx
  exact free b o' (neC b o e hx) e1 (I.base.free b o e n hx)
 ·let⟨o',e1⟩:=I.base.there b o e hx
  exact there b o' (neC b o e hx) e1
 ·let⟨m1,e1⟩:=I.base.mC b ps e
  let⟨m2,e2⟩:=mC b _ e1;exact{m1++m2,by rw[e2,Array.append_assoc]}
 ·let⟨m,hn,hl⟩:=I.loc
  refine{m,ns m hn,λi x v e1 e2 e3=>?_};let⟨u,r,l⟩:=hl i x v e1 e2 e3;refine{u,r,?_};rcases l with l | ⟨k,c,e,z⟩
  ·exact .inl l
  ·exact .inr {k,c,e,cellK x c e _ z}
 ·let⟨v,z⟩:=I.cell x c e
  exact{v,cellK x c e v z}
 ·let⟨m,⟨o,_,_,ho,_⟩,_⟩:=I.loc
  exact free _ o (λz=>(hch _ z).2.1 rfl) ho I.free
 ·let⟨v,o,ho,hd⟩:=I.cell x c e
  exact free c o (λz=>(hch c z).2.2.1 x c e rfl) ho (I.jy x c e)
 ·let⟨e,n,ne,nf,d⟩:=I.pin p hp
  let nch:p.1∉ch:=λz=>(hch p.1 z).2.2.2 p hp rfl;exact{keep p.1 p.2 ne nf nch e n,free p.1 p.2 nch e n,ne,nf,d}
def Inv.un {t':Nat} (I:Inv X pins σ H s) (u:Un X.fs [] H H' s.heap h') (bV:oH X.prog X.w H' h'):Inv X pins σ H' {s with heap:=h',toks:=t'}:=by
 let⟨m,⟨o,es,ep,ho,r⟩,_⟩:=id I.loc;let⟨sl,hL⟩:=u.any ho I.free (by simp);exact I.step (g':=s.gens) (d':=s.drawn) (ch:=[]) (λ_ z=>nomatch z) (λb o _ hb _ e n=>u.keep b o e n hb (by simp)) (λb o _ hb _ e n=>u.slot b o e n hb (by simp)) (λb o _ e n=>u.free b o e n (by simp)) (λb o _ e=>u.there b o e (by simp)) u.mz u.kE u.mC (λm' hm=>by
  let⟨o',es',ep',ho',r'⟩:=hm;rw[ho] at ho';cases ho';exact{_,es',ep',hL,r'}) bV I.bare
def Inv.call {g':Array GenState} {t':Nat} {d':Drawn} {ch:List vw} (I:Inv X pins σ H s) (u:Un (jG X.stack) ch H H' s.heap h') (bV:oH X.prog X.w H' h') (hg:AllBare g')
  (hch:∀b∈ch,(b∈X.ex\/X.s₀.heap.objs.size<=b)/\b≠X.env.locals/\(∀x c,X.env.cells.lookup x=some c->c≠b)/\∀p∈X.pn++pins,p.1≠b) :
  Inv X pins σ H' {s with heap:=h',gens:=g',drawn:=d',toks:=t'}:=by
 let⟨m,⟨o,es,ep,ho,r⟩,_⟩:=id I.loc;let⟨sl,hL⟩:=u.any ho I.free λz=>(hch _ z).2.1 rfl;exact I.step (ch:=ch) hch (λb o hL hb hc e n=>u.keep b o e n (λz=>(zE.mp (I.EN b z)).elim hL hb) hc) (λb o _ _ hc e n=>u.any e n hc) (λb o hc e n=>u.free b o e n hc) (λb o hc e=>u.there b o e hc) u.mz u.kE u.mC (λm' hm=>by
  let⟨o',es',ep',ho',r'⟩:=hm;rw[ho] at ho';cases ho';exact{_,es',ep',hL,r'}) bV hg
def Inv.turned {t':Nat} {it:vw} (I:Inv X pins σ H s) (k:∀b o,b≠it->s.heap.get? b=some o->h'.get? b=some o) (hn:H it=none) (hL:it≠X.env.locals)
  (h1:it∈X.ex\/X.s₀.heap.objs.size<=it) (h2:∀x c,X.env.cells.lookup x=some c->c≠it) (h3:∀p∈X.pn++pins,p.1≠it):Inv X pins σ H {s with heap:=h',toks:=t'}:=by
 let nit:∀b u,H b=some u->b≠it:=λb u e z=>by rw[z,hn] at e;cases e
 refine I.step (g':=s.gens) (d':=s.drawn) (ch:=[it]) (λb hb=>?_) (λb o _ _ hc e _=>k b o (λz=>hc (by simp[z])) e) (λb o _ _ hc e _=>{o.slots,k b o (λz=>hc (by simp[z])) e}) (λ_ _ _ _ n=>n)
  (λb o hc e=>{o,k b o (λz=>hc (by simp[z])) e}) (λ_ _ e=>e) (λ_ _ _ e=>e) (λb ps e=>{#[],by rw[e];simp}) (λm hm=>?_) (λb u e=>?_) I.bare
 ·let e:b=it:=by simpa using hb
  subst e;exact{(h1),hL,h2,h3}
 ·let⟨o,es,ep,ho,r⟩:=hm
  exact{o,es,ep,k _ o (Ne.symm hL) ho,r}
 ·refine(I.bV b u e).jH (λc v hc q=>k c v ?_ q) (λ_ q=>q) λ_ _ q=>q
  rcases hc with z | z
  ·rw[z];exact nit b u e
  ·exact nit c _ z
def Inv.tok (I:Inv X pins σ H s) (t:Nat):Inv X pins σ H {s with toks:=t}:=I.un (h':=s.heap) (t':=t) Un.refl I.bV
theorem Inv.kept (I:Inv X pins σ H s) (k:∀b u,s.heap.get? b=some u->h'.get? b=some u):Inv X pins σ H {s with heap:=h',toks:=t'}:=I.un (Un.kept k) (I.bV.kept k)
theorem Inv.laid (I:Inv X pins σ H s) (k:∀b u,s.heap.get? b=some u->h'.get? b=some u) (hp:↑s<=a) (new:b8 X.prog X.w (upd H a o) h' a o) :
  Inv X pins σ (upd H a o) {s with heap:=h',toks:=t'}:=I.un (Un.laid k hp (I.bV.fresh hp)) (I.bV.laid k hp new)
theorem Inv.write (I:Inv X pins σ H s) (mu:Vt (H x)) (he:e=x\/H e=some (.own x)) (k:∀b u,b≠e->s.heap.get? b=some u->h'.get? b=some u) (heo:∃u,h'.get? e=some u)
  (new:b8 X.prog X.w (upd H x o) h' x o):Inv X pins σ (upd H x o) {s with heap:=h',toks:=t'}:=I.un (Un.write mu he k heo) (I.bV.write mu he k heo new)
def Inv.nZ (I:Inv X pins σ H s) (h:∀p∈pins',s.heap.get? p.1=some p.2/\H p.1=none/\p.1≠X.env.locals/\p.1∉X.fs/\∀v,p.2.data≠.cell v):Inv X pins' σ H s:=
 {I.ok,I.os,I.bare,I.base,I.loc,I.cell,I.free,I.jy,λp hp=>(zH.mp hp).elim (λz=>I.pin p (zK _ z)) (h p),I.bV,I.len}
def Ba {N:List Str} (hN:N.Nodup) {i j:Nat} {x:Str} (a:N[i]?=some x) (b:N[j]?=some x):i=j:=by
 let⟨h1,e1⟩:=zA.mp a;let⟨h2,e2⟩:=zA.mp b;exact(List.getElem_inj hN).mp (e1.trans e2.symm)
def DE {M:Model} {A:vt} {E:vm->vn->Prop} {i:Nat} {x:Str} {v:V} {u:vm} {Q:Unit->vn->Prop} (I:Inv X pins σ H s) (hN:X.N.Nodup) (hi:X.N[i]?=some x) (hx:Loc X.env.scope x) (r:RelV v u)
  (h:∀s',Inv X pins (σ.set i (some v)) H s'->(∃a,Heap.SameBut a s.heap s'.heap/\(a=X.env.locals\/X.env.cells.lookup x=some a))->Q .unit s') (hf:X.fn x=true\/X.env.scope.names.lookup x=some .local<|>qa_):wpAny M A (storeName X.env x u) Q E s:=by
 let⟨m,hn,hl⟩:=id I.loc;let hcls:(X.env.scope.kind == .class||(X.env.scope.kind == .module&&X.env.locals != X.env.globals))=false:=by rw[I.ok.kind];rfl
 let hiσ:i<⇑σ:=by rw[I.len];exact(zA.mp hi).1
 let Me:=I.Me;let tracked:∀{a:vw} {h':vx},(∃o,s.heap.get? a=some o/\H a=none)->Heap.SameBut a s.heap h'->oH X.prog X.w H h':=λ{a h'} ha hs b ob e=>by
  let⟨_,_,hfree⟩:=ha;refine(I.bV b ob e).jH (λc w' hc q=>(hs.2 c ?_).trans q) (λ_ q=>q) λ_ _ q=>q;rintro rfl;rcases hc with rfl | hc
  ·rw[hfree] at e;cases e
  ·rw[hfree] at hc;cases hc
 rcases hx with hk | hk
 ·refine wpAny_storeName_local hk hn (λh' hn' hs=>?_) hcls
  let⟨oL,_,_,hoL,_⟩:=id hn;refine h _ {I.ok,I.os,I.bare,{λb o e n hb hx=>?_,λb o e n hb hx=>?_,I.base.free,λb o e hx=>?_,I.base.mz,I.base.kE,I.base.mC},{_,hn',λj y v' e1 e2 e3=>?_},λy c e=>?_,I.free,I.jy,λp hp=>?_,tracked {(oL),hoL,I.free} hs,by simpa using I.len} {_,hs,.inl rfl}
  ·exact(hs.2 b (yk (yc (yB e) I.ok.above))).trans (I.base.keep b o e n hb hx)
  ·let⟨sl,e1⟩:=I.base.slot b o e n hb hx
   exact{sl,(hs.2 b (yk (yc (yB e) I.ok.above))).trans e1}
  ·let⟨o',e1⟩:=I.base.there b o e hx
   exact{o',(hs.2 b (yk (yc (yB e) I.ok.above))).trans e1}
  ·by_cases hj:j=i
   ·subst hj
    rw[hi] at e1;cases e1;rw[List.getElem?_set_self hiσ] at e2;cases e2;exact{u,r,.inl {hk,by simp}}
   ·rw[List.getElem?_set_ne (Ne.symm hj)] at e2
    let⟨u',r',q⟩:=hl j y v' e1 e2 e3;refine{u',r',?_};rcases q with⟨k,e⟩ | ⟨k,c,e,z⟩
    ·refine .inl {k,?_}
     have:y≠x:=λe=>hj (Ba hN e1 (e▸hi));simp[this,e]
    ·exact .inr {k,c,e,z.sameBut hs (Me y c e)}
  ·let⟨w',z⟩:=I.cell y c e
   exact{w',z.sameBut hs (Me y c e)}
  ·let⟨e,n,ne,nf,d⟩:=I.pin p hp
   exact{(hs.2 p.1 ne).trans e,n,ne,nf,d}
 ·let hfn:X.fn x=true:=by
   rcases hf with z | z
   ·exact z
   ·rw[z] at hk;cases hk
  let⟨c,hc⟩:=I.ok.has x (.inl hk);let⟨w',z⟩:=I.cell x c hc;refine wpAny_storeName_cell I.ok.kind hk hc z (λh' hc' hs=>?_);let⟨oc,hoc,hocd⟩:=id z;refine h {s with heap:=h'} {I.ok,I.os,I.bare,{λb o e n hb hx=>?_,λb o e n hb hx=>?_,I.base.free,λb o e hx=>?_,I.base.mz,I.base.kE,I.base.mC},{m,hn.sameBut hs (Ne.symm (Me x c hc)),λj y v' e1 e2 e3=>?_},λy c' e=>?_,I.free,I.jy,λp hp=>?_,tracked {oc,hoc,I.jy x c hc} hs,by simpa using I.len} {c,hs,.inr hc}
  ·exact(hs.2 b (yk (yc (yB e) (I.ok.T9 x c hfn hc)))).trans (I.base.keep b o e n hb hx)
  ·let⟨sl,e1⟩:=I.base.slot b o e n hb hx
   exact{sl,(hs.2 b (yk (yc (yB e) (I.ok.T9 x c hfn hc)))).trans e1}
  ·let⟨o',e1⟩:=I.base.there b o e hx
   exact{o',(hs.2 b (yk (yc (yB e) (I.ok.T9 x c hfn hc)))).trans e1}
  ·by_cases hj:j=i
   ·subst hj
    rw[hi] at e1;cases e1;rw[List.getElem?_set_self hiσ] at e2;cases e2;exact{u,r,.inr {.inl hk,c,hc,hc'}}
   ·rw[List.getElem?_set_ne (Ne.symm hj)] at e2
    let⟨u',r',q⟩:=hl j y v' e1 e2 e3;refine{u',r',?_};rcases q with q | ⟨k,c',e,z'⟩
    ·exact .inl q
    ·refine .inr {k,c',e,z'.sameBut hs ?_}
     rintro rfl;exact hj (Ba hN e1 (I.ok.inj _ _ _ e hc▸hi))
  ·by_cases hcc:c'=c
   ·subst hcc;exact{_,hc'}
   ·let⟨w2,z2⟩:=I.cell y c' e
    exact{w2,z2.sameBut hs hcc}
  ·let⟨e,n,ne,nf,d⟩:=I.pin p hp
   refine{(hs.2 p.1 ?_).trans e,n,ne,nf,d};intro q;rw[q,hoc] at e;let q':oc=p.2:=ym e;exact d w' (by rw[<-q'];exact hocd)
def kr (I:Inv X pins σ H s) (hN:X.N.Nodup) (hi:X.N[i]?=some x) (hx:Loc X.env.scope x) (r:RelV v u)
  (h:∀s',Inv X pins (σ.set i (some v)) H s'->Q .unit s') (hf:X.fn x=true\/X.env.scope.names.lookup x=some .local<|>qa_):wpAny M A (storeName X.env x u) Q E s:=
 DE I hN hi hx r (λs' I' _=>h s' I') hf
def Inv.Mg (I:Inv X pins σ H s) (ho:s'.os=s.os) (u:Un (jG X.stack) ch H H' s.heap s'.heap) (bV:oH X.prog X.w H' s'.heap) (hg:AllBare s'.gens)
  (hch:∀b∈ch,(b∈X.ex\/X.s₀.heap.objs.size<=b)/\b≠X.env.locals/\(∀x c,X.env.cells.lookup x=some c->c≠b)/\∀p∈X.pn++pins,p.1≠b):Inv X pins σ H' s':=by
 let⟨h',g',d',t',o'⟩:=s';let e:o'=s.os:=ho;subst e;exact I.call (g':=g') (t':=t') (d':=d') u bV hg hch
end
abbrev XK:=vm->Option vw->Hp->Prop
abbrev St:=List (Option V)
abbrev VK:=V->Hp->Prop
abbrev TE:=St->Hp->VK->Prop
abbrev TT:=St->Hp->(Bool->Hp->Prop)->Prop
abbrev TA:=St->Hp->(List V->Hp->Prop)->Prop
structure Ends where
 nx:St->Hp->Prop
 rt:VK
 bk:St->Hp->Prop:=λ_ _=>False
 ct:St->Hp->Prop:=λ_ _=>False
abbrev TS:=Ends->St->Hp->Prop
def EP (X:Cx) (pins:List (vw×Obj)) (σ:St) (Q:VK) (u:vm) (s':vn):Prop:=∃v H',Inv X pins σ H' s'/\RelV v u/\Q v H'
def TP (X:Cx) (pins:List (vw×Obj)) (σ:St) (Q:Bool->Hp->Prop) (b:Bool) (s':vn):Prop:=∃H',Inv X pins σ H' s'/\Q b H'
def AP (X:Cx) (pins:List (vw×Obj)) (σ:St) (Q:List V->Hp->Prop) (us:List vm) (s':vn):Prop:=∃vs H',Inv X pins σ H' s'/\Vals vs us/\Q vs H'
def SP (X:Cx) (pins:List (vw×Obj)) (D:Ends) (f:Flow) (s':vn):Prop:=
 match f with
 | .next=>∃σ' H',Inv X pins σ' H' s'/\D.nx σ' H'
 | .brk=>∃σ' H',Inv X pins σ' H' s'/\D.bk σ' H'
 | .cont=>∃σ' H',Inv X pins σ' H' s'/\D.ct σ' H'
 | .ret u=>∃v σ' H',Inv X pins σ' H' s'/\RelV v u/\D.rt v H'
def PE (X:Cx) (e:Expr) (t:TE):Prop:=
 ∀⦃pins:List (vw×Obj)⦄ (s:vn) (σ:St) (H:Hp) (Q:VK),Inv X pins σ H s->t σ H Q->wpAny (model X.prog X.w) X.A (eval e X.env) (EP X pins σ Q) X.xe s
def PT (X:Cx) (e:Expr) (t:TT):Prop:=
 ∀⦃pins:List (vw×Obj)⦄ (s:vn) (σ:St) (H:Hp) (Q:Bool->Hp->Prop),Inv X pins σ H s->t σ H Q->wpAny (model X.prog X.w) X.A (isTrue e X.env (eval e X.env)) (TP X pins σ Q) X.xe s
def PW (X:Cx) (e:Expr) (t:TT):Prop:=
 ∀(whole:Sem vm) (pins:List (vw×Obj)) (s:vn) (σ:St) (H:Hp) (Q:Bool->Hp->Prop),Inv X pins σ H s->t σ H Q->wpAny (model X.prog X.w) X.A (isTrue e X.env whole) (TP X pins σ Q) X.xe s
def PW.pt (h:PW X e t):PT X e t:=h _
def PA (X:Cx) (es:List Expr) (t:TA):Prop:=
 ∀⦃pos:Pos⦄ ⦃pins:List (vw×Obj)⦄ (s:vn) (σ:St) (H:Hp) (Q:List V->Hp->Prop),Inv X pins σ H s->t σ H Q->wpAny (model X.prog X.w) X.A (spliced (backTo pos (starEach es X.env))) (AP X pins σ Q) X.xe s
def PS (X:Cx) (st:Stmt) (t:TS):Prop:=
 ∀⦃pins:List (vw×Obj)⦄ (s:vn) (σ:St) (H:Hp) (D:Ends),Inv X pins σ H s->t D σ H->wpAny (model X.prog X.w) X.A (exec st X.env) (SP X pins D) X.xe s
def Ce (X:Cx) (st:List Stmt) (t:TS):Prop:=
 ∀⦃pins:List (vw×Obj)⦄ (s:vn) (σ:St) (H:Hp) (D:Ends),Inv X pins σ H s->t D σ H->wpAny (model X.prog X.w) X.A (execs st X.env) (SP X pins D) X.xe s
def cJ (h:wpAny M A t Q E s) (hQ:∀a s,Q a s->Q' a s):wpAny M A t Q' E s:=xc h hQ λ_ _ x=>x
end L2
namespace L2
open PySem PySem.Spec PyProof.Rows
section
variable {X:Cx}
def aW (i:Nat):TE:=λσ H Q=>∃v,σ[i]?=some (some v)/\Q v H
def tC (v:V):TE:=λ_ H Q=>Q v H
def Td (hN:X.N[i]?=some x) (hv:Sg X.env.scope x) (hd:(x == ("__debug__": Str))=false<|>qb_) (hcd:(x == ("__classdict__": Str))=false<|>qb_):PE X (.Name x pos) (aW i):=by
 intro pins s σ H Q I h;let⟨v,e,h⟩:=h;let⟨m,hn,hl⟩:=I.loc;let⟨u,r,l⟩:=hl i x v hN e hv;let fin:EP X pins σ Q u s:={(v),H,I,r,h}
 rcases l with⟨hk,hm⟩ | ⟨hk,c,hc,hcell⟩
 ·exact wpAny_Name (wpAny_loadName_local I.ok.kind hk hn hm fin) hd
 ·rcases hk with hk | hk
  ·exact wpAny_Name (wpAny_loadName_cell I.ok.kind hk hc hcell fin) hd
  ·exact wpAny_Name (wpAny_loadName_free I.ok.kind hk hc hcell fin hcd) hd
def af:PE X (.Constant (.int i) j pos) (tC (.int i)):=λ_ _ _ H _ I h=>wpAny_Constant_int {.int i,H,I.tok _,{_,rfl},h}
def lY:PE X (.Constant (.bool b) j pos) (tC (.bl b)):=λ_ _ _ H _ I h=>Constant_bool {.bl b,H,I,rfl,h}
def bj:PE X (.Constant .none j pos) (tC .bQ):=λ_ _ _ H _ I h=>Constant_none {.bQ,H,I,rfl,h}
def az:PE X (.Constant (.str x) j pos) (tC (.str x)):=λ_ _ _ H _ I h=>Calls.Constant_str {.str x,H,I.tok _,{_,rfl},h}
def Gl (X:Cx) (x:Str):Prop:=X.env.kindOf x=some .globalImplicit
def fW (I:Inv X pins σ H s) (hg:Gl X x) (hm:X.mg x=some u) (h:Q u s)
  (hd:(x == ("__debug__": Str))=false<|>qb_):wpAny (model X.prog X.w) X.A (eval (.Name x pos) X.env) Q E s:=
 Calls.Name_function_global I.ok.kind hg (Calls.loadGlobal_global (by rw[I.ok.glob];exact I.mod.glob.keeps I.bk) hm h) hd
def lB (I:Inv X pins σ H s) (hg:Gl X x) (hm:X.mg x=none) (hv:bootBuiltins x=some u) (h:Q u s)
  (hn:x≠ "__name__"<|>qb_) (hd:(x == ("__debug__": Str))=false<|>qb_):wpAny (model X.prog X.w) X.A (eval (.Name x pos) X.env) Q E s:=by
 let⟨mb,h1,h2⟩:=I.mod.blt;exact Calls.Name_function_global I.ok.kind hg (Calls.loadGlobal_builtin (by rw[I.ok.glob];exact I.mod.glob.keeps I.bk) hm (by rw[I.ok.blt];exact h1.keeps I.bk) ((h2 x hn).trans hv) h) hd
def bH (hg:Gl X x) (hm:X.mg x=some u) (r:RelV v u) (hd:(x == ("__debug__": Str))=false<|>qb_):PE X (.Name x pos) (tC v):=
 λ_ _ _ H _ I h=>fW I hg hm {(v),H,I,r,h} hd
def LM (hg:Gl X x) (hm:X.mg x=none) (hv:bootBuiltins x=some u) (r:RelV v u) (hn:x≠ "__name__"<|>qb_) (hd:(x == ("__debug__": Str))=false<|>qb_):PE X (.Name x pos) (tC v):=
 λ_ _ _ H _ I h=>lB I hg hm hv {(v),H,I,r,h} hn hd
variable {a b:Expr} {ta tb:TE} {pos:Pos}
def PC (X:Cx) (op:CmpOp) (a b:Expr) (t:TE):Prop:=
 ∀⦃pins:List (vw×Obj)⦄ (s:vn) (σ:St) (H:Hp) (Q:VK),Inv X pins σ H s->t σ H Q->
  wpAny (model X.prog X.w) X.A (eval a X.env) (λv s₁=>wpAny (model X.prog X.w) X.A (eval b X.env) (λu s₂=>wpAny (model X.prog X.w) X.A (compareOp op v u) (EP X pins σ Q) X.xe s₂) X.xe s₁) X.xe s
def Il (b:Expr) (h:op≠.In) (h2:op≠.NotIn):behindInMarks op b=false:=by
 let e1:(op == CmpOp.In)=false:=by cases op <;> first | rfl | exact absurd rfl h
 let e2:(op == CmpOp.NotIn)=false:=by cases op <;> first | rfl | exact absurd rfl h2
 cases b <;> simp[behindInMarks,e1,e2]
def MG (ta:TE):TE:=λσ H Q=>ta σ H λx H1=>Q (.bl (decide (x=.bQ))) H1
def G1 (ta:TE):TE:=λσ H Q=>ta σ H λx H1=>Q (.bl (!decide (x=.bQ))) H1
def RelV.Ij (r:RelV x v):(v == Value.none)=decide (x=.bQ):=by
 cases x with
 | bQ=>cases r;rfl
 | bl _=>cases r;rfl
 | int _=>let⟨t,rfl⟩:=r;rfl
 | str _=>let⟨t,rfl⟩:=r;rfl
 | Mh _=>let⟨t,rfl⟩:=r;rfl
 | Rw _=>let⟨t,rfl⟩:=r;rfl
 | ref _=>cases r;rfl
 | ty _=>cases r;rfl
def cF (ha:PE X a ta):PC X .Is a (.Constant .none j pos') (MG ta):=by
 intro pins s σ H Q I h;refine cJ (ha s σ H _ I h) λv s1 z0=>?_;let⟨x,H1,I1,r1,q1⟩:=z0;exact Constant_none (is_none_gen {.bl _,H1,I1,by rw[r1.Ij];rfl,q1})
def fB (ha:PE X a ta):PC X .IsNot a (.Constant .none j pos') (G1 ta):=by
 intro pins s σ H Q I h;refine cJ (ha s σ H _ I h) λv s1 z0=>?_;let⟨x,H1,I1,r1,q1⟩:=z0;exact Constant_none (isnot_none_gen {.bl _,H1,I1,by rw[r1.Ij];rfl,q1})
def tB (t:TE):TT:=λσ H Q=>t σ H λx H1=>∃c,x=.bl c/\Q c H1
def sE (h:PC X op a b t) (h1:behindInMarks op b=false<|>qc_):PE X (.Compare a [op] [b] pos) t:=λpins s σ H Q I hw=>wpAny_Compare1 (h s σ H Q I hw) h1
def bL (h:PC X op a b t) (h1:behindInMarks op b=false<|>qc_):PT X (.Compare a [op] [b] pos) (tB t):=by
 intro pins s σ H Q I hw;refine wpAny_isTrue_Compare1 (cJ (h s σ H _ I hw) λv s1 h1=>cJ h1 λu s2 h2=>cJ h2 λc s3 z0=>?_) h1;let⟨x,H1,I1,r1,q1⟩:=z0;let⟨d,rfl,q⟩:=q1;cases r1;exact xh {(H1),I1,q}
def cj (h:PE X e t) (he:(∀whole,isTrue e X.env whole=(do let v <-whole;standAt e.pos;holding [v] (truthy v)))<|>qd_):PT X e (tB t):=by
 intro pins s σ H Q I hw;refine isTrue_plain (cJ (h s σ H _ I hw) λv s1 z0=>?_) (he _);let⟨x,H1,I1,r1,q1⟩:=z0;let⟨d,rfl,q⟩:=q1;cases r1;exact xh {(H1),I1,q}
variable {tA tB':TT} {rest:List Expr}
def SS (t u:TT):TT:=λσ H Q=>t σ H λc H1=>if c=true then u σ H1 Q else Q false H1
def Wk (t u:TT):TT:=λσ H Q=>t σ H λc H1=>if c=true then Q true H1 else u σ H1 Q
def QP (t:TT):TT:=λσ H Q=>t σ H λc H1=>Q (!c) H1
def c9 (ha:PT X a tA):PW X (.BoolOp .And [a] pos) tA:=by
 intro wh pins s σ H Q I h;refine isTrue_and (cJ (ha s σ H Q I h) λc s1 e=>?_);cases c with
 | true=>exact isTrue_and_nil e
 | false=>exact e
def dk (ha:PT X a tA):PW X (.BoolOp .Or [a] pos) tA:=by
 intro wh pins s σ H Q I h;refine isTrue_or (cJ (ha s σ H Q I h) λc s1 e=>?_);cases c with
 | false=>exact isTrue_or_nil e
 | true=>exact e
def dr (ha:PT X a tA) (hb:PW X (.BoolOp .And (b::rest) pos) tB'):PW X (.BoolOp .And (a::b::rest) pos) (SS tA tB'):=by
 intro wh pins s σ H Q I h;refine isTrue_and (cJ (ha s σ H _ I h) λc s1 z0=>?_);let⟨H1,I1,q1⟩:=z0;cases c with
 | true=>exact hb wh pins s1 σ H1 Q I1 q1
 | false=>exact{(H1),I1,q1}
def d8 (ha:PT X a tA) (hb:PW X (.BoolOp .Or (b::rest) pos) tB'):PW X (.BoolOp .Or (a::b::rest) pos) (Wk tA tB'):=by
 intro wh pins s σ H Q I h;refine isTrue_or (cJ (ha s σ H _ I h) λc s1 z0=>?_);let⟨H1,I1,q1⟩:=z0;cases c with
 | true=>exact{(H1),I1,q1}
 | false=>exact hb wh pins s1 σ H1 Q I1 q1
def eM (ha:PT X a tA):PT X (.UnaryOp .Not a pos) (QP tA):=by
 intro pins s σ H Q I h;exact isTrue_not (ha s σ H (λc H1=>Q (!c) H1) I h)
def RW (ta tb:TE):TE:=λσ H Q=>ta σ H λx H1=>∃c,x=.bl c/\if c=true then tb σ H1 Q else Q (.bl false) H1
def UH (ta tb:TE):TE:=λσ H Q=>ta σ H λx H1=>∃c,x=.bl c/\if c=true then Q (.bl true) H1 else tb σ H1 Q
def UI (ta:TE):TE:=λσ H Q=>ta σ H λx H1=>∃c,x=.bl c/\Q (.bl (!c)) H1
def hX (h:PE X a t):PE X (.BoolOp op [a] pos) t:=λpins s σ H Q I hw=>BoolOp_one (h s σ H Q I hw)
def ia (ha:PE X a ta) (hb:PE X (.BoolOp .And (b::rest) pos) tb):PE X (.BoolOp .And (a::b::rest) pos) (RW ta tb):=by
 intro pins s σ H Q I h;refine BoolOp_and (cJ (ha s σ H _ I h) λv s1 z0=>?_);let⟨x,H1,I1,r1,q1⟩:=z0;let⟨c,rfl,q1⟩:=q1;cases r1;refine xh ?_;cases c with
 | true=>exact hb s1 σ H1 Q I1 q1
 | false=>exact{.bl false,H1,I1,rfl,q1}
def O1 (ha:PE X a ta) (hb:PE X (.BoolOp .Or (b::rest) pos) tb):PE X (.BoolOp .Or (a::b::rest) pos) (UH ta tb):=by
 intro pins s σ H Q I h;refine BoolOp_or (cJ (ha s σ H _ I h) λv s1 z0=>?_);let⟨x,H1,I1,r1,q1⟩:=z0;let⟨c,rfl,q1⟩:=q1;cases r1;refine xh ?_;cases c with
 | false=>exact hb s1 σ H1 Q I1 q1
 | true=>exact{.bl true,H1,I1,rfl,q1}
def Xq (t:TT) (ta tb:TE):TE:=λσ H Q=>t σ H λc H1=>if c=true then ta σ H1 Q else tb σ H1 Q
def HQ (hc:PT X c tA) (ha:PE X a ta) (hb:PE X b tb):PE X (.IfExp c a b pos) (Xq tA ta tb):=by
 intro pins s σ H Q I h;refine wpAny_IfExp (cJ (hc s σ H _ I h) λd s1 z0=>?_);let⟨H1,I1,q1⟩:=z0;cases d with
 | true=>exact ha s1 σ H1 Q I1 q1
 | false=>exact hb s1 σ H1 Q I1 q1
end
end L2
namespace L2
open PySem PySem.Spec PyProof.Rows
def fM (K:yE) (H:Hp) (a:vw) (xs:List V):Prop:=
 Rd H a (.lst xs)\/
  ∃(o:Obj) (its:Array vm) (n:Nat),K.lookup a=some o/\o.cls=.type "list"/\o.dict=none/\o.data=.seq its n/\its.size<=sizeLine/\Vals xs its.toList
def mI (K:yE) (H:Hp) (a:vw) (xs:List V):Prop:=
 Rd H a (.tup xs)\/
  ∃(o:Obj) (its:Array vm) (n:Nat),K.lookup a=some o/\o.cls=.type "tuple"/\o.data=.seq its n/\its.size<=sizeLine/\Vals xs its.toList
noncomputable def WU:vm->Option V
 | .none=>some .bQ
 | .bool b=>some (.bl b)
 | .int i _=>some (.int i)
 | .str x _=>some (.str x)
 | .bytes b _=>some (.Mh b)
 | .float b _=>some (.Rw b)
 | .ref a=>some (.ref a)
 | .type n=>some (.ty n)
 | _=>none
def RelV.abs (r:RelV x u):WU u=some x:=by
 cases x with
 | bQ=>cases r;rfl
 | bl _=>cases r;rfl
 | int _=>let⟨t,rfl⟩:=r;rfl
 | str _=>let⟨t,rfl⟩:=r;rfl
 | Mh _=>let⟨t,rfl⟩:=r;rfl
 | Rw _=>let⟨t,rfl⟩:=r;rfl
 | ref _=>cases r;rfl
 | ty _=>cases r;rfl
def RelV.inj (r:RelV x u) (q:RelV y u):x=y:=ym (r.abs.symm.trans q.abs)
theorem Vals.inj:∀{xs ys:List V} {us:List vm},Vals xs us->Vals ys us->xs=ys
 | _,_,_,.nil,k=>by cases k;rfl
 | _,_,_,.cons r t,k=>by
  cases k with
  | cons r' t'=>rw[r.inj r',Vals.inj t t']
section
variable {X:Cx} {pins:List (vw×Obj)} {σ:St} {H:Hp} {s:vn} {a:vw} {xs ys:List V}
def ak {K:yE} (h:H a=some (.lst xs)):fM K H a xs:=.inl (.inl h)
def bC {K:yE} (h:H a=some (.tup xs)):mI K H a xs:=.inl (.inl h)
def Inv.list (I:Inv X pins σ H s) (h:fM X.K H a xs):∃its:List vm,Vals xs its/\PlainL s.heap a its.toArray/\⇑xs<=sizeLine:=by
 rcases h with h | ⟨o,its,n,hk,hc,hd,hs,hz,r⟩
 ·let⟨z,its,n,r,e⟩:=h.ok I.bV
  exact{its,r,{_,n,e,rfl,rfl,rfl},z}
 ·refine{its.toList,r,{o,n,I.kc a o hk,hc,hd,by simpa using hs},?_}
  let e:=⇑r;simp only[yT] at e;ext
def Inv.tuple (I:Inv X pins σ H s) (h:mI X.K H a xs):∃its:List vm,Vals xs its/\IsTup s.heap a its.toArray/\⇑xs<=sizeLine:=by
 rcases h with h | ⟨o,its,n,hk,hc,hs,hz,r⟩
 ·let⟨z,its,r,p⟩:=h.ok I.bV
  exact{(its),r,p,z}
 ·refine{its.toList,r,{o,I.kc a o hk,hc,n,by simpa using hs},?_}
  let e:=⇑r;simp only[yT] at e;ext
def Inv.Bf (I:Inv X pins σ H s) (h:fM X.K H a xs) (h':fM X.K H a ys):xs=ys:=by
 let⟨its,r,⟨o,n,e,_,_,d⟩,_⟩:=I.list h;let⟨its',r',⟨o',n',e',_,_,d'⟩,_⟩:=I.list h';rw[e] at e';cases e';rw[d] at d';injection d' with d1 _;have:its=its':=by simpa using y6 Array.toList d1
 subst this;exact r.inj r'
def Inv.DD (I:Inv X pins σ H s) (h:mI X.K H a xs) (h':mI X.K H a ys):xs=ys:=by
 let⟨its,r,⟨o,e,_,n,d⟩,_⟩:=I.tuple h;let⟨its',r',⟨o',e',_,n',d'⟩,_⟩:=I.tuple h';rw[e] at e';cases e';rw[d] at d';injection d' with d1 _;have:its=its':=by simpa using y6 Array.toList d1
 subst this;exact r.inj r'
end
abbrev Cx.oI (X:Cx) (E:vm->vn->Prop):Cx:={X with xe:=E}
abbrev Cx.FF (X:Cx):Cx:=X.oI λ_ _=>False
theorem Cx.Ok.oI {X:Cx} (ok:X.Ok) (E:vm->vn->Prop):(X.oI E).Ok:=
 {(ok.mod),ok.kind,ok.glob,ok.blt,ok.above,ok.inj,ok.has,ok.T9,ok.hd,ok.frames,ok.Ui,ok.VE,ok.bs,ok.NY,ok.mF,ok.KJ,ok.nG,ok.FT}
def Cx.Ok.fP {X:Cx} {E:vm->vn->Prop} (ok:(X.oI E).Ok):X.Ok:=
 {(ok.mod),ok.kind,ok.glob,ok.blt,ok.above,ok.inj,ok.has,ok.T9,ok.hd,ok.frames,ok.Ui,ok.VE,ok.bs,ok.NY,ok.mF,ok.KJ,ok.nG,ok.FT}
section
variable {X:Cx} {pins:List (vw×Obj)} {σ:St} {H:Hp} {s:vn} {E:vm->vn->Prop}
theorem Inv.oI (I:Inv X pins σ H s) (E:vm->vn->Prop):Inv (X.oI E) pins σ H s:={I.ok.oI E,I.os,I.bare,I.base,I.loc,I.cell,I.free,I.jy,I.pin,I.bV,I.len}
theorem Inv.fP (I:Inv (X.oI E) pins σ H s):Inv X pins σ H s:={(I.ok.fP),I.os,I.bare,I.base,I.loc,I.cell,I.free,I.jy,I.pin,I.bV,I.len}
theorem SP.fP (h:SP (X.oI E) pins D f s'):SP X pins D f s':=by
 cases f with
 | next=>let⟨σ',H',I,q⟩:=h;exact{σ',H',I.fP,q}
 | brk=>let⟨σ',H',I,q⟩:=h;exact{σ',H',I.fP,q}
 | cont=>let⟨σ',H',I,q⟩:=h;exact{σ',H',I.fP,q}
 | ret u=>let⟨v,σ',H',I,r,q⟩:=h;exact{v,σ',H',I.fP,r,q}
theorem Ce.FF {st:List Stmt} {t:TS} (h:Ce X.FF st t):Ce X st t:=λpins s σ H D I hw=>
 xc (h s σ H D (I.oI _) hw) (λ_ _ q=>q.fP) λ_ _ z=>False.elim z
end
section
variable {X:Cx} {st:Stmt} {rest:List Stmt} {t u:TS} {e:Expr} {te:TE} {pos:Pos}
def Ad:TS:=λD σ H=>D.nx σ H
def EI (t u:TS):TS:=λD σ H=>t {D with nx:=u D} σ H
def aA:Ce X [] Ad:=λ_ _ σ H _ I h=>wy {σ,H,I,h}
def ag (h1:PS X st t) (h2:Ce X rest u):Ce X (st::rest) (EI t u):=by
 intro pins s σ H D I h;refine wpAny_execs_cons (cJ (h1 s σ H {D with nx:=u D} I h) λf s1 q=>?_);cases f with
 | next=>
  let⟨σ',H',I',q⟩:=q;exact h2 s1 σ' H' D I' q
 | ret v=>exact q
 | brk=>exact q
 | cont=>exact q
def aj (h1:PS X st t):Ce X [st] t:=by
 intro pins s σ H D I h;refine wpAny_execs_cons (cJ (h1 s σ H D I h) λf s1 q=>?_);cases f with
 | next=>exact wy q
 | ret v=>exact q
 | brk=>exact q
 | cont=>exact q
def Inv.quiet (I:Inv X pins σ H s):interactive X.env=false:=by simp[interactive,I.ok.kind]
def Ae (te:TE):TS:=λD σ H=>te σ H λ_ H1=>D.nx σ H1
def bX (he:PE X e te) (hs:swapsWith e none pos.line X.env=pure false<|>qe_):PS X (.Expr e pos) (Ae te):=by
 intro pins s σ H D I h;refine wpAny_Expr_any (cJ (he s σ H _ I h) λv s1 z0=>?_) I.quiet hs;let⟨x,H1,I1,r1,q1⟩:=z0;exact{σ,H1,I1,q1}
def Oj (te:TE):TS:=λD σ H=>te σ H D.rt
def ax (he:PE X e te):PS X (.Return (some e) pos) (Oj te):=by
 intro pins s σ H D I h;refine wpAny_Return_some (cJ (he s σ H _ I h) λv s1 z0=>?_);let⟨x,H1,I1,r1,q1⟩:=z0;exact{x,σ,H1,I1,r1,q1}
def EK (c:TT) (t u:TS):TS:=λD σ H=>c σ H λb H1=>if b=true then t D σ H1 else u D σ H1
def aL (hc:PT X c tc) (ha:Ce X a t) (hb:Ce X b u):PS X (.If c a b pos) (EK tc t u):=by
 intro pins s σ H D I h;refine wpAny_If (cJ (hc s σ H _ I h) λd s1 z0=>?_);let⟨H1,I1,q1⟩:=z0;cases d with
 | true=>exact ha s1 σ H1 D I1 q1
 | false=>exact hb s1 σ H1 D I1 q1
end
abbrev TG:=V->St->Hp->(St->Hp->Prop)->Prop
abbrev Vr:=List V->St->Hp->(St->Hp->Prop)->Prop
def PG (X:Cx) (target:Expr) (t:TG):Prop:=
 ∀(pins:List (vw×Obj)) (s:vn) (σ:St) (H:Hp) (v:V) (u:vm) (Q:St->Hp->Prop),Inv X pins σ H s->RelV v u->t v σ H Q->
  wpAny (model X.prog X.w) X.A (assign target X.env u) (λ_ s'=>∃σ' H',Inv X pins σ' H' s'/\Q σ' H') X.xe s
def VH (X:Cx) (ts:List Expr) (t:Vr):Prop:=
 ∀(pins:List (vw×Obj)) (s:vn) (σ:St) (H:Hp) (vs:List V) (us:List vm) (Q:St->Hp->Prop),Inv X pins σ H s->Vals vs us->t vs σ H Q->
  wpAny (model X.prog X.w) X.A (assignInOrder ((assignEach ts X.env).map (·.2)) us) (λ_ s'=>∃σ' H',Inv X pins σ' H' s'/\Q σ' H') X.xe s
section
variable {X:Cx} {pos:Pos}
def bW (i:Nat):TG:=λv σ H Q=>Q (σ.set i (some v)) H
def LL (hN:X.N.Nodup) (hi:X.N[i]?=some x) (hx:Loc X.env.scope x) (hf:X.fn x=true\/X.env.scope.names.lookup x=some .local<|>qa_):PG X (.Name x pos) (bW i):=by
 intro pins s σ H v u Q I r h;exact wpAny_assign_Name (kr I hN hi hx r (λs' I'=>{_,H,I',h}) hf)
def CZ:Vr:=λvs σ H Q=>vs=[]/\Q σ H
def eI (t:TG) (u:Vr):Vr:=λvs σ H Q=>∃v r,vs=v::r/\t v σ H λσ' H'=>u r σ' H' Q
def cG:VH X [] CZ:=by
 intro pins s σ H vs us Q I r h;let⟨e,h⟩:=h;subst e;cases r;exact assignInOrder_nil {σ,H,I,h}
def aD (h1:PG X e t) (h2:VH X es u)
  (hs:(assignEach (e::es) X.env).map (·.2)=assign e X.env::(assignEach es X.env).map (·.2)<|>qe_):VH X (e::es) (eI t u):=by
 intro pins s σ H vs us Q I r h;let⟨v,vr,e1,h⟩:=h;subst e1;cases r with
 | cons r rr=>
  rw[hs];refine assignInOrder_cons (cJ (h1 pins s σ H _ _ _ I r h) λ_ s1 z0=>?_);let⟨σ1,H1,I1,q1⟩:=z0;exact h2 pins s1 σ1 H1 _ _ Q I1 rr q1
def CY (K:yE) (n:Nat) (t:Vr):TG:=λv σ H Q=>∃a xs,v=.ref a/\mI K H a xs/\⇑xs=n/\t xs σ H Q
def du (hc:X.calm=true) (h:VH X es t)
  (hn:⇑(assignEach es X.env)=n<|>qe_) (hst:(assignEach es X.env).findIdx? (·.1)=none<|>qe_):PG X (.Tuple es k pos) (CY X.K n t):=by
 intro pins s σ H v u Q I r hw;let⟨a,xs,e1,hq,hl,hw⟩:=hw;subst e1;cases r;let⟨its,rv,ht,hz⟩:=I.tuple hq;refine assign_Tuple_tuple (I.ok.hd hc) ht (by simp[hn,<-hl,⇑rv]) hst λh' hx=>?_;let I1:Inv X pins σ H {s with heap:=h'}:=I.kept (t':=s.toks) λb o e=>hx b o (yk (yB e)) e;exact h pins _ σ H xs _ Q I1 (by simpa using rv) hw
def rO (te:TE) (g:TG):TS:=λD σ H=>te σ H λx H1=>g x σ H1 D.nx
def sC {tg e:Expr} {te:TE} {g:TG} (he:PE X e te) (hg:PG X tg g) (hs:swapsWithSole [tg] e pos.line X.env=pure false<|>qe_) (hw:swappedStores [tg] e X.env=pure none<|>qe_)
  (h1:(assignEach [tg] X.env).map (·.2)=[assign tg X.env]<|>qe_):PS X (.Assign [tg] e pos) (rO te g):=by
 intro pins s σ H D I h;refine wpAny_Assign_stores (cJ (he s σ H _ I h) λv s1 z0=>?_) hs hw;let⟨x,H1,I1,r1,q1⟩:=z0;rw[h1];exact cJ (hg pins s1 σ H1 x v _ I1 r1 q1) λ_ s2 q=>q
def OV (hN:X.N.Nodup) (hi:X.N[i]?=some x) (hx:Loc X.env.scope x) (he:PE X e te) (hs:swapsWith e (some (.Name x pos')) pos.line X.env=pure false<|>qe_) (hf:X.fn x=true\/X.env.scope.names.lookup x=some .local<|>qa_) :
  PS X (.Assign [.Name x pos'] e pos) (rO te (bW i)):=by
 intro pins s σ H D I h;refine wpAny_Assign_Name (cJ (he s σ H _ I h) λv s1 z0=>?_) hs;let⟨y,H1,I1,r1,q1⟩:=z0;exact kr I1 hN hi hx r1 (λs2 I2=>{_,H1,I2,q1}) hf
def Wj (i j:Nat) (ta:TA):TS:=λD σ H=>ta σ H λvs H1=>∃v w,vs=[v,w]/\D.nx ((σ.set i (some v)).set j (some w)) H1
def OW (hc:X.calm=true) (hN:X.N.Nodup) (hi:X.N[i]?=some x) (hj:X.N[j]?=some y) (hij:i≠j)
  (hx:X.env.scope.names.lookup x=some .local) (hy:X.env.scope.names.lookup y=some .local) (ha:PA X [a,b] ta)
  (hw:swappedStores [.Tuple [.Name x px,.Name y py] kt pt] (.Tuple [a,b] k2 pt2) X.env=pure (some [x,y]))
  (hs:swapsWithSole [.Tuple [.Name x px,.Name y py] kt pt] (.Tuple [a,b] k2 pt2) pos.line X.env=pure false<|>qe_) :
  PS X (.Assign [.Tuple [.Name x px,.Name y py] kt pt] (.Tuple [a,b] k2 pt2) pos) (Wj i j ta):=by
 intro pins s σ H D I h;rw[exec_Assign_arm];refine yx (wpAny_standAt ?_);rw[hs];refine yx (yz ?_);rw[yQ ∅];refine yx (Tuple_ (cJ (ha s σ H _ I h) λus s1 z0=>?_));let⟨vs,H1,I1,r1,q1⟩:=z0;let⟨v,w,e1,q1⟩:=q1;subst e1;obtain⟨u1,u2,rfl,rv,rw'⟩:∃u1 u2,us=[u1,u2]/\RelV v u1/\RelV w u2:=by
  cases r1 with
  | cons p q=>
   cases q with
   | cons p' q'=>
    cases q';exact{_,_,rfl,p,p'}
 refine xb ?_ (by show 2<=sizeLine;decide);let I2:Inv X pins σ H1 {s1 with heap:=s1.heap.push {cls:=.type "tuple",data:=.seq [u1,u2].toArray}}:=I1.kept (t':=s1.toks) λb o e=>yy _ e;rw[hw];refine yx (yz ?_);show wpAny (model X.prog X.w) X.A (do rule "assign.swapped-stores";let items <-unpackItems (.ref ↑s1) 2 none;assignInOrder [λv=>bindName X.env y v,λv=>bindName X.env x v] items.reverse;pure Flow.next) _ _ _;refine yx (wpAny_rule (yx (unpackItems_tuple (items:=#[u1,u2]) (I.ok.hd hc) (IsTup.new s1.heap _) λh' hx'=>?_)));let I3:=I2.kept (h':=h') (t':=s1.toks) λb o e=>hx' b o (yk (yB e)) e;show wpAny _ _ (assignInOrder [λv=>bindName X.env y v,λv=>bindName X.env x v] [u2,u1] >>= λ_=>pure Flow.next) _ _ _;refine yx (assignInOrder_cons (wpAny_bindName (kr I3 hN hj (.inl hy) rw' (λs2 I4=>?_) (.inr hy))));refine assignInOrder_cons (wpAny_bindName (kr I4 hN hi (.inl hx) rv (λs3 I5=>assignInOrder_nil (yz ?_)) (.inr hx)));rw[List.set_comm _ _ (Ne.symm hij)] at I5;exact{_,H1,I5,q1}
end
section
variable {X:Cx} {pos:Pos}
def Oi (c:TT) (tb:TS):TS:=λD σ H=>∃W:Nat->St->Hp->Prop,(∃m,W m σ H)/\∀m σ H,W m σ H->
 c σ H λb H1=>if b=true then∃N:St->Hp->Prop,(∀σ' H',N σ' H'->∃m',m'<m/\W m' σ' H')/\tb {D with nx:=N,ct:=N,bk:=D.nx} σ H1 else D.nx σ H1
def AR (hp:PassesOwn (model X.prog X.w) X.A X.env X.xe) (hc:PT X c tc) (hb:Ce X body tb):PS X (.While c body [] pos) (Oi tc tb):=by
 intro pins s σ H D I h;let⟨W,⟨m0,w0⟩,turn⟩:=h;refine wpAny_While (codeAny_whileLoop (λn s'=>∃σ' H',Inv X pins σ' H' s'/\W n σ' H') ?_ m0 {σ,H,I,w0});rintro n s1 ⟨σ1,H1,I1,w1⟩;refine xU hp (cJ (hc s1 σ1 H1 _ I1 (turn n σ1 H1 w1)) λb s2 z0=>?_);let⟨H2,I2,q2⟩:=z0;cases b with
 | true=>
  let⟨N,hN,q2⟩:=q2;rw[yR rfl];refine xU hp (cJ (hb s2 σ1 H2 _ I2 q2) λf s3 q3=>?_);cases f with
  | next=>
   let⟨σ3,H3,I3,n3⟩:=q3;let⟨m',hm,w3⟩:=hN σ3 H3 n3;exact{m',hm,σ3,H3,I3,w3}
  | cont=>
   let⟨σ3,H3,I3,n3⟩:=q3;let⟨m',hm,w3⟩:=hN σ3 H3 n3;exact{m',hm,σ3,H3,I3,w3}
  | brk=>exact q3
  | ret v=>exact q3
 | false=>
  rw[yQ zM];exact wy {σ1,H2,I2,q2}
end
structure It where
 go:Nat->Hp->Prop
 Mr:Nat->Hp->V->Hp->Prop
 stop:Nat->Hp->Prop
def Dv (X:Cx) (pins:List (vw×Obj)) (H:Hp) (b:vw):Prop:=
 H b=none/\b≠X.env.locals/\b∉X.fs/\(b∈X.ex\/X.s₀.heap.objs.size<=b)/\(∀x c,X.env.cells.lookup x=some c->c≠b)/\∀p∈X.pn++pins,p.1≠b
def Inv.C0 (I:Inv X pins σ H s) (hb:↑s<=b) (hn:H' b=none):Dv X pins H' b:=by
 refine{hn,yj (yc I.lt hb),I.U1 hb,.inr (zN I.sz hb),λx c e z=>?_,λp hp z=>?_}
 ·let⟨v,q⟩:=I.cell x c e
  exact absurd (yc q.lt (by rw[z];exact hb)) (yf _)
 ·exact absurd (yc (yB (I.pin p hp).1) (by rw[z];exact hb)) (yf _)
structure Turn (P:vo) (w:vq) (K:yE) (tg:Expr) (J:It) (fp:List vw) (it:vw) (tn:Nat->vx->Prop):Prop where
 mem:it∈fp
 obj:∀i h,tn i h->∀b∈fp,∃o,h.get? b=some o/\∀v,o.data≠.cell v
 keep:∀i h h',tn i h->(∀b∈fp,∀o,h.get? b=some o->h'.get? b=some o)->tn i h'
 item:∀(X:Cx),X.prog=P->X.w=w->X.K=K->X.calm=true->∀(i:Nat) (pins:List (vw×Obj)) (s:vn) (σ:St) (H:Hp) (E:vm->vn->Prop),Inv X pins σ H s->(∀b∈fp,Dv X pins H b)->tn i s.heap->J.go i H->
  wpAny (model P w) X.A (pyNext (.ref it)) (λr s1=>∃u,r=some u/\
   wpAny (model P w) X.A (letOwnedTupleGo tg (.ref it) u) (λ_ s2=>∃x H',Inv X pins σ H' s2/\RelV x u/\J.Mr i H x H'/\tn (i+1) s2.heap/\∀b∈fp,H' b=none) E s1) E s
 done:∀(X:Cx),X.prog=P->X.w=w->X.K=K->X.calm=true->∀(i:Nat) (pins:List (vw×Obj)) (s:vn) (σ:St) (H:Hp) (E:vm->vn->Prop),Inv X pins σ H s->(∀b∈fp,Dv X pins H b)->tn i s.heap->J.stop i H->
  wpAny (model P w) X.A (pyNext (.ref it)) (λr s1=>r=none/\Inv X pins σ H s1) E s
 self:∀(A:vt) (i:Nat) (s:vn) (Q:vm->vn->Prop) (E:vm->vn->Prop),tn i s.heap->Q (.ref it) s->wpAny (model P w) A (pyIter (.ref it)) Q E s
abbrev TI:=St->Hp->(It->Hp->Prop)->Prop
def Xf (X:Cx) (pins:List (vw×Obj)) (σ:St) (tg:Expr) (R:It->Hp->Prop) (itv:vm) (s2:vn):Prop:=
 ∃(it:vw) (fp:List vw) (tn:Nat->vx->Prop) (J:It) (H':Hp),itv=.ref it/\Inv X pins σ H' s2/\Turn X.prog X.w X.K tg J fp it tn/\tn 0 s2.heap/\(∀b∈fp,Dv X pins H' b)/\R J H'
def PI (X:Cx) (tg iter:Expr) (wi:TI):Prop:=
 ∀⦃pins:List (vw×Obj)⦄ (s:vn) (σ:St) (H:Hp) (R:It->Hp->Prop),Inv X pins σ H s->wi σ H R->
  wpAny (model X.prog X.w) X.A (eval iter X.env) (λv s1=>wpAny (model X.prog X.w) X.A (pyIter v) (Xf X pins σ tg R) X.xe s1) X.xe s
def Ef (ho:s.heap.get? it=some o) (hc:o.cls=.type n) (hd:o.data=.fields vs)
    (hn:["enumerate","zip","dict_itemiterator","dict_reverseitemiterator","odict_iterator","itertools.zip_longest","itertools.pairwise"].contains n=false) (hQ:Q .unit s):wpAny M A (letOwnedTupleGo tg (.ref it) u) Q E s:=by
  unfold letOwnedTupleGo;cases tg <;> first
    | exact yz hQ
    | (cases u <;> first
        | exact yz hQ
        | (refine yx (wpAny_load ho ?_)
           rw[hc,hd];show wpAny M A (if(["enumerate","zip","dict_itemiterator","dict_reverseitemiterator","odict_iterator","itertools.zip_longest","itertools.pairwise"].contains n&&vs[0]? == some (rawInt _))=true then _ else _) Q E s;rw[yQ (by intro h;rw[hn,yW] at h;cases h)];exact yz hQ))
noncomputable def Qs (K:yE) (a:vw):It:=
 {λi H=>∃xs x,fM K H a xs/\xs[i]?=some x,λi H x H'=>H'=H/\∀xs,fM K H a xs->xs[i]?=some x,λi H=>∃xs,fM K H a xs/\⇑xs<=i}
noncomputable def Sk (K:yE) (a:vw):It:=
 {λi H=>∃xs x,mI K H a xs/\xs[i]?=some x,λi H x H'=>H'=H/\∀xs,mI K H a xs->xs[i]?=some x,λi H=>∃xs,mI K H a xs/\⇑xs<=i}
noncomputable def Qr (lo:Int) (n:Nat):It:={λi _=>i<n,λi H x H'=>H'=H/\x=.int (lo+i),λi _=>n<=i}
def MA {P:vo} {w:vq} {K:yE} {tg:Expr} (a it:vw):Turn P w K tg (Qs K a) [it] it (λi h=>h.IsListIter it a i) where
 mem:=by simp
 obj:=λi h st b hb=>by
  let e:b=it:=by simpa using hb
  subst e;let⟨o,e,c,d⟩:=st;exact{o,e,λv z=>by rw[d] at z;cases z}
 keep:=λi h h' st k=>st.at λo e=>k it (by simp) o e
 item:=by
  intro X hP hw hK hc i pins s σ H E I hf st hg;subst hP hw hK;let⟨xs,x,hq,hx⟩:=hg;let⟨its,rv,p,hz⟩:=I.list hq;let⟨u,hu,ru⟩:=rv.get hx;let⟨f0,f1,f2,f3,f4,f5⟩:=hf it (by simp);refine wpAny_pyNext_list_item st p.isList (x:=u) (by simpa using hu) λh' st' sb=>?_;let I1:Inv X pins σ H {s with heap:=h'}:=I.turned (t':=s.toks) (λb o hb e=>(sb.2 b hb).trans e) f0 f1 f3 f4 f5;let⟨o,e,c,d⟩:=id st';exact{u,rfl,Ef (s:={s with heap:=h'}) e c d ∅ {x,H,I1,ru,{rfl,λys hy=>by rw[I.Bf hy hq];exact hx},st',λb hb=>(hf b hb).1}}
 done:=by
  intro X hP hw hK hc i pins s σ H E I hf st hg;subst hP hw hK;let⟨xs,hq,hx⟩:=hg;let⟨its,rv,p,hz⟩:=I.list hq;let⟨f0,f1,f2,f3,f4,f5⟩:=hf it (by simp);let hl:=⇑rv;exact wpAny_pyNext_list_end (I.ok.hd hc) st p.isList (by simp;ext) λh' eb=>{rfl,I.turned (t':=s.toks) (λb o hb e=>eb b o hb e) f0 f1 f3 f4 f5}
 self:=λ_ _ _ _ _ st h=>wpAny_pyIter_listiter st h
def JQ {P:vo} {w:vq} {K:yE} {tg:Expr} (a it:vw):Turn P w K tg (Sk K a) [it] it (λi h=>h.IsTupleIter it a i) where
 mem:=by simp
 obj:=λi h st b hb=>by
  let e:b=it:=by simpa using hb
  subst e;let⟨o,e,c,d⟩:=st;exact{o,e,λv z=>by rw[d] at z;cases z}
 keep:=λi h h' st k=>st.at λo e=>k it (by simp) o e
 item:=by
  intro X hP hw hK hc i pins s σ H E I hf st hg;subst hP hw hK;let⟨xs,x,hq,hx⟩:=hg;let⟨its,rv,p,hz⟩:=I.tuple hq;let⟨u,hu,ru⟩:=rv.get hx;let⟨f0,f1,f2,f3,f4,f5⟩:=hf it (by simp);refine wpAny_pyNext_tuple_item st (show s.heap.IsTuple a its.toArray from p) (x:=u) (by simpa using hu) λh' st' sb=>?_;let I1:Inv X pins σ H {s with heap:=h'}:=I.turned (t':=s.toks) (λb o hb e=>(sb.2 b hb).trans e) f0 f1 f3 f4 f5;let⟨o,e,c,d⟩:=id st';exact{u,rfl,Ef (s:={s with heap:=h'}) e c d ∅ {x,H,I1,ru,{rfl,λys hy=>by rw[I.DD hy hq];exact hx},st',λb hb=>(hf b hb).1}}
 done:=by
  intro X hP hw hK hc i pins s σ H E I hf st hg;subst hP hw hK;let⟨xs,hq,hx⟩:=hg;let⟨its,rv,p,hz⟩:=I.tuple hq;let⟨f0,f1,f2,f3,f4,f5⟩:=hf it (by simp);let hl:=⇑rv;exact wpAny_pyNext_tuple_end (I.ok.hd hc) st (show s.heap.IsTuple a its.toArray from p) (by simp;ext) λh' eb=>{rfl,I.turned (t':=s.toks) (λb o hb e=>eb b o hb e) f0 f1 f3 f4 f5}
 self:=λ_ _ _ _ _ st h=>wpAny_pyIter_tupleiter st h
def JR {P:vo} {w:vq} {K:yE} {tg:Expr} (it:vw) (lo:Int) (n:Nat):Turn P w K tg (Qr lo n) [it] it (λi h=>IsRangeIter h it (lo+(i:Nat)*1) ((n:Int)-(i:Nat)) 1) where
 mem:=by simp
 obj:=λi h st b hb=>by
  let e:b=it:=by simpa using hb
  subst e;exact{_,st,λv z=>by
   let z':Data.fields _=Data.cell v:=z;cases z'}
 keep:=λi h h' st k=>k it (by simp) _ st
 item:=by
  intro X hP hw hK hc i pins s σ H E I hf st hg;subst hP hw hK;let⟨f0,f1,f2,f3,f4,f5⟩:=hf it (by simp);let W:=Walks.range (prog:=X.prog) (w:=X.w) (I.ok.hd hc) it lo 1 n;refine W.item i s _ _ hg st λv h' tk hv st' kk=>?_;let⟨t,rfl⟩:=hv;let I1:Inv X pins σ H {s with heap:=h',toks:=tk}:=I.turned (λb o hb e=>kk b o (by simpa using hb) e) f0 f1 f3 f4 f5;refine{_,rfl,Ef (s:={s with heap:=h',toks:=tk}) (n:="range_iterator") st' rfl rfl ∅ {.int (lo+i),H,I1,{t,?_},{(rfl),rfl},st',λb hb=>(hf b hb).1}};rw[Int.mul_one]
 done:=by
  intro X hP hw hK hc i pins s σ H E I hf st hg;subst hP hw hK;let⟨f0,f1,f2,f3,f4,f5⟩:=hf it (by simp);exact wpAny_pyNext_range_end (I.ok.hd hc) st (by have:n<=i:=hg;ext) λh' eb=>{rfl,I.turned (t':=s.toks) (λb o hb e=>eb b o hb e) f0 f1 f3 f4 f5}
 self:=λ_ _ _ _ _ st h=>wpAny_pyIter_rangeiter st h
end L2
namespace L2
open PySem PySem.Spec PyProof.Rows
section
variable {X:Cx} {tg:Expr}
def LX (K:yE) (tl:TE):TI:=λσ H R=>tl σ H λx H1=>∃a,x=.ref a/\(∃xs,fM K H1 a xs)/\R (Qs K a) H1
def WH (K:yE) (tl:TE):TI:=λσ H R=>tl σ H λx H1=>∃a,x=.ref a/\(∃xs,mI K H1 a xs)/\R (Sk K a) H1
def bY {l:Expr} {tl:TE} (hl:PE X l tl):PI X tg l (LX X.K tl):=by
 intro pins s σ H R I h;refine cJ (hl s σ H _ I h) λv s1 z0=>?_;let⟨x,H1,I1,r1,q1⟩:=z0;let⟨a,e,⟨xs,hq⟩,q⟩:=q1;subst e;cases r1;let⟨its,rv,p,hz⟩:=I1.list hq;refine wK p.isList ?_;refine{↑s1,[↑s1],_,_,H1,rfl,I1.kept (t':=s1.toks) λb o e=>yy _ e,MA a _,{_,yA _ rfl,rfl,rfl},λb hb=>?_,q};let e:b=↑s1:=by simpa using hb
 subst e;exact I1.C0 (zp _) (I1.bV.fresh (zp _))
def kb {l:Expr} {tl:TE} (hl:PE X l tl):PI X tg l (WH X.K tl):=by
 intro pins s σ H R I h;refine cJ (hl s σ H _ I h) λv s1 z0=>?_;let⟨x,H1,I1,r1,q1⟩:=z0;let⟨a,e,⟨xs,hq⟩,q⟩:=q1;subst e;cases r1;let⟨its,rv,p,hz⟩:=I1.tuple hq;refine wpAny_pyIter_tuple (show s1.heap.IsTuple a its.toArray from p) ?_;refine{↑s1,[↑s1],_,_,H1,rfl,I1.kept (t':=s1.toks) λb o e=>yy _ e,JQ a _,{_,yA _ rfl,rfl,rfl},λb hb=>?_,q};let e:b=↑s1:=by simpa using hb
 subst e;exact I1.C0 (zp _) (I1.bV.fresh (zp _))
def HK {pins:List (vw×Obj)} {σ:St} {H:Hp} {s:vn} {R:It->Hp->Prop} {E:vm->vn->Prop} {lo hi:Int} {t u v:Tok} {tk:Nat} (I:Inv X pins σ H s) (h1:-(2^62)<=lo) (h2:lo<2^62) (h3:-(2^62)<=hi) (h4:hi<2^62)
  (q:R (Qr lo (hi-lo).toNat) H):wpAny (model X.prog X.w) X.A (pyIter (.ref ↑s)) (Xf X pins σ tg R) E {s with heap:=s.heap.push {cls:=.type "range",data:=.fields #[.int lo t,.int hi u,.int 1 v]},toks:=tk}:=by
 refine wpAny_pyIter_range (IsRange.new ..) (small_one h1 h2 h3 h4) ?_;let I1:Inv X pins σ H {s with heap:=s.heap.push {cls:=.type "range",data:=.fields #[.int lo t,.int hi u,.int 1 v]},toks:=tk}:=I.kept λb o e=>yy _ e;refine{(s.heap.push {cls:=.type "range",data:=.fields #[.int lo t,.int hi u,.int 1 v]}).objs.size,[(s.heap.push {cls:=.type "range",data:=.fields #[.int lo t,.int hi u,.int 1 v]}).objs.size],_,_,H,rfl,
  I1.kept (t':=tk) λb o e=>yy _ e,JR _ lo (hi-lo).toNat,?_,λb hb=>?_,q}
 ·let e1:lo+((0:Nat):Int)*1=lo:=by simp
  let e2:(((hi-lo).toNat:Nat):Int)-((0:Nat):Int)=Builtin.Range.rangeSize lo hi 1:=by rw[rangeSize_one];split <;> ext
  show IsRangeIter _ _ (lo+((0:Nat):Int)*1) ((((hi-lo).toNat:Nat):Int)-((0:Nat):Int)) 1;rw[e1,e2];exact yA _ rfl
 ·let e:b=(s.heap.push {cls:=.type "range",data:=.fields #[.int lo t,.int hi u,.int 1 v]}).objs.size:=by simpa using hb
  subst e;exact I1.C0 (zp _) (I1.bV.fresh (zp _))
def PL (ta:TA):TI:=λσ H R=>ta σ H λvs H1=>∃j:Int,vs=[.int j]/\-(2^62)<=j/\j<2^62/\R (Qr 0 j.toNat) H1
def Ve (ta:TA):TI:=λσ H R=>ta σ H λvs H1=>∃i j:Int,vs=[.int i,.int j]/\(-(2^62)<=i/\i<2^62/\-(2^62)<=j/\j<2^62)/\R (Qr i (j-i).toNat) H1
def cQ {a:Expr} {ta:TA} {p pos:Pos} (hg:Gl X "range") (hm:X.mg "range"= none) (ha:PA X [a] ta) (hs:starEach [a] X.env=[(false,eval a X.env)]<|>qe_):PI X tg (.Call (.Name "range" p) [a] [] pos) (PL ta):=by
 intro pins s σ H R I h;refine Call_ (lB I hg hm boot_range (yP (cJ (ha s σ H _ I h) λus s1 z0=>?_) hs rfl));let⟨vs,H1,I1,r1,q1⟩:=z0;let⟨j,e,q1,q2,q⟩:=q1;subst e;cases r1 with
 | cons r rr=>
  cases rr;let⟨t,rfl⟩:=r;exact call_range_1 (HK I1 () () q1 q2 (by simpa using q))
def DN (hg:Gl X "range") (hm:X.mg "range"= none) (ha:PA X [a,b] ta) (hs:starEach [a,b] X.env=[(false,eval a X.env),(false,eval b X.env)]<|>qe_) (hs2:starEach [b] X.env=[(false,eval b X.env)]<|>qe_) :
  PI X tg (.Call (.Name "range" p) [a,b] [] pos) (Ve ta):=by
 intro pins s σ H R I h;refine Call_ (lB I hg hm boot_range (yP (cJ (ha s σ H _ I h) λus s1 z0=>?_) (by rw[hs,hs2]) (by rw[hs2];rfl)));let⟨vs,H1,I1,r1,q1⟩:=z0;let⟨i,j,e,⟨q1,q2,q3,q4⟩,q⟩:=q1;subst e;cases r1 with
 | cons r rr=>
  cases rr with
  | cons r' rr=>
   cases rr;let⟨t,rfl⟩:=r;let⟨t',rfl⟩:=r';exact call_range_2 (HK I1 q1 q2 q3 q4 q)
def SJ (wi:TI) (g:TG) (tb:TS):TS:=λD σ H=>wi σ H λJ H1=>∃W:Nat->Nat->St->Hp->Prop,(∃m,W 0 m σ H1)/\∀i m σ H,W i m σ H->
 (J.stop i H/\D.nx σ H)\/(J.go i H/\∃N:St->Hp->Prop,(∀σ' H',N σ' H'->∃m',m'<m/\W (i+1) m' σ' H')/\∀x H',J.Mr i H x H'->g x σ H' λσ2 H2=>tb {D with nx:=N,ct:=N,bk:=D.nx} σ2 H2)
noncomputable def sD (fp:List vw) (h:vx):List (vw×Obj):=fp.filterMap λb=>(h.get? b).map λo=>(b,o)
def gw (hb:b∈fp) (e:h.get? b=some o):(b,o)∈sD fp h:=vg.mpr {b,hb,by rw[e];rfl}
def M1 (hp:p∈sD fp h):p.1∈fp/\h.get? p.1=some p.2:=by
 let⟨b,hb,e⟩:=vg.mp hp;cases q:h.get? b with
 | none=>rw[q] at e;cases e
 | some o=>
  rw[q] at e;let e':(b,o)=p:=ym e;subst e';exact{(hb),q}
def Inv.pinned (I:Inv X pins σ H s) (hf:∀b∈fp,Dv X pins H b) (ho:∀b∈fp,∃o,s.heap.get? b=some o/\∀v,o.data≠.cell v):Inv X (pins++sD fp s.heap) σ H s:=
 I.nZ λp hp=>(zH.mp hp).elim (λz=>I.pin p (zJ _ z)) λz=>by
  let⟨hb,e⟩:=M1 z;let⟨f0,f1,f2,_⟩:=hf p.1 hb;let⟨o,e',d⟩:=ho p.1 hb;rw[e] at e';cases e';exact{(e),f0,f1,f2,d}
def Inv.vW (I:Inv X (pins++pl) σ H s):Inv X pins σ H s:=I.nZ λp hp=>I.pin p (zJ _ (zK _ hp))
def dH (hp:PassesOwn (model X.prog X.w) X.A X.env X.xe) (hc:X.calm=true) (hi:PI X tg iter wi) (hg:PG X tg g) (hb:Ce X body tb)
  (hs:(∀x,foldedSetIterable iter X.env x=pure x)<|>qd_):PS X (.For tg iter body [] pos) (SJ wi g tb):=by
 intro pins s σ H D I h;refine wpAny_For (cJ (hi s σ H _ I h) λv s1 h1=>cJ h1 λitv s2 h2=>?_) hs;let⟨it,fp,tn,J,H2,e,I2,T,st2,f2,W,⟨m0,w0⟩,turn⟩:=h2;subst e;let stat:∀{H':Hp},(∀b∈fp,H' b=none)->∀b∈fp,Dv X pins H' b:=λhn b hb=>{hn b hb,(f2 b hb).2}
 refine codeAny_forLoop_any (λn s'=>∃i σ' H',Inv X pins σ' H' s'/\tn i s'.heap/\(∀b∈fp,H' b=none)/\W i n σ' H') ?_ m0 {0,σ,H2,I2,st2,λb hb=>(f2 b hb).1,w0};rintro n s3 ⟨i,σ3,H3,I3,st3,fr3,w3⟩;rcases turn i n σ3 H3 w3 with⟨stop,qn⟩ | ⟨go,N,hN,step⟩
 ·refine xU hp (cJ (T.done X rfl rfl rfl hc i pins s3 σ3 H3 X.xe I3 (stat fr3) st3 stop) λr s4 ⟨hr,I4⟩=>?_)
  subst hr;exact wy {σ3,H3,I4,qn}
 ·refine xU hp (cJ (T.item X rfl rfl rfl hc i pins s3 σ3 H3 X.xe I3 (stat fr3) st3 go) λr s4 ⟨u,hr,h4⟩=>?_)
  subst hr;refine xU hp (cJ h4 λ_ s5 z0=>?_);let⟨x,H5,I5,r5,y5,st5,fr5⟩:=z0;let I5':=I5.pinned (stat fr5) (T.obj _ _ st5);refine xU hp (cJ (hg _ s5 σ3 H5 x u _ I5' r5 (step x H5 y5)) λ_ s6 z0=>?_);let⟨σ6,H6,I6,q6⟩:=z0;refine xU hp (cJ (hb s6 σ6 H6 _ I6 q6) λf s7 q7=>?_);let again:∀{σ7:St} {H7:Hp},Inv X (pins++sD fp s5.heap) σ7 H7 s7->N σ7 H7->∃m,m<n/\∃i σ' H',Inv X pins σ' H' s7/\tn i s7.heap/\(∀b∈fp,H' b=none)/\W i m σ' H':=λ{σ7 H7} I7 n7=>by
   let⟨m',hm,w7⟩:=hN σ7 H7 n7;refine{m',hm,i+1,σ7,H7,I7.vW,T.keep _ _ _ st5 λb hb o e=>(I7.pin (b,o) (zJ _ (zJ _ (gw hb e)))).1,λb hb=>?_,w7};let⟨o,e,d⟩:=T.obj _ _ st5 b hb;exact(I7.pin (b,o) (zJ _ (zJ _ (gw hb e)))).2.1
  cases f with
  | next=>let⟨σ7,H7,I7,n7⟩:=q7;exact again I7 n7
  | cont=>let⟨σ7,H7,I7,n7⟩:=q7;exact again I7 n7
  | brk=>let⟨σ7,H7,I7,q7⟩:=q7;exact{σ7,H7,I7.vW,q7}
  | ret v=>let⟨x7,σ7,H7,I7,r7,q7⟩:=q7;exact{x7,σ7,H7,I7.vW,r7,q7}
end
def gW {K:yE} {a:vw} {xs:List V} {g:TG} {tb:TS} {D:Ends} {σ:St} {H:Hp} (Pv:Nat->St->Hp->Prop) (h0:Pv 0 σ H) (hl:∀i σ H,i<=⇑xs->Pv i σ H->fM K H a xs)
  (hs:∀i x σ H,xs[i]?=some x->Pv i σ H->g x σ H λσ2 H2=>tb {D with nx:=Pv (i+1),ct:=Pv (i+1),bk:=D.nx} σ2 H2) (hd:∀σ H,Pv ⇑xs σ H->D.nx σ H) :
  ∃W:Nat->Nat->St->Hp->Prop,(∃m,W 0 m σ H)/\∀i m σ H,W i m σ H->
   ((Qs K a).stop i H/\D.nx σ H)\/((Qs K a).go i H/\∃N:St->Hp->Prop,(∀σ' H',N σ' H'->∃m',m'<m/\W (i+1) m' σ' H')/\∀x H',(Qs K a).Mr i H x H'->g x σ H' λσ2 H2=>tb {D with nx:=N,ct:=N,bk:=D.nx} σ2 H2):=by
 refine{λi m σ H=>m=⇑xs-i/\i<=⇑xs/\Pv i σ H,{⇑xs,by simp,yg _,h0},?_};rintro i m σ H ⟨rfl,hi,p⟩;let q:=hl i σ H hi p
 by_cases hlt:i<⇑xs
 ·refine .inr {{xs,xs[i],q,by simp[hlt]},Pv (i+1),λσ' H' p'=>{⇑xs-(i+1),(),rfl,hlt,p'},λx H' y=>?_}
  let⟨e,y⟩:=y;subst e;exact hs i x σ _ (y xs q) p
 ·let e:i=⇑xs:=()
  subst e;exact .inl {{xs,q,zp _},hd σ H p}
def L4 {K:yE} {a:vw} {xs:List V} {g:TG} {tb:TS} {D:Ends} {σ:St} {H:Hp} (Pv:Nat->St->Hp->Prop) (h0:Pv 0 σ H) (hl:∀i σ H,i<=⇑xs->Pv i σ H->mI K H a xs)
  (hs:∀i x σ H,xs[i]?=some x->Pv i σ H->g x σ H λσ2 H2=>tb {D with nx:=Pv (i+1),ct:=Pv (i+1),bk:=D.nx} σ2 H2) (hd:∀σ H,Pv ⇑xs σ H->D.nx σ H) :
  ∃W:Nat->Nat->St->Hp->Prop,(∃m,W 0 m σ H)/\∀i m σ H,W i m σ H->
   ((Sk K a).stop i H/\D.nx σ H)\/((Sk K a).go i H/\∃N:St->Hp->Prop,(∀σ' H',N σ' H'->∃m',m'<m/\W (i+1) m' σ' H')/\∀x H',(Sk K a).Mr i H x H'->g x σ H' λσ2 H2=>tb {D with nx:=N,ct:=N,bk:=D.nx} σ2 H2):=by
 refine{λi m σ H=>m=⇑xs-i/\i<=⇑xs/\Pv i σ H,{⇑xs,by simp,yg _,h0},?_};rintro i m σ H ⟨rfl,hi,p⟩;let q:=hl i σ H hi p
 by_cases hlt:i<⇑xs
 ·refine .inr {{xs,xs[i],q,by simp[hlt]},Pv (i+1),λσ' H' p'=>{⇑xs-(i+1),(),rfl,hlt,p'},λx H' y=>?_}
  let⟨e,y⟩:=y;subst e;exact hs i x σ _ (y xs q) p
 ·let e:i=⇑xs:=()
  subst e;exact .inl {{xs,q,zp _},hd σ H p}
def i9 {lo:Int} {n:Nat} {g:TG} {tb:TS} {D:Ends} {σ:St} {H:Hp} (Pv:Nat->St->Hp->Prop) (h0:Pv 0 σ H)
  (hs:∀i σ H,i<n->Pv i σ H->g (.int (lo+i)) σ H λσ2 H2=>tb {D with nx:=Pv (i+1),ct:=Pv (i+1),bk:=D.nx} σ2 H2) (hd:∀σ H,Pv n σ H->D.nx σ H) :
  ∃W:Nat->Nat->St->Hp->Prop,(∃m,W 0 m σ H)/\∀i m σ H,W i m σ H->
   ((Qr lo n).stop i H/\D.nx σ H)\/((Qr lo n).go i H/\∃N:St->Hp->Prop,(∀σ' H',N σ' H'->∃m',m'<m/\W (i+1) m' σ' H')/\∀x H',(Qr lo n).Mr i H x H'->g x σ H' λσ2 H2=>tb {D with nx:=N,ct:=N,bk:=D.nx} σ2 H2):=by
 refine{λi m σ H=>m=n-i/\i<=n/\Pv i σ H,{n,by simp,yg _,h0},?_};rintro i m σ H ⟨rfl,hi,p⟩
 by_cases hlt:i<n
 ·refine .inr {hlt,Pv (i+1),λσ' H' p'=>{n-(i+1),(),rfl,hlt,p'},λx H' y=>?_}
  let⟨e,y⟩:=y;subst e y;exact hs i σ _ hlt p
 ·let e:i=n:=()
  subst e;exact .inl {zp _,hd σ H p}
end L2
namespace L2
open PySem PySem.Spec PyProof.Rows
abbrev R2:=V->V->Hp->VK->Prop
def nQ (X:Cx) (f:vm->vm->Sem vm) (r:R2):Prop:=
 ∀(pins:List (vw×Obj)) (s:vn) (σ:St) (H:Hp) (x y:V) (v u:vm) (Q:VK),Inv X pins σ H s->RelV x v->RelV y u->r x y H Q->
  wpAny (model X.prog X.w) X.A (f v u) (EP X pins σ Q) X.xe s
def WV (X:Cx) (f:vm->Sem vm) (r:V->Hp->VK->Prop):Prop:=
 ∀(pins:List (vw×Obj)) (s:vn) (σ:St) (H:Hp) (x:V) (v:vm) (Q:VK),Inv X pins σ H s->RelV x v->r x H Q->
  wpAny (model X.prog X.w) X.A (f v) (EP X pins σ Q) X.xe s
def fb (X:Cx) (f:vm) (r:List V->Hp->VK->Prop):Prop:=
 ∀(pins:List (vw×Obj)) (s:vn) (σ:St) (H:Hp) (xs:List V) (us:List vm) (Q:VK),Inv X pins σ H s->Vals xs us->r xs H Q->
  wpAny (model X.prog X.w) X.A (call f us) (EP X pins σ Q) X.xe s
def cP (r:R2) (ta tb:TE):TE:=λσ H Q=>ta σ H λx H1=>tb σ H1 λy H2=>r x y H2 Q
def Xp (r:V->Hp->VK->Prop) (ta:TE):TE:=λσ H Q=>ta σ H λx H1=>r x H1 Q
def rI (C:Int->Int->Prop) (g:Int->Int->V):R2:=λx y H Q=>∃i j,x=.int i/\y=.int j/\C i j/\Q (g i j) H
def tO (g:Int->Int->V):R2:=λx y H Q=>∃i j,x=.int i/\y=.int j/\Q (g i j) H
def rU (g:Int->V):V->Hp->VK->Prop:=λx H Q=>∃i,x=.int i/\Q (g i) H
section
variable {X:Cx} {a b c:Expr} {ta tb tc:TE} {pos:Pos}
def Ub (ha:PE X a ta) (hb:PE X b tb) {pins:List (vw×Obj)} {s:vn} {σ:St} {H:Hp} {R:V->V->Hp->Prop} (I:Inv X pins σ H s)
  (h:ta σ H λx H1=>tb σ H1 λy H2=>R x y H2) {Q:vm->vn->Prop} {f:vm->vm->Sem vm}
  (hf:∀v u s2 x y H2,Inv X pins σ H2 s2->RelV x v->RelV y u->R x y H2->wpAny (model X.prog X.w) X.A (f v u) Q X.xe s2) :
  wpAny (model X.prog X.w) X.A (eval a X.env) (λv s₁=>wpAny (model X.prog X.w) X.A (eval b X.env) (λu s₂=>wpAny (model X.prog X.w) X.A (f v u) Q X.xe s₂) X.xe s₁) X.xe s:=by
 refine cJ (ha s σ H _ I h) λv s1 z0=>?_;let⟨x,H1,I1,r1,q1⟩:=z0;refine cJ (hb s1 σ H1 _ I1 q1) λu s2 z0=>?_;let⟨y,H2,I2,r2,q2⟩:=z0;exact hf v u s2 x y H2 I2 r1 r2 q2
def ao {op:Operator} {r:R2} (ho:nQ X (binaryOp op) r) (ha:PE X a ta) (hb:PE X b tb):PE X (.BinOp a op b pos) (cP r ta tb):=by
 intro pins s σ H Q I h;exact wpAny_BinOp (Ub ha hb I h λv u s2 x y H2 I2 rx ry q=>ho pins s2 σ H2 x y v u Q I2 rx ry q)
def m6 (ho:WV X (unaryOp op) r) (ha:PE X a ta):PE X (.UnaryOp op a pos) (Xp r ta):=by
 intro pins s σ H Q I h;refine UnaryOp_ (cJ (ha s σ H _ I h) λv s1 z0=>?_);let⟨x,H1,I1,r1,q1⟩:=z0;exact ho pins s1 σ H1 x v Q I1 r1 q1
def Ul {f:vm->vm->Sem vm} {C:Int->Int->Prop} {g:Int->Int->Int}
  (rule:∀(i j:Int) (t u:Tok) (s:vn) (Q:vm->vn->Prop) (E:vm->vn->Prop),C i j->Q (.int (g i j) s.toks) {s with toks:=s.toks+1}->wpAny (model X.prog X.w) X.A (f (.int i t) (.int j u)) Q E s) :
  nQ X f (rI C λi j=>.int (g i j)):=by
 intro pins s σ H x y v u Q I rx ry h;let⟨i,j,rfl,rfl,hc,q⟩:=h;let⟨t,rfl⟩:=rx;let⟨t',rfl⟩:=ry;exact rule i j t t' s _ _ hc {.int (g i j),H,I.tok _,{_,rfl},q}
def To {f:vm->vm->Sem vm} {g:Int->Int->Int}
  (rule:∀(i j:Int) (t u:Tok) (s:vn) (Q:vm->vn->Prop) (E:vm->vn->Prop),Q (.int (g i j) s.toks) {s with toks:=s.toks+1}->wpAny (model X.prog X.w) X.A (f (.int i t) (.int j u)) Q E s) :
  nQ X f (tO λi j=>.int (g i j)):=by
 intro pins s σ H x y v u Q I rx ry h;let⟨i,j,rfl,rfl,q⟩:=h;let⟨t,rfl⟩:=rx;let⟨t',rfl⟩:=ry;exact rule i j t t' s _ _ {.int (g i j),H,I.tok _,{_,rfl},q}
def Rl {f:vm->vm->Sem vm} {g:Int->Int->Bool}
  (rule:∀(i j:Int) (t u:Tok) (s:vn) (Q:vm->vn->Prop) (E:vm->vn->Prop),Q (.bool (g i j)) s->wpAny (model X.prog X.w) X.A (f (.int i t) (.int j u)) Q E s) :
  nQ X f (tO λi j=>.bl (g i j)):=by
 intro pins s σ H x y v u Q I rx ry h;let⟨i,j,rfl,rfl,q⟩:=h;let⟨t,rfl⟩:=rx;let⟨t',rfl⟩:=ry;exact rule i j t t' s _ _ {.bl (g i j),H,I,rfl,q}
def Dw (i j:Int):Prop:=0<j/\j<1073741824
def NV (i j:Int):Prop:=(-(2^64)<i/\i<2^64)\/(-(2^64)<j/\j<2^64)
def NV.ok (h:NV i j):IntMulOk i j:=by
 rcases h with⟨h1,h2⟩ | ⟨h1,h2⟩
 ·exact .of_left (intBits_le_64 h1 h2)
 ·exact .of_right (intBits_le_64 h1 h2)
def JP (k:Nat):(0:Int)<=2^k:=by
 rw[two_pow_cast];exact Int.natCast_nonneg _
def bw:nQ X (binaryOp .Add) (tO λi j=>.int (i+j)):=To λ_ _ _ _ _ _ _ q=>add_int q
def ly:nQ X (binaryOp .Sub) (tO λi j=>.int (i-j)):=To λ_ _ _ _ _ _ _ q=>sub_int q
def eE:nQ X (binaryOp .Mult) (rI NV λi j=>.int (i*j)):=Ul λ_ _ _ _ _ _ _ hc q=>mul_int q hc.ok
def aS:nQ X (binaryOp .FloorDiv) (rI Dw λi j=>.int (i/j)):=Ul λi j _ _ _ _ _ hc q=>by
 let h1:(0:Int)<j:=hc.1;let h2:j<1073741824:=hc.2;exact floordiv_int () (by rw[vh i ()];exact q) (.inl (PyProof.noPylong_small ()))
def aQ:nQ X (binaryOp .Mod) (rI (λ_ j=>0<j) λi j=>.int (i%j)):=Ul λi j _ _ _ _ _ hc q=>by
 let h1:(0:Int)<j:=hc;exact mod_int' () (by rw[Int.fmod_eq_emod_of_nonneg i ()];exact q)
def Tj:nQ X (binaryOp .RShift) (rI (λ_ j=>0<=j) λi j=>.int (i/2^j.toNat)):=Ul λi j _ _ _ _ _ hc q=>
 rshift_int hc (by rw[vh i (JP _)];exact q)
def Tn:nQ X (binaryOp .BitAnd) (tO λi j=>.int (Builtin.bitAnd i j)):=To λ_ _ _ _ _ _ _ q=>and_int q
def Xn {f:vm->Sem vm} {g:Int->Int}
  (rule:∀(i:Int) (t:Tok) (s:vn) (Q:vm->vn->Prop) (E:vm->vn->Prop),Q (.int (g i) s.toks) {s with toks:=s.toks+1}->wpAny (model X.prog X.w) X.A (f (.int i t)) Q E s) :
  WV X f (rU λi=>.int (g i)):=by
 intro pins s σ H x v Q I rx h;let⟨i,rfl,q⟩:=h;let⟨t,rfl⟩:=rx;exact rule i t s _ _ {.int (g i),H,I.tok _,{_,rfl},q}
def jh:WV X (unaryOp .USub) (rU λi=>.int (-i)):=Xn λ_ _ _ _ _ q=>neg_int q
end
noncomputable def QY:V->V->Bool
 | .bQ,.bQ=>true | .bQ,.int _=>true | .int _,.bQ=>true | .bQ,.bl _=>true | .bl _,.bQ=>true | .bQ,.str _=>true | .str _,.bQ=>true
 | .int _,.int _=>true | .bl _,.bl _=>true | .str _,.str _=>true | .Mh _,.Mh _=>true
 | .int _,.str _=>true | .str _,.int _=>true | .bl _,.str _=>true | .str _,.bl _=>true
 | _,_=>false
def Wv:R2:=λx y H Q=>QY x y=true/\Q (.bl (decide (x=y))) H
def Wt:R2:=λx y H Q=>QY x y=true/\Q (.bl (!decide (x=y))) H
def FZ:decide (V.int i=V.int j)=(i == j):=by
 rw[xM];simp
def Qa:decide (V.bl i=V.bl j)=(i == j):=by
 rw[xM];simp
def FX:decide (V.str i=V.str j)=(i == j):=by
 rw[xM];simp
def L9:decide (V.Mh i=V.Mh j)=(i.toList == j.toList):=by
 rw[xM];cases i;cases j;simp
section
variable {X:Cx} {a b c:Expr} {ta tb tc:TE} {pos:Pos}
def ck (I:Inv X pins σ H s) (q:Q (.bl k) H) (e:k=k'):EP X pins σ Q (.bool k') s:=by
 subst e;exact{.bl k,H,I,rfl,q}
def cS:nQ X (compareOp .Eq) Wv:=by
 intro pins s σ H x y v u Q I rx ry h;let⟨hs,q⟩:=h;cases x with
 | bQ=>
  cases rx;cases y with
  | bQ=>cases ry;exact PySem.EqNone.eq_none_none (ck I q (by simp))
  | bl j=>cases ry;exact PySem.EqNone.eq_none_bool (ck I q (by simp))
  | int j=>let⟨t',rfl⟩:=ry;exact PySem.EqNone.eq_none_int (ck I q (by simp))
  | str j=>let⟨t',rfl⟩:=ry;exact PySem.EqNone.eq_none_str (ck I q (by simp))
  | _=>exact absurd (show false=true from hs) zM
 | bl i=>
  cases rx;cases y with
  | bQ=>cases ry;exact PySem.EqNone.eq_bool_none (ck I q (by simp))
  | bl j=>cases ry;exact eq_bool (ck I q Qa)
  | str j=>let⟨t',rfl⟩:=ry;exact PySem.EqMixed.eq_bool_str (ck I q (by simp))
  | _=>exact absurd (show false=true from hs) zM
 | int i=>
  let⟨t,rfl⟩:=rx;cases y with
  | bQ=>cases ry;exact PySem.EqNone.eq_int_none (ck I q (by simp))
  | int j=>let⟨t',rfl⟩:=ry;exact eq_int (ck I q FZ)
  | str j=>let⟨t',rfl⟩:=ry;exact PySem.EqMixed.eq_int_str (ck I q (by simp))
  | _=>exact absurd (show false=true from hs) zM
 | str i=>
  let⟨t,rfl⟩:=rx;cases y with
  | bQ=>cases ry;exact PySem.EqNone.eq_str_none (ck I q (by simp))
  | bl j=>cases ry;exact PySem.EqMixed.eq_str_bool (ck I q (by simp))
  | int j=>let⟨t',rfl⟩:=ry;exact PySem.EqMixed.eq_str_int (ck I q (by simp))
  | str j=>let⟨t',rfl⟩:=ry;exact eq_str (ck I q FX)
  | _=>exact absurd (show false=true from hs) zM
 | Mh i=>
  let⟨t,rfl⟩:=rx;cases y with
  | Mh j=>let⟨t',rfl⟩:=ry;exact PySem.W.eq_bytes (ck I q L9)
  | _=>exact absurd (show false=true from hs) zM
 | _=>cases y <;> exact absurd (show false=true from hs) zM
def jq:nQ X (compareOp .NotEq) Wt:=by
 intro pins s σ H x y v u Q I rx ry h;let⟨hs,q⟩:=h;cases x with
 | bQ=>
  cases rx;cases y with
  | bQ=>cases ry;exact PySem.EqNone.ne_none_none (ck I q (by simp))
  | bl j=>cases ry;exact PySem.EqNone.ne_none_bool (ck I q (by simp))
  | int j=>let⟨t',rfl⟩:=ry;exact PySem.EqNone.ne_none_int (ck I q (by simp))
  | str j=>let⟨t',rfl⟩:=ry;exact PySem.EqNone.ne_none_str (ck I q (by simp))
  | _=>exact absurd (show false=true from hs) zM
 | bl i=>
  cases rx;cases y with
  | bQ=>cases ry;exact PySem.EqNone.ne_bool_none (ck I q (by simp))
  | bl j=>cases ry;exact ne_bool (ck I q (y6 not Qa))
  | str j=>let⟨t',rfl⟩:=ry;exact PySem.EqMixed.ne_bool_str (ck I q (by simp))
  | _=>exact absurd (show false=true from hs) zM
 | int i=>
  let⟨t,rfl⟩:=rx;cases y with
  | bQ=>cases ry;exact PySem.EqNone.ne_int_none (ck I q (by simp))
  | int j=>let⟨t',rfl⟩:=ry;exact ne_int (ck I q (y6 not FZ))
  | str j=>let⟨t',rfl⟩:=ry;exact PySem.EqMixed.ne_int_str (ck I q (by simp))
  | _=>exact absurd (show false=true from hs) zM
 | str i=>
  let⟨t,rfl⟩:=rx;cases y with
  | bQ=>cases ry;exact PySem.EqNone.ne_str_none (ck I q (by simp))
  | bl j=>cases ry;exact PySem.EqMixed.ne_str_bool (ck I q (by simp))
  | int j=>let⟨t',rfl⟩:=ry;exact PySem.EqMixed.ne_str_int (ck I q (by simp))
  | str j=>let⟨t',rfl⟩:=ry;exact ne_str (ck I q (y6 not FX))
  | _=>exact absurd (show false=true from hs) zM
 | Mh i=>
  let⟨t,rfl⟩:=rx;cases y with
  | Mh j=>let⟨t',rfl⟩:=ry;exact PySem.W.ne_bytes (ck I q (y6 not L9))
  | _=>exact absurd (show false=true from hs) zM
 | _=>cases y <;> exact absurd (show false=true from hs) zM
def fo:nQ X (compareOp .Lt) (tO λi j=>.bl (decide (i<j))):=Rl λ_ _ _ _ _ _ _ q=>lt_int q
def iE:nQ X (compareOp .LtE) (tO λi j=>.bl (decide (i<=j))):=Rl λ_ _ _ _ _ _ _ q=>le_int q
def fq:nQ X (compareOp .Gt) (tO λi j=>.bl (decide (j<i))):=Rl λ_ _ _ _ _ _ _ q=>gt_int q
def HX:nQ X (compareOp .GtE) (tO λi j=>.bl (decide (j<=i))):=Rl λ_ _ _ _ _ _ _ q=>ge_int q
def DR:nQ X (compareOp .In) (λx y H Q=>∃i j,x=.str i/\y=.str j/\Q (.bl (!(Builtin.Str.occurrences j i 0 ⇑j 1).isEmpty)) H):=by
 intro pins s σ H x y v u Q I rx ry h;let⟨i,j,rfl,rfl,q⟩:=h;let⟨t,rfl⟩:=rx;let⟨t',rfl⟩:=ry;exact in_str (ck I q rfl)
def fe (b:Expr) (h:op≠.In<|>qb_) (h2:op≠.NotIn<|>qb_):behindInMarks op b=false:=by
 let e1:(op == CmpOp.In)=false:=by cases op <;> first | rfl | exact absurd rfl h
 let e2:(op == CmpOp.NotIn)=false:=by cases op <;> first | rfl | exact absurd rfl h2
 cases b <;> simp[behindInMarks,e1,e2]
def cR (ho:nQ X (compareOp op) r) (ha:PE X a ta) (hb:PE X b tb) (hm:behindInMarks op b=false):PE X (.Compare a [op] [b] pos) (cP r ta tb):=by
 intro pins s σ H Q I h;exact wpAny_Compare1 (Ub ha hb I h λv u s2 x y H2 I2 rx ry q=>ho pins s2 σ H2 x y v u Q I2 rx ry q) hm
def mM (t:TE):TT:=λσ H Q=>t σ H λx H'=>∃k,x=.bl k/\Q k H'
def jQ (ho:nQ X (compareOp op) r) (ha:PE X a ta) (hb:PE X b tb) (hm:behindInMarks op b=false):PT X (.Compare a [op] [b] pos) (mM (cP r ta tb)):=by
 intro pins s σ H Q I h;refine wpAny_isTrue_Compare1 (cJ (ha s σ H _ I h) λv s1 z0=>?_) hm;let⟨x,H1,I1,r1,q1⟩:=z0;refine cJ (hb s1 σ H1 _ I1 q1) λu s2 z1=>?_;let⟨y,H2,I2,r2,q2⟩:=z1;refine cJ (ho pins s2 σ H2 x y v u _ I2 r1 r2 q2) λc s3 z2=>?_;let⟨z,H3,I3,r3,k,e,q3⟩:=z2;subst e;cases r3;exact xh {(H3),I3,q3}
def Af (r r':R2) (ta tb tc:TE):TE:=λσ H Q=>ta σ H λx H1=>tb σ H1 λy H2=>r x y H2 λz H3=>∃k,z=.bl k/\
 (if k=true then tc σ H3 λw' H4=>r' y w' H4 Q else Q (.bl false) H3)
def HS (ho:nQ X (compareOp op) r) (ho':nQ X (compareOp op') r') (ha:PE X a ta) (hb:PE X b tb) (hc:PE X c tc)
  (hm:lastMarks [op,op'] [b,c]=false<|>qf_):PE X (.Compare a [op,op'] [b,c] pos) (Af r r' ta tb tc):=by
 intro pins s σ H Q I h;refine Compare_chain (cJ (ha s σ H _ I h) λv s1 z0=>?_) hm;let⟨x,H1,I1,r1,q1⟩:=z0;refine chain_link (cJ (hb s1 σ H1 _ I1 q1) λu s2 z1=>?_);let⟨y,H2,I2,r2,q2⟩:=z1;refine cJ (ho pins s2 σ H2 x y v u _ I2 r1 r2 q2) λd s3 z2=>?_;let⟨z,H3,I3,r3,k,e,q3⟩:=z2;subst e;cases r3;refine xh ?_;cases k with
 | false=>exact ite_ff {.bl false,H3,I3,rfl,q3}
 | true=>exact ite_tt (chain_last (cJ (hc s3 σ H3 _ I3 q3) λw' s4 ⟨z',H4,I4,r4,q4⟩=>ho' pins s4 σ H4 y z' u w' Q I4 r2 r4 q4))
def OU (ho:nQ X (compareOp op) r) (ho':nQ X (compareOp op') r') (ha:PE X a ta) (hb:PE X b tb) (hc:PE X c tc)
  (hm:lastMarks [op,op'] [b,c]=false<|>qf_):PT X (.Compare a [op,op'] [b,c] pos) (mM (Af r r' ta tb tc)):=by
 intro pins s σ H Q I h;refine isTrue_chain (cJ (ha s σ H _ I h) λv s1 z0=>?_) hm;let⟨x,H1,I1,r1,q1⟩:=z0;refine test_link (cJ (hb s1 σ H1 _ I1 q1) λu s2 z1=>?_);let⟨y,H2,I2,r2,q2⟩:=z1;refine cJ (ho pins s2 σ H2 x y v u _ I2 r1 r2 q2) λd s3 z2=>?_;let⟨z,H3,I3,r3,k,e,q3⟩:=z2;subst e;cases r3;refine xh ?_;cases k with
 | false=>
  let⟨k',e',q'⟩:=q3;cases e';exact ite_ff {(H3),I3,q'}
 | true=>
  refine ite_tt (test_last (cJ (hc s3 σ H3 _ I3 q3) λw' s4 z0=>?_));let⟨z',H4,I4,r4,q4⟩:=z0;refine cJ (ho' pins s4 σ H4 y z' u w' _ I4 r2 r4 q4) λd' s5 z1=>?_;let⟨z2,H5,I5,r5,k2,e2,q5⟩:=z1;subst e2;cases r5;exact xh {(H5),I5,q5}
def Bg:(sizeLine:Nat)<2^63:=by rw[yF];decide
def aM:nQ X (binaryOp .Add) (λx y H Q=>∃i j,x=.str i/\y=.str j/\⇑i+⇑j<=sizeLine/\Q (.str (i++j)) H):=by
 intro pins s σ H x y v u Q I rx ry h;let⟨i,j,rfl,rfl,hz,q⟩:=h;let⟨t,rfl⟩:=rx;let⟨t',rfl⟩:=ry;exact add_str (λt' tk=>{.str (i++j),H,I.tok _,{_,rfl},q}) hz
def vals1 (r:Vals [x] us):∃u,us=[u]/\RelV x u:=by
 cases r with
 | cons r1 r2=>cases r2;exact{_,rfl,r1}
def vals2 (r:Vals [x,y] us):∃u w',us=[u,w']/\RelV x u/\RelV y w':=by
 cases r with
 | cons r1 r2=>
  cases r2 with
  | cons r3 r4=>cases r4;exact{_,_,rfl,r1,r3}
def Jl:fb X (.builtin "abs") (λxs H Q=>∃i,xs=[.int i]/\Q (.int (if i<0 then -i else i)) H):=by
 intro pins s σ H xs us Q I r h;let⟨i,rfl,q⟩:=h;let⟨u,rfl,t,rfl⟩:=vals1 r;exact call_abs_int λu tk=>{.int (if i<0 then -i else i),H,I.tok _,{_,rfl},q}
def NC (hc:X.calm=true):fb X (.builtin "min") (λxs H Q=>∃i j,xs=[.int i,.int j]/\Q (.int (if j<i then j else i)) H):=by
 intro pins s σ H xs us Q I r h;let⟨i,j,rfl,q⟩:=h;let⟨u,w',rfl,⟨t,rfl⟩,⟨t',rfl⟩⟩:=vals2 r;refine min_two_ints (I.ok.hd hc) λh' tk k=>{_,H,I.kept k,?_,q}
 by_cases hj:j<i
 ·rw[yR hj,yR hj];exact{_,rfl}
 ·rw[yQ hj,yQ hj];exact{_,rfl}
def bf:fb X (.type "str") (λxs H Q=>∃i,xs=[.int i]/\i.natAbs.log2<1920/\Q (.str (toString i)) H):=by
 intro pins s σ H xs us Q I r h;let⟨i,rfl,hz,q⟩:=h;let⟨u,rfl,t,rfl⟩:=vals1 r;exact PySem.P.str_of_int hz {.str _,H,I.tok _,{_,rfl},q}
end
end L2
namespace L2
open PySem PySem.Spec PyProof.Rows
structure NP (h:vx) (x dx C:vw) (mA:Str->Option vm):Prop where
 obj:h.get? x=some (PySem.W.instObj C dx)
 ns:h.Ns1 dx mA
 ne:dx≠x
def sO {h:vx} {dx:vw} {mA:Str->Option vm} (n:h.Ns1 dx mA):∃od,h.get? dx=some od/\∀name,PySem.W.lookIn name od=some (mA name):=by
 let⟨o,es,ep,ho,hd,hk,_,hm⟩:=n;refine{o,ho,λname=>?_};let e:=hm name;unfold nsFind findBy at e;rw[<-Array.find?_toList] at e;unfold PySem.W.lookIn;rw[hd];dsimp only;split
 ·rename_i y q
  rw[q] at e;exact y6 some e
 ·rename_i q
  rw[q] at e;let a:es.toList.any (·.refKey)=false:=by
   rw[vi];intro y hy;let⟨z,t,hkey⟩:=hk y (Array.mem_toList_iff.mp hy);simp[DictEntry.refKey,hkey]
  let a':¬es.toList.any (·.refKey)=true:=by rw[a];exact zM
  rw[yQ a'];exact y6 some e
def NP.look (I:NP h x dx C mA):∃od,PySem.W.InstAt h x (PySem.W.instObj C dx) C (some od)/\∀name,PySem.W.lookIn name od=some (mA name):=
 let ⟨od,ho,hl⟩:=sO I.ns
 {od,{(I.obj),rfl,rfl,ho},hl}
section
variable {prog:vo} {w:vq} {A:vt} {E:vm->vn->Prop} {s:vn} {K:yE} {x dx C f:vw} {mA:Str->Option vm} {name:Str} {v:vm}
def get_map (X:K.In s.heap) (I:NP s.heap x dx C mA) (hg:PySem.W.plainGet K C name=true) (hh:PySem.W.hasDictIn K C=true)
  (ha:PySem.W.findIn K (.ref C) name=some none) (hv:mA name=some v) (hv':PySem.W.handedIn v=true) (h:Q v {s with toks:=s.toks+1}) :
  wpAny (model prog w) A (getAttr (.ref x) name expr) Q E s:=by
 let⟨od,J,hl⟩:=I.look;exact PySem.W.get_value X J (PySem.W.plainGet_of hg).1 (PySem.W.findObj_own hh ha rfl (by rw[hl,hv])) hv' h
def QX (X:K.In s.heap) (I:NP s.heap x dx C mA)
  (hs:PySem.W.findIn K (.ref C) "__setattr__"= some (some (.builtin "object.__setattr__"))) (hp:PySem.W.plainOver K C=true) (ht:PySem.W.takerIn K C name=some none) (hh:PySem.W.hasDictIn K C=true)
  (hw:PySem.Within mA ns) (hsz:⇑ns<=sizeLine)
  (h:∀h',NP h' x dx C (λy=>if y=name then some v else mA y)->Heap.SameBut dx s.heap h'->Q .unit {s with heap:=h',toks:=s.toks+2}) :
  wpAny (model prog w) A (setAttr (.ref x) name v) Q E s:=by
 let⟨od,J,hl⟩:=I.look;refine PySem.W.set_plain X J hs (PySem.W.osa_open (s:={s with toks:=s.toks+1}) (r:=none) X J hp ht λb=>?_);let⟨cd,hc,hd'⟩:=PySem.W.any_some hh;let hx:s.heap.get? x=some ⟨.ref C,some dx,.plain,#[]⟩:=I.obj;refine yx (yz (yx (yx (wpAny_loadPart hx (yx (PySem.W.Looks.here (s:={s with toks:=s.toks+1}) (PySem.W.looks_clsIn X hc) ?_))))));rw[hd'];refine yz (a:=some dx) (yx (yz (yx ?_)));refine wpAny_nsSet1 (s:={s with toks:=s.toks+1}) I.ns λh' hn2 hs2=>?_;let⟨oD,esD,epD,hoD,hdD,hcD⟩:=hn2.count (PySem.Within.cons name v hw);refine yx (wpAny_lookBehind hoD (by rw[hdD];exact pastItsLine_dict (zN hcD (by rw[zw];ext))) ?_);exact yz (h _ {(hs2.2 _ (Ne.symm I.ne)).trans I.obj,hn2,I.ne} hs2)
def Po (X:K.In s.heap) (hm:PySem.W.makesIn K C=true)
  (hi:PySem.W.findIn K (.ref C) "__init__"= some (some (.ref f))) (hf:PySem.W.typeIn K (.ref f)=some (.type "function"))
  (h:codeAny (model prog w) (A.under (.builtin "type.__call__" {.ref C::vs,kw})) (.call (.ref f) {.ref (↑s+1)::vs,kw}) (PySem.W.InitBack (↑s+1) R)
   {s with heap:=(s.heap.push PySem.W.emptyDict).push (PySem.W.instObj C ↑s)}) :
  codeAny (model prog w) A (.call (.ref C) {(vs),kw}) R s:=by
 let⟨hh,g,d,t,os⟩:=s;exact PySem.W.make_core (PySem.W.makes_of X hm) (PySem.W.looks_findIn X hi) (λself=>PySem.W.bind_fn X self hf) (.inl rfl) h
end
noncomputable def bq (f:Str) (v:V):List (Str×V)->List (Str×V)
 | []=>[(f,v)]
 | (g,x)::r=>if g=f then(g,v)::r else(g,x)::bq f v r
theorem nh (f g:Str) (v:V):∀fs:List (Str×V),(bq f v fs).lookup g=if g=f then some v else fs.lookup g
 | []=>by
  show List.lookup g [(f,v)]=_
  by_cases h:g=f
  ·let hb:(g == f)=true:=vb.mpr h
   simp only[List.lookup,hb,yR h]
  ·let hb:(g == f)=false:=xF.mpr h
   simp only[List.lookup,hb,yQ h]
 | (k,x)::r=>by
  let ih:=nh f g v r;rw[show bq f v ((k,x)::r)=(if k=f then(k,v)::r else(k,x)::bq f v r) from rfl]
  by_cases hk:k=f
  ·rw[yR hk]
   by_cases h:g=k
   ·let hb:(g == k)=true:=vb.mpr h
    simp only[List.lookup,hb,yR (h.trans hk)]
   ·let hb:(g == k)=false:=xF.mpr h
    simp only[List.lookup,hb,yQ (λe:g=f=>h (e.trans hk.symm))]
  ·rw[yQ hk]
   by_cases h:g=k
   ·let hb:(g == k)=true:=vb.mpr h
    simp only[List.lookup,hb,yQ (λe:g=f=>hk (h.symm.trans e))]
   ·let hb:(g == k)=false:=xF.mpr h
    simp only[List.lookup,hb];exact ih
theorem sP (f:Str) (v:V):∀fs:List (Str×V),f∈(bq f v fs).map (·.1)/\∀g,g∈fs.map (·.1)->g∈(bq f v fs).map (·.1)
 | []=>{by simp[bq],λg h=>by simp at h}
 | (k,x)::r=>by
  let⟨i1,i2⟩:=sP f v r;rw[show bq f v ((k,x)::r)=(if k=f then(k,v)::r else(k,x)::bq f v r) from rfl]
  by_cases hk:k=f
  ·rw[yR hk]
   subst hk;exact{by simp,λg h=>by simpa using h}
  ·rw[yQ hk]
   refine{?_,λg h=>?_}
   ·rw[zk]
    exact zr _ i1
   ·rw[zk] at h ⊢
    rcases zE.mp h with e | e
    ·exact zE.mpr (.inl e)
    ·exact zr _ (i2 g e)
theorem tW (f:Str) (v:V):∀fs:List (Str×V),⇑(bq f v fs)<=⇑fs+1
 | []=>by simp[bq]
 | (k,x)::r=>by
  let ih:=tW f v r;rw[show bq f v ((k,x)::r)=(if k=f then(k,v)::r else(k,x)::bq f v r) from rfl]
  by_cases hk:k=f
  ·rw[yR hk,zw,zw];ext
  ·rw[yQ hk,zw,zw];ext
def fN.some_of (r:fN (some v) o):∃u,o=some u/\RelV v u:=by
 cases o with
 | none=>exact(show False from r).elim
 | some u=>exact{(u),rfl,r}
def fN.none_of {o:Option vm} (r:fN none o):o=none:=by
 cases o with
 | none=>rfl
 | some u=>exact(show False from r).elim
def Ee (r:RelV v u):PySem.W.handedIn u=true:=by
 cases v with
 | bQ=>cases(show u=Value.none from r);rfl
 | bl b=>cases(show u=Value.bool b from r);rfl
 | int i=>let⟨t,e⟩:=(show∃t,u=Value.int i t from r);cases e;rfl
 | str x=>let⟨t,e⟩:=(show∃t,u=Value.str x t from r);cases e;rfl
 | Mh b=>let⟨t,e⟩:=(show∃t,u=Value.bytes b t from r);cases e;rfl
 | Rw b=>let⟨t,e⟩:=(show∃t,u=Value.float b t from r);cases e;rfl
 | ref a=>cases(show u=Value.ref a from r);rfl
 | ty n=>cases(show u=Value.type n from r);rfl
section
variable {P:vo} {w:vq} {H H':Hp} {h h':vx} {a C dx:vw} {fs fs':List (Str×V)}
def FO (bV:oH P w H h) (e:H a=some (.ins C dx fs)):∃mA,NP h a dx C mA/\(∀f,fN (fs.lookup f) (mA f))/\PySem.Within mA (fs.map (·.1))/\⇑fs<=1000/\H dx=some (.own a):=by
 let⟨d,z,ne,ob,mA,n,r,q⟩:=(show b8 P w H h a (.ins C dx fs) from bV a _ e)
 exact{mA,{(ob),n,ne},r,q,z,d}
end
structure RV (K:yE) (C:vw):Prop where
 pg:PySem.W.plainGet K C Str.empty=true
 hd:PySem.W.hasDictIn K C=true
 po:PySem.W.plainOver K C=true
 sa:PySem.W.findIn K (.ref C) "__setattr__"= some (some (.builtin "object.__setattr__"))
def RV.get {K:yE} {C:vw} (c:RV K C) (f:Str):PySem.W.plainGet K C f=true:=c.pg
def dA (K:yE) (C:vw) (f:Str):Prop:=PySem.W.findIn K (.ref C) f=some none
def dA.UC {K:yE} {C:vw} {f:Str} (n:dA K C f):PySem.W.takerIn K C f=some none:=by
 unfold PySem.W.takerIn;rw[show PySem.W.findIn K (.ref C) f=some none from n];rfl
section
variable {X:Cx} {pins:List (vw×Obj)} {σ:St} {H:Hp} {s:vn} {a C dx:vw} {fs:List (Str×V)} {f:Str} {v:V} {A:vt} {E:vm->vn->Prop}
def KG (I:Inv X pins σ H s) (e:H a=some (.ins C dx fs)) (c:RV X.K C) (n:dA X.K C f) (l:fs.lookup f=some v)
  (h:∀u s',Inv X pins σ H s'->RelV v u->Q u s'):wpAny (model X.prog X.w) A (getAttr (.ref a) f b) Q E s:=by
 let⟨mA,O,r,_,_,_⟩:=FO I.bV e;let⟨u,hu,ru⟩:=fN.some_of (v:=v) (o:=mA f) (by rw[<-l];exact r f);exact get_map I.kc O (c.get f) c.hd n hu (Ee ru) (h u _ (I.tok _) ru)
def J0 (I:Inv X pins σ H s) (e:H a=some (.ins C dx fs)) (c:RV X.K C) (n:dA X.K C f) (hl:⇑fs<1000) (ry:RelV y u)
  (h:∀s',Inv X pins σ (upd H a (.ins C dx (bq f y fs))) s'->Q .unit s'):wpAny (model X.prog X.w) A (setAttr (.ref a) f u) Q E s:=by
 let⟨mA,O,r,wi,_,ho⟩:=FO I.bV e;let hz:⇑(fs.map (·.1))<=sizeLine:=by rw[zd,yF];ext
 refine QX I.kc O c.sa c.po n.UC c.hd wi hz λh' O' sb=>h _ ?_;let hd:∃o,h'.get? dx=some o:=let ⟨o,_,_,e',_⟩:=O'.ns;{(o),e'};refine I.write (x:=a) (e:=dx) (by rw[e];exact True.intro) (.inr ho) (λb q hb z=>(sb.2 b hb).trans z) hd ?_;refine{by rw[aC O.ne];exact ho,?_,O.ne,O'.obj,_,O'.ns,λg=>?_,λg hg=>?_}
 ·have:=tW f y fs;ext
 ·show fN ((bq f y fs).lookup g) (if g=f then some u else mA g)
  rw[nh]
  by_cases q:g=f
  ·rw[yR q,yR q];exact ry
  ·rw[yQ q,yQ q];exact r g
 ·by_cases q:g=f
  ·rw[q];exact(sP f y fs).1
  ·refine(sP f y fs).2 g (wi g λz=>hg ?_)
   show(if g=f then some u else mA g)=none;rw[yQ q];exact z
def Inv.made (I:Inv X pins σ H s):Inv X pins σ (upd (upd H ↑s (.own (↑s+1))) (↑s+1) (.ins C ↑s []))
  {s with heap:=(s.heap.push PySem.W.emptyDict).push (PySem.W.instObj C ↑s)}:=by
 let e1:(s.heap.push PySem.W.emptyDict).get? ↑s=some PySem.W.emptyDict:=yA s.heap rfl;let e2:((s.heap.push PySem.W.emptyDict).push (PySem.W.instObj C ↑s)).get? (↑s+1)=some (PySem.W.instObj C ↑s):=by
  have:=yA (s.heap.push PySem.W.emptyDict) (o:=PySem.W.instObj C ↑s) rfl
  rwa [xk] at this
 let e3:(s.heap.push PySem.W.emptyDict).Ns ↑s (λ_=>none):={PySem.W.emptyDict,#[],_,e1,rfl,(λe he=>absurd he (by simp)),λ_=>rfl}
 let I1:=I.laid (a:=↑s) (o:=.own (↑s+1)) (h':=s.heap.push PySem.W.emptyDict) (t':=s.toks) (λb u q=>yy _ q) (zp _) {_,e1};refine I1.laid (a:=↑s+1) (o:=.ins C ↑s []) (t':=s.toks) (λb u q=>yy _ q) (Nat.le_of_eq (xk _ _)) ?_;let ne:↑s≠↑s+1:=yk (xP _);refine{by rw[aC ne,aE],yg _,ne,e2,λ_=>none,(Heap.Ns1.of_empty e3).at λo q=>yy _ q,λ_=>True.intro,λy hy=>absurd rfl hy}
def Mi (hb:attributeBase e f env (eval e env)=eval e env)
  (h:wpAny (model prog w) A (eval e env) (λo s₁=>wpAny (model prog w) A (getAttr o f true) Q E s₁) E s):wpAny (model prog w) A (eval (.Attribute e f pos) env) Q E s:=
 Attribute_any_ h (by rw[arm_eval_Attribute,hb])
end
def QQ (K:yE) (ta:TE) (f:Str):TE:=λσ H Q=>ta σ H λx H1=>∃a C dx fs v,x=.ref a/\H1 a=some (.ins C dx fs)/\RV K C/\dA K C f/\fs.lookup f=some v/\Q v H1
def Wr (K:yE) (ta tv:TE) (f:Str):TS:=λD σ H=>tv σ H λy H1=>ta σ H1 λx H2=>∃a C dx fs,x=.ref a/\H2 a=some (.ins C dx fs)/\RV K C/\dA K C f/\⇑fs<1000/\
 D.nx σ (upd H2 a (.ins C dx (bq f y fs)))
section
variable {X:Cx} {o e value:Expr} {f:Str} {pos pos' tpos:Pos} {ta tv:TE}
def bU (he:PE X e ta) (hb:attributeBase e f X.env (eval e X.env)=eval e X.env):PE X (.Attribute e f pos) (QQ X.K ta f):=by
 intro pins s σ H Q I h;refine Mi hb (cJ (he s σ H _ I h) λu s1 z0=>?_);let⟨x,H1,I1,rx,a,C,dx,fs,v,ex,ea,c,n,l,q⟩:=z0;subst ex;obtain rfl:u=Value.ref a:=rx;exact KG I1 ea c n l λu' s2 I2 ru=>{(v),H1,I2,ru,q}
def jn (ha:PE X o ta) (hv:PE X value tv) (hs:swapsWith value (some (.Attribute o f pos')) pos.line X.env=pure false):PS X (.Assign [.Attribute o f pos'] value pos) (Wr X.K ta tv f):=by
 intro pins s σ H D I h;refine plainObj_wpAny_Assign_Attribute (cJ (hv s σ H _ I h) λu s1 z0=>?_) hs;let⟨y,H1,I1,ry,q⟩:=z0;refine cJ (ha s1 σ H1 _ I1 q) λov s2 z1=>?_;let⟨x,H2,I2,rx,a,C,dx,fs,ex,ea,c,n,l,q2⟩:=z1;subst ex;obtain rfl:ov=Value.ref a:=rx;exact J0 I2 ea c n l ry λs3 I3=>{σ,_,I3,q2}
end
section
variable {X:Cx} {pins:List (vw×Obj)} {σ:St} {H:Hp} {s:vn} {A:vt} {E:vm->vn->Prop} {Q:vm->vn->Prop} {c:vm} {b:Bool}
inductive tH (K:yE) (H:Hp):V->vm->Prop where
 | bQ:tH K H .bQ (.type "NoneType")
 | bl (x:Bool):tH K H (.bl x) (.type "bool")
 | int (i:Int):tH K H (.int i) (.type "int")
 | str (x:Str):tH K H (.str x) (.type "str")
 | Rw (x:UInt64):tH K H (.Rw x) (.type "float")
 | lst {a:vw} {xs:List V} (e:H a=some (.lst xs)):tH K H (.ref a) (.type "list")
 | mG {a:vw} {o:Obj} {xs:List V} (e:H a=some (.mG o (.lst xs))):tH K H (.ref a) (.type "list")
 | tup {a:vw} {xs:List V} (e:H a=some (.tup xs)):tH K H (.ref a) (.type "tuple")
 | dK {a:vw} {kvs:List (Key×V)} (e:H a=some (.dK kvs)):tH K H (.ref a) (.type "dict")
 | dT {a:vw} {kvs:List (List Key×V)} (e:H a=some (.dT kvs)):tH K H (.ref a) (.type "dict")
 | ins {a C dx:vw} {fs:List (Str×V)} (e:H a=some (.ins C dx fs)) (cl:RV K C) (ha:PySem.W.findIn K (.ref C) "__class__"= some (some (.builtin "object.__class__")))
   (hn:PySem.W.specialIn K (.builtin "object.__class__") "__get__"= some (some (.builtin "getset_descriptor.__get__"))) (htk:PySem.W.takesIn K (.builtin "object.__class__")=some true)
   (hm:PySem.W.mroIn K C (.type "object")=some true):tH K H (.ref a) (.ref C)
def Na (I:Inv X pins σ H s) (rx:RelV x u) (ty:tH X.K H x t) (e:PySem.W.kitOne X.K t c=some b) (h:∀tk,Q (.bool b) {s with toks:=tk}) :
  wpAny (model X.prog X.w) A (call (.builtin "isinstance") [u,c]) Q E s:=by
 cases ty with
 | bQ=>cases(show u=Value.none from rx);exact xm PySem.W.kitx_none I.kc True.intro e (λz=>nomatch z) h
 | bl y=>cases(show u=Value.bool y from rx);exact xm PySem.W.kitx_bool I.kc True.intro e (λz=>nomatch z) h
 | int i=>let⟨t,q⟩:=(show∃t,u=Value.int i t from rx);cases q;exact xm PySem.W.kitx_int I.kc True.intro e (λz=>nomatch z) h
 | str y=>let⟨t,q⟩:=(show∃t,u=Value.str y t from rx);cases q;exact xm PySem.W.kitx_str I.kc True.intro e (λz=>nomatch z) h
 | Rw y=>let⟨t,q⟩:=(show∃t,u=Value.float y t from rx);cases q;exact xm PySem.W.kitx_float I.kc True.intro e (λz=>nomatch z) h
 | @lst a xs ea=>
  cases(show u=Value.ref a from rx);let⟨_,_,n,_,h1⟩:=(show b8 X.prog X.w H s.heap a (.lst xs) from I.bV a _ ea)
  exact xm PySem.W.kitx_list I.kc {_,h1,rfl} e (λz=>nomatch z) h
 | @mG a ob xs ea=>
  cases(show u=Value.ref a from rx);let⟨_,_,_,n,_,h1⟩:=(show b8 X.prog X.w H s.heap a (.mG ob (.lst xs)) from I.bV a _ ea)
  exact xm PySem.W.kitx_list I.kc {_,h1,rfl} e (λz=>nomatch z) h
 | @tup a xs ea=>
  cases(show u=Value.ref a from rx);let⟨_,_,_,p⟩:=(show b8 X.prog X.w H s.heap a (.tup xs) from I.bV a _ ea)
  let⟨o,h1,h2,_⟩:=p;exact xm PySem.W.kitx_tuple I.kc {(o),h1,h2} e (λz=>nomatch z) h
 | @dK a kvs ea=>
  cases(show u=Value.ref a from rx);let⟨_,_,vs,_,p⟩:=(show b8 X.prog X.w H s.heap a (.dK kvs) from I.bV a _ ea)
  let⟨o,es,ep,h1,h2,_⟩:=p;exact xm PySem.W.kitx_dict I.kc {(o),h1,h2.1} e (λz=>nomatch z) h
 | @dT a kvs ea=>
  cases(show u=Value.ref a from rx);let⟨_,_,xs,_,o,es,ep,h1,h2,_⟩:=(show b8 X.prog X.w H s.heap a (.dT kvs) from I.bV a _ ea)
  exact xm PySem.W.kitx_dict I.kc {(o),h1,h2.1} e (λz=>nomatch z) h
 | @ins a C dx fs ea cl ha hn htk hm=>
  cases(show u=Value.ref a from rx);let⟨mA,O,_⟩:=FO I.bV ea;let⟨od,J,_⟩:=O.look;exact xm (PySem.W.kitx_own (cl.get _) cl.hd ha hn htk hm) I.kc J e (λz=>nomatch z) h
end
end L2
namespace L2
open PySem PySem.Spec PyProof.Rows
structure eT (k:Nat) (A:vt):Prop where
 hd:A.handled=none
 dp:A.depth+3*k+5<recursionLimit
 un:A.units+16*k+200<cLine
def eT.mono (r:eT k A) (h:j<=k):eT j A:={r.hd,by have:=r.dp;ext,by have:=r.un;ext}
theorem eT.deeper (r:eT (k+1) A) (env:Env):eT k (A.deeper env):=
 {r.hd,by have:=r.dp;show A.depth+1+3*k+5<_;ext,by have:=r.un;show A.units+3+16*k+200<_;ext}
def Ku {A:vt} {C:vw} {us:List vm} {kw:List (Str×vm)}:(A.under (.builtin "type.__call__" {.ref C::us,kw})).depth=A.depth+1:=by
 first | rfl | simp[Around.under,Code.weight,Code.isCreation,Code.isGuard,Code.isCaller,Code.frames,Code.isFrame,guardIds]
def Kt {A:vt} {C:vw} {us:List vm} {kw:List (Str×vm)}:(A.under (.builtin "type.__call__" {.ref C::us,kw})).units=A.units+1:=by
 first | rfl | simp[Around.under,Code.cUnits,Code.frames,Code.isFrame]
def eT.make (r:eT (k+1) A) (C:vw) (us:List vm) (kw:List (Str×vm)):eT k (A.under (.builtin "type.__call__" {.ref C::us,kw})):=
 {r.hd,by have:=r.dp;rw[Ku];ext,by have:=r.un;rw[Kt];ext}
theorem eT.depth (r:eT k A):A.depth<recursionLimit:=by have:=r.dp;ext
theorem eT.units (r:eT k A):A.units+64<cLine:=by have:=r.un;ext
def cE:TA:=λ_ H Q=>Q [] H
def aY (ta:TE) (tr:TA):TA:=λσ H Q=>ta σ H λx H1=>tr σ H1 λxs H2=>Q (x::xs) H2
section
variable {X:Cx} {e:Expr} {es:List Expr} {te:TE} {t:TA} {pos:Pos}
def ae:PA X [] cE:=λ_ _ _ _ H Q I h=>vj {[],H,I,.nil,h}
def ah (ha:PE X e te) (hr:PA X es t) (hs:starEach (e::es) X.env=(false,eval e X.env)::starEach es X.env<|>qe_):PA X (e::es) (aY te t):=by
 intro pos pins s σ H Q I h;rw[hs];show wpAny _ _ (spliced ((false,eval e X.env)::backTo pos (starEach es X.env))) _ _ s;refine wF (cJ (ha s σ H _ I h) λu s1 z0=>?_);let⟨x,H1,I1,r1,q1⟩:=z0;refine cJ (hr s1 σ H1 _ I1 q1) λus s2 z0=>?_;let⟨xs,H2,I2,r2,q2⟩:=z0;exact{x::xs,H2,I2,.cons r1 r2,q2}
def EH (t:TA):TE:=λσ H Q=>t σ H λxs H1=>⇑xs<=sizeLine/\∀p,H1 p=none->Q (.ref p) (upd H1 p (.tup xs))
def oJ (t:TA):TE:=λσ H Q=>t σ H λxs H1=>⇑xs<=sizeLine/\∀p,H1 p=none->Q (.ref p) (upd H1 p (.lst xs))
def bT {x1} (h:PA X es t):PE X (.Tuple es x1 pos) (EH t):=by
 intro pins s σ H Q I hq;refine wpAny_Tuple_spliced (cJ (h s σ H _ I hq) λus s1 z0=>?_);let⟨xs,H1,I1,r,z,q⟩:=z0;refine{by rw[<-⇑r];exact z,?_};let hf:H1 ↑s1=none:=I1.bV.fresh (zp _);refine{.ref ↑s1,upd H1 ↑s1 (.tup xs),I1.laid (t':=s1.toks) (λb u e=>yy _ e) (zp _) ?_,rfl,q _ hf};exact{z,us,r,{_,yA _ rfl,rfl,_,rfl}}
def aU (h:PA X es t):PE X (.List es pos) (oJ t):=by
 intro pins s σ H Q I hq;refine wpAny_List_spliced (cJ (h s σ H _ I hq) λus s1 z0=>?_);let⟨xs,H1,I1,r,z,q⟩:=z0;refine{by rw[<-⇑r];exact z,?_};let hf:H1 ↑s1=none:=I1.bV.fresh (zp _);refine{.ref ↑s1,upd H1 ↑s1 (.lst xs),I1.laid (t':=s1.toks) (λb u e=>yy _ e) (zp _) ?_,rfl,q _ hf};exact{z,us,0,r,yA _ rfl}
end
abbrev Sp:=List V->Hp->VK->XK->Prop
abbrev GP:=List Env->Hp->vn->XK->vm->vn->Prop
structure JD (P:vo) (w:vq) (K:yE) (mg:Str->Option vm) (base:vx) (A:vt) (outer:List Env) (s:vn) (H:Hp):Prop where
 frames:A.frames=some outer
 mod:Mod K mg base
 bs:∀b o,base.get? b=some o->s.heap.get? b=some o/\H b=none
 NY:base.objs.size<=↑s
 nG:s.heap.FunFrames base outer
 FT:∀b∈jG outer,H b=none
 bV:oH P w H s.heap
 bare:AllBare s.gens
def CE (outer:List Env) (P:vo) (w:vq) (H:Hp) (s:vn) (Q:VK) (u:vm) (s':vn):Prop:=
 ∃v H',s'.os=s.os/\AllBare s'.gens/\Un (jG outer) [] H H' s.heap s'.heap/\oH P w H' s'.heap/\RelV v u/\Q v H'
def CR (CX:GP) (outer:List Env) (P:vo) (w:vq) (H:Hp) (s:vn) (Q:VK) (E:XK) (r:Result) (s':vn):Prop:=
 match r with
 | .ok (.ret u)=>CE outer P w H s Q u s'
 | .ok _=>False
 | .error e=>CX outer H s E e s'
structure cO (P:vo) (w:vq) (K:yE) (mg:Str->Option vm) (base:vx) (CX:GP) (k:Nat) (f:vw) (fd:vv) (ps:List Str) (sp:Sp):Prop where
 len:∀vs H Q E,sp vs H Q E->⇑vs=⇑ps
 run:∀(A:vt) (outer:List Env) (s:vn) (H:Hp) (args:Args) (us:List vm) (vs:List V) (Q:VK) (E:XK),eT k A->JD P w K mg base A outer s H->BindsTo s fd args (ps.zip us)->Vals vs us->sp vs H Q E->
  codeAny (model P w) A (.call (.ref f) args) (CR CX outer P w H s Q E) s
theorem cO.mono {P:vo} {w:vq} {K:yE} {mg:Str->Option vm} {base:vx} {CX:GP} {j k:Nat} {f:vw} {fd:vv} {ps:List Str} {sp:Sp} (F:cO P w K mg base CX j f fd ps sp) (h:j<=k) :
  cO P w K mg base CX k f fd ps sp:={F.len,λA outer s H args us vs Q E hr=>F.run A outer s H args us vs Q E (hr.mono h)}
def JD.make {P:vo} {w:vq} {K:yE} {mg:Str->Option vm} {base:vx} {A:vt} {outer:List Env} {s:vn} {H:Hp} (e:JD P w K mg base A outer s H) (C:vw) (us:List vm) (kw:List (Str×vm)) :
  JD P w K mg base (A.under (.builtin "type.__call__" {.ref C::us,kw})) outer s H:={by first | exact e.frames | (simpa[Around.under,Code.envs,Code.isFrame,pushEnvs] using e.frames),e.mod,e.bs,e.NY,e.nG,e.FT,e.bV,e.bare}
section
variable {X:Cx} {pins:List (vw×Obj)} {σ:St} {H:Hp} {s s':vn}
def Inv.Nj (I:Inv X pins σ H s):JD X.prog X.w X.K X.mg X.base X.A X.stack s H:=
 {I.ok.frames,I.ok.mod,I.bs,zN I.ok.NY I.sz,I.stack,I.kP,I.bV,I.bare}
def Inv.after (I:Inv X pins σ H s) (h:CE X.stack X.prog X.w H s Q u s'):EP X pins σ Q u s':=by
 let⟨v,H',os,bare,un,bV,r,q⟩:=h;let⟨hh,g,d,t,os'⟩:=s';obtain rfl:os'=s.os:=os;exact{v,H',I.call (h':=hh) (g':=g) (d':=d) (t':=t) (ch:=[]) un bV bare (λb z=>absurd z (by simp)),r,q}
end
def gn (sp:Sp) (dvs:List V) (E:XK) (t:TA):TE:=λσ H Q=>t σ H λvs H1=>sp (vs++dvs) H1 Q E
def UJ (C:vw) (sp:Sp) (dvs:List V) (E:XK) (t:TA):TE:=λσ H Q=>t σ H λvs H1=>∀x dx,H1 x=none->H1 dx=none->dx≠x->
 sp (.ref x::(vs++dvs)) (upd (upd H1 dx (.own x)) x (.ins C dx [])) (λv H2=>v=.bQ/\Q (.ref x) H2) E
def Binds (K:yE) (fd:vv) (ps:List Str) (ds:List vm):Prop:=
 ∀(s:vn) (us:List vm),K.In s.heap->⇑(us++ds)=⇑ps->BindsTo s fd {us,[]} (ps.zip (us++ds))
def Binds.all {K:yE} {fd:vv} {ps:List Str} (h:∀us:List vm,⇑us=⇑ps->bindArgs fd {us,[]}=pure (ps.zip us)):Binds K fd ps []:=λs us _ hl=>by
 rw[zW] at hl ⊢;exact .of_eq (h us hl)
def Passes (CX:GP) (X:Cx) (E:XK):Prop:=∀(pins:List (vw×Obj)) (σ:St) (H:Hp) (s:vn) (e:vm) (s':vn),Inv X pins σ H s->CX X.stack H s E e s'->X.xe e s'
section
variable {X:Cx} {CX:GP} {k:Nat} {f C:vw} {fd:vv} {ps:List Str} {sp:Sp} {dvs:List V} {ds:List vm} {E:XK} {x m:Str} {p pos apos:Pos} {e o:Expr} {es:List Expr} {ta:TE} {t:TA}
def Kb (F:cO X.prog X.w X.K X.mg X.base CX k f fd ps sp) (hr:eT k X.A) (hb:Binds X.K fd ps ds) (hd:Vals dvs ds) (hx:Passes CX X E)
  (I:Inv X pins σ H s) (r:Vals vs us) (h:sp (vs++dvs) H Q E):wpAny (model X.prog X.w) X.A (call (.ref f) us) (EP X pins σ Q) X.xe s:=by
 let r2:Vals (vs++dvs) (us++ds):=r.append hd;let hl:⇑(us++ds)=⇑ps:=by rw[<-⇑r2];exact F.len _ _ _ _ h
 refine wpAny_call (xS (F.run X.A X.stack s H {us,[]} (us++ds) (vs++dvs) Q E hr I.Nj (hb s us I.kc hl) r2 h) λr s' hq=>?_);cases r with
 | error e=>exact hx pins σ H s e s' I hq
 | ok fl=>
  cases fl with
  | ret u=>exact I.after hq
  | next=>exact False.elim hq
  | brk=>exact False.elim hq
  | cont=>exact False.elim hq
def Fq (F:cO X.prog X.w X.K X.mg X.base CX k f fd ps sp) (hr:eT k X.A) (hg:Gl X x) (hm:X.mg x=some (.ref f)) (hk:PySem.W.keepIn X.K (.ref f)=true) (hb:Binds X.K fd ps ds) (hd:Vals dvs ds) (hx:Passes CX X E)
  (ha:PA X (e::es) t) (hdb:(x == ("__debug__": Str))=false<|>qb_) (he:starEach (e::es) X.env=(false,eval e X.env)::starEach es X.env<|>qe_) (hpl:(backTo pos (starEach es X.env)).any (·.1)=false<|>qe_) :
  PE X (.Call (.Name x p) (e::es) [] pos) (gn sp dvs E t):=by
 intro pins s σ H Q I h;refine xq (fW I hg hm ?_ hdb);refine vd (h₀:=X.base) I.ok.mod.Qy hk (cJ (ha s σ H _ I h) λus s1 z0=>?_) he hpl;let⟨vs,H1,I1,r,q⟩:=z0;refine{I1.kc,?_};exact Kb F hr hb hd hx I1 r q
structure Mk (K:yE) (C f:vw):Prop where
 makes:PySem.W.makesIn K C=true
 init:PySem.W.findIn K (.ref C) "__init__"= some (some (.ref f))
 fn:PySem.W.isFn K (.ref f)=true
 kp:PySem.W.keepIn K (.ref C)=true
def OG (M:Mk X.K C f) (F:cO X.prog X.w X.K X.mg X.base CX k f fd ps sp) (hr:eT (k+1) X.A) (hb:Binds X.K fd ps ds) (hd:Vals dvs ds)
  (hx:Passes CX X E) (I:Inv X pins σ H s) (r:Vals vs us)
  (h:∀x dx,H x=none->H dx=none->dx≠x->sp (.ref x::(vs++dvs)) (upd (upd H dx (.own x)) x (.ins C dx [])) (λv H2=>v=.bQ/\Q (.ref x) H2) E) :
  wpAny (model X.prog X.w) X.A (call (.ref C) us) (EP X pins σ Q) X.xe s:=by
 let hq:=h (↑s+1) ↑s (I.bV.fresh (x6 _)) (I.bV.fresh (zp _)) (yk (xP _));let I2:=Inv.made (C:=C) I;let r2:Vals (V.ref (↑s+1)::(vs++dvs)) (Value.ref (↑s+1)::(us++ds)):=.cons rfl (r.append hd);let hl:⇑(Value.ref (↑s+1)::us++ds)=⇑ps:=by
  let e:=⇑r2;rw[F.len _ _ _ _ hq] at e;exact e.symm
 refine wpAny_call (Po (f:=f) I.kc M.makes M.init (vb.mp M.fn) (xS (F.run _ X.stack _ _ {Value.ref (↑s+1)::us,[]} (Value.ref (↑s+1)::(us++ds)) _ _ E (hr.make C us [])
  (I2.Nj.make C us []) (hb _ (Value.ref (↑s+1)::us) I2.kc hl) r2 hq) λr s' hq'=>?_))
 cases r with
 | error e=>exact hx pins σ _ _ e s' I2 hq'
 | ok fl=>
  cases fl with
  | ret u=>
   let⟨v,H',I3,rv,ev,q3⟩:=I2.after hq';subst ev;exact{rv,{V.ref (↑s+1),H',I3,rfl,q3}}
  | next=>exact False.elim hq'
  | brk=>exact False.elim hq'
  | cont=>exact False.elim hq'
def O3 (M:Mk X.K C f) (F:cO X.prog X.w X.K X.mg X.base CX k f fd ps sp) (hr:eT (k+1) X.A) (hg:Gl X x) (hm:X.mg x=some (.ref C)) (hb:Binds X.K fd ps ds) (hd:Vals dvs ds) (hx:Passes CX X E)
  (hdb:(x == ("__debug__": Str))=false<|>qb_):PE X (.Call (.Name x p) [] [] pos) (UJ C sp dvs E cE):=by
 intro pins s σ H Q I h;refine xq (fW I hg hm ?_ hdb);exact PySem.W.callWith_K0 I.kc M.kp (OG (us:=[]) M F hr hb hd hx I .nil h)
end
section
variable {X:Cx} {CX:GP} {k:Nat} {f C:vw} {fd:vv} {ps ks:List Str} {sp:Sp} {E:XK} {x m:Str} {p pos apos kpos:Pos} {e o:Expr} {es:List Expr} {kws:List Keyword} {te ta:TE} {t tk:TA} {nm:Option Str}
variable {g:List vm->List vm->List vm} {gV:List V->List V->List V}
end
structure d6 (N P:List Str) (sc:Scope):Prop where
 kind:sc.kind=.function
 co:sc.isCoroutine=false
 gen:sc.isGenerator=false
 nd:N.Nodup
 pre:N.take P.length=P
 par:∀x∈P,sc.names.lookup x=some .local\/sc.names.lookup x=some .cell
 Tr:∀y∈sc.names,y.2≠.free
theorem Er {kindOf:Str->Option NameKind} {x:Str}:∀{binds:List (Str×vm)} {m:Str->Option vm},(∀v,(x,v)∉binds)->bindL kindOf binds m x=m x
 | [],_,_=>rfl
 | (n,v)::r,m,h=>by
  unfold bindL;rw[Er λw hw=>h w (zr _ hw)];split
  ·have:x≠n:=by rintro rfl;exact h v zt
   simp[this]
  ·rfl
theorem Et {kindOf:Str->Option NameKind} {x:Str}:∀{binds:List (Str×vm)} {m:Str->Option vm},(∀v,(x,v)∉binds)->bindC kindOf binds m x=m x
 | [],_,_=>rfl
 | (n,v)::r,m,h=>by
  unfold bindC;rw[Et λw hw=>h w (zr _ hw)];split
  ·rfl
  ·have:x≠n:=by rintro rfl;exact h v zt
   simp[this]
theorem Es {kindOf:Str->Option NameKind} {x:Str} {v:vm}:∀{P:List Str} {vs:List vm} {i:Nat} {m:Str->Option vm},P.Nodup->P[i]?=some x->vs[i]?=some v->kindOf x=some .local->
  bindL kindOf (P.zip vs) m x=some v
 | [],_,_,_,_,h,_,_=>by simp at h
 | _::_,[],_,_,_,_,h,_=>by simp at h
 | p::P,w::vs,0,m,nd,h1,h2,hk=>by
  simp at h1 h2;subst h1;subst h2;show bindL kindOf ((p,w)::P.zip vs) m p=_;unfold bindL;rw[Er λv hv=>(yd.mp nd).1 (wz hv).1,yR hk];simp
 | p::P,w::vs,i+1,m,nd,h1,h2,hk=>by
  show bindL kindOf ((p,w)::P.zip vs) m x=_;unfold bindL;exact Es (i:=i) (yd.mp nd).2 (by simpa using h1) (by simpa using h2) hk
theorem Eu {kindOf:Str->Option NameKind} {x:Str} {v:vm}:∀{P:List Str} {vs:List vm} {i:Nat} {m:Str->Option vm},P.Nodup->P[i]?=some x->vs[i]?=some v->kindOf x≠some .local->
  bindC kindOf (P.zip vs) m x=some v
 | [],_,_,_,_,h,_,_=>by simp at h
 | _::_,[],_,_,_,_,h,_=>by simp at h
 | p::P,w::vs,0,m,nd,h1,h2,hk=>by
  simp at h1 h2;subst h1;subst h2;show bindC kindOf ((p,w)::P.zip vs) m p=_;unfold bindC;rw[Et λv hv=>(yd.mp nd).1 (wz hv).1,yQ hk];simp
 | p::P,w::vs,i+1,m,nd,h1,h2,hk=>by
  show bindC kindOf ((p,w)::P.zip vs) m x=_;unfold bindC;exact Eu (i:=i) (yd.mp nd).2 (by simpa using h1) (by simpa using h2) hk
noncomputable def start (N:List Str) (vs:List V):St:=vs.map some++List.replicate (N.length-⇑vs) none
noncomputable def gX (CX:GP) (P:vo) (w:vq) (K:yE) (mg:Str->Option vm) (base:vx) (N:List Str) (qual:Str) (scope:Scope) (f:vw) (cd:vm) (A:vt) (outer:List Env) (s:vn) (H:Hp) (E:XK):Cx where
 prog:=P
 w:=w
 K:=K
 mg:=mg
 base:=base
 A:=A.deeper (envOfC qual scope ↑s f cd)
 N:=N
 s₀:=s
 H₀:=H
 env:=envOfC qual scope ↑s f cd
 outer:=outer
 stack:=envOfC qual scope ↑s f cd::outer
 ex:=[]
 calm:=true
 fn:=λ_=>true
 pn:=[]
 xe:=λe s'=>wpAny (model P w) (A.deeper (envOfC qual scope ↑s f cd)) (leaving (envOfC qual scope ↑s f cd) e) (λ_ s''=>CX outer H s E e s'') (λe' s''=>CX outer H s E e' s'') s'
def Jk {sc:Scope} {n:Nat} {x:Str} (h:sc.names.lookup x=some .cell):∃c,(cellsFrom n sc.names []).lookup x=some c:=by
 let q:=PySem.W.cellsFrom_some sc.names n [] (.inl h);exact Option.isSome_iff_exists.mp q
def Nb {CX:GP} {P:vo} {w:vq} {K:yE} {mg:Str->Option vm} {base:vx} {N ps:List Str} {qual:Str} {scope:Scope} {f:vw} {cd:vm} {A:vt} {outer:List Env} {s s1:vn} {H:Hp} {E:XK} {us:List vm} {vs:List V}
  (S:d6 N ps scope) (hd:A.handled=none) (e0:JD P w K mg base A outer s H) (hl:⇑vs=⇑ps) (r:Vals vs us)
  (x:InCallC s ↑s (bindL (envOfC qual scope ↑s f cd).kindOf (ps.zip us) λ_=>none) (cellsFrom (↑s+1) scope.names []) (bindC (envOfC qual scope ↑s f cd).kindOf (ps.zip us) λ_=>none) s1) :
  Inv (gX CX P w K mg base N qual scope f cd A outer s H E) [] (start N vs) H s1:=by
 let hpl:⇑ps<=N.length:=by have:=y6 List.length S.pre;rw[zR] at this;ext
 let⟨h1,tk,rfl,hk⟩:=x.done;let noA:∀b:vw,b∉(gX CX P w K mg base N qual scope f cd A outer s H E).ex:=λb z=>absurd (show b∈([]:List vw) from z) (by simp);refine{{e0.mod,S.kind,rfl,rfl,zp _,λy z c h1 h2=>?_,λy hy=>?_,λy c _ h=>?_,λ_=>hd,Around.frames_deeper e0.frames,.inr {(rfl),rfl},λb z=>absurd z (noA b),e0.bs,e0.NY,λb _ _=>noA b,λb z=>absurd z (noA b),e0.nG,e0.FT},
  rfl,e0.bare,Un.kept hk,{_,x.toInCall.ns,λi y v h1 h2 h3=>?_},λy c h=>{_,x.cell y c h},e0.bV.fresh (zp _),λy c h=>?_,λp hp=>absurd (show p∈([]:List (vw×Obj)) from hp) (by simp),e0.bV.kept hk,?_}
 ·exact name_of_addr x.apart (wt h1) (wt h2)
 ·let hy:scope.names.lookup y=some .cell\/scope.names.lookup y=some .free:=hy
  rcases hy with hy | hy
  ·exact Jk hy
  ·exact absurd rfl (S.Tr _ (wt hy))
 ·exact yi (x.above y c (wt h))
 ·let hi:i<⇑vs:=by
   unfold start at h2
   by_cases hi:i<⇑vs
   ·exact hi
   ·rw[z9 (by simpa using hi)] at h2
    rw[List.getElem?_replicate] at h2;split at h2 <;> cases h2
  let ha:vs[i]?=some v:=by
   unfold start at h2;rw[wq (by simpa using hi),zL] at h2;cases e:vs[i]? with
   | none=>rw[e] at h2;cases h2
   | some a=>rw[e] at h2;cases h2;rfl
  let⟨u,hu,rv⟩:=r.get ha;let hp:ps[i]?=some y:=by
   rw[<-S.pre,List.getElem?_take_of_lt ()];exact h1
  let ndP:ps.Nodup:=by rw[<-S.pre];exact S.nd.sublist (List.take_sublist _ _)
  refine{u,rv,?_};rcases S.par y (zD hp) with k | k
  ·exact .inl {k,Es ndP hp hu k}
  ·let⟨c,e⟩:=Jk (n:=↑s+1) k
   refine .inr {.inl k,c,e,?_};let q:=x.cell y c e;rw[Eu ndP hp hu (by show scope.names.lookup y≠_;rw[k];decide)] at q;exact q
 ·exact e0.bV.fresh (yi (x.above y c (wt h)))
 ·unfold start
  show _=N.length;rw[zj,zd,List.length_replicate];ext
def PX {CX:GP} {P:vo} {w:vq} {K:yE} {mg:Str->Option vm} {base:vx} {k:Nat} {f:vw} {name qual:Str} {params:Arguments} {body:List Stmt} {scope:Scope} {dV kV doc pm cdv ct oc:vm} {an od:Option vw}
  {osl:Array (Option vm)} {N ps:List Str} {sp:Sp} (lk:K.lookup f=some {oc,od,.func (PySem.W.fnOf name qual params body scope dV kV doc pm an cdv ct),osl}) (hcd:PySem.W.codeIn K cdv qual=true) (S:d6 N ps scope)
  (len:∀vs H Q E,sp vs H Q E->⇑vs=⇑ps)
  (hbody:∀(A:vt) (outer:List Env) (s:vn) (H:Hp) (vs:List V) (Q:VK) (E:XK),eT k (A.deeper (envOfC qual scope ↑s f cdv))->sp vs H Q E->
   ∃t,Ce (gX CX P w K mg base N qual scope f cdv A outer s H E) body t/\t {nx:=λ_ H'=>Q .bQ H',rt:=Q} (start N vs) H) :
  cO P w K mg base CX (k+1) f (PySem.W.fnOf name qual params body scope dV kV doc pm an cdv ct) ps sp:=by
 refine{len,λA outer s H args us vs Q E hr e0 hb r hsp=>?_};let hl:=len _ _ _ _ hsp;let KX:K.In s.heap:=e0.mod.Qy.keeps λb o e=>(e0.bs b o e).1;let lim:s.heap.NoLimit:=e0.mod.nolimit.keeps λb o e=>(e0.bs b o e).1;let hkind:∀y∈ps.zip us,scope.names.lookup y.1=some .local\/(scope.names.lookup y.1=some .cell/\((cellsFrom (↑s+1) scope.names []).lookup y.1).isSome=true):=λ⟨n,v⟩ hy=>by
  rcases S.par n (wz hy).1 with q | q
  ·exact .inl q
  ·exact .inr {q,PySem.W.cellsFrom_some _ _ _ (.inl q)}
 refine codeAny_call_function hr.depth (KX _ _ lk) rfl S.co S.gen rfl (PySem.W.codeRec_of KX hcd) (hb _ _ _ _ ?_);refine wpAny_newFunctionEnv_cells S.kind hkind λenv he s1 x=>?_;subst he;refine{lim.keeps x.toInCall.keep,codeAny_func ?_};let⟨t,ht,hq⟩:=hbody A outer s H vs Q E (hr.deeper _) hsp;let I:Inv (gX CX P w K mg base N qual scope f cdv A outer s H E) [] (start N vs) H s1:=Nb S hr.hd e0 hl r x;refine xc (ht s1 (start N vs) H _ I hq) (λfl s' hs=>?_) λe s' hs=>hs;let fin:∀{σ':St} {H':Hp} {v:V} {u:vm},Inv (gX CX P w K mg base N qual scope f cdv A outer s H E) [] σ' H' s'->RelV v u->Q v H'->CE outer P w H s Q u s':=
  λ{σ' H' v u} J rv q=>{(v),H',J.os,J.bare,J.base,J.bV,rv,q}
 cases fl with
 | ret u=>
  let⟨v,σ',H',J,rv,q⟩:=hs;exact fin J rv q
 | next=>
  let⟨σ',H',J,q⟩:=hs;exact fin (v:=V.bQ) (u:=Value.none) J rfl q
 | brk=>
  let⟨_,_,_,q⟩:=hs;exact False.elim q
 | cont=>
  let⟨_,_,_,q⟩:=hs;exact False.elim q
end L2
namespace L2
open PySem PySem.Spec PyProof.Rows
section
variable {X:Cx} {x:Str} {p pos:Pos} {e:Expr} {es:List Expr} {t:TA} {id T:String} {r:List V->Hp->VK->Prop}
def EL (r:List V->Hp->VK->Prop) (t:TA):TE:=λσ H Q=>t σ H λvs H1=>r vs H1 Q
def HV (hc:fb X (.builtin id) r) (hg:Gl X x) (hm:X.mg x=none) (hv:bootBuiltins x=some (.builtin id)) (ha:PA X (e::es) t) (hn:x≠ "__name__"<|>qb_) (hdb:(x == ("__debug__": Str))=false<|>qb_)
  (he:starEach (e::es) X.env=(false,eval e X.env)::starEach es X.env<|>qe_) (hpl:(backTo pos (starEach es X.env)).any (·.1)=false<|>qe_):PE X (.Call (.Name x p) (e::es) [] pos) (EL r t):=by
 intro pins s σ H Q I h;refine xq (lB I hg hm hv ?_ hn hdb);refine PyProof.Rows.callWith_builtin1 (cJ (ha s σ H _ I h) λus s1 z0=>?_) he hpl;let⟨vs,H1,I1,r1,q1⟩:=z0;exact hc pins s1 σ H1 vs us Q I1 r1 q1
def M0 (hc:fb X (.type T) r) (hg:Gl X x) (hm:X.mg x=none) (hv:bootBuiltins x=some (.type T)) (ha:PA X (e::es) t) (hn:x≠ "__name__"<|>qb_) (hdb:(x == ("__debug__": Str))=false<|>qb_)
  (he:starEach (e::es) X.env=(false,eval e X.env)::starEach es X.env<|>qe_) (hpl:(backTo pos (starEach es X.env)).any (·.1)=false<|>qe_):PE X (.Call (.Name x p) (e::es) [] pos) (EL r t):=by
 intro pins s σ H Q I h;refine xq (lB I hg hm hv ?_ hn hdb);refine yP (cJ (ha s σ H _ I h) λus s1 z0=>?_) he hpl;let⟨vs,H1,I1,r1,q1⟩:=z0;exact hc pins s1 σ H1 vs us Q I1 r1 q1
end
end L2
namespace HT
open PySem PyProof.Rows
section
open PySem.SeqAt
open PySem.AutoSeq1 (wpAny_loadPart')
open PySem.MeetsSeq PySem.MeetsSeq2 PySem.MeetsSeq3
end
section
variable {prog:vo} {w:vq} {A:vt} {E:vm->vn->Prop} {s:vn}
noncomputable def eU (n d:Nat):Option Int->Nat
 | none=>d
 | some v=>if v<0 then(v+(n:Int)).toNat else min v.toNat n
def qt (n d:Nat):eU n d none=d:=rfl
def SX (n d:Nat) (hd:d<=n) (o:Option Int):eU n d o<=n:=by
 cases o with
 | none=>exact hd
 | some v=>
  show(if v<0 then(v+(n:Int)).toNat else min v.toNat n)<=n
  by_cases hv:v<0
  ·rw[yR hv];ext
  ·rw[yQ hv];exact Nat.min_le_right _ _
def Mf (v:Int) (n d:Nat):(if v<0 then max (v+(n:Int)) 0 else min v (n:Int))=((eU n d (some v):Nat):Int):=by
 show(if v<0 then max (v+(n:Int)) 0 else min v (n:Int))=(((if v<0 then(v+(n:Int)).toNat else min v.toNat n):Nat):Int)
 by_cases hv:v<0
 ·simp only[yR hv];ext
 ·simp only[yQ hv];ext
def Lb (lo hi:Option Int) (n:Nat):Builtin.Slice.sliceAdjust lo hi 1 (n:Int)=(((eU n 0 lo:Nat):Int),((eU n n hi:Nat):Int)):=by
 let h1:¬((1:Int)<0):=()
 unfold Builtin.Slice.sliceAdjust;simp only[h1,wu];refine Prod.ext ?_ ?_
 ·cases lo with
  | none=>rfl
  | some v=>exact Mf v n 0
 ·cases hi with
  | none=>rfl
  | some v=>exact Mf v n n
def Kh (i j:Nat):Builtin.Slice.slicePlaces (i:Int) (j:Int) 1=j-i:=by
 unfold Builtin.Slice.slicePlaces;let h1:(1:Int)>0:=()
 simp only[h1,w8,Int.ediv_one];split <;> ext
def An (p:IsPart v o) (h:Q o s):wpAny (model prog w) A (Builtin.Slice.slicePartIndex v) Q E s:=by
 cases p with
 | none=>exact slicePart_none h
 | int i t=>exact slicePart_int h
def ku {sl:vw} {vl vu:vm} {lo hi:Option Int} {n:Nat} {Q:Int×Int×Nat->vn->Prop} (hs:s.heap.IsSliceOf sl vl vu .none) (pl:IsPart vl lo) (pu:IsPart vu hi)
  (h:Q (((eU n 0 lo:Nat):Int),1,eU n n hi-eU n 0 lo) s):wpAny (model prog w) A (Builtin.Slice.sliceApplied (.ref sl) (pure (n:Int))) Q E s:=by
 let⟨os,hos,hcs,hds⟩:=id hs;unfold Builtin.Slice.sliceApplied Builtin.Slice.sliceFields;refine yx (yx (y7 hos hds (x:=vl) rfl (yx (y7 hos hds (x:=vu) rfl (yx (y7 hos hds (x:=.none) rfl (yz ?_)))))));refine yx (slicePart_none ?_);show wpAny _ _ (if((1:Int) == 0)=true then _ else _) _ _ s;rw[yQ ∅];refine yx (An pl (yx (An pu (yx (yz ?_)))));show wpAny _ _ (match Builtin.Slice.sliceAdjust lo hi 1 (n:Int) with | (lo,hi)=>pure (lo,(1:Int),Builtin.Slice.slicePlaces lo hi 1)) _ _ s;rw[Lb lo hi n];show wpAny _ _ (pure (((eU n 0 lo:Nat):Int),(1:Int),Builtin.Slice.slicePlaces ((eU n 0 lo:Nat):Int) ((eU n n hi:Nat):Int) 1)) _ _ s;rw[Kh];exact yz h
def OZ (xs:Array vm) (i k:Nat):((List.range k).filterMap λ(m:Nat)=>xs[((i:Int)+(m:Int)*1).toNat]?).toArray=((xs.toList.drop i).take k).toArray:=by
 let e:(λ(m:Nat)=>xs[((i:Int)+(m:Int)*1).toNat]?)=λm=>xs[i+m]?:=by
  funext m
  have:((i:Int)+(m:Int)*1).toNat=i+m:=()
  rw[this]
 rw[e];have:=pick_run xs i k;rw[List.filterMap_map] at this;let e2:((λx=>xs[x]?)∘λx=>i+x)=λm=>xs[i+m]?:=rfl;rw[e2] at this;rw[this]
def qW {t sl:vw} {items:Array vm} {vl vu:vm} {lo hi:Option Int} {Q:vm->vn->Prop} (ht:IsTup s.heap t items) (hs:s.heap.IsSliceOf sl vl vu .none) (pl:IsPart vl lo) (pu:IsPart vu hi)
  (hw:¬(eU items.size 0 lo=0/\eU items.size items.size hi=items.size))
  (h:Q (.ref ↑s) {s with heap:=s.heap.push {cls:=.type "tuple",data:=.seq ((items.toList.drop (eU items.size 0 lo)).take (eU items.size items.size hi-eU items.size 0 lo)).toArray}})
  (hsz:items.size<=sizeLine):wpAny (model prog w) A (getItem (.ref t) (.ref sl)) Q E s:=by
 let htake:sizeOk (.seq ((items.toList.drop (eU items.size 0 lo)).take (eU items.size items.size hi-eU items.size 0 lo)).toArray):=by
  show((items.toList.drop (eU items.size 0 lo)).take (eU items.size items.size hi-eU items.size 0 lo)).toArray.size<=sizeLine;rw[yb,zR,xC,yT];ext
 let hj:eU items.size items.size hi<=items.size:=SX _ _ (zp _) hi;let⟨os,hos,hcs,hds⟩:=id hs;let hTs:s.TypeIs (.ref sl) "slice":={(os),hos,hcs}
 unfold getItem
 try with_reducible refine xI ?_
 first | refine yx (yz ?_) | skip
 refine yx (wpAny_sequenceKey ht.typeIs ∅ ?_);refine yx (y4 (name:=Str.ofString "__getitem__") ht.typeIs xO
  (y9 xO ht.typeIs entry_tuple_getitem ?_ (args_tuple_getitem _ _)))
 show wpAny _ _ (Builtin.Tuple.tupleItemsOf (.ref t) >>= _) _ _ s;refine yx (tupleItemsOf_ ht ?_);refine yx (w9 hTs ?_);rw[yR ∅];refine yx (ku hs pl pu ?_);let hno:¬((((eU items.size 0 lo:Nat):Int) == 0&&(1:Int) == 1&&(eU items.size items.size hi-eU items.size 0 lo) == items.size)=true):=by
  intro q;rw[zP,zP] at q;let q1:((eU items.size 0 lo:Nat):Int)=0:=eq_of_beq q.1.1;let q2:eU items.size items.size hi-eU items.size 0 lo=items.size:=eq_of_beq q.2;exact hw {(()),()}
 show wpAny _ _ (if(((eU items.size 0 lo:Nat):Int) == 0&&(1:Int) == 1&&(eU items.size items.size hi-eU items.size 0 lo) == items.size)=true then _ else _) _ _ s;rw[yQ hno,OZ]
 first
  | exact yx (m:=Builtin.Tuple.tupleExact _) (xb (yz {_,rfl,yz h}) htake)
  | exact yx (m:=Builtin.Tuple.tupleExact _) (xb (yx (yz (yz {_,rfl,yz h}))) htake)
  | exact yx (yx (m:=Builtin.Tuple.tupleExact _) (xb (yz (yz {_,rfl,yz h})) htake))
  | exact yx (yx (m:=Builtin.Tuple.tupleExact _) (xb (yz {_,rfl,yz h}) htake))
end
end HT
namespace L2
open PySem PySem.Spec PyProof.Rows
abbrev TO:=St->Hp->(Option Int->Hp->Prop)->Prop
def PO (X:Cx) (e:Option Expr) (t:TO):Prop:=
 ∀(pins:List (vw×Obj)) (s:vn) (σ:St) (H:Hp) (Q:Option Int->Hp->Prop),Inv X pins σ H s->t σ H Q->
  wpAny (model X.prog X.w) X.A (evalPart e X.env) (λu s'=>∃o H',Inv X pins σ H' s'/\IsPart u o/\Q o H') X.xe s
def EJ:TO:=λ_ H Q=>Q none H
def Ol (t:TE):TO:=λσ H Q=>t σ H λx H1=>∃i,x=.int i/\Q (some i) H1
def intsAre_of:∀{us:List vm},Vals (ns.map V.int) us->IntsAre us ns:=by
 induction ns with
 | nil=>intro us r;rw[yq] at r;cases r;exact .nil
 | cons n ns ih=>
  intro us r;rw[zk] at r;cases r with
  | cons r1 r2=>
   let⟨t,e⟩:=r1;subst e;exact .cons n t (ih r2)
section
variable {X:Cx} {e:Expr} {te:TE} {lo hi:Option Expr} {tl th:TO} {pos p2:Pos}
def eX:PO X none EJ:=by
 intro pins s σ H Q I h;rw[evalPart_none];exact yz {none,H,I,.none,h}
def eW (h:PE X e te):PO X (some e) (Ol te):=by
 intro pins s σ H Q I hw;rw[evalPart_some];refine cJ (h s σ H _ I hw) λu s1 z0=>?_;let⟨x,H1,I1,r1,q1⟩:=z0;let⟨i,rfl,q⟩:=q1;let⟨t,rfl⟩:=r1;exact{some i,H1,I1,.int i t,q}
def Qo (X:Cx) (r:V->Option Int->Option Int->Hp->VK->Prop):Prop:=
 ∀(pins:List (vw×Obj)) (s:vn) (σ:St) (H:Hp) (x:V) (v vl vu:vm) (lo hi:Option Int) (sl:vw) (Q:VK),Inv X pins σ H s->RelV x v->s.heap.IsSliceOf sl vl vu .none->IsPart vl lo->IsPart vu hi->r x lo hi H Q->
  ∃T id,typeLookup (.type T) "__getitem__"= pure (some (.builtin id))/\s.TypeIs v T/\wpAny (model X.prog X.w) X.A (getItem v (.ref sl)) (EP X pins σ Q) X.xe s
def Qo.or (h:Qo X r) (h':Qo X r'):Qo X (λx lo hi H Q=>r x lo hi H Q\/r' x lo hi H Q):=by
 intro pins s σ H x v vl vu lo hi sl Q I rx hs pl pu q;rcases q with q | q
 ·exact h pins s σ H x v vl vu lo hi sl Q I rx hs pl pu q
 ·exact h' pins s σ H x v vl vu lo hi sl Q I rx hs pl pu q
def Wi (r:V->Option Int->Option Int->Hp->VK->Prop) (te:TE) (tl th:TO):TE:=λσ H Q=>te σ H λx H1=>tl σ H1 λl H2=>th σ H2 λu H3=>r x l u H3 Q
def dS (hr:Qo X r) (he:PE X e te) (hl:PO X lo tl) (hu:PO X hi th):PE X (.Subscript e (.Slice lo hi none p2) pos) (Wi r te tl th):=by
 intro pins s σ H Q I h;refine Subscript_ (cJ (he s σ H _ I h) λv s1 z0=>?_);let⟨x,H1,I1,r1,q1⟩:=z0;refine wpAny_Slice (cJ (hl pins s1 σ H1 _ I1 q1) λvl s2 z0=>?_);let⟨l,H2,I2,pl,q2⟩:=z0;refine cJ (hu pins s2 σ H2 _ I2 q2) λvu s3 z1=>?_;let⟨u,H3,I3,pu,q3⟩:=z1;rw[evalPart_none];refine yz ?_;let I4:Inv X pins σ H3 {s3 with heap:=s3.heap.push {cls:=.type "slice",data:=.fields #[vl,vu,.none]}}:=I3.kept (t':=s3.toks) λb ob q=>yy _ q;let⟨T,id,hT,ht,hg⟩:=hr pins {s3 with heap:=s3.heap.push {cls:=.type "slice",data:=.fields #[vl,vu,.none]}} σ H3 x v vl vu l u ↑s3 Q I4 r1 (Heap.IsSliceOf.new ..) pl pu q3;show wpAny (model X.prog X.w) X.A (subscriptTail e (.Slice lo hi none p2) v (.ref ↑s3)) (EP X pins σ Q) X.xe {s3 with heap:=s3.heap.push {cls:=.type "slice",data:=.fields #[vl,vu,.none]}};exact tail_any (ops:=[.ref ↑s3,v]) ht hT hg (by with_unfolding_all rfl)
noncomputable def iR (xs:List V) (lo hi:Option Int):List V:=(xs.drop (HT.eU ⇑xs 0 lo)).take (HT.eU ⇑xs ⇑xs hi-HT.eU ⇑xs 0 lo)
def ud (xs:List V) (lo hi:Option Int):⇑(iR xs lo hi)<=⇑xs:=by
 unfold iR;rw[zR,xC];ext
def UR (K:yE):V->Option Int->Option Int->Hp->VK->Prop:=λx lo hi H Q=>∃a xs,x=.ref a/\mI K H a xs/\
 ¬(HT.eU ⇑xs 0 lo=0/\HT.eU ⇑xs ⇑xs hi=⇑xs)/\∀p,H p=none->Q (.ref p) (upd H p (.tup (iR xs lo hi)))
def SV:Qo X (UR X.K):=by
 intro pins s σ H x v vl vu lo hi sl Q I rx hs pl pu h;let⟨a,xs,rfl,hx,hw,q⟩:=h;cases rx;let⟨its,r,ht,hz⟩:=I.tuple hx;let hlen:its.toArray.size=⇑xs:=by rw[yb];exact r.length.symm
 refine{"tuple",_,xO.lookup,ht.typeIs,?_};refine HT.qW ht hs pl pu (by rw[hlen];exact hw) ?_ (by rw[hlen];exact hz);rw[hlen];refine{.ref ↑s,_,I.laid (t':=s.toks) (o:=.tup (iR xs lo hi)) (λb ob q=>yy _ q) (zp _) ?_,rfl,q _ (I.bV.fresh (zp _))};exact{zN (ud xs lo hi) hz,_,(r.drop (HT.eU ⇑xs 0 lo)).take (HT.eU ⇑xs ⇑xs hi-HT.eU ⇑xs 0 lo),IsTup.new _ _}
end
end L2
namespace L2
open PySem PySem.Spec PyProof.Rows
noncomputable def R8 (n:Nat) (i:Int):Option Nat:=if 0<=i then(if i<n then some i.toNat else none) else if -(n:Int)<=i then some (i+n).toNat else none
noncomputable def tm (xs:List α) (i:Int):Option α:=(R8 ⇑xs i).bind λj=>xs[j]?
def Rt (h:R8 n i=some j):seqIndex? i n=some j/\j<n/\-(n:Int)<=i/\i<n:=by
 unfold R8 at h
 by_cases h0:0<=i
 ·rw[yR h0] at h
  by_cases h1:i<n
  ·rw[yR h1] at h
   let e:i.toNat=j:=ym h;exact{by rw[seqIndex_of h0 h1,e],(),(),h1}
  ·rw[yQ h1] at h;cases h
 ·rw[yQ h0] at h
  by_cases h1:-(n:Int)<=i
  ·rw[yR h1] at h
   let e:(i+n).toNat=j:=ym h;exact{by rw[seqIndex_neg () h1,e],(),h1,()}
  ·rw[yQ h1] at h;cases h
def Gp (h:tm xs i=some v):∃j,seqIndex? i ⇑xs=some j/\xs[j]?=some v/\j<⇑xs/\-(⇑xs:Int)<=i/\i<⇑xs:=by
 unfold tm at h;cases e:R8 ⇑xs i with
 | none=>rw[e] at h;cases h
 | some j=>
  rw[e] at h;let⟨h1,h2,h3,h4⟩:=Rt e;exact{(j),h1,h,h2,h3,h4}
def bz {α:Type} {xs:List α} {j:Nat} {v:α} (h:xs[j]?=some v):tm xs (j:Int)=some v:=by
 let hj:j<⇑xs:=(zA.mp h).1;let e:R8 ⇑xs (j:Int)=some j:=by
  unfold R8;rw[yR (),yR ()];simp
 unfold tm;rw[e];exact h
def BV (xs:List α) (v:α):tm (xs++[v]) (-1)=some v:=by
 let hl:⇑(xs++[v])=⇑xs+1:=by simp
 let e:R8 ⇑(xs++[v]) (-1)=some ⇑xs:=by
  unfold R8;rw[hl,yQ ∅,yR ()]
  congr 1
  ext
 unfold tm;rw[e];show(xs++[v])[⇑xs]?=some v;simp
def rJ (b:Expr):Prop:=∀o i,subscripted b false o i=operate [o,i] (getItem o i)
def VJ (X:Cx) (r:R2):Prop:=
 ∀(value slice:Expr) (pins:List (vw×Obj)) (s:vn) (σ:St) (H:Hp) (x y:V) (v u:vm) (Q:VK),Inv X pins σ H s->RelV x v->RelV y u->r x y H Q->
  subscripted slice false v u=operate [v,u] (getItem v u)->wpAny (model X.prog X.w) X.A (subscriptTail value slice v u) (EP X pins σ Q) X.xe s
def XO (X:Cx) (id:String) (r:V->List V->Hp->VK->Prop):Prop:=
 ∀(pins:List (vw×Obj)) (s:vn) (σ:St) (H:Hp) (x:V) (xs:List V) (v:vm) (us:List vm) (Q:VK),Inv X pins σ H s->RelV x v->Vals xs us->r x xs H Q->
  wpAny (model X.prog X.w) X.A (call (.builtin id) (v::us)) (EP X pins σ Q) X.xe s
section
variable {X:Cx} {a b:Expr} {ta tb:TE} {pos:Pos}
def AS (hr:VJ X r) (ha:PE X a ta) (hb:PE X b tb) (hs:rJ b):PE X (.Subscript a b pos) (cP r ta tb):=by
 intro pins s σ H Q I h;exact Subscript_ (Ub ha hb I h λv u s2 x y H2 I2 rx ry q=>hr a b pins s2 σ H2 x y v u Q I2 rx ry q (hs _ _))
inductive qC (K:yE) (x y:V) (H:Hp) (Q:VK):Prop
 | mk (p:vw) (xs:List V) (i:Int) (v:V) (_:x=.ref p) (_:y=.int i) (_:fM K H p xs) (_:tm xs i=some v) (_:Q v H)
inductive mE (K:yE) (x y:V) (H:Hp) (Q:VK):Prop
 | mk (p:vw) (xs:List V) (i:Int) (v:V) (_:x=.ref p) (_:y=.int i) (_:mI K H p xs) (_:tm xs i=some v) (_:Q v H)
def Q7:R2:=λx y H Q=>∃z i c,x=.str z/\y=.int i/\⇑z<=sizeLine/\tm z.cps.toList i=some c/\Q (.str {#[c]}) H
def LV:VJ X (qC X.K):=by
 intro value slice pins s σ H x y v u Q I rx ry h hs;let⟨p,xs,i,z,rfl,rfl,hq,he,q⟩:=h;cases rx;let⟨t,rfl⟩:=ry;let⟨its,r,pl,hz⟩:=I.list hq;let⟨j,h1,h2,h3,h4,h5⟩:=Gp he;let⟨w,ew,rw'⟩:=r.get h2;let hl:=⇑r;let hn:=Bg;let fin:EP X pins σ Q w s:={(z),H,I,rw',q}
 by_cases h0:0<=i
 ·let hj:i.toNat=j:=by
   rw[seqIndex_of h0 h5] at h1;exact ym h1
  exact item_listR pl.isList h0 () (by rw[hj];simpa using ew) fin hs
 ·let hj:(i+(its.toArray.size:Int)).toNat=j:=by
   rw[seqIndex_neg () h4] at h1;rw[yb,<-hl];exact ym h1
  exact subscriptTail_builtinR (x:=w) pl.isList.typeIs slot_list_getitem.lookup
   (wpAny_getItem_list_neg (Q:=λr s'=>r=w/\EP X pins σ Q r s') pl.isList () (by rw[yb] <;> ext) () (by rw[hj];simpa using ew) {(rfl),fin}) hs
def TF:VJ X (mE X.K):=by
 intro value slice pins s σ H x y v u Q I rx ry h hs;let⟨p,xs,i,z,rfl,rfl,hq,he,q⟩:=h;cases rx;let⟨t,rfl⟩:=ry;let⟨its,r,pl,hz⟩:=I.tuple hq;let⟨j,h1,h2,h3,h4,h5⟩:=Gp he;let⟨w,ew,rw'⟩:=r.get h2;let hl:=⇑r;let hn:=Bg;let fin:EP X pins σ Q w s:={(z),H,I,rw',q}
 exact subscriptTail_builtinR (x:=w) pl.typeIs slot_tuple_getitem.lookup
  (getItem_tuple (j:=j) (Q:=λr s'=>r=w/\EP X pins σ Q r s') pl () () (by rw[yb,<-hl];exact h1) (by simpa using ew) {(rfl),fin}) hs
def FN:VJ X Q7:=by
 intro value slice pins s σ H x y v u Q I rx ry h hs;let⟨z,i,c,rfl,rfl,hz,he,q⟩:=h;let⟨t,rfl⟩:=rx;let⟨t',rfl⟩:=ry;let⟨j,h1,h2,h3,h4,h5⟩:=Gp he;let hl:⇑z.cps.toList=⇑z:=by simp[Str.length]
 rw[hl] at h1 h4 h5;let hn:=Bg;exact tail_any (wO s z t) slot_str_getitem.lookup (getItem_str (c:=c) (by
  let e1:decide (i < -(2^63:Int))=false:=zg ();let e2:decide (i≥2^63)=false:=zg ();rw[e1,e2,Bool.or_false]) (by rw[h1];simpa using h2) {.str {#[c]},H,I.tok _,{_,rfl},q}) hs
def E2 (lo hi:Option Int) (n:Nat):(sliceBounds lo hi none n).1=((HT.eU n 0 lo:Nat):Int)/\(sliceBounds lo hi none n).2.1=((HT.eU n n hi:Nat):Int)/\(sliceBounds lo hi none n).2.2=1:=by
 refine{?_,?_,rfl}
 ·cases lo with
  | none=>simp[sliceBounds,HT.eU]
  | some i=>
   simp only[sliceBounds,HT.eU,Option.getD_none,show(1:Int)>0 by decide,w8]
   by_cases h:i<0
   ·simp only[h,w8] <;> ext
   ·simp only[h,wu] <;> ext
 ·cases hi with
  | none=>simp[sliceBounds,HT.eU]
  | some i=>
   simp only[sliceBounds,HT.eU,Option.getD_none,show(1:Int)>0 by decide,w8]
   by_cases h:i<0
   ·simp only[h,w8] <;> ext
   ·simp only[h,wu] <;> ext
def Cu (its:List vm) (lo hi:Option Int):slicePick its.toArray lo hi none=((its.drop (HT.eU ⇑its 0 lo)).take (HT.eU ⇑its ⇑its hi-HT.eU ⇑its 0 lo)).toArray:=by
 let⟨h1,h2,h3⟩:=E2 lo hi its.toArray.size;unfold slicePick;rw[h1,h2,h3];simp only[sliceRange_one,pick_run,yb] <;> rfl
def Ws (K:yE):V->Option Int->Option Int->Hp->VK->Prop:=λx lo hi H Q=>∃a xs,x=.ref a/\fM K H a xs/\∀p,H p=none->Q (.ref p) (upd H p (.lst (iR xs lo hi)))
def iF:Qo X (Ws X.K):=by
 intro pins s σ H x v vl vu lo hi sl Q I rx hs pl pu h;let⟨a,xs,rfl,hx,q⟩:=h;cases rx;let⟨its,r,ht,hz⟩:=I.list hx;let hlen:=⇑r;refine{"list",_,slot_list_getitem.lookup,ht.isList.typeIs,?_};refine wpAny_getItem_list_slice ht.isList hs pl pu .none (by simp) ?_ (by rw[yb] <;> ext);rw[Cu,<-hlen];refine{.ref ↑s,_,I.laid (t':=s.toks) (o:=.lst (iR xs lo hi)) (λb ob q=>yy _ q) (zp _) ?_,rfl,q _ (I.bV.fresh (zp _))};exact{zN (ud xs lo hi) hz,_,0,(r.drop (HT.eU ⇑xs 0 lo)).take (HT.eU ⇑xs ⇑xs hi-HT.eU ⇑xs 0 lo),yA _ rfl}
noncomputable def mm:V->Bool
 | .bQ=>true
 | .bl _=>true
 | .int _=>true
 | .str _=>true
 | _=>false
noncomputable def RB:V->V->Bool
 | .bQ,.bQ=>true
 | .bl a,.bl b=>a == b
 | .bl a,.int b=>(if a then 1 else 0) == b
 | .int a,.bl b=>a == (if b then 1 else 0)
 | .int a,.int b=>a == b
 | .str a,.str b=>a == b
 | _,_=>false
def P6 (ry:RelV y u) (rx:RelV x v) (fy:mm y=true) (fx:mm x=true):SeqAt.EqAt A s u v (RB y x):=by
 cases y with
 | bQ=>
  cases ry;cases x with
  | bQ=>cases rx;exact SeqAt.EqAt.same _
  | bl b=>cases rx;exact SeqAt.EqAt.none_bool b
  | int b=>let⟨t,rfl⟩:=rx;exact SeqAt.EqAt.none_int b t
  | str b=>let⟨t,rfl⟩:=rx;exact SeqAt.EqAt.none_str b t
  | _=>exact absurd (show false=true from fx) zM
 | bl a=>
  cases ry;cases x with
  | bQ=>cases rx;exact SeqAt.EqAt.bool_none a
  | bl b=>cases rx;exact SeqAt.EqAt.bool_bool a b
  | int b=>let⟨t,rfl⟩:=rx;exact SeqAt.EqAt.bool_int a b t
  | str b=>let⟨t,rfl⟩:=rx;exact SeqAt.EqAt.bool_str a b t
  | _=>exact absurd (show false=true from fx) zM
 | int a=>
  let⟨t',rfl⟩:=ry;cases x with
  | bQ=>cases rx;exact SeqAt.EqAt.int_none a t'
  | bl b=>cases rx;exact SeqAt.EqAt.int_bool a t' b
  | int b=>let⟨t,rfl⟩:=rx;exact SeqAt.EqAt.int_int a t' b t
  | str b=>let⟨t,rfl⟩:=rx;exact SeqAt.EqAt.int_str a t' b t
  | _=>exact absurd (show false=true from fx) zM
 | str a=>
  let⟨t',rfl⟩:=ry;cases x with
  | bQ=>cases rx;exact SeqAt.EqAt.str_none a t'
  | bl b=>cases rx;exact SeqAt.EqAt.str_bool a t' b
  | int b=>let⟨t,rfl⟩:=rx;exact SeqAt.EqAt.str_int a t' b t
  | str b=>let⟨t,rfl⟩:=rx;exact SeqAt.EqAt.str_str a t' b t
  | _=>exact absurd (show false=true from fx) zM
 | _=>exact absurd (show false=true from fy) zM
noncomputable def KL (x:V) (u:vm):Bool:=match u with
 | .none=>RB .bQ x
 | .bool b=>RB (.bl b) x
 | .int i _=>RB (.int i) x
 | .str z _=>RB (.str z) x
 | _=>false
def P5 (r:RelV y u) (f:mm y=true):KL x u=RB y x:=by
 cases y with
 | bQ=>cases r;rfl
 | bl b=>cases r;rfl
 | int i=>let⟨t,rfl⟩:=r;rfl
 | str z=>let⟨t,rfl⟩:=r;rfl
 | _=>exact absurd (show false=true from f) zM
theorem rE:∀{xs:List V} {us:List vm},Vals xs us->xs.all mm=true->us.any (KL x)=xs.any λy=>RB y x
 | _,_,.nil,_=>rfl
 | y::xs,u::us,.cons r t,f=>by
  rw[wV,zP] at f;rw[xt,xt,P5 r f.1,rE t f.2]
theorem ng (rx:RelV x v) (fx:mm x=true):∀{xs:List V} {us:List vm},Vals xs us->xs.all mm=true->∀u∈us,SeqAt.EqAt A s u v (KL x u)
 | _,_,.nil,_=>λu hu=>by cases hu
 | y::xs,u::us,.cons r t,f=>λu' hu=>by
  rw[wV,zP] at f;rcases zE.mp hu with rfl | hu
  ·rw[P5 r f.1];exact P6 r rx f.1 fx
  ·exact ng rx fx t f.2 u' hu
noncomputable def IA (x:V) (xs:List V):Bool:=xs.any λy=>RB y x
inductive Uk (K:yE) (neg:Bool) (x y:V) (H:Hp) (Q:VK):Prop
 | mk (p:vw) (xs:List V) (_:y=.ref p) (_:fM K H p xs\/mI K H p xs) (_:mm x=true) (_:xs.all mm=true) (_:Q (.bl (if neg then !IA x xs else IA x xs)) H)
def oh:nQ X (compareOp .In) (Uk X.K false):=by
 intro pins s σ H x y v u Q I rx ry h;let⟨p,xs,rfl,hq,fx,fs,q⟩:=h;cases ry;rcases hq with hq | hq
 ·let⟨its,r,pl,hz⟩:=I.list hq
  refine SeqAt.in_listAt (KL x) pl.isList (λw hw=>ng rx fx r fs w (by simpa using hw)) {.bl _,H,I,rfl,?_};rw[show its.toArray.any (KL x)=its.any (KL x) by simp,rE r fs];exact q
 ·let⟨its,r,pl,hz⟩:=I.tuple hq
  refine SeqAt.in_tupleAt (KL x) pl (λw hw=>ng rx fx r fs w (by simpa using hw)) {.bl _,H,I,rfl,?_};rw[show its.toArray.any (KL x)=its.any (KL x) by simp,rE r fs];exact q
def eY:nQ X (compareOp .NotIn) (Uk X.K true):=by
 intro pins s σ H x y v u Q I rx ry h;let⟨p,xs,rfl,hq,fx,fs,q⟩:=h;cases ry;rcases hq with hq | hq
 ·let⟨its,r,pl,hz⟩:=I.list hq
  refine SeqAt.notIn_listAt (KL x) pl.isList (λw hw=>ng rx fx r fs w (by simpa using hw)) {.bl _,H,I,rfl,?_};rw[show its.toArray.any (KL x)=its.any (KL x) by simp,rE r fs];exact q
 ·let⟨its,r,pl,hz⟩:=I.tuple hq
  refine SeqAt.notIn_tupleAt (KL x) pl (λw hw=>ng rx fx r fs w (by simpa using hw)) {.bl _,H,I,rfl,?_};rw[show its.toArray.any (KL x)=its.any (KL x) by simp,rE r fs];exact q
def ay:fb X (.builtin "len") (λxs H Q=>∃p ys,xs=[.ref p]/\(fM X.K H p ys\/mI X.K H p ys)/\Q (.int ⇑ys) H):=by
 intro pins s σ H xs us Q I r h;let⟨p,ys,rfl,hq,q⟩:=h;let⟨u,rfl,rx⟩:=vals1 r;cases rx;let hn:=Bg;rcases hq with hq | hq
 ·let⟨its,r',pl,hz⟩:=I.list hq
  let hlen:=⇑r';exact Calls.call_len_list pl.isList (by simp only[yb] <;> ext) {.int ⇑ys,H,I.tok _,{s.toks+1,by rw[yb,hlen]},q}
 ·let⟨its,r',pl,hz⟩:=I.tuple hq
  let hlen:=⇑r';exact len_tuple pl (by simp only[yb] <;> ext) {.int ⇑ys,H,I.tok _,{s.toks+1,by rw[yb,hlen]},q}
def gc:fb X (.builtin "len") (λxs H Q=>∃z,xs=[.str z]/\⇑z<=sizeLine/\Q (.int ⇑z) H):=by
 intro pins s σ H xs us Q I r h;let⟨z,rfl,hz,q⟩:=h;let⟨u,rfl,t,rfl⟩:=vals1 r;let hn:=Bg;exact len_str () {.int ⇑z,H,I.tok _,{_,rfl},q}
def rD:fb X (.type "list") (λxs H Q=>∃p ys,xs=[.ref p]/\(fM X.K H p ys\/mI X.K H p ys)/\∀l,H l=none->Q (.ref l) (upd H l (.lst ys))):=by
 intro pins s σ H xs us Q I r h;let⟨p,ys,rfl,hq,q⟩:=h;let⟨u,rfl,rx⟩:=vals1 r;cases rx;let fin:∀(its:List vm),Vals ys its->⇑ys<=sizeLine->∀(h':vx) (c':Nat),(∀b o',s.heap.get? b=some o'->h'.get? b=some o')->
   h'.get? ↑s=some {cls:=.type "list",dict:=none,data:=.seq its.toArray c',slots:=#[]}->EP X pins σ Q (.ref ↑s) {s with heap:=h'}:=λits r' hz h' c' kp e=>
  {.ref ↑s,_,I.laid (t':=s.toks) kp (zp _) (show b8 X.prog X.w _ h' _ (.lst ys) from{(hz),its,c',r',e}),rfl,q _ (I.bV.fresh (zp _))}
 rcases hq with hq | hq
 ·let⟨its,r',pl,hz⟩:=I.list hq
  let hlen:=⇑r';let⟨o,ho,hc,n,hd⟩:=pl.isList;exact call_list_seq p (.inl rfl) ho hc hd (λh' c' kp e=>fin its r' hz h' c' kp e) (by simp only[yb] <;> ext)
 ·let⟨its,r',pl,hz⟩:=I.tuple hq
  let hlen:=⇑r';let⟨o,ho,hc,n,hd⟩:=pl;exact call_list_seq p (.inr rfl) ho hc hd (λh' c' kp e=>fin its r' hz h' c' kp e) (by simp only[yb] <;> ext)
def dI:fb X (.type "tuple") (λxs H Q=>∃p ys,xs=[.ref p]/\((fM X.K H p ys/\∀l,H l=none->Q (.ref l) (upd H l (.tup ys)))\/(mI X.K H p ys/\Q (.ref p) H))):=by
 intro pins s σ H xs us Q I r h;let⟨p,ys,rfl,h⟩:=h;let⟨u,rfl,rx⟩:=vals1 r;cases rx;rcases h with⟨hq,q⟩ | ⟨hq,q⟩
 ·let⟨its,r',pl,hz⟩:=I.list hq
  let hlen:=⇑r';refine call_tuple_list pl.isList (λh' kp=>?_) (by simp only[yb] <;> ext);let I1:Inv X pins σ H {s with heap:=h'}:=I.kept (t':=s.toks) kp;let I2:Inv X pins σ (upd H h'.objs.size (.tup ys)) {s with heap:=h'.push {cls:=.type "tuple",data:=.seq its.toArray}}:=
   I1.laid (t':=s.toks) (λb o e=>yy _ e) (zp _) (show b8 X.prog X.w _ _ _ (.tup ys) from{hz,its,r',IsTup.new _ _})
  exact{.ref h'.objs.size,_,I2,rfl,q _ (I1.bV.fresh (zp _))}
 ·let⟨its,r',pl,hz⟩:=I.tuple hq
  exact call_tuple_same pl {.ref p,H,I,rfl,q}
def Wc (K:yE) (T:String) (x:V) (H:Hp):Prop:=match x with
 | .str _=>T ="str"
 | .int _=>T ="int"
 | .ref p=>(T ="list"/\∃xs,fM K H p xs)\/(T ="tuple"/\∃o,K.lookup p=some o/\o.cls=.type "tuple"/\o.dict=none)\/
   (T ="dict"/\((∃kvs,H p=some (.dK kvs))\/∃kvs,H p=some (.dT kvs)))\/(T ="set"/\∃S n,H p=some (.set S n))
 | _=>False
def Sx (I:Inv X pins σ H s) (r:RelV x v) (ty:Wc X.K T x H) :
  s.TypeIs v T/\∀a,v=.ref a->∃ob,s.heap.get? a=some ob/\ob.dict=none:=by
 cases x with
 | str z=>
  let⟨t,rfl⟩:=r;cases(show T ="str" from ty);exact{wO s z t,λ_ e=>nomatch e}
 | int i=>
  let⟨t,rfl⟩:=r;cases(show T ="int" from ty);exact{typeIs_int s i t,λ_ e=>nomatch e}
 | ref p=>
  cases r;rcases ty with⟨rfl,xs,hq⟩ | ⟨rfl,o,hk,hc,hd⟩ | ⟨rfl,hk⟩ | ⟨rfl,S,n,hk⟩
  ·let⟨its,_,pl,_⟩:=I.list hq
   refine{pl.isList.typeIs,λa e=>?_};cases e;let⟨o,n,e,c,hd,_⟩:=pl;exact{(o),e,hd}
  ·refine{{o,I.kc p o hk,hc},λa e=>?_}
   cases e;exact{o,I.kc _ o hk,hd}
  ·let z:∃o,s.heap.get? p=some o/\o.ExactDict:=by
    rcases hk with⟨kvs,hk⟩ | ⟨kvs,hk⟩
    ·let⟨_,_,_,_,o,_,_,e,ex,_⟩:=I.bV p _ hk
     exact{(o),e,ex}
    ·let⟨_,_,_,_,o,_,_,e,ex,_⟩:=I.bV p _ hk
     exact{(o),e,ex}
   let⟨o,e,ex⟩:=z;refine{{(o),e,ex.1},λa e2=>?_};cases e2;exact{(o),e,ex.2.1}
  ·let⟨o,_,_,_,e,ex,_⟩:=I.bV p _ hk
   refine{{(o),e,ex.1},λa e2=>?_};cases e2;exact{(o),e,ex.2.1}
 | _=>exact False.elim ty
def Qw (K:yE) (T:String) (r:V->List V->Hp->VK->Prop) (to:TE) (t:TA):TE:=λσ H Q=>to σ H λx H1=>Wc K T x H1/\t σ H1 λxs H2=>r x xs H2 Q
variable {o e:Expr} {es:List Expr} {to:TE} {t:TA} {name:Str} {apos cpos:Pos} {T id:String} {r:V->List V->Hp->VK->Prop}
def bK (pa:PlainAttrs T) (slot:Slot T name id) (hty:typeOf (.builtin id)=pure (.type "method_descriptor")) (hm:XO X id r) (ho:PE X o to) (ha:PA X (e::es) t)
  (hbase:attributeBase o name X.env (eval o X.env)=eval o X.env<|>qe_)
  (hfew:((backTo cpos (starEach (e::es) X.env)).all (λx=>!x.1)&&(backToKw cpos (keywordEach [] X.env)).all (λx=>x.1.isSome)
   &&decide (⇑(e::es)+⇑([]:List Keyword)+(if([]:List Keyword).isEmpty then 0 else 1)<30))=true<|>qe_)
  (hline:(apos.endLine == cpos.line)=true<|>qe_) (hs:starEach (e::es) X.env=(false,eval e X.env)::starEach es X.env<|>qe_) (hplain:(backTo cpos (starEach es X.env)).any (·.1)=false<|>qe_) :
  PE X (.Call (.Attribute o name apos) (e::es) [] cpos) (Qw X.K T r to t):=by
 intro pins s σ H Q I h;refine wpAny_Call_method_late hbase hfew hline rfl (cJ (ho s σ H _ I h) λv s1 z0=>?_);let⟨x,H1,I1,r1,ty,q1⟩:=z0;let⟨h1,h2⟩:=Sx I1 r1 ty;refine{T,id,pa,slot,hty,h1,h2,?_};let hA:=ha (pos:=cpos) s1 σ H1 _ I1 q1;rw[hs] at hA ⊢;refine wM (by show(false||(backTo cpos (starEach es X.env)).any (·.1))=false;rw[hplain] <;> rfl) (Calls.evalArgs_plain ?_);refine cJ hA λus s2 z0=>?_;let⟨vs,H2,I2,r2,q2⟩:=z0;exact hm pins s2 σ H2 x vs v us Q I2 r1 r2 q2
end
end L2
namespace L2
open PySem PySem.Spec PyProof.Rows
def Ug (X:Cx) (id:String) (r:V->List V->Hp->VK->Prop):Prop:=
 ∀(pins:List (vw×Obj)) (s:vn) (σ:St) (H:Hp) (x:V) (xs:List V) (v:vm) (us:List vm) (Q:VK),Inv X pins σ H s->RelV x v->Vals xs us->r x xs H Q->
  wpAny (model X.prog X.w) X.A (call (.builtin id) (v::us)) (EP X pins σ Q) X.xe s
def Vals.one {x:V} {us:List vm} (h:Vals [x] us):∃u,us=[u]/\RelV x u:=by
 cases h with
 | cons r t=>cases t;exact{_,rfl,r}
section
variable {X:Cx} {pins:List (vw×Obj)} {σ:St} {H:Hp} {s:vn} {l b:vw} {xs ys zs:List V}
def Inv.Tt {its its':List vm} {n:Nat} {f:Array vm->Array vm} {t':Nat} (I:Inv X pins σ H s) (hH:H l=some (.lst xs))
  (e:s.heap.get? l=some {cls:=.type "list",data:=.seq its.toArray n}) (hf:f its.toArray=its'.toArray) (hv:Vals ys its') (hz:⇑ys<=sizeLine) :
  Inv X pins σ (upd H l (.lst ys)) {s with heap:=s.heap.update l (Obj.mapSeq f),toks:=t'}:=by
 let q:=PySem.IsL.update e f;rw[hf] at q;refine I.write (x:=l) (e:=l) (by rw[hH];exact trivial) (.inl rfl) (λb' u hb hu=>(yC s.heap (Obj.mapSeq f) (Ne.symm hb)).trans hu) {_,q} ?_;exact{hz,its',_,hv,q}
def Inv.Tu (I:Inv X pins σ H s) (hv:Vals ys its) (hz:⇑ys<=sizeLine) :
  Inv X pins σ (upd H ↑s (.lst ys)) {s with heap:=s.heap.push {cls:=.type "list",data:=.seq its.toArray},toks:=t'}:=
 I.laid (λ_ _ q=>yy _ q) (zp _) {hz,its,0,hv,yA _ rfl}
theorem Inv.fresh (I:Inv X pins σ H s):H ↑s=none:=I.bV.fresh (zp _)
def Inv.Pp (I:Inv X pins σ H s) (hH:H l=some (.lst xs)):⇑xs<=sizeLine/\∃(its:List vm) (n:Nat),Vals xs its/\⇑xs=⇑its/\s.heap.get? l=some {cls:=.type "list",data:=.seq its.toArray n}:=by
 let⟨z,its,n,r,e⟩:=I.bV l _ hH;exact{(z),its,n,r,⇑r,e}
def A9 (h:n<=sizeLine):Builtin.List.listTooLong n=false:=by
 unfold Builtin.List.listTooLong;exact zg ()
end
section
variable {X:Cx}
inductive nY (x:V) (vs:List V) (H:Hp) (Q:VK):Prop
 | mk (l:vw) (xs:List V) (y:V) (_:x=.ref l) (_:vs=[y]) (_:H l=some (.lst xs)) (_:⇑xs<sizeLine) (_:Q .bQ (upd H l (.lst (xs++[y]))))
def bJ:Ug X "list.append" nY:=by
 intro pins s σ H x vs v us Q I rx rv h;let⟨l,xs,y,rfl,rfl,hH,hz,q⟩:=h;cases rx;let⟨u,rfl,ru⟩:=rv.one;let⟨z,its,n,r,hl,e⟩:=I.Pp hH;refine wB F.slot_list_append {_,e,rfl} F.entry_list_append (F.args_list_append_2 _ _) (PySem.list_append l its.toArray n u (by rw[yb];ext)) {e,?_};refine{.bQ,_,I.Tt (its':=its++[u]) hH e (by simp) (r.append (.cons ru .nil)) ?_,rfl,q};rw[zj,List.length_singleton];ext
inductive LK (x:V) (vs:List V) (H:Hp) (Q:VK):Prop
 | mk (l b:vw) (xs zs:List V) (_:x=.ref l) (_:vs=[.ref b]) (_:H l=some (.lst xs)) (_:H b=some (.lst zs)) (_:⇑xs+⇑zs<=sizeLine) (_:Q .bQ (upd H l (.lst (xs++zs))))
def M4:Ug X "list.extend" LK:=by
 intro pins s σ H x vs v us Q I rx rv h;let⟨l,b,xs,zs,rfl,rfl,hH,hB,hz,q⟩:=h;cases rx;let⟨u,rfl,ru⟩:=rv.one;cases ru;let⟨z,its,n,r,hl,e⟩:=I.Pp hH;let⟨z2,its2,n2,r2,hl2,e2⟩:=I.Pp hB;let hsz:its.toArray.size+its2.toArray.size<=sizeLine:=by rw[yb,yb];ext
 let hlong:¬(!its.toArray.isEmpty&&Builtin.List.listTooLong (its.toArray.size+its2.toArray.size))=true:=by
  rw[A9 hsz,wJ];exact zM
 refine wB F.slot_list_extend {_,e,rfl} F.entry_list_extend (F.args_list_extend_2 _ _)
  (AutoSeq1.list_extend_list_list_0 l its.toArray n b its2.toArray n2 hlong (by rw[yb];ext) ()) {e,e2,?_}
 refine{.bQ,_,I.Tt (its':=its++its2) hH e (by simp) (r.append r2) ?_,rfl,q};rw[zj];ext
end
section
variable {prog:vo} {w:vq} {A:vt} {E:vm->vn->Prop} {s:vn}
end
section
variable {X:Cx}
end
end L2
namespace Xj
open PySem PySem.W PySem.Calls PyProof.Rows
def uO:∀(ns:List Int) (vs:List vm),WellAll P h vs (ns.map WData.int)->IntsAre vs ns:=by
 intro ns
 induction ns with
 | nil=>
  intro vs w;rw[yq] at w;cases w;exact .nil
 | cons n ns ih=>
  intro vs w;rw[zk] at w;cases w with
  | cons a b=>
   cases a;exact .cons _ _ (ih _ b)
def MK {l:OpenLaw} {n:Nat} (hn:l.most=some n) {P:Params} {h:vx} {args:List WData} {vals:List vm}
  (hpre:l.row.toRowW.claim.pre args=true) (hwl:WellAll P h vals args) :
  ∃a vs ns,vals=[Value.ref a]/\args=[WData.list (ns.map WData.int)]/\h.get? a=some {cls:=.type "list",data:=.seq vs.toArray}/\IntsAre vs ns/\⇑ns<=n:=by
 let hsh:WShape.hasAll [] args [.list .int]=true:=(pre_splitW hpre).1;let hc:l.pre.holds [] {args:=args}=true:=(pre_splitW hpre).2;let⟨d,r,rfl,h1,h2⟩:=hasAllW_cons hsh;obtain rfl:=hasAllW_nil h2;let⟨xs,rfl,h3⟩:=hasW_list h1;let⟨ns,rfl⟩:=items_int h3;let hlen:⇑ns<=n:=by
  unfold OpenLaw.pre at hc;let h4:(WTm.not (.lt (.lit (.int (n:Int))) (.len (.arg 0)))).holds [] {args:=[.list (ns.map .int)]}=true:=by
   let h4:=(holds_andW hc).1;rw[hn] at h4;exact h4
  let h5:=condW_of h4 (w_not (w_lt w_lit (w_len_list (w_arg rfl))));rw[zd] at h5;refine Nat.le_of_not_lt λq=>?_;let q':(n:Int)<((⇑ns:Nat):Int):=()
  first
   | (rw[zh q'] at h5;exact absurd h5 ∅)
   | (simp at h5;ext)
 cases hwl with
 | cons w1 w2=>
  cases w2;cases w1 with
  | list ho hall=>exact{_,_,ns,rfl,rfl,ho,uO ns _ hall,hlen}
def MW (l:OpenLaw) (args:List WData):l.row.toRowW.claim.post args (.bool true) args=true:=
 postW_of (r:=l.row.toRowW) (X:=(true == true))
  (show WShape.has [] (.bool true) .bool=true by first | rfl | decide | simp[WShape.has,WShape.arms,WShape.armsAll])
  (show(WTm.eq .res (.lit (.bool true))).value [] {args:=args,res:=some (.bool true),after:=args}=some (.bool (true == true)) from w_eq_bool (w_res rfl) w_lit) rfl
def Jn {l:OpenLaw} {n:Nat} {q:vo} {loose:List Str} {XP:(Str->Option vm)->vx->Prop} {YP:vq->vx->Prop} {d:DefRec}
  (hn:l.most=some n) (hdf:d.params.defaults=[])
  (call:∀(w:vq) (s₀ s₁:vn) (mg mb:Str->Option vm) (fa:vw) (o:Obj) (pm cd doc:vm) (a:vw) (vs:List vm) (ns:List Int),
   Ground q loose [] XP w s₀ mg mb s₁.heap->YP w s₁.heap->
   s₁.heap.get? fa=some o->o.data=.func (docDef d.name d.params d.body d.scope pm cd doc)->s₁.heap.CodeRec cd d.name->mg d.name=some (.ref fa)->
   s₁.heap.get? a=some {cls:=.type "list",data:=.seq vs.toArray}->IntsAre vs ns->⇑ns<=n->s₁.gens=#[]->
   codeAny (model l.prog w) callerA (.call (.ref fa) {[.ref a],[]}) (λr s'=>r=.ok (.ret (.bool true))/\OldK s₁.heap s'.heap/\s'.os=s₁.os/\AllBare s'.gens) s₁) :
  WalkO q loose XP YP l.row.toRowW d [] (λf vs=>PySem.call f vs):=by
 intro w s₀ s₁ mg mb G Y fa o pm cd doc dV kV ho hd hcd hD hmg hg args vals as hpre hlay hrd hwl hlo;obtain rfl:dV=.none:=Dflts.none hD hdf;obtain rfl:kV=.none:=Dflts.noKw hD;let⟨a,vs,ns,rfl,rfl,hobj,hints,hlen⟩:=MK hn hpre hwl;refine enter_call (xS (call w s₀ s₁ mg mb fa o pm cd doc a vs ns G Y ho (fd_plain hd) hcd hmg hobj hints hlen hg) λr s' hq=>?_);let⟨rfl,h2,h3,h4⟩:=hq;exact{.inl {.bool true,.bool true,[],rfl,λ_=>rfl,.bool true,MW l _,λ_=>{List.Pairwise.nil,λ_ hm=>(nomatch hm)}},h2,h3,h4}
section
variable {prog:vo} {w:vq} {A:vt} {E:vm->vn->Prop} {s:vn} {K:Frag}
end
end Xj
namespace L2
open PySem PySem.Spec PyProof.Rows
theorem DC:∀{vs:List vm} {ns:List Int},IntsAre vs ns->Vals (ns.map V.int) vs
 | _,_,.nil=>.nil
 | _,_,.cons n t h=>.cons {(t),rfl} (DC h)
def Ud (H:Hp):Prop:=∀b,H b=none\/∃o xs,H b=some (.mG o (.lst xs))
def Py {P:vo} {w:vq} {K:yE} {mg mb:Str->Option vm} {CX:GP} {k:Nat} {fa a:vw} {fd:vv} {x:Str} {sp:Sp} {s₁:vn} {vs:List vm} {ns:List Int}
  (KX:K.In s₁.heap) (hns:s₁.heap.Ns mainGlobals mg) (hb:s₁.heap.Ns builtinsNs mb) (hbb:∀x:Str,x≠ "__name__"->mb x=bootBuiltins x) (hlim:s₁.heap.NoLimit) (hg:s₁.gens=#[])
  (ha:s₁.heap.get? a=some {cls:=.type "list",data:=.seq vs.toArray}) (hi:IntsAre vs ns) (hl:⇑ns<=sizeLine) (hr:eT k callerA)
  (F:∀base:vx,K.In base->base.Ns mainGlobals mg->cO P w K mg base CX k fa fd [x] sp) (hbind:∀(s:vn) (u:vm),BindsTo s fd {[u],[]} [(x,u)])
  (hsp:∀H:Hp,Ud H->fM K H a (ns.map V.int)->sp [.ref a] H (λv _=>v=.bl true) λ_ _ _=>False)
  (hCX:∀H e s',CX [] H s₁ (λ_ _ _=>False) e s'->False) :
  codeAny (model P w) callerA (.call (.ref fa) {[.ref a],[]}) (λr s'=>r=.ok (.ret (.bool true))/\OldK s₁.heap s'.heap/\s'.os=s₁.os/\AllBare s'.gens) s₁:=by
 let rv:=DC hi;let lenV:=⇑hi;let core:∀H:Hp,Ud H->fM K H a (ns.map V.int)->oH P w H s₁.heap->(∀b,H b≠none->b=a)->(H a≠none->K.lookup a=none)->
   codeAny (model P w) callerA (.call (.ref fa) {[.ref a],[]}) (λr s'=>r=.ok (.ret (.bool true))/\OldK s₁.heap s'.heap/\s'.os=s₁.os/\AllBare s'.gens) s₁:=by
  intro H hO hS bV hA hK;let base_of:∀{b:vw} {o:Obj},s₁.heap.get? b=some o->H b=none->(FQ s₁.heap H).get? b=some o:=λe n=>PM e n;let noA:∀{b:vw} {o:Obj} {es:Array DictEntry} {ep:Nat},s₁.heap.get? b=some o->o.data=.dict es ep->H b=none:=λ{b o es ep} e d=>by
   cases q:H b with
   | none=>rfl
   | some u=>
    let e':b=a:=hA b (by rw[q];simp);subst e';rw[ha] at e;cases e;let d':Data.seq vs.toArray _=Data.dict es ep:=d;cases d'
  let nsK:∀{b:vw} {m:Str->Option vm},s₁.heap.Ns b m->(FQ s₁.heap H).Ns b m:=λ{b m} ⟨o,es,ep,e,d,r⟩=>{o,es,ep,base_of e (noA e d),d,r}
  let hKb:K.In (FQ s₁.heap H):=λb o e=>base_of (KX b o e) (by
   cases q:H b with
   | none=>rfl
   | some u=>
    let e':b=a:=hA b (by rw[q];simp);subst e';rw[hK (by rw[q];simp)] at e;cases e)
  let hM:Mod K mg (FQ s₁.heap H):={hKb,nsK hns,{mb,nsK hb,hbb},let ⟨mc,h1,h2⟩:=hlim;{mc,nsK h1,h2}}
  let e0:JD P w K mg (FQ s₁.heap H) callerA [] s₁ H:={rfl,hM,λb o e=>Rm e,Nat.le_of_eq (Ng _ _),trivial,λb hb=>absurd (show b∈([]:List vw) from hb) (by simp),bV,.of_eq hg}
  refine xS ((F _ hKb (nsK hns)).run callerA [] s₁ H {[.ref a],[]} [.ref a] [.ref a] _ _ hr e0 (hbind s₁ (.ref a)) (.cons rfl .nil) (hsp H hO hS)) λr s' h=>?_;cases r with
  | error e=>exact(hCX H e s' h).elim
  | ok fl=>
   cases fl with
   | next=>exact False.elim h
   | brk=>exact False.elim h
   | cont=>exact False.elim h
   | ret u=>
    let⟨v,H',os,bare,un,hok',r',q⟩:=h;let q':v=.bl true:=q;subst q';obtain rfl:u=Value.bool true:=r';refine{rfl,OldK.of_keep λb o e=>?_,os,bare};cases q:H b with
    | none=>exact un.keep b o e q (by intro z;exact absurd (show b∈([]:List vw) from z) (by simp)) (by simp)
    | some u=>
     rcases hO b with z | ⟨ob,xs,z⟩
     ·rw[q] at z;cases z
     ·let z2:=un.kE b ob _ z
      let⟨e1,_⟩:=bV b _ z;let⟨e2,_⟩:=hok' b _ z2;rw[e] at e1;cases e1;exact e2
 cases hk:K.lookup a with
 | some o=>
  let e:=KX a o hk;rw[ha] at e;cases e;refine core (λ_=>none) (λ_=>.inl rfl) (.inr {_,vs.toArray,_,hk,rfl,rfl,rfl,by rw[yb,lenV];exact hl,by simpa using rv}) (λb u z=>by let z':(none:Option HO)=some u:=z;cases z') (λb z=>absurd rfl z) λz=>absurd rfl z
 | none=>
  refine core (λb=>if b=a then some (.mG {cls:=.type "list",data:=.seq vs.toArray} (.lst (ns.map V.int))) else none) (λb=>?_) (.inl (.inr {{cls:=.type "list",data:=.seq vs.toArray},yR rfl})) (λb u z=>?_) (λb z=>?_) λ_=>hk
  ·by_cases hb:b=a
   ·exact .inr {_,_,yR hb}
   ·exact .inl (yQ hb)
  ·by_cases hb:b=a
   ·let z':=(yR hb).symm.trans z
    cases z';subst hb;exact{ha,by rw[zd];exact hl,vs,_,rv,ha}
   ·let z':=(yQ hb).symm.trans z
    cases z'
  ·by_cases hb:b=a
   ·exact hb
   ·exact absurd (yQ hb) z
end L2
namespace L2
open PySem PySem.Spec PyProof.Rows
def QI {l:PySem.W.OpenLaw} {n k:Nat} {q:vo} {loose:List Str} {XP:(Str->Option vm)->vx->Prop} {YP:vq->vx->Prop} {d:DefRec} {K:Params->yE} {CX:vq->GP} {sp:vq->Sp} {x:Str}
  (hn:l.most=some n) (hn2:n<=sizeLine) (hdf:d.params.defaults=[]) (hr:eT k callerA)
  (hY:∀(w:vq) (h:vx),YP w h->(K w.params).In h)
  (F:∀(w:vq) (mg:Str->Option vm) (fa:vw) (h:vx),(K w.params).In h->h.Ns mainGlobals mg->mg d.name=some (.ref fa)->
   ∃fd:vv,(∀(s:vn) (u:vm),BindsTo s fd {[u],[]} [(x,u)])/\
    ∀base:vx,(K w.params).In base->base.Ns mainGlobals mg->cO l.prog w (K w.params) mg base (CX w) k fa fd [x] (sp w))
  (hsp:∀(w:vq) (H:Hp) (a:vw) (ns:List Int),⇑ns<=n->Ud H->fM (K w.params) H a (ns.map V.int)->sp w [.ref a] H (λv _=>v=.bl true) λ_ _ _=>False)
  (hCX:∀(w:vq) (H:Hp) (s:vn) (e:vm) (s':vn),CX w [] H s (λ_ _ _=>False) e s'->False) :
  PySem.W.WalkO q loose XP YP l.row.toRowW d [] (λf vs=>PySem.call f vs):=by
 refine Xj.Jn hn hdf λw s₀ s₁ mg mb fa o pm cd doc a vs ns G Y ho hd hcd hmg hobj hints hlen hg=>?_;let KX:=hY w _ Y;let⟨fd,hb,hF⟩:=F w mg fa _ KX G.T.g hmg;exact Py KX G.T.g G.T.b G.T.builtins G.T.nolimit hg hobj hints (zN hlen hn2) hr hF hb (λH hO hS=>hsp w H a ns hlen hO hS) λH e s'=>hCX w H s₁ e s'
end L2
namespace L2
open PySem PySem.Spec PyProof.Rows
def inClass (s:Stmt) (j:Nat):Stmt:=match s with
 | .ClassDef _ _ _ body _ _ _ _ _ _ _=>body.getD j (.Pass {0,0,0,0})
 | _=>.Pass {0,0,0,0}
noncomputable def cH (s:Stmt):Arguments:=match s with
 | .FunctionDef _ a _ _ _ _ _ _ _ _=>a
 | _=>{posonlyargs:=[],args:=[],vararg:=none,kwonlyargs:=[],kw_defaults:=[],kwarg:=none,defaults:=[]}
noncomputable def bZ (s:Stmt):List Stmt:=match s with
 | .FunctionDef _ _ b _ _ _ _ _ _ _=>b
 | _=>[]
noncomputable def aT (s:Stmt):Scope:=match s with
 | .FunctionDef _ _ _ _ _ _ sc _ _ _=>sc
 | _=>{kind:=.function,names:=[],isGenerator:=false,isCoroutine:=false}
abbrev Cc:GP:=λ_ _ _ _ _ _=>False
abbrev E0:XK:=λ_ _ _=>False
def AX:Passes Cc X E0:=λ_ _ _ _ _ _ _ h=>h.elim
structure NS (K:yE) (x qual:Str) (st:Stmt) (f:vw) (fd:vv):Prop where
 ex:∃(oc:vm) (od:Option vw) (kV doc pm:vm) (an:Option vw) (cdv ct:vm) (osl:Array (Option vm)),
  fd=PySem.W.fnOf x qual (cH st) (bZ st) (aT st) .none kV doc pm an cdv ct/\K.lookup f=some {oc,od,.func fd,osl}/\PySem.W.codeIn K cdv qual=true
 kp:PySem.W.keepIn K (.ref f)=true
section
variable {P:vo} {w:vq} {K:yE} {mg:Str->Option vm} {base:vx}
def NS.ok {x qual:Str} {st:Stmt} {f:vw} {fd:vv} {N ps:List Str} {k:Nat} {sp:Sp} (F:NS K x qual st f fd) (S:d6 N ps (aT st)) (len:∀vs H Q E,sp vs H Q E->⇑vs=⇑ps)
  (hbody:∀(cdv:vm) (A:vt) (outer:List Env) (s:vn) (H:Hp) (vs:List V) (Q:VK) (E:XK),eT k (A.deeper (envOfC qual (aT st) ↑s f cdv))->sp vs H Q E->
   ∃t,Ce (gX Cc P w K mg base N qual (aT st) f cdv A outer s H E).FF (bZ st) t/\t {nx:=λ_ H'=>Q .bQ H',rt:=Q} (start N vs) H):cO P w K mg base Cc (k+1) f fd ps sp:=by
 let⟨oc,od,kV,doc,pm,an,cdv,ct,osl,rfl,lk,hcd⟩:=F.ex;refine PX lk hcd S len λA outer s H vs Q E hr hsp=>?_;let⟨t,h,q⟩:=hbody cdv A outer s H vs Q E hr hsp;exact{(t),h.FF,q}
def NS.binds {x qual:Str} {st:Stmt} {f:vw} {fd:vv} {ps:List Str} (F:NS K x qual st f fd)
  (h:∀(kV doc pm:vm) (an:Option vw) (cdv ct:vm) (us:List vm),⇑us=⇑ps->bindArgs (PySem.W.fnOf x qual (cH st) (bZ st) (aT st) .none kV doc pm an cdv ct) {us,[]}=pure (ps.zip us)):Binds K fd ps []:=by
 let⟨oc,od,kV,doc,pm,an,cdv,ct,osl,rfl,lk,hcd⟩:=F.ex;exact .all (h kV doc pm an cdv ct)
def ig {x qual:Str} {st:Stmt} {f:vw} {oc:vm} {od an:Option vw} {osl:Array (Option vm)} {kV doc pm cdv ct:vm} (l:K.lookup f=some {oc,od,.func (PySem.W.fnOf x qual (cH st) (bZ st) (aT st) .none kV doc pm an cdv ct),osl})
  (c:PySem.W.codeIn K cdv qual=true) (k:PySem.W.keepIn K (.ref f)=true):NS K x qual st f (PySem.W.fnOf x qual (cH st) (bZ st) (aT st) .none kV doc pm an cdv ct):={{(oc),od,kV,doc,pm,an,cdv,ct,osl,rfl,l,c},k}
end
def nF (hr:eT k A):A.units+1<cLine:=Nat.lt_of_le_of_lt (Nat.add_le_add_left (by decide:1<=64) _) hr.units
section
variable {X:Cx}
def pv (i:Nat) (hN:X.N[i]?=some x<|>qe_) (hv:Sg X.env.scope x<|>qg_) (hd:(x == ("__debug__": Str))=false<|>qb_)
  (hcd:(x == ("__classdict__": Str))=false<|>qb_):PE X (.Name x pos) (aW i):=Td hN hv hd hcd
end
def Va {A B:Prop} (h:B):if false=true then A else B:=by
 rw[yQ zM];exact h
def WE {A B:Prop} (h:A):if true=true then A else B:=by
 rw[yR rfl];exact h
def uN {c A B:Prop} [Decidable c] (h1:c->A) (h2:¬c->B):if c then A else B:=by
 by_cases h:c
 ·rw[yR h]
  exact h1 h
 ·rw[yQ h]
  exact h2 h
def R9 {c A B:Prop} [Decidable c] (hc:c) (h:B):if(!decide c)=true then A else B:=by
 rw[zh hc];exact Va h
def aG (H H':Hp):Prop:=∀b o,H b=some o->H' b=some o
def aF (H:Hp):aG H H:=λ_ _ h=>h
def aG.trans (a:aG H H1) (b:aG H1 H2):aG H H2:=λc o h=>b c o (a c o h)
def aG.seq {K:yE} {H H':Hp} {a:vw} {xs:List V} (e:aG H H') (h:fM K H a xs):fM K H' a xs:=by
 rcases h with(h | ⟨o,h⟩) | h
 ·exact .inl (.inl (e _ _ h))
 ·exact .inl (.inr {o,e _ _ h})
 ·exact .inr h
end L2
namespace Lm
def red (t b:Int):Int×Int:=(t/(Int.gcd t b:Int),b/(Int.gcd t b:Int))
def vM {t b:Int} (hb:0<b):0<(Int.gcd t b:Int):=by
 have:0<Int.gcd t b:=Int.gcd_pos_of_ne_zero_right t ();ext
def qy {t b k:Int} (hk:0<k) (hb:0<b):red (k*t) (k*b)=red t b:=by
 let g0:=vM (t:=t) hb;let e:(Int.gcd (k*t) (k*b):Int)=k*(Int.gcd t b:Int):=by
  rw[Int.gcd_mul_left];simp only[Int.natCast_mul];rw[Int.natAbs_of_nonneg ()]
 unfold red;rw[e,Int.mul_ediv_mul_of_pos _ _ hk,Int.mul_ediv_mul_of_pos _ _ hk]
def mY {t b:Int} (hb:0<b):∃g,0<g/\t=g*(red t b).1/\b=g*(red t b).2/\0<(red t b).2/\(red t b).2<=b:=by
 let g0:=vM (t:=t) hb;let d1:(Int.gcd t b:Int) ∣ t:=Int.gcd_dvd_left ..;let d2:(Int.gcd t b:Int) ∣ b:=Int.gcd_dvd_right ..;let e1:(Int.gcd t b:Int)*(t/(Int.gcd t b:Int))=t:=Int.mul_ediv_cancel' d1;let e2:(Int.gcd t b:Int)*(b/(Int.gcd t b:Int))=b:=Int.mul_ediv_cancel' d2;refine{_,g0,e1.symm,e2.symm,?_,?_}
 ·exact Int.ediv_pos_of_pos_of_dvd hb () d2
 ·exact zY _ ()
def AJ {t b:Int} (ht:0<=t):0<=(red t b).1:=zX ht (Int.natCast_nonneg _)
def Fi {t b:Int} (ht:0<=t):(red t b).1<=t:=zY _ ht
def Q4 {t b:Int} (hb:0<b):red (red t b).1 (red t b).2=red t b:=by
 let⟨g,g0,e1,e2,p,_⟩:=mY (t:=t) hb;let h:=qy (t:=(red t b).1) (b:=(red t b).2) g0 p;rw[<-e1,<-e2] at h;exact h.symm
def add (x y:Int×Int):Int×Int:=red (x.1*y.2+y.1*x.2) (x.2*y.2)
def RK {t b s c:Int} (hb:0<b) (hc:0<c):add (red t b) (red s c)=red (t*c+s*b) (b*c):=by
 let⟨g,g0,e1,e2,p,_⟩:=mY (t:=t) hb;let⟨k,k0,f1,f2,q,_⟩:=mY (t:=s) hc;unfold add;generalize hx:red t b=x at *;generalize hy:red s c=y at *;let h:=qy (t:=x.1*y.2+y.1*x.2) (b:=x.2*y.2) (xA g0 k0) (xA p q);rw[<-h]
 congr 1
 ·rw[e1,e2,f1,f2,Int.mul_add]
  congr 1 <;> simp only[Int.mul_assoc,Int.mul_left_comm,xD]
 ·rw[e2,f2];simp only[Int.mul_assoc,Int.mul_left_comm,xD]
end Lm
namespace Lm
def Rd (x:Int×Int):Prop:=∃t b,0<=t/\0<b/\x=red t b
def Rd.of {t b:Int} (ht:0<=t) (hb:0<b):Rd (red t b):={(t),b,ht,hb,rfl}
def Rd.pos {x:Int×Int} (h:Rd x):0<=x.1/\0<x.2/\red x.1 x.2=x:=by
 let⟨t,b,ht,hb,rfl⟩:=h;let⟨g,g0,e1,e2,p,_⟩:=mY (t:=t) hb;exact{AJ ht,p,Q4 hb}
def Rd.zero:Rd (0,1):={0,1,∅,∅,∅}
theorem Rd.add {x y:Int×Int} (h:Rd x) (k:Rd y):Rd (add x y):=by
 let⟨a,b,_⟩:=h.pos;let⟨c,d,_⟩:=k.pos;refine{_,_,?_,xA b d,rfl};exact Int.add_nonneg (x9 a ()) (x9 c ())
def IC {x y:Int} (hx:0<=x) (hy:0<y):Int.gcd y (x%y)=Int.gcd x y:=by
 let e:(x%y).natAbs=x.natAbs%y.natAbs:=by
  let⟨a,rfl⟩:=yO hx;let⟨b,rfl⟩:=yO (y8 hy);rfl
 show Nat.gcd y.natAbs (x%y).natAbs=Nat.gcd x.natAbs y.natAbs;rw[e,Nat.gcd_comm x.natAbs,Nat.gcd_rec y.natAbs x.natAbs,Nat.gcd_comm]
def PR {t b:Int} (hb:0<b):(Int.gcd t b:Int)<=b:=by
 let h:Int.gcd t b<=b.natAbs:=Nat.gcd_le_right _ ();ext
end Lm
namespace Lm
end Lm
namespace Lm
theorem Md {c:Nat}:∀{p q A B:List Nat},c∉p->c∉q->p++c::A=q++c::B->p=q/\A=B
 | [],[],A,B,_,_,h=>{rfl,by simpa using h}
 | [],y::q,A,B,_,hq,h=>by
  simp at h;exact absurd (by rw[h.1];exact zt) hq
 | x::p,[],A,B,hp,_,h=>by
  simp at h;exact absurd (by rw[<-h.1];exact zt) hp
 | x::p,y::q,A,B,hp,hq,h=>by
  simp only[wQ,List.cons.injEq] at h;let⟨e,h⟩:=h;let⟨e1,e2⟩:=Md (λz=>hp (zr _ z)) (λz=>hq (zr _ z)) h;exact{by rw[e,e1],e2}
def PN:∀(n:Nat),0<n->∃c r,Nat.toDigits 10 n=c::r/\c≠'0':=by
 intro n
 induction n using Nat.strongRecOn with
 | _ n ih=>
  intro hn
  by_cases h:n<10
  ·rw[Nat.toDigits_of_lt_base h]
   refine{_,[],rfl,?_};exact(by decide:∀n<10,0<n->Nat.digitChar n≠'0') n h hn
  ·let hd:n%10<10:=vc _ ∅
   let⟨c,r,e,hc⟩:=ih (n/10) () ();let t:=Nat.toDigits_append_toDigits (b:=10) (n:=n/10) (d:=n%10) ∅ () hd;rw[Nat.div_add_mod,e] at t;exact{c,r++Nat.toDigits 10 (n%10),by rw[<-t];rfl,hc}
def Tv {n k:Nat} (hk:0<k):n<10^k->⇑(Nat.toDigits 10 n)<=k:=by
 intro h
 induction k generalizing n with
 | zero=>ext
 | succ k ih=>
  by_cases h10:n<10
  ·rw[Nat.toDigits_of_lt_base h10];simp
  ·let hd:n%10<10:=vc _ ∅
   let hk0:0<k:=by
    rcases Nat.eq_zero_or_pos k with rfl | z
    ·simp at h;ext
    ·exact z
   have:=ih hk0 (n:=n/10) (by rw[Nat.div_lt_iff_lt_mul ∅];rw[Nat.pow_succ] at h;exact h);let t:=Nat.toDigits_append_toDigits (b:=10) (n:=n/10) (d:=n%10) ∅ () hd;rw[Nat.div_add_mod] at t;rw[<-t,zj,Nat.toDigits_of_lt_base hd];simp;ext
end Lm
namespace L2
open PySem
def g9 (t:Bool) (h:vx) (a:vw) (items:Array vm):Prop:=match t with
 | true=>h.IsTuple a items
 | false=>h.IsList a items
def dJ (t:Bool) (h:vx) (it a:vw) (k:Nat):Prop:=match t with
 | true=>h.IsTupleIter it a k
 | false=>h.IsListIter it a k
noncomputable def qS (t:Bool) (a:vw):Obj:=match t with
 | true=>{cls:=.type "tuple_iterator",data:=.fields #[.ref a,.int 0 0]}
 | false=>{cls:=.type "list_iterator",data:=.fields #[.ref a,.int 0 0]}
theorem g9.at {t:Bool} {h h':vx} {a:vw} {items:Array vm} (x:g9 t h a items) (e:∀o,h.get? a=some o->h'.get? a=some o):g9 t h' a items:=by
 cases t
 ·exact Heap.IsList.at x e
 ·let⟨o,ho,r⟩:=x;exact{o,e o ho,r}
theorem dJ.at {t:Bool} {h h':vx} {it a:vw} {k:Nat} (x:dJ t h it a k) (e:∀o,h.get? it=some o->h'.get? it=some o):dJ t h' it a k:=by
 cases t
 ·exact Heap.IsListIter.at x e
 ·exact Heap.IsTupleIter.at x e
def g9.but {t:Bool} {h h':vx} {a b:vw} {items:Array vm} (x:g9 t h a items) (hs:Heap.SameBut b h h') (n:a≠b):g9 t h' a items:=x.at λo e=>hs.extBut a o n e
def dJ.but {t:Bool} {h h':vx} {it a b:vw} {k:Nat} (x:dJ t h it a k) (hs:Heap.SameBut b h h') (n:it≠b):dJ t h' it a k:=x.at λo e=>hs.extBut it o n e
theorem dJ.get {t:Bool} {h:vx} {it a:vw} {k:Nat} (x:dJ t h it a k):∃o,h.get? it=some o/\∀v,o.data≠.cell v:=by
 cases t
 ·let⟨o,e,_,d⟩:=x;exact{o,e,λv z=>by rw[d] at z;cases z}
 ·let⟨o,e,_,d⟩:=x;exact{o,e,λv z=>by rw[d] at z;cases z}
def dJ.new (t:Bool) (h:vx) (a:vw):dJ t (h.push (qS t a)) h.objs.size a 0:=by
 cases t
 ·exact{_,yA _ rfl,rfl,rfl}
 ·exact{_,yA _ rfl,rfl,rfl}
section
variable {prog:vo} {w:vq} {A:vt} {E:vm->vn->Prop} {s:vn}
def LG {t:Bool} {a:vw} {items:Array vm} {Q:vm->vn->Prop} (hl:g9 t s.heap a items) (hQ:Q (.ref ↑s) {s with heap:=s.heap.push (qS t a)}) :
  wpAny (model prog w) A (pyIter (.ref a)) Q E s:=by
 cases t
 ·exact wK hl hQ
 ·exact wpAny_pyIter_tuple hl hQ
def ER {t:Bool} {it a:vw} {i:Nat} {items:Array vm} {x:vm} {Q:vm->vn->Prop} (hit:dJ t s.heap it a i) (hl:g9 t s.heap a items) (hx:items[i]?=some x)
  (hQ:∀h',dJ t h' it a (i+1)->Heap.SameBut it s.heap h'->Q x {s with heap:=h'}):wpAny (model prog w) A (Builtin.SmallTypes.nextOf (.ref it)) Q E s:=by
 cases t
 ·exact wpAny_nextOf_list_item hit hl hx hQ
 ·let hit':s.heap.IsTupleIter it a i:=hit
  let⟨o,ho,hc,hd⟩:=id hit';let⟨ol,hol,_,nl,hdl⟩:=(show s.heap.IsTuple a items from hl)
  unfold Builtin.SmallTypes.nextOf;refine yx (y4 (name:=Str.ofString "__next__") hit'.typeIs wg (y9 wg hit'.typeIs F.entry_tuple_iterator_next ?_ (F.args_tuple_iterator_next_1 _)));show wpAny _ _ (field (.ref it) 0 >>= _) _ _ s;refine yx (y7 ho hd (x:=.ref a) rfl ?_);show wpAny _ _ (if(Value.ref a == Value.none)=true then _ else _) _ _ s;rw[yQ (show¬((Value.ref a == Value.none)=true) from zM)];show wpAny _ _ (field (.ref it) 1 >>= _) _ _ s;refine yx (y7 ho hd (x:=.int i 0) rfl ?_);show wpAny _ _ (seqItems? (.ref a) >>= _) _ _ s;refine yx (xu hol hdl ?_);simp only[xZ,hx];refine yx (wpAny_setField ho hd (by simp) (yz {x,rfl,yz (hQ _ ?_ (w6 ..))}));exact{_,yD _ ho (Obj.isFreed_of_fields (vf hd _)),(Obj.cls_mapFields ..).trans hc,by rw[vf hd];simp[rawInt]}
def LF {t:Bool} {it a:vw} {i:Nat} {items:Array vm} {Q:vm->vn->Prop} (hh:A.handled=none) (hit:dJ t s.heap it a i) (hl:g9 t s.heap a items) (hx:items[i]?=none)
  (hE:∀h' e,Heap.ExtBut it s.heap h'->(∃o,h'.get? e=some o/\o.cls=.type "StopIteration")->E (.ref e) {s with heap:=h'}):wpAny (model prog w) A (Builtin.SmallTypes.nextOf (.ref it)) Q E s:=by
 cases t
 ·exact wpAny_nextOf_list_end hh hit hl hx hE
 ·let hit':s.heap.IsTupleIter it a i:=hit
  let⟨o,ho,hc,hd⟩:=id hit';let⟨ol,hol,_,nl,hdl⟩:=(show s.heap.IsTuple a items from hl)
  unfold Builtin.SmallTypes.nextOf;refine yx (y4 (name:=Str.ofString "__next__") hit'.typeIs wg (y9 wg hit'.typeIs F.entry_tuple_iterator_next ?_ (F.args_tuple_iterator_next_1 _)));show wpAny _ _ (field (.ref it) 0 >>= _) _ _ s;refine yx (y7 ho hd (x:=.ref a) rfl ?_);show wpAny _ _ (if(Value.ref a == Value.none)=true then _ else _) _ _ s;rw[yQ (show¬((Value.ref a == Value.none)=true) from zM)];show wpAny _ _ (field (.ref it) 1 >>= _) _ _ s;refine yx (y7 ho hd (x:=.int i 0) rfl ?_);show wpAny _ _ (seqItems? (.ref a) >>= _) _ _ s;refine yx (xu hol hdl ?_);simp only[xZ,hx];refine yx (wpAny_rule (yx (wpAny_setField ho hd (by simp) ?_)));show wpAny _ _ (newExc (.type "StopIteration") [] >>= _) _ _ _;refine yx ?_;simp only[newExc,newTuple];refine yx (xb ?_ (by size_fits));refine yx (m:=firstArgMember _ _) (wpAny_of_eq (a:=Value.none) (by first | rfl | (simp only[firstArgMember];rfl)) (xb ?_ (by size_fits)));simp only[raiseNew];refine yx (wpAny_handled ?_)
  first | rw[show A.in1.handled=none from hh] | rw[hh]
  exact yx (yz (wpAny_throw (hE _ _ (((w6 ..).extBut.push _).push _) {_,yA _ rfl,rfl})))
structure Uo (z TI TO i1 i2:vw):Prop where
 a1:TI≠z
 a2:TO≠z
 a3:i1≠z
 a4:i2≠z
 a5:TI≠TO
 a6:TI≠i1
 a7:TI≠i2
 a8:TO≠i1
 a9:TO≠i2
 b1:i1≠i2
structure Qq (l z TO i1 i2:vw):Prop where
 a1:l≠z
 a2:l≠TO
 a3:l≠i1
 a4:l≠i2
def JA (z TO i1 i2:vw) (h h':vx):Prop:=∀c o,c≠z->c≠TO->c≠i1->c≠i2->h.get? c=some o->h'.get? c=some o
structure Sf (t1 t2:Bool) (h:vx) (z TI TO i1 i2 l1 l2:vw) (k:Nat) (f0:vm):Prop where
 z:IsZip h z TI TO f0
 ti:IsPair h TI (.ref i1) (.ref i2)
 to:∃a b,IsPair h TO a b
 i1:dJ t1 h i1 l1 k
 i2:dJ t2 h i2 l2 k
def N3 {t1 t2:Bool} {z TI TO i1 i2 l1 l2:vw} {k:Nat} {xs ys:Array vm} {x y:vm} {Q:vm->vn->Prop} (D:Uo z TI TO i1 i2) (L1:Qq l1 z TO i1 i2) (L2:Qq l2 z TO i1 i2)
  (S:Sf t1 t2 s.heap z TI TO i1 i2 l1 l2 k .none) (hl1:g9 t1 s.heap l1 xs) (hl2:g9 t2 s.heap l2 ys) (hx:xs[k]?=some x) (hy:ys[k]?=some y)
  (hQ:∀h',Sf t1 t2 h' z TI TO i1 i2 l1 l2 (k+1) (rawInt ↑s)->IsPair h' ↑s x y->JA z TO i1 i2 s.heap h'->Q (.ref ↑s) {s with heap:=h'}) :
  wpAny (model prog w) A (Builtin.«zip.__next__» {[.ref z],[]}) (λfin s'=>∃v,fin=.done (.ret v)/\Q v s') E s:=by
 let⟨hz,hTI,⟨a,b,hTO⟩,h1,h2⟩:=S;show wpAny _ _ (field (.ref z) 2 >>= _) _ _ _;refine yx (y7 hz rfl (x:=.bool false) rfl ?_);show wpAny _ _ (field (.ref z) 3 >>= _) _ _ _;refine yx (y7 hz rfl (x:=.ref TI) rfl (yx (xu hTI rfl ?_)));show wpAny _ _ (Builtin.SmallTypes.ownedTupleIsFree (.ref z) >>= _) _ _ _;refine yx ?_;unfold Builtin.SmallTypes.ownedTupleIsFree;refine yx (y7 hz rfl (x:=.none) rfl (yz ?_));simp only[w8];refine yx (wpAny_rule (yx (y7 hz rfl (x:=.ref TO) rfl (yx (xJ hz (by simp) λg1 z1 q1=>?_)))));replace z1:IsZip g1 z TI TO .ellipsis:=z1;refine yx ?_;simp only[List.zipIdx_cons,List.zipIdx_nil,List.forIn_cons,List.forIn_nil];refine yx (yx (wpAny_onRaise ?_));show wpAny _ _ (Builtin.SmallTypes.nextOf (.ref i1) >>= _) _ _ _;refine yx (ER (h1.but q1 D.a3) (hl1.but q1 L1.a1) hx λg2 p2 q2=>yz ?_);let o2:IsPair g2 TO a b:=q2.extBut _ _ D.a8 (q1.extBut _ _ D.a2 hTO);refine yx (xu o2 rfl (yx (wpAny_updateSeq_pair o2 λg3 o3 q3=>yx (wpAny_letGo (yz (yx (yx (wpAny_onRaise ?_))))))));replace o3:IsPair g3 TO x b:=o3;show wpAny _ _ (Builtin.SmallTypes.nextOf (.ref i2) >>= _) _ _ _;refine yx (ER (((h2.but q1 D.a4).but q2 D.b1.symm).but q3 D.a9.symm) (((hl2.but q1 L2.a1).but q2 L2.a3).but q3 L2.a2) hy λg4 p4 q4=>yz ?_);let o4:IsPair g4 TO x b:=q4.extBut _ _ D.a9 o3;refine yx (xu o4 rfl (yx (wpAny_updateSeq_pair o4 λg5 o5 q5=>yx (wpAny_letGo (yz (yz ?_))))));replace o5:IsPair g5 TO x y:=o5;refine yx (xu o5 rfl (yx (wpAny_newTuple ?_)));let sz:g5.objs.size=↑s:=by rw[q5.1,q4.1,q3.1,q2.1,q1.1]
 let z5:IsZip g5 z TI TO .ellipsis:=q5.extBut _ _ D.a2.symm (q4.extBut _ _ D.a4.symm (q3.extBut _ _ D.a2.symm (q2.extBut _ _ D.a3.symm z1)));let k5:JA z TO i1 i2 s.heap g5:=λc o c1 c2 c3 c4 e=>q5.extBut _ _ c2 (q4.extBut _ _ c4 (q3.extBut _ _ c2 (q2.extBut _ _ c3 (q1.extBut _ _ c1 e))));let r1:dJ t1 g5 i1 l1 (k+1):=((p2.but q3 D.a8.symm).but q4 D.b1).but q5 D.a8.symm;let r2:dJ t2 g5 i2 l2 (k+1):=p4.but q5 D.a9.symm;let zl:z<g5.objs.size:=yB z5;show wpAny _ _ (Builtin.SmallTypes.ownedTupleHandOut (.ref z) (.ref g5.objs.size) >>= _) _ _ _;refine yx ?_;unfold Builtin.SmallTypes.ownedTupleHandOut;let z6:IsZip (g5.push {cls:=.type "tuple",data:=.seq #[x,y]}) z TI TO .ellipsis:=yy _ z5;refine yx (xJ z6 (by simp) λg7 z7 q7=>?_);replace z7:IsZip g7 z TI TO (rawInt g5.objs.size):=z7;refine xJ z7 (by simp) λg8 z8 q8=>?_;replace z8:IsZip g8 z TI TO (rawInt g5.objs.size):=z8;let up:∀c o,c≠z->g5.get? c=some o->g8.get? c=some o:=λc o c1 e=>q8.extBut _ _ c1 (q7.extBut _ _ c1 (yy _ e));let t8:IsPair g8 g5.objs.size x y:=q8.extBut _ _ (yj zl) (q7.extBut _ _ (yj zl) (yA _ rfl));rw[sz] at z8 t8;refine yz {_,rfl,?_};show Q (.ref g5.objs.size) _;rw[sz];exact hQ g8 {z8,up _ _ D.a1 (k5 _ _ D.a1 D.a5 D.a6 D.a7 hTI),{_,_,up _ _ D.a2 o5},r1.at λo e=>up _ o D.a3 e,r2.at λo e=>up _ o D.a4 e} t8 λc o c1 c2 c3 c4 e=>up c o c1 (k5 c o c1 c2 c3 c4 e)
def N2 {t1 t2:Bool} {z TI TO i1 i2 l1 l2:vw} {k:Nat} {xs ys:Array vm} {Q:Fin->vn->Prop} (hh:A.handled=none) (D:Uo z TI TO i1 i2) (L1:Qq l1 z TO i1 i2) (L2:Qq l2 z TO i1 i2)
  (S:Sf t1 t2 s.heap z TI TO i1 i2 l1 l2 k .none) (hl1:g9 t1 s.heap l1 xs) (hl2:g9 t2 s.heap l2 ys) (hend:xs[k]?=none\/ys[k]?=none)
  (hE:∀h' e,JA z TO i1 i2 s.heap h'->(∃o,h'.get? e=some o/\o.cls=.type "StopIteration")->E (.ref e) {s with heap:=h'}) :
  wpAny (model prog w) A (Builtin.«zip.__next__» {[.ref z],[]}) Q E s:=by
 let⟨hz,hTI,⟨a,b,hTO⟩,h1,h2⟩:=S;show wpAny _ _ (field (.ref z) 2 >>= _) _ _ _;refine yx (y7 hz rfl (x:=.bool false) rfl ?_);show wpAny _ _ (field (.ref z) 3 >>= _) _ _ _;refine yx (y7 hz rfl (x:=.ref TI) rfl (yx (xu hTI rfl ?_)));show wpAny _ _ (Builtin.SmallTypes.ownedTupleIsFree (.ref z) >>= _) _ _ _;refine yx ?_;unfold Builtin.SmallTypes.ownedTupleIsFree;refine yx (y7 hz rfl (x:=.none) rfl (yz ?_));simp only[w8];refine yx (wpAny_rule (yx (y7 hz rfl (x:=.ref TO) rfl (yx (xJ hz (by simp) λg1 z1 q1=>?_)))));replace z1:IsZip g1 z TI TO .ellipsis:=z1;refine yx ?_;simp only[List.zipIdx_cons,List.zipIdx_nil,List.forIn_cons,List.forIn_nil];refine yx (yx (wpAny_onRaise ?_));show wpAny _ _ (Builtin.SmallTypes.nextOf (.ref i1) >>= _) _ _ _;cases hx:xs[k]? with
 | none=>
  refine yx (LF hh (h1.but q1 D.a3) (hl1.but q1 L1.a1) hx λg2 e q2 he=>?_);let⟨oe,hoe,hce⟩:=he;let z2:IsZip g2 z TI TO .ellipsis:=q2 _ _ D.a3.symm z1;let hez:e≠z:=λx=>by subst x;rw[z2] at hoe;cases hoe;simp at hce
  exact xJ z2 (by simp) λg3 _ q3=>hE g3 e (λc o c1 _ c3 _ x=>q3.extBut _ _ c1 (q2 _ _ c3 (q1.extBut _ _ c1 x))) {oe,q3.extBut _ _ hez hoe,hce}
 | some x=>
  let hy:ys[k]?=none:=by rcases hend with h | h;rw[hx] at h;cases h;exact h
  refine yx (ER (h1.but q1 D.a3) (hl1.but q1 L1.a1) hx λg2 p2 q2=>yz ?_);let o2:IsPair g2 TO a b:=q2.extBut _ _ D.a8 (q1.extBut _ _ D.a2 hTO);refine yx (xu o2 rfl (yx (wpAny_updateSeq_pair o2 λg3 o3 q3=>yx (wpAny_letGo (yz (yx (yx (wpAny_onRaise ?_))))))));show wpAny _ _ (Builtin.SmallTypes.nextOf (.ref i2) >>= _) _ _ _;refine yx (LF hh (((h2.but q1 D.a4).but q2 D.b1.symm).but q3 D.a9.symm) (((hl2.but q1 L2.a1).but q2 L2.a3).but q3 L2.a2) hy λg4 e q4 he=>?_);let⟨oe,hoe,hce⟩:=he;let z4:IsZip g4 z TI TO .ellipsis:=q4 _ _ D.a4.symm (q3.extBut _ _ D.a2.symm (q2.extBut _ _ D.a3.symm z1));let hez:e≠z:=λx=>by subst x;rw[z4] at hoe;cases hoe;simp at hce
  exact xJ z4 (by simp) λg5 _ q5=>hE g5 e (λc o c1 c2 c3 c4 x=>q5.extBut _ _ c1 (q4 _ _ c4 (q3.extBut _ _ c2 (q2.extBut _ _ c3 (q1.extBut _ _ c1 x))))) {oe,q5.extBut _ _ hez hoe,hce}
def N6 {t1 t2:Bool} {z TI TO i1 i2 l1 l2:vw} {k:Nat} {xs ys:Array vm} {x y:vm} {Q:Option vm->vn->Prop} (D:Uo z TI TO i1 i2) (L1:Qq l1 z TO i1 i2) (L2:Qq l2 z TO i1 i2)
  (S:Sf t1 t2 s.heap z TI TO i1 i2 l1 l2 k .none) (hl1:g9 t1 s.heap l1 xs) (hl2:g9 t2 s.heap l2 ys) (hx:xs[k]?=some x) (hy:ys[k]?=some y)
  (hQ:∀h',Sf t1 t2 h' z TI TO i1 i2 l1 l2 (k+1) (rawInt ↑s)->IsPair h' ↑s x y->JA z TO i1 i2 s.heap h'->Q (some (.ref ↑s)) {s with heap:=h'}) :
  wpAny (model prog w) A (pyNext (.ref z)) Q E s:=by
 let hT:s.TypeIs (.ref z) "zip":={_,S.z,rfl}
 unfold pyNext;exact yx (wR (y4 (name:=Str.ofString "__next__") hT xK (y9 xK hT F.entry_zip_next (N3 D L1 L2 S hl1 hl2 hx hy λh' a1 a2 a3=>yz (hQ h' a1 a2 a3)) (F.args_zip_next_1 _))))
def N5 {t1 t2:Bool} {z TI TO i1 i2 l1 l2:vw} {k:Nat} {xs ys:Array vm} {Q:Option vm->vn->Prop} (hh:A.handled=none) (D:Uo z TI TO i1 i2) (L1:Qq l1 z TO i1 i2) (L2:Qq l2 z TO i1 i2)
  (S:Sf t1 t2 s.heap z TI TO i1 i2 l1 l2 k .none) (hl1:g9 t1 s.heap l1 xs) (hl2:g9 t2 s.heap l2 ys) (hend:xs[k]?=none\/ys[k]?=none)
  (hQ:∀h',JA z TO i1 i2 s.heap h'->Q none {s with heap:=h'}):wpAny (model prog w) A (pyNext (.ref z)) Q E s:=by
 let hT:s.TypeIs (.ref z) "zip":={_,S.z,rfl}
 unfold pyNext;refine yx (wR (y4 (name:=Str.ofString "__next__") hT xK (y9 xK hT F.entry_zip_next (N2 hh D L1 L2 S hl1 hl2 hend λh' e hk he=>?_) (F.args_zip_next_1 _))));let⟨o,ho,hc⟩:=he;exact yx (wpAny_isInstance (T:="StopIteration") (b:=true) {(o),ho,hc} isSubtype_stop (yz (hQ _ hk)))
end
noncomputable abbrev VB (t1:Bool) (h:vx) (l1:vw):vx:=h.push (qS t1 l1)
noncomputable abbrev Ur (t1 t2:Bool) (h:vx) (l1 l2:vw):vx:=(VB t1 h l1).push (qS t2 l2)
noncomputable abbrev VA (t1 t2:Bool) (h:vx) (l1 l2:vw):vx:=(Ur t1 t2 h l1 l2).push {cls:=.type "tuple",data:=.seq #[.ref h.objs.size,.ref (VB t1 h l1).objs.size]}
noncomputable abbrev Vz (t1 t2:Bool) (h:vx) (l1 l2:vw):vx:=(VA t1 t2 h l1 l2).push {cls:=.type "tuple",data:=.seq #[.none,.none]}
noncomputable abbrev Sn (t1 t2:Bool) (h:vx) (l1 l2:vw):vx:=(Vz t1 t2 h l1 l2).push {cls:=.type "zip",data:=.fields #[.none,.bool false,.bool false,.ref (Ur t1 t2 h l1 l2).objs.size,.ref (VA t1 t2 h l1 l2).objs.size]}
def N7 (t1 t2:Bool) (l1 l2:vw) (xs ys:Array vm) :
  Meets (Builtin.«zip.__new__» {[.type "zip",.ref l1,.ref l2],[]}) (λ_ R s=>g9 t1 s.heap l1 xs/\g9 t2 s.heap l2 ys/\R (.ok (.ret (.ref (Vz t1 t2 s.heap l1 l2).objs.size))) {s with heap:=Sn t1 t2 s.heap l1 l2}):=
 .of_wp λprog w A R s h=>by
  let⟨hp,g,d,tk,os⟩:=s;let⟨a1,a2,h⟩:=h;let hsub:=sub_zip;let b1:g9 t1 (Shared.heap {(hp),g,d,tk,os}) l1 xs:=a1;let b2:g9 t2 (Shared.heap {hp.push (qS t1 l1),g,d,tk,os}) l2 ys:=a2.at λo e=>yy _ e;wp_walk using LG b1,LG b2;exact{_,rfl,h}
def N8 {prog:vo} {w:vq} {A:vt} {E:vm->vn->Prop} {s:vn} {t1 t2:Bool} {l1 l2:vw} {xs ys:Array vm} {Q:vm->vn->Prop} (hl1:g9 t1 s.heap l1 xs) (hl2:g9 t2 s.heap l2 ys)
  (h:∀h',Sf t1 t2 h' (↑s+4) (↑s+2) (↑s+3) ↑s (↑s+1) l1 l2 0 .none->(∀c o,s.heap.get? c=some o->h'.get? c=some o)->Q (.ref (↑s+4)) {s with heap:=h'}) :
  wpAny (model prog w) A (call (.type "zip") [.ref l1,.ref l2]) Q E s:=by
 refine callType_new F.called_zip ∅ (F.typeCall_zip_2 _ _) (F.newCall_zip_2 _ _) (λobj=>F.args_object_init_3 obj _ _) F.entry_zip_new (N7 t1 t2 l1 l2 xs ys) {hl1,hl2,?_};let z1:(VB t1 s.heap l1).objs.size=↑s+1:=xk ..;let z2:(Ur t1 t2 s.heap l1 l2).objs.size=↑s+2:=by rw[xk,z1]
 let z3:(VA t1 t2 s.heap l1 l2).objs.size=↑s+3:=by rw[xk,z2]
 let z4:(Vz t1 t2 s.heap l1 l2).objs.size=↑s+4:=by rw[xk,z3]
 let up:∀c o,(Ur t1 t2 s.heap l1 l2).get? c=some o->(Sn t1 t2 s.heap l1 l2).get? c=some o:=λc o e=>yy _ (yy _ (yy _ e));let g5:(Sn t1 t2 s.heap l1 l2).get? (Vz t1 t2 s.heap l1 l2).objs.size=some _:=yA _ rfl;let g4:(Sn t1 t2 s.heap l1 l2).get? (VA t1 t2 s.heap l1 l2).objs.size=some _:=yy _ (yA _ rfl);let g3:(Sn t1 t2 s.heap l1 l2).get? (Ur t1 t2 s.heap l1 l2).objs.size=some _:=yy _ (yy _ (yA _ rfl));let g2:dJ t2 (Sn t1 t2 s.heap l1 l2) (VB t1 s.heap l1).objs.size l2 0:=(dJ.new t2 _ l2).at (up _);let g1:dJ t1 (Sn t1 t2 s.heap l1 l2) ↑s l1 0:=((dJ.new t1 _ l1).at λo e=>yy _ e).at (up _);show _/\_;rw[z2,z3,z4] at g5;rw[z1,z2] at g3;rw[z3] at g4;rw[z1] at g2;rw[z4];exact{{_,g5,rfl},h _ {g5,g3,{_,_,g4},g1,g2} λc o x=>up c o (yy _ (yy _ x))}
end L2
namespace L2
open PySem PySem.Spec PyProof.Rows
def bF (h:H p=none):aG H (upd H p o):=λb u e=>by rw[aC (bI e h)];exact e
def laid {H:Hp} {o:HO} {Q:VK} (k:∀p H',aG H H'->H' p=some o->Q (.ref p) H'):∀p,H p=none->Q (.ref p) (upd H p o):=λp hp=>k p _ (bF hp) aE
def aG.tup {K:yE} {H H':Hp} {a:vw} {xs:List V} (e:aG H H') (h:mI K H a xs):mI K H' a xs:=by
 rcases h with(h | ⟨o,h⟩) | h
 ·exact .inl (.inl (e _ _ h))
 ·exact .inl (.inr {o,e _ _ h})
 ·exact .inr h
section
variable {X:Cx} {pins:List (vw×Obj)} {σ:St} {H:Hp} {s:vn} {h':vx}
def Inv.GX {T:vw} {o:HO} {ch:List vw} {t':Nat} (I:Inv X pins σ H s) (hf:∀b∈ch,Dv X pins H b) (hT:↑s<=T) (k:∀b u,b∉ch->s.heap.get? b=some u->h'.get? b=some u)
  (new:b8 X.prog X.w (upd H T o) h' T o):Inv X pins σ (upd H T o) {s with heap:=h',toks:=t'}:=by
 let hn:H T=none:=I.bV.fresh hT;let neT:∀b u,s.heap.get? b=some u->b≠T:=λb u e=>yk (yc (yB e) hT);let nch:∀b u,H b=some u->b∉ch:=λb u e hb=>by rw[(hf b hb).1] at e;cases e
 refine I.step (g':=s.gens) (d':=s.drawn) (ch:=ch) (λb hb=>?_) (λb u _ _ hc e _=>k b u hc e) (λb u _ _ hc e _=>{u.slots,k b u hc e}) (λb u hc e n=>by rw[aC (neT b u e)];exact n) (λb u hc e=>{u,k b u hc e})
  (λb xs e=>by rw[aC (bI e hn)];exact e) (λb ob u e=>by rw[aC (bI e hn)];exact e) (λb ps e=>{#[],by rw[aC (bI e hn),e];simp}) (λm hm=>?_) (λb u e=>?_) I.bare
 ·let⟨f0,f1,f2,f3,f4,f5⟩:=hf b hb
  exact{(f3),f1,f4,f5}
 ·let⟨ob,es,ep,ho,r⟩:=hm
  exact{ob,es,ep,k _ _ (λz=>(hf _ z).2.1 rfl) ho,r}
 ·by_cases hb:b=T
  ·subst hb;rw[aE] at e;cases e;exact new
  ·rw[aC hb] at e
   refine(I.bV b u e).jH (λc v hc q=>k c v ?_ q) (λc q=>by rw[aC (bI q hn)];exact q) λc xs q=>by rw[aC (bI q hn)];exact q
   rcases hc with z | z
   ·rw[z];exact nch b u e
   ·exact nch c _ z
def Inv.turns {ch:List vw} {t':Nat} (I:Inv X pins σ H s) (hf:∀b∈ch,Dv X pins H b) (k:∀b u,b∉ch->s.heap.get? b=some u->h'.get? b=some u):Inv X pins σ H {s with heap:=h',toks:=t'}:=by
 let nch:∀b u,H b=some u->b∉ch:=λb u e hb=>by rw[(hf b hb).1] at e;cases e
 refine I.step (g':=s.gens) (d':=s.drawn) (ch:=ch) (λb hb=>?_) (λb u _ _ hc e _=>k b u hc e) (λb u _ _ hc e _=>{u.slots,k b u hc e}) (λb u hc e n=>n) (λb u hc e=>{u,k b u hc e})
  (λb xs e=>e) (λb ob u e=>e) (λb ps e=>{#[],by rw[e];simp}) (λm hm=>?_) (λb u e=>?_) I.bare
 ·let⟨f0,f1,f2,f3,f4,f5⟩:=hf b hb
  exact{(f3),f1,f4,f5}
 ·let⟨ob,es,ep,ho,r⟩:=hm
  exact{ob,es,ep,k _ _ (λz=>(hf _ z).2.1 rfl) ho,r}
 ·refine(I.bV b u e).jH (λc v hc q=>k c v ?_ q) (λc q=>q) λc xs q=>q
  rcases hc with z | z
  ·rw[z];exact nch b u e
  ·exact nch c _ z
def Gm:bootBuiltins "enumerate"= some (.type "enumerate"):=by decide +kernel
def Ua:bootBuiltins "zip"= some (.type "zip"):=by decide +kernel
noncomputable def Uh (K:yE) (a:vw):It:=
 {λi H=>∃xs x,fM K H a xs/\xs[i]?=some x,λi H x H'=>∃p v,H p=none/\x=.ref p/\H'=upd H p (.tup [.int (i:Int),v])/\∀xs,fM K H a xs->xs[i]?=some v,λi H=>∃xs,fM K H a xs/\⇑xs<=i}
def MC {P:vo} {w:vq} {K:yE} {es:List Expr} {kt:Nat} {tp:Pos} (a it e:vw) (hne:e≠it) :
  Turn P w K (.Tuple es kt tp) (Uh K a) [e,it] e (λi h=>(∃old,IsEnum h e it (i:Int) old)/\h.IsListIter it a i) where
 mem:=by simp
 obj:=λi h st b hb=>by
  let⟨⟨old,he⟩,o,e1,c,d⟩:=st;rcases zE.mp hb with z | z
  ·subst z;exact{_,he,λv z=>by cases z}
  ·let z':b=it:=by simpa using z
   subst z';exact{o,e1,λv z=>by rw[d] at z;cases z}
 keep:=λi h h' st k=>{let ⟨old,he⟩:=st.1;{old,k e (by simp) _ he},st.2.at λo e=>k it (by simp) o e}
 item:=by
  intro X hP hw hK hc i pins s σ H E I hf st hg;subst hP hw hK;let⟨xs,x,hq,hx⟩:=hg;let⟨its,rv,p,hz⟩:=I.list hq;let⟨u,hu,ru⟩:=rv.get hx;let⟨⟨old,he⟩,hit⟩:=st;refine wpAny_pyNext_enum_item he hit p.isList (x:=u) (by simpa using hu) hne λg1 ho hit1 hT hsz hk=>?_;refine{_,rfl,wpAny_letOwnedTupleGo_enum (s:={s with heap:=g1,toks:=s.toks+1}) ho λg2 he2 hs2=>?_};let hel:e<↑s:=yB he;let gT:g2.get? ↑s=some {cls:=.type "tuple",data:=.seq #[.int i s.toks,u]}:=hs2.extBut _ _ (yj hel) hT;let I1:Inv X pins σ (upd H ↑s (.tup [.int (i:Int),x])) {s with heap:=g2,toks:=s.toks+1}:=
   I.GX hf (zp _) (λb ob hb q=>hs2.extBut _ _ (λz=>hb (by simp[z])) (hk b ob (λz=>hb (by simp[z])) (λz=>hb (by simp[z])) q))
    {by show 2<=sizeLine;decide,[.int i s.toks,u],.cons {_,rfl} (.cons ru .nil),{_,gT,rfl,_,rfl}}
  refine{.ref ↑s,_,I1,rfl,{_,x,I.bV.fresh (zp _),rfl,rfl,λys hy=>by rw[I.Bf hy hq];exact hx},{{_,by simpa using he2},hit1.at λo q=>hs2.extBut _ _ hne.symm q},λb hb=>?_};let hb':=(hf b hb).1;obtain⟨o,ho',_⟩:∃o,s.heap.get? b=some o/\True:=by
   rcases zE.mp hb with z | z
   ·subst z;exact{_,he,trivial}
   ·let z':b=it:=by simpa using z
    subst z';let⟨o,e1,_⟩:=hit;exact{(o),e1,trivial}
  rw[aC (yk (yB ho'))];exact hb'
 done:=by
  intro X hP hw hK hc i pins s σ H E I hf st hg;subst hP hw hK;let⟨xs,hq,hx⟩:=hg;let⟨its,rv,p,hz⟩:=I.list hq;let⟨⟨old,he⟩,hit⟩:=st;let hl:=⇑rv;exact wpAny_pyNext_enum_end (I.ok.hd hc) he hit p.isList (by simp;ext) λg1 eb=>{rfl,I.turns (t':=s.toks) hf λb o hb q=>eb b o (λz=>hb (by simp[z])) q}
 self:=λ_ _ _ _ _ st h=>let ⟨_,he⟩:=st.1;wpAny_pyIter_enum he h
def Sa (K:yE) (ta:TA):TI:=λσ H R=>ta σ H λvs H1=>∃a xs,vs=[.ref a]/\fM K H1 a xs/\R (Uh K a) H1
def vF {a:Expr} {ta:TA} {es:List Expr} {kt:Nat} {tp p pos:Pos} (hg:Gl X "enumerate") (hm:X.mg "enumerate"= none) (ha:PA X [a] ta) (hs:starEach [a] X.env=[(false,eval a X.env)]<|>qe_) :
  PI X (.Tuple es kt tp) (.Call (.Name "enumerate" p) [a] [] pos) (Sa X.K ta):=by
 intro pins s σ H R I h;refine Call_ (lB I hg hm Gm (yP (cJ (ha s σ H _ I h) λus s1 z0=>?_) hs rfl));let⟨vs,H1,I1,r1,q1⟩:=z0;let⟨l,xs,e,hq,q⟩:=q1;subst e;cases r1 with
 | cons r rr=>
  cases rr;cases r;let⟨its,rv,pl,hz⟩:=I1.list hq;refine call_enumerate_list pl.isList λg he hit hsz hk=>?_;refine wpAny_pyIter_enum (s:={s1 with heap:=g}) he ?_;let I2:Inv X pins σ H1 {s1 with heap:=g}:=I1.kept (t':=s1.toks) hk;refine{↑s1+1,[↑s1+1,↑s1],_,Uh X.K l,H1,rfl,I2,MC l ↑s1 (↑s1+1) (yj (xP _)),{{_,by simpa using he},hit},λb hb=>?_,q};let hb':↑s1<=b:=by
   rcases zE.mp hb with z | z
   ·subst z;exact x6 _
   ·let z':b=↑s1:=by simpa using z
    subst z';exact zp _
  exact I1.C0 hb' (I1.bV.fresh hb')
def JF (t:Bool) (K:yE) (H:Hp) (a:vw) (xs:List V):Prop:=match t with
 | true=>mI K H a xs
 | false=>fM K H a xs
def Inv.sq (I:Inv X pins σ H s) (h:JF t X.K H a xs):∃its:List vm,Vals xs its/\g9 t s.heap a its.toArray/\⇑xs<=sizeLine:=by
 cases t
 ·let⟨its,r,p,z⟩:=I.list h;exact{(its),r,p.isList,z}
 ·let⟨its,r,p,z⟩:=I.tuple h;exact{(its),r,p,z}
def Inv.Oy (I:Inv X pins σ H s) (h:JF t X.K H a xs) (h':JF t X.K H a ys):xs=ys:=by
 cases t
 ·exact I.Bf h h'
 ·exact I.DD h h'
def g9.lt (x:g9 t h a items):a<h.objs.size:=by
 cases t
 ·let⟨o,e,_⟩:=x;exact yB e
 ·let⟨o,e,_⟩:=x;exact yB e
noncomputable def VL (t1 t2:Bool) (K:yE) (a b:vw):It:=
  {λi H=>∃xs ys x y,JF t1 K H a xs/\JF t2 K H b ys/\xs[i]?=some x/\ys[i]?=some y,
   λi H x H'=>∃p u v,H p=none/\x=.ref p/\H'=upd H p (.tup [u,v])/\(∀xs,JF t1 K H a xs->xs[i]?=some u)/\∀ys,JF t2 K H b ys->ys[i]?=some v,
   λi H=>∃xs ys,JF t1 K H a xs/\JF t2 K H b ys/\(⇑xs<=i\/⇑ys<=i)}
def Oe {P:vo} {w:vq} {K:yE} {es:List Expr} {kt:Nat} {tp:Pos} (t1 t2:Bool) (a b z TI TO i1 i2:vw) (D:Uo z TI TO i1 i2) (L1:Qq a z TO i1 i2) (L2:Qq b z TO i1 i2) :
  Turn P w K (.Tuple es kt tp) (VL t1 t2 K a b) [z,TI,TO,i1,i2] z (λi h=>Sf t1 t2 h z TI TO i1 i2 a b i .none) where
 mem:=by simp
 obj:=λi h st c hc=>by
  let⟨hz,hi,⟨_,_,ho⟩,h1,h2⟩:=st;simp only[zE,zF,yX] at hc;rcases hc with e | e | e | e | e
  ·subst e;exact{_,hz,λv q=>by cases q}
  ·subst e;exact{_,hi,λv q=>by cases q}
  ·subst e;exact{_,ho,λv q=>by cases q}
  ·subst e;exact h1.get
  ·subst e;exact h2.get
 keep:=λi h h' st k=>{k z (by simp) _ st.z,k TI (by simp) _ st.ti,let ⟨x,y,e⟩:=st.to;{x,y,k TO (by simp) _ e},st.i1.at λo e=>k i1 (by simp) o e,st.i2.at λo e=>k i2 (by simp) o e}
 item:=by
  intro X hP hw hK hc i pins s σ H E I hf st hg;subst hP hw hK;let⟨xs,ys,x,y,hq,hq',hx,hy⟩:=hg;let⟨its,rv,p,hz⟩:=I.sq hq;let⟨jts,rw',p',hz'⟩:=I.sq hq';let⟨u,hu,ru⟩:=rv.get hx;let⟨u',hu',ru'⟩:=rw'.get hy;refine N6 D L1 L2 st p p' (x:=u) (y:=u') (by simpa using hu) (by simpa using hu') λg1 S1 hT hk=>?_;refine{_,rfl,wpAny_letOwnedTupleGo_zip (s:={s with heap:=g1}) S1.z λg2 z2 hs2=>?_};let zl:z<↑s:=yB st.z;let gT:g2.get? ↑s=some {cls:=.type "tuple",data:=.seq #[u,u']}:=hs2.extBut _ _ (yj zl) hT;let I1:Inv X pins σ (upd H ↑s (.tup [x,y])) {s with heap:=g2}:=
   I.GX (t':=s.toks) hf (zp _) (λc ob hb q=>hs2.extBut _ _ (λe=>hb (by simp[e])) (hk c ob (λe=>hb (by simp[e])) (λe=>hb (by simp[e])) (λe=>hb (by simp[e])) (λe=>hb (by simp[e])) q))
    {by show 2<=sizeLine;decide,[u,u'],.cons ru (.cons ru' .nil),{_,gT,rfl,_,rfl}}
  refine{.ref ↑s,_,I1,rfl,{_,x,y,I.bV.fresh (zp _),rfl,rfl,λzs h=>by rw[I.Oy h hq];exact hx,λzs h=>by rw[I.Oy h hq'];exact hy},{z2,hs2.extBut _ _ D.a1 S1.ti,let ⟨x,y,e⟩:=S1.to;{x,y,hs2.extBut _ _ D.a2 e},S1.i1.but hs2 D.a3,S1.i2.but hs2 D.a4},λc hc=>?_};let hb':=(hf c hc).1;obtain⟨o,ho',_⟩:∃o,s.heap.get? c=some o/\True:=by
   obtain⟨hz,hi,⟨_,_,ho⟩,⟨q1,e1,_⟩,⟨q2,e2,_⟩⟩:_/\_/\_/\_/\_:={(st.z),st.ti,st.to,st.i1.get,st.i2.get}
   simp only[zE,zF,yX] at hc;rcases hc with e | e | e | e | e
   ·subst e;exact{_,hz,trivial}
   ·subst e;exact{_,hi,trivial}
   ·subst e;exact{_,ho,trivial}
   ·subst e;exact{_,e1,trivial}
   ·subst e;exact{_,e2,trivial}
  rw[aC (yk (yB ho'))];exact hb'
 done:=by
  intro X hP hw hK hc i pins s σ H E I hf st hg;subst hP hw hK;let⟨xs,ys,hq,hq',hx⟩:=hg;let⟨its,rv,p,hz⟩:=I.sq hq;let⟨jts,rw',p',hz'⟩:=I.sq hq';let hl:=⇑rv;let hl':=⇑rw';refine N5 (I.ok.hd hc) D L1 L2 st p p' ?_ λg1 eb=>{rfl,I.turns (t':=s.toks) hf λc o hb q=>eb c o (λe=>hb (by simp[e])) (λe=>hb (by simp[e])) (λe=>hb (by simp[e])) (λe=>hb (by simp[e])) q}
  rcases hx with h | h
  ·exact .inl (by simp;ext)
  ·exact .inr (by simp;ext)
 self:=λ_ _ _ _ _ st h=>wpAny_pyIter_zip st.z h
def WG (K:yE) (ta:TA):TI:=λσ H R=>ta σ H λvs H1=>∃t1 t2 a b xs ys,vs=[.ref a,.ref b]/\JF t1 K H1 a xs/\JF t2 K H1 b ys/\R (VL t1 t2 K a b) H1
def Ki {a b:Expr} {ta:TA} {es:List Expr} {kt:Nat} {tp p pos:Pos} (hg:Gl X "zip") (hm:X.mg "zip"= none) (ha:PA X [a,b] ta)
  (hs:starEach [a,b] X.env=[(false,eval a X.env),(false,eval b X.env)]<|>qe_) (hs2:starEach [b] X.env=[(false,eval b X.env)]<|>qe_) :
  PI X (.Tuple es kt tp) (.Call (.Name "zip" p) [a,b] [] pos) (WG X.K ta):=by
 intro pins s σ H R I h;refine Call_ (lB I hg hm Ua (yP (cJ (ha s σ H _ I h) λus s1 z0=>?_) (by rw[hs,hs2]) (by rw[hs2];rfl)));let⟨vs,H1,I1,r1,q1⟩:=z0;let⟨t1,t2,a,b,xs,ys,e,hq,hq',q⟩:=q1;subst e;cases r1 with
 | cons r rr=>
  cases rr with
  | cons r' rr=>
   cases rr;cases r;cases r';let⟨its,rv,pl,hz⟩:=I1.sq hq;let⟨jts,rv',pl',hz'⟩:=I1.sq hq';let la:=pl.lt;let lb:=pl'.lt;refine N8 pl pl' λg S hk=>?_;refine wpAny_pyIter_zip (s:={s1 with heap:=g}) S.z ?_;let I2:Inv X pins σ H1 {s1 with heap:=g}:=I1.kept (t':=s1.toks) hk;let D:Uo (↑s1+4) (↑s1+2) (↑s1+3) ↑s1 (↑s1+1):=by
    constructor <;> (show _≠(_:Nat)) <;> ext
   let L:∀c,c<↑s1->Qq c (↑s1+4) (↑s1+3) ↑s1 (↑s1+1):=λc hc=>by
    constructor <;> (show _≠(_:Nat)) <;> ext
   refine{↑s1+4,[_,_,_,_,_],_,VL t1 t2 X.K a b,H1,rfl,I2,Oe t1 t2 a b _ _ _ _ _ D (L a la) (L b lb),S,λc hc=>?_,q};let hb':↑s1<=c:=by
    simp only[zE,zF,yX] at hc;rcases hc with e | e | e | e | e <;> (subst e;first | exact Nat.le_add_right _ _ | exact zp _)
   exact I1.C0 hb' (I1.bV.fresh hb')
def Fn (bs:List Bool):((List.range ⇑bs).all λi=>(bs[i]?).getD true)=bs.all id:=by
 rw[xM,yt,yt];constructor
 ·intro h b hb
  let⟨i,hi,e⟩:=List.mem_iff_getElem.mp hb;have:=h i (yU.mpr hi);rw[ze hi,e] at this;exact this
 ·intro h i hi
  let hi':=yU.mp hi;rw[ze hi'];exact h _ (yo hi')
def kK (hc:X.calm=true):fb X (.builtin "all") (λxs H Q=>∃(a:vw) (bs:List Bool),xs=[.ref a]/\fM X.K H a (bs.map V.bl)/\Q (.bl (bs.all id)) H):=by
 intro pins s σ H xs us Q I r h;let⟨a,bs,e,hq,q⟩:=h;subst e;cases r with
 | cons r rr=>
  cases rr;cases r;let⟨its,rv,p,hz⟩:=I.list hq;let hlt:a<↑s:=by let⟨o,n,e,_⟩:=p;exact yB e
  let hlen:⇑bs=⇑its:=by have:=⇑rv;rw[zd] at this;exact this
  refine call_all_walk (wK p.isList ?_);refine{↑s,[↑s,a],[↑s],its.toArray.size,_,_,λi=>(bs[i]?).getD true,rfl,Walks.list (A:=X.A.in1) (I.ok.hd hc) _ a (yk hlt) its.toArray,
   {{_,yA _ rfl,rfl,rfl},p.isList.push _},λi v s' Q' E' hP hQ=>?_,λh' tk hk=>?_}
  ·let hP':its[i]?=some v:=by simpa using hP
   let hi:i<⇑bs:=by rw[hlen];exact(zA.mp hP').1
   let hm:(bs.map V.bl)[i]?=some (.bl bs[i]):=by rw[zL,ze hi];rfl
   let⟨u,hu,ru⟩:=rv.get hm;rw[hP'] at hu;cases hu;cases ru;dsimp only at hQ;rw[ze hi] at hQ;exact xh hQ
  ·let e:((List.range its.toArray.size).all λi=>(bs[i]?).getD true)=bs.all id:=by rw[yb,<-hlen];exact Fn bs
   rw[e];exact{.bl _,H,I.kept λb o x=>hk b o (λhm=>by rw[zB.mp hm] at x;exact yf _ (yB x)) (yy _ x),rfl,q}
end
section
variable {X:Cx} {pos:Pos}
end
inductive Ty where
 | bQ | bl | int | str | tup | lst | Vp
noncomputable def Ty.name:Ty->String
 | .bQ=> "NoneType" | .bl=> "bool" | .int=> "int" | .str=> "str" | .tup=> "tuple" | .lst=> "list" | .Vp=> "dict"
noncomputable def QN:Option HO->Option Ty
 | some (.tup _)=>some .tup
 | some (.lst _)=>some .lst
 | some (.mG _ (.lst _))=>some .lst
 | some (.dK _)=>some .Vp
 | some (.dT _)=>some .Vp
 | _=>none
noncomputable def tag (H:Hp):V->Option Ty
 | .bQ=>some .bQ
 | .bl _=>some .bl
 | .int _=>some .int
 | .str _=>some .str
 | .ref a=>QN (H a)
 | _=>none
def LA {H:Hp} {a:vw} {xs:List V} (h:H a=some (.tup xs)):tag H (.ref a)=some .tup:=by show QN (H a)=_;rw[h];rfl
def QM {H:Hp} {a:vw} {xs:List V} (h:H a=some (.lst xs)):tag H (.ref a)=some .lst:=by show QN (H a)=_;rw[h];rfl
def SE {K:yE} {H:Hp} {x:V} {n:Ty} (h:tag H x=some n):tH K H x (.type n.name):=by
 cases x with
 | bQ=>cases h;exact .bQ
 | bl b=>cases h;exact .bl b
 | int i=>cases h;exact .int i
 | str y=>cases h;exact .str y
 | Mh _=>cases h
 | Rw _=>cases h
 | ty _=>cases h
 | ref a=>
  let h:QN (H a)=some n:=h;cases q:H a with
  | none=>rw[q] at h;cases h
  | some o=>
   rw[q] at h;cases o with
   | tup _=>cases h;exact .tup q
   | lst _=>cases h;exact .lst q
   | mG _ o=>
    cases o with
    | lst _=>cases h;exact .mG q
    | _=>cases h
   | dK _=>cases h;exact .dK q
   | dT _=>cases h;exact .dT q
   | _=>cases h
def Ty.sub:Ty->Ty->Bool
 | .bl,.bl=>true | .int,.int=>true | .str,.str=>true | .tup,.tup=>true | .lst,.lst=>true | .Vp,.Vp=>true | .bQ,.bQ=>true
 | .bl,.int=>true
 | _,_=>false
def Rp (K:yE) (a b:Ty):PySem.W.kitOne K (.type a.name) (.type b.name)=some (a.sub b):=by
 cases a <;> cases b <;> first | rfl | decide +kernel | kernel_rfl
def Wl (c:Ty) (ta:TE):TE:=λσ H Q=>ta σ H λx H1=>∃n,tag H1 x=some n/\Q (.bl (n.sub c)) H1
section
variable {X:Cx}
def hZ (c:Ty) (hx:bootBuiltins x=some (.type c.name)) (ha:PE X a ta) (hm:X.mg "isinstance"= none) (hm2:X.mg x=none)
  (hg:Gl X "isinstance"<|>qe_) (hg2:Gl X x<|>qe_) (hn:x≠ "__name__"<|>qb_) (hd:(x == ("__debug__": Str))=false<|>qb_)
  (hs:starEach [a,.Name x p2] X.env=(false,eval a X.env)::starEach [.Name x p2] X.env<|>qe_) (hs2:starEach [.Name x p2] X.env=[(false,eval (.Name x p2) X.env)]<|>qe_) :
  PE X (.Call (.Name "isinstance" p1) [a,.Name x p2] [] pos) (Wl c ta):=by
 let hc:fb X (.builtin "isinstance") (λxs H Q=>∃v n,xs=[v,.ty c.name]/\tag H v=some n/\Q (.bl (n.sub c)) H):=by
  intro pins s σ H xs us Q I r h;let⟨v,n,e,ht,q⟩:=h;subst e;cases r with
  | cons r rr=>
   cases rr with
   | cons r' rr=>
    cases rr;cases r';exact Na I r (SE ht) (Rp _ _ _) λtk=>{.bl _,H,I.tok tk,rfl,q}
 let hb:PE X (.Name x p2) (tC (.ty c.name)):=LM (u:=.type c.name) hg2 hm2 hx rfl hn hd;let ht:=HV (p:=p1) (pos:=pos) hc hg hm (by decide +kernel) (ah ha (ah hb ae hs2) hs) (he:=hs) (hpl:=by rw[hs2];rfl);intro pins s σ H Q I h;let mono:ta σ H (λx H1=>∃n,tag H1 x=some n/\Q (.bl (n.sub c)) H1)->EL (λxs H Q=>∃v n,xs=[v,.ty c.name]/\tag H v=some n/\Q (.bl (n.sub c)) H) (aY ta (aY (tC (.ty c.name)) cE)) σ H Q:=λz=>by
  show ta σ H λx H1=>∃v n,[x,V.ty c.name]=[v,.ty c.name]/\tag H1 v=some n/\Q (.bl (n.sub c)) H1;let e:(λx H1=>∃n,tag H1 x=some n/\Q (.bl (n.sub c)) H1)=(λ(x:V) (H1:Hp)=>∃v n,[x,V.ty c.name]=[v,V.ty c.name]/\tag H1 v=some n/\Q (.bl (n.sub c)) H1):=by
   funext x H1
   apply propext;constructor
   ·rintro⟨n,h1,h2⟩;exact{(x),n,rfl,h1,h2}
   ·rintro⟨v,n,e,h1,h2⟩;cases e;exact{(n),h1,h2}
  rw[<-e];exact z
 exact ht s σ H Q I (mono h)
end
inductive Dt where
 | bQ | bl (b:Bool) | int (i:Int) | str (x:Str) | tup (l:List Dt)
mutual
def Is (H:Hp):Dt->V->Prop
 | .bQ,v=>v=.bQ
 | .bl b,v=>v=.bl b
 | .int i,v=>v=.int i
 | .str x,v=>v=.str x
 | .tup l,v=>∃a vs,v=.ref a/\H a=some (.tup vs)/\aB H l vs
def aB (H:Hp):List Dt->List V->Prop
 | [],vs=>vs=[]
 | d::l,vs=>∃v r,vs=v::r/\Is H d v/\aB H l r
end
mutual
theorem Is.mono (s:aG H H'):∀{d:Dt} {v:V},Is H d v->Is H' d v
 | .bQ,_,h=>by unfold Is at h ⊢;exact h
 | .bl _,_,h=>by unfold Is at h ⊢;exact h
 | .int _,_,h=>by unfold Is at h ⊢;exact h
 | .str _,_,h=>by unfold Is at h ⊢;exact h
 | .tup l,_,h=>by
  unfold Is at h ⊢;let⟨a,vs,e,ha,hl⟩:=h;exact{a,vs,e,s _ _ ha,aB.mono s hl}
theorem aB.mono (s:aG H H'):∀{l:List Dt} {vs:List V},aB H l vs->aB H' l vs
 | [],_,h=>by unfold aB at h ⊢;exact h
 | d::l,_,h=>by
  unfold aB at h ⊢;let⟨v,r,e,hv,hr⟩:=h;exact{v,r,e,Is.mono s hv,aB.mono s hr}
end
theorem aB.len:∀{l:List Dt} {vs:List V},aB H l vs->⇑vs=⇑l
 | [],_,h=>by unfold aB at h;rw[h];rfl
 | d::l,_,h=>by
  unfold aB at h;let⟨v,r,e,_,hr⟩:=h;rw[e,zw,zw,aB.len hr]
theorem aB.get:∀{l:List Dt} {vs:List V} {i:Nat} {v:V},aB H l vs->vs[i]?=some v->∃d,l[i]?=some d/\Is H d v
 | [],_,i,v,h,e=>by unfold aB at h;rw[h] at e;simp at e
 | d::l,_,i,v,h,e=>by
  unfold aB at h;let⟨u,r,e1,hv,hr⟩:=h;subst e1;cases i with
  | zero=>simp at e;subst e;exact{(d),rfl,hv}
  | succ i=>
   let⟨d',h1,h2⟩:=aB.get (i:=i) hr (by simpa using e);exact{d',by simpa using h1,h2}
def aG.A8 (e:upd H p o=H') (h:H p=none):aG H H':=e▸bF h
def BU (e:upd H p o=H'):H' p=some o:=e▸aE
def cz {c:Bool} {A B:Prop} (h:c=true) (q:A):if c=true then A else B:=by rw[yR h];exact q
def cD {c:Bool} {A B:Prop} (h:c=false) (q:B):if c=true then A else B:=by rw[yQ (by rw[h];decide)];exact q
def dj:⇑[a,b]<=sizeLine:=by show 2<=sizeLine;decide
def mW:⇑[a,b,c]<=sizeLine:=by show 3<=sizeLine;decide
def aG.on {H H':Hp} {a:vw} {o:HO} (s:aG H H') (h:H a=some o):H' a=some o:=s a o h
def iO (h:H p=some (.tup [.int a,.int b])):Is H (.tup [.int a,.int b]) (.ref p):=by
 unfold Is;exact{p,_,rfl,h,by simp only[aB,Is];exact{_,_,rfl,rfl,_,_,rfl,rfl,rfl}}
def qY {K:yE} {a:vw} {xs:List V} {g:TG} {tb:TS} {D:Ends} {σ:St} {H:Hp} (Pv:Nat->St->Hp->Prop) (h0:Pv 0 σ H) (hl:∀i σ H,i<=⇑xs->Pv i σ H->fM K H a xs)
  (hs:∀i x σ H p H',xs[i]?=some x->Pv i σ H->aG H H'->H' p=some (.tup [.int (i:Int),x])->g (.ref p) σ H' λσ2 H2=>tb {D with nx:=Pv (i+1),ct:=Pv (i+1),bk:=D.nx} σ2 H2) (hd:∀σ H,Pv ⇑xs σ H->D.nx σ H) :
  ∃W:Nat->Nat->St->Hp->Prop,(∃m,W 0 m σ H)/\∀i m σ H,W i m σ H->
   ((Uh K a).stop i H/\D.nx σ H)\/((Uh K a).go i H/\∃N:St->Hp->Prop,(∀σ' H',N σ' H'->∃m',m'<m/\W (i+1) m' σ' H')/\∀x H',(Uh K a).Mr i H x H'->g x σ H' λσ2 H2=>tb {D with nx:=N,ct:=N,bk:=D.nx} σ2 H2):=by
 refine{λi m σ H=>m=⇑xs-i/\i<=⇑xs/\Pv i σ H,{⇑xs,by simp,yg _,h0},?_};rintro i m σ H ⟨rfl,hi,p⟩;let q:=hl i σ H hi p
 by_cases hlt:i<⇑xs
 ·refine .inr {{xs,xs[i],q,by simp[hlt]},Pv (i+1),λσ' H' p'=>{⇑xs-(i+1),(),rfl,hlt,p'},λx H' y=>?_}
  let⟨pp,v,hp,e1,e2,y⟩:=y;subst e1 e2;exact hs i v σ H pp _ (y xs q) p (bF hp) aE
 ·let e:i=⇑xs:=()
  subst e;exact .inl {{xs,q,zp _},hd σ H p}
section
variable {X:Cx} {pos:Pos}
def Inv.U7 (I2:Inv X pins σ2 H2 s2) (hC:↑s2<=C) (I:Inv X pins σ H s) (hn:H C=none) (hs:Heap.SameBut C s.heap h'):Inv X pins σ H {s with heap:=h'}:=by
 let⟨f0,f1,f2,f3,f4,f5⟩:=I2.C0 hC hn;exact I.turned (t':=s.toks) (λb o hb e=>hs.extBut b o hb e) f0 f1 f3 f4 f5
end
section
variable {X:Cx} {pins:List (vw×Obj)} {σ:St} {H:Hp} {s:vn}
def Sz (n:Nat) (i:Int):Prop:=i.natAbs<2^n
def Sz.mono (h:Sz n i) (k:n<=m):Sz m i:=yc h (Nat.pow_le_pow_right ∅ k)
def Sz.mul (h:Sz n i) (k:Sz m j):Sz (n+m) (i*j):=by
 unfold Sz at *;rw[Int.natAbs_mul,Nat.pow_add];exact Nat.mul_lt_mul'' h k
def Sz.add (h:Sz n i) (k:Sz n j):Sz (n+1) (i+j):=by
 unfold Sz at *;have:=Int.natAbs_add_le i j;rw[Nat.pow_succ];ext
def Sz.le (h:Sz n j) (h0:0<=i) (hl:i<=j):Sz n i:=by
 unfold Sz at *;have:i.natAbs<=j.natAbs:=()
 ext
def Sz.bits (h:Sz n i):Builtin.Int.intBits i<=n:=by
 unfold Builtin.Int.intBits;split
 ·exact yg _
 ·rename_i hz
  have:i.natAbs≠0:=by
   intro e;have:i=0:=Int.natAbs_eq_zero.mp e;subst this;exact hz rfl
  have:=(Nat.log2_lt this).mpr h;ext
def Vx (i j:Int):Prop:=Sz 20000 i/\Sz 20000 j
def Vy (_ j:Int):Prop:=0<j/\Sz 8999 j
def qG:nQ X (binaryOp .Mult) (rI Vx λi j=>.int (i*j)):=Ul λ_ _ _ _ _ _ _ hc q=>mul_int q (.of_bits (zN hc.1.bits ∅) (zN hc.2.bits ∅))
def qH:nQ X (binaryOp .FloorDiv) (rI Vy λi j=>.int (i/j)):=Ul λi j _ _ _ _ _ hc q=>by
 let h1:(0:Int)<j:=hc.1;refine floordiv_int () (by rw[vh i ()];exact q) (.inl (PyProof.noPylong_of_log2 ?_));let h2:j.natAbs<2^8999:=hc.2;let h3:j.natAbs≠0:=()
 exact xG ((Nat.log2_lt h3).mpr h2) ∅
def Qj {ns:List Int} {j:Int} (h0:0<=j) (h1:j<⇑ns):tm (ns.map V.int) j=some (.int (ns.getD j.toNat 0)):=by
 let⟨k,rfl⟩:=yO h0;refine bz ?_;let hk:k<⇑ns:=()
 rw[zL,ze hk];simp[List.getD,hk]
end
section
variable {X:Cx} {pos:Pos}
def R4 (K:yE):R2:=λx y H Q=>∃l b xs zs,x=.ref l/\y=.ref b/\fM K H l xs/\fM K H b zs/\⇑xs+⇑zs<=sizeLine/\∀p,H p=none->Q (.ref p) (upd H p (.lst (xs++zs)))
def cT:nQ X (binaryOp .Add) (R4 X.K):=by
 intro pins s σ H x y v u Q I rx ry h;let⟨l,b,xs,zs,rfl,rfl,hH,hB,hz,q⟩:=h;cases rx;cases ry;let⟨its,r,p,z⟩:=I.list hH;let⟨jts,r',p',z'⟩:=I.list hB;let l1:=⇑r;let l2:=⇑r';let⟨⟨cls,dd,data,sl⟩,ho,hc,n,hd⟩:=id p.isList;let⟨⟨cls2,dd2,data2,sl2⟩,ho2,hc2,n2,hd2⟩:=id p'.isList;simp only at hc hd hc2 hd2;subst hc hd hc2 hd2;refine concat_meets {_,ho,rfl} {_,ho2,rfl} noFill_list_add seq_list_add PySem.F.slot_list_add PySem.F.entry_list_add (PySem.F.args_list_add_2 _ _) (list_addW l b its.toArray jts.toArray n n2 dd dd2 sl sl2 (by rw[yb,yb];ext)) {ho,ho2,?_};let ea:its.toArray++jts.toArray=(its++jts).toArray:=by simp
 rw[ea];exact{.ref _,_,I.Tu (t':=s.toks) (r.append r') (by rw[zj];ext),rfl,q _ I.fresh}
end
def Ca (n:Nat) (x:Int×Int):Prop:=Sz n x.1/\Sz n x.2
theorem Ca.red (ht:0<=t) (hb:0<b) (h1:Sz n t) (h2:Sz n b):Ca n (Lm.red t b):=by
 let⟨g,g0,_,_,p,l⟩:=Lm.mY (t:=t) hb;exact{h1.le (Lm.AJ ht) (Lm.Fi ht),h2.le (y8 p) l}
theorem Ca.add (hx:Lm.Rd x) (hy:Lm.Rd y) (h:Ca n x) (k:Ca m y):Ca (n+m+1) (Lm.add x y):=by
 let⟨a,b,_⟩:=hx.pos;let⟨c,d,_⟩:=hy.pos;refine Ca.red (Int.add_nonneg (x9 a ()) (x9 c ())) (xA b d) ?_ ((h.2.mul k.2).mono ());refine Sz.add (h.1.mul k.2) ?_;have:=k.1.mul h.2;rw[Nat.add_comm] at this;exact this
noncomputable def dec (n:Int):Str:=Str.ofString (toString n)
def dN {x y:Str} (h:x.cps.toList=y.cps.toList):x=y:=by
 cases x;cases y;simp only[Str.mk.injEq];exact Array.toList_inj.mp h
def bD (x y:Str):(x++y).cps.toList=x.cps.toList++y.cps.toList:=Array.toList_append ..
def bo (x y:Str):⇑(x++y)=⇑x+⇑y:=Array.size_append ..
def NH (x y z:Str):x++y++z=x++(y++z):=dN (by rw[bD,bD,bD,bD,zG])
def vO (m:Nat):(dec (m:Int)).cps.toList=(Nat.toDigits 10 m).map Char.toNat:=PySem.W.KIN.signs_num m
def FY (m:Nat):⇑(dec (m:Int))=⇑(Nat.toDigits 10 m):=by
 let h:=y6 List.length (vO m);rw[zd,yT] at h;exact h
def RE (h:c∈(Nat.toDigits 10 m).map Char.toNat):48<=c/\c<=57:=by
 let⟨ch,hc,e⟩:=zI.mp h;let r:=Nat.isDigit_of_mem_toDigits ∅ ∅ hc;rw[<-e];simp only[Char.isDigit,zP,xE] at r;exact{(r.1),r.2}
section
variable {X:Cx}
end
section
variable {X:Cx}
def S6:V->Option Int->Option Int->Hp->VK->Prop:=λx lo hi H Q=>∃t:Str,x=.str t/\⇑t<=sizeLine/\Q (.str (PySem.Txt.slice t lo hi)) H
def JZ:Qo X S6:=by
 intro pins s σ H x v vl vu lo hi sl Q I rx hs pl pu h;let⟨t,rfl,hz,q⟩:=h;let⟨tk,rfl⟩:=rx;let⟨o,ho,hc,hd⟩:=hs;let fin:∀(l u:Option (Int×Tok)),l.map (·.1)=lo->u.map (·.1)=hi->partValue l=vl->partValue u=vu->
   ∃T id,typeLookup (.type T) "__getitem__"= pure (some (.builtin id))/\s.TypeIs (.str t tk) T/\wpAny (model X.prog X.w) X.A (getItem (.str t tk) (.ref sl)) (EP X pins σ Q) X.xe s:=by
  intro l u e1 e2 e3 e4;subst e1 e2 e3 e4;exact{"str",_,F.slot_str_getitem.lookup,wO _ _ _,wpAny_getItem_str_slice (l:=l) (u:=u) (st:=none) {(o),ho,hc,hd} rfl
   (post_val_or_str {zN (PySem.Txt.slice_le t _ _) hz,λt' k=>{.str _,H,I.tok _,{_,rfl},q}})}
 cases pl with
 | none=>
  cases pu with
  | none=>exact fin none none rfl rfl rfl rfl
  | int j tj=>exact fin none (some (j,tj)) rfl rfl rfl rfl
 | int i ti=>
  cases pu with
  | none=>exact fin (some (i,ti)) none rfl rfl rfl rfl
  | int j tj=>exact fin (some (i,ti)) (some (j,tj)) rfl rfl rfl rfl
noncomputable def Vv (x:Str):It:={λi _=>i<⇑x,λi H v H'=>H'=H/\∃c,x.cps[i]?=some c/\v=.str {#[c]},λi _=>⇑x<=i}
def Of {P:vo} {w:vq} {K:yE} {tg:Expr} (x:Str) (t:Tok) (it:vw) (ty:String) (hty:ty ="str_ascii_iterator"\/ty ="str_iterator"):Turn P w K tg (Vv x) [it] it (λi h=>i<=⇑x/\h.IsStrIter it ty x t i) where
 mem:=by simp
 obj:=λi h st b hb=>by
  let e:b=it:=by simpa using hb
  subst e;let⟨_,o,e,c,d⟩:=st;exact{o,e,λv z=>by rw[d] at z;cases z}
 keep:=λi h h' st k=>{st.1,let ⟨o,ho,r⟩:=st.2;{o,k it (by simp) o ho,r}}
 item:=by
  intro X hP hw hK hc i pins s σ H E I hf st hg;subst hP hw hK;let W:Walks X.prog X.w X.A it [it] [it] x.cps.size (SignAt x) (λi h=>h.IsStrIter it ty x t i):=by
   rcases hty with rfl | rfl
   ·exact Walks.strAscii (I.ok.hd hc) it x t
   ·exact Walks.strWide (I.ok.hd hc) it x t
  refine W.item i s _ _ hg st.2 λv h' tk hv z' kk=>?_;let⟨c,u,hcx,rfl⟩:=hv;let I1:Inv X pins σ H {s with heap:=h',toks:=tk}:=I.turns hf λb o hb e=>kk b o (by simpa using hb) e;let⟨o,e,cc,d⟩:=id z';let hgl:i<⇑x:=hg;refine{_,rfl,Ef (s:={s with heap:=h',toks:=tk}) (n:=ty) e cc d ?_ {.str {#[c]},H,I1,{(u),rfl},{(rfl),c,hcx,rfl},{(hgl),z'},λb hb=>(hf b hb).1}};rcases hty with rfl | rfl <;> decide
 done:=by
  intro X hP hw hK hc i pins s σ H E I hf st hg;subst hP hw hK;let hi:i=x.cps.size:=Nat.le_antisymm st.1 hg;subst hi;let W:Walks X.prog X.w X.A it [it] [it] x.cps.size (SignAt x) (λi h=>h.IsStrIter it ty x t i):=by
   rcases hty with rfl | rfl
   ·exact Walks.strAscii (I.ok.hd hc) it x t
   ·exact Walks.strWide (I.ok.hd hc) it x t
  exact W.done s _ _ st.2 λh' tk eb=>{rfl,I.turns hf λb o hb e=>eb b o (by simpa using hb) e}
 self:=λA i s Q E z h=>by
  rcases hty with rfl | rfl
  ·exact wpAny_pyIter_striter_ascii z.2 h
  ·exact wpAny_pyIter_striter_wide z.2 h
def WI (tl:TE):TI:=λσ H R=>tl σ H λx H1=>∃t,x=.str t/\R (Vv t) H1
def O0 {tg l:Expr} {tl:TE} (hl:PE X l tl):PI X tg l (WI tl):=by
 intro pins s σ H R I h;refine cJ (hl s σ H _ I h) λv s1 z0=>?_;let⟨x,H1,I1,r1,q1⟩:=z0;let⟨t,e,q⟩:=q1;subst e;let⟨tk,rfl⟩:=r1;refine wpAny_pyIter_strU ?_;refine{↑s1,[↑s1],_,_,H1,rfl,I1.kept (t':=s1.toks) λb o e=>yy _ e,Of t tk _ (strIterType t) ?_,{yg _,_,yA _ rfl,rfl,rfl},λb hb=>?_,q}
 ·unfold strIterType
  split
  ·exact .inl rfl
  ·exact .inr rfl
 ·let e:b=↑s1:=by simpa using hb
  subst e;exact I1.C0 (zp _) (I1.bV.fresh (zp _))
theorem DA:∀(l:List (Str×Tok)),Vals ((l.map (·.1)).map V.str) (strValues l)
 | []=>.nil
 | (x,t)::r=>.cons {(t),rfl} (DA r)
def S5:V->List V->Hp->VK->Prop:=λx vs H Q=>∃(t y:Str),x=.str t/\vs=[.str y]/\⇑y=1/\⇑t+2<=sizeLine/\∀l,H l=none->Q (.ref l) (upd H l (.lst ((PySem.Txt.split t y).map V.str)))
def jw:Ug X "str.split" S5:=by
 intro pins s σ H x vs v us Q I rx rv h;let⟨t,y,rfl,rfl,hy,hz,q⟩:=h;let⟨tk,rfl⟩:=rx;let⟨u,rfl,tk',rfl⟩:=rv.one;let hy':(⇑y == 0)=false:=by rw[hy];rfl
 let hle:=split_le t y;let fin:∀(l:List (Str×Tok)) (k:Nat),l.map (·.1)=PySem.Txt.split t y->
   EP X pins σ Q (.ref ↑s) {s with heap:=s.heap.push {cls:=.type "list",data:=.seq (strValues l).toArray},toks:=k}:=λl k e=>
  {.ref _,_,I.Tu (t':=k) (by rw[<-e];exact DA l) (by rw[zd];ext),rfl,q _ I.fresh}
 cases h1:(decide (⇑t<⇑y)||decide (Builtin.Str.strKind t<Builtin.Str.strKind y))
 ·cases hf:(Builtin.Str.occurrences t y 0 ⇑t (⇑t+1)).isEmpty
  ·let es:PySem.Txt.split t y=Builtin.Str.partsBetween t (Builtin.Str.occurrences t y 0 ⇑t (⇑t+1)) ⇑y:=by
    unfold PySem.Txt.split;rw[h1,hf];rfl
   refine wB F.slot_str_split (wO s t tk) F.entry_str_split (F.args_str_split_2 _ _) (meets_str_split_sep t y tk tk' h1 hy' hf () (by rw[<-es];ext)) ?_;rw[strsFrom_eq];exact fin (numbered s.toks _) _ ((numbered_texts _ _).trans es.symm)
  ·let es:PySem.Txt.split t y=[t]:=by
    unfold PySem.Txt.split;rw[h1,hf];rfl
   refine wB F.slot_str_split (wO s t tk) F.entry_str_split (F.args_str_split_2 _ _) (meets_str_split_not_found t y tk tk' h1 hy' hf) ?_;exact fin [(t,tk)] _ es.symm
 ·let es:PySem.Txt.split t y=[t]:=by
   unfold PySem.Txt.split;rw[h1];rfl
  refine wB F.slot_str_split (wO s t tk) F.entry_str_split (F.args_str_split_2 _ _) (meets_str_split_cannot_occur t y tk tk' h1) ?_;exact fin [(t,tk)] _ es.symm
def Q6:V->List V->Hp->VK->Prop:=λx vs H Q=>∃(t y:Str),x=.str t/\vs=[.str y]/\Q (.bl (decide (0+⇑y<=⇑t)&&Builtin.Str.subAt t y 0)) H
def CV:Ug X "str.startswith" Q6:=by
 intro pins s σ H x vs v us Q I rx rv h;let⟨t,y,rfl,rfl,q⟩:=h;let⟨tk,rfl⟩:=rx;let⟨u,rfl,tk',rfl⟩:=rv.one;exact wB F.slot_str_startswith (wO s t tk) F.entry_str_startswith (F.args_str_startswith_2 _ _) (gives_str_startswith t y tk tk').meets {.bl _,H,I,rfl,q}
def Gg:fb X (.type "int") (λxs H Q=>∃(t:Str) (n:Int),xs=[.str t]/\PySem.intText? t=some n/\⇑t<=640/\Q (.int n) H):=by
 intro pins s σ H xs us Q I r h;let⟨t,n,rfl,hn,hl,q⟩:=h;let⟨u,rfl,tk,rfl⟩:=vals1 r;exact PySem.W.KIN.call_text hn hl {.int n,H,I.tok _,{_,rfl},q}
end
def join_one (sep x:Str):Str.join sep [x]=x:=rfl
def bu (sep x y:Str) (r:List Str):Str.join sep (x::y::r)=x++sep++Str.join sep (y::r):=rfl
theorem Iw:∀{ps qs:List Str},ps≠[]->qs≠[]->(∀p∈ps,c∉p.cps.toList)->(∀q∈qs,c∉q.cps.toList)->Str.join {#[c]} ps=Str.join {#[c]} qs->ps=qs
 | [],_,h,_,_,_,_=>absurd rfl h
 | _,[],_,h,_,_,_=>absurd rfl h
 | [p],[q],_,_,_,_,h=>by rw[join_one,join_one] at h;rw[h]
 | [p],q::q2::r,_,_,hp,_,h=>by
  rw[join_one,bu] at h;let e:=y6 (λz:Str=>z.cps.toList) h;simp only[bD] at e;exact absurd (show c∈p.cps.toList by rw[e];simp) (hp p zt)
 | p::p2::r,[q],_,_,_,hq,h=>by
  rw[join_one,bu] at h;let e:=y6 (λz:Str=>z.cps.toList) h;simp only[bD] at e;exact absurd (show c∈q.cps.toList by rw[<-e];simp) (hq q zt)
 | p::p2::r,q::q2::r',_,_,hp,hq,h=>by
  rw[bu,bu] at h;let e:=y6 (λz:Str=>z.cps.toList) h;simp only[bD,zG] at e;let⟨e1,e2⟩:=Lm.Md (hp p zt) (hq q zt) (show p.cps.toList++c::(Str.join {#[c]} (p2::r)).cps.toList=q.cps.toList++c::(Str.join {#[c]} (q2::r')).cps.toList from e);let ih:=Iw (ps:=p2::r) (qs:=q2::r') (by simp) (by simp) (λz hz=>hp z (zr _ hz)) (λz hz=>hq z (zr _ hz)) (dN e2);rw[ih,dN e1]
def gs (ne:ps≠[]) (fr:∀p∈ps,c∉p.cps.toList):PySem.Txt.split (Str.join {#[c]} ps) {#[c]}=ps:=by
 refine Iw ?_ ne (PySem.StrLaws.split_free _ c) fr (PySem.StrLaws.join_split _ _);intro z;have:=split_pos (Str.join {#[c]} ps) {#[c]};rw[z] at this;exact absurd this ∅
def ES (ha:c∉a.cps.toList) (hb:c∉b.cps.toList):PySem.Txt.split (a++{#[c]}++b) {#[c]}=[a,b]:=by
 refine gs (ps:=[a,b]) (by simp) λp hp=>?_;rcases zE.mp hp with rfl | hp
 ·exact ha
 ·rw[zB.mp hp];exact hb
def split1 (ha:c∉a.cps.toList):PySem.Txt.split a {#[c]}=[a]:=by
 refine gs (ps:=[a]) (by simp) λp hp=>?_;rw[zB.mp hp];exact ha
def SU (ha:c∉a.cps.toList) (hb:c∉b.cps.toList) (hd:c∉d.cps.toList):PySem.Txt.split (a++{#[c]}++b++{#[c]}++d) {#[c]}=[a,b,d]:=by
 let e:a++({#[c]}:Str)++b++⟨#[c]⟩++d=Str.join ⟨#[c]⟩ [a,b,d]:=by
  rw[bu,bu,join_one];simp only[NH]
 rw[e];refine gs (ps:=[a,b,d]) (by simp) λp hp=>?_;rcases zE.mp hp with rfl | hp
 ·exact ha
 rcases zE.mp hp with rfl | hp
 ·exact hb
 ·rw[zB.mp hp];exact hd
def vN (h:n<0):dec n ="-" ++ dec (-n):=by
 obtain⟨m,rfl⟩:∃m:Nat,n=Int.negSucc m:={(-n-1).toNat,()}
 refine dN ?_;rw[bD];let e1:(dec (Int.negSucc m)).cps.toList=("-" ++ toString (m+1)).toList.map Char.toNat:=PyProof.Rows.signs_ofString _;let e2:(dec (-(Int.negSucc m))).cps.toList=(toString (m+1)).toList.map Char.toNat:=PyProof.Rows.signs_ofString _;rw[e1,e2,String.toList_append,zm];rfl
def kI {n:Nat} {c:Nat} (h:c∈(dec (n:Int)).cps.toList):48<=c/\c<=57:=by
 rw[vO] at h;exact RE h
def Nr {n:Nat} (h:(dec (n:Int)).cps[0]?=some 48):⇑(dec (n:Int))=1:=by
 rcases Nat.eq_zero_or_pos n with rfl | hn
 ·rw[FY];decide
 ·let⟨c,r,e,hc⟩:=Lm.PN n hn
  rw[<-xj,vO,e] at h;simp only[zk,List.getElem?_cons_zero,xN] at h;exact absurd (Char.toNat_inj.mp (by rw[h];rfl)) hc
def IW {n:Nat}:1<=⇑(dec (n:Int)):=by
 rw[FY];exact PySem.toDigits_len_ge 10 n
def Em {n k:Nat} (hk:0<k) (h:n<10^k):⇑(dec (n:Int))<=k:=by rw[FY];exact Lm.Tv hk h
def TL (a:Option Int) (n:Nat):Builtin.Str.strSliceIndices a none 1 n=Builtin.Str.strSliceIndices a (some (n:Int)) 1 n:=by
 let h:¬((n:Int)<0):=()
 let e:max (0:Int) (min (n:Int) (n:Int))=n:=()
 simp only[Builtin.Str.strSliceIndices,h,wu,e,show((1:Int)>0)=True from by simp,w8]
def TK (b:Option Int) (n:Nat):Builtin.Str.strSliceIndices none b 1 n=Builtin.Str.strSliceIndices (some ((0:Nat):Int)) b 1 n:=by
 let h:¬(((0:Nat):Int)<0):=()
 let e:max (0:Int) (min ((0:Nat):Int) (n:Int))=0:=()
 simp only[Builtin.Str.strSliceIndices,h,wu,e,show((1:Int)>0)=True from by simp,w8]
def DI (x:Str) (hab:a<=b) (hb:b<=⇑x):(PySem.Txt.slice x (some (a:Int)) (some (b:Int))).cps.toList=(x.cps.toList.drop a).take (b-a):=by
 unfold PySem.Txt.slice;split
 ·rename_i h
  rw[PySem.StrLaws.strSliceIndices_plain hab hb] at h;simp only[wk,yY,vb,zd,zT] at h;let hl:⇑x.cps.toList=⇑x:=yT;let ea:a=0:=()
  let eb:b-a=⇑x.cps.toList:=()
  rw[eb,ea,List.drop_zero,zO]
 ·exact PySem.StrLaws.sliced_plain x hab hb
def pB (x:Str) (h:a<=⇑x):(PySem.Txt.slice x (some (a:Int)) none).cps.toList=x.cps.toList.drop a:=by
 let e:PySem.Txt.slice x (some (a:Int)) none=PySem.Txt.slice x (some (a:Int)) (some ((⇑x:Nat):Int)):=by
  unfold PySem.Txt.slice;rw[TL]
 let hl:⇑x.cps.toList=⇑x:=yT;rw[e,DI x h (zp _),xx (by rw[xC];ext)]
def Hk (x:Str) (h:b<=⇑x):(PySem.Txt.slice x none (some (b:Int))).cps.toList=x.cps.toList.take b:=by
 let e:PySem.Txt.slice x none (some (b:Int))=PySem.Txt.slice x (some ((0:Nat):Int)) (some (b:Int)):=by
  unfold PySem.Txt.slice;rw[TK]
 rw[e,DI x (yg _) h,List.drop_zero,Nat.sub_zero]
def lj {K:yE} {mg:Str->Option vm} {base:vx} {x:Str} {C:vw} {bm:List vm} {newId:String} (P:vo) (m:Mod K mg base) (e:PySem.W.nsIn K mainGlobals x=some (some (.ref C)))
  (q:PySem.W.excIn K C bm newId=true):OwnCls x C bm newId mg base:=by
 let⟨mb,hb,hbb⟩:=m.blt;let⟨o0,es0,ep0,hg0,hd0,sk0,look⟩:=m.glob;let fr:∀y,y∉(es0.toList.filterMap λ(d:DictEntry)=>match d.key with | .str z _=>some z | _=>none)->mg y=none:=λy hy=>by
  rw[<-look y];show(es0.find? λd=>d.key.isStr y).map (·.val)=none;cases hf:es0.find? λd=>d.key.isStr y with
  | none=>rfl
  | some d=>
   exfalso;let hm:=Array.mem_of_find?_eq_some hf;let hk:=Array.find?_some hf;let⟨z,t,ez⟩:=sk0 d hm;let ezy:z=y:=by rw[ez] at hk;exact eq_of_beq (show(z == y)=true from hk)
   exact hy (vg.mpr {d,by simpa using hm,by rw[ez,ezy]})
 exact PySem.W.own_of_in (p:=P) (loose:=es0.toList.filterMap λ(d:DictEntry)=>match d.key with | .str z _=>some z | _=>none) m.Qy {m.glob,hb,m.nolimit,hbb,λy _ hl _ _ _=>fr y hl} e q
structure JG (P:vo) (w:vq) (fs:List vw) (H H':Hp) (h B h':vx):Prop where
 keep:∀b o,h.get? b=some o->H b=none->b∉fs->B.get? b=some o
 slot:∀b o,h.get? b=some o->H b=none->b∈fs->∃sl,h'.get? b=some {o with slots:=sl}
 free:∀b o,h.get? b=some o->H b=none->H' b=none
 there:∀b o,h.get? b=some o->b∉fs->∃o',B.get? b=some o'
 mz:∀b xs,H b=some (.tup xs)->H' b=some (.tup xs)
 kE:∀b o u,H b=some (.mG o u)->H' b=some (.mG o u)
 mC:∀b ps,H b=some (.Oh ps)->∃more,H' b=some (.Oh (ps++more))
 bV:oH P w H' B
 jH:B.StaysIn h'
section
variable {P:vo} {w:vq} {fs:List vw} {H H':Hp} {h B h' h2:vx}
def JG.un (f:JG P w fs H H' h B h') (FT:∀b∈fs,H b=none):Un fs [] H H' h h' where
 keep:=λb o e n hb _=>f.jH b o (f.keep b o e n hb)
 slot:=λb o e n hb _=>f.slot b o e n hb
 free:=λb o e n _=>f.free b o e n
 there:=λb o e _=>by
  by_cases hb:b∈fs
  ·let⟨sl,q⟩:=f.slot b o e (FT b hb) hb
   exact{_,q}
  ·let⟨o',q⟩:=f.there b o e hb
   exact{o',f.jH b o' q}
 mz:=f.mz
 kE:=f.kE
 mC:=f.mC
def JG.on (f:JG P w fs H H' h B h') (u:h'.UpToSlots h2) (st:B.StaysIn h2) (nf:∀b∈fs,∃o,h'.get? b=some o/\∀vs,o.data≠.fields vs):JG P w fs H H' h B h2:=
 {f.keep,λb o e n hb=>by
  let⟨sl,q⟩:=f.slot b o e n hb;let⟨o1,q1,nd⟩:=nf b hb;rw[q] at q1;cases q1;let⟨sl2,q2⟩:=u b _ q nd;exact{(sl2),q2},f.free,f.there,f.mz,f.kE,f.mC,f.bV,st}
end
def JE (P:vo) (w:vq):GP:=λouter H s E e s'=>∃(a:vw) (cls a0:vm) (B:vx) (H':Hp),e=.ref a/\s'.os=s.os/\AllBare s'.gens/\Heap.FlyingW B outer a cls a0 s'.heap/\JG P w (jG outer) H H' s.heap B s'.heap/\E cls none H'
def Bo (hf:env.frame=some L):jG (env::outer)=L::jG outer:=by
 unfold jG;rw[w5,hf]
def SG (C:vw) (te:TA) (E:XK):TS:=λ_ σ H=>te σ H λvs H1=>⇑vs<=sizeLine/\E (.ref C) none H1
section
variable {P:vo} {w:vq} {K:yE} {mg:Str->Option vm} {base:vx} {N:List Str} {qual:Str} {scope:Scope} {f:vw} {cdv:vm} {A:vt} {outer:List Env} {s₀:vn} {H₀:Hp} {E:XK}
def HN
  (hC0:PySem.W.nsIn K mainGlobals x=some (some (.ref C))) (hQ0:PySem.W.excIn K C bm newId=true) (FB:ExcBaseFacts Bn newId initId bm) (hg:Gl (gX (JE P w) P w K mg base N qual scope f cdv A outer s₀ H₀ E) x)
  (ha:PA (gX (JE P w) P w K mg base N qual scope f cdv A outer s₀ H₀ E) (e₀::es) ta) (hd:(x == ("__debug__": Str))=false<|>qb_)
  (hs:starEach (e₀::es) (gX (JE P w) P w K mg base N qual scope f cdv A outer s₀ H₀ E).env=(false,eval e₀ (gX (JE P w) P w K mg base N qual scope f cdv A outer s₀ H₀ E).env)::starEach es (gX (JE P w) P w K mg base N qual scope f cdv A outer s₀ H₀ E).env<|>qe_)
  (hpl:(backTo cpos (starEach es (gX (JE P w) P w K mg base N qual scope f cdv A outer s₀ H₀ E).env)).any (·.1)=false<|>qe_) :
  PS (gX (JE P w) P w K mg base N qual scope f cdv A outer s₀ H₀ E) (.Raise (some (.Call (.Name x np) (e₀::es) [] cpos)) none pos) (SG C ta E):=by
 intro pins s σ H D I h;let O:OwnCls x C bm newId mg base:=lj P I.ok.mod hC0 hQ0;let⟨tl,Nn,nm,q,bs,hdct,sn,sub,ab,col,dd,k0,k1,k2,k3,k5,mN,hC,hN,hni,T⟩:=O.obj;refine wpAny_Raise_call_subT (C:=C) (nm:=nm) (q:=q) (N:=Nn) (bs:=bs) (bm:=tl) (hdct:=hdct) (sn:=sn) (sub:=sub) (ab:=ab) (col:=col) (dd:=dd) (k0:=k0) (k1:=k1) (k2:=k2) (k3:=k3) (k5:=k5)
  FB (mN:=mN) (T.hasType FB.hasBase) (I.ok.hd rfl) (by rw[hs];show(false||(backTo cpos (starEach es (gX (JE P w) P w K mg base N qual scope f cdv A outer s₀ H₀ E).env)).any (·.1))=false;rw[hpl];rfl) hni (fW I hg O.bound {rfl,?_} hd)
 let hA:=ha (pos:=cpos) s σ H _ I h;rw[hs] at hA ⊢;refine Calls.evalArgs_plain (xc hA (λus s2 z0=>?_) λ_ _ y=>y);let⟨vs,H2,I2,r2,hl,q2⟩:=z0;refine{rfl,?_,I2.bk _ _ hC,hN.keeps I2.bk,T.keeps I2.bk,λh' e mk=>?_}
 ·show ⇑us<=sizeLine
  rw[<-⇑r2];exact hl
 show wpAny (model P w) (A.deeper (envOfC qual scope ↑s₀ f cdv)) (leaving (envOfC qual scope ↑s₀ f cdv) (.ref e)) (λ_ s''=>JE P w outer H₀ s₀ E (.ref e) s'') (λe' s''=>JE P w outer H₀ s₀ E e' s'') {s2 with heap:=h'};let hfr:jG (envOfC qual scope ↑s₀ f cdv::outer)=↑s₀::jG outer:=Bo rfl;let hst:s2.heap.FunFrames base (envOfC qual scope ↑s₀ f cdv::outer):=I2.stack;let hin:∀env∈(envOfC qual scope ↑s₀ f cdv::outer),∀a,env.frame=some a->a∈jG (envOfC qual scope ↑s₀ f cdv::outer):=λenv he a hf=>vg.mpr {(env),he,hf};let hl:=PySem.W.funFrames_hide (as:=jG (envOfC qual scope ↑s₀ f cdv::outer)) hst hin;refine wpAny_leaves_madeW (base:=PySem.W.hideAll s2.heap (jG (envOfC qual scope ↑s₀ f cdv::outer))) (h:=s2.heap) I2.ok.frames rfl (λb o q=>PySem.W.of_hideAll _ q) hl mk (λh'' t fl _ _ ups=>?_);let low:∀b o,s₀.heap.get? b=some o->b≠↑s₀:=λb o e z=>absurd (yB e) (by rw[z];exact yf _);let nin:∀b o,s₀.heap.get? b=some o->b∉jG outer->b∉jG (envOfC qual scope ↑s₀ f cdv::outer):=λb o e n z=>by
  rw[hfr] at z;rcases zE.mp z with z | z
  ·exact low b o e z
  ·exact n z
 let mF:∀b:vw,b∉(gX (JE P w) P w K mg base N qual scope f cdv A outer s₀ H₀ E).ex:=λb z=>absurd (show b∈([]:List vw) from z) (by simp);refine{e,.ref C,.ref t,_,H2,rfl,I2.os,I2.bare,fl,{λb o q n hb=>wY _ (I2.base.keep b o q n hb (mF b)) (nin b o q hb),λb o q n hb=>?_,λb o q n=>I2.base.free b o q n (mF b),λb o q hb=>?_,I2.base.mz,I2.base.kE,I2.base.mC,λa o q=>?_,fl.1},q2}
 ·let⟨sl,e1⟩:=I2.base.slot b o q n hb (mF b)
  let⟨_,o1,e2,nd⟩:=I2.ok.nG.mem hb;let e3:=mk.keeps _ _ e1;let e2':s₀.heap.get? b=some o1:=e2;rw[q] at e2';cases e2';let⟨sl2,e4⟩:=ups b _ e3 nd;exact{(sl2),e4}
 ·let⟨o',e1⟩:=I2.base.there b o q (mF b)
  exact{o',wY _ e1 (nin b o q hb)}
 ·refine(I2.bV a o q).jH (λb u hb e1=>wY _ e1 λz=>?_) (λ_ z=>z) λ_ _ z=>z
  let n:=I2.kP b z;rcases hb with rfl | hb
  ·rw[q] at n;cases n
  ·rw[hb] at n;cases n
def NS.Xx {x:Str} {st:Stmt} {fd:vv} {ps:List Str} {k:Nat} {sp:Sp} (F:NS K x qual st f fd) (S:d6 N ps (aT st)) (len:∀vs H Q E,sp vs H Q E->⇑vs=⇑ps)
  (hbody:∀(cdv:vm) (A:vt) (outer:List Env) (s:vn) (H:Hp) (vs:List V) (Q:VK) (E:XK),eT k (A.deeper (envOfC qual (aT st) ↑s f cdv))->sp vs H Q E->
   ∃t,Ce (gX (JE P w) P w K mg base N qual (aT st) f cdv A outer s H E) (bZ st) t/\t {nx:=λ_ H'=>Q .bQ H',rt:=Q} (start N vs) H):cO P w K mg base (JE P w) (k+1) f fd ps sp:=by
 let⟨oc,od,kV,doc,pm,an,cdv,ct,osl,rfl,lk,hcd⟩:=F.ex;exact PX lk hcd S len λA outer s H vs Q E hr hsp=>hbody cdv A outer s H vs Q E hr hsp
end
abbrev Cx.held (X:Cx) (e:vm):Cx:={X with A:=X.A.mark (some e),calm:=false}
theorem Cx.Ok.held {X:Cx} (ok:X.Ok) (e:vm):(X.held e).Ok:=
 {ok.mod,ok.kind,ok.glob,ok.blt,ok.above,ok.inj,ok.has,ok.T9,λz=>(nomatch (show false=true from z)),ok.frames,ok.Ui,ok.VE,ok.bs,ok.NY,ok.mF,ok.KJ,ok.nG,ok.FT}
def Cx.Ok.j7 {X:Cx} {e:vm} (ok:(X.held e).Ok) (hd:X.calm=true->X.A.handled=none):X.Ok:=
 {(ok.mod),ok.kind,ok.glob,ok.blt,ok.above,ok.inj,ok.has,ok.T9,hd,ok.frames,ok.Ui,ok.VE,ok.bs,ok.NY,ok.mF,ok.KJ,ok.nG,ok.FT}
section
variable {X:Cx} {pins:List (vw×Obj)} {σ:St} {H:Hp} {s:vn} {e:vm}
theorem Inv.held (I:Inv X pins σ H s) (e:vm):Inv (X.held e) pins σ H s:={I.ok.held e,I.os,I.bare,I.base,I.loc,I.cell,I.free,I.jy,I.pin,I.bV,I.len}
theorem Inv.j7 (I:Inv (X.held e) pins σ H s) (hd:X.calm=true->X.A.handled=none):Inv X pins σ H s:={I.ok.j7 hd,I.os,I.bare,I.base,I.loc,I.cell,I.free,I.jy,I.pin,I.bV,I.len}
theorem SP.j7 (hd:X.calm=true->X.A.handled=none) (h:SP (X.held e) pins D f s'):SP X pins D f s':=by
 cases f with
 | next=>let⟨σ',H',I,q⟩:=h;exact{σ',H',I.j7 hd,q}
 | brk=>let⟨σ',H',I,q⟩:=h;exact{σ',H',I.j7 hd,q}
 | cont=>let⟨σ',H',I,q⟩:=h;exact{σ',H',I.j7 hd,q}
 | ret u=>let⟨v,σ',H',I,r,q⟩:=h;exact{v,σ',H',I.j7 hd,r,q}
end
def UG (i:Nat) (sp:Sp) (t:TA) (C:vw) (th:TS):TS:=λD σ H=>t σ H λvs H1=>sp vs H1 (λv H2=>bW i v σ H2 D.nx) λcls _ H2=>cls=.ref C/\th D σ H2
section
variable {X:Cx} {k:Nat} {f:vw} {fd:vv} {ps:List Str} {sp:Sp} {fx cn x:Str} {p pos cpos pa tpos np hpos:Pos} {e₀:Expr} {es:List Expr} {t:TA} {i:Nat} {C:vw} {bm:List vm} {newId:String} {b₀:Stmt} {suite:List Stmt} {th:TS}
def Ra (F:cO X.prog X.w X.K X.mg X.base (JE X.prog X.w) k f fd ps sp) (hr:eT k X.A) (hg:Gl X fx) (hm:X.mg fx=some (.ref f)) (hk:PySem.W.keepIn X.K (.ref f)=true) (hb:Binds X.K fd ps []) (ha:PA X.FF (e₀::es) t)
  (hc:X.calm=true) (hN:X.N.Nodup) (hi:X.N[i]?=some x) (hx:Loc X.env.scope x) (hgc:Gl X cn) (hC0:PySem.W.nsIn X.K mainGlobals cn=some (some (.ref C))) (hQ0:PySem.W.excIn X.K C bm newId=true) (hbase:bm.contains (.type "BaseException")=true) (hstk:X.stack=X.env::X.outer) (hfrm:X.env.frame=some X.env.locals)
  (hsu:∀e,Ce (X.held e).FF (b₀::suite) th)
  (hdb:(fx == ("__debug__": Str))=false<|>qb_) (hdc:(cn == ("__debug__": Str))=false<|>qb_) (he:starEach (e₀::es) X.env=(false,eval e₀ X.env)::starEach es X.env<|>qe_) (hpl:(backTo cpos (starEach es X.env)).any (·.1)=false<|>qe_)
  (hs:swapsWith (.Call (.Name fx p) (e₀::es) [] cpos) (some (.Name x tpos)) pa.line X.env=pure false<|>qe_) (hf:X.fn x=true\/X.env.scope.names.lookup x=some .local<|>qa_) :
  PS X (.Try [.Assign [.Name x tpos] (.Call (.Name fx p) (e₀::es) [] cpos) pa] [.ExceptHandler (some (.Name cn np)) none (b₀::suite) hpos] [] [] pos) (UG i sp t C th):=by
 intro pins s σ H D I h;let O:OwnCls cn C bm newId X.mg X.base:=lj X.prog I.ok.mod hC0 hQ0;refine wpAny_Try_except (wpAny_execs_cons ?_);refine wpAny_Assign_Name ?_ hs;refine xq (fW I hg hm ?_ hdb);let hA:wpAny (model X.prog X.w) X.A (spliced (backTo cpos (starEach (e₀::es) X.env))) (AP X.FF pins σ _) (λ_ _=>False) s:=ha s σ H _ (I.oI _) h;refine vd (h₀:=X.base) I.ok.mod.Qy hk (xc hA (λus s1 z0=>?_) λ_ _ z=>z.elim) he hpl;let⟨vs,H1,I1',r,q⟩:=z0;refine{I1'.kc,?_};let I1:Inv X pins σ H1 s1:=I1'.fP;let hl:⇑us=⇑ps:=by rw[<-⇑r];exact F.len _ _ _ _ q
 refine wpAny_call (xS (F.run X.A X.stack s1 H1 {us,[]} us vs _ _ hr I1.Nj (by have:=hb s1 us I1.kc (by rw[zW];exact hl);rw[zW] at this;exact this) r q) λrr s' hq=>?_);cases rr with
 | ok fl=>
  cases fl with
  | ret u=>
   let⟨v,H2,I2,r2,q2⟩:=I1.after hq;refine kr I2 hN hi hx r2 (λs2 I3=>?_) hf;exact wy (wy {_,H2,I3,q2})
  | next=>exact False.elim hq
  | brk=>exact False.elim hq
  | cont=>exact False.elim hq
 | error ev=>
  let⟨a,cls,a0,B,H',rfl,os,bare,fl,fly,⟨rfl,q2⟩⟩:=hq;let FT:∀b∈jG X.stack,H1 b=none:=I1.kP;let nf:∀{hh:vx},Heap.FunFrames hh B X.stack->∀b∈jG X.stack,∃o,hh.get? b=some o/\∀vs,o.data≠.fields vs:=λhF b hb=>(hF.mem hb).2;let back:∀(hh:vx),JG X.prog X.w (jG X.stack) H1 H' s1.heap B hh->Inv X pins σ H' {s' with heap:=hh}:=λhh fy=>
   I1.Mg (s':={s' with heap:=hh}) (ch:=[]) os (fy.un FT) (fy.bV.kept fy.jH) bare λb z=>absurd z (by simp)
  let hfr:X.A.frames=some (X.env::X.outer):=by rw[<-hstk];exact I1.ok.frames
  refine wpAny_looks_onW hfr hfrm (by rw[<-hstk];exact fl) λh4 held4 up4=>?_;refine wpAny_landsW held4 λh5 fl5 up5=>?_;let fl5':Heap.FlyingW B X.stack a (.ref C) a0 h5:=by rw[hstk];exact fl5
  let fy5:JG X.prog X.w (jG X.stack) H1 H' s1.heap B h5:=fly.on (up4.trans up5) fl5.1 (nf fl.2.2.1);let I5:=back h5 fy5;let⟨ob,hob,hobc⟩:=fl5'.there;let⟨tl,Nn,nm,qn,bs,hdct,sn,sub,ab,col,dd,k0,k1,k2,k3,k5,mN,hC,hN',hni,T⟩:=O.obj;refine wpAny_handleBy_cons (codeAny_handlers_test (fW (X:=X.held (.ref a)) (I5.held _) hgc O.bound ?_ hdc)) (by intro q;cases q);refine wpAny_excMatches_sub_self (I5.bk _ _ hC) hob hobc (T.hasType hbase) (codeAny_handlers_suite ?_);refine lands_againW fl5' λh6 fl6 up6=>?_;let fy6:JG X.prog X.w (jG X.stack) H1 H' s1.heap B h6:=fy5.on up6 fl6.1 (nf fl5'.2.2.1);let I6:=back h6 fy6;refine xc (hsu (.ref a) _ σ H' D ((I6.held _).oI _) q2) (λfl s7 z=>?_) λ_ _ z=>z.elim;exact SP.j7 I.ok.hd (SP.fP z)
end
section
variable {X:Cx}
def Ot {zs:List Str} {its:List vm} (r:Vals (zs.map V.str) its) {j:Nat} (h:j<⇑its):∃z t,zs[j]?=some z/\its[j]=.str z t:=by
 let hl:⇑zs=⇑its:=by have:=⇑r;rw[zd] at this;exact this
 let⟨u,hu,ru⟩:=r.get (i:=j) (x:=.str (zs[j]'())) (by rw[zL,ze ()];rfl);let⟨t,rfl⟩:=ru;rw[ze h] at hu;exact{_,t,ze (),ym hu}
end
structure j6 (K:yE) (D:vw):Prop where
 ga:PySem.W.findIn K (.ref D) "__getattribute__"= some (some (.builtin "BaseException.__getattribute__"))
 W9:PySem.W.findIn K (.ref D) "__getattr__"= some none
 ca:PySem.W.findIn K (.ref D) "__class__"= some (some (.builtin "object.__class__"))
 mB:PySem.W.mroIn K D (.type "BaseException")=some true
 mO:PySem.W.mroIn K D (.type "object")=some true
def BL {K:yE} {D:vw} {b:vm} {r:Bool} (h:PySem.W.mroIn K D b=some r):(PySem.W.clsIn K D).isSome=true:=by
 unfold PySem.W.mroIn at h;let⟨cd,e,_⟩:=Option.bind_eq_some_iff.mp h;rw[e];rfl
def j6.cl {K:yE} {D:vw} (Z:j6 K D):(PySem.W.clsIn K D).isSome=true:=BL Z.mO
def PB {K:yE} {D:vw} {n:String} {b:Bool} (h:PySem.W.subIn K (.ref D) (.type n)=some b) (hm:PySem.W.kitMeta n=true):PySem.W.kitOne K (.ref D) (.type n)=some b:=by
 unfold PySem.W.kitOne;rw[yQ (by simp)];unfold PySem.W.kitCls;dsimp only;rw[yR hm];exact h
def Rq {K:yE} {D C:vw} {b:Bool} (h:PySem.W.subIn K (.ref D) (.ref C)=some b) (ne:D≠C) (hm:PySem.W.mroIn K C (.type "object")=some true) (ht:PySem.W.typeIn K (.ref C)=some (.type "type")):PySem.W.kitOne K (.ref D) (.ref C)=some b:=by
 unfold PySem.W.kitOne;rw[yQ (by simp[ne])];unfold PySem.W.kitCls;dsimp only;rw[yR (by rw[BL hm,ht];rfl)];exact h
def PD {K:yE} {D:vw}:PySem.W.kitOne K (.ref D) (.ref D)=some true:=by unfold PySem.W.kitOne;rw[yR (by simp)]
def Rr {K:yE} {t:vm}:PySem.W.kitAny K t []=some false:=rfl
def nu {K:yE} {t c:vm} {r:List vm} {b:Bool} (h:PySem.W.kitOne K t c=some false) (h':PySem.W.kitAny K t r=some b):PySem.W.kitAny K t (c::r)=some b:=by
 unfold PySem.W.kitAny;rw[h];exact h'
structure mw (K:yE) (D C:vw):Prop where
 sub:PySem.W.subIn K (.ref D) (.ref C)=some false
 ob:PySem.W.mroIn K C (.type "object")=some true
 ty:PySem.W.typeIn K (.ref C)=some (.type "type")
def mw.U8 {K:yE} {D C:vw} (n:mw K D C) (self:PySem.W.subIn K (.ref D) (.ref D)=some true):PySem.W.kitOne K (.ref D) (.ref C)=some false:=
 Rq n.sub (λe=>by subst e;have:=n.sub;rw[self] at this;cases this) n.ob n.ty
section
variable {K:yE} {D x:vw} {prog:vo} {w:vq} {A:vt} {E:vm->vn->Prop} {h:vx} {g:Array GenState} {d:Drawn} {t:Nat} {os:OsState}
def IL {M:Model} {o:Obj} (hx:h.get? x=some o) (hc:o.cls=.ref D):PySem.W.Looks M h (typeOf (.ref x)) (.ref D):=hc▸(PySem.W.Looks.ld hx).andThen .now
open Builtin Builtin.ObjectAttr Builtin.Getset_descriptor in
def TU {o:Obj} {R:Result->vn->Prop} {tp:vm} (X:K.In h) (Z:j6 K D) (hx:h.get? x=some o) (hc:o.cls=.ref D) (hq:R (.ok (.ret (.ref D))) {(h),g,d,t,os}) :
  codeAny (model prog w) A (.call (.builtin "getset_descriptor.__get__") {[.builtin "object.__class__",.ref x,tp],[]}) R {(h),g,d,t,os}:=by
 let L0:=IL (M:=model prog w) hx hc;let L1:=PySem.W.looks_mroIn (M:=model prog w) X Z.mO;refine codeAny_call_builtin PySem.W.KF.slot_gs.plain PySem.W.KF.entry_gs (PySem.W.KF.slot_gs.check _ _ _ _ _ _ _ _ PySem.W.KF.type_class (PySem.W.KF.args_gs _ _ _) ?_);unfold Builtin.«getset_descriptor.__get__» descrGet;rw[PySem.W.dga_obj];refine yx (yz ?_);unfold descrGetter descrCheckInstance descrNameAndClass isInstance;simp only[PySem.W.KF.owner_class]
 repeat (open PySem.W in lk)
 refine{Code.quiet_builtin _ (by decide +kernel),xV PySem.W.KF.entry_class ?_};unfold Builtin.«object.__class__» shownTypeOf
 repeat (open PySem.W in lk)
 exact hq
def P1 {o:Obj} {tk:Tok} {Q:Fin->vn->Prop} (X:K.In h) (Z:j6 K D) (hx:h.get? x=some o) (hc:o.cls=.ref D) (hq:Q (.done (.ret (.ref D))) {(h),g,d,t,os}) :
  wpAny (model prog w) A (Builtin.«object.__getattribute__» {[.ref x,.str "__class__" tk],[]}) Q E {(h),g,d,t,os}:=by
 let hT5:({(h),g,d,t,os}:vn).TypeIs (.builtin "object.__class__") "getset_descriptor":=F.typeOf_object_class;let f5:=F.typeOf_object_class;let f6:=F.slot_gs_get.lookup;let f7:=F.slot_gs_set.lookup;let L1:=PySem.W.looks_findIn (M:=model prog w) X Z.ca
 repeat (any_goals (first | assumption | (with_reducible refine wpAny_loadPart_at hx ?_;rw[hc]) | (with_reducible refine L1.at ?_) | wp_step))
 refine TU X Z hx hc ?_
 repeat (any_goals (first | assumption | wp_step))
def IM {M:Model} {o:Obj} {nameV:vm} {Q:Unit->vn->Prop} (X:K.In h) (Z:j6 K D) (hx:h.get? x=some o) (hc:o.cls=.ref D) (hq:Q .unit {(h),g,d,t,os}) :
  wpAny M A (checkBuiltinCall "BaseException.__getattribute__" {[.ref x,nameV],[]}) Q E {(h),g,d,t,os}:=by
 let hk:builtinKind "BaseException.__getattribute__"= some .slot:=by decide +kernel
 let hsplit:splitId "BaseException.__getattribute__"= some ("BaseException","__getattribute__"):=by decide +kernel
 let L1:=PySem.W.looks_mroIn (M:=M) X Z.mB;let ha:=F.args_bexc_ga (.ref x) nameV;simp only[checkBuiltinCall,hk,hsplit];refine yx ?_
 ·unfold isInstance
  repeat (first | (with_reducible refine wpAny_loadPart_at hx ?_;rw[hc]) | (with_reducible refine L1.at ?_) | wp_step)
  exact hq
def Vh {o:Obj} {tk:Tok} {fill expr:Bool} {Q:vm->vn->Prop} (X:K.In h) (Z:j6 K D) (hx:h.get? x=some o) (hc:o.cls=.ref D) (hq:Q (.ref D) {(h),g,d,t,os}) :
  wpAny (model prog w) A (getAttrBy (.ref x) (.str "__class__" tk) fill expr) Q E {(h),g,d,t,os}:=by
 let f3:=F.attr_ValueError.ga.bind (.ref x);let hx0:(expr&&onTheHeap (Value.builtin "BaseException.__getattribute__"))=false:=by cases expr <;> rfl
 let hx2:(Value.builtin "BaseException.__getattribute__"== Value.builtin "object.__getattribute__")=false:=by decide +kernel
 let hx1:(onTheHeap (Value.ref D)&&Value.builtin "BaseException.__getattribute__"== Value.builtin "object.__getattribute__")=false:=by rw[hx2];rfl
 let L1:=PySem.W.looks_findIn (M:=model prog w) X Z.ga;let L2:=PySem.W.looks_findIn (M:=model prog w) X Z.W9
 repeat (any_goals (first | assumption | (with_reducible refine wpAny_loadPart_at hx ?_;rw[hc]) | (with_reducible refine L1.at ?_) | (with_reducible refine L2.at ?_) | wp_step))
 refine codeAny_call_builtin F.attr_ValueError.ga.plain F.entry_bexc_ga (IM X Z hx hc (P1 X Z hx hc ?_))
 repeat (any_goals (first | assumption | wp_step))
def P2 {o:Obj} {Q:Option vm->vn->Prop} {s:vn} (X:K.In s.heap) (Z:j6 K D) (hx:s.heap.get? x=some o) (hc:o.cls=.ref D) (hq:Q (some (.ref D)) {s with toks:=s.toks+1}) :
  wpAny (model prog w) A (getAttr? (.ref x) "__class__") Q E s:=by
 let⟨h,g,d,t,os⟩:=s;unfold getAttr? getAttrBy?;refine yx (wpAny_mkText (yx (wR ?_)));refine Vh X Z hx hc ?_;exact yz hq
def Ry {M:Model} {S:vw} {o:Obj} {ddS:Option vw} {cdS:ClassData} {slS:Array (Option vm)} {Q:Bool->vn->Prop} (X:K.In h) (hx:h.get? x=some o) (hc:o.cls=.ref D) (hS:K.lookup S=some {.type "type",ddS,.cls cdS,slS}) (hSB:PySem.W.mroIn K S (.type "BaseException")=some true)
  (hup:PySem.W.mroIn K D (.ref S)=some true) (hq:Q true {(h),g,d,t,os}):wpAny M A (excMatches (.ref x) (.ref S)) Q E {(h),g,d,t,os}:=by
 let L1:=PySem.W.looks_mroIn (M:=M) X hSB;let L2:=PySem.W.looks_mroIn (M:=M) X hup;let hS':=X _ _ hS;let noTuple:=tc_notTuple;unfold excMatches
 repeat (first
  | (with_reducible refine wpAny_loadPart_at hx ?_;rw[hc])
  | (with_reducible refine wpAny_loadPart_at hS' ?_)
  | (with_reducible refine L1.at ?_)
  | (with_reducible refine L2.at ?_)
  | wp_step)
 exact hq
def K5 {S:vw} {bm:List vm} {n:String} (e:PySem.W.excIn K S bm n=true):∃dd cd sl,K.lookup S=some {.type "type",dd,.cls cd,sl}:=by
 unfold PySem.W.excIn at e;split at e
 ·exact{_,_,_,‹_›}
 ·cases e
def LU (Z:j6 K D):PySem.W.KitX K (.ref x) (.ref D) (λh=>∃o,h.get? x=some o/\o.cls=.ref D) where
 ty:=λ_ _ _ ⟨o,hx,hc⟩=>IL hx hc
 it:=λ_ _ X _=>by
  let hcD:=Z.cl;unfold PySem.W.clsIn at hcD;split at hcD
  ·rename_i c' d' cd' sl' ho
   intro A' Q' E' s' k q;unfold isType loadHead;exact yx (wpAny_loadPart (k _ _ (X _ _ ho)) (yz q))
  ·cases hcD
 ne:=λh tp dd its n sl X htp=>by
  let hcD:=Z.cl;refine Bool.eq_false_iff.mpr λq=>?_;let e:D=tp:=Value.ref.inj (vb.mp q);subst e;unfold PySem.W.clsIn at hcD;split at hcD
  ·rename_i c' d' cd' sl' ho
   let z:=(X _ _ ho).symm.trans htp;cases z
  ·cases hcD
 ca:=λX ⟨o,hx,hc⟩ k=>P2 X Z hx hc k
end
section
variable {X:Cx}
theorem DB:∀{cs:List vw} {us:List vm},Vals (cs.map V.ref) us->us=cs.map Value.ref
 | [],_,.nil=>rfl
 | c::cs,_,.cons r t=>by
  cases(show _=Value.ref c from r);rw[DB t];rfl
end
def b8.here (x:b8 P w H h a o):∃ob,h.get? a=some ob:=by
 cases o with
 | lst xs=>let⟨_,_,_,_,e⟩:=x;exact{_,e}
 | tup xs=>let⟨_,_,_,o,e,_⟩:=x;exact{_,e}
 | dK kvs=>let⟨_,_,_,_,o,_,_,e,_⟩:=x;exact{_,e}
 | dT kvs=>let⟨_,_,_,_,o,_,_,e,_⟩:=x;exact{_,e}
 | set S n=>let⟨o,_,_,_,e,_⟩:=x;exact{_,e}
 | ins C dx fs=>let⟨_,_,_,e,_⟩:=x;exact{_,e}
 | own y=>exact x
 | xd fs=>let⟨_,⟨_,_,_,e,_⟩,_⟩:=x;exact{_,e}
 | MS lo hi=>let⟨_,_,_,e⟩:=x;exact{_,e}
 | mG ob u=>let⟨e,_⟩:=x;exact{_,e}
 | Oh ps=>exact{_,x}
 | met f y=>exact{_,x}
 | ext φ=>exact x.2.1
section
variable {X:Cx} {pins:List (vw×Obj)} {σ:St} {H:Hp} {s:vn}
def Inv.UB (I:Inv X pins σ H s) (hn:H a=none) (h0:X.s₀.heap.get? a=none) (hl:a≠X.env.locals) (hc:∀x c,X.env.cells.lookup x=some c->c≠a) (hp:∀p∈X.pn++pins,p.1≠a)
  (new:b8 X.prog X.w (upd H a o) s.heap a o):Inv X pins σ (upd H a o) s where
 ok:=I.ok
 os:=I.os
 bare:=I.bare
 base:={I.base.keep,I.base.slot,λb ob e n hx=>by rw[aC (λz=>by rw[z,h0] at e;cases e)];exact I.base.free b ob e n hx,I.base.there,
  λb xs e=>by have:=I.base.mz b xs e;rw[aC (bI this hn)];exact this,λb ob u e=>by have:=I.base.kE b ob u e;rw[aC (bI this hn)];exact this,
  λb ps e=>by let⟨m,e1⟩:=I.base.mC b ps e;exact{m,by rw[aC (bI e1 hn)];exact e1}}
 loc:=I.loc
 cell:=I.cell
 free:=by rw[aC (Ne.symm hl)];exact I.free
 jy:=λx c e=>by rw[aC (hc x c e)];exact I.jy x c e
 pin:=λp hpp=>by let⟨e,n,ne,nf,d⟩:=I.pin p hpp;exact{e,by rw[aC (hp p hpp)];exact n,ne,nf,d}
 bV:=λb u e=>by
  by_cases hb:b=a
  ·subst hb
   rw[aE] at e;cases e;exact new
  ·rw[aC hb] at e
   refine(I.bV b u e).jH (λ_ _ _ q=>q) (λc q=>?_) λc xs q=>?_
   ·rw[aC (bI q hn)];exact q
   ·rw[aC (bI q hn)];exact q
 len:=I.len
def Inv.QJ {h':vx} {n:Str} {j:Nat} {v:Option vm} {m:Str->Option vm} {t':Nat} (I:Inv X pins σ H s) (hN:X.N.Nodup) (hj:X.N[j]?=some n) (hl:∀(i:Nat) (x:Str) (v:V),X.N[i]?=some x->σ[i]?=some (some v)->Sg X.env.scope x->∃u,RelV v u/\Look X.env s.heap m x u) (hn:h'.Ns X.env.locals (λx=>if x=n then v else m x)) (hs:Heap.SameBut X.env.locals s.heap h') :
  Inv X pins (σ.set j none) H {s with heap:=h',toks:=t'}:=by
 let Me:=I.Me;refine{I.ok,I.os,I.bare,{λb o e n hb hx=>?_,λb o e n hb hx=>?_,I.base.free,λb o e hx=>?_,I.base.mz,I.base.kE,I.base.mC},{_,hn,λi y v' e1 e2 e3=>?_},λy c e=>?_,I.free,I.jy,λp hp=>?_,λb ob e=>?_,by simpa using I.len}
 ·exact(hs.2 b (yk (yc (yB e) I.ok.above))).trans (I.base.keep b o e n hb hx)
 ·let⟨sl,e1⟩:=I.base.slot b o e n hb hx
  exact{sl,(hs.2 b (yk (yc (yB e) I.ok.above))).trans e1}
 ·let⟨o',e1⟩:=I.base.there b o e hx
  exact{o',(hs.2 b (yk (yc (yB e) I.ok.above))).trans e1}
 ·by_cases hi:i=j
  ·subst hi
   rw[List.getElem?_set] at e2;split at e2
   ·split at e2 <;> cases e2
   ·rename_i z;exact absurd rfl z
  ·rw[List.getElem?_set_ne (Ne.symm hi)] at e2
   let⟨u',r',q⟩:=hl i y v' e1 e2 e3;refine{u',r',?_};rcases q with⟨k,e⟩ | ⟨k,c,e,z⟩
   ·refine .inl {k,?_}
    have:y≠n:=λe=>hi (Ba hN e1 (e▸hj));simp[this,e]
   ·exact .inr {k,c,e,z.sameBut hs (Me y c e)}
 ·let⟨w',z⟩:=I.cell y c e
  exact{w',z.sameBut hs (Me y c e)}
 ·let⟨e,n,ne,nf,d⟩:=I.pin p hp
  exact{(hs.2 p.1 ne).trans e,n,ne,nf,d}
 ·refine(I.bV b ob e).jH (λc w' hc q=>(hs.2 c ?_).trans q) (λ_ q=>q) λ_ _ q=>q
  rintro rfl;rcases hc with rfl | hc
  ·rw[I.free] at e;cases e
  ·rw[I.free] at hc;cases hc
end
def V3 (j:Nat) (D:Ends):Ends:={nx:=λσ H=>D.nx (σ.set j none) H,rt:=D.rt,bk:=λσ H=>D.bk (σ.set j none) H,ct:=λσ H=>D.ct (σ.set j none) H}
section
variable {X:Cx} {k:Nat} {f:vw} {fd:vv} {ps:List Str} {sp:Sp} {fx cn n x:Str} {p pos cpos pa tpos np hpos:Pos} {e₀:Expr} {es:List Expr} {t:TA} {i j:Nat} {C S:vw} {bm bmS:List vm} {newId newIdS:String} {b₀:Stmt} {suite:List Stmt} {th:TS}
end
end L2
namespace L2
open PySem PySem.Spec PyProof.Rows
section
variable {κ:Type} [DecidableEq κ]
noncomputable def fj (kvs:List (κ×V)) (k:κ):Option V:=(kvs.find? λkv=>decide (kv.1=k)).map (·.2)
noncomputable def putK (kvs:List (κ×V)) (k:κ) (v:V):List (κ×V):=
 if(kvs.any λkv=>decide (kv.1=k))=true then kvs.map (λkv=>if kv.1=k then(kv.1,v) else kv) else kvs++[(k,v)]
def vT {p:κ×V} {r:List (κ×V)} {k:κ} (e:p.1=k):fj (p::r) k=some p.2:=by simp[fj,yV,e]
def vU {p:κ×V} {r:List (κ×V)} {k:κ} (e:¬p.1=k):fj (p::r) k=fj r k:=by simp[fj,yV,e]
theorem vV (k:κ):∀kvs:List (κ×V),(kvs.any λkv=>decide (kv.1=k))=(fj kvs k).isSome
 | []=>rfl
 | p::r=>by
  rw[xt]
  by_cases e:p.1=k
  ·simp only[vT e,zh e,Bool.true_or,Option.isSome_some]
  ·rw[vU e,zg e,Bool.false_or];exact vV k r
def tV (kvs:List (κ×V)) (k:κ) (v:V):⇑(putK kvs k v)<=⇑kvs+1:=by
 unfold putK;split
 ·rw[zd];ext
 ·rw[zj,zw,xo];ext
def OT {kvs:List (κ×V)} {k:κ} (v:V) (h:fj kvs k=none):putK kvs k v=kvs++[(k,v)]:=by
 unfold putK;rw[vV,h];exact yQ ∅
def fN.kB (r:fN o u):o.isSome=u.isSome:=by
 cases o with
 | none=>cases u with
  | none=>rfl
  | some _=>exact(show False from r).elim
 | some _=>cases u with
  | none=>exact(show False from r).elim
  | some _=>rfl
theorem fN.getD (r:fN o u) (rd:RelV d d'):RelV (o.getD d) (u.getD d'):=by
 cases o with
 | none=>cases u with
  | none=>exact rd
  | some _=>exact(show False from r).elim
 | some _=>cases u with
  | none=>exact(show False from r).elim
  | some _=>exact r
def KV.val {kvs:List (κ×V)} {vs:List (κ×vm)} (r:KV kvs vs) (k:κ):fN (fj kvs k) (valueAt vs k):=by
 unfold KV at r
 induction r with
 | nil=>exact True.intro
 | @cons p q ps qs h t ih=>
  let⟨h1,h2⟩:=h
  by_cases e:p.1=k
  ·let e':q.1=k:=h1.symm.trans e
   let b:valueAt (q::qs) k=some q.2:=by simp[valueAt,yV,e']
   rw[vT e,b];exact h2
  ·let e':¬q.1=k:=λz=>e (h1.trans z)
   let b:valueAt (q::qs) k=valueAt qs k:=by simp[valueAt,yV,e']
   rw[vU e,b];exact ih
theorem KV.any (r:KV kvs vs) (k:κ):(kvs.any λkv=>decide (kv.1=k))=vs.any λkv=>decide (kv.1=k):=by
 unfold KV at r
 induction r with
 | nil=>rfl
 | cons h t ih=>rw[xt,xt,ih,h.1]
def KV.S4 (r:KV kvs vs) (k:κ) (ry:RelV y u) :
  KV (kvs.map λkv=>if kv.1=k then(kv.1,y) else kv) (vs.map λkv=>if kv.1=k then(kv.1,u) else kv):=by
 unfold KV at r ⊢
 induction r with
 | nil=>exact .nil
 | @cons p q ps qs h t ih=>
  rw[zk,zk];refine .cons ?_ ih;let⟨h1,h2⟩:=h
  by_cases e:p.1=k
  ·rw[yR e,yR (h1.symm.trans e)];exact{(h1),ry}
  ·rw[yQ e,yQ (λz=>e (h1.trans z))];exact{(h1),h2}
def KV.put (r:KV kvs vs) (k:κ) (ry:RelV y u):KV (putK kvs k y) (stored vs k u):=by
 unfold putK stored;rw[r.any k]
 by_cases e:(vs.any λkv=>decide (kv.1=k))=true
 ·rw[yR e,yR e];exact r.S4 k ry
 ·rw[yQ e,yQ e];exact Paired.snoc r {(rfl),ry}
theorem KV.length (r:KV kvs vs):⇑kvs=⇑vs:=xY r
end
def DX (r:RelV (kV k) u):(de P w).is k u=true:=by
 cases k with
 | inl i=>let⟨t,e⟩:=(show∃t,u=Value.int i t from r);subst e;exact Ir P w i t
 | inr x=>let⟨t,e⟩:=(show∃t,u=Value.str x t from r);subst e;exact tT P w x t
theorem DY:∀{ks:List Key} {us:List vm},Vals (ks.map kV) us->ItemsAre (de P w) ks us
 | [],_,r=>by rw[yq] at r;cases r;exact .nil
 | k::ks,_,r=>by
  rw[zk] at r;cases r with
  | cons h t=>exact .cons (DX h) (DY t)
abbrev KT (H:Hp):List (List Key×V)->List (List Key×vw×vm)->Prop:=Paired λp q=>p.1=q.1/\H q.2.1=some (.tup (p.1.map kV))/\RelV p.2 q.2.2
def KT.val {H:Hp} {kvs:List (List Key×V)} {xs:List (List Key×vw×vm)} (r:KT H kvs xs) (k:List Key):fN (fj kvs k) ((atKey xs k).map (·.2)):=by
 induction r with
 | nil=>exact True.intro
 | @cons p q ps qs h t ih=>
  let⟨h1,_,h2⟩:=h
  by_cases e:p.1=k
  ·let e':q.1=k:=h1.symm.trans e
   let b:atKey (q::qs) k=some q.2:=by simp[atKey,yV,e']
   rw[vT e,b];exact h2
  ·let e':¬q.1=k:=λz=>e (h1.trans z)
   let b:atKey (q::qs) k=atKey qs k:=by simp[atKey,yV,e']
   rw[vU e,b];exact ih
def KT.S4 (r:KT H kvs xs) (k:List Key) (ry:RelV y u) :
  KT H (kvs.map λkv=>if kv.1=k then(kv.1,y) else kv) (xs.map (putAt k u)):=by
 induction r with
 | nil=>exact .nil
 | @cons p q ps qs h t ih=>
  rw[zk,zk];refine .cons ?_ ih;let⟨h1,h2,h3⟩:=h;unfold putAt
  by_cases e:p.1=k
  ·rw[yR e,yR (h1.symm.trans e)];exact{(h1),h2,ry}
  ·rw[yQ e,yQ (λz=>e (h1.trans z))];exact{(h1),h2,h3}
def KT.put (r:KT H kvs xs) (k:List Key) (hb:H b=some (.tup (k.map kV))) (ry:RelV y u) :
  KT H (putK kvs k y) (storedH xs k b u):=by
 let e:(kvs.any λkv=>decide (kv.1=k))=(atKey xs k).isSome:=by
  rw[vV,(r.val k).kB,Option.isSome_map]
 unfold putK storedH;rw[e]
 by_cases q:(atKey xs k).isSome=true
 ·rw[yR q,yR q];exact r.S4 k ry
 ·rw[yQ q,yQ q];exact Paired.snoc r {(rfl),hb,ry}
def KT.keeps (r:KT H kvs xs) (ht:∀b ys,H b=some (.tup ys)->H' b=some (.tup ys)):KT H' kvs xs:=
 Paired.Ts r λ_ _ z=>{z.1,ht _ _ z.2.1,z.2.2}
section
variable {P:vo} {w:vq} {H:Hp} {h:vx} {a:vw}
def R0 (ok:oH P w H h) (e:Rd H a u):b8 P w H h a u:=e.ok ok
def tZ (ok:oH P w H h) (e:Rd H a (.dK kvs)):⇑kvs<=sizeLine/\(a == sysModules)=false/\∃vs,KV kvs vs/\h.DictOf (de P w) a vs:=
 show b8 P w H h a (.dK kvs) from R0 ok e
def Vo (ok:oH P w H h) (e:H a=some (.dK kvs)):⇑kvs<=sizeLine/\(a == sysModules)=false/\∃vs,KV kvs vs/\h.DictOf (de P w) a vs:=tZ ok (.inl e)
def sQ (ok:oH P w H h) (e:H a=some (.tup (ks.map kV))):(tupleKind (de P w)).is h ks a:=by
 let⟨_,its,r,o,h1,h2,n,h3⟩:=(show b8 P w H h a (.tup (ks.map kV)) from ok a _ e)
 exact{o,its.toArray,n,h1,h2,h3,by simpa using DY r}
def Bu (ok:oH P w H h) (e:Rd H a (.dT kvs)):⇑kvs<=sizeLine/\(a == sysModules)=false/\
  ∃xs,KT H kvs xs/\h.DictOfH (tupleKind (de P w)) a xs:=by
 let⟨z,y,xs,r,o,es,ep,h1,h2,h3,h4,h5⟩:=(show b8 P w H h a (.dT kvs) from R0 ok e)
 refine{z,y,xs,r,o,es,ep,h1,h2,h3,h4,λx hx=>?_,h5};let all:∀{l:List (List Key×V)} {m:List (List Key×vw×vm)},KT H l m->∀x∈m,(tupleKind (de P w)).is h x.1 x.2.1:=by
  intro l m q
  induction q with
  | nil=>intro x hx;exact nomatch hx
  | @cons p q ps qs hq t ih=>
   intro x hx;rcases zE.mp hx with e | hx
   ·subst e
    exact sQ ok (by rw[<-hq.1];exact hq.2.1)
   ·exact ih x hx
 exact all r x hx
def Vn (ok:oH P w H h) (e:H a=some (.dT kvs)):⇑kvs<=sizeLine/\(a == sysModules)=false/\
  ∃xs,KT H kvs xs/\h.DictOfH (tupleKind (de P w)) a xs:=Bu ok (.inl e)
end
def GJ (H:Hp) (a:vw) (y:V) (r:Option V):Prop:=
 (∃kvs k,Rd H a (.dK kvs)/\y=kV k/\r=fj kvs k)\/∃kvs k b,Rd H a (.dT kvs)/\y=.ref b/\H b=some (.tup (k.map kV))/\r=fj kvs k
def Vw (H:Hp) (a:vw) (y v:V) (H':Hp):Prop:=
 (∃kvs k,H a=some (.dK kvs)/\y=kV k/\⇑kvs<sizeLine/\H'=upd H a (.dK (putK kvs k v)))\/
 ∃kvs k b,H a=some (.dT kvs)/\y=.ref b/\H b=some (.tup (k.map kV))/\⇑kvs<sizeLine/\H'=upd H a (.dT (putK kvs k v))
section
variable {X:Cx} {pins:List (vw×Obj)} {σ:St} {H:Hp} {s:vn} {a:vw} {y v:V} {u r:vm} {o:Option V} {A:vt} {E:vm->vn->Prop}
def Inv.big (I:Inv X pins σ H s):sysModules<↑s:=by
 let h:mainGlobals<↑s:=(I.mod.glob.keeps I.bk).lt;exact xG ∅ h
def Nv (hu:A.units+1<cLine) (I:Inv X pins σ H s) (g:GJ H a y (some v)) (ry:RelV y u) (h:∀w' s',Inv X pins σ H s'->RelV v w'->Q w' s') :
  wpAny (model X.prog X.w) A (getItem (.ref a) u) Q E s:=by
 rcases g with⟨kvs,k,e,ey,l⟩ | ⟨kvs,k,b,e,ey,eb,l⟩
 ·subst ey
  let⟨z,hd,vs,rel,dd⟩:=tZ I.bV e;let⟨w',hw,rw'⟩:=fN.some_of (v:=v) (o:=valueAt vs k) (by rw[l];exact rel.val k);exact wpAny_getItem_of (DX ry) dd.mapOf hw (h w' _ (I.tok _) rw')
 ·subst ey
  cases(show u=Value.ref b from ry);let⟨z,hd,xs,rel,dd⟩:=Bu I.bV e;let⟨w',hw,rw'⟩:=fN.some_of (v:=v) (o:=(atKey xs k).map (·.2)) (by rw[l];exact rel.val k);let⟨p,hp,hp2⟩:=Option.map_eq_some_iff.mp hw;refine wpAny_getItem_heap (wC hu) (sQ I.bV eb) dd hp ?_;rw[hp2];exact h w' _ (I.tok _) rw'
def WR (hu:A.units+1<cLine) (I:Inv X pins σ H s) (g:GJ H a y o) (ry:RelV y u) (h:∀s',Inv X pins σ H s'->Q (.bool o.isSome) s') :
  wpAny (model X.prog X.w) A (compareOp .In u (.ref a)) Q E s:=by
 rcases g with⟨kvs,k,e,ey,l⟩ | ⟨kvs,k,b,e,ey,eb,l⟩
 ·subst ey
  let⟨z,hd,vs,rel,dd⟩:=tZ I.bV e;refine wpAny_in_of (DX ry) hd dd.mapOf ?_;rw[<-(rel.val k).kB,<-l];exact h _ (I.tok _)
 ·subst ey
  cases(show u=Value.ref b from ry);let⟨z,hd,xs,rel,dd⟩:=Bu I.bV e;refine wpAny_in_heap (wC hu) (sQ I.bV eb) hd dd ?_;let q:=(rel.val k).kB;rw[Option.isSome_map] at q;rw[<-q,<-l];exact h _ (I.tok _)
def RF (hu:A.units+1<cLine) (I:Inv X pins σ H s) (g:GJ H a y o) (ry:RelV y u) (h:∀s',Inv X pins σ H s'->Q (.bool (!o.isSome)) s') :
  wpAny (model X.prog X.w) A (compareOp .NotIn u (.ref a)) Q E s:=by
 rcases g with⟨kvs,k,e,ey,l⟩ | ⟨kvs,k,b,e,ey,eb,l⟩
 ·subst ey
  let⟨z,hd,vs,rel,dd⟩:=tZ I.bV e;refine wpAny_notIn_of (DX ry) hd dd.mapOf ?_;rw[<-(rel.val k).kB,<-l];exact h _ (I.tok _)
 ·subst ey
  cases(show u=Value.ref b from ry);let⟨z,hd,xs,rel,dd⟩:=Bu I.bV e;refine wpAny_notIn_heap (wC hu) (sQ I.bV eb) hd dd ?_;let q:=(rel.val k).kB;rw[Option.isSome_map] at q;rw[<-q,<-l];exact h _ (I.tok _)
def Mc (I:Inv X pins σ H s) (mu:Vt (H a)) (hs:Heap.SameBut a s.heap h') (he:∃q,h'.get? a=some q) (new:b8 X.prog X.w (upd H a ob) h' a ob) :
  Inv X pins σ (upd H a ob) {s with heap:=h',toks:=t'}:=
 I.write (x:=a) (e:=a) mu (.inl rfl) (λb q hb z=>(hs.2 b hb).trans z) he new
def T4 (z:⇑kvs<=sizeLine) (hd:(a == sysModules)=false) (rel:KV kvs vs) (dd:h'.DictOf (de P w) a vs) :
  b8 P w H' h' a (.dK kvs):={(z),hd,vs,rel,dd}
def Nu (hu:A.units+1<cLine) (I:Inv X pins σ H s) (g:Vw H a y v H') (ry:RelV y u) (rv:RelV v r) (h:∀s',Inv X pins σ H' s'->Q .unit s') :
  wpAny (model X.prog X.w) A (setItem (.ref a) u r) Q E s:=by
 rcases g with⟨kvs,k,e,ey,l,eH⟩ | ⟨kvs,k,b,e,ey,eb,l,eH⟩
 ·subst ey eH
  let⟨z,hd,vs,rel,dd⟩:=Vo I.bV e;let hz:⇑vs<=sizeLine:=by rw[<-⇑rel];exact z
  let hl:⇑(putK kvs k v)<=sizeLine:=by have:=tV kvs k v;ext
  refine wpAny_setItem_pairs (hsz:=hz) (DX ry) dd λh' dd' hs=>h _ ?_;let he:∃q,h'.get? a=some q:=let ⟨q,_,_,hq,_⟩:=dd';{(q),hq};exact Mc I (by rw[e];exact True.intro) hs he (T4 hl hd (rel.put k rv) dd')
 ·subst ey eH
  cases(show u=Value.ref b from ry);let⟨z,hd,xs,rel,dd⟩:=Vn I.bV e;let hz:⇑xs<=sizeLine:=by rw[<-xY rel];exact z
  let hl:⇑(putK kvs k v)<=sizeLine:=by have:=tV kvs k v;ext
  refine wpAny_setItem_heap (hsz:=hz) (wC hu) (sQ I.bV eb) dd λh' dd' hs=>h _ ?_;let⟨q,es,ep,hq,h2,h3,h4,_,h5⟩:=dd';refine Mc I (by rw[e];exact True.intro) hs ⟨q,hq⟩ ⟨hl,hd,_,(rel.put k eb rv).keeps λc ys ec=>?_,q,es,ep,hq,h2,h3,h4,h5⟩;rw[aC (bB ec e (λz=>nomatch z))];exact ec
end
section
variable {X:Cx} {pins:List (vw×Obj)} {σ:St} {H:Hp} {s:vn} {a:vw} {kvs:List (Key×V)} {k:Key} {u:vm} {A:vt} {E:vm->vn->Prop}
def Vq (I:Inv X pins σ H s) (e:Rd H a (.dK kvs)) (h:∀t s',Inv X pins σ H s'->Q (.int ⇑kvs t) s'):wpAny (model X.prog X.w) A (call (.builtin "len") [.ref a]) Q E s:=by
 let⟨z,hd,vs,rel,dd⟩:=tZ I.bV e;refine call_len_dict hd dd (by rw[<-⇑rel];rw[yF] at z;ext) ?_;rw[<-⇑rel];exact h _ _ (I.tok _)
end
def Ue (i:Expr):Prop:=∀ov iv,subscripted i false ov iv=operate [ov,iv] (getItem ov iv)
def LC {prog:vo} {w:vq} {A:vt} {E:vm->vn->Prop} {s:vn} {env:Env} {value slice:Expr} {pos:Pos} {T id:String} {Q:vm->vn->Prop}
  (hl:typeLookup (.type T) "__getitem__"= pure (some (.builtin id))) (hs:Ue slice)
  (h:wpAny (model prog w) A (eval value env) (λo s₁=>wpAny (model prog w) A (eval slice env) (λi s₂=>s₂.TypeIs o T/\wpAny (model prog w) A (getItem o i) Q E s₂) E s₁) E s) :
  wpAny (model prog w) A (eval (.Subscript value slice pos) env) Q E s:=by
 refine Subscript_ (xc h (λo s₁ h₁=>xc h₁ (λi s₂ h₂=>?_) λ_ _ x=>x) λ_ _ x=>x);let⟨hT,h₂⟩:=h₂;unfold subscriptTail;refine yx ?_;rw[getitemInPython_of_ne hT.not_modules];refine yx (wpAny_specialOf hT hl ?_);let fin:wpAny (model prog w) A (subscripted slice false o i) (λr s₃=>wpAny (model prog w) A (letTemporaryGo value o r >>= λ_=>pure r) Q E s₃) E s₂:=by
  rw[hs o i];exact wpAny_operating (xc h₂ (λr s₃ h₃=>yx (wpAny_letTemporaryGo (yz h₃))) λ_ _ x=>x)
 first
  | exact yz (yx fin)
  | exact yx (yz (yx fin))
  | exact yx fin
def IU (I:Inv X pins σ H s) (g:GJ H a y o):s.TypeIs (.ref a) "dict":=by
 rcases g with⟨kvs,k,e,_,_⟩ | ⟨kvs,k,b,e,_,_,_⟩
 ·let⟨_,_,vs,_,dd⟩:=tZ I.bV e
  exact dd.typeIs
 ·let⟨_,_,xs,_,dd⟩:=Bu I.bV e
  exact dd.typeIs
def UL (td ty:TE):TE:=λσ H Q=>td σ H λx H1=>ty σ H1 λy H2=>∃a v,x=.ref a/\GJ H2 a y (some v)/\Q v H2
def Wm (ty td:TE):TE:=λσ H Q=>ty σ H λy H1=>td σ H1 λx H2=>∃a o,x=.ref a/\GJ H2 a y o/\Q (.bl o.isSome) H2
def QR (ty td:TE):TE:=λσ H Q=>ty σ H λy H1=>td σ H1 λx H2=>∃a o,x=.ref a/\GJ H2 a y o/\Q (.bl (!o.isSome)) H2
def UQ (td ty tv:TE):TS:=λD σ H=>tv σ H λv H1=>td σ H1 λx H2=>ty σ H2 λy H3=>∃a H4,x=.ref a/\Vw H3 a y v H4/\D.nx σ H4
section
variable {X:Cx} {o i e value:Expr} {pos pos' tpos:Pos} {td ty tv:TE}
def Rf (hu:X.A.units+1<cLine) (ho:PE X o td) (hi:PE X i ty) (hs:Ue i):PE X (.Subscript o i pos) (UL td ty):=by
 intro pins s σ H Q I h;refine LC PySem.F.slot_dict_getitem.lookup hs (cJ (ho s σ H _ I h) λu s1 z0=>?_);let⟨x,H1,I1,rx,q1⟩:=z0;refine cJ (hi s1 σ H1 _ I1 q1) λiv s2 z1=>?_;let⟨y,H2,I2,ry,a,v,ex,g,q2⟩:=z1;subst ex;obtain rfl:u=Value.ref a:=rx;exact{IU I2 g,Nv hu I2 g ry λw' s3 I3 rw'=>{(v),H2,I3,rw',q2}}
def Kj (hu:X.A.units+1<cLine) (hi:PE X i ty) (ho:PE X o td):PC X .In i o (Wm ty td):=by
 intro pins s σ H Q I h;refine cJ (hi s σ H _ I h) λiv s1 z0=>?_;let⟨y,H1,I1,ry,q1⟩:=z0;refine cJ (ho s1 σ H1 _ I1 q1) λu s2 z1=>?_;let⟨x,H2,I2,rx,a,ov,ex,g,q2⟩:=z1;subst ex;obtain rfl:u=Value.ref a:=rx;exact WR hu I2 g ry λs3 I3=>{.bl ov.isSome,H2,I3,rfl,q2}
def DO (hu:X.A.units+1<cLine) (hi:PE X i ty) (ho:PE X o td):PC X .NotIn i o (QR ty td):=by
 intro pins s σ H Q I h;refine cJ (hi s σ H _ I h) λiv s1 z0=>?_;let⟨y,H1,I1,ry,q1⟩:=z0;refine cJ (ho s1 σ H1 _ I1 q1) λu s2 z1=>?_;let⟨x,H2,I2,rx,a,ov,ex,g,q2⟩:=z1;subst ex;obtain rfl:u=Value.ref a:=rx;exact RF hu I2 g ry λs3 I3=>{.bl (!ov.isSome),H2,I3,rfl,q2}
def vE (hu:X.A.units+1<cLine) (ho:PE X o td) (hi:PE X i ty) (hv:PE X value tv) (hs:swapsWith value (some (.Subscript o i pos')) pos.line X.env=pure false) :
  PS X (.Assign [.Subscript o i pos'] value pos) (UQ td ty tv):=by
 intro pins s σ H D I h;refine wpAny_Assign_Subscript (cJ (hv s σ H _ I h) λr s1 z0=>?_) hs;let⟨v,H1,I1,rv,q1⟩:=z0;refine cJ (ho s1 σ H1 _ I1 q1) λu s2 z1=>?_;let⟨x,H2,I2,rx,q2⟩:=z1;refine cJ (hi s2 σ H2 _ I2 q2) λiv s3 z2=>?_;let⟨y,H3,I3,ry,a,H4,ex,g,q3⟩:=z2;subst ex;obtain rfl:u=Value.ref a:=rx;exact Nu hu I3 g ry rv λs4 I4=>{σ,H4,I4,q3}
end
def P9 (h:vx) (hb:sysModules<h.objs.size):b8 P w H (h.push {cls:=.type "dict",data:=.dict #[]}) h.objs.size (.dK []):=
 {yg _,xF.mpr (Ne.symm (yk hb)),[],.nil,Heap.DictOf.new h}
def P8 (h:vx) (hb:sysModules<h.objs.size):b8 P w H (h.push {cls:=.type "dict",data:=.dict #[]}) h.objs.size (.dT []):=
 {yg _,xF.mpr (Ne.symm (yk hb)),[],.nil,_,#[],0,yA _ rfl,{(rfl),rfl,rfl},rfl,rfl,x8}
def SM:TE:=λ_ H Q=>∀p,H p=none->Q (.ref p) (upd H p (.dK []))
def SK:TE:=λ_ H Q=>∀p,H p=none->Q (.ref p) (upd H p (.dT []))
section
variable {X:Cx} {pos:Pos}
def AU:PE X (.Dict [] [] pos) SM:=λpins s σ H Q I h=>
 wpAny_Dict_empty {.ref ↑s,_,I.laid (a:=↑s) (o:=.dK []) (t':=s.toks) (λ_ _ q=>yy _ q) (zp _) (P9 s.heap I.big),rfl,h _ (I.bV.fresh (zp _))}
def O5:PE X (.Dict [] [] pos) SK:=λpins s σ H Q I h=>
 wpAny_Dict_empty {.ref ↑s,_,I.laid (a:=↑s) (o:=.dT []) (t':=s.toks) (λ_ _ q=>yy _ q) (zp _) (P8 s.heap I.big),rfl,h _ (I.bV.fresh (zp _))}
end
structure M2 (X:Cx) (o:Expr) (m:Str) (apos:Pos) (e f:Expr) (cpos:Pos):Prop where
 base:attributeBase o m X.env (eval o X.env)=eval o X.env
 XI:((backTo cpos (starEach [e,f] X.env)).all (λx=>!x.1)&&(backToKw cpos (keywordEach [] X.env)).all (λx=>x.1.isSome)
  &&decide (⇑([e,f]:List Expr)+⇑([]:List Keyword)+(if([]:List Keyword).isEmpty then 0 else 1)<30))=true
 line:(apos.endLine == cpos.line)=true
 trees:backTo cpos (starEach [e,f] X.env)=[(false,eval e X.env),(false,eval f X.env)]
def Xi (H:Hp) (a:vw):Prop:=(∃kvs,Rd H a (.dK kvs))\/∃kvs,Rd H a (.dT kvs)
def TJ (I:Inv X pins σ H s) (d:Xi H a) :
  s.TypeIs (.ref a) "dict"/\(∀b,Value.ref a=.ref b->∃ob,s.heap.get? b=some ob/\ob.dict=none)/\(a == sysModules)=false:=by
 rcases d with⟨kvs,e⟩ | ⟨kvs,e⟩
 ·let⟨_,hd,vs,_,dd⟩:=tZ I.bV e
  refine{dd.typeIs,λb q=>?_,hd};cases q;let⟨ob,_,_,h1,h2,_⟩:=dd;exact{(ob),h1,h2.2.1}
 ·let⟨_,hd,xs,_,dd⟩:=Bu I.bV e
  refine{dd.typeIs,λb q=>?_,hd};cases q;let⟨ob,_,_,h1,h2,_⟩:=dd;exact{(ob),h1,h2.2.1}
section
variable {X:Cx} {pins:List (vw×Obj)} {σ:St} {H:Hp} {s:vn} {a:vw} {y d:V} {u r:vm} {o:Option V} {A:vt} {E:vm->vn->Prop}
def T7 (hu:A.units+1<cLine) (I:Inv X pins σ H s) (g:GJ H a y o) (ry:RelV y u) (rd:RelV d r) (h:∀w' s',Inv X pins σ H s'->RelV (o.getD d) w'->Q w' s') :
  wpAny (model X.prog X.w) A (call (.builtin "dict.get") [.ref a,u,r]) Q E s:=by
 rcases g with⟨kvs,k,e,ey,l⟩ | ⟨kvs,k,b,e,ey,eb,l⟩
 ·subst ey
  let⟨z,hd,vs,rel,dd⟩:=tZ I.bV e;refine call_meetsIn PySem.F.slot_dict_get dd.typeIs PySem.F.entry_dict_get (PySem.F.args_dict_get_3 _ _ _) (meets_dict_get_default (de X.prog X.w) a (DX ry) hd r) {_,dd.mapOf,h _ _ (I.tok _) ?_};rw[l];exact(rel.val k).getD rd
 ·subst ey
  cases(show u=Value.ref b from ry);let⟨z,hd,xs,rel,dd⟩:=Bu I.bV e;refine call_meetsIn PySem.F.slot_dict_get dd.typeIs PySem.F.entry_dict_get (PySem.F.args_dict_get_3 _ _ _) (meetsH_dict_get_default (tupleKind (de X.prog X.w)) a b hd r) {wC hu,k,xs,sQ I.bV eb,dd,h _ _ (I.tok _) ?_};rw[l];exact(rel.val k).getD rd
end
def SO (td ty tx:TE):TE:=λσ H Q=>td σ H λx H1=>∃a,x=.ref a/\Xi H1 a/\ty σ H1 λy H2=>tx σ H2 λz H3=>∃o,GJ H3 a y o/\Q (o.getD z) H3
section
variable {X:Cx} {o e f:Expr} {apos cpos:Pos} {td ty tx:TE}
def O6 (hu:X.A.units+1<cLine) (ho:PE X o td) (he:PE X e ty) (hf:PE X f tx) (m:M2 X o "get" apos e f cpos):PE X (.Call (.Attribute o "get" apos) [e,f] [] cpos) (SO td ty tx):=by
 intro pins s σ H Q I h;refine wpAny_Call_method m.base m.XI m.line PySem.F.plainAttrs_dict PySem.F.slot_dict_get PySem.F.type_dict_get (cJ (ho s σ H _ I h) λu s1 z0=>?_);let⟨x,H1,I1,rx,a,ex,d,q1⟩:=z0;subst ex;obtain rfl:u=Value.ref a:=rx;let⟨t1,t2,_⟩:=TJ I1 d;refine{t1,t2,?_};rw[m.trees];refine wM rfl (Calls.evalArgs_plain (wF (cJ (he s1 σ H1 _ I1 q1) λiv s2 z0=>?_)));let⟨y,H2,I2,ry,q2⟩:=z0;refine wF (cJ (hf s2 σ H2 _ I2 q2) λfv s3 z1=>?_);let⟨z,H3,I3,rz,ov,g,q3⟩:=z1;refine vj ?_;exact T7 hu I3 g ry rz λw' s4 I4 rw'=>{_,H3,I4,rw',q3}
end
section
variable {X:Cx} {pins:List (vw×Obj)} {σ:St} {H:Hp} {s:vn} {a:vw} {kvs:List (Key×V)} {A:vt} {E:vm->vn->Prop}
end
section
variable {X:Cx} {pins:List (vw×Obj)} {σ:St} {H:Hp} {s:vn} {a:vw} {y:V} {u:vm} {A:vt} {E:vm->vn->Prop}
end
end L2
namespace L2
open PySem PySem.Spec PyProof.Rows
section
variable {κ:Type} [DecidableEq κ]
end
end L2
namespace L2
open PySem PySem.Spec PyProof.Rows
def dQ (σ₀:St) (g:TG) (tc:TT) (te:TE) (Q:VK) (J:It) (H1:Hp):Prop:=∃W:Nat->Nat->List V->St->Hp->Prop,(∃m,W 0 m [] σ₀ H1)/\∀i m xs σ' H',W i m xs σ' H'->
 (J.stop i H'/\⇑xs<=sizeLine/\∀D,H' D=none->Q (.ref D) (upd H' D (.lst xs)))\/
 (J.go i H'/\⇑xs<sizeLine/\∀x H2,J.Mr i H' x H2->g x σ' H2 λσ3 H3=>tc σ3 H3 λb H4=>if b=true then te σ3 H4 λy H5=>∃m',m'<m/\W (i+1) m' (xs++[y]) σ3 H5 else∃m',m'<m/\W (i+1) m' xs σ3 H4)
noncomputable def cN (X:Cx) (N:List Str) (scope:Scope) (cl:List (Str×vw)) (C:vw) (s₀:vn) (H₀:Hp) (ex:List vw):Cx:=
 {X with N:=N,s₀:=s₀,H₀:=H₀,env:=compEnvC scope (cellsFrom (C+1) scope.names cl) C X.env,outer:=X.stack,stack:=X.stack,ex:=ex,fn:=λx=>((cellsFrom (C+1) scope.names []).lookup x).isSome,pn:=[],xe:=λ_ _=>False}
def mP (fr:List (Option Nat)) (wi:TI) (g:TG) (tc:TT) (te:TE):TE:=λσ H Q=>wi σ H λJ H1=>dQ (fr.map λo=>o.bind λj=>(σ[j]?).join) g tc te Q J H1
def RP (X:Cx) (ifs:List Expr) (tc:TT):Prop:=∀(pins:List (vw×Obj)) (s:vn) (σ:St) (H:Hp) (Q:Bool->Hp->Prop),Inv X pins σ H s->tc σ H Q->
 wpAny (model X.prog X.w) X.A (forIn ifs true λc r=>if r=true then do let ok <-isTrue c X.env (eval c X.env);pure (ForInStep.yield ok) else pure (ForInStep.yield r)) (TP X pins σ Q) X.xe s
def ug:TT:=λ_ H Q=>Q true H
def bG:RP X [] ug:=λ_ _ _ H _ I h=>wpAny_tests_nil {(H),I,h}
def jR (h:PT X c tc):RP X [c] tc:=λpins s σ H Q I q=>wpAny_tests_one (h s σ H Q I q)
theorem di:∀(names:List (Str×NameKind)) (n:Nat) (acc:List (Str×vw)),cellsFrom n names acc=cellsFrom n names []++acc
 | [],_,_=>rfl
 | (x,k)::r,n,acc=>by
  unfold cellsFrom;split
  ·rw[di r (n+1) ((x,n)::acc),di r (n+1) [(x,n)],zG];rfl
  ·exact di r n acc
def Rj {h:vx} {lo:Nat} {cs:List (Str×vw)} (ok:CellsOk h lo cs) {x y:Str} {c:vw} (e:cs.lookup x=some c) (e':cs.lookup y=some c):x=y:=by
 let key:∀(l:List (Str×vw)),l.Pairwise (λx y=>x.2≠y.2)->(x,c)∈l->(y,c)∈l->x=y:=by
  intro l
  induction l with
  | nil=>intro _ h;cases h
  | cons p r ih=>
   intro hp h1 h2;rw[xa] at hp;rcases zE.mp h1 with h1 | h1
   ·rcases zE.mp h2 with h2 | h2
    ·rw[<-h1] at h2;exact(Prod.mk.inj h2).1.symm
    ·exact absurd rfl (by have:=hp.1 _ h2;rw[<-h1] at this;exact this)
   ·rcases zE.mp h2 with h2 | h2
    ·exact absurd rfl (by have:=hp.1 _ h1;rw[<-h2] at this;exact this)
    ·exact ih hp.2 h1 h2
 exact key cs ok.apart (mem_of_lookup e) (mem_of_lookup e')
def FH
  (hQ:∀g1:vx,g1.Ns ↑s (λ_=>none)->(∀b o,s.heap.get? b=some o->g1.get? b=some o)->CellsOk g1 (↑s+1) (cellsFrom (↑s+1) scope.names [])->
   Q (newEnv scope ↑s globals (cellsFrom (↑s+1) scope.names cl) qual none .none (some outer) builtinsNs) {s with heap:=g1}) :
  wpAny M A (newFunctionEnv scope globals cl [] qual none .none (some outer)) Q E s:=by
 simp only[newFunctionEnv,Option.isSome_some,w8];refine yx (wpAny_alloc ?_);refine yx (wpAny_layCells _ (λname kind cells=>by cases hkc:kind == NameKind.cell <;> simp[hkc]) _ _ _ _ ?_);let ok:=cellsFrom_ok scope.names (s.heap.push {cls:=.type "dict",data:=.dict #[]}) (↑s+1) [] {λ_ _ hm=>(nomatch hm),List.Pairwise.nil} (by rw[xk];exact zp _);rw[xk] at ok;rw[show({s with heap:=s.heap.push {cls:=.type "dict",data:=.dict #[]}}:vn).heap.objs.size=↑s+1 from xk ..];exact yx (yz (yz (hQ _ ((Heap.Ns.new s.heap (.type "dict")).keeps (pushCells_keeps _ _)) (λb o e=>pushCells_keeps _ _ b o (yy _ e)) ok)))
def K3 (I:Nat->vn->Prop)
  (turn:∀n s,I n s->wpAny (model prog w) A (pyNext it) (λr s1=>match r with
   | none=>R (.ok .next) s1
   | some v=>wpAny (model prog w) A (letOwnedTupleGo target it v) (λ_ s2=>wpAny (model prog w) A (assign target env v) (λ_ s3=>
     wpAny (model prog w) A (forIn ifs true λc r=>if r=true then do let ok <-isTrue c env (eval c env);pure (ForInStep.yield ok) else pure (ForInStep.yield r)) (λok s3'=>if ok=true then wpAny (model prog w) A (eval elt env) (λx s4=>
     wpAny (model prog w) A (call (.builtin "list.append") [acc,x]) (λ_ s5=>∃m,m<n/\I m s5) (λ_ _=>False) s4) (λ_ _=>False) s3' else∃m,m<n/\I m s3') (λ_ _=>False) s3) (λ_ _=>False) s2) (λ_ _=>False) s1) (λ_ _=>False) s)
  (n:Nat) (h:I n s):codeAny (model prog w) A (.compLoop (.ListComp elt [{target,iter,ifs,0}] scope pos) 0 it acc env) R s:=by
 refine codeAny_loop rfl I (λn s hI=>?_) n h;show wpAny _ _ ((compTurn (.ListComp elt [{target,iter,ifs,0}] scope pos) 0 it acc env).onRaise (λx=>do noteFrame x env;theTreesLotGoes x)) _ _ s;refine wpAny_noted ?_;rw[compTurn_list];let no:∀(E:vm->vn->Prop) (x:vm) (s':vn),False->E x s':=λ_ _ _ f=>f.elim;refine yx (wpAny_standAt (yx (xc (turn n s hI) (λr s1 h1=>?_) (no _))));cases r with
 | none=>exact yz h1
 | some v=>
  refine yx (xc h1 (λ_ s2 h2=>yx (xc h2 (λ_ s3 h3=>yx (xc h3 (λok s3' h3'=>?_) (no _))) (no _))) (no _));cases ok with
  | false=>
   rw[yQ ∅] at h3';exact yz {(rfl),h3'}
  | true=>
   rw[yR rfl] at h3';exact yx (yx (xc h3' (λx s4 h4=>yx (xc h4 (λ_ s5 h5=>yz (yz {(rfl),h5})) (no _))) (no _)))
section
variable {X:Cx} {pos:Pos}
def BK {elt target iter:Expr} {scope:Scope} {N:List Str} {fr:List (Option Nat)} {cl:List (Str×vw)} {g:TG} {tc:TT} {te:TE} {ifs:List Expr} (hc:X.calm=true) (hsub:∀x c,cl.lookup x=some c->X.env.cells.lookup x=some c) (hhas:∀C x,((compEnvC scope cl C X.env).kindOf x=some .cell\/(compEnvC scope cl C X.env).kindOf x=some .free)->(∃c,cl.lookup x=some c)\/∃c,(cellsFrom (C+1) scope.names []).lookup x=some c)
  (hlen:⇑fr=N.length) (hfr:∀(i:Nat) x j,N[i]?=some x->fr[i]?=some (some j)->X.N[j]?=some x/\Sg X.env.scope x/\X.env.kindOf x≠some .local/\(∀C,(compEnvC scope cl C X.env).kindOf x=some .cell\/(compEnvC scope cl C X.env).kindOf x=some .free)/\(∀c,X.env.cells.lookup x=some c->cl.lookup x=some c)/\∀C,(cellsFrom (C+1) scope.names []).lookup x=none) (hkind:scope.kind=.function)
  (hg:∀C s₀ H₀ ex,PG (cN X N scope cl C s₀ H₀ ex) target g) (hif:∀C s₀ H₀ ex,RP (cN X N scope cl C s₀ H₀ ex) ifs tc) (he:∀C s₀ H₀ ex,PE (cN X N scope cl C s₀ H₀ ex) elt te)
  {pins:List (vw×Obj)} {σ:St} {s2:vn} {it:vw} {fp:List vw} {tn:Nat->vx->Prop} {J:It} {H2:Hp} {Q:VK} {RR:vm->vw->Result->vn->Prop} (I2:Inv X pins σ H2 s2) (T:Turn X.prog X.w X.K target J fp it tn) (st2:tn 0 s2.heap) (f2:∀b∈fp,Dv X pins H2 b)
  (ok:dQ (fr.map λo=>o.bind λj=>(σ[j]?).join) g tc te Q J H2)
  (fin:∀D C s4 H' xs,↑s2<=D->↑s2<=C->C≠D->Inv X pins σ (upd H' D (.lst xs)) s4->H' D=none->H' C=none->(∃m,s4.heap.Ns C m)->(∀D,H' D=none->Q (.ref D) (upd H' D (.lst xs)))->RR (.ref D) C (.ok .next) s4) :
  wpAny (model X.prog X.w) X.A (newList []) (λacc s3=>wpAny (model X.prog X.w) X.A (newFunctionEnv scope X.env.globals cl [] X.env.qual none .none (some X.env)) (λcenv s4=>
   codeAny (model X.prog X.w) X.A (.compStart (.ListComp elt [{target,iter,ifs,0}] scope pos) 0 (.ref it) acc {cenv with scope:=relabel scope X.env}) (RR acc cenv.locals) s4) X.xe s3) X.xe s2:=by
 let⟨W,⟨m0,w0⟩,turn⟩:=ok;refine xb (FH λg1 hns hold hown=>?_);dsimp only at hns hold hown ⊢;generalize hG:s2.heap.push {cls:=.type "list",dict:=none,data:=.seq ([]:List vm).toArray}=G2 at hns hold hown ⊢;let hC:G2.objs.size=↑s2+1:=by rw[<-hG,xk]
 let below:∀b,b<↑s2->b≠G2.objs.size/\b≠↑s2:=λb hb=>{by rw[hC];exact yk (wL hb),yk hb}
 let hDC:↑s2≠G2.objs.size:=by rw[hC];exact yk (xP _)
 let old:∀b o,s2.heap.get? b=some o->g1.get? b=some o:=λb o e=>hold b o (hG▸yy _ e);let hacc:g1.get? ↑s2=some {cls:=.type "list",data:=.seq ([]:List vm).toArray 0}:=hold _ _ (hG▸yA _ rfl);let hsC:↑s2<G2.objs.size:=by rw[hC];exact xP _
 let csl:∀x c,(cellsFrom (G2.objs.size+1) scope.names cl).lookup x=some c->((cellsFrom (G2.objs.size+1) scope.names []).lookup x=some c/\G2.objs.size<c/\g1.IsCell c none)\/((cellsFrom (G2.objs.size+1) scope.names []).lookup x=none/\cl.lookup x=some c/\X.env.cells.lookup x=some c/\c<↑s2):=λx c e=>by
  rw[di,wD] at e;cases q:(cellsFrom (G2.objs.size+1) scope.names []).lookup x with
  | some d=>
   rw[q] at e;cases e;let⟨z1,z2⟩:=hown.empty x _ (mem_of_lookup q);exact .inl {(rfl),z2,z1}
  | none=>
   rw[q] at e;let⟨v,z⟩:=I2.cell x c (hsub x c e);exact .inr {rfl,e,hsub x c e,z.lt}
 let fplt:∀b∈fp,b<↑s2:=λb hb=>let ⟨o,e,_⟩:=T.obj _ _ st2 b hb;yB e;let Me:∀b∈fp,∀x c,(cellsFrom (G2.objs.size+1) scope.names cl).lookup x=some c->c≠b:=λb hb x c e=>by
  rcases csl x c e with⟨_,l,_⟩ | ⟨_,_,z,_⟩
  ·exact yj (xG (fplt b hb) (xG hsC l))
  ·exact(f2 b hb).2.2.2.2.1 x c z
 letI Y:Cx:=cN X N scope cl G2.objs.size s2 H2 fp
 let okY:Y.Ok:=by
  refine{I2.ok.mod,hkind,I2.ok.glob,I2.ok.blt,?_,λx y c e e'=>?_,λx hx=>?_,λx c hf e=>?_,I2.ok.hd,I2.ok.frames,.inl rfl,λb hb=>{(below b (fplt b hb)).1,λx c e=>Me b hb x c e},I2.bs,zN I2.ok.NY I2.sz,λb o e hb=>?_,λb hb hf=>?_,I2.stack,I2.kP}
  ·show ↑s2<=G2.objs.size
   rw[hC];exact x6 _
  ·rcases csl x c e with⟨q,l,_⟩ | ⟨_,q,z,l⟩
   ·rcases csl y c e' with⟨q',l',_⟩ | ⟨_,q',z',l'⟩
    ·exact Rj hown q q'
    ·exact absurd (xG (xG hsC l) l') (yf _)
   ·rcases csl y c e' with⟨q',l',_⟩ | ⟨_,q',z',l'⟩
    ·exact absurd (xG (xG hsC l') l) (yf _)
    ·exact I2.ok.inj x y c z z'
  ·show∃c,(cellsFrom (G2.objs.size+1) scope.names cl).lookup x=some c
   rw[di,wD];rcases hhas G2.objs.size x hx with⟨c,e⟩ | ⟨c,e⟩
   ·rw[e];cases(cellsFrom (G2.objs.size+1) scope.names []).lookup x with
    | none=>exact{(c),rfl}
    | some d=>exact{(d),rfl}
   ·rw[e];exact{(c),rfl}
  ·let hf':((cellsFrom (G2.objs.size+1) scope.names []).lookup x).isSome=true:=hf
   rcases csl x c e with⟨q,l,_⟩ | ⟨q,_⟩
   ·exact yi (xG hsC l)
   ·rw[q] at hf';cases hf'
  ·rcases(f2 b hb).2.2.2.1 with z | z
   ·exact I2.ok.mF b o e z
   ·exact absurd (yc (yB e) (zN I2.ok.NY z)) (yf _)
  ·rcases zE.mp (I2.EN b hf) with z | z
   ·exact(f2 b hb).2.1 z
   ·exact(f2 b hb).2.2.1 z
 let cl2:∀x c,(cellsFrom (G2.objs.size+1) scope.names cl).lookup x=some c->(∃v,g1.IsCell c v)/\H2 c=none/\c≠↑s2:=λx c e=>by
  rcases csl x c e with⟨_,l,z⟩ | ⟨_,_,z,l⟩
  ·exact{{_,z},I2.bV.fresh (yi (xG hsC l)),yj (xG hsC l)}
  ·let⟨v,oc,hoc,hd⟩:=I2.cell x c z
   exact{{v,oc,old _ _ hoc,hd},I2.jy x c z,yk l}
 let Dfs:↑s2∉Y.fs:=λhb=>by
  rcases zE.mp (I2.EN _ hb) with z | z
  ·exact absurd (z▸I2.lt) (yf _)
  ·exact I2.U1 (zp _) z
 let hCf:H2 G2.objs.size=none:=I2.bV.fresh (by rw[hC];exact x6 _);let start:∀tk,Inv Y [(↑s2,{cls:=.type "list",data:=.seq ([]:List vm).toArray 0})] (fr.map λo=>o.bind λj=>(σ[j]?).join) H2 {s2 with heap:=g1,toks:=tk}:=λtk=>
  {okY,rfl,I2.bare,Un.kept old,{_,hns,λi x v e1 e2 _=>by
    rw[zL] at e2;cases ef:fr[i]? with
    | none=>rw[ef] at e2;cases e2
    | some o=>
     cases o with
     | none=>rw[ef] at e2;cases e2
     | some j=>
      rw[ef] at e2;let e2':(σ[j]?).join=some v:=by simpa using e2
      let ej:σ[j]?=some (some v):=by
       cases q:σ[j]? with
       | none=>rw[q] at e2';cases e2'
       | some w=>rw[q] at e2';cases w with
        | none=>cases e2'
        | some w=>cases e2';rfl
      let⟨k1,k2,k3,k4,k5,k6⟩:=hfr i x j e1 ef;let⟨m,_,hl⟩:=I2.loc;let⟨u,r,l⟩:=hl j x v k1 ej k2;refine{u,r,?_};rcases l with l | ⟨_,c,ec,z⟩
      ·exact absurd l.1 k3
      ·let⟨oc,hoc,hd⟩:=z
       exact .inr {k4 G2.objs.size,c,by show(cellsFrom (G2.objs.size+1) scope.names cl).lookup x=some c;rw[di,wD,k6];exact k5 c ec,oc,old _ _ hoc,hd}},
   λx c e=>(cl2 x c e).1,hCf,λx c e=>(cl2 x c e).2.1,
   λp hp=>by
    let e:p=(↑s2,{cls:=.type "list",data:=.seq ([]:List vm).toArray 0}):=by simpa using (show p∈[]++[_] from hp)
    subst e;exact{hacc,I2.bV.fresh (zp _),hDC,Dfs,λv z=>by cases z},I2.bV.kept old,by rw[zd,hlen];rfl}
 let stat:∀{H':Hp} {ob:Obj},(∀b∈fp,H' b=none)->∀b∈fp,Dv Y [(↑s2,ob)] H' b:=λ{H' ob} hn b hb=>by
  refine{hn b hb,(below b (fplt b hb)).1,λz=>okY.KJ b hb z,.inl hb,Me b hb,λp hp=>?_};let e:p=(↑s2,ob):=by simpa using (show p∈[]++[_] from hp)
  subst e;exact(below b (fplt b hb)).2.symm
 let loop:∀tk,codeAny (model X.prog X.w) X.A (.compLoop (.ListComp elt [{target,iter,ifs,0}] scope pos) 0 (.ref it) (.ref ↑s2) (compEnvC scope (cellsFrom (G2.objs.size+1) scope.names cl) G2.objs.size X.env))
   (RR (.ref ↑s2) G2.objs.size) {s2 with heap:=g1,toks:=tk}:=by
  intro tk;refine K3 (λn s'=>∃i σ' H' xs its k,Inv Y [(↑s2,{cls:=.type "list",data:=.seq its.toArray k})] σ' H' s'/\tn i s'.heap/\(∀b∈fp,H' b=none)/\Vals xs its/\W i n xs σ' H') ?_ m0
   {0,_,H2,[],[],0,start tk,T.keep _ _ _ st2 λb _ o e=>old b o e,λb hb=>(f2 b hb).1,.nil,w0}
  rintro n s3 ⟨i,σ3,H3,xs,its,k,I3,st3,fr3,rv3,w3⟩;rcases turn i n xs σ3 H3 w3 with⟨stop,hz,qn⟩ | ⟨go,hz,step⟩
  ·refine cJ (T.done Y rfl rfl rfl hc i _ s3 σ3 H3 _ I3 (stat fr3) st3 stop) λr s4 ⟨hr,I4⟩=>?_
   subst hr;let⟨m,hm,_⟩:=id I4.loc;let⟨pD,nD,neD,fD,_⟩:=I4.pin (↑s2,{cls:=.type "list",data:=.seq its.toArray k}) (by show _∈[]++[_];simp);refine fin ↑s2 G2.objs.size s4 H3 xs (zp _) (by rw[hC];exact x6 _) hDC.symm (I2.Mg (s':=s4) (ch:=fp) I4.os ?_ ?_ I4.bare (λb hb=>{(f2 b hb).2.2.2.1,(f2 b hb).2.1,(f2 b hb).2.2.2.2.1,(f2 b hb).2.2.2.2.2})) nD I4.free {(m),hm} qn
   ·let ub:Un Y.fs Y.ex H2 H3 s2.heap s4.heap:=I4.base
    let lt:∀b o,s2.heap.get? b=some o->b≠G2.objs.size/\b≠↑s2:=λb o e=>below b (yB e);refine{λb o e n hb hx=>ub.keep b o e n hb hx,λb o e n hb hx=>ub.slot b o e n hb hx,λb o e n hx=>?_,λb o e hx=>ub.there b o e hx,λb ys e=>?_,λb o u e=>?_,λb ps e=>?_}
    ·rw[aC (lt b o e).2];exact ub.free b o e n hx
    ·let q:=ub.mz b ys e
     rw[aC (bI q nD)];exact q
    ·let q:=ub.kE b o u e
     rw[aC (bI q nD)];exact q
    ·let⟨more,q⟩:=ub.mC b ps e
     exact{more,by rw[aC (bI q nD)];exact q}
   ·intro b u e
    by_cases hb:b=↑s2
    ·subst hb;rw[aE] at e;cases e
     exact{(hz),its,k,rv3,pD}
    ·rw[aC hb] at e
     exact(I4.bV b u e).jH (λc v hc' q=>q) (λc q=>by rw[aC (bI q nD)];exact q) λc ys q=>by rw[aC (bI q nD)];exact q
  ·refine cJ (T.item Y rfl rfl rfl hc i _ s3 σ3 H3 _ I3 (stat fr3) st3 go) λr s4 ⟨u,hr,h4⟩=>?_
   subst hr;refine cJ h4 λ_ s5 z0=>?_;let⟨x,H5,I5,r5,y5,st5,fr5⟩:=z0;let I5':=I5.pinned (stat fr5) (T.obj _ _ st5);refine cJ (hg G2.objs.size s2 H2 fp _ s5 σ3 H5 x u _ I5' r5 (step x H5 y5)) λ_ s6 z0=>?_;let⟨σ6,H6,I6,q6⟩:=z0;refine cJ (hif G2.objs.size s2 H2 fp _ s6 σ6 H6 _ I6 q6) λb s6' z0=>?_;let⟨H6',I6',q6'⟩:=z0;cases b with
   | false=>
    rw[yQ ∅] at q6' ⊢;let⟨m',hm,w7⟩:=q6';let inD:(↑s2,({cls:=.type "list",data:=.seq its.toArray k}:Obj))∈Y.pn++([(↑s2,({cls:=.type "list",data:=.seq its.toArray k}:Obj))]++sD fp s5.heap):=by show _∈[]++_;simp
    let⟨pD,nD,neD,fD,dD⟩:=I6'.pin _ inD;let I7':Inv Y [] σ6 H6' s6':=I6'.nZ λp hp=>nomatch hp;refine{m',hm,i+1,σ6,H6',xs,its,k,I7'.nZ λp hp=>?_,T.keep _ _ _ st5 (λb hb o e=>(I6'.pin (b,o) (zJ _ (zJ _ (gw hb e)))).1),λb hb=>?_,rv3,w7}
    ·let e:p=(↑s2,{cls:=.type "list",data:=.seq its.toArray k}):=by simpa using hp
     subst e;exact{(pD),nD,neD,fD,dD}
    ·let⟨o,e,d⟩:=T.obj _ _ st5 b hb
     exact(I6'.pin (b,o) (zJ _ (zJ _ (gw hb e)))).2.1
   | true=>
   rw[yR rfl] at q6' ⊢;refine cJ (he G2.objs.size s2 H2 fp s6' σ6 H6' _ I6' q6') λv s7 z0=>?_;let⟨y,H7,I7,r7,m',hm,w7⟩:=z0;let inD:(↑s2,({cls:=.type "list",data:=.seq its.toArray k}:Obj))∈Y.pn++([(↑s2,({cls:=.type "list",data:=.seq its.toArray k}:Obj))]++sD fp s5.heap):=by show _∈[]++_;simp
   let⟨pD,nD,neD,fD,dD⟩:=I7.pin _ inD;let hlen:=⇑rv3;refine wpAny_list_append_plain (items:=its.toArray) (hsz:=by rw[yb];ext) {(k),pD} λg8 pl8 sb8=>?_;let⟨k8,e8⟩:=pl8;let I7':Inv Y [] σ6 H7 s7:=I7.nZ λp hp=>nomatch hp;let I8:Inv Y [] σ6 H7 {s7 with heap:=g8}:=I7'.turned (t':=s7.toks) (λb o hb e=>sb8.extBut b o hb e) nD neD (.inr (zp _)) (λx c e=>(cl2 x c e).2.2) (λp hp=>(nomatch (show p∈([]:List (vw×Obj)) from hp)));let e8':g8.get? ↑s2=some {cls:=.type "list",data:=.seq (its++[v]).toArray k8}:=by rw[e8];simp
   let fpD:∀b∈fp,∀o,s5.heap.get? b=some o->g8.get? b=some o:=λb hb o e=>sb8.extBut b o (below b (fplt b hb)).2 (I7.pin (b,o) (zJ _ (zJ _ (gw hb e)))).1;refine{m',hm,i+1,σ6,H7,xs++[y],its++[v],k8,I8.nZ λp hp=>?_,T.keep _ _ _ st5 fpD,λb hb=>?_,rv3.append (.cons r7 .nil),w7}
   ·let e:p=(↑s2,{cls:=.type "list",data:=.seq (its++[v]).toArray k8}):=by simpa using hp
    subst e;exact{e8',nD,neD,fD,λv z=>by cases z}
   ·let⟨o,e,d⟩:=T.obj _ _ st5 b hb
    exact(I7.pin (b,o) (zJ _ (zJ _ (gw hb e)))).2.1
 exact codeAny_compStart_list (loop _) (T.self _ _ _ _ _ (T.keep _ _ _ st2 λb _ o e=>old b o e) (loop _))
def MZ {elt target iter:Expr} {scope:Scope} {N:List Str} {fr:List (Option Nat)} {cl:List (Str×vw)} {wi:TI} {g:TG} {tc:TT} {te:TE} {ifs:List Expr} (hc:X.calm=true) (hclos:closureFor scope X.env=pure cl) (hsub:∀x c,cl.lookup x=some c->X.env.cells.lookup x=some c) (hhas:∀C x,((compEnvC scope cl C X.env).kindOf x=some .cell\/(compEnvC scope cl C X.env).kindOf x=some .free)->(∃c,cl.lookup x=some c)\/∃c,(cellsFrom (C+1) scope.names []).lookup x=some c)
  (hlen:⇑fr=N.length) (hfr:∀(i:Nat) x j,N[i]?=some x->fr[i]?=some (some j)->X.N[j]?=some x/\Sg X.env.scope x/\X.env.kindOf x≠some .local/\(∀C,(compEnvC scope cl C X.env).kindOf x=some .cell\/(compEnvC scope cl C X.env).kindOf x=some .free)/\(∀c,X.env.cells.lookup x=some c->cl.lookup x=some c)/\∀C,(cellsFrom (C+1) scope.names []).lookup x=none) (hkind:scope.kind=.function)
  (hnames:∀y∈scope.names,y.2=.local->scope.names.lookup y.1=some .local) (hi:PI X target iter wi)
  (hg:∀C s₀ H₀ ex,PG (cN X N scope cl C s₀ H₀ ex) target g) (hif:∀C s₀ H₀ ex,RP (cN X N scope cl C s₀ H₀ ex) ifs tc) (he:∀C s₀ H₀ ex,PE (cN X N scope cl C s₀ H₀ ex) elt te) (hs:(∀x,foldedSetIterable iter X.env x=pure x)<|>qd_) :
  PE X (.ListComp elt [{target,iter,ifs,0}] scope pos) (mP fr wi g tc te):=by
 intro pins s σ H Q I h;rw[eval_ListComp];refine wpAny_comprehension_free (use:=none) (cl:=cl) rfl hs hclos hkind hnames (cJ (hi s σ H _ I h) λxv s1 h1=>cJ h1 λitv s2 h2=>?_);let⟨it,fp,tn,J,H2,e,I2,T,st2,f2,ok⟩:=h2;subst e;refine BK (RR:=λacc C=>compPost (model X.prog X.w) X.A X.xe none (EP X pins σ Q) acc C) hc hsub hhas hlen hfr hkind hg hif he I2 T st2 f2 ok ?_;intro D C s4 H' xs hD hC hne I4 nD nC ⟨m,hm⟩ qn;refine{m,hm,λg5 hs5=>{.ref D,upd H' D (.lst xs),I2.U7 hC I4 (by rw[aC hne];exact nC) hs5,rfl,qn D nD}}
def MV {elt target iter:Expr} {scope:Scope} {N:List Str} {fr:List (Option Nat)} {cl:List (Str×vw)} {wi:TI} {g:TG} {tc:TT} {te:TE} {ifs:List Expr} (hc:X.calm=true) (hclos:closureFor scope X.env=pure cl) (hsub:∀x c,cl.lookup x=some c->X.env.cells.lookup x=some c) (hhas:∀C x,((compEnvC scope cl C X.env).kindOf x=some .cell\/(compEnvC scope cl C X.env).kindOf x=some .free)->(∃c,cl.lookup x=some c)\/∃c,(cellsFrom (C+1) scope.names []).lookup x=some c)
  (hlen:⇑fr=N.length) (hfr:∀(i:Nat) x j,N[i]?=some x->fr[i]?=some (some j)->X.N[j]?=some x/\Sg X.env.scope x/\X.env.kindOf x≠some .local/\(∀C,(compEnvC scope cl C X.env).kindOf x=some .cell\/(compEnvC scope cl C X.env).kindOf x=some .free)/\(∀c,X.env.cells.lookup x=some c->cl.lookup x=some c)/\∀C,(cellsFrom (C+1) scope.names []).lookup x=none) (hkind:scope.kind=.function)
  (hnames:∀y∈scope.names,y.2=.local->scope.names.lookup y.1=some .local) (hi:PI X target iter wi)
  (hg:∀C s₀ H₀ ex,PG (cN X N scope cl C s₀ H₀ ex) target g) (hif:∀C s₀ H₀ ex,RP (cN X N scope cl C s₀ H₀ ex) ifs tc) (he:∀C s₀ H₀ ex,PE (cN X N scope cl C s₀ H₀ ex) elt te) (hs:(∀x,foldedSetIterable iter X.env x=pure x)<|>qd_)  {i:Nat} {x:Str} {ps pa:Pos} (hN:X.N.Nodup) (hx1:X.N[i]?=some x) (hx2:Loc X.env.scope x) (hsw:swapsWith (.ListComp elt [{target,iter,ifs,0}] scope pos) (some (.Name x ps)) pa.line X.env=pure true<|>qe_)
  (hf:X.fn x=true\/X.env.scope.names.lookup x=some .local<|>qa_) :
  PS X (.Assign [.Name x ps] (.ListComp elt [{target,iter,ifs,0}] scope pos) pa) (rO (mP fr wi g tc te) (bW i)):=by
 intro pins s σ H D I h;rw[exec_Assign_Name_used _ _ _ _ hsw];refine yx (wpAny_standAt (yx ?_));show wpAny _ X.A (do let _ <-comprehension (.ListComp elt [{target,iter,ifs,0}] scope pos) scope X.env _ (newList []) false (eval iter X.env) (some (assign (.Name x ps) X.env))) _ _ s;refine yx (xc (wpAny_comprehension_free (use:=some (assign (.Name x ps) X.env)) (cl:=cl) (Q:=λ_ s'=>SP X pins D .next s') rfl hs hclos hkind hnames (cJ (hi s σ H _ I h) λxv s1 h1=>cJ h1 λitv s2 h2=>?_)) (λ_ s' hq=>yz (yz hq)) λ_ _ e=>e);let⟨it,fp,tn,J,H2,e,I2,T,st2,f2,ok⟩:=h2;subst e;refine BK (RR:=λacc C=>compPost (model X.prog X.w) X.A X.xe (some (assign (.Name x ps) X.env)) (λ_ s'=>SP X pins D .next s') acc C) hc hsub hhas hlen hfr hkind hg hif he I2 T st2 f2 ok ?_;intro E C s4 H' xs hE hC hne I4 nE nC ⟨m,hm⟩ qn;show wpAny _ X.A (assign (.Name x ps) X.env (.ref E)) _ _ s4;refine wpAny_assign_Name (DE I4 hN hx1 hx2 (v:=.ref E) rfl (λs5 I5 hw=>?_) hf);let⟨aw,sb,ha⟩:=hw;let hCn:(upd H' E (.lst xs)) C=none:=by rw[aC hne];exact nC
 let⟨f0,f1,f2',f3,f4,f5⟩:=I2.C0 hC hCn;let neC:C≠aw:=by
  rcases ha with z | z
  ·rw[z];exact f1
  ·exact λq=>f4 x aw z q.symm
 refine{m,hm.sameBut sb neC,λg6 hs6=>?_};exact{_,_,I2.U7 hC I5 hCn hs6,qn E nE}
end
def GC (cells:List (Str×vw)):List (Str×vw)->Prop
 | []=>True
 | p::r=>cells.lookup p.1=some p.2/\GC cells r
theorem GC.sub:∀{cl:List (Str×vw)},GC cells cl->∀x c,cl.lookup x=some c->cells.lookup x=some c
 | [],_,x,c,e=>by cases e
 | (y,d)::r,h,x,c,e=>by
  rw[yu] at e;split at e
  ·rename_i q
   cases e;rw[eq_of_beq q];exact h.1
  ·exact GC.sub h.2 x c e
def NT (X:Cx) (scope:Scope) (cl:List (Str×vw)):List Str->List Nat->Prop
 | [],[]=>True
 | y::ys,j::js=>(X.N[j]?=some y/\(X.env.kindOf y=some .cell\/X.env.kindOf y=some .free)/\((relabel scope X.env).names.lookup y=some .cell\/(relabel scope X.env).names.lookup y=some .free)/\∃c,X.env.cells.lookup y=some c/\cl.lookup y=some c)/\NT X scope cl ys js
 | _,_=>False
theorem NT.len:∀{ys:List Str} {js:List Nat},NT X scope cl ys js->⇑js=⇑ys
 | [],[],_=>rfl
 | _::_,_::_,h=>by rw[zw,zw,NT.len h.2]
 | [],_::_,h=>h.elim
 | _::_,[],h=>h.elim
theorem NT.get:∀{ys:List Str} {js:List Nat} {i:Nat} {y:Str} {j:Nat},NT X scope cl ys js->ys[i]?=some y->js[i]?=some j->
  X.N[j]?=some y/\(X.env.kindOf y=some .cell\/X.env.kindOf y=some .free)/\((relabel scope X.env).names.lookup y=some .cell\/(relabel scope X.env).names.lookup y=some .free)/\∃c,X.env.cells.lookup y=some c/\cl.lookup y=some c
 | [],_,_,_,_,_,e,_=>by simp at e
 | _::_,[],_,_,_,h,_,_=>h.elim
 | y::ys,j::js,0,_,_,h,e,e'=>by simp at e e';subst e e';exact h.1
 | y::ys,j::js,i+1,_,_,h,e,e'=>NT.get (i:=i) h.2 (by simpa using e) (by simpa using e')
theorem K6:∀{names:List (Str×NameKind)} {n:Nat} {x:Str} {c:vw},(cellsFrom n names []).lookup x=some c->(x,NameKind.cell)∈names
 | [],_,_,_,e=>by cases e
 | (y,k)::r,n,x,c,e=>by
  unfold cellsFrom at e;split at e
  ·rename_i hk
   rw[di,wD] at e;cases q:(cellsFrom (n+1) r []).lookup x with
   | some d=>exact zr _ (K6 q)
   | none=>
    rw[q] at e;let e':([(y,n)]:List (Str×vw)).lookup x=some c:=e;rw[yu] at e';split at e'
    ·rename_i z
     rw[eq_of_beq z,eq_of_beq hk];exact zt
    ·cases e'
  ·exact zr _ (K6 e)
theorem K7:∀{names:List (Str×NameKind)} {n:Nat} {x:Str},(x,NameKind.cell)∈names->∃c,(cellsFrom n names []).lookup x=some c
 | [],_,_,h=>by cases h
 | (y,k)::r,n,x,h=>by
  unfold cellsFrom;split
  ·rw[di,wD]
   cases q:(cellsFrom (n+1) r []).lookup x with
   | some d=>exact{(d),rfl}
   | none=>
    rcases zE.mp h with h | h
    ·let⟨e1,_⟩:=Prod.mk.inj h
     exact{n,by show([(y,n)]:List (Str×vw)).lookup x=some n;rw[e1,yu,wk]}
    ·let⟨c,e⟩:=K7 (n:=n+1) h
     rw[q] at e;cases e
  ·rename_i hk
   rcases zE.mp h with h | h
   ·cases h;exact absurd rfl hk
   ·exact K7 h
theorem tU:∀{L:List (Str×NameKind)} {x:Str} {k:NameKind},L.lookup x=some k->(x,k)∈L
 | [],_,_,h=>by cases h
 | (y,j)::r,x,k,h=>by
  rw[yu] at h;split at h
  ·rename_i q;cases h;rw[eq_of_beq q];exact zt
  ·exact zr _ (tU h)
section
variable {X:Cx} {pos:Pos} {elt target iter:Expr} {ifs:List Expr} {scope:Scope} {ts ys:List Str} {js:List Nat} {cl:List (Str×vw)} {wi:TI} {g:TG} {tc:TT} {te:TE}
def En (hcl:GC X.env.cells cl) (hLo:((relabel scope X.env).names.all λp=>(p.2 != .cell&&p.2 != .free)||ys.contains p.1||scope.names.contains (p.1,.cell))=true) (hno:∀p∈scope.names,p.2=.cell->p.1∉ys) (hfr:NT X scope cl ys js) :
  (∀(C:vw) x,((compEnvC scope cl C X.env).kindOf x=some .cell\/(compEnvC scope cl C X.env).kindOf x=some .free)->(∃c,cl.lookup x=some c)\/∃c,(cellsFrom (C+1) scope.names []).lookup x=some c)/\
  ⇑(ts.map (λ_=>(none:Option Nat))++js.map some)=⇑(ts++ys)/\
  (∀(i:Nat) x j,(ts++ys)[i]?=some x->(ts.map (λ_=>(none:Option Nat))++js.map some)[i]?=some (some j)->X.N[j]?=some x/\Sg X.env.scope x/\X.env.kindOf x≠some .local/\(∀C,(compEnvC scope cl C X.env).kindOf x=some .cell\/(compEnvC scope cl C X.env).kindOf x=some .free)/\(∀c,X.env.cells.lookup x=some c->cl.lookup x=some c)/\∀C,(cellsFrom (C+1) scope.names []).lookup x=none):=by
 refine{λC x hx=>?_,by simp[NT.len hfr],λi x j h1 h2=>?_}
 ·let key:∀k,(relabel scope X.env).names.lookup x=some k->(k=.cell\/k=.free)->(∃c,cl.lookup x=some c)\/∃c,(cellsFrom (C+1) scope.names []).lookup x=some c:=λk hk hk'=>by
   have:=(yt.mp hLo) _ (tU hk);rw[Bool.or_eq_true,Bool.or_eq_true] at this;rcases this with(z | z) | z
   ·rcases hk' with rfl | rfl <;> simp at z
   ·let hm:x∈ys:=List.contains_iff_mem.mp z
    let⟨n,hn⟩:=List.getElem?_of_mem hm;let hl:n<⇑js:=by rw[hfr.len];exact(zA.mp hn).1
    let⟨_,_,_,c,_,e⟩:=hfr.get hn (ze hl);exact .inl {(c),e}
   ·exact .inr (K7 (List.contains_iff_mem.mp z))
  rcases hx with hx | hx
  ·exact key _ hx (.inl rfl)
  ·exact key _ hx (.inr rfl)
 ·let hi:⇑ts<=i:=by
   rcases xH i ⇑ts with h | h
   ·rw[wq (by simpa using h),zL] at h2
    cases q:ts[i]? with
    | none=>rw[q] at h2;cases h2
    | some z=>rw[q] at h2;cases h2
   ·exact h
  rw[z9 hi] at h1;rw[z9 (by simpa using hi),zd,zL] at h2;let h2':js[i-⇑ts]?=some j:=by
   cases q:js[i-⇑ts]? with
   | none=>rw[q] at h2;cases h2
   | some z=>rw[q] at h2;cases h2;rfl
  let⟨k1,k2,k3,c,k4,k5⟩:=hfr.get h1 h2';refine{k1,.inr k2,λz=>?_,λC=>k3,λd hd=>?_,λC=>?_}
  ·rcases k2 with k2 | k2 <;> (rw[z] at k2;cases k2)
  ·rw[k4] at hd;cases hd;exact k5
  ·cases q:(cellsFrom (C+1) scope.names []).lookup x with
   | none=>rfl
   | some d=>exact absurd (zD h1) (hno _ (K6 q) rfl)
def O7 (hc:X.calm=true) (hclos:closureFor scope X.env=pure cl) (hcl:GC X.env.cells cl) (hLo:((relabel scope X.env).names.all λp=>(p.2 != .cell&&p.2 != .free)||ys.contains p.1||scope.names.contains (p.1,.cell))=true) (hno:∀p∈scope.names,p.2=.cell->p.1∉ys) (hfr:NT X scope cl ys js) (hkind:scope.kind=.function)
  (hnames:∀y∈scope.names,y.2=.local->scope.names.lookup y.1=some .local) (hi:PI X target iter wi)
  (hg:∀C s₀ H₀ ex,PG (cN X (ts++ys) scope cl C s₀ H₀ ex) target g) (hif:∀C s₀ H₀ ex,RP (cN X (ts++ys) scope cl C s₀ H₀ ex) ifs tc) (he:∀C s₀ H₀ ex,PE (cN X (ts++ys) scope cl C s₀ H₀ ex) elt te) (hs:(∀x,foldedSetIterable iter X.env x=pure x)<|>qd_) :
  PE X (.ListComp elt [{target,iter,ifs,0}] scope pos) (mP (ts.map (λ_=>none)++js.map some) wi g tc te):=by
 let⟨a,b,c⟩:=En (ts:=ts) hcl hLo hno hfr;exact MZ hc hclos hcl.sub a b c hkind hnames hi hg hif he hs
def OX (hc:X.calm=true) (hclos:closureFor scope X.env=pure cl) (hcl:GC X.env.cells cl) (hLo:((relabel scope X.env).names.all λp=>(p.2 != .cell&&p.2 != .free)||ys.contains p.1||scope.names.contains (p.1,.cell))=true) (hno:∀p∈scope.names,p.2=.cell->p.1∉ys) (hfr:NT X scope cl ys js) (hkind:scope.kind=.function)
  (hnames:∀y∈scope.names,y.2=.local->scope.names.lookup y.1=some .local) (hi:PI X target iter wi)
  (hg:∀C s₀ H₀ ex,PG (cN X (ts++ys) scope cl C s₀ H₀ ex) target g) (hif:∀C s₀ H₀ ex,RP (cN X (ts++ys) scope cl C s₀ H₀ ex) ifs tc) (he:∀C s₀ H₀ ex,PE (cN X (ts++ys) scope cl C s₀ H₀ ex) elt te) (hN:X.N.Nodup) (hx1:X.N[i]?=some x) (hx2:Loc X.env.scope x) (hs:(∀x,foldedSetIterable iter X.env x=pure x)<|>qd_) (hsw:swapsWith (.ListComp elt [{target,iter,ifs,0}] scope pos) (some (.Name x ps)) pa.line X.env=pure true<|>qe_)
  (hf:X.fn x=true\/X.env.scope.names.lookup x=some .local<|>qa_) :
  PS X (.Assign [.Name x ps] (.ListComp elt [{target,iter,ifs,0}] scope pos) pa) (rO (mP (ts.map (λ_=>none)++js.map some) wi g tc te) (bW i)):=by
 let⟨a,b,c⟩:=En (ts:=ts) hcl hLo hno hfr;exact MV hc hclos hcl.sub a b c hkind hnames hi hg hif he hs hN hx1 hx2 hsw hf
end
def NU (n:Nat) (f:Nat->List V) (Pv:Nat->St->Hp->Prop) (i m:Nat) (xs:List V) (σ:St) (H:Hp):Prop:=m=n-i/\i<=n/\xs=f i/\Pv i σ H
def NU.push (hi:i<n) (e:f (i+1)=f i++[y]) (p:Pv (i+1) σ H):∃m',m'<n-i/\NU n f Pv (i+1) m' (f i++[y]) σ H:={n-(i+1),(),rfl,hi,e.symm,p}
def NU.skip (hi:i<n) (e:f (i+1)=f i) (p:Pv (i+1) σ H):∃m',m'<n-i/\NU n f Pv (i+1) m' (f i) σ H:={n-(i+1),(),rfl,hi,e.symm,p}
def rB (n:Nat) (f:Nat->List V) (Pv:Nat->St->Hp->Prop) (hz:∀i,i<=n->⇑(f i)<=i) (hn:n<=sizeLine) (f0:f 0=[]) (h0:Pv 0 σ₀ H1)
  (go:∀i σ H,i<n->Pv i σ H->J.go i H) (stop:∀σ H,Pv n σ H->J.stop n H)
  (turn:∀i x σ H H2,i<n->Pv i σ H->J.Mr i H x H2->g x σ H2 λσ3 H3=>tc σ3 H3 λb H4=>if b=true then te σ3 H4 λy H5=>∃m',m'<n-i/\NU n f Pv (i+1) m' (f i++[y]) σ3 H5 else∃m',m'<n-i/\NU n f Pv (i+1) m' (f i) σ3 H4)
  (fin:∀σ H,Pv n σ H->∀D,H D=none->Q (.ref D) (upd H D (.lst (f n)))):dQ σ₀ g tc te Q J H1:=by
 refine{NU n f Pv,{n,by simp,yg _,f0.symm,h0},?_};rintro i m xs σ H ⟨rfl,hi,rfl,p⟩;have:=hz i hi;rcases xH i n with hlt | hge
 ·exact .inr {go i σ H hlt p,(),λx H2 y=>turn i x σ H H2 hlt p y}
 ·let e:i=n:=()
  subst e;exact .inl {stop σ H p,(),fin σ H p}
section
variable {X:Cx}
def Fm (bs:List Bool):((List.range ⇑bs).any λi=>(bs[i]?).getD false)=bs.any id:=by
 rw[xM,yr,yr];constructor
 ·rintro⟨i,hi,e⟩
  let hi':=yU.mp hi;rw[ze hi'] at e;exact{_,yo hi',e}
 ·rintro⟨b,hb,e⟩
  let⟨i,hi,e'⟩:=List.mem_iff_getElem.mp hb;exact{i,yU.mpr hi,by rw[ze hi,e'];exact e}
def gA (hc:X.calm=true):fb X (.builtin "any") (λxs H Q=>∃(a:vw) (bs:List Bool),xs=[.ref a]/\fM X.K H a (bs.map V.bl)/\Q (.bl (bs.any id)) H):=by
 intro pins s σ H xs us Q I r h;let⟨a,bs,e,hq,q⟩:=h;subst e;cases r with
 | cons r rr=>
  cases rr;cases r;let⟨its,rv,p,hz⟩:=I.list hq;let hlt:a<↑s:=by let⟨o,n,e,_⟩:=p;exact yB e
  let hlen:⇑bs=⇑its:=by have:=⇑rv;rw[zd] at this;exact this
  refine call_any_walk (wK p.isList ?_);refine{↑s,[↑s,a],[↑s],its.toArray.size,_,_,λi=>(bs[i]?).getD false,rfl,Walks.list (A:=X.A.in1) (I.ok.hd hc) _ a (yk hlt) its.toArray,
   {{_,yA _ rfl,rfl,rfl},p.isList.push _},λi v s' Q' E' hP hQ=>?_,λh' tk hk=>?_}
  ·let hP':its[i]?=some v:=by simpa using hP
   let hi:i<⇑bs:=by rw[hlen];exact(zA.mp hP').1
   let hm:(bs.map V.bl)[i]?=some (.bl bs[i]):=by rw[zL,ze hi];rfl
   let⟨u,hu,ru⟩:=rv.get hm;rw[hP'] at hu;cases hu;cases ru;dsimp only at hQ;rw[ze hi] at hQ;exact xh hQ
  ·let e:((List.range its.toArray.size).any λi=>(bs[i]?).getD false)=bs.any id:=by rw[yb,<-hlen];exact Fm bs
   rw[e];exact{.bl _,H,I.kept λb o x=>hk b o (λhm=>by rw[zB.mp hm] at x;exact yf _ (yB x)) (yy _ x),rfl,q}
def tQ (ns:List Int):∀k,k<=⇑ns->preSum (λi=>(ns[i]?).getD 0) k=(ns.take k).sum:=by
 intro k
 induction k with
 | zero=>intro _;simp[preSum]
 | succ k ih=>
  intro hk;let hk':k<⇑ns:=hk;let e:=ih (yi hk');rw[List.take_succ,List.sum_append,<-e,ze hk'];simp[preSum,ze hk']
def Nz (hc:X.calm=true):fb X (.builtin "sum") (λxs H Q=>∃(a:vw) (ns:List Int),xs=[.ref a]/\fM X.K H a (ns.map V.int)/\(∀n∈ns,0<=n/\n<1000000)/\⇑ns<=1000/\Q (.int ns.sum) H):=by
 intro pins s σ H xs us Q I r h;let⟨a,ns,e,hq,hb,hl,q⟩:=h;subst e;cases r with
 | cons r rr=>
  cases rr;cases r;let⟨its,rv,p,hz⟩:=I.list hq;let hlt:a<↑s:=by let⟨o,n,e,_⟩:=p;exact yB e
  let hlen:⇑ns=⇑its:=by have:=⇑rv;rw[zd] at this;exact this
  let bnd:∀k,k<=⇑ns->0<=(ns.take k).sum/\(ns.take k).sum<=1000000*k:=by
   intro k
   induction k with
   | zero=>intro _;simp
   | succ k ih=>
    intro hk;let hk':k<⇑ns:=hk;have:=ih (yi hk');rw[List.take_succ,List.sum_append,ze hk'];let hb':=hb _ (yo hk');simp only[Option.toList_some,wU,List.sum_nil];ext
  refine call_sum_walk (wK p.isList ?_);refine{↑s,[↑s,a],[↑s],its.toArray.size,_,_,λi=>(ns[i]?).getD 0,rfl,Walks.list (A:=X.A.in1) (I.ok.hd hc) _ a (yk hlt) its.toArray,
   {{_,yA _ rfl,rfl,rfl},p.isList.push _},λb hb'=>?_,λi v hP=>?_,λj hj=>?_,λh' tk t' hk=>?_}
  ·rw[xk]
   rcases zE.mp hb' with e | e
   ·rw[e];exact xP _
   ·rw[zB.mp e];exact wL hlt
  ·let hP':its[i]?=some v:=by simpa using hP
   let hi:i<⇑ns:=by rw[hlen];exact(zA.mp hP').1
   let hm:(ns.map V.int)[i]?=some (.int ns[i]):=by rw[zL,ze hi];rfl
   let⟨u,hu,ru⟩:=rv.get hm;rw[hP'] at hu;cases hu;dsimp only;rw[ze hi];exact ru
  ·let hj':j<⇑ns:=by rw[hlen];simpa using hj
   let b1:=hb _ (yo hj');let b2:=bnd (j+1) hj';rw[tQ ns (j+1) hj'];dsimp only;rw[ze hj'];simp only[Option.getD_some];constructor <;> (unfold InLong;ext)
  ·let e:preSum (λi=>(ns[i]?).getD 0) its.toArray.size=ns.sum:=by rw[yb,<-hlen,tQ ns _ (zp _),zO]
   rw[e];exact{.int _,H,I.kept λb o x=>hk b o (λhm=>by rw[zB.mp hm] at x;exact yf _ (yB x)) (yy _ x),{_,rfl},q}
end
section
variable {prog:vo} {w:vq} {A:vt} {E:vm->vn->Prop} {s:vn}
def Dh (hl:IsTup s.heap l vs.toArray)
  (h:Q vs {s with heap:=(s.heap.push (seqObj "list" #[] 0)).update ↑s (Obj.mapSeq (·++vs.toArray))}) (hsz:⇑vs<=sizeLine) :
  wpAny (model prog w) A (collect (.ref l)) Q E s:=by
 let⟨o,ho,hc,n,hd⟩:=id hl;unfold collect;refine yx (wpAny_runValue (xV entry_proto_collect' ?_));show wpAny _ _ (do again (.builtin "list.__iadd__" {[<-newList [],.ref l],[]})) _ _ s;refine yx (wpAny_newList (yz {Code.quiet_builtin _ (by decide +kernel),xV entry_list_iadd' ?_}));show wpAny _ _ (Builtin.List.listExtendWith (.ref ↑s) (.ref l) (.ref ↑s)) _ _ {s with heap:=s.heap.push (seqObj "list" #[] 0)};unfold Builtin.List.listExtendWith;let ho':(s.heap.push (seqObj "list" #[] 0)).get? l=some o:=yy _ ho;refine yx (w9 (T:="tuple") {(o),ho',hc} ?_);let ht:(Value.type "tuple"== Value.type "tuple")=true:=by rfl
 rw[yR (by rw[ht];simp)];refine yx (listItems_at ho' hd ?_);refine yx (listItems_at (xs:=#[]) (n:=0) (yA _ rfl) rfl ?_);rw[yQ (by simp)];refine yx (listUpdate_at (xs:=#[]) (n:=0) (yA _ rfl) rfl ?_ (yg _) (by show(#[]++vs.toArray).size<=sizeLine+1;simp only[Array.size_append,yb,xo];ext));refine yz ?_;show wpAny (model prog w) A (do
   let o <-load ↑s
   match o.data with
   | .seq xs _=>pure xs.toList
   | _=>unsupported "internal:collect") Q E {s with heap:=(s.heap.push (seqObj "list" #[] 0)).update ↑s (Obj.mapSeq (·++vs.toArray))}
 refine yx (wpAny_load (get?_update_seq (yA _ rfl) _) ?_);show wpAny _ _ (pure ((#[]:Array vm)++vs.toArray).toList) Q E _;rw[show((#[]:Array vm)++vs.toArray).toList=vs by simp];exact yz h
def JY (hl:IsTup s.heap l vs.toArray) (hI:IntsAre vs ns) (h64:⇑vs<64)
  (h:∀(out:Array vm) (ns':List Int),IntsAre out.toList ns'->ns'.Perm ns->ns'.Pairwise (·<=·)->Q (.ref (↑s+1)) {s with heap:=sortedAll s.heap vs out}) :
  wpAny (model prog w) A (call (.builtin "sorted") [.ref l]) Q E s:=by
 refine Calls.call_function_entry kind_sorted plain_sorted entry_sorted (args_sorted1 _) ?_;unfold Builtin.«sorted»;refine yx (m:=checkCount "sorted" 1 1 _) (yz ?_);refine yx (Dh hl ?_ (by rw[yF];ext));refine yx (wpAny_newList ?_);let hsz:((s.heap.push (seqObj "list" #[] 0)).update ↑s (Obj.mapSeq (·++vs.toArray))).objs.size=↑s+1:=by
  rw[Heap.size_update,size_push']
 let hoL:(((s.heap.push (seqObj "list" #[] 0)).update ↑s (Obj.mapSeq (·++vs.toArray))).push (seqObj "list" vs.toArray 0)).get? (↑s+1)=some (seqObj "list" vs.toArray 0):=by
  rw[<-hsz];exact yA _ rfl
 show wpAny _ _ _ _ _ {s with heap:=((s.heap.push (seqObj "list" #[] 0)).update ↑s (Obj.mapSeq (·++vs.toArray))).push (seqObj "list" vs.toArray 0)};rw[hsz];refine yx (xI (y9 slot_list_sort {_,hoL,rfl} entry_list_sort (list_sort_tree hoL hI h64 λout ns' a1 a2 a3=>{_,rfl,?_}) (args_list_sort _)));exact yz {_,rfl,h out ns' a1 a2 a3}
def Ct (h:vx) (vs:List vm) (out:Array vm):∃n,(sortedAll h vs out).get? (h.objs.size+1)=some {cls:=.type "list",data:=.seq out n}:=by
 let hsz:((h.push (seqObj "list" #[] 0)).update h.objs.size (Obj.mapSeq (·++vs.toArray))).objs.size=h.objs.size+1:=by rw[Heap.size_update,size_push']
 let h1:(((h.push (seqObj "list" #[] 0)).update h.objs.size (Obj.mapSeq (·++vs.toArray))).push (seqObj "list" vs.toArray 0)).get? (h.objs.size+1)=some (seqObj "list" vs.toArray 0):=by
  rw[<-hsz];exact yA _ rfl
 unfold sortedAll sortedHeap;let h2:=get?_update_seq h1 (λ_=>#[]);let h3:=yy (seqObj "list" #[] 0) (yy (seqObj "tuple" vs.toArray 0) h2);exact{_,get?_update_seq h3 (λ_=>out)}
def uy (h:vx) (vs:List vm) (out:Array vm) (b:vw) (o:Obj) (e:h.get? b=some o):(sortedAll h vs out).get? b=some o:=by
 let hb:b<h.objs.size:=yB e;unfold sortedAll sortedHeap;let n1:h.objs.size≠b:=yj hb;let n2:h.objs.size+1≠b:=yj (wL hb);rw[yC _ _ n2];refine yy _ (yy _ ?_);rw[yC _ _ n2];refine yy _ ?_;rw[yC _ _ n1];exact yy _ e
end
theorem qd:∀{us:List vm} {ns:List Int},IntsAre us ns->Vals (ns.map V.int) us
 | _,_,.nil=>.nil
 | _,_,.cons r t h=>.cons {_,rfl} (qd h)
section
variable {X:Cx}
def rC:fb X (.builtin "sorted") (λxs H Q=>∃(a:vw) (ns:List Int),xs=[.ref a]/\(fM X.K H a (ns.map V.int)\/mI X.K H a (ns.map V.int))/\⇑ns<64/\∀ns':List Int,ns'.Perm ns->ns'.Pairwise (·<=·)->∀l,H l=none->Q (.ref l) (upd H l (.lst (ns'.map V.int)))):=by
 intro pins s σ H xs us Q I r h;let⟨a,ns,rfl,hq,h64,q⟩:=h;let⟨u,rfl,rx⟩:=vals1 r;cases rx;let fin:∀(its:List vm),⇑ns=⇑its->∀(out:Array vm) (ns':List Int),IntsAre out.toList ns'->ns'.Perm ns->ns'.Pairwise (·<=·)->EP X pins σ Q (.ref (↑s+1)) {s with heap:=sortedAll s.heap its out}:=λits hl out ns' a1 a2 a3=>by
  let⟨n,hn⟩:=Ct s.heap its out;refine{.ref _,_,I.laid (t':=s.toks) (a:=↑s+1) (o:=.lst (ns'.map V.int)) (uy s.heap its out) (x6 _) ?_,rfl,q ns' a2 a3 _ (I.bV.fresh (x6 _))};refine{by rw[zd,a2.length_eq,yF];ext,out.toList,n,qd a1,by simpa using hn}
 rcases hq with hq | hq
 ·let⟨its,rv,p,_⟩:=I.list hq
  let hl:⇑ns=⇑its:=by have:=⇑rv;rw[zd] at this;exact this
  exact sorted_ints p.isList (intsAre_of rv) () (fin its hl)
 ·let⟨its,rv,p,_⟩:=I.tuple hq
  let hl:⇑ns=⇑its:=by have:=⇑rv;rw[zd] at this;exact this
  exact JY p (intsAre_of rv) () (fin its hl)
theorem LD:∀{zs:List Str} {us:List vm},Vals (zs.map V.str) us->∃l:List (Str×Tok),us=strValues l/\l.map (·.1)=zs
 | [],_,.nil=>{[],rfl,rfl}
 | z::zs,_,.cons ⟨t,e⟩ r=>by
  let⟨l,e1,e2⟩:=LD r;subst e e1 e2;exact{(z,t)::l,rfl,rfl}
def rJoin (K:yE):V->List V->Hp->VK->Prop:=λx vs H Q=>∃(sep:Str) (a:vw) (zs:List Str),x=.str sep/\vs=[.ref a]/\fM K H a (zs.map V.str)/\(zs.map (λz:Str=>⇑z+⇑sep)).sum<=sizeLine/\Q (.str (Str.join sep zs)) H
theorem ID (sep:Str):∀(zs:List Str) (k:Nat),zs.foldl (λn z=>n+⇑z+⇑sep) k=k+(zs.map (λz:Str=>⇑z+⇑sep)).sum
 | [],k=>by simp
 | z::zs,k=>by
  rw[List.foldl_cons,ID sep zs,zk,wU];ext
theorem LB (sep:Str):∀zs:List Str,(zs.map (·.length)).sum+⇑zs*⇑sep=(zs.map (λz:Str=>⇑z+⇑sep)).sum
 | []=>by simp
 | z::zs=>by
  let ih:=LB sep zs;simp only[zk,wU,zw,Nat.succ_mul] at ih ⊢;ext
def cK:Ug X "str.join" (rJoin X.K):=by
 intro pins s σ H x vs v us Q I rx rv h;let⟨sep,a,zs,rfl,rfl,hq,hz,q⟩:=h;let⟨tk,rfl⟩:=rx;let⟨u,rfl,ru⟩:=rv.one;cases ru;let⟨its,ri,p,_⟩:=I.list hq;let⟨l,e1,e2⟩:=LD ri;subst e1;let hl:Builtin.Str.tooLong ((l.map (·.1)).toArray.foldl (·+·.length+⇑sep) 0)=false:=by
  rw[e2,List.foldl_toArray,ID,Nat.zero_add];exact zg ()
 let hj:Builtin.Str.glued sep (l.map (·.1))=Str.join sep zs:=by rw[e2];exact StrLaws.glued_eq_join sep zs
 let jl:⇑(Str.join sep zs)<=sizeLine:=by
  exact zN (StrLaws.join_length_le sep zs) (zN (Nat.le_of_eq (LB sep zs)) hz)
 refine wB F.slot_str_join (wO s sep tk) F.entry_str_join (F.args_str_join_2 _ _) (meets_str_join_list sep tk a l hl) {p.isList,?_}
 match l,e2,hj with
 | [],e2,hj=>
  subst e2;exact{by rw[hj];exact jl,.str _,H,I.tok _,{_,rfl},by rw[hj];exact q}
 | [z],e2,hj=>
  subst e2;exact{.str _,H,I,{_,rfl},q}
 | z::z'::r,e2,hj=>
  subst e2;exact{by rw[hj];exact jl,.str _,H,I.tok _,{_,rfl},by rw[hj];exact q}
noncomputable def fm (x:Str) (n:Nat):Str:={(List.replicate n x.cps).foldl (·++·) #[]}
def OR:R2:=λx y H Q=>∃(t:Str) (n:Int),x=.str t/\y=.int n/\0<=n/\n<=1000/\⇑t<=1000/\Q (.str (fm t n.toNat)) H
def fU (x:Str) (n:Nat):(fm x n).cps.toList=(List.replicate n x.cps.toList).flatten:=by
 let key:∀(n:Nat) (a:Array Nat),((List.replicate n x.cps).foldl (·++·) a).toList=a.toList++(List.replicate n x.cps.toList).flatten:=by
  intro n
  induction n with
  | zero=>intro a;simp
  | succ n ih=>intro a;rw[List.replicate_succ,List.foldl_cons,ih,List.replicate_succ,ya];simp
 have:=key n #[];show((List.replicate n x.cps).foldl (·++·) #[]).toList=_;rw[this];rfl
def qx (x:Str) (n:Nat):⇑(fm x n)=n*⇑x:=by
 let e:⇑(fm x n)=⇑(fm x n).cps.toList:=yT.symm;rw[e,fU];let e2:⇑x.cps.toList=⇑x:=yT;simp[e2]
def HJ (x:Str):fm x 1=x:=dN (by rw[fU];simp)
def vG:nQ X (binaryOp .Mult) OR:=by
 intro pins s σ H x y v u Q I rx ry h;let⟨t,n,rfl,rfl,h0,h1,hl,q⟩:=h;let⟨tk,rfl⟩:=rx;let⟨tk',rfl⟩:=ry;let sl:=yF;let hm:⇑t*n.toNat<=1000000:=by
  have:⇑t*n.toNat<=1000*1000:=wH hl ();ext
 refine P.mul_str (by rw[zg (),zg ()];rfl) (λh2 _=>?_) (λ_ _=>zg ()) ?_
 ·have:(2^63-1)/1000<=((2:Int)^63-1)/n:=by
   rw[Int.le_ediv_iff_mul_le ()];have:n*9223372036854775<=1000*9223372036854775:=Int.mul_le_mul_of_nonneg_right h1 ∅;ext
  ext
 ·by_cases c1:n<1
  ·let e:n.toNat=0:=()
   rw[yR c1];rw[e] at q;exact{∅,.str _,H,I.tok _,{_,rfl},q}
  ·rw[yQ c1]
   refine post_val_or_str {?_,λt' k=>{.str _,H,I.tok _,{_,rfl},?_}}
   ·split
    ·ext
    ·have:=qx t n.toNat
     let e:n.toNat*⇑t=⇑t*n.toNat:=Nat.mul_comm _ _;show(fm t n.toNat).length<=sizeLine;ext
   ·let ee:(if(n == 1||⇑t == 0)=true then t else fm t n.toNat)=fm t n.toNat:=by
     split
     ·rename_i c2
      rw[Bool.or_eq_true,vb,vb] at c2;rcases c2 with rfl | c2
      ·exact(HJ t).symm
      ·refine dN ?_
       let e2:t.cps.toList=[]:=yw.mp (by rw[yT];exact c2);rw[fU,e2];simp
     ·rfl
    show Q (.str (if(n == 1||⇑t == 0)=true then t else fm t n.toNat)) H;rw[ee];exact q
end
def KD (P:vo) (w:vq) (K:yE) (a:vw) (kvs:List (Str×V)):Prop:=
 (a == sysModules)=false/\(kvs.map (·.1)).Nodup/\∀h:vx,K.In h->∃vs:List (Key×vm),KV (kvs.map λp=>((Sum.inr p.1:Key),p.2)) vs/\h.DictOf (de P w) a vs
noncomputable def IQ (Pm:Params) (l:List (Str×Tok×vw)):List DictEntry:=l.map λp=>{PyData.keyHash Pm p.1,.str p.1 p.2.1,.ref p.2.2}
theorem Pg:∀{l:List Str},l.Nodup->(l.map (Sum.inr:Str->Key)).Nodup
 | [],_=>x8
 | x::r,h=>by
  rw[yd] at h;rw[zk,yd];exact{λz=>by let⟨y,hy,e⟩:=zI.mp z;exact h.1 (wW e▸hy),Pg h.2}
def U9 {P:vo} {w:vq} {K:yE} {a:vw} {l:List (Str×Tok×vw)} {n:Nat} (hl:K.lookup a=some {cls:=.type "dict",data:=.dict (IQ w.params l).toArray n}) (hs:(a == sysModules)=false) (nd:(l.map (·.1)).Nodup) :
  KD P w K a (l.map λp=>(p.1,V.ref p.2.2)):=by
 let e1:(l.map λp=>(p.1,V.ref p.2.2)).map (·.1)=l.map (·.1):=by rw[zC];rfl
 refine{hs,by rw[e1];exact nd,λh X=>{l.map λp=>(Sum.inr p.1,.ref p.2.2),?_,_,_,_,X _ _ hl,{(rfl),rfl,rfl},rfl,?_,?_,?_}}
 ·clear hl nd e1
  induction l with
  | nil=>exact .nil
  | cons p r ih=>exact .cons {(rfl),rfl} ih
 ·intro e he
  rw[List.mem_toArray] at he;let⟨p,_,rfl⟩:=zI.mp he;exact{Sum.inr p.1,oz p.1 p.2.1,rfl}
 ·show PySem.Pairs _ (IQ w.params l) _
  clear hl nd e1
  induction l with
  | nil=>exact .nil
  | cons p r ih=>exact .cons (oz p.1 p.2.1) rfl ih
 ·let e2:(l.map λp=>((Sum.inr p.1:Key),(Value.ref p.2.2))).map (·.1)=(l.map (·.1)).map Sum.inr:=by rw[zC,zC];rfl
  rw[e2];exact Pg nd
noncomputable def rL (kvs:List (Str×V)) (k:Str):Option V:=(kvs.find? λp=>decide (p.1=k)).map (·.2)
theorem Kw:∀{kvs:List (Str×V)} {vs:List (Key×vm)} (k:Str),KV (kvs.map λp=>((Sum.inr p.1:Key),p.2)) vs->fN (rL kvs k) (valueAt vs (Sum.inr k))
 | [],_,_,.nil=>trivial
 | (x,v)::r,_,k,.cons (b:=b) h t=>by
  let⟨h1,h2⟩:=h;let⟨bk,bv⟩:=b;dsimp only at h1 h2;subst h1
  by_cases e:x=k
  ·subst e
   simp only[rL,valueAt,yV,decide_true];exact h2
  ·let ih:=Kw k t
   let e':¬((Sum.inr x:Key)=Sum.inr k):=λz=>e (wW z);simp only[rL,valueAt,yV,e,e',decide_false] at ih ⊢;exact ih
def SN (P:vo) (w:vq) (K:yE) (td ty:TE):TE:=λσ H Q=>td σ H λx H1=>ty σ H1 λy H2=>∃a kvs k v,x=.ref a/\KD P w K a kvs/\y=.str k/\rL kvs k=some v/\Q v H2
def UK (P:vo) (w:vq) (K:yE) (b:Bool) (ty td:TE):TE:=λσ H Q=>ty σ H λy H1=>td σ H1 λx H2=>∃a kvs k,x=.ref a/\KD P w K a kvs/\y=.str k/\Q (.bl (b ^^ (rL kvs k).isSome)) H2
section
variable {X:Cx} {pos:Pos} {o i:Expr} {td ty:TE}
theorem fN.Kx:∀{a:Option V} {b:Option vm},fN a b->a.isSome=b.isSome
 | some _,some _,_=>rfl
 | none,none,_=>rfl
 | some _,none,h=>h.elim
 | none,some _,h=>h.elim
def HR (ho:PE X o td) (hi:PE X i ty) (hs:Ue i):PE X (.Subscript o i pos) (SN X.prog X.w X.K td ty):=by
 intro pins s σ H Q I h;refine LC PySem.F.slot_dict_getitem.lookup hs (cJ (ho s σ H _ I h) λu s1 z0=>?_);let⟨x,H1,I1,rx,q1⟩:=z0;refine cJ (hi s1 σ H1 _ I1 q1) λiv s2 z1=>?_;let⟨y,H2,I2,ry,a,kvs,k,v,ex,kd,ey,hv,q2⟩:=z1;subst ex ey;obtain rfl:u=Value.ref a:=rx;let⟨tk,rfl⟩:=ry;let⟨hd,_,hk⟩:=kd;let⟨vs,rel,dd⟩:=hk _ I2.kc;let rv:=Kw k rel;rw[hv] at rv;cases hw:valueAt vs (Sum.inr k) with
 | none=>rw[hw] at rv;exact rv.elim
 | some w'=>
  rw[hw] at rv;exact{dd.typeIs,wpAny_getItem_of (oz k tk) dd.mapOf hw {v,H2,I2.tok _,rv,q2}}
def Rh (hi:PE X i ty) (ho:PE X o td):PC X .In i o (UK X.prog X.w X.K false ty td):=by
 intro pins s σ H Q I h;refine cJ (hi s σ H _ I h) λiv s1 z0=>?_;let⟨y,H1,I1,ry,q1⟩:=z0;refine cJ (ho s1 σ H1 _ I1 q1) λu s2 z1=>?_;let⟨x,H2,I2,rx,a,kvs,k,ex,kd,ey,q2⟩:=z1;subst ex ey;obtain rfl:u=Value.ref a:=rx;let⟨tk,rfl⟩:=ry;let⟨hd,_,hk⟩:=kd;let⟨vs,rel,dd⟩:=hk _ I2.kc;refine wpAny_in_of (tT _ _ k tk) hd dd.mapOf ?_;let e:=fN.Kx (Kw k rel);exact{.bl _,H2,I2.tok _,rfl,by rw[e,Bool.false_xor] at q2;exact q2}
end
structure Qv (X:Cx) (CX:GP) (k:Nat) (f:vw) (sp:Sp):Prop where
 ok:∃fd ps,cO X.prog X.w X.K X.mg X.base CX k f fd ps sp/\PySem.W.keepIn X.K (.ref f)=true/\Binds X.K fd ps []
def SQ (Tb:vw->Sp->Prop) (E:XK) (i:Nat) (t:TA):TE:=λσ H Q=>∃f sp,σ[i]?=some (some (.ref f))/\Tb f sp/\t σ H λvs H1=>sp vs H1 Q E
section
variable {X:Cx} {CX:GP} {k:Nat} {x:Str} {i:Nat} {p pos:Pos} {e:Expr} {es:List Expr} {t:TA} {E:XK}
def HU (Tb:vw->Sp->Prop) (hT:∀f sp,Tb f sp->Qv X CX k f sp) (hr:eT k X.A) (hv:PE X (.Name x p) (aW i)) (hx:Passes CX X E)
  (ha:PA X (e::es) t) (he:starEach (e::es) X.env=(false,eval e X.env)::starEach es X.env<|>qe_) (hpl:(backTo pos (starEach es X.env)).any (·.1)=false<|>qe_) :
  PE X (.Call (.Name x p) (e::es) [] pos) (SQ Tb E i t):=by
 intro pins s σ H Q I h;let⟨f,sp,hf,hTb,h⟩:=h;let⟨fd,ps,F,hk,hb⟩:=(hT f sp hTb).ok;refine xq (cJ (hv s σ H (λv H1=>v=.ref f/\H1=H) I {_,hf,rfl,rfl}) λu s1 z0=>?_);let⟨v,H1,I1,rv,ev,eH⟩:=z0;subst ev eH;obtain rfl:u=Value.ref f:=rv;refine vd (h₀:=X.base) I1.ok.mod.Qy hk (cJ (ha s1 σ _ _ I1 h) λus s2 z0=>?_) he hpl;let⟨vs,H2,I2,r,q⟩:=z0;refine{I2.kc,?_};exact Kb F hr hb .nil hx I2 r (by rw[zW];exact q)
end
def UD (sp:Sp) (t:TA) (C:vw) (th:TS):TS:=λD σ H=>t σ H λvs H1=>sp vs H1 (λv H2=>D.rt v H2) λcls _ H2=>cls=.ref C/\th D σ H2
section
variable {X:Cx} {k:Nat} {f:vw} {fd:vv} {ps:List Str} {sp:Sp} {fx cn:Str} {p pos cpos pa np hpos:Pos} {e₀:Expr} {es:List Expr} {t:TA} {C:vw} {bm:List vm} {newId:String} {b₀:Stmt} {suite:List Stmt} {th:TS}
def Q8 (F:cO X.prog X.w X.K X.mg X.base (JE X.prog X.w) k f fd ps sp) (hr:eT k X.A) (hg:Gl X fx) (hm:X.mg fx=some (.ref f)) (hk:PySem.W.keepIn X.K (.ref f)=true) (hb:Binds X.K fd ps []) (ha:PA X.FF (e₀::es) t)
  (hc:X.calm=true) (hgc:Gl X cn) (hC0:PySem.W.nsIn X.K mainGlobals cn=some (some (.ref C))) (hQ0:PySem.W.excIn X.K C bm newId=true) (hbase:bm.contains (.type "BaseException")=true) (hstk:X.stack=X.env::X.outer) (hfrm:X.env.frame=some X.env.locals)
  (hsu:∀e,Ce (X.held e).FF (b₀::suite) th)
  (hdb:(fx == ("__debug__": Str))=false<|>qb_) (hdc:(cn == ("__debug__": Str))=false<|>qb_) (he:starEach (e₀::es) X.env=(false,eval e₀ X.env)::starEach es X.env<|>qe_) (hpl:(backTo cpos (starEach es X.env)).any (·.1)=false<|>qe_) :
  PS X (.Try [.Return (some (.Call (.Name fx p) (e₀::es) [] cpos)) pa] [.ExceptHandler (some (.Name cn np)) none (b₀::suite) hpos] [] [] pos) (UD sp t C th):=by
 intro pins s σ H D I h;let O:OwnCls cn C bm newId X.mg X.base:=lj X.prog I.ok.mod hC0 hQ0;refine wpAny_Try_except (wpAny_execs_cons ?_);refine wpAny_Return_some ?_;refine xq (fW I hg hm ?_ hdb);let hA:wpAny (model X.prog X.w) X.A (spliced (backTo cpos (starEach (e₀::es) X.env))) (AP X.FF pins σ _) (λ_ _=>False) s:=ha s σ H _ (I.oI _) h;refine vd (h₀:=X.base) I.ok.mod.Qy hk (xc hA (λus s1 z0=>?_) λ_ _ z=>z.elim) he hpl;let⟨vs,H1,I1',r,q⟩:=z0;refine{I1'.kc,?_};let I1:Inv X pins σ H1 s1:=I1'.fP;let hl:⇑us=⇑ps:=by rw[<-⇑r];exact F.len _ _ _ _ q
 refine wpAny_call (xS (F.run X.A X.stack s1 H1 {us,[]} us vs _ _ hr I1.Nj (by have:=hb s1 us I1.kc (by rw[zW];exact hl);rw[zW] at this;exact this) r q) λrr s' hq=>?_);cases rr with
 | ok fl=>
  cases fl with
  | ret u=>
   let⟨v,H2,I2,r2,q2⟩:=I1.after hq;exact{v,σ,H2,I2,r2,q2}
  | next=>exact False.elim hq
  | brk=>exact False.elim hq
  | cont=>exact False.elim hq
 | error ev=>
  let⟨a,cls,a0,B,H',rfl,os,bare,fl,fly,⟨rfl,q2⟩⟩:=hq;let FT:∀b∈jG X.stack,H1 b=none:=I1.kP;let nf:∀{hh:vx},Heap.FunFrames hh B X.stack->∀b∈jG X.stack,∃o,hh.get? b=some o/\∀vs,o.data≠.fields vs:=λhF b hb=>(hF.mem hb).2;let back:∀(hh:vx),JG X.prog X.w (jG X.stack) H1 H' s1.heap B hh->Inv X pins σ H' {s' with heap:=hh}:=λhh fy=>
   I1.Mg (s':={s' with heap:=hh}) (ch:=[]) os (fy.un FT) (fy.bV.kept fy.jH) bare λb z=>absurd z (by simp)
  let hfr:X.A.frames=some (X.env::X.outer):=by rw[<-hstk];exact I1.ok.frames
  refine wpAny_looks_onW hfr hfrm (by rw[<-hstk];exact fl) λh4 held4 up4=>?_;refine wpAny_landsW held4 λh5 fl5 up5=>?_;let fl5':Heap.FlyingW B X.stack a (.ref C) a0 h5:=by rw[hstk];exact fl5
  let fy5:JG X.prog X.w (jG X.stack) H1 H' s1.heap B h5:=fly.on (up4.trans up5) fl5.1 (nf fl.2.2.1);let I5:=back h5 fy5;let⟨ob,hob,hobc⟩:=fl5'.there;let⟨tl,Nn,nm,qn,bs,hdct,sn,sub,ab,col,dd,k0,k1,k2,k3,k5,mN,hC,hN',hni,T⟩:=O.obj;refine wpAny_handleBy_cons (codeAny_handlers_test (fW (X:=X.held (.ref a)) (I5.held _) hgc O.bound ?_ hdc)) (by intro q;cases q);refine wpAny_excMatches_sub_self (I5.bk _ _ hC) hob hobc (T.hasType hbase) (codeAny_handlers_suite ?_);refine lands_againW fl5' λh6 fl6 up6=>?_;let fy6:JG X.prog X.w (jG X.stack) H1 H' s1.heap B h6:=fy5.on up6 fl6.1 (nf fl5'.2.2.1);let I6:=back h6 fy6;refine xc (hsu (.ref a) _ σ H' D ((I6.held _).oI _) q2) (λfl s7 z=>?_) λ_ _ z=>z.elim;exact SP.j7 I.ok.hd (SP.fP z)
end
section
variable {prog:vo} {w:vq} {A:vt} {E:vm->vn->Prop} {s:vn}
def OP (hd:(d == sysModules)=false) (ho:s.heap.get? d=some o) (hx:o.ExactDict) (hdat:o.data=.dict es ep)
  (hQ:Q (.ref ↑s) {s with heap:=s.heap.push {cls:=.type "dict_keyiterator",data:=.fields #[.ref d,.int 0 0,.int es.size 0,.int ep 0]}}) :
  wpAny (model prog w) A (pyIter (.ref d)) Q E s:=by
 let hT:s.TypeIs (.ref d) "dict":={(o),ho,hx.1}
 refine wpAny_pyIter_slot hT F.slot_dict_iter (y9 F.slot_dict_iter hT F.entry_dict_iter ?_ (F.args_dict_iter_1 _));unfold Builtin.«dict.__iter__»;refine yx ?_;unfold Builtin.Dict.dictSlotNone;refine yx (wpAny_notOrdered_dict hT ?_);show wpAny _ _ (pure (Value.ref d)) _ _ s;refine yz ?_;show wpAny _ _ (Builtin.Dict.showsAll d >>= _) _ _ s;unfold Builtin.Dict.showsAll;rw[yQ (by rw[hd];exact zM)];refine yx (yz ?_);refine yx (wpAny_dictEntries ho hdat ?_);refine yx (wpAny_dictEpoch ho hdat ?_);refine yx (xb (yz {_,rfl,"dict_keyiterator",_,{_,yA _ rfl,rfl},xX.lookup,?_}))
 simpa[rawInt] using hQ
def OQ (hit:s.heap.IsKeyIter it d i es.size ep)
  (hod:s.heap.get? d=some od) (hdd:od.data=.dict es ep) (hx:es[i]?=some e)
  (hQ:∀h',h'.IsKeyIter it d (i+1) es.size ep->Heap.SameBut it s.heap h'->Q (some e.key) {s with heap:=h'}) :
  wpAny (model prog w) A (pyNext (.ref it)) Q E s:=by
 let⟨o,ho,hc,hd⟩:=id hit;unfold pyNext;refine yx (wR (y4 (name:=Str.ofString "__next__") hit.typeIs xX
  (y9 xX hit.typeIs F.entry_dict_keyiterator_next ?_ (F.args_dict_keyiterator_next_1 _))))
 refine yx (yz ?_);refine yx ?_;refine yx ?_
 first | refine yx (xR hit.typeIs (yz ?_)) | refine yx (wx hit.typeIs (yz ?_))
 refine yx (wpAny_fieldsOf ho hd ?_);let hown:Builtin.Dict_items.ownsTuple "dict_keyiterator"= false:=by decide
 rw[hown,yQ zM];show wpAny _ _ (if(Value.ref d == Value.none)=true then _ else _) _ _ s;rw[yQ (show¬((Value.ref d == Value.none)=true) from zM)];refine yx (yz ?_);refine yx (wpAny_dictEntries hod hdd ?_);rw[yQ (by simp)];refine yx (yz ?_);refine yx (wpAny_dictEpoch hod hdd ?_);rw[yQ (by simp)];refine yz ?_;dsimp only;rw[yQ (show¬((i:Int)<0) from by ext),xZ,hx];dsimp only;refine yx ?_
 first | refine yx (xR hit.typeIs (yz ?_)) | refine yx (wx hit.typeIs (yz ?_))
 refine yx (wpAny_isOneOf_keyiter hit.typeIs ?_);show wpAny _ _ (setField (.ref it) 1 (rawInt ((i:Int)+1)) >>= _) _ _ s;refine yx (wpAny_setField ho hd (by simp) ?_);let hit':(s.heap.update it (Obj.mapFields (·.setIfInBounds 1 (rawInt ((i:Int)+1))))).IsKeyIter it d (i+1) es.size ep:=
  {_,yD _ ho (Obj.isFreed_of_fields (vf hd _)),(Obj.cls_mapFields ..).trans hc,by rw[vf hd];simp[rawInt]}
 refine yx (xI ?_);refine yx (wpAny_isOneOf_keyiter (s:={s with heap:=s.heap.update it (Obj.mapFields (·.setIfInBounds 1 (rawInt ((i:Int)+1))))}) hit'.typeIs ?_);show wpAny _ _ (pure e.key) _ _ _;exact yz (yz {_,rfl,yz (hQ _ hit' (w6 ..))})
def Q5 (hh:A.handled=none) (hit:s.heap.IsKeyIter it d i es.size ep)
  (hod:s.heap.get? d=some od) (hdd:od.data=.dict es ep) (hx:es.size<=i)
  (hQ:∀h',Heap.ExtBut it s.heap h'->Q none {s with heap:=h'}):wpAny (model prog w) A (pyNext (.ref it)) Q E s:=by
 let⟨o,ho,hc,hd⟩:=id hit;unfold pyNext;refine yx (wR (y4 (name:=Str.ofString "__next__") hit.typeIs xX
  (y9 xX hit.typeIs F.entry_dict_keyiterator_next ?_ (F.args_dict_keyiterator_next_1 _))))
 refine yx (yz ?_);refine yx ?_;refine yx ?_
 first | refine yx (xR hit.typeIs (yz ?_)) | refine yx (wx hit.typeIs (yz ?_))
 refine yx (wpAny_fieldsOf ho hd ?_);let hown:Builtin.Dict_items.ownsTuple "dict_keyiterator"= false:=by decide
 rw[hown,yQ zM];show wpAny _ _ (if(Value.ref d == Value.none)=true then _ else _) _ _ s;rw[yQ (show¬((Value.ref d == Value.none)=true) from zM)];refine yx (yz ?_);refine yx (wpAny_dictEntries hod hdd ?_);rw[yQ (by simp)];refine yx (yz ?_);refine yx (wpAny_dictEpoch hod hdd ?_);rw[yQ (by simp)];refine yz ?_;dsimp only;rw[yQ (show¬((i:Int)<0) from by ext),xZ,Array.getElem?_eq_none hx];dsimp only;refine yx ?_
 first | refine yx (xR hit.typeIs (yz ?_)) | refine yx (wx hit.typeIs (yz ?_))
 show wpAny _ _ (setField (.ref it) 0 .none >>= _) _ _ s;refine yx (wpAny_setField ho hd (by simp) ?_);show wpAny _ _ (newExc (.type "StopIteration") [] >>= _) _ _ _;refine yx ?_;simp only[newExc,newTuple];refine yx (xb ?_ (by size_fits));refine yx (m:=firstArgMember _ _) (wpAny_of_eq (a:=Value.none) (by first | rfl | (simp only[firstArgMember];rfl)) ?_);refine xb ?_ (by size_fits);simp only[raiseNew];refine yx (wpAny_handled ?_);rw[show A.in1.handled=none from hh];refine yx (yz (wpAny_throw ?_));refine yx (wpAny_isInstance (T:="StopIteration") (b:=true) {_,yA _ rfl,rfl} isSubtype_stop ?_);exact yz (hQ _ (((w6 ..).extBut.push _).push _))
end
def Qu (H:Hp) (d:vw) (o:Obj) (n:Nat) (kat:Hp->Nat->V->Prop):Prop:=∃u,H d=some (.mG o u)/\((∃kvs:List (Key×V),u=.dK kvs/\n=⇑kvs/\kat=λ_ i x=>∃p,kvs[i]?=some p/\x=kV p.1)\/
 ∃kvs:List (List Key×V),u=.dT kvs/\n=⇑kvs/\kat=λH i x=>∃p b,kvs[i]?=some p/\H b=some (.tup (p.1.map kV))/\x=.ref b)
theorem DQ {K:Type} [DecidableEq K] {prog:vo} {w:vq} {knd:KeyKind prog w K}:∀{es:List DictEntry} {kvs:List (K×vm)} {i:Nat} {e:DictEntry},PySem.Pairs knd es kvs->es[i]?=some e->∃kv,kvs[i]?=some kv/\knd.is kv.1 e.key=true/\e.val=kv.2
 | _,_,_,_,.nil,h=>by simp at h
 | _,_,0,_,.cons a b _,h=>by simp at h;subst h;exact{_,rfl,a,b}
 | _,_,i+1,_,.cons _ _ t,h=>by
  let⟨kv,h1,h2⟩:=DQ (i:=i) t (by simpa using h);exact{kv,by simpa using h1,h2}
theorem lh:∀{l:List α} {m:List β} {i:Nat} {b:β},Paired F l m->m[i]?=some b->∃a,l[i]?=some a/\F a b
 | _,_,_,_,.nil,h=>by simp at h
 | _,_,0,_,.cons r _,h=>by simp at h;subst h;exact{_,rfl,r}
 | _,_,i+1,_,.cons _ t,h=>by
  let⟨a,h1,h2⟩:=lh (i:=i) t (by simpa using h);exact{a,by simpa using h1,h2}
section
variable {X:Cx} {pins:List (vw×Obj)} {σ:St} {H:Hp} {s:vn} {d:vw} {o:Obj} {n:Nat} {kat:Hp->Nat->V->Prop}
def Qu.raw (f:Qu H d o n kat) (I:Inv X pins σ H s):(d == sysModules)=false/\∃es ep,s.heap.get? d=some o/\o.ExactDict/\o.data=.dict es ep/\es.size=n/\∀i e,es[i]?=some e->∃x,RelV x e.key/\kat H i x:=by
 let⟨u,hH,hu⟩:=f;let⟨ho,ok⟩:=(show b8 X.prog X.w H s.heap d (.mG o u) from I.bV d _ hH)
 rcases hu with⟨kvs,rfl,rfl,rfl⟩ | ⟨kvs,rfl,rfl,rfl⟩
 ·let⟨_,hd,vs,rel,o',es,ep,ho',hx,hdat,_,hp,_⟩:=ok
  let hl:es.size=⇑kvs:=by
   let h1:=⇑hp;let h2:⇑kvs=⇑vs:=xY rel;let h3:⇑es.toList=es.size:=yT;ext
  rw[ho] at ho';cases ho';refine{hd,es,ep,ho,hx,hdat,hl,λi e he=>?_};let⟨kv,h1,h2,_⟩:=DQ hp (i:=i) (e:=e) (by rw[xj];exact he);let⟨p,h3,h4,_⟩:=lh rel h1;refine{kV p.1,?_,p,h3,rfl};rw[<-h4] at h2;rcases dh h2 with⟨j,t,e1,e2⟩ | ⟨y,t,e1,e2⟩
  ·rw[e1,e2];exact{(t),rfl}
  ·rw[e1,e2];exact{(t),rfl}
 ·let⟨_,hd,xs,rel,o',es,ep,ho',hx,hdat,he,_⟩:=ok
  let h3:⇑es.toList=es.size:=yT;let hl:es.size=⇑kvs:=by
   let h2:⇑kvs=⇑xs:=xY rel;rw[he,zd] at h3;ext
  rw[ho] at ho';cases ho';refine{hd,es,ep,ho,hx,hdat,hl,λi e hi=>?_};rw[<-xj,he,zL] at hi;cases q:xs[i]? with
  | none=>rw[q] at hi;cases hi
  | some y=>
   rw[q] at hi;cases hi;let⟨p,h4,h5,h6,_⟩:=lh rel q;exact{.ref y.2.1,rfl,p,y.2.1,h4,h6,rfl}
end
noncomputable def Xh (d:vw) (o:Obj) (n:Nat) (kat:Hp->Nat->V->Prop):It:={λi H=>Qu H d o n kat/\i<n,λi H x H'=>H'=H/\kat H i x,λi H=>Qu H d o n kat/\n<=i}
def MB {P:vo} {w:vq} {K:yE} {tg:Expr} (d it:vw) (n:Nat) (kat:Hp->Nat->V->Prop) (o:Obj) (es:Array DictEntry) (ep:Nat) (hdat:o.data=.dict es ep) (hn:es.size=n) :
  Turn P w K tg (Xh d o n kat) [it] it (λi h=>h.IsKeyIter it d i n ep) where
 mem:=by simp
 obj:=λi h st b hb=>by
  let e:b=it:=by simpa using hb
  subst e;let⟨o,e,c,d⟩:=st;exact{o,e,λv z=>by rw[d] at z;cases z}
 keep:=λi h h' st k=>st.at λo e=>k it (by simp) o e
 item:=by
  intro X hP hw hK hc i pins s σ H E I hf st hg;subst hP hw hK hn;let⟨fz,hlt⟩:=hg;let⟨hd,es',ep',ho,hx,hdat',hsz,hk⟩:=fz.raw I;rw[hdat] at hdat';cases hdat';let⟨f0,f1,f2,f3,f4,f5⟩:=hf it (by simp);let he:es[i]?=some es[i]:=Array.getElem?_eq_getElem hlt;let⟨x,rx,kx⟩:=hk i _ he;refine OQ st ho hdat he λh' st' sb=>?_;let I1:Inv X pins σ H {s with heap:=h'}:=I.turned (t':=s.toks) (λb o hb e=>(sb.2 b hb).trans e) f0 f1 f3 f4 f5;let⟨oi,e,c,dd⟩:=id st';exact{_,rfl,Ef (s:={s with heap:=h'}) e c dd ∅ {x,H,I1,rx,{(rfl),kx},st',λb hb=>(hf b hb).1}}
 done:=by
  intro X hP hw hK hc i pins s σ H E I hf st hg;subst hP hw hK hn;let⟨fz,hge⟩:=hg;let⟨hd,es',ep',ho,hx,hdat',hsz,hk⟩:=fz.raw I;rw[hdat] at hdat';cases hdat';let⟨f0,f1,f2,f3,f4,f5⟩:=hf it (by simp);exact Q5 (I.ok.hd hc) st ho hdat hge λh' eb=>{rfl,I.turned (t':=s.toks) (λb o hb e=>eb b o hb e) f0 f1 f3 f4 f5}
 self:=λ_ _ _ _ _ st h=>wpAny_pyIter_keyiter st h
def Vf (td:TE):TI:=λσ H R=>td σ H λx H1=>∃d o n kat,x=.ref d/\Qu H1 d o n kat/\R (Xh d o n kat) H1
section
variable {X:Cx} {tg l:Expr} {tl:TE}
def Rb (hl:PE X l tl):PI X tg l (Vf tl):=by
 intro pins s σ H R I h;refine cJ (hl s σ H _ I h) λv s1 z0=>?_;let⟨x,H1,I1,r1,q1⟩:=z0;let⟨d,o,n,kat,e,fz,q⟩:=q1;subst e;cases r1;let⟨hd,es,ep,ho,hx,hdat,hsz,hk⟩:=fz.raw I1;refine OP hd ho hx hdat ?_;refine{↑s1,[↑s1],_,_,H1,rfl,I1.kept (t':=s1.toks) λb o e=>yy _ e,MB d _ n kat o es ep hdat hsz,{_,yA _ rfl,rfl,by rw[hsz];rfl},λb hb=>?_,q};let e:b=↑s1:=by simpa using hb
 subst e;exact I1.C0 (zp _) (I1.bV.fresh (zp _))
end
def Lr (H:Hp) (d:vw) (o:Obj) (kvs:List (Key×V)):Prop:=H d=some (.mG o (.dK kvs))
noncomputable def Qt (d:vw) (o:Obj) (kvs:List (Key×V)):It:={λi H=>Lr H d o kvs/\i<⇑kvs,λi H x H'=>H'=H/\∃p,kvs[i]?=some p/\x=p.2,λi H=>Lr H d o kvs/\⇑kvs<=i}
section
variable {X:Cx} {pins:List (vw×Obj)} {σ:St} {H:Hp} {s:vn} {d:vw} {o:Obj} {kvs:List (Key×V)}
def Lr.at' (f:Lr H d o kvs) (I:Inv X pins σ H s):(d == sysModules)=false/\∃vs es ep,KV kvs vs/\o.data=.dict es ep/\s.heap.DictAt (de X.prog X.w) d vs ep:=by
 let⟨ho,ok⟩:=(show b8 X.prog X.w H s.heap d (.mG o (.dK kvs)) from I.bV d _ f)
 let⟨_,hd,vs,rel,o',es,ep,ho',hx,hdat,hk,hp,nd⟩:=ok;rw[ho] at ho';cases ho';exact{(hd),vs,es,ep,rel,hdat,o,es,ho,hx,hdat,hk,hp,nd}
end
def GW {P:vo} {w:vq} {K:yE} {tg:Expr} (d it:vw) (o:Obj) (kvs:List (Key×V)) (es:Array DictEntry) (ep:Nat) (hdat:o.data=.dict es ep) :
  Turn P w K tg (Qt d o kvs) [it] it (λi h=>h.IsValIter it d i ⇑kvs ep) where
 mem:=by simp
 obj:=λi h st b hb=>by
  let e:b=it:=by simpa using hb
  subst e;let⟨o,e,c,d⟩:=st;exact{o,e,λv z=>by rw[d] at z;cases z}
 keep:=λi h h' st k=>st.at λo e=>k it (by simp) o e
 item:=by
  intro X hP hw hK hc i pins s σ H E I hf st hg;subst hP hw hK;let⟨fz,hlt⟩:=hg;let⟨hd,vs,es',ep',rel,hdat',da⟩:=fz.at' I;rw[hdat] at hdat';cases hdat';let⟨f0,f1,f2,f3,f4,f5⟩:=hf it (by simp);let hl:⇑kvs=⇑vs:=xY rel;let hi:vs[i]?=some (vs[i]'()):=ze ();let⟨p,h3,h4,h5⟩:=lh rel hi;refine wpAny_pyNext_values_item (by rw[<-hl];exact st) da hi λh' st' sb=>?_;let I1:Inv X pins σ H {s with heap:=h'}:=I.turned (t':=s.toks) (λb o hb e=>(sb.2 b hb).trans e) f0 f1 f3 f4 f5;let⟨oi,e,c,dd⟩:=id st';exact{_,rfl,Ef (s:={s with heap:=h'}) e c dd ∅ {p.2,H,I1,h5,{(rfl),p,h3,rfl},by rw[hl];exact st',λb hb=>(hf b hb).1}}
 done:=by
  intro X hP hw hK hc i pins s σ H E I hf st hg;subst hP hw hK;let⟨fz,hge⟩:=hg;let⟨hd,vs,es',ep',rel,hdat',da⟩:=fz.at' I;rw[hdat] at hdat';cases hdat';let⟨f0,f1,f2,f3,f4,f5⟩:=hf it (by simp);let hl:⇑kvs=⇑vs:=xY rel;exact wpAny_pyNext_values_end (I.ok.hd hc) (by rw[<-hl];exact st) da (by simp;ext) λh' eb=>{rfl,I.turned (t':=s.toks) (λb o hb e=>eb b o hb e) f0 f1 f3 f4 f5}
 self:=λ_ _ _ _ _ st h=>wpAny_pyIter_valiter st h
def Rv (td:TE):TI:=λσ H R=>td σ H λx H1=>∃d o kvs,x=.ref d/\Lr H1 d o kvs/\R (Qt d o kvs) H1
section
variable {X:Cx} {tg l:Expr} {tl:TE} {apos cpos:Pos}
def MY (hl:PE X l tl) (hbase:attributeBase l "values" X.env (eval l X.env)=eval l X.env<|>qe_) (hline:(apos.endLine == cpos.line)=true<|>qe_):PI X tg (.Call (.Attribute l "values" apos) [] [] cpos) (Rv tl):=by
 intro pins s σ H R I h;refine wpAny_Call_method0_late hbase hline (cJ (hl s σ H _ I h) λv s1 z0=>?_);let⟨x,H1,I1,r1,q1⟩:=z0;let⟨d,o,kvs,e,fz,q⟩:=q1;subst e;cases r1;let⟨hd,vs,es,ep,rel,hdat,da⟩:=fz.at' I1;refine{"dict","dict.values",F.plainAttrs_dict,F.slot_dict_values,F.type_dict_values,da.dictOf.typeIs,da.dictOf.mapOf.noDict,wM rfl (PySem.evalArgs_none ?_)};refine call_meetsIn F.slot_dict_values da.dictOf.typeIs F.entry_dict_values (F.args_dict_values_1 _) (meets_dict_values (de X.prog X.w) d hd) {{(vs),da.dictOf},?_};let I2:Inv X pins σ H1 {s1 with heap:=s1.heap.push {cls:=.type "dict_values",data:=.fields #[.ref d]}}:=I1.kept (t':=s1.toks) λb o e=>yy _ e;let⟨_,vs2,es2,ep2,rel2,hdat2,da2⟩:=fz.at' I2;rw[hdat] at hdat2;cases hdat2;let hl2:⇑kvs=⇑vs2:=xY rel2;refine wpAny_pyIter_values (knd:=de X.prog X.w) {_,yA _ rfl,rfl,rfl} da2 ?_;refine{_,[_],_,_,H1,rfl,I2.kept (t':=s1.toks) λb o e=>yy _ e,GW d _ o kvs es ep hdat,{_,yA _ rfl,rfl,by rw[hl2];rfl},λb hb=>?_,q};rw[zB.mp hb];exact I2.C0 (zp _) (I2.bV.fresh (zp _))
end
def KH {d:vw} {o:Obj} {kvs:List (Key×V)} {g:TG} {tb:TS} {D:Ends} {σ:St} {H:Hp} (Pv:Nat->St->Hp->Prop) (h0:Pv 0 σ H) (hf:∀i σ H,i<=⇑kvs->Pv i σ H->Lr H d o kvs)
  (hs:∀i p σ H,kvs[i]?=some p->Pv i σ H->g p.2 σ H λσ2 H2=>tb {D with nx:=Pv (i+1),ct:=Pv (i+1),bk:=D.nx} σ2 H2) (hd:∀σ H,Pv ⇑kvs σ H->D.nx σ H) :
  ∃W:Nat->Nat->St->Hp->Prop,(∃m,W 0 m σ H)/\∀i m σ H,W i m σ H->
   ((Qt d o kvs).stop i H/\D.nx σ H)\/((Qt d o kvs).go i H/\∃Nn:St->Hp->Prop,(∀σ' H',Nn σ' H'->∃m',m'<m/\W (i+1) m' σ' H')/\∀v H',(Qt d o kvs).Mr i H v H'->g v σ H' λσ2 H2=>tb {D with nx:=Nn,ct:=Nn,bk:=D.nx} σ2 H2):=by
 refine{λi m σ H=>m=⇑kvs-i/\i<=⇑kvs/\Pv i σ H,{⇑kvs,by simp,yg _,h0},?_};rintro i m σ H ⟨rfl,hi,pv'⟩;rcases xH i ⇑kvs with hlt | hge
 ·refine .inr {{hf i σ H hi pv',hlt},Pv (i+1),λσ' H' p'=>{⇑kvs-(i+1),(),rfl,hlt,p'},λv H' y=>?_}
  let⟨e1,p,hp,e2⟩:=y;rw[e1,e2];exact hs i p σ H hp pv'
 ·let e:i=⇑kvs:=()
  subst e;exact .inl {{hf _ σ H hi pv',zp _},hd σ H pv'}
noncomputable def Vd:HO->Bool
 | .dK _=>true
 | .dT _=>true
 | _=>false
def cO.RY {P:vo} {w:vq} {K:yE} {mg:Str->Option vm} {base:vx} {k:Nat} {f:vw} {fd:vv} {ps:List Str} {sp sp':Sp} (F:cO P w K mg base Cc k f fd ps sp) (len:∀vs H Q E,sp' vs H Q E->⇑vs=⇑ps)
  (h:∀vs H Q E,sp' vs H Q E->∃d u,H d=some u/\Vd u=true/\∀o,sp vs (upd H d (.mG o u)) (λv H'=>Q v (upd H' d u)) E):cO P w K mg base Cc k f fd ps sp':=by
 refine{len,λA outer s H args us vs Q E hr e hb hv hs=>?_};let⟨d,u,hd,hu,hsp⟩:=h vs H Q E hs;let okd:=e.bV d u hd;let⟨o,ho⟩:=okd.here;let nt:∀xs,u≠.tup xs:=λxs z=>by rw[z] at hu;cases hu
 let no:∀x,u≠.own x:=λx z=>by rw[z] at hu;cases hu
 let nf:∀a b,u≠.mG a b:=λa b z=>by rw[z] at hu;cases hu
 let nb:∀a,u≠.Oh a:=λa z=>by rw[z] at hu;cases hu
 let off:∀b,H b=none->b≠d:=λb n z=>by rw[z,hd] at n;cases n
 let tup1:∀b xs,H b=some (.tup xs)->upd H d (.mG o u) b=some (.tup xs):=λb xs q=>by rw[aC (λz=>by rw[z,hd] at q;exact nt xs (ym q))];exact q
 let own1:∀b x,H b=some (.own x)->upd H d (.mG o u) b=some (.own x):=λb x q=>by rw[aC (λz=>by rw[z,hd] at q;exact no x (ym q))];exact q
 let e1:JD P w K mg base A outer s (upd H d (.mG o u)):=by
  refine{e.frames,e.mod,λb ob q=>{(e.bs b ob q).1,by rw[aC (off b (e.bs b ob q).2)];exact(e.bs b ob q).2},e.NY,e.nG,λb hb=>by rw[aC (off b (e.FT b hb))];exact e.FT b hb,λb ub q=>?_,e.bare}
  by_cases hbd:b=d
  ·subst hbd
   rw[aE] at q;cases q;exact{ho,okd.jH (λ_ _ _ z=>z) (λc z=>own1 c _ z) tup1}
  ·rw[aC hbd] at q
   exact(e.bV b ub q).jH (λ_ _ _ z=>z) (λc z=>own1 c _ z) tup1
 refine xS (F.run A outer s _ args us vs _ E hr e1 hb hv (hsp o)) λr s' hq=>?_;cases r with
 | error x=>exact hq
 | ok fl=>
  cases fl with
  | next=>exact hq
  | brk=>exact hq
  | cont=>exact hq
  | ret uv=>
   let⟨v,H',os,bare,un,bV,rv,q⟩:=hq;let hd':H' d=some (.mG o u):=un.kE d o u aE;let off1:∀b,H b=none->upd H d (.mG o u) b=none:=λb n=>by rw[aC (off b n)];exact n
   let back:∀b z,H b=some z->b≠d->upd H d (.mG o u) b=some z:=λb z q n=>by rw[aC n];exact q
   refine{v,upd H' d u,os,bare,{λb ob q n hb hx=>un.keep b ob q (off1 b n) hb hx,λb ob q n hb hx=>un.slot b ob q (off1 b n) hb hx,λb ob q n hx=>by rw[aC (off b n)];exact un.free b ob q (off1 b n) hx,un.there,
    λb xs q=>?_,λb ob uu q=>?_,λb ps' q=>?_},λb ub q=>?_,rv,q}
   ·let n:b≠d:=λz=>by rw[z,hd] at q;exact nt xs (ym q)
    rw[aC n];exact un.mz b xs (back b _ q n)
   ·let n:b≠d:=λz=>by rw[z,hd] at q;exact nf ob uu (ym q)
    rw[aC n];exact un.kE b ob uu (back b _ q n)
   ·let n:b≠d:=λz=>by rw[z,hd] at q;exact nb ps' (ym q)
    let⟨m,z⟩:=un.mC b ps' (back b _ q n);exact{m,by rw[aC n];exact z}
   ·let own2:∀c x,H' c=some (.own x)->upd H' d u c=some (.own x):=λc x z=>by rw[aC (λy=>by rw[y,hd'] at z;cases z)];exact z
    let tup2:∀c xs,H' c=some (.tup xs)->upd H' d u c=some (.tup xs):=λc xs z=>by rw[aC (λy=>by rw[y,hd'] at z;cases z)];exact z
    by_cases hbd:b=d
    ·subst hbd
     rw[aE] at q;cases q;let⟨_,ok'⟩:=(show b8 P w H' s'.heap b (.mG o u) from bV b _ hd')
     exact ok'.jH (λ_ _ _ z=>z) (λc z=>own2 c _ z) tup2
    ·rw[aC hbd] at q
     exact(bV b ub q).jH (λ_ _ _ z=>z) (λc z=>own2 c _ z) tup2
noncomputable def HM (σ:List Str) (x:Str):List Str:=if x∈σ then σ else σ++[x]
noncomputable def gy (l:List Str):List Str:=l.foldl HM []
def IV (l:List Str):⇑(gy l)<=⇑l/\(⇑(gy l)=⇑l↔l.Nodup):=by
 let key:∀(l σ:List Str),σ.Nodup->⇑(l.foldl HM σ)<=⇑σ+⇑l/\(⇑(l.foldl HM σ)=⇑σ+⇑l↔(σ++l).Nodup):=by
  intro l
  induction l with
  | nil=>intro σ h;simp[h]
  | cons x l ih=>
   intro σ h;rw[List.foldl_cons,zw]
   by_cases hx:x∈σ
   ·rw[show HM σ x=σ from yR hx]
    have:=ih σ h;refine{(),{λe=>(),λe=>?_}};exact absurd hx (λz=>(zU.mp e).2.2 x z x zt rfl)
   ·rw[show HM σ x=σ++[x] from yQ hx]
    let hn:(σ++[x]).Nodup:=zU.mpr {h,by simp,λa ha b hb e=>by rw[zB.mp hb] at e;exact hx (e▸ha)};have:=ih (σ++[x]) hn;rw[zj,List.length_singleton,zG,List.singleton_append] at this;exact{(),{λe=>this.2.mp (),λe=>by have:=this.2.mpr e;ext}}
 have:=key l [] x8
 simpa[gy] using this
def sub_tuple_set:isSubtype (.type "tuple") (.type "set")=pure false:=by rw[isSubtype_type];kernel_rfl
def sub_tuple_frozenset:isSubtype (.type "tuple") (.type "frozenset")=pure false:=by rw[isSubtype_type];kernel_rfl
section
variable {prog:vo} {w:vq}
def OC {A:vt} {R:Result->vn->Prop} {I:vw} {fp wr:List vw} {G:Array GenState->Array GenState->Prop} {n:Nat} {P:Nat->vm->Prop} {St:Nat->vn->Prop} (W:WalksS prog w A.in1 I fp wr G n P St) (S:vw) (hSf:S∉fp)
  (zs:List Str) (hn:n=⇑zs) (hval:∀i v,P i v->∃z t,zs[i]?=some z/\v=.str z t) (hb:n+1<scanBound) :
  ∀(k i:Nat) (s:vn),n-i=k->i<=n->St i s->s.heap.SetOf (PySem.strKind prog w) S (λx=>decide (x∈gy (zs.take i))) ⇑(gy (zs.take i))->
   (∀s',Moved (S::wr) G s s'->s'.heap.SetOf (PySem.strKind prog w) S (λx=>decide (x∈gy zs)) ⇑(gy zs)->R (.ok (.ret .none)) s')->
   codeAny (model prog w) A (.builtin "set.update.loop" {[.ref S,.ref I],[]}) R s:=by
 let hSw:S∉wr:=λh=>hSf (W.sub _ h);let hsub:∀b∈wr,b∈S::wr:=λb hb=>zr _ hb;intro k
 induction k with
 | zero=>
  intro i s hk hi hst hS hR;let hin:i=n:=()
  subst hin;rw[hn,zO] at hS;refine xV F.entry_set_update_loop ?_;rw[Around.under_plainId F.plain_set_update_loop _];show wpAny _ A.in1 (pyNext (.ref I) >>= _) _ _ s;refine yx (W.done s _ _ hst λs' hm=>?_);let⟨o,es,ep,t,ho,rest⟩:=hS;exact yz (hR s' (hm.mono hsub) {o,es,ep,t,hm.heap S _ hSw ho,rest})
 | succ k ih=>
  intro i s hk hi hst hS hR;let hlt:i<n:=()
  refine xV F.entry_set_update_loop ?_;rw[Around.under_plainId F.plain_set_update_loop _];show wpAny _ A.in1 (pyNext (.ref I) >>= _) _ _ s;refine yx (W.item i s _ _ hlt hst λv s' hP hst' hm=>?_);let⟨z,t,hz,rfl⟩:=hval i v hP;let⟨o,es,ep,tb,ho,rest⟩:=hS;let hS':s'.heap.SetOf (PySem.strKind prog w) S (λx=>decide (x∈gy (zs.take i))) ⇑(gy (zs.take i)):={o,es,ep,tb,hm.heap S _ hSw ho,rest}
  show wpAny _ A.in1 (holding [Value.str z t] (setAdd S (.str z t)) >>= _) _ _ s';refine yx (xI ?_);unfold setAdd;refine xI ?_;refine yx ((PySem.strKind prog w).pyHash (k:=z) (strKind_is _ _ _ _) ?_);let hl:=(IV (zs.take i)).1;rw[zR] at hl;refine wpAny_setAddHashed_of (knd:=PySem.strKind prog w) (s:={s' with toks:=s'.toks+1}) (strKind_is _ _ _ _) rfl hS' () λh' hsb hS2=>?_;let et:zs.take (i+1)=zs.take i++[z]:=by rw[List.take_succ,hz];rfl
  let ed:gy (zs.take (i+1))=HM (gy (zs.take i)) z:=by rw[et];unfold gy;rw[zZ];rfl
  let hSi:h'.SetOf (PySem.strKind prog w) S (λx=>decide (x∈gy (zs.take (i+1)))) ⇑(gy (zs.take (i+1))):=by
   refine SetOf_congr hS2 (λx=>?_) ?_
   ·rw[ed]
    unfold HM
    by_cases hx:z∈gy (zs.take i)
    ·rw[yR hx]
     by_cases e:x=z
     ·subst e;simp[hx]
     ·simp[e]
    ·rw[yQ hx];simp[zH]
   ·rw[ed]
    unfold HM
    by_cases hx:z∈gy (zs.take i) <;> simp[hx]
  refine yz {plainId_quiet F.plain_set_update_loop _,ih (i+1) _ () hlt (W.frame _ s' _ _ hst' (x6 _) λb hb o e=>?_) hSi λs'' hm'' hS''=>?_}
  ·rw[hsb.2 b (λh:b=S=>hSf (by rw[<-h];exact hb))];exact e
  ·refine hR s'' (Moved.trans W.gtrans ((hm.mono hsub).then_heap (x6 _) λb o hb e=>?_) hm'') hS''
   rw[hsb.2 b (λh:b=S=>hb (by rw[h];exact zt))];exact e
variable {A:vt} {E:vm->vn->Prop} {s:vn}
def J1 {l:vw} {items:Array vm} {zs:List Str} {Q:vm->vn->Prop} (hh:A.handled=none) (hl:IsTup s.heap l items) (hi:∀(i:Nat) (v:vm),items[i]?=some v->∃z t,zs[i]?=some z/\v=.str z t) (hn:items.size=⇑zs) (hb:items.size+1<scanBound)
  (h:∀(h':vx) (tk:Nat),h'.SetOf (PySem.strKind prog w) ↑s (λx=>decide (x∈gy zs)) ⇑(gy zs)->(∀b o,b<↑s->s.heap.get? b=some o->h'.get? b=some o)->Q (.ref ↑s) {s with heap:=h',toks:=tk}) :
  wpAny (model prog w) A (call (.type "set") [.ref l]) Q E s:=by
 let⟨c,tl,hmro⟩:=F.called_set.mro;let hmade:=F.called_set.made;let hsub:=F.called_set.sub;refine wpAny_call (codeAny_of_tree ?_);show wpAny _ _ (callAny (.type "set") _) _ _ _;refine yz {Code.quiet_builtin _ (by decide +kernel),xV F.entry_type_call ?_};rw[Around.under_plain (weight_type_call_type "set" [.ref l] []) rfl];let h1:=F.called_set.notType;let h2:=F.called_set.canCreate;let hct:=F.typeCall_set_1 (.ref l)
 repeat (any_goals (first | assumption | wp_step))
 letI fresh:Bool->Obj:=λled=>{cls:=.type "set",dict:=none,data:=.set #[] 0 (.fresh 0 0 led)}
 refine xS (code_set_new_1 (.ref l) (E:=E) (Q₁:=λobj s₁=>∃led:Bool,obj=.ref ↑s/\s₁={s with heap:=s.heap.push (fresh led)}) λled=>{(led),rfl,rfl}) λr s₁ hr=>?_;cases r with
 | error e=>exact hr
 | ok fl=>
  cases fl with
  | next=>exact hr.elim
  | brk=>exact hr.elim
  | cont=>exact hr.elim
  | ret obj=>
   let⟨led,rfl,rfl⟩:=hr;let hS:(s.heap.push (fresh led)).get? ↑s=some (fresh led):=yA _ rfl;let hT:Shared.TypeIs {s with heap:=s.heap.push (fresh led)} (.ref ↑s) "set":={_,hS,rfl}
   let hli:=F.called_set.init.lookup;let hbi:=F.called_set.init.bind (.ref ↑s)
   repeat (any_goals (first | assumption | wp_step))
   refine xS (codeAny_call_builtin (R:=wants (λr s₂=>r=.none/\∃h' tk,s₂={s with heap:=h',toks:=tk}/\h'.SetOf (PySem.strKind prog w) ↑s (λx=>decide (x∈gy zs)) ⇑(gy zs)/\
     (∀b o,b<↑s->s.heap.get? b=some o->h'.get? b=some o)) E) F.called_set.init.plain F.entry_set_init (check_set_init_1 hT ?_)) λr₂ s₂ hr₂=>?_
   ·let⟨⟨ocls,odict,odata,oslots⟩,hol,hcl,nl,hdl⟩:=hl
    simp only at hcl hdl;subst hcl hdl;let hol':(s.heap.push (fresh led)).get? l=some {cls:=.type "tuple",dict:=odict,data:=.seq items nl,slots:=oslots}:=yy _ hol;let hsls:=sub_tuple_set;let hslf:=sub_tuple_frozenset;let hne:(Value.type "tuple"== Value.type "dict")=false:=by decide
    let hl1:(s.heap.push (fresh led)).IsTuple l items:={_,hol',rfl,nl,rfl}
    unfold Builtin.«set.__init__» noKeywords Builtin.Frozenset.updateFrom;generalize hPI:pyIter=PI;wp_walk;subst hPI;refine wpAny_pyIter_tuple hl1 ?_;refine yx (wpAny_runValue ?_);let hlS:l<↑s:=yB hol;let hh3:A.in1.in1.in1.handled=none:=by simp[hh]
    let hz:(s.heap.push (fresh led)).objs.size=↑s+1:=xk ..;let hSf:↑s∉[(s.heap.push (fresh led)).objs.size,l]:=by
     rw[hz];simp only[zE,zF,yX,not_or];exact{yk (xP _),yj hlS}
    refine OC ((Walks.tuple hh3 _ l (by rw[hz];exact yk (wL hlS)) items).toS) ↑s hSf zs hn hi hb (items.size-0) 0 _ () (yg _)
     {{_,yA _ rfl,rfl,rfl},(hl1.push _)} ?hS0 ?hR
    case hS0=>
     exact SetOf_congr ((setObjOf_fresh (knd:=PySem.strKind prog w) led).setOf (yy _ hS) (by unfold scanBound;ext)) (λ_=>rfl) rfl
    case hR=>
     intro s' hm hS';let⟨h',g',d',tk',os'⟩:=s';let eg:g'=s.gens:=hm.gens;let ed:d'=s.drawn:=hm.drawn;let eo:os'=s.os:=hm.os;subst eg ed eo;refine yz (yz {rfl,h',tk',rfl,hS',λb o hb e=>?_});refine hm.heap b o ?_ (yy _ (yy _ e));simp only[zE,zF,yX,not_or];exact{yk hb,by rw[hz];exact yk (wL hb)}
   ·cases r₂ with
    | error e=>exact hr₂
    | ok fl₂=>
     cases fl₂ with
     | next=>exact hr₂.elim
     | brk=>exact hr₂.elim
     | cont=>exact hr₂.elim
     | ret r=>
      let⟨rfl,h',tk,rfl,hS',hk'⟩:=hr₂
      repeat (any_goals (first | assumption | wp_step))
      exact h _ _ hS' hk'
end
noncomputable def JB (a:vw) (n:Nat):HO:=.ext λh=>∃o es ep t,h.get? a=some o/\o.ExactSet/\o.data=.set es ep t/\t.fits es.size=true/\es.size=n
section
variable {X:Cx}
def NA (hc:X.calm=true):fb X (.type "set") (λxs H Q=>∃(a:vw) (zs:List Str),xs=[.ref a]/\mI X.K H a (zs.map V.str)/\⇑zs<=1000/\∀p,H p=none->Q (.ref p) (upd H p (JB p ⇑(gy zs)))):=by
 intro pins s σ H xs us Q I r h;let⟨a,zs,rfl,hq,hz,q⟩:=h;let⟨u,rfl,rx⟩:=vals1 r;cases rx;let⟨its,rv,p,_⟩:=I.tuple hq;let hl:⇑zs=⇑its:=by have:=⇑rv;rw[zd] at this;exact this
 refine J1 (zs:=zs) (I.ok.hd hc) p (λi v hv=>?_) (by rw[yb,hl]) (by rw[yb];unfold scanBound;ext) λh' tk hS hk=>?_
 ·let hv':its[i]?=some v:=by simpa using hv
  let hi:i<⇑its:=(zA.mp hv').1;let⟨z,t,e1,e2⟩:=Ot rv hi;have:=(zA.mp hv').2;exact{z,t,e1,by rw[<-this,e2]}
 ·let⟨o,es,ep,t,ho,hex,hd,hel,hmem,hb,hf,hn⟩:=hS
  refine{.ref _,_,I.laid (t':=tk) (a:=↑s) (o:=JB ↑s ⇑(gy zs)) (λb ob e=>hk b ob (yB e) e) (zp _) ?_,rfl,q _ (I.bV.fresh (zp _))};exact{{(o),es,ep,t,ho,hex,hd,hf,hn},{(o),ho},λh1 h2 ⟨o,es,ep,t,e1,r⟩ kk=>{o,es,ep,t,kk o e1,r}}
def ND:fb X (.builtin "len") (λxs H Q=>∃(p:vw) (n:Nat),xs=[.ref p]/\H p=some (JB p n)/\n<=1000/\Q (.int n) H):=by
 intro pins s σ H xs us Q I r h;let⟨p,n,rfl,hp,hn,q⟩:=h;let⟨u,rfl,rx⟩:=vals1 r;cases rx;let⟨⟨o,es,ep,t,ho,hex,hd,hf,rfl⟩,_⟩:=(show b8 X.prog X.w H s.heap p (JB p n) from I.bV p _ hp)
 exact call_len_set ho hex hd hf () {.int _,H,I.tok _,{_,rfl},q}
end
noncomputable def R5:V->Bool
 | .bQ=>true
 | .int _=>true
 | .str _=>true
 | _=>false
def HP (h:R5 x=true):mm x=true:=by cases x <;> first | rfl | cases h
def Tc {x y:V} (a:R5 x=true) (b:R5 y=true):RB x y=decide (x=y):=by
 cases x <;> first | cases a;done | skip
 all_goals (cases y <;> first | rfl | exact FZ.symm | exact FX.symm | cases b)
def Xd (K:yE) (H:Hp) (a b:vw) (xs ys:List V):Prop:=(fM K H a xs/\fM K H b ys)\/(mI K H a xs/\mI K H b ys)
def WX (xs ys:List V):Prop:=xs=[]\/ys=[]\/(xs.all R5=true/\ys.all R5=true)
inductive Wu (K:yE) (x y:V) (H:Hp) (Q:VK):Prop
 | mk (a b:vw) (xs ys:List V) (_:x=.ref a) (_:y=.ref b) (_:Xd K H a b xs ys) (_:WX xs ys) (_:Q (.bl (decide (xs=ys))) H)
inductive S7 (K:yE) (x y:V) (H:Hp) (Q:VK):Prop
 | mk (a b:vw) (xs ys:List V) (_:x=.ref a) (_:y=.ref b) (_:Xd K H a b xs ys) (_:WX xs ys) (_:Q (.bl (!decide (xs=ys))) H)
def Ly (r:Vals xs its) (h:j<⇑its):∃x,xs[j]?=some x/\RelV x its[j]:=by
 let hl:=⇑r;let⟨u,hu,ru⟩:=r.get (i:=j) (x:=xs[j]'()) (ze ());rw[ze h] at hu;cases hu;exact{_,ze (),ru}
section
variable {X:Cx}
def FU (r:Vals xs its) (r':Vals ys jts) (p:WX xs ys):∀j (h1:j<its.toArray.size) (h2:j<jts.toArray.size),SeqAt.EqAt A s its.toArray[j] jts.toArray[j] (decide (xs[j]?=ys[j]?)):=by
 intro j h1 h2;let h1':j<⇑its:=by simpa using h1
 let h2':j<⇑jts:=by simpa using h2
 let⟨x,ex,rx⟩:=Ly r h1';let⟨y,ey,ry⟩:=Ly r' h2';let l1:=⇑r;let l2:=⇑r';let hp:R5 x=true/\R5 y=true:=by
  rcases p with e | e | ⟨q1,q2⟩
  ·rw[e] at ex;simp at ex
  ·rw[e] at ey;simp at ey
  ·exact{yt.mp q1 x (zD ex),yt.mp q2 y (zD ey)}
 let g1:its.toArray[j]=its[j]:=by simp
 let g2:jts.toArray[j]=jts[j]:=by simp
 let z:=P6 (A:=A) (s:=s) rx ry (HP hp.1) (HP hp.2);rw[Tc hp.1 hp.2] at z;let e:decide (xs[j]?=ys[j]?)=decide (x=y):=by rw[ex,ey,xM];simp
 rw[g1,g2,e];exact z
def all_eq {xs ys:List V} (h:⇑xs=⇑ys):((List.range ⇑xs).all λj=>decide (xs[j]?=ys[j]?))=decide (xs=ys):=by
 rw[xM,yt,xE];constructor
 ·intro hh
  refine List.ext_getElem? λj=>?_;rcases xH j ⇑xs with hj | hj
  ·exact ye (hh j (yU.mpr hj))
  ·rw[wN hj,wN ()]
 ·intro hh j _
  rw[hh];exact zh rfl
def FI {xs ys:List V} (h:⇑xs≠⇑ys):decide (xs=ys)=false:=zg λe=>h (by rw[e])
def Ft (hu:X.A.units+64<cLine):nQ X (compareOp .Eq) (Wu X.K):=by
 intro pins s σ H x y v u Q I rx ry h;let⟨a,b,xs,ys,rfl,rfl,hs,pl,q⟩:=h;cases rx;cases ry;rcases hs with⟨ha,hb⟩ | ⟨ha,hb⟩
 ·let⟨its,r,p,_⟩:=I.list ha
  let⟨jts,r',p',_⟩:=I.list hb;let l1:=⇑r;let l2:=⇑r'
  by_cases hl:⇑xs=⇑ys
  ·let z:=SeqAt.RcAt.lists (A:=X.A) (s:=s) p.isList p'.isList (by rw[yb,yb];ext) () (FU r r' pl)
   rw[yb,<-l1,all_eq hl] at z;exact z _ _ _ _ {.bl _,H,I,rfl,q}
  ·let z:=SeqAt.RcAt.lists_lengths (A:=X.A) (s:=s) p.isList p'.isList (by rw[yb,yb];simp;ext) ()
   rw[FI hl] at q;exact z _ _ _ _ {.bl false,H,I,rfl,q}
 ·let⟨its,r,p,_⟩:=I.tuple ha
  let⟨jts,r',p',_⟩:=I.tuple hb;let l1:=⇑r;let l2:=⇑r';let z:=SeqAt.RcAt.tuples (A:=X.A) (s:=s) p p' () (FU r r' pl);rw[yb,yb,<-l1,<-l2] at z
  by_cases hl:⇑xs=⇑ys
  ·let em:min ⇑xs ⇑ys=⇑xs:=()
   rw[em,all_eq hl,hl,wk,Bool.and_true] at z;exact z _ _ _ _ {.bl _,H,I,rfl,q}
  ·rw[show(⇑xs == ⇑ys)=false by simpa using hl,wJ] at z
   rw[FI hl] at q;exact z _ _ _ _ {.bl false,H,I,rfl,q}
def AY (hu:X.A.units+64<cLine):nQ X (compareOp .NotEq) (S7 X.K):=by
 intro pins s σ H x y v u Q I rx ry h;let⟨a,b,xs,ys,rfl,rfl,hs,pl,q⟩:=h;cases rx;cases ry;rcases hs with⟨ha,hb⟩ | ⟨ha,hb⟩
 ·let⟨its,r,p,_⟩:=I.list ha
  let⟨jts,r',p',_⟩:=I.list hb;let l1:=⇑r;let l2:=⇑r'
  by_cases hl:⇑xs=⇑ys
  ·let z:=SeqAt.RcNeAt.lists (A:=X.A) (s:=s) p.isList p'.isList (by rw[yb,yb];ext) () (FU r r' pl)
   rw[yb,<-l1,all_eq hl] at z;exact z _ _ _ _ {.bl _,H,I,rfl,q}
  ·let z:=SeqAt.RcNeAt.lists_lengths (A:=X.A) (s:=s) p.isList p'.isList (by rw[yb,yb];simp;ext) ()
   rw[FI hl] at q;exact z _ _ _ _ {.bl true,H,I,rfl,q}
 ·let⟨its,r,p,_⟩:=I.tuple ha
  let⟨jts,r',p',_⟩:=I.tuple hb;let l1:=⇑r;let l2:=⇑r';let z:=SeqAt.RcNeAt.tuples (A:=X.A) (s:=s) p p' () (FU r r' pl);rw[yb,yb,<-l1,<-l2] at z
  by_cases hl:⇑xs=⇑ys
  ·let em:min ⇑xs ⇑ys=⇑xs:=()
   rw[em,all_eq hl,hl,wk,Bool.and_true] at z;exact z _ _ _ _ {.bl _,H,I,rfl,q}
  ·rw[show(⇑xs == ⇑ys)=false by simpa using hl,wJ] at z
   rw[FI hl] at q;exact z _ _ _ _ {.bl true,H,I,rfl,q}
def R1 (K:yE):V->Option Int->Option Int->Hp->VK->Prop:=λx lo hi H Q=>∃a xs,x=.ref a/\mI K H a xs/\(HT.eU ⇑xs 0 lo=0/\HT.eU ⇑xs ⇑xs hi=⇑xs)/\Q (.ref a) H
def QT:Qo X (R1 X.K):=by
 intro pins s σ H x v vl vu lo hi sl Q I rx hs pl pu h;let⟨a,xs,rfl,hx,hw,q⟩:=h;cases rx;let⟨its,r,ht,hz⟩:=I.tuple hx;let hlen:its.toArray.size=⇑xs:=by rw[yb];exact r.length.symm
 refine{"tuple",_,xO.lookup,ht.typeIs,?_};rw[<-hlen] at hw;let⟨os,hos,hcs,hds⟩:=id hs;let hTs:s.TypeIs (.ref sl) "slice":={(os),hos,hcs}
 unfold getItem
 try with_reducible refine xI ?_
 first | refine yx (yz ?_) | skip
 refine yx (wpAny_sequenceKey ht.typeIs ∅ ?_);refine yx (y4 (name:=Str.ofString "__getitem__") ht.typeIs xO
  (y9 xO ht.typeIs entry_tuple_getitem ?_ (args_tuple_getitem _ _)))
 show wpAny _ _ (Builtin.Tuple.tupleItemsOf (.ref a) >>= _) _ _ s;refine yx (tupleItemsOf_ ht ?_);refine yx (w9 hTs ?_);rw[yR ∅];refine yx (HT.ku hs pl pu ?_);show wpAny _ _ (if(((HT.eU its.toArray.size 0 lo:Nat):Int) == 0&&(1:Int) == 1&&(HT.eU its.toArray.size its.toArray.size hi-HT.eU its.toArray.size 0 lo) == its.toArray.size)=true then _ else _) _ _ s;rw[yR (by rw[hw.1,hw.2];simp)];unfold Builtin.Tuple.tupleIsExact;refine yx ?_
 repeat (any_goals (first | assumption | exact⟨_,rfl,yz ⟨.ref a,H,I,rfl,q⟩⟩ | refine yx (w9 ht.typeIs ?_) | wp_step))
def R3 (K:yE):V->Option Int->Option Int->Hp->VK->Prop:=λx lo hi H Q=>UR K x lo hi H Q\/R1 K x lo hi H Q
def QU:Qo X (R3 X.K):=Qo.or SV QT
def HL (K:yE):V->List V->Hp->VK->Prop:=λx vs H Q=>∃l b xs zs,x=.ref l/\vs=[.ref b]/\H l=some (.lst xs)/\H b=some (.tup zs)/\⇑xs+⇑zs<=sizeLine/\Q .bQ (upd H l (.lst (xs++zs)))
def OS (K:yE):V->List V->Hp->VK->Prop:=λx vs H Q=>LK x vs H Q\/HL K x vs H Q
def Kp:Ug X "list.extend" (HL X.K):=by
 intro pins s σ H x vs v us Q I rx rv h;let⟨l,b,xs,zs,rfl,rfl,hH,hB,hz,q⟩:=h;cases rx;let⟨u,rfl,ru⟩:=rv.one;cases ru;let⟨z,its,n,r,hl,e⟩:=I.Pp hH;let⟨_,its2,r2,⟨oc,od,oda,osl⟩,ho,hoc,n2,hod⟩:=(show b8 X.prog X.w H s.heap b (.tup zs) from I.bV b _ hB)
 let l1:=⇑r;let l2:=⇑r2;let hsz:its.toArray.size+its2.toArray.size<=sizeLine:=by rw[yb,yb];ext
 let hlong:¬(!its.toArray.isEmpty&&Builtin.List.listTooLong (its.toArray.size+its2.toArray.size))=true:=by
  rw[A9 hsz,wJ];exact zM
 dsimp only at hoc hod;subst hoc hod;refine y9 F.slot_list_extend {_,e,rfl} F.entry_list_extend ?_ (F.args_list_extend_2 _ _);show wpAny _ _ (Builtin.List.listExtendWith (.ref l) (.ref b) .none) _ _ s;unfold Builtin.List.listExtendWith;refine yx (w9 (T:="tuple") {_,ho,rfl} ?_);let ht:(Value.type "tuple"== Value.type "tuple")=true:=by rfl
 rw[yR (by rw[ht];simp)];refine yx (listItems_at ho rfl ?_);refine yx (listItems_at e rfl ?_);rw[yQ hlong];refine yx (listUpdate_at e rfl ?_ (by rw[yb];ext) (by show(its.toArray++its2.toArray).size<=sizeLine+1;rw[Array.size_append];ext));refine yz {_,rfl,?_};refine{.bQ,_,I.Tt (its':=its++its2) hH e (by simp) (r.append r2) ?_,rfl,q};rw[zj];ext
def Kq:Ug X "list.extend" (OS X.K):=by
 intro pins s σ H x vs v us Q I rx rv h;rcases h with h | h
 ·exact M4 pins s σ H x vs v us Q I rx rv h
 ·exact Kp pins s σ H x vs v us Q I rx rv h
def K8:fb X (.builtin "len") (λxs H Q=>∃p kvs,xs=[.ref p]/\H p=some (.dK kvs)/\Q (.int (⇑kvs:Nat)) H):=by
 intro pins s σ H xs us Q I r h;let⟨p,kvs,rfl,hp,q⟩:=h;let⟨u,rfl,rx⟩:=vals1 r;cases rx;exact Vq I (.inl hp) λt s' I'=>{.int _,H,I',{_,rfl},q}
end
abbrev Ww (K:yE):List V->Hp->VK->Prop:=λxs H Q=>∃p ys,xs=[.ref p]/\(fM K H p ys\/mI K H p ys)/\Q (.int ⇑ys) H
abbrev Wx (K:yE):List V->Hp->VK->Prop:=λxs H Q=>∃(a:vw) (bs:List Bool),xs=[.ref a]/\fM K H a (bs.map V.bl)/\Q (.bl (bs.any id)) H
abbrev UT:List V->Hp->VK->Prop:=λxs H Q=>∃i,xs=[.int i]/\i.natAbs.log2<1920/\Q (.str (toString i)) H
abbrev S8 (K:yE):List V->Hp->VK->Prop:=λxs H Q=>∃p ys,xs=[.ref p]/\((fM K H p ys/\∀l,H l=none->Q (.ref l) (upd H l (.tup ys)))\/(mI K H p ys/\Q (.ref p) H))
noncomputable def MR (lo:Int) (n:Nat):List Int:=(List.range n).map λi=>lo+(i:Nat)
def SI (ta:TA):TE:=λσ H Q=>ta σ H λvs H1=>∃i j:Int,vs=[.int i,.int j]/\(-(2^62)<=i/\i<2^62/\-(2^62)<=j/\j<2^62)/\(j-i).toNat<=1000000/\∀l,H1 l=none->Q (.ref l) (upd H1 l (.lst ((MR i (j-i).toNat).map V.int)))
theorem Lx:∀{xs:List V} {us:List vm},⇑xs=⇑us->(∀(i:Nat) (x:V) (u:vm),xs[i]?=some x->us[i]?=some u->RelV x u)->Vals xs us
 | [],[],_,_=>.nil
 | x::xs,u::us,h,k=>.cons (k 0 x u rfl rfl) (Lx (by simpa using h) λi y v e e'=>k (i+1) y v (by simpa using e) (by simpa using e'))
 | [],_::_,h,_=>by simp at h
 | _::_,[],h,_=>by simp at h
section
variable {X:Cx}
def O4 (hc:X.calm=true) (hg0:Gl X "list") (hm0:X.mg "list"= none) (hg:Gl X "range") (hm:X.mg "range"= none) (ha:PA X [a,b] ta)
  (hs:starEach [a,b] X.env=[(false,eval a X.env),(false,eval b X.env)]<|>qe_) (hs2:starEach [b] X.env=[(false,eval b X.env)]<|>qe_)
  (hs1:starEach [.Call (.Name "range" p2) [a,b] [] pos2] X.env=[(false,eval (.Call (.Name "range" p2) [a,b] [] pos2) X.env)]<|>qe_) :
  PE X (.Call (.Name "list" p1) [.Call (.Name "range" p2) [a,b] [] pos2] [] pos1) (SI ta):=by
 intro pins s σ H Q I h;refine xq (lB I hg0 hm0 (by decide +kernel:bootBuiltins "list"= some (.type "list")) ?_ ∅ ∅);refine yP (Q:=_) ?_ hs1 rfl;rw[hs1];refine wF ?_;refine Call_ (lB I hg hm boot_range (yP (cJ (ha s σ H _ I h) λus s1 z0=>?_) (by rw[hs,hs2]) (by rw[hs2];rfl)));let⟨vs,H1,I1,r1,q1⟩:=z0;let⟨i,j,e,⟨q1,q2,q3,q4⟩,hz,q⟩:=q1;subst e;cases r1 with
 | cons r rr=>
  cases rr with
  | cons r' rr=>
   cases rr;let⟨t,rfl⟩:=r;let⟨t',rfl⟩:=r';refine call_range_2 ?_;refine vj ?_;let I2:Inv X pins σ H1 {s1 with heap:=s1.heap.push {cls:=.type "range",data:=.fields #[.int i t,.int j t',.int 1 s1.toks]},toks:=s1.toks+1}:=I1.kept λb o e=>yy _ e;let hn:Builtin.Range.rangeSize i j 1=(((j-i).toNat:Nat):Int):=by rw[rangeSize_one];split <;> ext
   refine call_list_range (I2.ok.hd hc) (IsRange.new ..) (small_one q1 q2 q3 q4) hn (zN hz ∅) λh' tk acc c hk hS hit=>?_;let rv:Vals ((MR i (j-i).toNat).map V.int) acc.toList:=by
    refine Lx ?_ ?_
    ·let e1:⇑acc.toList=(j-i).toNat:=by rw[yT];exact hit.1
     rw[zd,e1];unfold MR;simp
    ·intro k x u hx hu
     rw[xj] at hu;let⟨tk',rfl⟩:=hit.2 k u hu;let hk':k<(j-i).toNat:=by
      have:=(Array.getElem?_eq_some_iff.mp hu).1;rw[hit.1] at this;exact this
     unfold MR at hx;rw[zC,zL,List.getElem?_range hk'] at hx;cases hx;exact{tk',by simp}
   let hl:H1 (s1.heap.push {cls:=.type "range",data:=.fields #[.int i t,.int j t',.int 1 s1.toks]}).objs.size=none:=I2.bV.fresh (zp _);refine{.ref _,_,I2.laid (t':=tk) hk (zp _) (show b8 X.prog X.w _ h' _ (.lst ((MR i (j-i).toNat).map V.int)) from{?_,acc.toList,c,rv,?_}),rfl,q _ hl}
   ·rw[zd]
    let sl:=yF;unfold MR;simp;ext
   ·simpa using hS
end
section
variable {prog:vo} {w:vq} {A:vt} {E:vm->vn->Prop} {s:vn}
end
def aG.Uj {t:Bool} {K:yE} {H H':Hp} {a:vw} {xs:List V} (e:aG H H') (h:JF t K H a xs):JF t K H' a xs:=by
 cases t
 ·exact e.seq h
 ·exact e.tup h
section
variable {X:Cx} {pins:List (vw×Obj)} {σ:St}
end
end L2
namespace Sc
open PySem L2 Lm
noncomputable def mixed (c k:Int):Int:=(c%2305843009213693951+1)*(k*k+48271)*40692%2147483399
def cq (h0:0<=i) (h1:i<2^n):Sz n i:=by
 unfold Sz;let e:((2^n:Nat):Int)=(2:Int)^n:=by simp
 rw[<-e] at h1;ext
def TN (h1:48<=c) (h2:c<=57):c∈("0123456789": Str).cps.toList:=by
 have:c=48\/c=49\/c=50\/c=51\/c=52\/c=53\/c=54\/c=55\/c=56\/c=57:=()
 rcases this with rfl | rfl | rfl | rfl | rfl | rfl | rfl | rfl | rfl | rfl <;> decide
noncomputable def gm (x:Int×Int):Str:=if x.2=1 then dec x.1 else dec x.1 ++"/" ++ dec x.2
abbrev Item:=Option (Int×Int)×(Int×Int)
noncomputable def kA:Item->Str
 | (none,x)=> "r:" ++ gm x
 | (some q,x)=>dec q.1 ++":" ++ dec q.2 ++":" ++ gm x
def Ey (x:Int×Int):Prop:=Rd x/\0<x.1/\x.1<10000/\x.2<10000
def Qz (q:Int×Int):Prop:=-100<q.1/\q.1<100/\-100<q.2/\q.2<100/\(q.2-7*q.1)%12=0
def Lq (it:Item):Prop:=Ey it.2/\∀q,it.1=some q->Qz q
def fZ (h1:c≠45) (h2:¬(48<=c/\c<=57)):c∉(dec n).cps.toList:=by
 intro z
 by_cases h0:0<=n
 ·let⟨m,rfl⟩:=yO h0
  exact h2 (kI z)
 ·obtain⟨m,em⟩:∃m:Nat,-n=(m:Int):={(-n).toNat,()}
  rw[vN (),em,bD] at z;rcases zH.mp z with z | z
  ·let e:("-": Str).cps.toList=[45]:=rfl
   rw[e] at z;exact h1 (zB.mp z)
  ·exact h2 (kI z)
def DV (h:Ey x):58∉(gm x).cps.toList:=by
 unfold gm;split
 ·exact fZ ∅ ∅
 ·rw[bD,bD]
  intro z;rcases zH.mp z with z | z
  ·rcases zH.mp z with z | z
   ·exact fZ ∅ ∅ z
   ·let e:("/": Str).cps.toList=[47]:=rfl
    rw[e] at z;exact absurd (zB.mp z) ∅
  ·exact fZ ∅ ∅ z
def IX (h0:0<=n) (h:n<10000):⇑(dec n)<=4:=by
 let⟨m,rfl⟩:=yO h0;exact Em ∅ ()
abbrev lQ (x:Int×Int):HO:=.tup [.int x.1,.int x.2]
inductive Lp (H:Hp):V->Option (Int×Int)->Prop where
 | bQ:Lp H .bQ none
 | ref {b:vw} {q:Int×Int}:H b=some (lQ q)->Lp H (.ref b) (some q)
def Lp.mono (s:aG H H') (h:Lp H v o):Lp H' v o:=by
 cases h with
 | bQ=>exact .bQ
 | ref h=>exact .ref (s _ _ h)
def W3 (H:Hp) (v:V) (it:Item):Prop:=∃p pv a,v=.ref p/\H p=some (.tup [pv,.ref a])/\H a=some (lQ it.2)/\Lp H pv it.1
noncomputable def uP:List Nat:=("0123456789": Str).cps.toList
noncomputable def rn (most:Int) (cs:List Nat):Option Int:=
 if(⇑cs:Int)<1 then none else if most<⇑cs then none else if cs.all (λc=>decide (c∈uP))=true then(if cs[0]?=some 48/\1<⇑cs then none else some ((NumText.digitsVal cs:Nat):Int)) else none
noncomputable def ov:Option Int->V
 | none=>.bQ
 | some n=>.int n
noncomputable def rs (most:Int) (t:Str):Option Int:=if t.cps.toList[0]?=some 45 then(match rn most (t.cps.toList.drop 1) with | some n=>if n=0 then none else some (-n) | none=>none) else rn most t.cps.toList
noncomputable def rp (a b:Str):Option (Int×Int):=match rs 2 a,rs 2 b with
 | some f,some h=>if(h-7*f)%12=0 then some (f,h) else none
 | _,_=>none
noncomputable def Qx (t:Str):Option (Int×Int):=match Txt.split t "/" with
 | [a]=>(match rn 4 a.cps.toList with | some n=>some (red n 1) | none=>none)
 | [a,b]=>(match rn 4 a.cps.toList,rn 4 b.cps.toList with | some n,some m=>if m=0 then none else some (red n m) | _,_=>none)
 | _=>none
noncomputable def lr (t:Str):Option (Int×Int):=match Qx t with
 | some x=>if x.1=0 then none else some x
 | none=>none
noncomputable def ir (t:Str):Option Item:=match lr ((Txt.split t ":").getLast?.getD "") with
 | none=>none
 | some x=>if(Txt.split t ":").dropLast=[("r": Str)] then some (none,x) else match (Txt.split t ":").dropLast with
  | [a,b]=>(match rp a b with | some q=>some (some q,x) | none=>none)
  | _=>none
def RT (H:Hp) (v:V):Option Item->Prop
 | none=>v=.bQ
 | some it=>W3 H v it
def IK (h:c∈uP):48<=c/\c<=57:=by
 let e:uP=[48,49,50,51,52,53,54,55,56,57]:=rfl;rw[e] at h;simp at h;ext
def OI (h:rn most cs=some n) (hm:most<=4):0<=n/\n<10000/\(cs.all (λc=>decide (c∈uP))=true):=by
 unfold rn at h;split at h
 ·cases h
 ·split at h
  ·cases h
  ·split at h
   ·rename_i h1 h2 h3
    split at h
    ·cases h
    ·cases h
     refine{Int.natCast_nonneg _,?_,h3};let hl:⇑cs<=4:=()
     let key:∀(l:List Nat) (a:Nat),l.all (λc=>decide (c∈uP))=true->l.foldl (λacc c=>acc*10+(c-48)) a<(a+1)*10^⇑l:=by
      intro l
      induction l with
      | nil=>intro a _;simp
      | cons c l ih=>
       intro a ha;rw[wV,zP] at ha;let i3:=IK (ye ha.1);let i1:=ih (a*10+(c-48)) ha.2;let i2:(a*10+(c-48)+1)*10^⇑l<=((a+1)*10)*10^⇑l:=Nat.mul_le_mul_right _ ();rw[List.foldl_cons,zw,Nat.pow_succ,Nat.mul_comm (10^⇑l) 10,<-Nat.mul_assoc];exact yc i1 i2
     let k1:NumText.digitsVal cs<10^⇑cs:=by have:=key cs 0 h3;rw[Nat.zero_add,Nat.one_mul] at this;exact this
     let k2:10^⇑cs<=10^4:=Nat.pow_le_pow_right ∅ hl;ext
   ·cases h
def La (h:cs.all (λc=>decide (c∈uP))=true):NumText.AllDigits cs:=λc hc=>by
 have:=(yt.mp h) c hc;exact IK (ye this)
inductive jJ (vs:List V) (H:Hp) (Q:VK) (E:XK):Prop
 | mk (a b:Int) (_:vs=[.int a,.int b]) (_:0<=a) (_:0<=b) (_:Q (.int (Int.gcd a b:Nat)) H)
inductive fR (vs:List V) (H:Hp) (Q:VK) (E:XK):Prop
 | mk (t b:Int) (_:vs=[.int t,.int b]) (_:0<=t) (_:0<b) (_:Sz 8999 b) (_:∀p H',aG H H'->H' p=some (lQ (red t b))->Q (.ref p) H')
inductive OA (vs:List V) (H:Hp) (Q:VK) (E:XK):Prop
 | mk (x y:Int×Int) (p q:vw) (n m:Nat) (_:vs=[.ref p,.ref q]) (_:H p=some (lQ x)) (_:H q=some (lQ y)) (_:Rd x) (_:Rd y) (_:Ca n x) (_:Ca m y) (_:n+m<=8999) (_:∀r H',aG H H'->H' r=some (lQ (add x y))->Q (.ref r) H')
inductive JV (vs:List V) (H:Hp) (Q:VK) (E:XK):Prop
 | mk (x y:Int×Int) (p q:vw) (_:vs=[.ref p,.ref q]) (_:H p=some (lQ x)) (_:H q=some (lQ y)) (_:Ca 8999 x) (_:Ca 8999 y) (_:Q (.bl (decide (x.1*y.2<y.1*x.2))) H)
inductive Cp (vs:List V) (H:Hp) (Q:VK) (E:XK):Prop
 | mk (c k:Int) (_:vs=[.int c,.int k]) (_:0<=k) (_:k<1000000) (_:Q (.int (mixed c k)) H)
abbrev Ak:Sp:=fR
inductive hJ (vs:List V) (H:Hp) (Q:VK) (E:XK):Prop
 | mk (t:Str) (most:Int) (_:vs=[.str t,.int most]) (_:⇑t<=600) (_:∀H',aG H H'->Q (ov (rn most t.cps.toList)) H')
inductive lS (vs:List V) (H:Hp) (Q:VK) (E:XK):Prop
 | mk (t:Str) (most:Int) (_:vs=[.str t,.int most]) (_:⇑t<=600) (_:∀H',aG H H'->Q (ov (rs most t)) H')
inductive mS (vs:List V) (H:Hp) (Q:VK) (E:XK):Prop
 | mk (a b:Str) (_:vs=[.str a,.str b]) (_:⇑a<=600) (_:⇑b<=600) (_:∀v H',aG H H'->Lp H' v (rp a b)->Q v H')
def lR (C:vw):Sp:=λvs H Q E=>∃(t:Str),vs=[.str t]/\⇑t<=600/\(∀x,Qx t=some x->∀p H',aG H H'->H' p=some (lQ x)->Q (.ref p) H')/\(Qx t=none->∀H',aG H H'->E (.ref C) none H')
def gP:Sp:=λvs H Q _=>∃(t:Str),vs=[.str t]/\⇑t<=600/\∀v H',aG H H'->Lp H' v (lr t)->Q v H'
def oR:Sp:=λvs H Q _=>∃(t:Str),vs=[.str t]/\⇑t<=600/\∀v H',aG H H'->RT H' v (ir t)->Q v H'
noncomputable def dL (x:Int×Int):Dt:=.tup [.int x.1,.int x.2]
noncomputable def dO (f:α->Dt):Option α->Dt
 | none=>.bQ
 | some x=>f x
noncomputable def eQ (it:Item):Dt:=.tup [dO dL it.1,dL it.2]
noncomputable def ua (l:List Int):Dt:=.tup (l.map .int)
noncomputable def nJ (l:List Str):Dt:=.tup (l.map .str)
abbrev End:=Int×List Int
noncomputable def mH (e:End):Dt:=.tup [.int e.1,ua e.2]
structure Rep where
 first:Int
 last:Int
 times:Int
 ends:List End
noncomputable def jI (r:Rep):Dt:=.tup [.int r.first,.int r.last,.int r.times,.tup (r.ends.map mH)]
structure N1 where
 bg:Int×Int
 key:Int
 marks:List Str
noncomputable def kJ (b:N1):Dt:=.tup [dL b.bg,.int b.key,nJ b.marks]
structure Jump where
 vJ:Int
 Cd:Int
 dw:Int
 ik:Option Int
noncomputable def gq (j:Jump):Dt:=.tup [.int j.vJ,.int j.Cd,.int j.dw,dO .int j.ik]
noncomputable def words (t:Str):List Str:=(Txt.split t " ").filter λw=>decide (w≠ "")
noncomputable def sgn:List Nat:=("abcdefghijklmnopqrstuvwxyz0123456789": Str).cps.toList
noncomputable def cu (t:Str):Option Str:=if(⇑t:Int)<1 then none else if(12:Int)<⇑t then none else if t.cps.toList.all (λc=>decide (c∈sgn))=true then some t else none
noncomputable def os:Option Str->V
 | none=>.bQ
 | some x=>.str x
noncomputable def fG (t:Str):Option Int:=rn 3 t.cps.toList
noncomputable def lX (t:Str) (lo hi:Int):Option Int:=match fG t with
 | some n=>if n<lo then none else if hi<n then none else some n
 | none=>none
noncomputable def AG (a b:Str):Option (Int×Int):=match rp a b with
 | some q=>if 12<(if q.1<0 then -q.1 else q.1) then none else some q
 | none=>none
noncomputable def BS:List Int:=[1,2,4,8,16,32]
noncomputable def ji (t:Str):Option (Int×Int):=match Txt.split t "/" with
 | [a,b]=>(match lX a 1 32,fG b with | some m,some n=>if n∈BS then some (m,n) else none | _,_=>none)
 | _=>none
noncomputable def HG (t:Str):Option Int:=match rs 3 t with
 | some k=>if 7<(if k<0 then -k else k) then none else some k
 | none=>none
noncomputable def nO:List (Option α)->Option (List α)
 | []=>some []
 | none::_=>none
 | some x::r=>match nO r with
  | some l=>some (x::l)
  | none=>none
noncomputable def AI (t:Str):Option End:=match Txt.split t ":" with
 | [a,b]=>(match fG a,nO ((Txt.split b ",").map fG) with | some n,some ps=>some (n,ps) | _,_=>none)
 | _=>none
noncomputable def mZ:List Str->Option (Str×(Int×Int)×(Int×Int))
 | [a,b,c,d]=>(match cu a,AG b c,Qx d with | some n,some t,some l=>some (n,t,l) | _,_,_=>none)
 | _=>none
noncomputable def sA (ws:List Str):Option (Str×List Str):=match ws with
 | a::b::r=>(match nO ((a::b::r).map cu) with | some (n::ps)=>some (n,ps) | _=>none)
 | _=>none
noncomputable def Fo:List Str->Option N1
 | m::k::ms=>(match nO (ms.map cu) with | some l=>(match ji m,HG k with | some x,some y=>some {(x),y,l} | _,_=>none) | none=>none)
 | _=>none
noncomputable def tP:List Str->Option (Str×Int×Str)
 | [a,b,c]=>(match cu a,fG b,cu c with | some x,some y,some z=>some (x,y,z) | _,_,_=>none)
 | _=>none
noncomputable def kZ:List Str->Option (Int×Str×List Item)
 | b::p::i::r=>(match nO ((i::r).map ir) with | some l=>if l.all (λit=>it.1.isNone)=true then none else(match fG b,cu p with | some x,some y=>some (x,y,l) | _,_=>none) | none=>none)
 | _=>none
noncomputable def kY:List Str->Option Rep
 | a::b::c::r=>(match nO (r.map AI) with | some l=>(match fG a,fG b,lX c 2 9 with | some x,some y,some z=>some {(x),y,z,l} | _,_,_=>none) | none=>none)
 | _=>none
noncomputable def AQ:List Str->Option Jump
 | [a,b,c,d]=>(match fG a,fG b,fG c with | some x,some y,some z=>(match fG d with | some n=>some {x,y,z,some n} | none=>if d ="end" then some {(x),y,z,none} else none) | _,_,_=>none)
 | _=>none
noncomputable def one (f:Str->Option α):List Str->Option α
 | [w]=>f w
 | _=>none
inductive Told where
 | bA (n:Str)
 | cg (n:Str) (t l:Int×Int)
 | bE (n:Str) (ps:List Str)
 | bar (b:N1)
 | aH (l:Int×Int)
 | holds (p:Str) (b:Int) (i:Str)
 | aJ (b:Int) (p:Str) (its:List Item)
 | rep (r:Rep)
 | bP (j:Jump)
noncomputable def jP:List Str->Option Told
 | []=>none
 | w::r=>
  if w ="player" then(one cu r).map .bA
  else if w ="instrument" then(mZ r).map λx=>.cg x.1 x.2.1 x.2.2
  else if w ="staff" then(sA r).map λx=>.bE x.1 x.2
  else if w ="bar" then(Fo r).map .bar
  else if w ="upbeat" then(one lr r).map .aH
  else if w ="holds" then(tP r).map λx=>.holds x.1 x.2.1 x.2.2
  else if w ="notes" then(kZ r).map λx=>.aJ x.1 x.2.1 x.2.2
  else if w ="repeat" then(kY r).map .rep
  else if w ="jump" then(AQ r).map .bP
  else none
noncomputable def jz (r:Rep):List (Int×Int×List Int):=(r.ends.zip ((r.ends.drop 1).map (·.1)++[r.last+1])).map λp=>(p.1.1,p.2-1,p.1.2)
noncomputable def sortI (l:List Int):List Int:=l.mergeSort
noncomputable def fX:List End->Int->List Int->Option (Int×List Int)
 | [],a,ps=>some (a,ps)
 | e::r,a,ps=>if e.1<=a then none else if e.2≠sortI e.2 then none else fX r e.1 (ps++e.2)
noncomputable def MS (lo:Int) (n:Nat):List Int:=(List.range n).map λi=>lo+(i:Nat)
noncomputable def fY (r:Rep):Bool:=match r.ends with
 | []=>true
 | _=>(match fX r.ends (r.first-1) [] with | none=>false | some (a,ps)=>decide (a<=r.last)&&decide (sortI ps=MS 1 (r.times+1-1).toNat))
noncomputable def kU (rs:List Rep) (r:Rep):Bool:=match rs.getLast? with
 | some q=>if r.first<=q.last then false else decide (r.first<=r.last)&&fY r
 | none=>decide (r.first<=r.last)&&fY r
noncomputable def dP (rs:List Rep) (b:Int):Option Rep:=rs.find? λr=>decide (r.first<=b)&&decide (b<=r.last)
noncomputable def gR (rs:List Rep) (b:Int):Bool:=match dP rs b with
 | none=>true
 | some r=>decide (b=r.last)
noncomputable def eA (rs:List Rep) (b:Int):Bool:=match dP rs b with
 | none=>true
 | some r=>decide (b=r.first)
noncomputable def lE (rs:List Rep) (b:Int):Bool:=rs.all λr=>(jz r).all λe=>!(decide (e.1<=b)&&decide (b<=e.2.1)&&!decide (r.times∈e.2.2))
noncomputable def gU (rs:List Rep) (j:Jump):Bool:=
 if j.dw<j.Cd then false else if j.vJ<j.dw then false else
 match j.ik with
 | some c=>(decide (j.vJ<c)&&eA rs c&&lE rs c)&&(gR rs j.vJ&&eA rs j.Cd&&lE rs j.dw)
 | none=>gR rs j.vJ&&eA rs j.Cd&&lE rs j.dw
structure bO where
 au:List Str:=[]
 aq:List (Str×(Int×Int)×(Int×Int)):=[]
 aP:List (Str×List Str):=[]
 aR:List N1:=[]
 aH:Option (Int×Int):=none
 holds:List (Str×List (Int×Str)):=[]
 aJ:List ((Int×Str)×List Item):=[]
 aN:List Rep:=[]
 bP:Option Jump:=none
noncomputable def bO.bg (S:bO) (b:Nat):Int×Int:=match S.aR[b]? with
 | some x=>red x.bg.1 x.bg.2
 | none=>(0,1)
noncomputable def bO.len (S:bO) (b:Nat):Int×Int:=match S.aH with
 | some u=>if b=0 then u else S.bg b
 | none=>S.bg b
noncomputable def j8 (l:List Item):Int×Int:=l.foldl (λt it=>add t it.2) (0,1)
noncomputable def bO.has (S:bO) (bs:List Int):Bool:=bs.all λb=>decide (b<⇑S.aR)
noncomputable def aX (S:bO):Told->Option Str
 | .bA n=>if n∈S.au then some "twice" else if 12<=⇑S.au then some "many" else none
 | .cg n _ _=>if n∈S.aq.map (·.1) then some "twice" else if 12<=⇑S.aq then some "many" else none
 | .bE n ps=>if n∈S.aP.map (·.1) then some "twice" else if¬ps.Nodup then some "twice" else if S.aP.any (λq=>ps.any λp=>decide (p∈q.2))=true then some "twice" else if ps.any (λp=>!decide (p∈S.au))=true then some "name" else none
 | .bar _=>if 200<=⇑S.aR then some "many" else none
 | .aH l=>if S.aH.isSome=true then some "twice" else if ⇑S.aR=0 then some "bar" else if¬l.1*(S.bg 0).2<(S.bg 0).1*l.2 then some "length" else if S.aJ.any (λp=>decide (p.1.1=0))=true then some "length" else none
 | .holds p b i=>
  let hs:=(S.holds.lookup p).getD []
  if(match hs.getLast? with | some q=>decide (b<=q.1) | none=>false)=true then some "twice" else if p∉S.au then some "name" else if i∉S.aq.map (·.1) then some "name" else if¬S.has [b]=true then some "bar" else if 20<=⇑hs then some "many" else none
 | .aJ b p its=>if(b,p)∈S.aJ.map (·.1) then some "twice" else if p∉S.au then some "name" else if¬S.has [b]=true then some "bar" else if j8 its≠S.len b.toNat then some "length" else if 40<⇑its then some "many" else none
 | .rep r=>if¬S.has ([r.first,r.last]++r.ends.map (·.1))=true then some "bar" else if S.bP.isSome=true then some "form" else if¬kU S.aN r=true then some "form" else if 20<=⇑S.aN then some "many" else none
 | .bP j=>if S.bP.isSome=true then some "twice" else if¬S.has ([j.vJ,j.Cd,j.dw]++j.ik.toList)=true then some "bar" else if¬gU S.aN j=true then some "form" else none
noncomputable def e9 (hs:List (Str×List (Int×Str))) (p:Str) (h:Int×Str):List (Str×List (Int×Str)):=
 if p∈hs.map (·.1) then hs.map λq=>if q.1=p then(q.1,q.2++[h]) else q else hs++[(p,[h])]
noncomputable def bR (S:bO):Told->bO
 | .bA n=>{S with au:=S.au++[n]}
 | .cg n t l=>{S with aq:=S.aq++[(n,t,l)]}
 | .bE n ps=>{S with aP:=S.aP++[(n,ps)]}
 | .bar b=>{S with aR:=S.aR++[b]}
 | .aH l=>{S with aH:=some l}
 | .holds p b i=>{S with holds:=e9 S.holds p (b,i)}
 | .aJ b p its=>{S with aJ:=S.aJ++[((b,p),its)]}
 | .rep r=>{S with aN:=S.aN++[r]}
 | .bP j=>{S with bP:=some j}
theorem dm (h:Is H d v):∀{ds:List Dt} {vs:List V},aB H ds vs->aB H (ds++[d]) (vs++[v])
 | [],_,q=>by unfold aB at q;subst q;show aB H [d] [v];unfold aB;exact{v,[],rfl,h,by unfold aB;rfl}
 | c::ds,_,q=>by
  unfold aB at q;let⟨u,r,rfl,h1,h2⟩:=q;show aB H (c::(ds++[d])) (u::(r++[v]));unfold aB;exact{u,_,rfl,h1,dm h h2}
def LZ (h:fM K H p xs) (hi:i<⇑xs):(Qs K p).go i H:={xs,xs[i],h,ze hi}
def KC (h:mI K H p xs) (hi:i<⇑xs):(Sk K p).go i H:={xs,xs[i],h,ze hi}
def i6 (e:aG H H') (h:H a=some (.tup xs)):mI K H' a xs:=bC (e _ _ h)
theorem _root_.L2.aG.back (s:aG H H') (h:H' a=none):H a=none:=by
 cases q:H a with
 | none=>rfl
 | some u=>rw[s _ _ q] at h;cases h
def nM {α:Type} {J:It} {ws:List α} {enc:α->V} {σ₀:St} {g:TG} {te:TE} {Q:VK} {H1:Hp} (F:α->Dt) (Pσ:St->Prop) (hn:⇑ws<=sizeLine) (h0:Pσ σ₀)
  (go:∀i H,i<⇑ws->aG H1 H->J.go i H) (stop:∀H,aG H1 H->J.stop ⇑ws H) (yl:∀(i:Nat) x H H2 (hi:i<⇑ws),aG H1 H->J.Mr i H x H2->H2=H/\x=enc ws[i])
  (turn:∀(a:α) (σ:St) (H:Hp) (R:St->V->Hp->Prop),a∈ws->aG H1 H->Pσ σ->(∀σ3 y H5,aG H H5->Is H5 (F a) y->Pσ σ3->R σ3 y H5)->g (enc a) σ H λσ3 H3=>te σ3 H3 λy H5=>R σ3 y H5)
  (fin:∀D vs H,aG H1 H->H1 D=none->H D=some (.lst vs)->aB H (ws.map F) vs->Q (.ref D) H):dQ σ₀ g ug te Q J H1:=by
 refine{λi m xs σ H=>m=⇑ws-i/\i<=⇑ws/\⇑xs=i/\aG H1 H/\aB H ((ws.take i).map F) xs/\Pσ σ,{_,rfl,yg _,rfl,aF _,by simp[aB],h0},?_};rintro i m xs σ H ⟨rfl,hi,hx,sm,il,pσ⟩;rcases xH i ⇑ws with hlt | hge
 ·refine .inr {go i H hlt sm,(),?_}
  intro x H2 hy;let⟨rfl,rfl⟩:=yl i x H H2 hlt sm hy;refine turn ws[i] σ H2 (λσ3 y H5=>if true=true then∃m',m'<⇑ws-i/\(m'=⇑ws-(i+1)/\i+1<=⇑ws/\⇑(xs++[y])=i+1/\aG H1 H5/\aB H5 ((ws.take (i+1)).map F) (xs++[y])/\Pσ σ3) else False) (yo hlt) sm pσ ?_;rintro σ3 y H5 s5 iy p3;rw[yR rfl];refine{_,(),rfl,hlt,by simp[hx],sm.trans s5,?_,p3};rw[xw,ze hlt,zm];exact dm iy (il.mono s5)
 ·let e:i=⇑ws:=()
  subst e;refine .inl {stop H sm,(),λD hD=>?_};let il':aB H (ws.map F) xs:=by rw[zO] at il;exact il
  exact fin D xs _ (sm.trans (bF hD)) (sm.back hD) aE (il'.mono (bF hD))
def BJ {α:Type} {J:It} {ws:List α} {enc:α->V} {σ₀:St} {g:TG} {te:TE} {Q:VK} {H1:Hp} (F:α->Dt) (Pσ:St->Prop) (hn:⇑ws<=sizeLine) (h0:Pσ σ₀)
  (go:∀i H,i<⇑ws->aG H1 H->J.go i H) (stop:∀H,aG H1 H->J.stop ⇑ws H) (yl:∀(i:Nat) x H H2 (hi:i<⇑ws),aG H1 H->J.Mr i H x H2->H2=H/\x=enc ws[i])
  (turn:∀(a:α) (σ:St) (H:Hp) (R:St->V->Hp->Prop),a∈ws->aG H1 H->Pσ σ->(∀σ3 y H5,aG H H5->Is H5 (F a) y->Pσ σ3->R σ3 y H5)->g (enc a) σ H λσ3 H3=>te σ3 H3 λy H5=>R σ3 y H5)
  (fin:∀D vs H,aG H1 H->H D=some (.lst vs)->aB H (ws.map F) vs->Q (.ref D) H):dQ σ₀ g ug te Q J H1:=nM F Pσ hn h0 go stop yl turn λD vs H s _=>fin D vs H s
def d4 {K:yE} {α:Type} {p:vw} {ws:List α} {enc:α->V} {σ₀:St} {g:TG} {te:TE} {Q:VK} {H1:Hp} (F:α->Dt) (Pσ:St->Prop) (hn:⇑ws<=sizeLine) (hp:fM K H1 p (ws.map enc)) (h0:Pσ σ₀)
  (turn:∀(a:α) (σ:St) (H:Hp) (R:St->V->Hp->Prop),a∈ws->aG H1 H->Pσ σ->(∀σ3 y H5,aG H H5->Is H5 (F a) y->Pσ σ3->R σ3 y H5)->g (enc a) σ H λσ3 H3=>te σ3 H3 λy H5=>R σ3 y H5)
  (fin:∀D vs H,aG H1 H->H1 D=none->H D=some (.lst vs)->aB H (ws.map F) vs->Q (.ref D) H):dQ σ₀ g ug te Q (Qs K p) H1:=by
 refine nM F Pσ hn h0 (λi H hi sm=>LZ (sm.seq hp) (by rw[zd];exact hi)) (λH sm=>{_,sm.seq hp,by rw[zd];exact zp _}) ?_ turn fin;rintro i x H H2 hi sm ⟨rfl,hy⟩;let hx':=hy _ (sm.seq hp);rw[zL,ze hi] at hx';cases hx';exact{(rfl),rfl}
def fK {K:yE} {α:Type} {p:vw} {ws:List α} {enc:α->V} {σ₀:St} {g:TG} {te:TE} {Q:VK} {H1:Hp} (F:α->Dt) (Pσ:St->Prop) (hn:⇑ws<=sizeLine) (hp:fM K H1 p (ws.map enc)) (h0:Pσ σ₀)
  (turn:∀(a:α) (σ:St) (H:Hp) (R:St->V->Hp->Prop),a∈ws->aG H1 H->Pσ σ->(∀σ3 y H5,aG H H5->Is H5 (F a) y->Pσ σ3->R σ3 y H5)->g (enc a) σ H λσ3 H3=>te σ3 H3 λy H5=>R σ3 y H5)
  (fin:∀D vs H,aG H1 H->H D=some (.lst vs)->aB H (ws.map F) vs->Q (.ref D) H):dQ σ₀ g ug te Q (Qs K p) H1:=by
 refine BJ F Pσ hn h0 (λi H hi sm=>LZ (sm.seq hp) (by rw[zd];exact hi)) (λH sm=>{_,sm.seq hp,by rw[zd];exact zp _}) ?_ turn fin;rintro i x H H2 hi sm ⟨rfl,hy⟩;let hx':=hy _ (sm.seq hp);rw[zL,ze hi] at hx';cases hx';exact{(rfl),rfl}
def gz {K:yE} {α:Type} {p:vw} {ws:List α} {enc:α->V} {σ₀:St} {g:TG} {te:TE} {Q:VK} {H1:Hp} (F:α->Dt) (Pσ:St->Prop) (hn:⇑ws<=sizeLine) (hp:H1 p=some (.tup (ws.map enc))) (h0:Pσ σ₀)
  (turn:∀(a:α) (σ:St) (H:Hp) (R:St->V->Hp->Prop),a∈ws->aG H1 H->Pσ σ->(∀σ3 y H5,aG H H5->Is H5 (F a) y->Pσ σ3->R σ3 y H5)->g (enc a) σ H λσ3 H3=>te σ3 H3 λy H5=>R σ3 y H5)
  (fin:∀D vs H,aG H1 H->H D=some (.lst vs)->aB H (ws.map F) vs->Q (.ref D) H):dQ σ₀ g ug te Q (Sk K p) H1:=by
 refine BJ F Pσ hn h0 (λi H hi sm=>KC (i6 sm hp) (by rw[zd];exact hi)) (λH sm=>{_,i6 sm hp,by rw[zd];exact zp _}) ?_ turn fin;rintro i x H H2 hi sm ⟨rfl,hy⟩;let hx':=hy _ (i6 sm hp);rw[zL,ze hi] at hx';cases hx';exact{(rfl),rfl}
noncomputable def gp (v:V):Bool:=decide (v=.bQ)
noncomputable def Dt.gp:Dt->Bool
 | .bQ=>true
 | _=>false
def PK:∀{d:Dt} {v:V},Is H d v->gp v=Dt.gp d
 | .bQ,_,h=>by unfold Is at h;subst h;rfl
 | .bl _,_,h=>by unfold Is at h;subst h;rfl
 | .int _,_,h=>by unfold Is at h;subst h;rfl
 | .str _,_,h=>by unfold Is at h;subst h;rfl
 | .tup _,_,h=>by unfold Is at h;let⟨a,vs,rfl,_⟩:=h;rfl
theorem jW:∀{ds:List Dt} {vs:List V},aB H ds vs->vs.any gp=ds.any Dt.gp
 | [],_,h=>by unfold aB at h;subst h;rfl
 | d::ds,_,h=>by
  unfold aB at h;let⟨v,r,rfl,h1,h2⟩:=h;rw[xt,xt,PK h1,jW h2]
theorem jx:∀{bs:List Bool} {vs:List V},aB H (bs.map Dt.bl) vs->vs=bs.map V.bl
 | [],_,h=>by unfold aB at h;exact h
 | b::bs,_,h=>by
  rw[zk] at h;unfold aB at h;let⟨v,r,rfl,h1,h2⟩:=h;unfold Is at h1;rw[h1,jx h2];rfl
theorem dY:∀{bs:List Str} {vs:List V},aB H (bs.map Dt.str) vs->vs=bs.map V.str
 | [],_,h=>by unfold aB at h;exact h
 | b::bs,_,h=>by
  rw[zk] at h;unfold aB at h;let⟨v,r,rfl,h1,h2⟩:=h;unfold Is at h1;rw[h1,dY h2];rfl
theorem fC:∀{bs:List Int} {vs:List V},aB H (bs.map Dt.int) vs->vs=bs.map V.int
 | [],_,h=>by unfold aB at h;exact h
 | b::bs,_,h=>by
  rw[zk] at h;unfold aB at h;let⟨v,r,rfl,h1,h2⟩:=h;unfold Is at h1;rw[h1,fC h2];rfl
theorem EM:∀{bs:List Str},aB H (bs.map Dt.str) (bs.map V.str)
 | []=>by simp[aB]
 | b::bs=>by rw[zk,zk];unfold aB;exact{_,_,rfl,by unfold Is;rfl,EM}
theorem qT:∀{bs:List Int},aB H (bs.map Dt.int) (bs.map V.int)
 | []=>by simp[aB]
 | b::bs=>by rw[zk,zk];unfold aB;exact{_,_,rfl,by unfold Is;rfl,qT}
def Ls (d:α->Dt):Prop:=∀a,Dt.gp (d a)=false
theorem jg {α:Type} {d:α->Dt} (f:Ls d):∀{l:List (Option α)},(l.map (dO d)).any Dt.gp=true->nO l=none
 | [],h=>by cases h
 | none::_,_=>rfl
 | some x::r,h=>by
  rw[zk,xt] at h;let e:Dt.gp (dO d (some x))=false:=f x;rw[e,Bool.false_or] at h;show(match nO r with | some l=>some (x::l) | none=>none)=none;rw[jg f h]
theorem jf:∀{l:List (Option α)},(l.map (dO d)).any Dt.gp=false->∃xs,nO l=some xs/\l.map (dO d)=xs.map d/\⇑xs=⇑l
 | [],_=>{[],rfl,rfl,rfl}
 | none::_,h=>by cases h
 | some x::r,h=>by
  rw[zk,xt,Bool.or_eq_false_iff] at h;let⟨xs,e1,e2,e3⟩:=jf h.2;refine{x::xs,?_,?_,by simp[e3]}
  ·show(match nO r with | some l=>some (x::l) | none=>none)=_
   rw[e1]
  ·rw[zk,zk,e2];rfl
def IH:Ls Dt.str:=λ_=>rfl
def PZ:Ls Dt.int:=λ_=>rfl
def TM:Ls dL:=λ_=>rfl
def P0:Ls mH:=λ_=>rfl
def Nh:Ls eQ:=λ_=>rfl
def Bi (h:Lp H v o):Is H (dO dL o) v:=by
 cases h with
 | bQ=>unfold dO Is;rfl
 | ref h=>exact iO h
def fV (h:Is H (dO dL o) v):Lp H v o:=by
 cases o with
 | none=>unfold dO Is at h;subst h;exact .bQ
 | some q=>
  unfold dO dL Is at h;let⟨a,vs,rfl,ha,hl⟩:=h;let e:[Dt.int q.1,Dt.int q.2]=[q.1,q.2].map Dt.int:=rfl;rw[e] at hl;rw[fC hl] at ha;exact .ref ha
def Bj (o:Option Int):Is H (dO .int o) (ov o):=by cases o <;> (unfold dO Is;rfl)
def DZ (o:Option Str):Is H (dO .str o) (os o):=by cases o <;> (unfold dO Is;rfl)
def Vb (h:RT H v o):Is H (dO eQ o) v:=by
 cases o with
 | none=>unfold dO Is;exact h
 | some it=>
  let⟨p,pv,a,rfl,h1,h2,h3⟩:=h;unfold dO eQ;unfold Is;refine{p,_,rfl,h1,?_};unfold aB;refine{_,_,rfl,Bi h3,?_};unfold aB;exact{_,_,rfl,iO h2,by unfold aB;rfl}
def G6:Sp:=λvs H Q _=>∃(t:Str),vs=[.str t]/\⇑t<=1000000/\∀p H',aG H H'->H' p=some (.lst ((words t).map V.str))->Q (.ref p) H'
def kQ:Sp:=λvs H Q _=>∃(t:Str),vs=[.str t]/\⇑t<=600/\∀H',aG H H'->Q (os (cu t)) H'
def j9:Sp:=λvs H Q _=>∃(t:Str),vs=[.str t]/\⇑t<=600/\∀H',aG H H'->Q (ov (fG t)) H'
inductive Aj (vs:List V) (H:Hp) (Q:VK) (E:XK):Prop
 | mk (t:Str) (lo hi:Int) (_:vs=[.str t,.int lo,.int hi]) (_:⇑t<=600) (_:∀H',aG H H'->Q (ov (lX t lo hi)) H')
def EV:Sp:=λvs H Q _=>∃(t:Str),vs=[.str t]/\⇑t<=600/\∀v H',aG H H'->Lp H' v (Qx t)->Q v H'
inductive EU (vs:List V) (H:Hp) (Q:VK) (E:XK):Prop
 | mk (a b:Str) (_:vs=[.str a,.str b]) (_:⇑a<=600) (_:⇑b<=600) (_:∀v H',aG H H'->Lp H' v (AG a b)->Q v H')
def Ck (K:yE):Sp:=λvs H Q _=>∃(t:Str),vs=[.str t]/\⇑t<=600/\∀v H',aG H H'->Lp H' v (ji t)->Q v H'
def G9:Sp:=λvs H Q _=>∃(t:Str),vs=[.str t]/\⇑t<=600/\∀H',aG H H'->Q (ov (HG t)) H'
inductive Cn (K:yE) (vs:List V) (H:Hp) (Q:VK) (E:XK):Prop
 | mk (a:vw) (us:List V) (_:vs=[.ref a]) (_:fM K H a us) (_:⇑us<=1000000) (_:∀H',aG H H'->Q (if us.any gp=true then .bQ else .ref a) H')
inductive Cm (vs:List V) (H:Hp) (Q:VK) (E:XK):Prop
 | mk (a:vw) (us:List V) (_:vs=[.ref a]) (_:H a=some (.tup us)) (_:⇑us<=1000000) (_:∀H',aG H H'->Q (if us.any gp=true then .bQ else .ref a) H')
def tJ:Sp:=λvs H Q _=>∃(t:Str),vs=[.str t]/\⇑t<=600/\∀v H',aG H H'->Is H' (dO mH (AI t)) v->Q v H'
inductive fQ (K:yE) (D:Hp->Hp->V->List Str->Prop) (vs:List V) (H:Hp) (Q:VK) (E:XK):Prop
 | mk (p:vw) (ws:List Str) (_:vs=[.ref p]) (_:fM K H p (ws.map V.str)) (_:⇑ws<=1000000) (_:(∀x∈ws,⇑x<=600)) (_:∀v H',aG H H'->D H H' v ws->Q v H')
noncomputable def dy (x:Str×(Int×Int)×(Int×Int)):Dt:=.tup [.str x.1,dL x.2.1,dL x.2.2]
noncomputable def nK (x:Str×List Str):Dt:=.tup [.str x.1,nJ x.2]
noncomputable def uc (x:Str×Int×Str):Dt:=.tup [.str x.1,.int x.2.1,.str x.2.2]
def Mo (H:Hp) (v:V) (x:Int×Str×List Item):Prop:=∃a q vs,v=.ref a/\H a=some (.tup [.int x.1,.str x.2.1,.ref q])/\H q=some (.lst vs)/\aB H (x.2.2.map eQ) vs
def i4 (H0 H:Hp) (v:V) (x:Int×Str×List Item):Prop:=∃a q vs,v=.ref a/\H a=some (.tup [.int x.1,.str x.2.1,.ref q])/\H q=some (.lst vs)/\aB H (x.2.2.map eQ) vs/\H0 q=none
def i4.at (h:i4 H0 H v x):Mo H v x:=by
 let⟨a,q,vs,h1,h2,h3,h4,_⟩:=h;exact{(a),q,vs,h1,h2,h3,h4}
theorem i4.back (s:aG H00 H0) (h:i4 H0 H v x):i4 H00 H v x:=by
 let⟨a,q,vs,h1,h2,h3,h4,h5⟩:=h;exact{a,q,vs,h1,h2,h3,h4,s.back h5}
def o6 (d:α->Dt) (f:List Str->Option α) (_ H:Hp) (v:V) (ws:List Str):Prop:=Is H (dO d (f ws)) v
def Vs (H0 H:Hp) (v:V) (ws:List Str):Prop:=match kZ ws with
 | none=>v=.bQ
 | some x=>i4 H0 H v x
def nA (h:Is H d v):aB H [d] [v]:=by unfold aB;exact{_,_,rfl,h,by unfold aB;rfl}
def bc (h:Is H d v) (r:aB H ds vs):aB H (d::ds) (v::vs):=by unfold aB;exact{_,_,rfl,h,r}
def dn:aB H [] []:=by unfold aB;rfl
def cM (h:H a=some (.tup vs)) (r:aB H ds vs):Is H (.tup ds) (.ref a):=by unfold Is;exact{_,_,rfl,h,r}
def fg:Is H (.str x) (.str x):=by unfold Is;rfl
def cW:Is H (.int x) (.int x):=by unfold Is;rfl
def dZ:Is H .bQ .bQ:=by unfold Is;rfl
def je (xs:List V) (k:Nat):iR xs (some (k:Int)) none=xs.drop k:=by
 unfold iR;rw[HT.qt];let e:HT.eU ⇑xs 0 (some (k:Int))=min k ⇑xs:=by unfold HT.eU;simp;ext
 rw[e];rcases Nat.le_total k ⇑xs with h | h
 ·rw[Nat.min_eq_left h]
  exact xx (by rw[xC];exact zp _)
 ·rw[Nat.min_eq_right h,List.drop_eq_nil_of_le (zp _),List.drop_eq_nil_of_le h,List.take_nil]
def RI (xs:List V) (k:Nat):iR xs none (some (k:Int))=xs.take k:=by
 unfold iR;rw[HT.qt,List.drop_zero,Nat.sub_zero];let e:HT.eU ⇑xs ⇑xs (some (k:Int))=min k ⇑xs:=by unfold HT.eU;simp;ext
 rw[e];rcases Nat.le_total k ⇑xs with h | h
 ·rw[Nat.min_eq_left h]
 ·rw[Nat.min_eq_right h,xx (zp _),xx h]
def pM (a b:Str) (r:List Str):sA (a::b::r)=(match nO ((a::b::r).map cu) with | some (n::ps)=>some (n,ps) | _=>none):=rfl
def gC (H0 H:Hp) (v:V):Option Told->Prop
 | none=>v=.bQ
 | some (.bA n)=>v=.str n
 | some (.cg n t l)=>Is H (dy (n,t,l)) v
 | some (.bE n ps)=>Is H (nK (n,ps)) v
 | some (.bar b)=>Is H (kJ b) v
 | some (.aH l)=>Is H (dL l) v
 | some (.holds p b i)=>Is H (uc (p,b,i)) v
 | some (.aJ b p its)=>i4 H0 H v (b,p,its)
 | some (.rep r)=>Is H (jI r) v
 | some (.bP j)=>Is H (gq j) v
inductive G8 (K:yE) (vs:List V) (H:Hp) (Q:VK) (E:XK):Prop
 | mk (p:vw) (x:Str) (ws:List Str) (_:vs=[.ref p]) (_:fM K H p ((x::ws).map V.str)) (_:⇑ws<=999999) (_:(∀y∈x::ws,⇑y<=600)) (_:∀v H',aG H H'->gC H H' v (jP (x::ws))->Q v H')
def mK (h:Is H (dO d o) v) (hg:∀x,Is H (d x) v->gC H0 H v (some (g x))):gC H0 H v (o.map g):=by
 cases o with
 | none=>unfold dO Is at h;exact h
 | some x=>exact hg x h
theorem gC.back (s:aG H00 H0):∀{t:Option Told},gC H0 H v t->gC H00 H v t
 | none,h=>h
 | some (.bA _),h=>h
 | some (.cg _ _ _),h=>h
 | some (.bE _ _),h=>h
 | some (.bar _),h=>h
 | some (.aH _),h=>h
 | some (.holds _ _ _),h=>h
 | some (.aJ _ _ _),h=>i4.back s h
 | some (.rep _),h=>h
 | some (.bP _),h=>h
def eG {α:Type} {l:List α} {i:Nat} {x:α} (h:l[i]?=some x):l.take (i+1)=l.take i++[x]:=by rw[xw,h];rfl
theorem L6:∀{l:List α} {i:Nat} {x:α},l[i]?=some x->(l.take i).find? p=none->p x=true->l.find? p=some x
 | [],i,x,h,_,_=>by simp at h
 | y::l,0,x,h,_,hx=>by simp at h;subst h;rw[yV,hx]
 | y::l,i+1,x,h,hn,hx=>by
  rw[wZ,yV] at hn;rw[yV];cases q:p y with
  | true=>rw[q] at hn;cases hn
  | false=>rw[q] at hn;exact L6 (by simpa using h) hn hx
def Eh {α:Type} {p:α->Bool} {l:List α} {i:Nat} {x:α} (h:l[i]?=some x) (hn:(l.take i).find? p=none) (hx:p x=false):(l.take (i+1)).find? p=none:=by
 rw[eG h,List.find?_append,hn];simp[hx]
def Du (K:yE) (H:Hp) (p:vw) (rs:List Rep):Prop:=∃vs,fM K H p vs/\aB H (rs.map jI) vs
theorem Du.mono {K:yE} {H H':Hp} (s:aG H H') {p:vw} {rs:List Rep} (h:Du K H p rs):Du K H' p rs:=by
 let⟨vs,h1,h2⟩:=h;exact{vs,s.seq h1,h2.mono s}
def fT (h:Is H (jI r) v):∃a e,v=.ref a/\H a=some (.tup [.int r.first,.int r.last,.int r.times,.ref e])/\Is H (.tup (r.ends.map mH)) (.ref e):=by
 unfold jI Is at h;let⟨a,vs,rfl,ha,hl⟩:=h;unfold aB at hl;let⟨v1,r1,rfl,h1,hl⟩:=hl;unfold aB at hl;let⟨v2,r2,rfl,h2,hl⟩:=hl;unfold aB at hl;let⟨v3,r3,rfl,h3,hl⟩:=hl;unfold aB at hl;let⟨v4,r4,rfl,h4,hl⟩:=hl;unfold aB at hl;subst hl;unfold Is at h1 h2 h3;subst h1 h2 h3;let h4':=h4;unfold Is at h4;let⟨e,us,rfl,he,hle⟩:=h4;exact{(a),e,rfl,ha,h4'}
def sV (h:Is H (mH e) v):∃a q,v=.ref a/\H a=some (.tup [.int e.1,.ref q])/\H q=some (.tup (e.2.map V.int)):=by
 unfold mH Is at h;let⟨a,vs,rfl,ha,hl⟩:=h;unfold aB at hl;let⟨v1,r1,rfl,h1,hl⟩:=hl;unfold aB at hl;let⟨v2,r2,rfl,h2,hl⟩:=hl;unfold aB at hl;subst hl;unfold Is at h1;subst h1;unfold ua Is at h2;let⟨q,us,rfl,hq,hle⟩:=h2;rw[fC hle] at hq;exact{(a),q,rfl,ha,hq}
def df {H:Hp} {α:Type} {d:α->Dt} {xs:List α} {vs:List V} {i:Nat} {v:V} (h:aB H (xs.map d) vs) (e:vs[i]?=some v):∃x,xs[i]?=some x/\Is H (d x) v:=by
 let⟨c,h1,h2⟩:=h.get e;rw[zL] at h1;cases q:xs[i]? with
 | none=>rw[q] at h1;cases h1
 | some x=>rw[q] at h1;cases h1;exact{(x),rfl,h2}
def aZ {H:Hp} {α:Type} {d:α->Dt} {xs:List α} {vs:List V} (h:aB H (xs.map d) vs):⇑vs=⇑xs:=by rw[h.len,zd]
inductive uh (K:yE) (vs:List V) (H:Hp) (Q:VK) (E:XK):Prop
 | mk (p:vw) (rs:List Rep) (b:Int) (_:vs=[.ref p,.int b]) (_:Du K H p rs) (_:∀v,Is H (dO jI (dP rs b)) v->Q v H)
inductive EW (K:yE) (vs:List V) (H:Hp) (Q:VK) (E:XK):Prop
 | mk (p:vw) (rs:List Rep) (b:Int) (_:vs=[.ref p,.int b]) (_:Du K H p rs) (_:Q (.bl (gR rs b)) H)
inductive EX (K:yE) (vs:List V) (H:Hp) (Q:VK) (E:XK):Prop
 | mk (p:vw) (rs:List Rep) (b:Int) (_:vs=[.ref p,.int b]) (_:Du K H p rs) (_:Q (.bl (eA rs b)) H)
noncomputable def Ny (x:Int×Int×List Int):Dt:=.tup [.int x.1,.int x.2.1,ua x.2.2]
inductive JW (vs:List V) (H:Hp) (Q:VK) (E:XK):Prop
 | mk (v:V) (r:Rep) (_:vs=[v]) (_:Is H (jI r) v) (_:⇑r.ends<=1000000) (_:∀p us H',aG H H'->H' p=some (.lst us)->aB H' ((jz r).map Ny) us->Q (.ref p) H')
inductive uk (K:yE) (vs:List V) (H:Hp) (Q:VK) (E:XK):Prop
 | mk (p:vw) (rs:List Rep) (b:Int) (_:vs=[.ref p,.int b]) (_:Du K H p rs) (_:(∀r∈rs,⇑r.ends<=1000000)) (_:∀H',aG H H'->Q (.bl (lE rs b)) H')
def pU {α:Type} {J:It} {ws:List α} {σ₀:St} {g:TG} {te:TE} {Q:VK} {H1:Hp} (Y:α->V->Hp->Prop) (F:α->Dt) (Pσ:St->Prop) (hn:⇑ws<=sizeLine) (h0:Pσ σ₀)
  (go:∀i H,i<⇑ws->aG H1 H->J.go i H) (stop:∀H,aG H1 H->J.stop ⇑ws H) (yl:∀(i:Nat) x H H2 (hi:i<⇑ws),aG H1 H->J.Mr i H x H2->aG H H2/\Y ws[i] x H2)
  (turn:∀(a:α) (x:V) (σ:St) (H:Hp) (R:St->V->Hp->Prop),a∈ws->aG H1 H->Y a x H->Pσ σ->(∀σ3 y H5,aG H H5->Is H5 (F a) y->Pσ σ3->R σ3 y H5)->g x σ H λσ3 H3=>te σ3 H3 λy H5=>R σ3 y H5)
  (fin:∀D vs H,aG H1 H->H D=some (.lst vs)->aB H (ws.map F) vs->Q (.ref D) H):dQ σ₀ g ug te Q J H1:=by
 refine{λi m xs σ H=>m=⇑ws-i/\i<=⇑ws/\⇑xs=i/\aG H1 H/\aB H ((ws.take i).map F) xs/\Pσ σ,{_,rfl,yg _,rfl,aF _,by simp[aB],h0},?_};rintro i m xs σ H ⟨rfl,hi,hx,sm,il,pσ⟩;rcases xH i ⇑ws with hlt | hge
 ·refine .inr {go i H hlt sm,(),?_}
  intro x H2 hy;let⟨s2,hY⟩:=yl i x H H2 hlt sm hy;refine turn ws[i] x σ H2 (λσ3 y H5=>if true=true then∃m',m'<⇑ws-i/\(m'=⇑ws-(i+1)/\i+1<=⇑ws/\⇑(xs++[y])=i+1/\aG H1 H5/\aB H5 ((ws.take (i+1)).map F) (xs++[y])/\Pσ σ3) else False) (yo hlt) (sm.trans s2) hY pσ ?_;rintro σ3 y H5 s5 iy p3;rw[yR rfl];refine{_,(),rfl,hlt,by simp[hx],(sm.trans s2).trans s5,?_,p3};rw[xw,ze hlt,zm];exact dm iy (il.mono (s2.trans s5))
 ·let e:i=⇑ws:=()
  subst e;refine .inl {stop H sm,(),λD hD=>?_};let il':aB H (ws.map F) xs:=by rw[zO] at il;exact il
  exact fin D xs _ (sm.trans (bF hD)) aE (il'.mono (bF hD))
structure Ow where
 dx:vw
 pl:vw
 ins:vw
 st:vw
 ba:vw
 ho:vw
 no:vw
 re:vw
 hs:List vw
 ns:List vw
noncomputable def Ow.lists (o:Ow):List vw:=[o.pl,o.ba,o.re]++o.hs++o.ns
noncomputable def QZ (o:Ow) (ub jm:V):List (Str×V):=[("players",.ref o.pl),("instruments",.ref o.ins),("staffs",.ref o.st),("bars",.ref o.ba),("upbeat",ub),("holds",.ref o.ho),("notes",.ref o.no),("repeats",.ref o.re),("jump",jm)]
noncomputable def kS (x:Str):Key:=Sum.inr x
noncomputable def kN (x:Int×Str):List Key:=[Sum.inl x.1,Sum.inr x.2]
noncomputable def Qd (x:Str×(Int×Int)×(Int×Int)):Dt:=.tup [dL x.2.1,dL x.2.2]
noncomputable def RH (x:Str×List Str):Dt:=nJ x.2
noncomputable def K2 (x:Int×Str):Dt:=.tup [.int x.1,.str x.2]
def cx (H:Hp) (d:α->Dt):List (List α)->List vw->Prop
 | [],as=>as=[]
 | l::r,as=>∃a t vs,as=a::t/\H a=some (.lst vs)/\aB H (l.map d) vs/\cx H d r t
inductive Xe (C:vw) (H:Hp) (a:vw) (o:Ow) (u:Option (Int×Int)) (j:Option Jump):Prop
 | mk (ub jm:V) (_:H a=some (.ins C o.dx (QZ o ub jm))) (_:Is H (dO dL u) ub) (_:Is H (dO gq j) jm)
inductive Qp {α:Type} (H:Hp) (d:α->Dt) (a:vw) (l:List α):Prop
 | mk (vs:List V) (_:H a=some (.lst vs)) (_:aB H (l.map d) vs)
inductive RU {α:Type} (H:Hp) (d:Str×α->Dt) (a:vw) (l:List (Str×α)):Prop
 | mk (vs:List V) (_:H a=some (.dK ((l.map λx=>kS x.1).zip vs))) (_:aB H (l.map d) vs)
structure cm (C:vw) (H:Hp) (a:vw) (S:bO) (o:Ow):Prop where
 obj:Xe C H a o S.aH S.bP
 pl:H o.pl=some (.lst (S.au.map V.str))
 ins:RU H Qd o.ins S.aq
 st:RU H RH o.st S.aP
 ba:Qp H kJ o.ba S.aR
 ho:H o.ho=some (.dK ((S.holds.map λx=>kS x.1).zip (o.hs.map V.ref)))/\cx H K2 (S.holds.map (·.2)) o.hs
 no:H o.no=some (.dT ((S.aJ.map λx=>kN x.1).zip (o.ns.map V.ref)))/\cx H eQ (S.aJ.map (·.2)) o.ns
 re:Qp H jI o.re S.aN
 nd:o.lists.Nodup
 dd:[o.ins,o.st,o.ho].Nodup
theorem cx.mono (s:aG H H'):∀{ls:List (List α)} {as:List vw},cx H d ls as->cx H' d ls as
 | [],_,h=>h
 | l::r,_,⟨a,t,vs,e,h1,h2,h3⟩=>{a,t,vs,e,s _ _ h1,h2.mono s,cx.mono s h3}
theorem cm.mono (s:aG H H') (h:cm C H a S o):cm C H' a S o where
 obj:=by let⟨ub,jm,h1,h2,h3⟩:=h.obj;exact{ub,jm,s _ _ h1,h2.mono s,h3.mono s}
 pl:=s _ _ h.pl
 ins:=by let⟨vs,h1,h2⟩:=h.ins;exact{vs,s _ _ h1,h2.mono s}
 st:=by let⟨vs,h1,h2⟩:=h.st;exact{vs,s _ _ h1,h2.mono s}
 ba:=by let⟨vs,h1,h2⟩:=h.ba;exact{vs,s _ _ h1,h2.mono s}
 ho:={s _ _ h.ho.1,h.ho.2.mono s}
 no:={s _ _ h.no.1,h.no.2.mono s}
 re:=by let⟨vs,h1,h2⟩:=h.re;exact{vs,s _ _ h1,h2.mono s}
 nd:=h.nd
 dd:=h.dd
def cZ (o:Option HO):Prop:=∀vs,o≠some (.tup vs)
mutual
theorem Is.upd (hx:cZ (H x)):∀{d:Dt} {v:V},Is H d v->Is (upd H x o) d v
 | .bQ,_,h=>by unfold Is at h ⊢;exact h
 | .bl _,_,h=>by unfold Is at h ⊢;exact h
 | .int _,_,h=>by unfold Is at h ⊢;exact h
 | .str _,_,h=>by unfold Is at h ⊢;exact h
 | .tup l,_,h=>by
  unfold Is at h ⊢;let⟨a,vs,e,ha,hl⟩:=h;let ne:a≠x:=λz=>hx vs (by rw[<-z];exact ha);exact{a,vs,e,by rw[aC ne];exact ha,aB.upd hx hl}
theorem aB.upd (hx:cZ (H x)):∀{l:List Dt} {vs:List V},aB H l vs->aB (L2.upd H x o) l vs
 | [],_,h=>by unfold aB at h ⊢;exact h
 | d::l,_,h=>by
  unfold aB at h ⊢;let⟨v,r,e,hv,hr⟩:=h;exact{v,r,e,Is.upd hx hv,aB.upd hx hr}
end
theorem cx.upd (hx:cZ (H x)):∀{ls:List (List α)} {as:List vw},x∉as->cx H d ls as->cx (L2.upd H x o) d ls as
 | [],_,_,h=>h
 | l::r,_,nx,⟨a,t,vs,e,h1,h2,h3⟩=>by
  subst e;let ne:a≠x:=λz=>nx (by rw[z];exact zt);exact{a,t,vs,rfl,by rw[aC ne];exact h1,aB.upd hx h2,cx.upd hx (λz=>nx (zr _ z)) h3}
structure Cf (K:yE) (C:vw):Prop where
 cls:RV K C
 au:dA K C "players"
 aq:dA K C "instruments"
 aP:dA K C "staffs"
 aR:dA K C "bars"
 aH:dA K C "upbeat"
 holds:dA K C "holds"
 aJ:dA K C "notes"
 aN:dA K C "repeats"
 bP:dA K C "jump"
def RD (n:Nat):NumText.digitsVal (dec (n:Int)).cps.toList=n:=by rw[vO];exact PySem.W.KIN.val_back n
def S0 {most:Int} {n k:Nat} (hk:0<k) (hm:(k:Int)<=most) (h:n<10^k):rn most (dec (n:Int)).cps.toList=some (n:Int):=by
 let l1:=IW (n:=n);let l2:=Em hk h;let el:⇑(dec (n:Int)).cps.toList=⇑(dec (n:Int)):=yT;let ha:((dec (n:Int)).cps.toList.all λc=>decide (c∈uP))=true:=yt.mpr λc hc=>zh (TN (kI hc).1 (kI hc).2);unfold rn;rw[yQ (),yQ (),yR ha,yQ,RD];rintro⟨z1,z2⟩;have:=Nr (n:=n) (by rw[<-xj];exact z1);ext
def nU {most n:Int} {k:Nat} (hk:0<k) (hm:(k:Int)<=most) (h0:0<=n) (h:n<10^k):rn most (dec n).cps.toList=some n:=by
 let⟨m,rfl⟩:=yO h0;exact S0 hk hm (by exact_mod_cast h)
def fw {n:Int} (h0:0<=n) (h:n<1000):fG (dec n)=some n:=nU (k:=3) ∅ ∅ h0 ()
def DJ (h0:0<=n) (h:n<1000) (h1:lo<=n) (h2:n<=hi):lX (dec n) lo hi=some n:=by
 unfold lX;rw[fw h0 h];dsimp only;rw[yQ (),yQ ()]
def Kc {most n:Int} {k:Nat} (hk:0<k) (hm:(k:Int)<=most) (h1:-(10^k)<n) (h2:n<10^k):rs most (dec n)=some n:=by
 unfold rs
 by_cases h0:0<=n
 ·rw[yQ,nU hk hm h0 h2]
  intro z;let⟨m,rfl⟩:=yO h0;have:=kI (zD z);ext
 ·let e:(dec n).cps.toList=45::(dec (-n)).cps.toList:=by rw[vN (),bD];rfl
  rw[e,yR (show(45::(dec (-n)).cps.toList)[0]?=some 45 from rfl)];show(match rn most (dec (-n)).cps.toList with | some n=>if n=0 then none else some (-n) | none=>none)=_;rw[nU hk hm () ()];dsimp only;rw[yQ (),Int.neg_neg]
def OH {q:Int×Int} (h:Qz q):rp (dec q.1) (dec q.2)=some q:=by
 let⟨h1,h2,h3,h4,h5⟩:=h;unfold rp;rw[Kc (k:=2) ∅ ∅ () (),Kc (k:=2) ∅ ∅ () ()];dsimp only;rw[yR h5]
def IY (n:Int):47∉(dec n).cps.toList:=fZ ∅ ∅
def Ma (n:Int):58∉(dec n).cps.toList:=fZ ∅ ∅
def Iu {x:Int×Int} (h:Rd x) (h1:x.1<10000) (h2:x.2<10000):Qx (gm x)=some x:=by
 let⟨p1,p2,p3⟩:=h.pos;unfold gm Qx
 by_cases c:x.2=1
 ·rw[yR c,show Txt.split (dec x.1) "/"= [dec x.1] from split1 (c:=47) (IY _)]
  dsimp only;rw[nU (k:=4) ∅ ∅ p1 ()];dsimp only;rw[<-c,p3]
 ·rw[yQ c,show Txt.split (dec x.1 ++"/" ++ dec x.2) "/"= [dec x.1,dec x.2] from ES (c:=47) (IY _) (IY _)]
  dsimp only;rw[nU (k:=4) ∅ ∅ p1 (),nU (k:=4) ∅ ∅ () ()];dsimp only;rw[yQ (),p3]
def FL (h:Ey x):lr (gm x)=some x:=by
 let⟨h1,h2,h3,h4⟩:=h;unfold lr;rw[Iu h1 h3 h4];dsimp only;rw[yQ ()]
def Ru (h:Lq it):ir (kA it)=some it:=by
 let⟨o,x⟩:=it;let⟨h1,h2⟩:=h;cases o with
 | none=>
  let e:Txt.split (kA (none,x)) ":"= [("r": Str),gm x]:=ES (c:=58) (a:="r") ∅ (DV h1);unfold ir;rw[e];show(match lr (gm x) with | none=>none | some x=>_)=_;rw[FL h1];exact yR rfl
 | some q=>
  let e:Txt.split (kA (some q,x)) ":"= [dec q.1,dec q.2,gm x]:=SU (c:=58) (Ma _) (Ma _) (DV h1);unfold ir;rw[e];show(match lr (gm x) with | none=>none | some x=>_)=_;rw[FL h1];dsimp only;rw[yQ (by simp)];show(match rp (dec q.1) (dec q.2) with | some q=>some (some q,x) | none=>none)=_;rw[OH (h2 q rfl)]
def Kd (h1:1<=a) (h2:a<=32) (h3:b∈BS):ji (dec a ++"/" ++ dec b)=some (a,b):=by
 let hb:0<=b/\b<1000:=by
  unfold BS at h3;simp at h3;ext
 unfold ji;rw[show Txt.split (dec a ++"/" ++ dec b) "/"= [dec a,dec b] from ES (c:=47) (IY _) (IY _)];dsimp only;rw[DJ () () h1 h2,fw hb.1 hb.2];dsimp only;rw[yR h3]
def OJ {k:Int} (h1:-7<=k) (h2:k<=7):HG (dec k)=some k:=by
 unfold HG;rw[Kc (k:=3) ∅ ∅ () ()];dsimp only;rw[yQ (by split <;> ext)]
def MQ (h:Qz q) (h1:-12<=q.1) (h2:q.1<=12):AG (dec q.1) (dec q.2)=some q:=by
 unfold AG;rw[OH h];dsimp only;rw[yQ (by split <;> ext)]
theorem nN:∀{l:List α},(∀x∈l,f (g x)=some x)->nO ((l.map g).map f)=some l
 | [],_=>rfl
 | x::l,h=>by
  rw[zk,zk,h x zt];unfold nO;rw[nN λy hy=>h y (zr _ hy)]
noncomputable def oO (e:End):Str:=dec e.1 ++":" ++ Str.join "," (e.2.map dec)
def Uq (e:End):Prop:=0<=e.1/\e.1<1000/\e.2≠[]/\∀p∈e.2,0<=p/\p<1000
theorem oA (hs:c∉sep.cps.toList):∀{zs:List Str},(∀z∈zs,c∉z.cps.toList)->c∉(Str.join sep zs).cps.toList
 | [],_=>by show c∉("": Str).cps.toList;exact zF
 | [z],h=>h z zt
 | z::y::r,h=>by
  rw[bu,bD,bD];intro m;rcases zH.mp m with m | m
  ·rcases zH.mp m with m | m
   ·exact h z zt m
   ·exact hs m
  ·exact oA hs (λx hx=>h x (zr _ hx)) m
def OL (h:Uq e):AI (oO e)=some e:=by
 let⟨h1,h2,h3,h4⟩:=h;let f:58∉(Str.join "," (e.2.map dec)).cps.toList:=oA ∅ λz hz=>by
  let⟨y,_,rfl⟩:=zI.mp hz;exact Ma _
 unfold AI oO;rw[show Txt.split (dec e.1 ++":" ++ Str.join "," (e.2.map dec)) ":"= [dec e.1,Str.join "," (e.2.map dec)] from ES (c:=58) (Ma _) f];dsimp only;rw[show Txt.split (Str.join "," (e.2.map dec)) ","= e.2.map dec from gs (c:=44) (by simpa using h3) λz hz=>by
  let⟨y,_,rfl⟩:=zI.mp hz;exact fZ ∅ ∅]
 rw[fw h1 h2,nN λx hx=>fw (h4 x hx).1 (h4 x hx).2]
def NO (w:Str):Prop:=w≠ ""/\32∉w.cps.toList/\10∉w.cps.toList
def JL (ne:ws≠[]) (h:∀w∈ws,NO w):words (Str.join " " ws)=ws:=by
 unfold words;rw[show Txt.split (Str.join " " ws) " "= ws from gs (c:=32) ne λw hw=>(h w hw).2.1];exact List.filter_eq_self.mpr λw hw=>zh (h w hw).1
def fJ (n:Int):NO (dec n):=by
 refine{λz=>?_,fZ ∅ ∅,fZ ∅ ∅}
 by_cases h:0<=n
 ·let⟨m,rfl⟩:=yO h
  have:=IW (n:=m);rw[z] at this;exact absurd this ∅
 ·let e:(dec n).cps.toList=45::(dec (-n)).cps.toList:=by rw[vN (),bD];rfl
  rw[z] at e;cases e
def Jo (ha:NO a) (hb1:32∉b.cps.toList) (hb2:10∉b.cps.toList):NO (a++b):=by
 refine{λz=>ha.1 (dN ?_),λm=>?_,λm=>?_}
 ·let e:(a++b).cps.toList=("": Str).cps.toList:=by rw[z]
  rw[bD] at e;exact(List.append_eq_nil_iff.mp e).1
 ·rw[bD] at m
  rcases zH.mp m with m | m
  ·exact ha.2.1 m
  ·exact hb1 m
 ·rw[bD] at m
  rcases zH.mp m with m | m
  ·exact ha.2.2 m
  ·exact hb2 m
def Gq (ha:NO a) (hb1:32∉b.cps.toList) (hb2:10∉b.cps.toList) (hc:NO c):NO (a++b++c):=Jo (Jo ha hb1 hb2) hc.2.1 hc.2.2
def Bd (x:Int×Int):NO (gm x):=by
 unfold gm;split
 ·exact fJ _
 ·exact Gq (fJ _) ∅ ∅ (fJ _)
def TH (it:Item):NO (kA it):=by
 let⟨o,x⟩:=it;cases o with
 | none=>exact Jo (a:="r:") {∅,∅,∅} (Bd x).2.1 (Bd x).2.2
 | some q=>exact Gq (Gq (fJ _) ∅ ∅ (fJ _)) ∅ ∅ (Bd x)
def T3 (e:End):NO (oO e):=by
 let f:∀c,c≠44->c≠45->¬(48<=c/\c<=57)->c∉(Str.join "," (e.2.map dec)).cps.toList:=λc h0 h1 h2=>oA (by show c∉[44];simpa using h0) λz hz=>by
  let⟨y,_,rfl⟩:=zI.mp hz;exact fZ h1 h2
 unfold oO;exact Jo (Jo (fJ _) ∅ ∅) (f 32 ∅ ∅ ∅) (f 10 ∅ ∅ ∅)
def dW (n:Str):Prop:=cu n=some n
def dW.w (h:dW n):NO n:=by
 unfold dW cu at h;split at h
 ·cases h
 ·split at h
  ·cases h
  ·split at h
   ·rename_i h1 _ h3
    let hs:∀c,c∉sgn->c∉n.cps.toList:=λc hc m=>hc (ye (yt.mp h3 c m));refine{λz=>h1 (by rw[z];decide),hs 32 ∅,hs 10 ∅}
   ·cases h
noncomputable def ctxt:Option Int->Str
 | none=> "end"
 | some n=>dec n
noncomputable def aV:Told->List Str
 | .bA n=>["player",n]
 | .cg n t l=>["instrument",n,dec t.1,dec t.2,gm l]
 | .bE n ps=> "staff":: n::ps
 | .bar b=> "bar":: (dec b.bg.1 ++"/" ++ dec b.bg.2)::dec b.key::b.marks
 | .aH l=>["upbeat",gm l]
 | .holds p b i=>["holds",p,dec b,i]
 | .aJ b p its=> "notes":: dec b::p::its.map kA
 | .rep r=> "repeat":: dec r.first::dec r.last::dec r.times::r.ends.map oO
 | .bP j=>["jump",dec j.vJ,dec j.Cd,dec j.dw,ctxt j.ik]
noncomputable def aO (t:Told):Str:=Str.join " " (aV t)
def NB (n:Int):Prop:=0<=n/\n<1000
def Ew:Told->Prop
 | .bA n=>dW n
 | .cg n t l=>dW n/\Qz t/\-12<=t.1/\t.1<=12/\Lm.Rd l/\l.1<10000/\l.2<10000
 | .bE n ps=>dW n/\ps≠[]/\∀p∈ps,dW p
 | .bar b=>1<=b.bg.1/\b.bg.1<=32/\b.bg.2∈BS/\-7<=b.key/\b.key<=7/\∀m∈b.marks,dW m
 | .aH l=>Ey l
 | .holds p b i=>dW p/\NB b/\dW i
 | .aJ b p its=>NB b/\dW p/\(∀it∈its,Lq it)/\its.all (λit=>it.1.isNone)=false
 | .rep r=>NB r.first/\NB r.last/\2<=r.times/\r.times<=9/\∀e∈r.ends,Uq e
 | .bP j=>NB j.vJ/\NB j.Cd/\NB j.dw/\∀c,j.ik=some c->NB c
def Mm (h:∀p∈l,dW p):nO (l.map cu)=some l:=by
 have:=nN (f:=cu) (g:=λx:Str=>x) (l:=l) h
 rwa [List.map_id'] at this
def AN (h:Ew t):jP (aV t)=some t:=by
 cases t with
 | bA n=>
  show(cu n).map Told.bA=_;rw[show cu n=some n from h];rfl
 | cg n t l=>
  let⟨h1,h2,h3,h4,h5,h6,h7⟩:=h;show(mZ [n,dec t.1,dec t.2,gm l]).map (λx=>Told.cg x.1 x.2.1 x.2.2)=_;unfold mZ;dsimp only;rw[show cu n=some n from h1,MQ h2 h3 h4,Iu h5 h6 h7];rfl
 | bE n ps=>
  let⟨h1,h2,h3⟩:=h;show(sA (n::ps)).map (λx=>Told.bE x.1 x.2)=_;let⟨b,r,rfl⟩:=List.exists_cons_of_ne_nil h2;rw[pM,Mm (l:=n::b::r) λp hp=>by
   rcases zE.mp hp with e | e
   ·rw[e];exact h1
   ·exact h3 p e]
  rfl
 | bar b=>
  let⟨h1,h2,h3,h4,h5,h6⟩:=h;show(Fo ((dec b.bg.1 ++"/" ++ dec b.bg.2)::dec b.key::b.marks)).map Told.bar=_;unfold Fo;dsimp only;rw[Mm h6,Kd h1 h2 h3,OJ h4 h5];rfl
 | aH l=>
  show(lr (gm l)).map Told.aH=_;rw[FL h];rfl
 | holds p b i=>
  let⟨h1,h2,h3⟩:=h;show(tP [p,dec b,i]).map (λx=>Told.holds x.1 x.2.1 x.2.2)=_;unfold tP;dsimp only;rw[show cu p=some p from h1,fw h2.1 h2.2,show cu i=some i from h3];rfl
 | aJ b p its=>
  let⟨h1,h2,h3,h4⟩:=h;show(kZ (dec b::p::its.map kA)).map (λx=>Told.aJ x.1 x.2.1 x.2.2)=_;cases its with
  | nil=>cases h4
  | cons i r=>
   show(kZ (dec b::p::kA i::r.map kA)).map _=_;unfold kZ;let e:=nN (f:=ir) (g:=kA) (l:=i::r) λx hx=>Ru (h3 x hx);rw[zk] at e;dsimp only;rw[e];dsimp only;rw[h4,fw h1.1 h1.2,show cu p=some p from h2];rfl
 | rep r=>
  let⟨h1,h2,h3,h4,h5⟩:=h;show(kY (dec r.first::dec r.last::dec r.times::r.ends.map oO)).map Told.rep=_;unfold kY;dsimp only;rw[nN λx hx=>OL (h5 x hx),fw h1.1 h1.2,fw h2.1 h2.2,DJ () () h3 h4];rfl
 | bP j=>
  let⟨h1,h2,h3,h4⟩:=h;show(AQ [dec j.vJ,dec j.Cd,dec j.dw,ctxt j.ik]).map Told.bP=_;unfold AQ;dsimp only;rw[fw h1.1 h1.2,fw h2.1 h2.2,fw h3.1 h3.2];let⟨a,b,c,d⟩:=j;cases d with
  | none=>rfl
  | some n=>
   dsimp only[ctxt];rw[fw (h4 n rfl).1 (h4 n rfl).2];rfl
def Lw (h:Ew t):∀w∈aV t,NO w:=by
 let lit:∀s:Str,s≠ ""->32∉s.cps.toList->10∉s.cps.toList->NO s:=λs a b c=>{(a),b,c}
 cases t with
 | bA n=>
  intro w hw;simp only[aV,zE,zF,yX] at hw;rcases hw with rfl | rfl
  ·exact lit _ ∅ ∅ ∅
  ·exact dW.w h
 | cg n t l=>
  intro w hw;simp only[aV,zE,zF,yX] at hw;rcases hw with rfl | rfl | rfl | rfl | rfl
  ·exact lit _ ∅ ∅ ∅
  ·exact dW.w h.1
  ·exact fJ _
  ·exact fJ _
  ·exact Bd _
 | bE n ps=>
  intro w hw;simp only[aV,zE] at hw;rcases hw with rfl | rfl | hw
  ·exact lit _ ∅ ∅ ∅
  ·exact dW.w h.1
  ·exact dW.w (h.2.2 _ hw)
 | bar b=>
  intro w hw;simp only[aV,zE] at hw;rcases hw with rfl | rfl | rfl | hw
  ·exact lit _ ∅ ∅ ∅
  ·exact Gq (fJ _) ∅ ∅ (fJ _)
  ·exact fJ _
  ·exact dW.w (h.2.2.2.2.2 _ hw)
 | aH l=>
  intro w hw;simp only[aV,zE,zF,yX] at hw;rcases hw with rfl | rfl
  ·exact lit _ ∅ ∅ ∅
  ·exact Bd _
 | holds p b i=>
  intro w hw;simp only[aV,zE,zF,yX] at hw;rcases hw with rfl | rfl | rfl | rfl
  ·exact lit _ ∅ ∅ ∅
  ·exact dW.w h.1
  ·exact fJ _
  ·exact dW.w h.2.2
 | aJ b p its=>
  intro w hw;simp only[aV,zE,zI] at hw;rcases hw with rfl | rfl | rfl | ⟨x,_,rfl⟩
  ·exact lit _ ∅ ∅ ∅
  ·exact fJ _
  ·exact dW.w h.2.1
  ·exact TH _
 | rep r=>
  intro w hw;simp only[aV,zE,zI] at hw;rcases hw with rfl | rfl | rfl | rfl | ⟨x,_,rfl⟩
  ·exact lit _ ∅ ∅ ∅
  ·exact fJ _
  ·exact fJ _
  ·exact fJ _
  ·exact T3 _
 | bP j=>
  intro w hw;simp only[aV,zE,zF,yX] at hw;rcases hw with rfl | rfl | rfl | rfl | rfl
  ·exact lit _ ∅ ∅ ∅
  ·exact fJ _
  ·exact fJ _
  ·exact fJ _
  ·unfold ctxt
   cases j.ik with
   | none=>exact lit _ ∅ ∅ ∅
   | some n=>exact fJ _
def JM (t:Told):aV t≠[]:=by cases t <;> simp[aV]
def DM (h:Ew t):words (aO t)=aV t:=JL (JM t) (Lw h)
def HF (h:Ew t):10∉(aO t).cps.toList:=oA ∅ λw hw=>(Lw h w hw).2.2
noncomputable def kindOf:HO->Nat
 | .lst _=>0
 | .tup _=>1
 | .ins _ _ _=>2
 | .dK _=>3
 | .dT _=>4
 | _=>5
def fL {a b:Nat} (h:Nat.beq a b=false):a≠b:=λz=>by rw[z,Nat.beq_refl] at h;cases h
def bB {H:Hp} {a b:vw} {u v:HO} (h1:H a=some u) (h2:H b=some v) (k:kindOf u≠kindOf v):a≠b:=λz=>by
 rw[z,h2] at h1;cases h1;exact k rfl
noncomputable def own (a:vw) (o:Ow):List vw:=[a,o.pl,o.ins,o.st,o.ba,o.ho,o.no,o.re]++o.hs++o.ns
def vB (L:List vw) (H H':Hp):Prop:=∀b u,b∉L->H b=some u->H' b=some u
def vB.of (s:aG H H'):vB L H H':=λb u _ h=>s b u h
def vB.trans (s:vB L H H') (t:vB L H' H''):vB L H H'':=λb u n h=>t b u n (s b u n h)
theorem vB.upd (h:x∈L):vB L H (L2.upd H x o):=λb u n e=>by
 rw[aC (λz=>n (by rw[z];exact h))];exact e
structure Nd (o:Ow):Prop where
 pb:o.pl≠o.ba
 pr:o.pl≠o.re
 ph:o.pl∉o.hs
 pn:o.pl∉o.ns
 br:o.ba≠o.re
 bh:o.ba∉o.hs
 bn:o.ba∉o.ns
 rh:o.re∉o.hs
 rn:o.re∉o.ns
 hh:o.hs.Nodup
 nn:o.ns.Nodup
 hn:∀x∈o.hs,x∉o.ns
def Nd.of (h:o.lists.Nodup):Nd o:=by
 unfold Ow.lists at h;rw[zU] at h;let⟨h1,h2,h3⟩:=h;rw[zU] at h1;let⟨h4,h5,h6⟩:=h1;simp only[yd,zE,zF,yX,not_or] at h4;refine{h4.1.1,h4.1.2,λz=>?_,λz=>?_,h4.2.1,λz=>?_,λz=>?_,λz=>?_,λz=>?_,h5,h2,λx hx z=>?_}
 ·exact h6 o.pl (by simp) o.pl z rfl
 ·exact h3 o.pl (by simp) o.pl z rfl
 ·exact h6 o.ba (by simp) o.ba z rfl
 ·exact h3 o.ba (by simp) o.ba z rfl
 ·exact h6 o.re (by simp) o.re z rfl
 ·exact h3 o.re (by simp) o.re z rfl
 ·exact h3 x (by simp[hx]) x z rfl
def Nd.to (h:Nd o):o.lists.Nodup:=by
 unfold Ow.lists;rw[zU];refine{?_,h.nn,?_}
 ·rw[zU]
  refine{?_,h.hh,?_}
  ·simp only[yd,zE,zF,yX,not_or]
   exact{{(h.pb),h.pr},h.br,λz=>z,x8}
  ·intro x hx y hy e
   subst e;simp only[zE,zF,yX] at hx;rcases hx with rfl | rfl | rfl
   ·exact h.ph hy
   ·exact h.bh hy
   ·exact h.rh hy
 ·intro x hx y hy e
  subst e;rw[zH] at hx;rcases hx with hx | hx
  ·simp only[zE,zF,yX] at hx
   rcases hx with rfl | rfl | rfl
   ·exact h.pn hy
   ·exact h.bn hy
   ·exact h.rn hy
  ·exact h.hn x hx hy
section
variable {C a x:vw} {H:Hp} {S:bO} {o:Ow} {u:HO}
def cm.DS (h:cm C H a S o) (nx:cZ (H x)) (n:a≠x):Xe C (L2.upd H x u) a o S.aH S.bP:=by
 let⟨ub,jm,h1,h2,h3⟩:=h.obj;exact{ub,jm,by rw[aC n];exact h1,Is.upd nx h2,Is.upd nx h3}
def cm.Fp (h:cm C H a S o) (n:o.pl≠x):L2.upd H x u o.pl=some (.lst (S.au.map V.str)):=by rw[aC n];exact h.pl
def cm.qU (h:cm C H a S o) (nx:cZ (H x)) (n:o.ins≠x):RU (L2.upd H x u) Qd o.ins S.aq:=by
 let⟨vs,h1,h2⟩:=h.ins;exact{vs,by rw[aC n];exact h1,aB.upd nx h2}
def cm.EO (h:cm C H a S o) (nx:cZ (H x)) (n:o.st≠x):RU (L2.upd H x u) RH o.st S.aP:=by
 let⟨vs,h1,h2⟩:=h.st;exact{vs,by rw[aC n];exact h1,aB.upd nx h2}
def cm.Gn (h:cm C H a S o) (nx:cZ (H x)) (n:o.ba≠x):Qp (L2.upd H x u) kJ o.ba S.aR:=by
 let⟨vs,h1,h2⟩:=h.ba;exact{vs,by rw[aC n];exact h1,aB.upd nx h2}
def cm.Fj (h:cm C H a S o) (nx:cZ (H x)) (n:o.re≠x):Qp (L2.upd H x u) jI o.re S.aN:=by
 let⟨vs,h1,h2⟩:=h.re;exact{vs,by rw[aC n];exact h1,aB.upd nx h2}
def cm.IB (h:cm C H a S o) (nx:cZ (H x)) (n:o.ho≠x) (nn:x∉o.hs):L2.upd H x u o.ho=some (.dK ((S.holds.map λx=>kS x.1).zip (o.hs.map V.ref)))/\cx (L2.upd H x u) K2 (S.holds.map (·.2)) o.hs:=
 {by rw[aC n];exact h.ho.1,cx.upd nx nn h.ho.2}
def cm.FG (h:cm C H a S o) (nx:cZ (H x)) (n:o.no≠x) (nn:x∉o.ns):L2.upd H x u o.no=some (.dT ((S.aJ.map λx=>kN x.1).zip (o.ns.map V.ref)))/\cx (L2.upd H x u) eQ (S.aJ.map (·.2)) o.ns:=
 {by rw[aC n];exact h.no.1,cx.upd nx nn h.no.2}
end
theorem cI:∀{ls:List (List α)} {as:List vw},cx H d ls as->x∈as->∃vs,H x=some (.lst vs)
 | [],_,h,hx=>by unfold cx at h;subst h;simp at hx
 | l::r,_,⟨a,t,vs,e,h1,_,h3⟩,hx=>by
  subst e;rcases zE.mp hx with rfl | hx
  ·exact{(vs),h1}
  ·exact cI h3 hx
theorem cx.snoc (hx:H x=some (.lst vs)) (im:aB H (m.map d) vs):∀{ls:List (List α)} {as:List vw},cx H d ls as->cx H d (ls++[m]) (as++[x])
 | [],_,h=>by unfold cx at h;subst h;exact{x,[],vs,rfl,hx,im,rfl}
 | l::r,_,⟨a,t,vs',e,h1,h2,h3⟩=>by
  subst e;exact{a,t++[x],vs',rfl,h1,h2,cx.snoc hx im h3}
def N4 (h:l.length=m.length) (x:α) (y:β):(l++[x]).zip (m++[y])=l.zip m++[(x,y)]:=by
 rw[List.zip_append h];rfl
def qD {κ:Type} [DecidableEq κ] {ks:List κ} {vs:List V} (hl:⇑ks=⇑vs) {k:κ} {v:V} (h:fj (ks.zip vs) k=none):putK (ks.zip vs) k v=(ks++[k]).zip (vs++[v]):=by
 rw[N4 hl];exact OT v h
theorem Ea (p:Str):∀{hs:List (Str×List α)} {as:List vw},cx H d (hs.map (·.2)) as->as.Nodup->(hs.map (·.1)).Nodup->p∈hs.map (·.1)->
  ∃x vs,fj ((hs.map λx=>kS x.1).zip (as.map V.ref)) (kS p)=some (.ref x)/\x∈as/\H x=some (.lst vs)/\∀y e,Is (L2.upd H x (.lst (vs++[y]))) (d e) y->
   cx (L2.upd H x (.lst (vs++[y]))) d ((hs.map λq=>if q.1=p then(q.1,q.2++[e]) else q).map (·.2)) as
 | [],_,_,_,_,h=>by simp at h
 | (k,l)::r,_,hL,na,nk,hm=>by
  rw[zk] at hL;let⟨a,t,vs,rfl,h1,h2,h3⟩:=hL;rw[zk,yd] at nk;rw[yd] at na
  by_cases e:k=p
  ·subst e
   refine{a,vs,?_,zt,h1,λy e iy=>?_}
   ·rw[zk,zk,yZ]
    unfold fj;rw[yV];simp
   ·let nx:cZ (H a):=by rw[h1];exact λ_ z=>by cases z
    let er:(r.map λq=>if q.1=k then(q.1,q.2++[e]) else q)=r:=by
     conv=>rhs;rw[<-List.map_id r]
     refine xy λq hq=>?_;rw[yQ (λz=>nk.1 (by rw[show(k,l).1=q.1 from z.symm];exact zQ (f:=λx:Str×List α=>x.1) hq))];rfl
    rw[zk,zk,yR rfl,er];refine{a,t,vs++[y],rfl,aE,?_,cx.upd nx na.1 h3};rw[zm];exact dm iy (aB.upd nx h2)
  ·let hm':p∈r.map (·.1):=by
    rcases zE.mp hm with z | z
    ·exact absurd z.symm e
    ·exact z
   let⟨x,vs',e1,e2,e3,e4⟩:=Ea p h3 na.2 nk.2 hm';refine{x,vs',?_,zr _ e2,e3,λy e iy=>?_}
   ·let e':¬kS k=kS p:=λz=>e (wW z)
    rw[zk,zk,yZ];unfold fj at e1 ⊢;rw[yV];simp only[e',decide_false];exact e1
   ·let nx:cZ (H x):=by rw[e3];exact λ_ z=>by cases z
    rw[zk,zk,yQ (by assumption)];refine{a,t,vs,rfl,?_,aB.upd nx h2,e4 y e iy};rw[aC (λz=>na.1 (by rw[z];exact e2))];exact h1
section
variable {C a:vw} {H:Hp} {S:bO} {o:Ow}
def cm.Ld (h:cm C H a S o) (n:Str):cm C (L2.upd H o.pl (.lst (S.au.map V.str++[.str n]))) a (bR S (.bA n)) o:=by
 let d:=Nd.of h.nd;let hp:=h.pl;let nx:cZ (H o.pl):=by rw[hp];exact λ_ z=>by cases z
 let⟨_,_,ha,_⟩:=h.obj;let⟨_,hi,_⟩:=h.ins;let⟨_,hs,_⟩:=h.st;exact{h.DS nx (bB ha hp (fL rfl)),by rw[aE];show _=some (HO.lst ((S.au++[n]).map V.str));rw[zm];rfl,h.qU nx (bB hi hp (fL rfl)),h.EO nx (bB hs hp (fL rfl)),h.Gn nx d.pb.symm,
  h.IB nx (bB h.ho.1 hp (fL rfl)) d.ph,h.FG nx (bB h.no.1 hp (fL rfl)) d.pn,h.Fj nx d.pr.symm,h.nd,h.dd}
def cm.RM (h:cm C H a S o) {b:N1} {v:V} {vs:List V} (hb:H o.ba=some (.lst vs)) (il:aB H (S.aR.map kJ) vs) (iv:Is H (kJ b) v):cm C (L2.upd H o.ba (.lst (vs++[v]))) a (bR S (.bar b)) o:=by
 let d:=Nd.of h.nd;let nx:cZ (H o.ba):=by rw[hb];exact λ_ z=>by cases z
 let⟨_,_,ha,_⟩:=h.obj;let⟨_,hi,_⟩:=h.ins;let⟨_,hs,_⟩:=h.st;refine{h.DS nx (bB ha hb (fL rfl)),h.Fp d.pb,h.qU nx (bB hi hb (fL rfl)),h.EO nx (bB hs hb (fL rfl)),{_,aE,?_},
  h.IB nx (bB h.ho.1 hb (fL rfl)) d.bh,h.FG nx (bB h.no.1 hb (fL rfl)) d.bn,h.Fj nx d.br.symm,h.nd,h.dd}
 show aB _ ((S.aR++[b]).map kJ) _;rw[zm];exact dm (Is.upd nx iv) (aB.upd nx il)
def cm.RJ (h:cm C H a S o) {r:Rep} {v:V} {vs:List V} (hb:H o.re=some (.lst vs)) (il:aB H (S.aN.map jI) vs) (iv:Is H (jI r) v):cm C (L2.upd H o.re (.lst (vs++[v]))) a (bR S (.rep r)) o:=by
 let d:=Nd.of h.nd;let nx:cZ (H o.re):=by rw[hb];exact λ_ z=>by cases z
 let⟨_,_,ha,_⟩:=h.obj;let⟨_,hi,_⟩:=h.ins;let⟨_,hs,_⟩:=h.st;refine{h.DS nx (bB ha hb (fL rfl)),h.Fp d.pr,h.qU nx (bB hi hb (fL rfl)),h.EO nx (bB hs hb (fL rfl)),h.Gn nx d.br,
  h.IB nx (bB h.ho.1 hb (fL rfl)) d.rh,h.FG nx (bB h.no.1 hb (fL rfl)) d.rn,{_,aE,?_},h.nd,h.dd}
 show aB _ ((S.aN++[r]).map jI) _;rw[zm];exact dm (Is.upd nx iv) (aB.upd nx il)
def vS {n:Str} {ks:List Str} {vs:List V} (h:n∉ks):fj ((ks.map kS).zip vs) (kS n)=none:=by
 unfold fj;rw[Option.map_eq_none_iff,xT];intro x hx z;let e:=ye z;let m:=(wz hx).1;let⟨k,hk,ek⟩:=zI.mp m;rw[<-ek] at e;exact h ((wW e)▸hk)
def Qb (h:[o.ins,o.st,o.ho].Nodup):o.ins≠o.st/\o.ins≠o.ho/\o.st≠o.ho:=by
 simp only[yd,zE,zF,yX,not_or] at h;exact{(h.1.1),h.1.2,h.2.1}
def cm.NK (h:cm C H a S o) {n:Str} {t l:Int×Int} {p:vw} {vs:List V} (hb:H o.ins=some (.dK ((S.aq.map λx=>kS x.1).zip vs))) (il:aB H (S.aq.map Qd) vs) (iv:Is H (Qd (n,t,l)) (.ref p))
  (fr:n∉S.aq.map (·.1)):cm C (L2.upd H o.ins (.dK (putK ((S.aq.map λx=>kS x.1).zip vs) (kS n) (.ref p)))) a (bR S (.cg n t l)) o:=by
 let d:=Nd.of h.nd;let⟨d1,d2,d3⟩:=Qb h.dd;let nx:cZ (H o.ins):=by rw[hb];exact λ_ z=>by cases z
 let⟨_,_,ha,_⟩:=h.obj;let⟨_,hba,_⟩:=h.ba;let⟨_,hre,_⟩:=h.re;let vl:=aZ il;let em:(S.aq.map λx=>kS x.1)=(S.aq.map (·.1)).map kS:=by rw[zC];rfl
 let hns:o.ins∉o.ns:=λz=>by
  let⟨_,q⟩:=cI h.no.2 z;rw[hb] at q;cases q
 let hhs:o.ins∉o.hs:=λz=>by
  let⟨_,q⟩:=cI h.ho.2 z;rw[hb] at q;cases q
 refine{h.DS nx (bB ha hb (fL rfl)),h.Fp (bB h.pl hb (fL rfl)),{vs++[.ref p],?_,?_},h.EO nx d1.symm,h.Gn nx (bB hba hb (fL rfl)),
  h.IB nx d2.symm hhs,h.FG nx (bB h.no.1 hb (fL rfl)) hns,h.Fj nx (bB hre hb (fL rfl)),h.nd,h.dd}
 ·rw[aE,qD (by rw[zd];exact vl.symm) (by rw[em];exact vS fr)]
  show _=some (HO.dK (((S.aq++[(n,t,l)]).map λx=>kS x.1).zip (vs++[.ref p])));rw[zm];rfl
 ·show aB _ ((S.aq++[(n,t,l)]).map Qd) _
  rw[zm];exact dm (Is.upd nx iv) (aB.upd nx il)
def cm.NI (h:cm C H a S o) {n:Str} {ps:List Str} {v:V} {vs:List V} (hb:H o.st=some (.dK ((S.aP.map λx=>kS x.1).zip vs))) (il:aB H (S.aP.map RH) vs) (iv:Is H (RH (n,ps)) v)
  (fr:n∉S.aP.map (·.1)):cm C (L2.upd H o.st (.dK (putK ((S.aP.map λx=>kS x.1).zip vs) (kS n) v))) a (bR S (.bE n ps)) o:=by
 let d:=Nd.of h.nd;let⟨d1,d2,d3⟩:=Qb h.dd;let nx:cZ (H o.st):=by rw[hb];exact λ_ z=>by cases z
 let⟨_,_,ha,_⟩:=h.obj;let⟨_,hba,_⟩:=h.ba;let⟨_,hre,_⟩:=h.re;let vl:=aZ il;let em:(S.aP.map λx=>kS x.1)=(S.aP.map (·.1)).map kS:=by rw[zC];rfl
 let hns:o.st∉o.ns:=λz=>by
  let⟨_,q⟩:=cI h.no.2 z;rw[hb] at q;cases q
 let hhs:o.st∉o.hs:=λz=>by
  let⟨_,q⟩:=cI h.ho.2 z;rw[hb] at q;cases q
 refine{h.DS nx (bB ha hb (fL rfl)),h.Fp (bB h.pl hb (fL rfl)),h.qU nx d1,{vs++[v],?_,?_},h.Gn nx (bB hba hb (fL rfl)),
  h.IB nx d3.symm hhs,h.FG nx (bB h.no.1 hb (fL rfl)) hns,h.Fj nx (bB hre hb (fL rfl)),h.nd,h.dd}
 ·rw[aE,qD (by rw[zd];exact vl.symm) (by rw[em];exact vS fr)]
  show _=some (HO.dK (((S.aP++[(n,ps)]).map λx=>kS x.1).zip (vs++[v])));rw[zm];rfl
 ·show aB _ ((S.aP++[(n,ps)]).map RH) _
  rw[zm];exact dm (Is.upd nx iv) (aB.upd nx il)
def Mx {n:Int×Str} {ks:List (Int×Str)} {vs:List V} (h:n∉ks):fj ((ks.map kN).zip vs) (kN n)=none:=by
 unfold fj;rw[Option.map_eq_none_iff,xT];intro x hx z;let e:=ye z;let m:=(wz hx).1;let⟨k,hk,ek⟩:=zI.mp m;rw[<-ek] at e;unfold kN at e;simp at e;have:k=n:=Prod.ext e.1 e.2;exact h (this▸hk)
def cm.NJ (h:cm C H a S o) {b:Int} {pn:Str} {its:List Item} {q:vw} {us:List V} (hq:H q=some (.lst us)) (iq:aB H (its.map eQ) us) (nq:q∉o.lists) (fr:(b,pn)∉S.aJ.map (·.1)) :
  cm C (L2.upd H o.no (.dT (putK ((S.aJ.map λx=>kN x.1).zip (o.ns.map V.ref)) (kN (b,pn)) (.ref q)))) a (bR S (.aJ b pn its)) {o with ns:=o.ns++[q]}:=by
 let d:=Nd.of h.nd;let hb:=h.no.1;let nx:cZ (H o.no):=by rw[hb];exact λ_ z=>by cases z
 let⟨ub,jm,ha,hub,hjm⟩:=h.obj;let⟨_,hi,_⟩:=h.ins;let⟨_,hs,_⟩:=h.st;let⟨_,hba,_⟩:=h.ba;let⟨_,hre,_⟩:=h.re;let em:(S.aJ.map λx=>kN x.1)=(S.aJ.map (·.1)).map kN:=by rw[zC];rfl
 let hns:o.no∉o.ns:=λz=>by
  let⟨_,q⟩:=cI h.no.2 z;rw[hb] at q;cases q
 let hhs:o.no∉o.hs:=λz=>by
  let⟨_,q⟩:=cI h.ho.2 z;rw[hb] at q;cases q
 let ll:⇑(o.ns.map V.ref)=⇑S.aJ:=by
  have:∀{ls:List (List Item)} {as:List vw},cx H eQ ls as->⇑as=⇑ls:=by
   intro ls
   induction ls with
   | nil=>intro as z;unfold cx at z;rw[z];rfl
   | cons l r ih=>rintro _ ⟨a,t,vs,rfl,_,_,h3⟩;rw[zw,zw,ih h3]
  rw[zd,this h.no.2,zd]
 let nn:q∉[o.pl,o.ba,o.re]/\q∉o.hs/\q∉o.ns:=by
  unfold Ow.lists at nq;rw[zH,zH] at nq;exact{λz=>nq (.inl (.inl z)),λz=>nq (.inl (.inr z)),λz=>nq (.inr z)}
 let⟨n1,n2,n3⟩:=nn;simp only[zE,zF,yX,not_or] at n1;refine{{ub,jm,by rw[aC (bB ha hb (fL rfl))];exact ha,Is.upd nx hub,Is.upd nx hjm},h.Fp (bB h.pl hb (fL rfl)),h.qU nx (bB hi hb (fL rfl)),h.EO nx (bB hs hb (fL rfl)),h.Gn nx (bB hba hb (fL rfl)),
  h.IB nx (bB h.ho.1 hb (fL rfl)) hhs,{?_,?_},h.Fj nx (bB hre hb (fL rfl)),?_,h.dd}
 ·show L2.upd H o.no _ o.no=some (HO.dT (((S.aJ++[((b,pn),its)]).map λx=>kN x.1).zip ((o.ns++[q]).map V.ref)))
  rw[aE,qD (by rw[zd];exact ll.symm) (by rw[em];exact Mx fr),zm,zm];rfl
 ·show cx _ eQ ((S.aJ++[((b,pn),its)]).map (·.2)) (o.ns++[q])
  rw[zm];exact cx.snoc (by rw[aC (bB hq hb (fL rfl))];exact hq) (aB.upd nx iq) (cx.upd nx hns h.no.2)
 ·refine Nd.to {d.pb,d.pr,d.ph,?_,d.br,d.bh,?_,d.rh,?_,d.hh,?_,?_}
  ·show o.pl∉o.ns++[q]
   rw[zH,zB];rintro(z | z)
   ·exact d.pn z
   ·exact n1.1 z.symm
  ·show o.ba∉o.ns++[q]
   rw[zH,zB];rintro(z | z)
   ·exact d.bn z
   ·exact n1.2.1 z.symm
  ·show o.re∉o.ns++[q]
   rw[zH,zB];rintro(z | z)
   ·exact d.rn z
   ·exact n1.2.2 z.symm
  ·show(o.ns++[q]).Nodup
   rw[zU];exact{d.nn,by simp,λx hx y hy e=>by rw[zB] at hy;subst hy;subst e;exact n3 hx}
  ·intro x hx z
   let z':x∈o.ns++[q]:=z;rw[zH,zB] at z';rcases z' with z' | z'
   ·exact d.hn x hx z'
   ·subst z';exact n2 hx
def cm.Lc (h:cm C H a S o) {l:Int×Int} {v ub jm:V} (ha:H a=some (.ins C o.dx (QZ o ub jm))) (ij:Is H (dO gq S.bP) jm) (iv:Is H (dL l) v):cm C (L2.upd H a (.ins C o.dx (QZ o v jm))) a (bR S (.aH l)) o:=by
 let nx:cZ (H a):=by rw[ha];exact λ_ z=>by cases z
 let⟨_,hi,_⟩:=h.ins;let⟨_,hs,_⟩:=h.st;let⟨_,hba,_⟩:=h.ba;let⟨_,hre,_⟩:=h.re;let hns:a∉o.ns:=λz=>by
  let⟨_,q⟩:=cI h.no.2 z;rw[ha] at q;cases q
 let hhs:a∉o.hs:=λz=>by
  let⟨_,q⟩:=cI h.ho.2 z;rw[ha] at q;cases q
 exact{{v,jm,aE,Is.upd nx iv,Is.upd nx ij},h.Fp (bB h.pl ha (fL rfl)),h.qU nx (bB hi ha (fL rfl)),h.EO nx (bB hs ha (fL rfl)),h.Gn nx (bB hba ha (fL rfl)),
  h.IB nx (bB h.ho.1 ha (fL rfl)) hhs,h.FG nx (bB h.no.1 ha (fL rfl)) hns,h.Fj nx (bB hre ha (fL rfl)),h.nd,h.dd}
def cm.Qn (h:cm C H a S o) {j:Jump} {v ub jm:V} (ha:H a=some (.ins C o.dx (QZ o ub jm))) (iu:Is H (dO dL S.aH) ub) (iv:Is H (gq j) v):cm C (L2.upd H a (.ins C o.dx (QZ o ub v))) a (bR S (.bP j)) o:=by
 let nx:cZ (H a):=by rw[ha];exact λ_ z=>by cases z
 let⟨_,hi,_⟩:=h.ins;let⟨_,hs,_⟩:=h.st;let⟨_,hba,_⟩:=h.ba;let⟨_,hre,_⟩:=h.re;let hns:a∉o.ns:=λz=>by
  let⟨_,q⟩:=cI h.no.2 z;rw[ha] at q;cases q
 let hhs:a∉o.hs:=λz=>by
  let⟨_,q⟩:=cI h.ho.2 z;rw[ha] at q;cases q
 exact{{ub,v,aE,Is.upd nx iu,Is.upd nx iv},h.Fp (bB h.pl ha (fL rfl)),h.qU nx (bB hi ha (fL rfl)),h.EO nx (bB hs ha (fL rfl)),h.Gn nx (bB hba ha (fL rfl)),
  h.IB nx (bB h.ho.1 ha (fL rfl)) hhs,h.FG nx (bB h.no.1 ha (fL rfl)) hns,h.Fj nx (bB hre ha (fL rfl)),h.nd,h.dd}
def cm.Pf (h:cm C H a S o) {pn:Str} {q:vw} (hq:H q=some (.lst [])) (nq:q∉o.lists) (fr:pn∉S.holds.map (·.1)) :
  cm C (L2.upd H o.ho (.dK (putK ((S.holds.map λx=>kS x.1).zip (o.hs.map V.ref)) (kS pn) (.ref q)))) a {S with holds:=S.holds++[(pn,[])]} {o with hs:=o.hs++[q]}:=by
 let d:=Nd.of h.nd;let⟨d1,d2,d3⟩:=Qb h.dd;let hb:=h.ho.1;let nx:cZ (H o.ho):=by rw[hb];exact λ_ z=>by cases z
 let⟨ub,jm,ha,hub,hjm⟩:=h.obj;let⟨_,hba,_⟩:=h.ba;let⟨_,hre,_⟩:=h.re;let em:(S.holds.map λx=>kS x.1)=(S.holds.map (·.1)).map kS:=by rw[zC];rfl
 let hns:o.ho∉o.ns:=λz=>by
  let⟨_,q⟩:=cI h.no.2 z;rw[hb] at q;cases q
 let hhs:o.ho∉o.hs:=λz=>by
  let⟨_,q⟩:=cI h.ho.2 z;rw[hb] at q;cases q
 let ll:⇑(o.hs.map V.ref)=⇑S.holds:=by
  have:∀{ls:List (List (Int×Str))} {as:List vw},cx H K2 ls as->⇑as=⇑ls:=by
   intro ls
   induction ls with
   | nil=>intro as z;unfold cx at z;rw[z];rfl
   | cons l r ih=>rintro _ ⟨a,t,vs,rfl,_,_,h3⟩;rw[zw,zw,ih h3]
  rw[zd,this h.ho.2,zd]
 let nn:q∉[o.pl,o.ba,o.re]/\q∉o.hs/\q∉o.ns:=by
  unfold Ow.lists at nq;rw[zH,zH] at nq;exact{λz=>nq (.inl (.inl z)),λz=>nq (.inl (.inr z)),λz=>nq (.inr z)}
 let⟨n1,n2,n3⟩:=nn;simp only[zE,zF,yX,not_or] at n1;refine{{ub,jm,by rw[aC (bB ha hb (fL rfl))];exact ha,Is.upd nx hub,Is.upd nx hjm},h.Fp (bB h.pl hb (fL rfl)),h.qU nx d2,h.EO nx d3,h.Gn nx (bB hba hb (fL rfl)),
  {?_,?_},h.FG nx (bB h.no.1 hb (fL rfl)) hns,h.Fj nx (bB hre hb (fL rfl)),?_,h.dd}
 ·show L2.upd H o.ho _ o.ho=some (HO.dK (((S.holds++[((pn,[]):Str×List (Int×Str))]).map λx:Str×List (Int×Str)=>kS x.1).zip ((o.hs++[q]).map V.ref)))
  rw[aE,qD (by rw[zd];exact ll.symm) (by rw[em];exact vS fr),zm,zm];rfl
 ·show cx _ K2 ((S.holds++[((pn,[]):Str×List (Int×Str))]).map λx:Str×List (Int×Str)=>x.2) (o.hs++[q])
  rw[zm];exact cx.snoc (vs:=[]) (by rw[aC (bB hq hb (fL rfl))];exact hq) (by show aB _ [] [];unfold aB;rfl) (cx.upd nx hhs h.ho.2)
 ·refine Nd.to {d.pb,d.pr,?_,d.pn,d.br,?_,d.bn,?_,d.rn,?_,d.nn,?_}
  ·show o.pl∉o.hs++[q]
   rw[zH,zB];rintro(z | z)
   ·exact d.ph z
   ·exact n1.1 z.symm
  ·show o.ba∉o.hs++[q]
   rw[zH,zB];rintro(z | z)
   ·exact d.bh z
   ·exact n1.2.1 z.symm
  ·show o.re∉o.hs++[q]
   rw[zH,zB];rintro(z | z)
   ·exact d.rh z
   ·exact n1.2.2 z.symm
  ·show(o.hs++[q]).Nodup
   rw[zU];exact{d.hh,by simp,λx hx y hy e=>by rw[zB] at hy;subst hy;subst e;exact n2 hx}
  ·intro x hx z
   let hx':x∈o.hs++[q]:=hx;rw[zH,zB] at hx';rcases hx' with hx' | hx'
   ·exact d.hn x hx' z
   ·subst hx';exact n3 z
def cm.oj (h:cm C H a S o) {pn:Str} (nk:(S.holds.map (·.1)).Nodup) (hm:pn∈S.holds.map (·.1)) :
  ∃x vs,fj ((S.holds.map λx=>kS x.1).zip (o.hs.map V.ref)) (kS pn)=some (.ref x)/\x∈o.hs/\H x=some (.lst vs)/\∀y b i,Is H (K2 (b,i)) y->cm C (L2.upd H x (.lst (vs++[y]))) a (bR S (.holds pn b i)) o:=by
 let d:=Nd.of h.nd;let⟨x,vs,e1,e2,e3,e4⟩:=Ea pn h.ho.2 d.hh nk hm;refine{x,vs,e1,e2,e3,λy b i iy=>?_};let nx:cZ (H x):=by rw[e3];exact λ_ z=>by cases z
 let⟨ub,jm,ha,hub,hjm⟩:=h.obj;let⟨_,hi,_⟩:=h.ins;let⟨_,hs,_⟩:=h.st;let ea:bR S (.holds pn b i)={S with holds:=S.holds.map λq:Str×List (Int×Str)=>if q.1=pn then(q.1,q.2++[(b,i)]) else q}:=by
  show({S with holds:=e9 S.holds pn (b,i)}:bO)=_;unfold e9;rw[yR hm]
 rw[ea];refine{h.DS nx (bB ha e3 (fL rfl)),h.Fp (λz=>d.ph (by rw[z];exact e2)),h.qU nx (bB hi e3 (fL rfl)),h.EO nx (bB hs e3 (fL rfl)),h.Gn nx (λz=>d.bh (by rw[z];exact e2)),
  {?_,e4 y (b,i) (Is.upd nx iy)},h.FG nx (bB h.no.1 e3 (fL rfl)) (d.hn x e2),h.Fj nx (λz=>d.rh (by rw[z];exact e2)),h.nd,h.dd}
 rw[aC (bB h.ho.1 e3 (fL rfl)),h.ho.1];show _=some (HO.dK (((S.holds.map λq:Str×List (Int×Str)=>if q.1=pn then(q.1,q.2++[(b,i)]) else q).map λx:Str×List (Int×Str)=>kS x.1).zip _));rw[zC];have:(S.holds.map λx:Str×List (Int×Str)=>kS x.1)=S.holds.map ((λx:Str×List (Int×Str)=>kS x.1)∘λq:Str×List (Int×Str)=>if q.1=pn then(q.1,q.2++[(b,i)]) else q):=by
  refine xy λq _=>?_;show kS q.1=kS (if q.1=pn then((q.1,q.2++[(b,i)]):Str×List (Int×Str)) else q).1;split <;> rfl
 rw[this]
end
end Sc
namespace L2
open PySem PySem.Spec PyProof.Rows
noncomputable def noStar:Expr->Bool
 | .Starred ..=>false
 | _=>true
def nS (h:noStar e=true):starEach (e::es) env=(false,eval e env)::starEach es env:=by
 cases e <;> first | rfl | cases h
def aa (ha:PE X e te) (hr:PA X es t) (hs:noStar e=true<|>qe_):PA X (e::es) (aY te t):=ah ha hr (nS hs)
end L2
namespace Sc
open PySem L2 Lm
def jB (F:Nat->Dt) (Pσ:St->Prop) (hn:n<=sizeLine) (h0:Pσ σ₀)
  (turn:∀(i:Nat) (σ:St) (H:Hp) (R:St->V->Hp->Prop),i<n->aG H1 H->Pσ σ->(∀σ3 y H5,aG H H5->Is H5 (F i) y->Pσ σ3->R σ3 y H5)->g (.int (lo+i)) σ H λσ3 H3=>te σ3 H3 λy H5=>R σ3 y H5)
  (fin:∀D vs H,aG H1 H->H1 D=none->H D=some (.lst vs)->aB H ((List.range n).map F) vs->Q (.ref D) H):dQ σ₀ g ug te Q (Qr lo n) H1:=by
 refine nM (ws:=List.range n) (enc:=λi=>.int (lo+(i:Nat))) F Pσ (by rw[zT];exact hn) h0 (λi H hi _=>by rw[zT] at hi;exact hi) (λH _=>by rw[zT];exact zp _) ?_ ?_ fin
 ·rintro i x H H2 hi _ ⟨rfl,rfl⟩
  exact{rfl,by rw[List.getElem_range]}
 ·intro i σ H R hi s p r
  exact turn i σ H R (yU.mp hi) s p r
def eC {c:Bool} {T:(Bool->Hp->Prop)->Prop} {Z:Bool->Hp->Prop} {H:Hp} (v:Bool) (h1:c=true->∀Z,Z v H->T Z) (h2:c=false->v=false) (hz:Z v H):if c=true then T Z else Z false H:=by
 cases c with
 | true=>rw[yR rfl];exact h1 rfl Z hz
 | false=>rw[yQ (by simp)];rw[<-h2 rfl];exact hz
def G0:List (Int×Int)->TA
 | []=>cE
 | p::r=>aY (EH (aY (tC (.int p.1)) (aY (tC (.int p.2)) cE))) (G0 r)
theorem OY:∀{ps:List (Int×Int)} {H:Hp} {R:List V->Hp->Prop},(∀vs H',aG H H'->aB H' (ps.map dL) vs->R vs H')->G0 ps σ H R
 | [],H,R,h=>h [] H (aF _) dn
 | p::r,H,R,h=>by
  let sl:=yF;refine{by show 2<=sizeLine;ext,λq hq=>?_};refine OY λvs H' s' il=>?_;let s1:=bF (o:=HO.tup [.int p.1,.int p.2]) hq;exact h _ _ (s1.trans s') (bc (iO (s' _ _ aE)) il)
def VD (ps:List (Int×Int)):TE:=λ_ H Q=>∀D vs H',aG H H'->H' D=some (.lst vs)->aB H' (ps.map dL) vs->Q (.ref D) H'
def Rn (hl:⇑ps<=1000) (h:VD ps σ H Q):oJ (G0 ps) σ H Q:=by
 let sl:=yF;refine OY λvs H' s' il=>{by have:=aZ il;ext,λD hD=>?_}
 exact h D vs _ (s'.trans (bF hD)) aE (il.mono (bF hD))
def Th:PA X [] (G0 []):=ae
def UZ (h:PA X es (G0 r)):PA X (.Tuple [.Constant (.int a) x1 p1,.Constant (.int b) x2 p2] k pos::es) (G0 ((a,b)::r)):=
 ah (bT (ah af (ah af ae (nS rfl)) (nS rfl))) h (nS rfl)
def Tf (h:PA X es (G0 ps)) (hl:⇑ps<=1000<|>qb_):PE X (.List es pos) (VD ps):=by
 intro pins s σ H Q I hq;exact aU h s σ H Q I (Rn hl hq)
def lI (h:xs[⇑xs-1]?=some x):tm xs (-1)=some x:=by
 let hp:0<⇑xs:=by
  have:=(zA.mp h).1;ext
 let ne:xs≠[]:=yv.mp hp;let e:=xW ne;let e2:xs.getLast ne=x:=by
  have:=(zA.mp h).2;rw[List.getLast_eq_getElem];exact this
 rw[<-e,e2];exact L2.BV _ _
theorem Iy:∀l:List Str,aB H (l.map Dt.str) (l.map V.str)
 | []=>dn
 | x::r=>bc fg (Iy r)
def vH (h:Is H (kJ b) v):∃a m q,v=.ref a/\H a=some (.tup [m,.int b.key,.ref q])/\Is H (dL b.bg) m/\H q=some (.tup (b.marks.map V.str)):=by
 unfold kJ Is at h;let⟨a,vs,rfl,ha,hl⟩:=h;unfold aB at hl;let⟨v1,r1,rfl,h1,hl⟩:=hl;unfold aB at hl;let⟨v2,r2,rfl,h2,hl⟩:=hl;unfold aB at hl;let⟨v3,r3,rfl,h3,hl⟩:=hl;unfold aB at hl;subst hl;unfold Is at h2;subst h2;unfold nJ Is at h3;let⟨q,us,rfl,hq,hle⟩:=h3;rw[dY hle] at hq;exact{(a),v1,q,rfl,ha,h1,hq}
noncomputable def lets:Str:="abcdefghijklmnopqrstuvwxyz"
def Pu:∀j:Fin 26,lets.cps.toList[j.val]?=some (97+j.val):=by decide
def LQ (h0:0<=i) (h:i<26):tm lets.cps.toList i=some (97+i.toNat):=by
 let⟨j,rfl⟩:=yO h0;exact bz (Pu {(j),()})
def QV:∀j:Fin 36,(lets ++"0123456789").cps.toList[j.val]?=some (sgn.getD j.val 0)/\sgn.getD j.val 0∈sgn:=by decide
def SW (h0:0<=i) (h:i<36):∃c,c∈sgn/\tm (lets ++"0123456789").cps.toList i=some c:=by
 let⟨j,rfl⟩:=yO h0;have:=QV {(j),()};exact{_,this.2,bz this.1}
noncomputable def QW (i:Int):Nat:=(tm (lets ++"0123456789").cps.toList i).getD 0
def OB (h0:0<=i) (h:i<36):tm (lets ++"0123456789").cps.toList i=some (QW i)/\QW i∈sgn:=by
 let⟨c,h1,h2⟩:=SW h0 h;unfold QW;rw[h2];exact{(rfl),h1}
def LR:∀j:Fin 26,97+j.val∈sgn:=by decide
def Pw {i:Int} (h0:0<=i) (h:i<26):97+i.toNat∈sgn:=LR {(i.toNat),()}
def LO (h1:1<=⇑n) (h2:⇑n<=12) (h3:∀c∈n.cps.toList,c∈sgn):dW n:=by
 unfold dW cu;rw[yQ (),yQ (),yR (yt.mpr λc hc=>zh (h3 c hc))]
def JC (ns:List Str):Prop:=(∀n∈ns,dW n)/\ns.Nodup
theorem ou:∀{l:List α},l.Nodup->(∀x∈l,∀y∈l,f x=f y->x=y)->(l.map f).Nodup
 | [],_,_=>x8
 | x::r,h,k=>by
  rw[yd] at h;rw[zk,yd];refine{λz=>?_,ou h.2 λa ha b hb e=>k a (zr _ ha) b (zr _ hb) e};let⟨y,hy,e⟩:=zI.mp z;have:=k y (zr _ hy) x zt e;subst this;exact h.1 hy
def M3 (hm:m<=12) (hc:c∈sgn):JC ((List.range m).map λk=>fm {#[c]} (m-k)):=by
 let el:∀k,⇑(fm {#[c]} k)=k:=λk=>by rw[qx];exact Nat.mul_one k
 refine{λn hn=>?_,ou List.nodup_range λx hx y hy e=>?_}
 ·let⟨k,hk,rfl⟩:=zI.mp hn
  have:=yU.mp hk;refine LO (by rw[el];ext) (by rw[el];ext) λd hd=>?_;rw[fU] at hd;let⟨l,hl,hd⟩:=wm.mp hd;rw[List.mem_replicate] at hl;rw[hl.2] at hd;have:d=c:=by simpa using hd
  rw[this];exact hc
 ·have:=y6 Str.length e
  rw[el,el] at this;have:=yU.mp hx;have:=yU.mp hy;ext
def Ko {stem:Str} {pl first m:Nat} (hs:⇑stem<=11) (hp:pl<=⇑stem) (hc:∀c∈stem.cps.toList,c∈sgn) (hm:m<=26) :
  JC ((List.range m).map λk=>Txt.slice stem none (some (pl:Int))++{#[97+(first+5*k)%26]}++Txt.slice stem (some (pl:Int)) none):=by
 let sl:⇑stem.cps.toList=⇑stem:=yT;let cp:∀k,(Txt.slice stem none (some (pl:Int))++{#[97+(first+5*k)%26]}++Txt.slice stem (some (pl:Int)) none).cps.toList=stem.cps.toList.take pl++[97+(first+5*k)%26]++stem.cps.toList.drop pl:=λk=>by
  rw[bD,bD,Hk stem hp,pB stem hp]
 refine{λn hn=>?_,ou List.nodup_range λx hx y hy e=>?_}
 ·let⟨k,hk,rfl⟩:=zI.mp hn
  let el:⇑(Txt.slice stem none (some (pl:Int))++{#[97+(first+5*k)%26]}++Txt.slice stem (some (pl:Int)) none)=⇑stem+1:=by
   rw[<-show _=⇑(Txt.slice stem none (some (pl:Int))++{#[97+(first+5*k)%26]}++Txt.slice stem (some (pl:Int)) none) from yT,cp,zj,zj,zR,xC,List.length_singleton];ext
  refine LO () () λd hd=>?_;rw[cp,zH,zH,zB] at hd;rcases hd with(hd | hd) | hd
  ·exact hc d (List.mem_of_mem_take hd)
  ·rw[hd];exact LR {(first+5*k)%26,vc _ ∅}
  ·exact hc d (List.mem_of_mem_drop hd)
 ·let q:(Txt.slice stem none (some (pl:Int))++{#[97+(first+5*x)%26]}++Txt.slice stem (some (pl:Int)) none).cps.toList=(Txt.slice stem none (some (pl:Int))++{#[97+(first+5*y)%26]}++Txt.slice stem (some (pl:Int)) none).cps.toList:=by rw[e]
  rw[cp,cp,zG,zG] at q;let q2:=List.append_cancel_left q;simp at q2;have:=yU.mp hx;have:=yU.mp hy;ext
theorem qR:∀zs:List Str,(Str.join "" zs).cps.toList=(zs.map λz:Str=>z.cps.toList).flatten
 | []=>rfl
 | [z]=>by rw[join_one];simp
 | z::y::r=>by
  rw[bu,bD,bD,qR (y::r)];show z.cps.toList++[]++_=_;rw[zW];rfl
noncomputable def mQ (c:Int) (n:Nat):List Str:=(List.range n).map λk=>{#[QW ((c/16224+7*(0+(k:Nat)))%36)]}
theorem IF (f:α->β):∀l:List α,((l.map f).map λx=>[x]).flatten=l.map f
 | []=>rfl
 | x::r=>by rw[zk,zk,ya,IF f r];rfl
def G3 (c:Int) (n:Nat):(Str.join "" (mQ c n)).cps.toList=(List.range n).map λk:Nat=>QW ((c/16224+7*(0+(k:Nat)))%36):=by
 rw[qR];unfold mQ;rw[zC];have:=IF (λk:Nat=>QW ((c/16224+7*(0+(k:Nat)))%36)) (List.range n);rw[zC] at this;exact this
def Ox (c:Int) (n:Nat):(Str.join "" (mQ c n)).length=n:=by
 rw[<-show _=(Str.join "" (mQ c n)).length from yT,G3,zd,zT]
def Ov:∀d∈(Str.join "" (mQ c n)).cps.toList,d∈sgn:=λd hd=>by
 rw[G3] at hd;let⟨k,_,rfl⟩:=zI.mp hd;exact(OB (zy _ ∅) (zv _ ∅)).2
def Ou (c:Int) (n:Nat):((mQ c n).map (λz:Str=>⇑z+("": Str).length)).sum=n:=by
 unfold mQ;rw[zC];have:((λz:Str=>⇑z+("": Str).length)∘λk:Nat=>({#[QW ((c/16224+7*(0+(k:Nat)))%36)]}:Str))=λ_=>1:=rfl;rw[this,List.map_const',List.sum_replicate_nat,zT,Nat.mul_one]
end Sc
namespace Sc
open PySem L2 Lm
def cY (n:H D=none) (s:aG H H2):aG H (L2.upd H2 D u):=λb v hb=>by
 rw[aC (λz=>by rw[z,n] at hb;cases hb)];exact s b v hb
def GH (its:List Item) (x:Int×Int):Prop:=⇑its<=40/\(∀it∈its,Lq it)/\j8 its=x/\its.all (λit=>it.1.isNone)=false
def NQ (x:Int×Int):Prop:=Lm.Rd x/\0<x.1/\x.1<=32/\x.2<=160
def JS (l:List Item) (it:Item):j8 (l++[it])=add (j8 l) it.2:=by unfold j8;rw[zZ];rfl
def Om {x:Int×Int} (hx:0<x.2) {W:Int} (hW:0<W) {l:List Item} {t w:Int} {it:Item} (h:j8 l=red (x.1*t) (x.2*W)) (e:it.2=red (x.1*w) (x.2*W)):j8 (l++[it])=red (x.1*(t+w)) (x.2*W):=by
 let hb:0<x.2*W:=xA hx hW;rw[JS,h,e,RK hb hb,<-qy hb hb (t:=x.1*(t+w))]
 congr 1
 rw[<-Int.add_mul,<-Int.mul_add,xD]
def Oo {x:Int×Int} (hx:0<x.2) {W:Int} (hW:0<W):j8 []=red (x.1*0) (x.2*W):=by
 let hb:0<x.2*W:=xA hx hW;show((0,1):Int×Int)=_;rw[Int.mul_zero];have:=qy (t:=0) (b:=1) (k:=x.2*W) hb ∅;rw[Int.mul_zero,Int.mul_one] at this;rw[this];decide
def MH (hx:Lm.Rd x) (hW:0<W):red (x.1*W) (x.2*W)=x:=by
 let⟨_,p2,p3⟩:=hx.pos;rw[xD x.1,xD x.2,qy hW p2,p3]
def Pq (h:NQ x) (w1:1<=w) (w2:w<=4) (W1:1<=W) (W2:W<=24):Ey (red (x.1*w) (x.2*W)):=by
 let⟨hr,h1,h2,h3⟩:=h;let⟨_,p2,_⟩:=hr.pos;let a1:0<x.1*w:=xA h1 ();let a2:x.1*w<=32*4:=wc h2 w2 () ∅;let b1:0<x.2*W:=xA p2 ();let b2:x.2*W<=160*24:=wc h3 W2 () ∅;let⟨g,g1,g2,g3,g4,g5⟩:=mY (t:=x.1*w) b1;let r1:=Fi (t:=x.1*w) (b:=x.2*W) (y8 a1);refine{Lm.Rd.of (y8 a1) b1,?_,(),()};let r0:=AJ (t:=x.1*w) (b:=x.2*W) (y8 a1);rcases Int.lt_or_eq_of_le r0 with z | z
 ·exact z
 ·rw[<-z,Int.mul_zero] at g2;ext
noncomputable def rK (m:Int) (n:Nat):List Int:=(List.range n).map λj=>1+m/(7+5*(0+(j:Nat)))%4
def QH (m:Int) (n:Nat):⇑(rK m n)=n:=by unfold rK;rw[zd,zT]
def JK (h:w∈rK m n):1<=w/\w<=4:=by
 unfold rK at h;let⟨j,_,rfl⟩:=zI.mp h;let a:=zy (m/(7+5*(0+(j:Int)))) (b:=4) ∅;let b:=zv (m/(7+5*(0+(j:Int)))) (b:=4) ∅;ext
theorem Oq:∀{l:List Int},(∀w∈l,1<=w/\w<=4)->(⇑l:Int)<=l.sum/\l.sum<=4*⇑l
 | [],_=>by simp
 | w::r,h=>by
  let ih:=Oq (l:=r) λz hz=>h z (zr _ hz);have:=h w zt;rw[wU,zw];ext
def MX (m:Int):Qz (m%41-20,7*(m%41-20)%12+(m/41%14-7)*12):=by
 let a:=zy m (b:=41) ∅;let b:=zv m (b:=41) ∅;let c:=zy (m/41) (b:=14) ∅;let d:=zv (m/41) (b:=14) ∅;unfold Qz;dsimp only;ext
def join {c:Bool} {t1 t2:TS} {D:Ends} {σ:St} {H:Hp} (P:St->Hp->Prop) (ha:∀N:St->Hp->Prop,(∀σ H,P σ H->N σ H)->c=true->t1 {D with nx:=N} σ H)
  (hb:∀N:St->Hp->Prop,(∀σ H,P σ H->N σ H)->c=false->t2 {D with nx:=N} σ H) (hN:∀σ H,P σ H->D.nx σ H):if c=true then t1 D σ H else t2 D σ H:=by
 cases c with
 | true=>rw[yR rfl];exact ha D.nx hN rfl
 | false=>rw[yQ (by simp)];exact hb D.nx hN rfl
def RL (R:α->V->Prop):List α->List V->Prop
 | [],vs=>vs=[]
 | x::xs,vs=>∃v r,vs=v::r/\R x v/\RL R xs r
theorem RL.imp {α:Type} {R R':α->V->Prop} (h:∀x v,R x v->R' x v):∀{xs:List α} {vs:List V},RL R xs vs->RL R' xs vs
 | [],_,e=>e
 | _::_,_,⟨v,r,e,h1,h2⟩=>{v,r,e,h _ _ h1,RL.imp h h2}
theorem RL.snoc {α:Type} {R:α->V->Prop} {x:α} {v:V} (h:R x v):∀{xs:List α} {vs:List V},RL R xs vs->RL R (xs++[x]) (vs++[v])
 | [],_,e=>by unfold RL at e;subst e;exact{v,[],rfl,h,rfl}
 | _::_,_,⟨u,r,e,h1,h2⟩=>by subst e;exact{u,r++[v],rfl,h1,RL.snoc h h2}
theorem RL.len:∀{xs:List α} {vs:List V},RL R xs vs->⇑vs=⇑xs
 | [],_,e=>by unfold RL at e;rw[e];rfl
 | _::_,_,⟨u,r,e,_,h2⟩=>by rw[e,zw,zw,RL.len h2]
theorem RL.at:∀{xs:List α} {vs:List V} {i:Nat} {v:V},RL R xs vs->vs[i]?=some v->∃x,xs[i]?=some x/\R x v
 | [],_,_,_,e,h=>by unfold RL at e;subst e;simp at h
 | x::_,_,0,_,⟨u,r,e,h1,_⟩,h=>by subst e;simp at h;subst h;exact{(x),rfl,h1}
 | _::_,_,i+1,_,⟨u,r,e,_,h2⟩,h=>by subst e;simpa using RL.at (i:=i) h2 (by simpa using h)
inductive iB (D:vw) (H:Hp) (x:Str×List (Int×Str)) (v:V):Prop
 | mk (a r:vw) (us:List V) (_:v=.ref a) (_:H a=some (.tup [.str x.1,.ref r])) (_:H r=some (.lst us)) (_:aB H (x.2.map K2) us) (_:r≠D)
theorem iB.mono (s:aG H H') (h:iB D H x v):iB D H' x v:=by
 let⟨a,r,us,h1,h2,h3,h4,h5⟩:=h;exact{a,r,us,h1,s _ _ h2,s _ _ h3,h4.mono s,h5}
theorem iB.upd (hD:H D=some (.lst vs)) (h:iB D H x v):iB D (L2.upd H D o) x v:=by
 let⟨a,r,us,h1,h2,h3,h4,h5⟩:=h;let nt:cZ (H D):=by rw[hD];exact λ_ z=>by cases z
 exact{a,r,us,h1,by rw[aC (Sc.bB h2 hD (fL rfl))];exact h2,by rw[aC h5];exact h3,aB.upd nt h4,h5}
inductive gD (D:vw) (H:Hp) (x:(Int×Str)×List Item) (v:V):Prop
 | mk (a q:vw) (us:List V) (_:v=.ref a) (_:H a=some (.tup [.int x.1.1,.str x.1.2,.ref q])) (_:H q=some (.lst us)) (_:aB H (x.2.map eQ) us) (_:q≠D)
theorem gD.mono (s:aG H H') (h:gD D H x v):gD D H' x v:=by
 let⟨a,r,us,h1,h2,h3,h4,h5⟩:=h;exact{a,r,us,h1,s _ _ h2,s _ _ h3,h4.mono s,h5}
theorem gD.upd (hD:H D=some (.lst vs)) (h:gD D H x v):gD D (L2.upd H D o) x v:=by
 let⟨a,r,us,h1,h2,h3,h4,h5⟩:=h;let nt:cZ (H D):=by rw[hD];exact λ_ z=>by cases z
 exact{a,r,us,h1,by rw[aC (Sc.bB h2 hD (fL rfl))];exact h2,by rw[aC h5];exact h3,aB.upd nt h4,h5}
def Mn (ins:List Str) (many:Int) (row:List (Int×Str)):Prop:=row≠[]/\⇑row<=4/\(row.map (·.1)).Pairwise (·<·)/\∀h∈row,0<=h.1/\h.1<many/\h.2∈ins
noncomputable def cC (S:bO):List Told:=
 S.au.map .bA++(S.aq.map λx=>.cg x.1 x.2.1 x.2.2)++(S.aP.map λx=>.bE x.1 x.2)++S.aR.map .bar++S.aH.toList.map .aH ++
 (S.holds.map λx=>x.2.map λh=>Told.holds x.1 h.1 h.2).flatten++(S.aJ.map λx=>.aJ x.1.1 x.1.2 x.2)++(S.aN.map .rep++S.bP.toList.map .bP)
def cb (h1:-10000<n) (h2:n<10000):⇑(dec n)<=5:=by
 by_cases h:0<=n
 ·have:=IX h h2;ext
 ·rw[vN (),bo]
  have:=IX (n:=-n) () ();have:("-": Str).length=1:=rfl;ext
def bM (h1:-10000<n) (h2:n<10000):n.natAbs.log2<1920:=by
 by_cases z:n.natAbs=0
 ·rw[z];decide
 ·exact yc ((Nat.log2_lt z).mpr (show n.natAbs<2^14 by ext)) ∅
def kz (h1:-10000<x.1) (h2:x.1<10000) (h3:-10000<x.2) (h4:x.2<10000):⇑(gm x)<=11:=by
 unfold gm;let a:=cb h1 h2;let b:=cb h3 h4;split
 ·ext
 ·rw[bo,bo]
  have:("/": Str).length=1:=rfl;ext
def M9 (h:Lq it):⇑(kA it)<=30:=by
 let⟨o,x⟩:=it;let⟨⟨hr,h1,h2,h3⟩,hq⟩:=h;let⟨_,p2,_⟩:=hr.pos;dsimp only at h1 h2 h3 p2 hq;let lx:=kz (x:=x) () h2 () h3;cases o with
 | none=>
  show("r:" ++ gm x).length<=30;rw[bo];have:("r:": Str).length=2:=rfl;ext
 | some q=>
  let⟨q1,q2,q3,q4,_⟩:=hq q rfl;let a:=cb (n:=q.1) () ();let b:=cb (n:=q.2) () ();show(dec q.1 ++":" ++ dec q.2 ++":" ++ gm x).length<=30;rw[bo,bo,bo,bo];have:(":": Str).length=1:=rfl;ext
theorem rP {sep:Str} {k:Nat}:∀{zs:List Str},(∀z∈zs,⇑z<=k)->(zs.map (λz:Str=>⇑z+⇑sep)).sum<=⇑zs*(k+⇑sep)
 | [],_=>by simp
 | z::r,h=>by
  let ih:=rP (sep:=sep) (zs:=r) λy hy=>h y (zr _ hy);have:=h z zt;rw[zk,wU,zw,Nat.succ_mul];ext
theorem join_le (sep:Str):∀zs:List Str,⇑(Str.join sep zs)<=(zs.map (λz:Str=>⇑z+⇑sep)).sum
 | []=>zp _
 | [z]=>by rw[join_one];simp
 | z::y::r=>by
  let ih:=join_le sep (y::r);rw[bu,bo,bo,zk,wU];ext
def Bh (h:∀z∈zs,⇑z<=k):⇑(Str.join sep zs)<=⇑zs*(k+⇑sep):=zN (join_le sep zs) (rP h)
def RO (r:Rep):Prop:=Ew (.rep r)/\⇑r.ends<=9/\∀e∈r.ends,⇑e.2<=9
def IP (h:Uq e) (hl:⇑e.2<=9):⇑(oO e)<=60:=by
 let⟨h1,h2,h3,h4⟩:=h;let a:=cb (n:=e.1) () ();let b:(Str.join "," (e.2.map dec)).length<=⇑(e.2.map dec)*(5+(",": Str).length):=Bh λz hz=>by
  let⟨p,hp,rfl⟩:=zI.mp hz;have:=h4 p hp;exact cb () ()
 let l1:(":": Str).length=1:=rfl;let l2:(",": Str).length=1:=rfl;rw[zd,l2] at b;unfold oO;rw[bo,bo];ext
def LH (h1:ns.Perm l) (h2:ns.Pairwise (·<=·)):sortI l=ns:=by
 unfold sortI;refine(List.Perm.eq_of_pairwise (le:=λa b:Int=>a<=b) (λa b _ _ x y=>Int.le_antisymm x y) h2 ?_ (h1.trans (List.mergeSort_perm _ _).symm)).symm;have:=List.pairwise_mergeSort (le:=λa b:Int=>decide (a<=b)) (λa b c x y=>by simp at x y ⊢;ext) (λa b=>by simp;ext) l;exact this.imp λh=>ye h
theorem Bs:∀{es:List End} {a:Int} {ps:List Int},(es.map (·.1)).Pairwise (·<·)->(∀e∈es,a<e.1)->(∀e∈es,e.2.Pairwise (·<=·))->fX es a ps=some (((es.map (·.1)).getLast?).getD a,ps++(es.map (·.2)).flatten)
 | [],a,ps,_,_,_=>by simp[fX]
 | e::r,a,ps,h1,h2,h3=>by
  rw[zk,xa] at h1;let ih:=Bs (es:=r) (a:=e.1) (ps:=ps++e.2) h1.2 (λx hx=>h1.1 _ (zQ (f:=λy:End=>y.1) hx)) (λx hx=>h3 x (zr _ hx));show(if e.1<=a then none else if e.2≠sortI e.2 then none else fX r e.1 (ps++e.2))=_;let c1:=h2 e zt;rw[yQ (),yQ (λz=>z (LH (List.Perm.refl _) (h3 e zt)).symm),ih,zk,zk,ya,zG]
  congr 2
  cases r with
  | nil=>rfl
  | cons x t=>rw[zk,List.getLast?_cons_cons,List.getLast?_cons];rfl
theorem IE:∀{n:Nat},k<n->((List.range n).map λi=>if i=k then g i++[x] else g i).flatten.Perm (((List.range n).map g).flatten++[x])
 | 0,h=>()
 | n+1,h=>by
  rw[List.range_succ,zm,zm,xg,xg];simp only[zk,yq,ya,List.flatten_nil,zW]
  by_cases e:n=k
  ·rw[yR e,<-zG]
   have:((List.range n).map λi=>if i=k then g i++[x] else g i)=(List.range n).map g:=xy λi hi=>by
    have:=yU.mp hi;rw[yQ ()]
   rw[this]
  ·rw[yQ e]
   let ih:=IE (g:=g) (x:=x) (k:=k) (n:=n) ();refine(ih.append_right _).trans ?_;rw[zG,zG];exact List.Perm.append_left _ (List.perm_append_comm)
noncomputable def cL (sp:Nat->Nat):Nat->Nat->List Int
 | 0,_=>[]
 | k+1,i=>if i=sp k then cL sp k i++[(k:Int)+1] else cL sp k i
theorem qF:∀{k:Nat},p∈cL sp k i->∃j,j<k/\p=(j:Int)+1/\i=sp j
 | 0,h=>by cases h
 | k+1,h=>by
  unfold cL at h;split at h
  ·rename_i e
   rcases zH.mp h with h | h
   ·let⟨j,h1,h2⟩:=qF h
    exact{(j),(),h2}
   ·exact{k,(),by simpa using h,e}
  ·let⟨j,h1,h2⟩:=qF h
   exact{(j),(),h2}
theorem AW:∀{k:Nat},(cL sp k i).Pairwise (·<=·)
 | 0=>List.Pairwise.nil
 | k+1=>by
  unfold cL;split
  ·rw[zV]
   refine{AW,by simp,λa ha b hb=>?_};let⟨j,h1,h2,_⟩:=qF ha;have:b=(k:Int)+1:=by simpa using hb
   ext
  ·exact AW
theorem HW (e:i=sp j):∀{k:Nat},j<k->((j:Int)+1)∈cL sp k i
 | 0,h=>()
 | k+1,h=>by
  unfold cL
  by_cases c:j=k
  ·subst c
   rw[yR e];exact zJ _ (zB.mpr rfl)
  ·let ih:=HW e (k:=k) ()
   split
   ·exact zK _ ih
   ·exact ih
theorem AV:∀{k:Nat},⇑(cL sp k i)<=k
 | 0=>zp _
 | k+1=>by
  let ih:=AV (sp:=sp) (i:=i) (k:=k);unfold cL;split
  ·rw[zj];simp;ext
  ·ext
theorem DP:∀{k:Nat},(∀j,j<k->sp j<n)->((List.range n).map (cL sp k)).flatten.Perm (MS 1 k)
 | 0,_=>by
  have:((List.range n).map (cL sp 0)).flatten=[]:=by
   rw[List.flatten_eq_nil_iff];intro l hl;let⟨i,_,rfl⟩:=zI.mp hl;rfl
  rw[this];exact List.Perm.refl _
 | k+1,h=>by
  let ih:=DP (sp:=sp) (n:=n) (k:=k) λj hj=>h j ();let e:(List.range n).map (cL sp (k+1))=(List.range n).map λi=>if i=sp k then cL sp k i++[(k:Int)+1] else cL sp k i:=xy λi _=>by rw[cL]
  rw[e];refine(IE (h k ())).trans ?_;unfold MS at ih ⊢;rw[List.range_succ,zm];refine(ih.append_right _).trans ?_;rw[List.map_singleton,Int.add_comm]
def Q1 (k:Nat):(MS 1 k).Pairwise (·<=·):=by
 unfold MS;rw[List.pairwise_map];exact(List.pairwise_lt_range).imp λh=>()
noncomputable def rg (bs:List Int) (sp:Nat->Nat) (t:Nat):List End:=bs.zip ((List.range ⇑bs).map (cL sp t))
theorem GR:∀{a:List α} {b:List β},⇑a=⇑b->(a.zip b).map (·.1)=a
 | [],[],_=>rfl
 | x::xs,y::ys,h=>by rw[yZ,zk,GR (by simpa using h)]
 | [],_::_,h=>by simp at h
 | _::_,[],h=>by simp at h
theorem GQ:∀{a:List α} {b:List β},⇑a=⇑b->(a.zip b).map (·.2)=b
 | [],[],_=>rfl
 | x::xs,y::ys,h=>by rw[yZ,zk,GQ (by simpa using h)]
 | [],_::_,h=>by simp at h
 | _::_,[],h=>by simp at h
def kF:(rg bs sp t).map (·.1)=bs:=GR (by simp)
def sT:(rg bs sp t).map (·.2)=(List.range ⇑bs).map (cL sp t):=GQ (by simp)
def Nm:⇑(rg bs sp t)=⇑bs:=by
 have:=y6 List.length (kF (bs:=bs) (sp:=sp) (t:=t))
 rwa [zd] at this
def sU (h:e∈rg bs sp t):e.1∈bs/\∃i,i<⇑bs/\e.2=cL sp t i:=by
 let h1:=zQ (f:=λx:End=>x.1) h;let h2:=zQ (f:=λx:End=>x.2) h;rw[kF] at h1;rw[sT] at h2;let⟨i,hi,e2⟩:=zI.mp h2;exact{h1,i,yU.mp hi,e2.symm}
def Mp (first last times:Int) (es:List End):Prop:=fY {(first),last,times,es}=true/\⇑es<=9/\(∀e∈es,first<=e.1/\e.1<=last/\e.2≠[]/\⇑e.2<=9/\∀p∈e.2,0<=p/\p<1000)/\⇑((es.map (·.2)).flatten)<=9/\(es.map (·.1)).Pairwise (·<·)
def Nk:Mp first last times []:={rfl,∅,by simp,by simp,by simp}
def KN (t9:t<=9) (ne:bs≠[]) (asc:bs.Pairwise (·<·)) (hin:∀b∈bs,first<=b/\b<=last) (hsp:∀j,j<t->sp j<⇑bs) (hon:∀i,i<⇑bs->∃j,j<t/\sp j=i) (bt:⇑bs<=t):Mp first last t (rg bs sp t):=by
 let pm:=DP (k:=t) hsp;let pl:((List.range ⇑bs).map (cL sp t)).flatten.length=t:=by rw[pm.length_eq];unfold MS;simp
 refine{?_,by rw[Nm];ext,λe he=>?_,by rw[sT,pl];exact t9,by rw[kF];exact asc}
 ·let e1:=Bs (es:=rg bs sp t) (a:=first-1) (ps:=[]) (by rw[kF];exact asc) (λe he=>by have:=hin _ (sU he).1;ext) (λe he=>by let⟨_,i,_,e2⟩:=sU he;rw[e2];exact AW)
  let e2:sortI (([]:List Int)++((rg bs sp t).map (·.2)).flatten)=MS 1 t:=by rw[List.nil_append,sT];exact LH pm.symm (Q1 t)
  unfold fY;dsimp only;cases q:rg bs sp t with
  | nil=>rfl
  | cons x r=>
   rw[q] at e1 e2;dsimp only;rw[e1];dsimp only;rw[e2,show((t:Int)+1-1).toNat=t by ext,zh rfl,Bool.and_true,xE,<-q,kF];cases q2:bs.getLast? with
   | none=>exact absurd (List.getLast?_eq_none_iff.mp q2) ne
   | some b=>exact(hin b (wX q2)).2
 ·let⟨hb,i,hi,e2⟩:=sU he
  let⟨j,hj,ej⟩:=hon i hi;refine{(hin _ hb).1,(hin _ hb).2,?_,?_,λp hp=>?_}
  ·rw[e2];exact List.ne_nil_of_mem (HW ej.symm hj)
  ·rw[e2];have:=AV (sp:=sp) (i:=i) (k:=t);ext
  ·rw[e2] at hp
   let⟨j,h1,h2,_⟩:=qF hp;ext
def QS {n c:Nat} {i:Nat} (hi:i<n):∃j,j<n/\(j+c)%n=i:=by
 refine{(i+(n-c%n))%n,vc _ (),?_};let hc:c%n<n:=vc _ ();rw[Nat.add_mod,Nat.mod_mod,<-Nat.add_mod];let e:i+(n-c%n)+c=i+n+n*(c/n):=by
  have:=Nat.div_add_mod c n;ext
 rw[e,Nat.add_mul_mod_self_left,Nat.add_mod_right,Nat.mod_eq_of_lt hi]
def Mw (Pv:Nat->St->Hp->Prop) (Pe:St->Hp->Prop) (h0:∃m,Pv m σ H)
  (turn:∀m σ H,Pv m σ H->∀N:St->Hp->Prop,(∀σ H,Pe σ H->N σ H)->c σ H λb H1=>if b=true then∃N':St->Hp->Prop,(∀σ' H',N' σ' H'->∃m',m'<m/\Pv m' σ' H')/\tb {D with nx:=N',ct:=N',bk:=N} σ H1 else N σ H1)
  (hd:∀σ H,Pe σ H->D.nx σ H):Oi c tb D σ H:={Pv,h0,λm σ H p=>turn m σ H p D.nx hd}
def LN {c:Bool} {T:(Bool->Hp->Prop)->Prop} {Z:Bool->Hp->Prop} {H:Hp} (v:Bool) (h1:c=false->∀Z,Z v H->T Z) (h2:c=true->v=true) (hz:Z v H):if c=true then Z true H else T Z:=by
 cases c with
 | false=>rw[yQ (by simp)];exact h1 rfl Z hz
 | true=>rw[yR rfl];rw[<-h2 rfl];exact hz
def K4 {K:yE} {α:Type} {t1 t2:Bool} {a b:vw} {ws:List α} {e1 e2:α->V} {σ₀:St} {g:TG} {te:TE} {Q:VK} {H1:Hp} (F:α->Dt) (Pσ:St->Prop) (hn:⇑ws<=sizeLine) (ha:JF t1 K H1 a (ws.map e1)) (hb:JF t2 K H1 b (ws.map e2)) (h0:Pσ σ₀)
  (turn:∀(x:α) (σ:St) (H:Hp) (p:vw) (R:St->V->Hp->Prop),x∈ws->aG H1 H->H p=some (.tup [e1 x,e2 x])->Pσ σ->(∀σ3 y H5,aG H H5->Is H5 (F x) y->Pσ σ3->R σ3 y H5)->g (.ref p) σ H λσ3 H3=>te σ3 H3 λy H5=>R σ3 y H5)
  (fin:∀D vs H,aG H1 H->H1 D=none->H D=some (.lst vs)->aB H (ws.map F) vs->Q (.ref D) H):dQ σ₀ g ug te Q (VL t1 t2 K a b) H1:=by
 refine{λi m xs σ H=>m=⇑ws-i/\i<=⇑ws/\⇑xs=i/\aG H1 H/\aB H ((ws.take i).map F) xs/\Pσ σ,{_,rfl,yg _,rfl,aF _,by simp[aB],h0},?_};rintro i m xs σ H ⟨rfl,hi,hx,sm,il,pσ⟩;rcases xH i ⇑ws with hlt | hge
 ·let g1:(ws.map e1)[i]?=some (e1 ws[i]):=by rw[zL,ze hlt];rfl
  let g2:(ws.map e2)[i]?=some (e2 ws[i]):=by rw[zL,ze hlt];rfl
  refine .inr {{_,_,_,_,sm.Uj ha,sm.Uj hb,g1,g2},(),?_};rintro x H2 ⟨p,u,v,np,rfl,rfl,hu,hv⟩;let eu:=hu _ (sm.Uj ha);let ev:=hv _ (sm.Uj hb);rw[g1] at eu;rw[g2] at ev;cases eu;cases ev;let s2:aG H (upd H p (.tup [e1 ws[i],e2 ws[i]])):=bF np;refine turn ws[i] σ _ p (λσ3 y H5=>if true=true then∃m',m'<⇑ws-i/\(m'=⇑ws-(i+1)/\i+1<=⇑ws/\⇑(xs++[y])=i+1/\aG H1 H5/\aB H5 ((ws.take (i+1)).map F) (xs++[y])/\Pσ σ3) else False) (yo hlt) (sm.trans s2) aE pσ ?_;rintro σ3 y H5 s5 iy p3;rw[yR rfl];refine{_,(),rfl,hlt,by simp[hx],(sm.trans s2).trans s5,?_,p3};rw[xw,ze hlt,zm];exact dm iy ((il.mono s2).mono s5)
 ·let e:i=⇑ws:=()
  subst e;refine .inl {{_,_,sm.Uj ha,sm.Uj hb,.inl (by rw[zd];exact zp _)},(),λD hD=>?_};let il':aB H (ws.map F) xs:=by rw[zO] at il;exact il
  exact fin D xs _ (sm.trans (bF hD)) (sm.back hD) aE (il'.mono (bF hD))
def Gf (hn:⇑xs<=sizeLine) (hp:fM K H1 p xs) (h0:∃v,σ₀=[v])
  (fin:∀(D:vw) (qs:List vw) (H:Hp),aG H1 H->H1 D=none->H D=some (.lst (qs.map V.ref))->qs.Nodup->D∉qs->⇑qs=⇑xs->(∀q∈qs,H1 q=none/\H q=some (.lst []))->Q (.ref D) H):dQ σ₀ (bW 0) ug (oJ cE) Q (Qs K p) H1:=by
 refine{λi m ys σ H=>m=⇑xs-i/\i<=⇑xs/\⇑ys=i/\(∃v,σ=[v])/\aG H1 H/\∃qs:List vw,ys=qs.map V.ref/\qs.Nodup/\∀q∈qs,H1 q=none/\H q=some (.lst []),{_,rfl,yg _,rfl,h0,aF _,[],rfl,x8,by simp},?_};rintro i m ys σ H ⟨rfl,hi,hx,⟨v,rfl⟩,sm,qs,rfl,nd,hq⟩;rw[zd] at hx;rcases xH i ⇑xs with hlt | hge
 ·refine .inr {LZ (sm.seq hp) hlt,by rw[zd];ext,?_}
  rintro x H2 ⟨rfl,_⟩;refine{yg _,λq n=>?_};refine{_,(),rfl,hlt,by rw[zj,zd,hx];rfl,{_,rfl},sm.trans (bF n),qs++[q],by rw[zm];rfl,?_,λr hr=>?_}
  ·rw[zU]
   refine{nd,by simp,λa ha b hb e=>?_};have:b=q:=by simpa using hb
   subst this;subst e;rw[(hq a ha).2] at n;cases n
  ·rcases zH.mp hr with z | z
   ·exact{(hq r z).1,bF n _ _ (hq r z).2}
   ·rw[zB.mp z]
    exact{sm.back n,aE}
 ·let e:i=⇑xs:=()
  subst e;refine .inl {{_,sm.seq hp,zp _},by rw[zd];ext,λD hD=>?_};exact fin D qs _ (sm.trans (bF hD)) (sm.back hD) aE nd (λz=>by rw[(hq D z).2] at hD;cases hD) hx λq z=>{(hq q z).1,bF hD _ _ (hq q z).2}
theorem sv (f:α->β) (d:α):∀l:List α,(List.range ⇑l).map (λi=>f (l.getD i d))=l.map f
 | []=>rfl
 | x::r=>by
  rw[zw,List.range_succ_eq_map,zk,zC,zk]
  congr 1
  exact sv f d r
theorem Dy (F:α->β->γ) (g:Nat->β) (d:α):∀(l:List α) (k:Nat),(List.range ⇑l).map (λi=>F (l.getD i d) (g (k+i)))=(l.zip ((List.range ⇑l).map λi=>g (k+i))).map λp=>F p.1 p.2
 | [],_=>rfl
 | x::r,k=>by
  rw[zw,List.range_succ_eq_map,zk,zC,zk,zC,yZ,zk]
  congr 1
  have:=Dy F g d r (k+1);let e:∀i,k+1+i=k+(i+1):=λi=>()
  simp only[e] at this;exact this
theorem Ik:∀{l:List α} {i j:Nat},l.Nodup->l[i]?=some x->l[j]?=some x->i=j
 | [],_,_,_,h,_=>by simp at h
 | y::r,0,0,_,_,_=>rfl
 | y::r,0,j+1,n,h,k=>by
  simp at h k;subst h;exact absurd (zD k) (yd.mp n).1
 | y::r,i+1,0,n,h,k=>by
  simp at h k;subst k;exact absurd (zD h) (yd.mp n).1
 | y::r,i+1,j+1,n,h,k=>by
  simp at h k;rw[Ik (yd.mp n).2 h k]
def Nl (bs:List Int) (sp:Nat->Nat) (t:Nat):(List.range ⇑bs).map (λi=>mH (bs.getD i 0,cL sp t i))=(rg bs sp t).map mH:=by
 have:=Dy (λb p=>mH (b,p)) (cL sp t) 0 bs 0;simp only[Nat.zero_add] at this;rw[this];rfl
theorem vL (n:Int):∀ns:List Int,IA (.int n) (ns.map V.int)=decide (n∈ns)
 | []=>rfl
 | m::ns=>by
  let ih:=vL n ns;unfold IA at ih ⊢;rw[zk,xt,ih];show((m == n)||decide (n∈ns))=decide (n∈m::ns)
  by_cases e:n=m
  ·subst e
   simp
  ·simp[e,Ne.symm (a:=m) (b:=n) (λz=>e z.symm)]
   try ext
def BI {α:Type} {J:It} {ws:List α} {enc:α->V} {σ₀:St} {g:TG} {tc:TT} {te:TE} {Q:VK} {H1:Hp} (f:α->Bool) (F:α->Dt) (Pσ:St->Prop) (hn:⇑ws<=sizeLine) (h0:Pσ σ₀)
  (go:∀i H,i<⇑ws->aG H1 H->J.go i H) (stop:∀H,aG H1 H->J.stop ⇑ws H) (yl:∀(i:Nat) x H H2 (hi:i<⇑ws),aG H1 H->J.Mr i H x H2->H2=H/\x=enc ws[i])
  (turn:∀(a:α) (σ:St) (H:Hp) (R:St->V->Hp->Prop) (N:St->Hp->Prop),a∈ws->aG H1 H->Pσ σ->(f a=true->∀σ3 y H5,aG H H5->Is H5 (F a) y->Pσ σ3->R σ3 y H5)->(f a=false->∀σ3 H5,aG H H5->Pσ σ3->N σ3 H5)->g (enc a) σ H λσ3 H3=>tc σ3 H3 λb H4=>if b=true then te σ3 H4 λy H5=>R σ3 y H5 else N σ3 H4)
  (fin:∀D vs H,aG H1 H->H1 D=none->H D=some (.lst vs)->aB H ((ws.filter f).map F) vs->Q (.ref D) H):dQ σ₀ g tc te Q J H1:=by
 refine{λi m xs σ H=>m=⇑ws-i/\i<=⇑ws/\⇑xs<=i/\aG H1 H/\aB H (((ws.take i).filter f).map F) xs/\Pσ σ,{_,rfl,yg _,zp _,aF _,by simp[aB],h0},?_};rintro i m xs σ H ⟨rfl,hi,hx,sm,il,pσ⟩;rcases xH i ⇑ws with hlt | hge
 ·refine .inr {go i H hlt sm,(),?_}
  intro x H2 hy;let⟨rfl,rfl⟩:=yl i x H H2 hlt sm hy;let tk:ws.take (i+1)=ws.take i++[ws[i]]:=by rw[xw,ze hlt];rfl
  refine turn ws[i] σ H2 _ _ (yo hlt) sm pσ ?_ ?_
  ·intro ff σ3 y H5 s5 iy p3
   refine{_,(),rfl,hlt,by rw[zj];show ⇑xs+1<=i+1;ext,sm.trans s5,?_,p3};rw[tk,y3,zm];have:[ws[i]].filter f=[ws[i]]:=by simp[ff]
   rw[this];exact dm iy (il.mono s5)
  ·intro ff σ3 H5 s5 p3
   refine{_,(),rfl,hlt,(),sm.trans s5,?_,p3};rw[tk,y3,zm];have:[ws[i]].filter f=[]:=by simp[ff]
   rw[this,yq,zW];exact il.mono s5
 ·let e:i=⇑ws:=()
  subst e;refine .inl {stop H sm,(),λD hD=>?_};let il':aB H ((ws.filter f).map F) xs:=by rw[zO] at il;exact il
  exact fin D xs _ (sm.trans (bF hD)) (sm.back hD) aE (il'.mono (bF hD))
noncomputable def mn (f:Int->Bool) (lo:Int) (n:Nat):List Int:=((List.range n).map λi=>lo+(i:Nat)).filter f
def oB (h:x∈mn f lo n):lo<=x/\x<lo+n/\f x=true:=by
 unfold mn at h;rw[wA] at h;let⟨i,hi,rfl⟩:=zI.mp h.1;have:=yU.mp hi;exact{(()),(),h.2}
def Ni:⇑(mn f lo n)<=n:=by
 unfold mn;refine zN (xi _ _) ?_;simp
def IJ {f:Int->Bool} {lo x:Int} {n:Nat} (h1:lo<=x) (h2:x<lo+n) (h3:f x=true):x∈mn f lo n:=by
 unfold mn;rw[wA];exact{zI.mpr {(x-lo).toNat,yU.mpr (),()},h3}
def jA {lo:Int} {n:Nat} {σ₀ rest:St} {tc:TT} {Q:VK} {H1:Hp} (f:Int->Bool) (hn:n<=sizeLine) (h0:∃v,σ₀=v::rest)
  (turn:∀(i:Int) (H:Hp) (R:Bool->Hp->Prop),lo<=i->i<lo+n->aG H1 H->(∀H',aG H H'->R (f i) H')->tc (some (.int i)::rest) H R)
  (fin:∀D H,aG H1 H->H1 D=none->H D=some (.lst ((mn f lo n).map V.int))->Q (.ref D) H):dQ σ₀ (bW 0) tc (aW 0) Q (Qr lo n) H1:=by
 refine BI (ws:=(List.range n).map λi=>lo+(i:Nat)) (enc:=V.int) f Dt.int (λσ=>∃v,σ=v::rest) (by simp;exact hn) h0 (λi H hi _=>by rw[zd,zT] at hi;exact hi) (λH _=>by rw[zd,zT];exact zp n) ?_ ?_ ?_
 ·rintro i x H H2 hi _ ⟨rfl,rfl⟩
  exact{rfl,by simp}
 ·rintro a σ H R N ha s1 ⟨v,rfl⟩ hR hN
  let⟨i,hi,rfl⟩:=zI.mp ha;have:=yU.mp hi;refine turn (lo+(i:Nat)) H _ () () s1 λH' s'=>?_;cases q:f (lo+(i:Nat)) with
  | true=>exact cz rfl {_,rfl,hR q _ _ _ s' cW {_,rfl}}
  | false=>exact cD rfl (hN q _ _ s' {_,rfl})
 ·intro D vs H s1 nD hD il
  rw[fC il] at hD;exact fin D H s1 nD hD
noncomputable def jV (rs:List Rep) (b:Int):Bool:=match dP rs b with
 | none=>true
 | some r=>match (r.ends.filter λe=>decide (e.1<=b)).getLast? with
  | none=>true
  | some e=>decide (r.times∈e.2)
noncomputable def eP (rs:List Rep) (b:Int):Bool:=rs.any λr=>decide (r.first<b)&&decide (b<=r.last)
noncomputable def GN (r:Rep) (b:Int):Bool:=decide (r.first<=b)&&decide (b<=r.last)
theorem Bp:∀{l:List α} {i:Nat} {x:α},l[i]?=some x->p x=true->(∀y∈l.take i,p y=false)->l.find? p=some x
 | [],_,_,h,_,_=>by simp at h
 | y::r,0,x,h,hx,_=>by simp at h;subst h;rw[yV,hx]
 | y::r,i+1,x,h,hx,hn=>by
  rw[yV,hn y (by rw[wZ];exact zt)];exact Bp (i:=i) (by simpa using h) hx λz hz=>hn z (by rw[wZ];exact zr _ hz)
theorem Ej:∀{es:List End},(es.map (·.1)).Pairwise (·<·)->x∈(es.zip ((es.drop 1).map (·.1)++[hi])).map (λp=>(p.1.1,p.2-1,p.1.2))->x.1<=b->b<=x.2.1->∃e,(es.filter λe=>decide (e.1<=b)).getLast?=some e/\e.2=x.2.2
 | [],_,h,_,_=>by simp at h
 | [e],_,h,h1,h2=>by
  simp at h;subst h;exact{e,by simp at h1 ⊢;exact h1,rfl}
 | e::e'::r,asc,h,h1,h2=>by
  rw[zk,xa] at asc;rw[List.drop_one,List.tail_cons,zk,wQ,yZ,zk,zE] at h;rcases h with h | h
  ·subst h
   dsimp only at h1 h2;let no:(e'::r).filter (λe=>decide (e.1<=b))=[]:=by
    rw[List.filter_eq_nil_iff];intro y hy;let hm:y.1∈(e'::r).map (·.1):=zQ (f:=λz:End=>z.1) hy;let a2:=asc.2;rw[zk,xa] at a2;rw[zk,zE] at hm;rcases hm with z | z
    ·simp;ext
    ·have:=a2.1 _ z
     simp;ext
   refine{e,?_,rfl};rw[List.filter_cons,yR (zh h1),no];rfl
  ·let⟨e2,f1,f2⟩:=Ej (es:=e'::r) asc.2 (by rw[List.drop_one,List.tail_cons];exact h) h1 h2
   refine{e2,?_,f2};rw[List.filter_cons];split
   ·cases q:(e'::r).filter (λe=>decide (e.1<=b)) with
    | nil=>rw[q] at f1;cases f1
    | cons y t=>rw[q] at f1;rw[List.getLast?_cons_cons];exact f1
   ·exact f1
theorem L7:∀{es:List End},(∀e∈es,lo<=e.1/\e.1<hi)->x∈(es.zip ((es.drop 1).map (·.1)++[hi])).map (λp=>(p.1.1,p.2-1,p.1.2))->lo<=x.1/\x.2.1<hi
 | [],_,h=>by simp at h
 | [e],hx,h=>by
  simp at h;subst h;have:=hx e (by simp);exact{this.1,by show hi-1<hi;ext}
 | e::e'::r,hx,h=>by
  rw[List.drop_one,List.tail_cons,zk,wQ,yZ,zk,zE] at h;rcases h with h | h
  ·subst h
   let a:=hx e (by simp);let c:=hx e' (by simp);exact{a.1,by show e'.1-1<hi;ext}
  ·exact L7 (es:=e'::r) (λy hy=>hx y (zr _ hy)) (by rw[List.drop_one,List.tail_cons];exact h)
def Apart (rs:List Rep):Prop:=(∀r∈rs,r.first<=r.last/\(r.ends.map (·.1)).Pairwise (·<·)/\∀e∈r.ends,r.first<=e.1/\e.1<=r.last)/\rs.Pairwise λa b=>a.last<b.first
theorem tw:∀{rs:List Rep} {r r':Rep} {b:Int},(∀r∈rs,r.first<=r.last)->rs.Pairwise (λa b=>a.last<b.first)->r∈rs->r'∈rs->r.first<=b->b<=r.last->r'.first<=b->b<=r'.last->r=r'
 | [],_,_,_,_,_,h,_,_,_,_,_=>by cases h
 | x::l,r,r',b,hf,hp,h,h',h1,h2,h3,h4=>by
  rw[xa] at hp;rcases zE.mp h with e | e <;> rcases zE.mp h' with e' | e'
  ·rw[e,e']
  ·subst e
   have:=hp.1 r' e';ext
  ·subst e'
   have:=hp.1 r e;ext
  ·exact tw (λy hy=>hf y (zr _ hy)) hp.2 e e' h1 h2 h3 h4
def pJ {rs:List Rep} {b:Int} {r:Rep} (h:dP rs b=some r):r∈rs/\r.first<=b/\b<=r.last:=by
 unfold dP at h;let h1:=List.mem_of_find?_eq_some h;let h2:=List.find?_some h;simp at h2;exact{(h1),h2}
def LS {rs:List Rep} {b:Int} (ap:Apart rs) (h:jV rs b=true):lE rs b=true:=by
 unfold lE;rw[yt];intro r hr;rw[yt];intro x hx;let⟨a1,a2,a3⟩:=ap.1 r hr
 by_cases c1:x.1<=b
 ·by_cases c2:b<=x.2.1
  ·unfold jz at hx
   let ein:=L7 (lo:=r.first) (λe he=>{(a3 e he).1,by have:=(a3 e he).2;ext}) hx;let⟨e,f1,f2⟩:=Ej a2 hx c1 c2;unfold jV at h;let hro:dP rs b=some r:=by
    cases q:dP rs b with
    | none=>
     unfold dP at q;have:=xT.mp q r hr;simp at this;ext
    | some r'=>
     let⟨g1,g2,g3⟩:=pJ q;rw[tw (λy hy=>(ap.1 y hy).1) ap.2 g1 hr g2 g3 () ()]
   rw[hro] at h;dsimp only at h;rw[f1] at h;dsimp only at h;rw[f2] at h;rw[h];simp
  ·rw[zg c2];simp
 ·rw[zg c1];simp
def tY {rs:List Rep} {b:Int} (h:eP rs b=false):eA rs b=true:=by
 unfold eA;cases q:dP rs b with
 | none=>rfl
 | some r=>
  let⟨g1,g2,g3⟩:=pJ q;dsimp only;unfold eP at h;rw[vi] at h;have:=h r g1;simp at this;exact zh ()
def Px {rs:List Rep} {b:Int} (ap:Apart rs) (h:(∃r∈rs,r.last=b)\/(rs.any λr=>GN r b)=false):gR rs b=true:=by
 unfold gR;cases q:dP rs b with
 | none=>rfl
 | some r=>
  let⟨g1,g2,g3⟩:=pJ q;dsimp only;rcases h with⟨r',hr',e⟩ | h
  ·have:=tw (b:=b) (λy hy=>(ap.1 y hy).1) ap.2 g1 hr' g2 g3 (by have:=(ap.1 r' hr').1;ext) ()
   rw[this,e];exact zh rfl
  ·rw[vi] at h
   have:=h r g1;unfold GN at this;simp at this;ext
def RS (many:Int) (rs:List Rep) (j:Jump):Prop:=gU rs j=true/\(0<=j.vJ/\j.vJ<many)/\(0<=j.Cd/\j.Cd<many)/\(0<=j.dw/\j.dw<many)/\∀c,j.ik=some c->0<=c/\c<many
def TC {many:Int} {rs:List Rep} (ap:Apart rs) {a t u:Int} {c:Option Int} (ha:0<=a) (ha2:a<many) (hl:(∃r∈rs,r.last=a)\/(rs.any λr=>GN r a)=false) (ht:0<=t) (ht2:t<=a) (hti:eP rs t=false)
  (hu:t<=u) (hu2:u<=a) (hul:jV rs u=true) (hc:∀x,c=some x->a<x/\x<many/\eP rs x=false/\jV rs x=true):RS many rs {(a),t,u,c}:=by
 refine{?_,{(ha),ha2},{ht,by show t<many;ext},{by show 0<=u;ext,by show u<many;ext},λx hx=>?_}
 ·unfold gU
  dsimp only;rw[yQ (),yQ (),Px ap hl,tY hti,LS ap hul];cases c with
  | none=>rfl
  | some x=>
   let⟨h1,h2,h3,h4⟩:=hc x rfl;dsimp only;rw[zh h1,tY h3,LS ap h4];rfl
 ·let⟨h1,h2,_⟩:=hc x hx
  exact{(()),h2}
def Kv (t1:0<t) (t2:t<=32) (b1:0<b) (b2:b<=160):NQ (red t b):=by
 let⟨g,g1,g2,g3,g4,g5⟩:=mY (t:=t) b1;let r1:=Fi (t:=t) (b:=b) (y8 t1);let r0:=AJ (t:=t) (b:=b) (y8 t1);refine{Lm.Rd.of (y8 t1) b1,?_,(),()};rcases Int.lt_or_eq_of_le r0 with z | z
 ·exact z
 ·rw[<-z,Int.mul_zero] at g2;ext
inductive M6:List Expr->List (Int×Int)->Prop
 | n:M6 [] []
 | c {a b:Int} {x y u v m k r ps} (h:M6 r ps):M6 (.Tuple [.Constant (.int a) x y,.Constant (.int b) u v] m k::r) ((a,b)::ps)
def Ti {X:Cx} {es:List Expr} {ps:List (Int×Int)} (h:M6 es ps):PA X es (G0 ps):=by
 induction h with
 | n=>exact Th
 | c _ q=>exact UZ q
def Tg {X:Cx} {es:List Expr} {p1 pos:Pos} {b:Expr} {tb:TE} (ps:List (Int×Int)) (hb:PE X b tb) (hs:rJ b) (h:M6 es ps<|>qh_) (hl:⇑ps<=1000<|>qb_):PE X (.Subscript (.List es p1) b pos) (cP (qC X.K) (VD ps) tb):=AS LV (Tf (Ti h) hl) hb hs
@[irreducible] def Si (X:Cx) (s:Stmt) (t:TS):Prop:=PS X s t
@[irreducible] def VI (X:Cx) (e:Expr) (t:TE):Prop:=PE X e t
def Wy {X:Cx} {x:Str} {e:Expr} {te:TE} {pos pos':Pos} (i:Nat) (hN:X.N.Nodup) (he:VI X e te) (hi:X.N[i]?=some x<|>qe_) (hx:Loc X.env.scope x<|>qi_) (hs:swapsWith e (some (.Name x pos')) pos.line X.env=pure false<|>qe_) (hf:X.fn x=true\/X.env.scope.names.lookup x=some .local<|>qa_) :
  Si X (.Assign [.Name x pos'] e pos) (rO te (bW i)):=by
 unfold Si;unfold VI at he;exact OV hN hi hx he hs hf
def Rc {X:Cx} {es:List Expr} {p1 pos:Pos} {b:Expr} {tb:TE} (ps:List (Int×Int)) (hb:PE X b tb) (hs:rJ b) (h:M6 es ps<|>qh_) (hl:⇑ps<=1000<|>qb_):VI X (.Subscript (.List es p1) b pos) (cP (qC X.K) (VD ps) tb):=by
 unfold VI;exact Tg ps hb hs h hl
@[irreducible] def Ln (X:Cx) (s:List Stmt) (t:TS):Prop:=Ce X s t
def zS {X:Cx} {s:Stmt} {t:TS} (h:PS X s t):Si X s t:=by unfold Si;exact h
def zo {X:Cx} {s:Stmt} {t:TS} (h:Si X s t):Ln X [s] t:=by unfold Ln;unfold Si at h;exact aj h
def zc {X:Cx} {s:Stmt} {r:List Stmt} {t u:TS} (h:Si X s t) (h2:Ln X r u):Ln X (s::r) (EI t u):=by unfold Ln at h2 ⊢;unfold Si at h;exact ag h h2
def zf {X:Cx} {s:List Stmt} {t:TS} (h:Ln X s t):Ce X s t:=by unfold Ln at h;exact h
end Sc
namespace L2
open PySem PySem.Spec PyProof.Rows
structure Fl (B:vx) (l:List Env) (e:vw) (cls:vm) (dx:Option vw) (fl:vm) (h:vx):Prop where
 st:B.StaysIn h
 new:B.get? e=none
 fr:h.FunFrames B l
 ob:∃oe vs T oT ts,h.get? e=some oe/\oe.cls=cls/\oe.dict=dx/\oe.data=.fields vs/\vs[1]?=some (.ref T)/\B.get? T=none/\T≠e/\h.get? T=some oT/\oT.data=.fields ts/\ts[3]?=some fl
def Nq (f:Array vm->Array vm) (o:Obj):(o.mapFields f).dict=o.dict:=by
 let⟨c,d,dt,sl⟩:=o;cases dt <;> rfl
section
variable {M:Model} {A:vt} {E:vm->vn->Prop} {s:vn} {B:vx} {env:Env} {outer l:List Env} {L e:vw} {Q:Unit->vn->Prop} {cls fl:vm} {dx:Option vw}
def IG {oe:Obj} {vs:Array vm} {head:vm} {had:Bool} (hfr:A.frames=some (env::outer)) (hl:s.heap.FunFrames B (env::outer)) (hf:env.frame=some L) (he:s.heap.get? e=some oe) (hb:B.StaysIn s.heap) (hn:B.get? e=none) (hd:oe.data=.fields vs) (h1:1<vs.size)
  (h:∀h',Fl B (env::outer) e oe.cls oe.dict (rawInt L) h'->s.heap.UpToSlots h'->Q .unit {s with heap:=h'}) :
  wpAny M A (do setField (.ref e) 1 (<-EntryCells.newEntry head (<-frameOf env) .none (rawInt L) .none (<-entryPlaceOf L had))) Q E s:=by
 let other:∀b o,s.heap.get? b=some o->(∀ws,o.data≠.fields ws)->b≠e:=λb o q z y=>by subst y;rw[he] at q;cases q;exact z _ hd
 let ne:e∉(env::outer).filterMap (·.frame):=λhm=>by
  let⟨_,o,ho,z⟩:=hl.mem hm;exact other e o ho z rfl
 refine yx (wpAny_frameOf_fun hfr hl hf λg sg=>yx (wpAny_entryPlaceOf λpl hpl=>?_));unfold EntryCells.newEntry newFields;refine yx (xb ?_ (hpl.sizeOk5 _ _ _ _ _));let t3:∃ts,(Data.fields ([head,.ref L,.none,rawInt L,.none]++(if pl.isEmpty then List.replicate 6 Value.none else pl)).toArray)=.fields ts/\ts[3]?=some (rawInt L):={_,rfl,by simp}
 generalize (Data.fields ([head,.ref L,.none,rawInt L,.none]++(if pl.isEmpty then List.replicate 6 Value.none else pl)).toArray)=dt at t3 ⊢;let⟨ts,rfl,t3⟩:=t3;let ge:g.get? e=some oe:=(sg.2.1 e ne).trans he;let lt:e<g.objs.size:=yB ge;let gb:B.StaysIn g:=λb o q=>(sg.2.1 b λhm=>by rw[(hl.mem hm).1] at q;cases q).trans (hb b o q);let pe:=yy {cls:=Value.type "traceback",dict:=none,data:=Data.fields ts} ge;let pt:=yA g (o:={cls:=Value.type "traceback",dict:=none,data:=Data.fields ts}) rfl;refine wpAny_setField pe hd h1 (h _ ?_ ?_)
 ·let kp:∀b o,b≠e->g.get? b=some o->((g.push {cls:=Value.type "traceback",dict:=none,data:=Data.fields ts}).update e (Obj.mapFields (·.setIfInBounds 1 (Value.ref g.objs.size)))).get? b=some o:=λb o z q=>by
   rw[yC _ _ (Ne.symm z)];exact yy _ q
  refine{λb o q=>kp b o (λz=>by subst z;rw[hn] at q;cases q) (gb b o q),hn,hl.of_keeps λb o q z=>?_,?_}
  ·let⟨sl,q'⟩:=sg.2.2 b o q
   exact{_,kp b _ (other b o q z) q',rfl}
  ·let hd':=vf hd (·.setIfInBounds 1 (Value.ref g.objs.size))
   refine{_,_,g.objs.size,_,ts,yD _ pe (Obj.isFreed_of_fields hd'),Obj.cls_mapFields _ _,Nq _ _,hd',by simp[h1],gb.fresh,yj lt,(yC _ _ (yk lt)).trans pt,rfl,t3}
 ·intro b o q z
  let⟨sl,q'⟩:=sg.2.2 b o q;exact{sl,by rw[yC _ _ (Ne.symm (other b o q z))];exact yy _ q'}
def sS (x:Fl B l e cls dx fl s.heap) (h:∀h',Fl B l e cls dx .none h'->s.heap.UpToSlots h'->Q .unit {s with heap:=h'}):wpAny M A (setFlight (.ref e) none) Q E s:=by
 let⟨st,new,fr,oe,vs,T,oT,ts,he,hc,hdx,hd,h1,nT,Te,hT,hdT,h3⟩:=x;let nr:∀b o,s.heap.get? b=some o->(∀ws,o.data≠.fields ws)->b≠T:=λb o q z y=>by subst y;rw[hT] at q;cases q;exact z _ hdT
 unfold setFlight;refine yx (y7 he hd h1 ?_);rw[yR (show(Value.ref T != Value.none)=true from by simp)];let z3:=(Array.getElem?_eq_some_iff.mp h3).1;let ot:∀b,b≠T->(s.heap.update T (Obj.mapFields (·.setIfInBounds 3 ((none:Option vw).elim Value.none λf=>rawInt f)))).get? b=s.heap.get? b:=λb z=>yC _ _ (Ne.symm z);let hd':=vf hdT (·.setIfInBounds 3 ((none:Option vw).elim Value.none λf=>rawInt f));refine wpAny_setField hT hdT z3 (h _ {λb o q=>(ot b λz=>by subst z;rw[nT] at q;cases q).trans (st b o q),new,fr.of_keeps λb o q z=>{o,(ot b (nr b o q z)).trans q,rfl},?_} λb o q z=>{o.slots,(ot b (nr b o q z)).trans q});exact{oe,vs,T,_,_,(ot e (Ne.symm Te)).trans he,hc,hdx,hd,h1,nT,Te,yD _ hT (Obj.isFreed_of_fields hd'),hd',by simp[z3]}
def PY {oe:Obj} {vs:Array vm} (hfr:A.frames=some (env::outer)) (hl:s.heap.FunFrames B (env::outer)) (hf:env.frame=some L) (he:s.heap.get? e=some oe) (hb:B.StaysIn s.heap) (hn:B.get? e=none) (hd:oe.data=.fields vs) (h1:vs[1]?=some .none)
  (h:∀h',Fl B (env::outer) e oe.cls oe.dict (rawInt L) h'->s.heap.UpToSlots h'->Q .unit {s with heap:=h'}):wpAny M A (noteFrame (.ref e) env) Q E s:=by
 unfold noteFrame;simp only[hf];refine yx (y7 he hd h1 ?_);rw[yQ ∅];exact IG hfr hl hf he hb hn hd (Array.getElem?_eq_some_iff.mp h1).1 h
def Rx (hfr:A.frames=some (env::outer)) (hf:env.frame=some L) (x:Fl B (env::outer) e cls dx .none s.heap) (h:∀h',Fl B (env::outer) e cls dx (rawInt L) h'->s.heap.UpToSlots h'->Q .unit {s with heap:=h'}):wpAny M A (noteFrame (.ref e) env) Q E s:=by
 let⟨st,new,fr,oe,vs,T,oT,ts,he,hc,hdx,hd,h1,nT,Te,hT,hdT,h3⟩:=x;let nr:∀b o,s.heap.get? b=some o->(∀ws,o.data≠.fields ws)->b≠T:=λb o q z y=>by subst y;rw[hT] at q;cases q;exact z _ hdT
 unfold noteFrame;simp only[hf];refine yx (y7 he hd h1 ?_);rw[yR (show(Value.ref T != Value.none)=true from by simp)];refine yx (y7 hT hdT h3 ?_);rw[yQ (show¬((Value.none == rawInt L)=true) from by simp[rawInt])];let ot:∀b,b≠T->(s.heap.update T (Obj.mapFields (·.setIfInBounds 3 Value.none))).get? b=s.heap.get? b:=λb z=>yC _ _ (Ne.symm z);refine yx (wpAny_setField hT hdT (Array.getElem?_eq_some_iff.mp h3).1 ?_);subst hc hdx;refine IG hfr (fr.of_keeps λb o q z=>{o,(ot b (nr b o q z)).trans q,rfl}) hf ((ot e (Ne.symm Te)).trans he) (λb o q=>(ot b λz=>by subst z;rw[nT] at q;cases q).trans (st b o q)) new hd (Array.getElem?_eq_some_iff.mp h1).1 λh' x u=>h h' x λb o q z=>u b o ((ot b (nr b o q z)).trans q) z
end
section
variable {K:yE} {D x:vw} {prog:vo} {w:vq} {A:vt} {E:vm->vn->Prop} {h:vx} {g:Array GenState} {d:Drawn} {t:Nat} {os:OsState} {name:Str} {v:vm} {o:Obj} {dx:vw} {mA:Str->Option vm}
def QF {M:Model} (X:K.In h) (hx:h.get? x=some o) (hc:o.cls=.ref D) (hno:PySem.W.notCls o=true) (hd:o.dict=some dx) (hn:h.Ns1 dx mA) (hh:PySem.W.hasDictIn K D=true) (ha:PySem.W.findIn K (.ref D) name=some none) (hv:mA name=some v) :
  PySem.W.Looks M h (Builtin.ObjectAttr.find (.ref x) (.ref D) name) (.value v):=by
 let⟨od,ho,hl⟩:=sO hn;exact PySem.W.looks_find X (od:=some od) {hx,hc,hno,by rw[hd];exact ho} (PySem.W.findObj_own hh ha rfl (by rw[hl,hv]))
open Builtin Builtin.ObjectAttr in
def Oa {tk:Tok} {Q:Fin->vn->Prop} (hx:h.get? x=some o) (hc:o.cls=.ref D) (L:PySem.W.Looks (model prog w) h (find (.ref x) (.ref D) name) (.value v)) (hq:Q (.done (.ret v)) {(h),g,d,t,os}) :
  wpAny (model prog w) A (Builtin.«object.__getattribute__» {[.ref x,.str name tk],[]}) Q E {(h),g,d,t,os}:=by
 unfold Builtin.«object.__getattribute__»
 repeat (any_goals (first | assumption | (with_reducible refine wpAny_loadPart_at hx ?_;rw[hc]) | (with_reducible refine L.at ?_) | wp_step))
def Us {tk:Tok} {fill expr:Bool} {Q:vm->vn->Prop} (X:K.In h) (Z:j6 K D) (hx:h.get? x=some o) (hc:o.cls=.ref D) (L:PySem.W.Looks (model prog w) h (Builtin.ObjectAttr.find (.ref x) (.ref D) name) (.value v)) (hv:PySem.W.handedIn v=true) (hq:Q v {(h),g,d,t,os}) :
  wpAny (model prog w) A (getAttrBy (.ref x) (.str name tk) fill expr) Q E {(h),g,d,t,os}:=by
 let f3:=F.attr_ValueError.ga.bind (.ref x);let hx0:(expr&&onTheHeap (Value.builtin "BaseException.__getattribute__"))=false:=by cases expr <;> rfl
 let hx2:(Value.builtin "BaseException.__getattribute__"== Value.builtin "object.__getattribute__")=false:=by decide +kernel
 let hx1:(onTheHeap (Value.ref D)&&Value.builtin "BaseException.__getattribute__"== Value.builtin "object.__getattribute__")=false:=by rw[hx2];rfl
 let L1:=PySem.W.looks_findIn (M:=model prog w) X Z.ga;let L2:=PySem.W.looks_findIn (M:=model prog w) X Z.W9;let ho:handedOut v=pure v:=PySem.W.handedOut_of hv
 repeat (any_goals (first | assumption | (with_reducible refine wpAny_loadPart_at hx ?_;rw[hc]) | (with_reducible refine L1.at ?_) | (with_reducible refine L2.at ?_) | wp_step))
 refine codeAny_call_builtin F.attr_ValueError.ga.plain F.entry_bexc_ga (IM X Z hx hc (Oa hx hc L ?_))
 repeat (any_goals (first | assumption | rw[ho] | wp_step))
def So {expr:Bool} {Q:vm->vn->Prop} {s:vn} (X:K.In s.heap) (Z:j6 K D) (hx:s.heap.get? x=some o) (hc:o.cls=.ref D) (hno:PySem.W.notCls o=true) (hd:o.dict=some dx) (hn:s.heap.Ns1 dx mA) (hh:PySem.W.hasDictIn K D=true) (ha:PySem.W.findIn K (.ref D) name=some none) (hm:mA name=some v) (hv:PySem.W.handedIn v=true)
  (hq:Q v {s with toks:=s.toks+1}):wpAny (model prog w) A (getAttr (.ref x) name expr) Q E s:=by
 let⟨h,g,d,t,os⟩:=s;unfold getAttr;refine yx (wpAny_mkText ?_);exact Us X Z hx hc (QF X hx hc hno hd hn hh ha hm) hv hq
end
structure EA (K:yE) (D S:vw):Prop where
 sa:PySem.W.findIn K (.ref D) "__setattr__"= some (some (.builtin "object.__setattr__"))
 cd:∃nm bs ns qn sn sub ab col del,PySem.W.clsIn K D=some {nm,bs,[.ref D,.ref S,.type "ValueError",.type "Exception",.type "BaseException",.type "object"],ns,qn,true,sn,sub,ab,col,del}
section
variable {K:yE} {D S x:vw} {prog:vo} {w:vq} {A:vt} {E:vm->vn->Prop} {name:Str} {v:vm} {o:Obj} {dx:vw} {mA:Str->Option vm} {s:vn} {Q:Unit->vn->Prop}
def Ms (self:vm):refuseLoop self "__setattr__" [.ref D,.ref S,.type "ValueError",.type "Exception",.type "BaseException",.type "object"]=pure .unit:=by
 rw[refuseLoop_ref,refuseLoop_ref];exact PySem.F.store_ValueError.passes self
open Builtin Builtin.ObjectAttr in
def Lv {od:Option Obj} {tk:Tok} {R:Result->vn->Prop} (X:K.In s.heap) (I:PySem.W.InstAt s.heap x o D od) (Z:EA K D S) (ha:PySem.W.findIn K (.ref D) name=some none)
  (h:wpAny (model prog w) A.in1 (storeInOwnDict (.ref x) (.ref D) (.str name tk) name v false) (λfin s'=>match fin with | .done f=>R (.ok f) s' | .again c'=>c'.quiet=true/\codeAny (model prog w) A c' R s') (λe s'=>R (.error e) s') s) :
  codeAny (model prog w) A (.call (.builtin "object.__setattr__") {[.ref x,.str name tk,v],[]}) R s:=by
 let SF:=PySem.F.store_object;let⟨nm,bs,ns,qn,sn,sub,ab,col,del,hc⟩:=Z.cd;let hi:PySem.W.Looks (model prog w) s.heap (isInstance (.ref x) (.type "object")) true:=I.type.andThen (PySem.W.looks_mroIn X (by unfold PySem.W.mroIn;rw[hc];rfl));refine codeAny_call_builtin SF.slot.plain SF.entry (@PySem.W.check_slot (model prog w) _ _ s "object.__setattr__" "object" "__setattr__" (.ref x) [.str name tk,v] [] _ SF.kind SF.split hi (SF.args (.ref x) (.str name tk) v) ?_);let hm:PySem.W.Looks (model prog w) s.heap (mroOf (.ref D)) [.ref D,.ref S,.type "ValueError",.type "Exception",.type "BaseException",.type "object"]:=(PySem.W.looks_clsIn X hc).andThen .now;rw[PySem.W.osa_eq,refuse_eq];refine yx (yx (I.type.here (yx (hm.here ?_))));rw[Ms];exact yz (yx (I.type.here (yx ((PySem.W.looks_findIn X ha).here (yx (yz h))))))
def N9 {vs:Array vm} (X:K.In s.heap) (hx:s.heap.get? x=some o) (hc:o.cls=.ref D) (hd:o.data=.fields vs) (hn:o.dict=none) (Z:EA K D S) (ha:PySem.W.findIn K (.ref D) name=some none)
  (h:∀h',h'.get? x=some {o with dict:=some ↑s}->h'.Ns1 ↑s (λy=>if y=name then some v else none)->(∀b u,b≠x->s.heap.get? b=some u->h'.get? b=some u)->Q .unit {s with heap:=h',toks:=s.toks+2}) :
  wpAny (model prog w) A (setAttr (.ref x) name v) Q E s:=by
 let I:PySem.W.InstAt s.heap x o D none:={hx,hc,by unfold PySem.W.notCls;rw[hd],by rw[hn];trivial}
 let⟨nm,bs,ns,qn,sn,sub,ab,col,del,hcl⟩:=Z.cd;refine PySem.W.set_plain X I Z.sa (Lv (s:={s with toks:=s.toks+1}) X I Z ha ?_);let⟨oc,odd,oda,osl⟩:=o;dsimp only at hc hd hn;subst hc hd hn;refine yx (yz (yx (yx (wpAny_loadPart hx (yx (PySem.W.Looks.here (s:={s with toks:=s.toks+1}) (PySem.W.looks_clsIn X hcl) ?_))))));let hs:x≠↑s:=yk (yB hx);let h1:=yy {cls:=Value.type "dict",data:=Data.dict #[]} hx;refine yx (wpAny_alloc' ?_);refine yx (wpAny_update' h1 ?_);refine yz (a:=some ↑s) ?_;let hu:=yD (λo:Obj=>{cls:=o.cls,dict:=some ↑s,data:=o.data,slots:=o.slots}) h1 rfl;let hg:((s.heap.push {cls:=Value.type "dict",data:=Data.dict #[]}).update x λo=>{cls:=o.cls,dict:=some ↑s,data:=o.data,slots:=o.slots}).get? ↑s=some {cls:=Value.type "dict",data:=Data.dict #[]}:=(Heap.get?_update_ne _ _ _ _ hs.symm).trans (Heap.get?_push_at rfl rfl);let hk:∀b u,b≠x->s.heap.get? b=some u->((s.heap.push {cls:=Value.type "dict",data:=Data.dict #[]}).update x λo=>{cls:=o.cls,dict:=some ↑s,data:=o.data,slots:=o.slots}).get? b=some u:=λb u z q=>(Heap.get?_update_ne _ _ _ _ z).trans (yy _ q);generalize ((s.heap.push {cls:=Value.type "dict",data:=Data.dict #[]}).update x λo=>{cls:=o.cls,dict:=some ↑s,data:=o.data,slots:=o.slots})=h2 at hu hg hk ⊢;let n2:h2.Ns ↑s (λ_=>none):={_,#[],_,hg,rfl,λe he=>absurd he (by simp),λ_=>rfl}
 show wpAny _ _ (Builtin.ObjectAttr.storeInDict ↑s (.str name s.toks) name v) _ _ _;unfold Builtin.ObjectAttr.storeInDict Builtin.ObjectAttr.newKeyGuard;refine yx (yz (yx (wpAny_nsSet1 (Heap.Ns1.of_empty n2) λh3 n3 s3=>?_)));let⟨oD,esD,epD,hoD,hdD,hcD⟩:=n3.count (Within.cons name v Within.nil);refine yx (wpAny_lookBehind hoD (by rw[hdD];exact pastItsLine_dict (zN hcD (by rw[zw,xo,yF];ext))) ?_);refine yz (h h3 ((s3.2 x hs).trans hu) n3 λb u z q=>(s3.2 b (yk (yB q))).trans (hk b u z q))
def QC {ns:List Str} {vs:Array vm} (X:K.In s.heap) (hx:s.heap.get? x=some o) (hc:o.cls=.ref D) (hd:o.data=.fields vs) (hn:o.dict=some dx) (n1:s.heap.Ns1 dx mA) (hw:Within mA ns) (hz:⇑ns<1000) (Z:EA K D S) (ha:PySem.W.findIn K (.ref D) name=some none)
  (h:∀h',h'.Ns1 dx (λy=>if y=name then some v else mA y)->Heap.SameBut dx s.heap h'->Q .unit {s with heap:=h',toks:=s.toks+2}) :
  wpAny (model prog w) A (setAttr (.ref x) name v) Q E s:=by
 let⟨od,ho,hl⟩:=sO n1;let I:PySem.W.InstAt s.heap x o D (some od):={hx,hc,by unfold PySem.W.notCls;rw[hd],by rw[hn];exact ho}
 let⟨nm,bs,ns',qn,sn,sub,ab,col,del,hcl⟩:=Z.cd;refine PySem.W.set_plain X I Z.sa (Lv (s:={s with toks:=s.toks+1}) X I Z ha ?_);let⟨oc,odd,oda,osl⟩:=o;dsimp only at hc hd hn;subst hc hd hn;refine yx (yz (yx (yx (wpAny_loadPart hx (yx (PySem.W.Looks.here (s:={s with toks:=s.toks+1}) (PySem.W.looks_clsIn X hcl) ?_))))));refine yz (a:=some dx) (yx (yz (yx ?_)));refine wpAny_nsSet1 (s:={s with toks:=s.toks+1}) n1 λh3 n3 s3=>?_;let⟨oD,esD,epD,hoD,hdD,hcD⟩:=n3.count (Within.cons name v hw);refine yx (wpAny_lookBehind hoD (by rw[hdD];exact pastItsLine_dict (zN hcD (by rw[zw,yF];ext))) ?_);exact yz (h h3 n3 s3)
end
abbrev EB:List vm:=[.type "ValueError",.type "Exception",.type "BaseException",.type "object"]
structure GI (K:yE) (C S f:vw):Prop where
 obj:∃nm q N bs hdct sn sub ab col dd k0 k1 k2 k3 k5,K.lookup C=some (excClassObj nm q C N bs (.ref S::EB) hdct sn sub ab col dd k0 k1 k2 k3 k5 "ValueError.__new__")
 up:∃nm bs ns qn hd sn sub ab col del dd sl,K.lookup S=some {.type "type",dd,.cls {nm,bs,.ref S::EB,ns,qn,hd,sn,sub,ab,col,del},sl}
 sup:PySem.W.excIn K S EB "ValueError.__new__"= true
 init:PySem.W.findIn K (.ref C) "__init__"= some (some (.ref f))
 fn:PySem.W.isFn K (.ref f)=true
 kp:PySem.W.keepIn K (.ref C)=true
 cls:j6 K C
 set:EA K C S
section
variable {K:yE} {C S f:vw} {prog:vo} {w:vq} {A:vt} {s:vn} {h:vx} {g:Array GenState} {d:Drawn} {t:Nat} {os:OsState} {E:vm->vn->Prop} {rest:List vm}
def GI.tail (M:GI K C S f) (X:K.In h):OwnTail h EB (.ref S::EB):=by
 let q:=M.sup;let⟨nm,bs,ns,qn,hd,sn,sub,ab,col,del,dd,sl,e⟩:=M.up;unfold PySem.W.excIn at q;rw[e] at q;simp only at q;split at q
 ·rename_i hm hs
  cases hm;simp only[zP,vb,Bool.not_eq_true'] at q;let⟨⟨⟨⟨⟨_,_⟩,_⟩,ht⟩,bV⟩,hni⟩:=q;exact .own (X _ _ e) (.of_isNs (PySem.W.isNs_of_in X bV)) (PySem.W.nsMap_none_of_in X bV hni) .base
 ·cases q
abbrev P4 (C t:vw):Obj:={cls:=.ref C,data:=.fields #[.ref t,.none,.none,.none,.bool false,.none]}
abbrev pP (h:vx) (C:vw) (rest:List vm):vx:=(h.push {cls:=.type "tuple",data:=.seq rest.toArray}).push (P4 C h.objs.size)
def qZ {b:vw} {o:Obj} (e:h.get? b=some o):(pP h C rest).get? b=some o:=yy _ (yy _ e)
def Ei:(pP h C rest).get? (h.objs.size+1)=some (P4 C h.objs.size):=by heap_get
def QD {Q:Fin->vn->Prop} (M:GI K C S f) (X:K.In h) (hr:⇑rest<=sizeLine)
  (hq:wpAny (model prog w) A (call (.ref f) (.ref (h.objs.size+1)::rest)) (λr s'=>r=.none/\Q (.done (.ret (.ref (h.objs.size+1)))) s') E {pP h C rest,g,d,t,os}) :
  wpAny (model prog w) A (Builtin.«type.__call__» {.ref C::rest,[]}) Q E {(h),g,d,t,os}:=by
 let F:=F.excBase_ValueError;let⟨nm,q,N,bs,hdct,sn,sub,ab,col,dd,k0,k1,k2,k3,k5,hl⟩:=M.obj;let hC:=X _ _ hl;let T:=M.tail X
 repeat (first | with_reducible refine wpAny_loadPart_at hC ?_ | with_reducible refine wpAny_madeBy_exc hC ?_ | wp_step)
 refine codeAny_call_builtin_code (Code.quiet_builtin _ F.quiet) (wpAny_check_new_subT F T hC (codeAny_exc_new_subT F T hC ?_ hr));show wpAny _ _ _ _ _ _;let X1:K.In (pP h C rest):=λa o e=>qZ (X a o e);let hC1:=X1 _ _ hl;let he:(pP h C rest).get? (h.objs.size+1)=some (P4 C h.objs.size):=Ei;let hcC:(Value.ref C::(.ref S::EB)).contains (.ref C)=true:=by simp
 unfold isInstance
 repeat (first | with_reducible refine wpAny_loadPart_at he ?_ | (with_reducible refine wpAny_isSubtype_exc hC1 ?_;rw[hcC]) | wp_step)
 refine(PySem.W.looks_findIn X1 M.init).at ?_;refine xI (yx ((PySem.W.bind_fn X1 _ (vb.mp M.fn)).at ?_));refine yx (xc hq (λr s' z=>?_) λ_ _ z=>z);let⟨rfl,z⟩:=z;wp_walk;exact z
def QE {Q:vm->vn->Prop} (M:GI K C S f) (X:K.In h) (hr:⇑rest<=sizeLine)
  (hq:wpAny (model prog w) (A.under (.builtin "type.__call__" {.ref C::rest,[]})) (call (.ref f) (.ref (h.objs.size+1)::rest)) (λr s'=>r=.none/\Q (.ref (h.objs.size+1)) s') E {pP h C rest,g,d,t,os}) :
  wpAny (model prog w) A (call (.ref C) rest) Q E {(h),g,d,t,os}:=by
 let⟨nm,q,N,bs,hdct,sn,sub,ab,col,dd,k0,k1,k2,k3,k5,hl⟩:=M.obj;let hC:=X _ _ hl;let f1:=tc_lookup;let f2:=tc_bind (.ref C);let hT:({(h),g,d,t,os}:vn).TypeIs (.ref C) "type":={_,hC,rfl}
 refine wpAny_call (codeAny_of_tree ?_);show wpAny _ _ (callAny (.ref C) _) _ _ _
 repeat (any_goals (first | assumption | with_reducible refine wpAny_loadPart_at hC ?_ | wp_step))
 refine{rfl,?_};exact codeAny_call_builtin_at (Code.quiet_builtin _ (by decide +kernel)) entry_typeCall (wpAny_check_type_call_sub hC (QD M X hr hq))
end
def Ez (C:vw) (od:Option vw) (a:vw):HO:=.ext λh=>∃o vs,h.get? a=some o/\o.cls=.ref C/\o.dict=od/\o.data=.fields vs/\vs[1]?=some .none
def GO (C:vw) (od:Option vw) (a:vw):HO:=.ext λh=>∃o vs,h.get? a=some o/\o.cls=.ref C/\o.dict=od/\o.data=.fields vs
def XD (a:vw) (fs:List (Str×V)):HO:=.ext λh=>∃mA,h.Ns1 a mA/\∀f,fN (fs.lookup f) (mA f)
section
variable {P:vo} {w:vq} {H:Hp} {h:vx} {C a:vw} {od:Option vw} {fs:List (Str×V)} {mA:Str->Option vm} {o:Obj} {vs:Array vm}
def Ez.ok (e:h.get? a=some o) (hc:o.cls=.ref C) (hd:o.dict=od) (hf:o.data=.fields vs) (h1:vs[1]?=some .none):b8 P w H h a (Ez C od a):=
 {{(o),vs,e,hc,hd,hf,h1},{(o),e},λ_ _ ⟨o,vs,e,r⟩ k=>{o,vs,k o e,r}}
def GO.ok (e:h.get? a=some o) (hc:o.cls=.ref C) (hd:o.dict=od) (hf:o.data=.fields vs):b8 P w H h a (GO C od a):=
 {{(o),vs,e,hc,hd,hf},{(o),e},λ_ _ ⟨o,vs,e,r⟩ k=>{o,vs,k o e,r}}
def XD.ok (n:h.Ns1 a mA) (r:∀f,fN (fs.lookup f) (mA f)):b8 P w H h a (XD a fs):=
 {{(mA),n,r},let ⟨o,_,_,e,_⟩:=n;{(o),e},λ_ _ ⟨m,n,r⟩ k=>{m,n.at k,r}}
def Ez.at' (ok:oH P w H h) (e:H a=some (Ez C od a)):∃o vs,h.get? a=some o/\o.cls=.ref C/\o.dict=od/\o.data=.fields vs/\vs[1]?=some .none:=(show b8 P w H h a (Ez C od a) from ok a _ e).1
def GO.at' (ok:oH P w H h) (e:H a=some (GO C od a)):∃o vs,h.get? a=some o/\o.cls=.ref C/\o.dict=od/\o.data=.fields vs:=(show b8 P w H h a (GO C od a) from ok a _ e).1
def XD.at' (ok:oH P w H h) (e:H a=some (XD a fs)):∃mA,h.Ns1 a mA/\∀f,fN (fs.lookup f) (mA f):=(show b8 P w H h a (XD a fs) from ok a _ e).1
def Mv (r:∀f,fN (fs.lookup f) (mA f)):Within mA (fs.map (·.1)):=λy hy=>by
 cases q:fs.lookup y with
 | none=>exact absurd (fN.none_of (by rw[<-q];exact r y)) hy
 | some v=>
  obtain⟨k,e,hm⟩:∃k,k=y/\(k,v)∈fs:=by
   clear r hy
   induction fs with
   | nil=>cases q
   | cons p l ih=>
    let⟨k,x⟩:=p;rw[yu] at q;split at q
    ·rename_i z;cases q;exact{k,(vb.mp z).symm,zt}
    ·let⟨k',e,m⟩:=ih q;exact{k',e,zr _ m}
  exact zI.mpr {(k,v),hm,e}
def LI {f:Str} {y:V} {u:vm} (ry:RelV y u) (r:∀g,fN (fs.lookup g) (mA g)) (g:Str):fN ((bq f y fs).lookup g) (if g=f then some u else mA g):=by
 rw[nh]
 by_cases q:g=f
 ·rw[yR q,yR q];exact ry
 ·rw[yQ q,yQ q];exact r g
end
def Xs (K:yE) (ta tv:TE) (f:Str):TS:=λD σ H=>tv σ H λy H1=>ta σ H1 λx H2=>∃a C S,x=.ref a/\H2 a=some (Ez C none a)/\EA K C S/\dA K C f/\∀dx,H2 dx=none->dx≠a->
 D.nx σ (upd (upd H2 dx (XD dx [(f,y)])) a (Ez C (some dx) a))
def Xr (K:yE) (ta tv:TE) (f:Str):TS:=λD σ H=>tv σ H λy H1=>ta σ H1 λx H2=>∃a C S dx fs,x=.ref a/\H2 a=some (Ez C (some dx) a)/\H2 dx=some (XD dx fs)/\EA K C S/\dA K C f/\⇑fs<1000/\
 D.nx σ (upd H2 dx (XD dx (bq f y fs)))
section
variable {X:Cx} {o value:Expr} {f:Str} {pos pos':Pos} {ta tv:TE}
def UX (ha:PE X o ta) (hv:PE X value tv) (hs:swapsWith value (some (.Attribute o f pos')) pos.line X.env=pure false):PS X (.Assign [.Attribute o f pos'] value pos) (Xs X.K ta tv f):=by
 intro pins s σ H D I h;refine plainObj_wpAny_Assign_Attribute (cJ (hv s σ H _ I h) λu s1 z0=>?_) hs;let⟨y,H1,I1,ry,q⟩:=z0;refine cJ (ha s1 σ H1 _ I1 q) λov s2 z1=>?_;let⟨x,H2,I2,rx,a,C,S,ex,ea,c,n,q2⟩:=z1;subst ex;obtain rfl:ov=Value.ref a:=rx;let⟨ob,vs,e,hc,hd,hf,h1⟩:=Ez.at' I2.bV ea;let hn:H2 ↑s2=none:=I2.bV.fresh (zp _);let na:↑s2≠a:=yj (yB e);refine N9 I2.kc e hc hf hd c n λh' e' n' k=>{σ,_,?_,q2 _ hn na}
 let⟨od,es,ep,eo,r⟩:=id n';let nfr:od.isFreed=false:=(Heap.get?_some_iff.mp eo).2;let p1:(s2.heap.push od).get? ↑s2=some od:=yA _ nfr;let r0:∀g,fN ([(f,y)].lookup g) (if g=f then some u else none):=λg=>by
  have:=LI (fs:=[]) (mA:=λ_=>none) (f:=f) ry (λ_=>True.intro) g;exact this
 let I3:=I2.laid (a:=↑s2) (o:=XD ↑s2 [(f,y)]) (h':=s2.heap.push od) (t':=s2.toks) (λb u q=>yy _ q) (zp _) (XD.ok (n'.at λo z=>by rw[eo] at z;cases z;exact p1) r0);let ea3:upd H2 ↑s2 (XD ↑s2 [(f,y)]) a=some (Ez C none a):=by rw[aC (Ne.symm na)];exact ea
 refine I3.write (x:=a) (e:=a) (by rw[ea3];exact True.intro) (.inl rfl) (λb v z q=>?_) {_,e'} (Ez.ok e' hc rfl hf h1);rcases Heap.get?_push_cases q with⟨rfl,rfl⟩ | q
 ·exact eo
 ·exact k b v z q
def UW (ha:PE X o ta) (hv:PE X value tv) (hs:swapsWith value (some (.Attribute o f pos')) pos.line X.env=pure false):PS X (.Assign [.Attribute o f pos'] value pos) (Xr X.K ta tv f):=by
 intro pins s σ H D I h;refine plainObj_wpAny_Assign_Attribute (cJ (hv s σ H _ I h) λu s1 z0=>?_) hs;let⟨y,H1,I1,ry,q⟩:=z0;refine cJ (ha s1 σ H1 _ I1 q) λov s2 z1=>?_;let⟨x,H2,I2,rx,a,C,S,dx,fs,ex,ea,ed,c,n,l,q2⟩:=z1;subst ex;obtain rfl:ov=Value.ref a:=rx;let⟨ob,vs,e,hc,hd,hf,h1⟩:=Ez.at' I2.bV ea;let⟨mA,n1,r⟩:=XD.at' I2.bV ed;refine QC I2.kc e hc hf hd n1 (Mv r) (by rw[zd];exact l) c n λh' n' sb=>{σ,_,?_,q2}
 let hd':∃o,h'.get? dx=some o:=let ⟨o,_,_,z,_⟩:=n';{(o),z};exact I2.write (x:=dx) (e:=dx) (by rw[ed];exact True.intro) (.inl rfl) (λb v z q=>(sb.2 b z).trans q) hd' (XD.ok n' (LI ry r))
end
def UU (K:yE):List V->Hp->VK->Prop:=λxs H Q=>∃(x D:vw) (od:Option vw) (c:V) (u:vm) (b:Bool),xs=[.ref x,c]/\H x=some (GO D od x)/\j6 K D/\((∃C,c=.ref C/\u=.ref C)\/∃n,c=.ty n/\u=.type n)/\PySem.W.kitOne K (.ref D) u=some b/\Q (.bl b) H
def S9 (K:yE):List V->Hp->VK->Prop:=λxs H Q=>∃(x D p:vw) (od:Option vw) (cs:List vw) (b:Bool),xs=[.ref x,.ref p]/\H x=some (GO D od x)/\j6 K D/\H p=some (.tup (cs.map V.ref))/\PySem.W.kitAny K (.ref D) (cs.map Value.ref)=some b/\Q (.bl b) H
def Xo (K:yE) (ta:TE) (f:Str):TE:=λσ H Q=>ta σ H λx H1=>∃a C dx fs v,x=.ref a/\H1 a=some (GO C (some dx) a)/\H1 dx=some (XD dx fs)/\j6 K C/\PySem.W.hasDictIn K C=true/\dA K C f/\fs.lookup f=some v/\Q v H1
section
variable {X:Cx} {e:Expr} {f:Str} {pos:Pos} {ta:TE}
def R6 (he:PE X e ta) (hb:attributeBase e f X.env (eval e X.env)=eval e X.env):PE X (.Attribute e f pos) (Xo X.K ta f):=by
 intro pins s σ H Q I h;refine Mi hb (cJ (he s σ H _ I h) λu s1 z0=>?_);let⟨x,H1,I1,rx,a,C,dx,fs,v,ex,ea,ed,Z,hh,n,l,q⟩:=z0;subst ex;obtain rfl:u=Value.ref a:=rx;let⟨ob,vs,eo,hc,hd,hf⟩:=GO.at' I1.bV ea;let⟨mA,n1,r⟩:=XD.at' I1.bV ed;let⟨u',hu,ru⟩:=fN.some_of (v:=v) (o:=mA f) (by rw[<-l];exact r f);exact So I1.kc Z eo hc (by unfold PySem.W.notCls;rw[hf]) hd n1 hh n hu (Ee ru) {v,H1,I1.tok _,ru,q}
def Eo:fb X (.builtin "isinstance") (UU X.K):=by
 intro pins s σ H xs us Q I r h;let⟨x,D,od,c,u,b,rfl,hx,Z,hc,e,q⟩:=h;cases r with
 | cons r rr=>
  cases rr with
  | cons r' rr=>
   cases rr;cases r;let hu:∀v,RelV c v->v=u:=by
    rintro v rv;rcases hc with⟨C,rfl,rfl⟩ | ⟨n,rfl,rfl⟩
    ·exact rv
    ·exact rv
   cases hu _ r';let⟨o,vs,e1,e2,_⟩:=GO.at' I.bV hx;exact xm (LU Z) I.kc {(o),e1,e2} e (λz=>nomatch z) λtk=>{.bl _,H,I.tok tk,rfl,q}
def K9:fb X (.builtin "isinstance") (S9 X.K):=by
 intro pins s σ H xs us Q I r h;let⟨x,D,p,od,cs,b,rfl,hx,Z,hp,e,q⟩:=h;cases r with
 | cons r rr=>
  cases rr with
  | cons r' rr=>
   cases rr;cases r;cases r';let⟨_,its,rv,o,ho,hoc,n,hod⟩:=(show b8 X.prog X.w H s.heap p (.tup _) from I.bV p _ hp)
   let eits:=DB rv;subst eits;let⟨oc,od,oda,osl⟩:=o;dsimp only at hoc hod;subst hoc hod;let⟨ox,vs,e1,e2,_⟩:=GO.at' I.bV hx;exact PySem.W.kia_tup (LU Z) I.kc {(ox),e1,e2} ho e (λz=>nomatch z) λtk=>{.bl _,H,I.tok tk,rfl,q}
end
def SH (C:vw) (sp:Sp) (E:XK) (t:TA):TE:=λσ H Q=>t σ H λvs H1=>⇑vs<=sizeLine/\∀x,H1 x=none->sp (.ref x::vs) (upd H1 x (Ez C none x)) (λv H2=>v=.bQ/\Q (.ref x) H2) E
section
variable {X:Cx} {CX:GP} {k:Nat} {f C S:vw} {fd:vv} {ps:List Str} {sp:Sp} {E:XK} {x:Str} {p pos:Pos} {e:Expr} {es:List Expr} {t:TA}
def MP {pins:List (vw×Obj)} {σ:St} {H:Hp} {s:vn} {Q:VK} {us:List vm} {vs:List V} (M:GI X.K C S f) (F:cO X.prog X.w X.K X.mg X.base CX k f fd ps sp) (hr:eT (k+1) X.A) (hb:Binds X.K fd ps [])
  (hx:Passes CX X E) (I:Inv X pins σ H s) (r:Vals vs us) (hz:⇑vs<=sizeLine)
  (h:∀x,H x=none->sp (.ref x::vs) (upd H x (Ez C none x)) (λv H2=>v=.bQ/\Q (.ref x) H2) E):wpAny (model X.prog X.w) X.A (call (.ref C) us) (EP X pins σ Q) X.xe s:=by
 let hq:=h (↑s+1) (I.bV.fresh (x6 _));let I2:=I.laid (a:=↑s+1) (o:=Ez C none (↑s+1)) (h':=pP s.heap C us) (t':=s.toks) (λb u q=>qZ q) (x6 _) (Ez.ok Ei rfl rfl rfl rfl);let r2:Vals (V.ref (↑s+1)::vs) (Value.ref (↑s+1)::us):=.cons rfl r;let hl:⇑(Value.ref (↑s+1)::us)=⇑ps:=by
  let e:=⇑r2;rw[F.len _ _ _ _ hq] at e;exact e.symm
 let hb2:=hb _ (Value.ref (↑s+1)::us) I2.kc (by rw[zW];exact hl);rw[zW] at hb2;refine QE M I.kc (by rw[<-⇑r];exact hz) (wpAny_call (xS (F.run _ X.stack _ _ {Value.ref (↑s+1)::us,[]} (Value.ref (↑s+1)::us) _ _ E (hr.make C us []) (I2.Nj.make C us []) hb2 r2 hq) λr s' hq'=>?_));cases r with
 | error e=>exact hx pins σ _ _ e s' I2 hq'
 | ok fl=>
  cases fl with
  | ret u=>
   let⟨v,H',I3,rv,ev,q3⟩:=I2.after hq';subst ev;exact{rv,{V.ref (↑s+1),H',I3,rfl,q3}}
  | next=>exact False.elim hq'
  | brk=>exact False.elim hq'
  | cont=>exact False.elim hq'
def O2 (M:GI X.K C S f) (F:cO X.prog X.w X.K X.mg X.base CX k f fd ps sp) (hr:eT (k+1) X.A) (hg:Gl X x) (hm:X.mg x=some (.ref C)) (hb:Binds X.K fd ps []) (hx:Passes CX X E)
  (ha:PA X (e::es) t) (hdb:(x == ("__debug__": Str))=false<|>qb_) (he:starEach (e::es) X.env=(false,eval e X.env)::starEach es X.env<|>qe_) (hpl:(backTo pos (starEach es X.env)).any (·.1)=false<|>qe_) :
  PE X (.Call (.Name x p) (e::es) [] pos) (SH C sp E t):=by
 intro pins s σ H Q I h;refine xq (fW I hg hm ?_ hdb);refine vd (h₀:=X.base) I.ok.mod.Qy M.kp (cJ (ha s σ H _ I h) λus s1 z0=>?_) he hpl;let⟨vs,H1,I1,r,hz,q⟩:=z0;refine{I1.kc,?_};exact MP M F hr hb hx I1 r hz q
end
def rem (H:Hp) (a:vw):Hp:=λb=>if b=a then none else H b
def pK {H:Hp} {a b:vw} (h:b≠a):rem H a b=H b:=yQ h
def ON {H:Hp} {a b:vw} {o:HO} (h:rem H a b=some o):b≠a/\H b=some o:=by
 unfold rem at h;split at h
 ·cases h
 ·exact{‹_›,h}
def QB (P:vo) (w:vq):GP:=λouter H s E e s'=>∃(a:vw) (cls:vm) (od:Option vw) (B:vx) (H':Hp),e=.ref a/\s'.os=s.os/\AllBare s'.gens/\Fl B outer a cls od .none s'.heap/\JG P w (jG outer) H H' s.heap B s'.heap/\E cls od H'
def UY {P:vo} {w:vq} {X:Cx}:Passes (QB P w) X E0:=λ_ _ _ _ _ _ _ ⟨_,_,_,_,_,_,_,_,_,_,z⟩=>z.elim
def Kf {M:Model} {A:vt} {E:vm->vn->Prop} {s:vn} {env:Env} {x:Sem vm} {Q:Flow->vn->Prop} (hh:A.handled=none)
  (h:wpAny M A x (λv s1=>∃(e C:vw) (od:Option vw) (vs:Array vm) (sl:Array (Option vm)),v=.ref e/\s1.heap.get? e=some {.ref C,od,.fields vs,sl}/\vs[1]?=some .none/\PySem.W.Looks M s1.heap (isSubtype (.ref C) (.type "BaseException")) true/\(∃oC,s1.heap.get? C=some oC/\oC.cls=.type "type")/\E (.ref e) s1) E s) :
  wpAny M A (raiseStmt env (some x) none) Q E s:=by
 unfold raiseStmt;refine yx (xc h (λv s1 h1=>?_) λ_ _ z=>z);let⟨e,C,od,vs,sl,rfl,he,h1,L1,⟨oC,hC,hcC⟩,hE⟩:=h1;let⟨cc,cd,cda,csl⟩:=oC;dsimp only at hcC;subst hcC;let⟨hp,g,d,tk,os⟩:=s1;let f1:∀{Q':vm->vn->Prop} {A':vt},Q' .none ⟨hp,g,d,tk,os⟩->wpAny M A' (field (.ref e) 1) Q' E ⟨hp,g,d,tk,os⟩:=λq=>y7 he rfl h1 q
 repeat (first | with_reducible refine wpAny_loadPart_at he ?_ | with_reducible refine wpAny_loadPart_at hC ?_ | (with_reducible refine L1.at ?_) | (with_reducible refine f1 ?_) | wp_step)
 exact wpAny_raiseNew_none hh hE
def QO (K:yE) (H₀:Hp) (te:TE) (E:XK):TS:=λ_ σ H=>te σ H λv H1=>∃a C dx,v=.ref a/\H1 a=some (Ez C (some dx) a)/\H₀ a=none/\(∃S f,GI K C S f)/\E (.ref C) (some dx) (rem H1 a)
section
variable {P:vo} {w:vq} {K:yE} {mg:Str->Option vm} {base:vx} {N:List Str} {qual:Str} {scope:Scope} {f:vw} {cdv:vm} {A:vt} {outer:List Env} {s₀:vn} {H₀:Hp} {E:XK}
def MU {x:Expr} {te:TE} {pos:Pos} (he:PE (gX (QB P w) P w K mg base N qual scope f cdv A outer s₀ H₀ E) x te) :
  PS (gX (QB P w) P w K mg base N qual scope f cdv A outer s₀ H₀ E) (.Raise (some x) none pos) (QO K H₀ te E):=by
 intro pins s σ H D I h;rw[arm_exec_Raise];refine yx (wpAny_standAt (Kf (I.ok.hd rfl) (yx (cJ (he s σ H _ I h) λu s1 z0=>?_))));let⟨v,H1,I1,rv,a,C,dx,ev,ea,ha0,⟨S,fI,hB⟩,q⟩:=z0;refine yx (wpAny_standAt (yz ?_));subst ev;obtain rfl:u=Value.ref a:=rv;let⟨ob,vs,hx,hc,hd,hf,h1⟩:=Ez.at' I1.bV ea;let⟨oc,odd,oda,osl⟩:=ob;dsimp only at hc hd hf;subst hc hd hf;let⟨_,_,_,_,_,_,_,_,_,_,_,_,_,_,_,hCl⟩:=hB.obj;refine{a,C,some dx,vs,osl,rfl,hx,h1,PySem.W.looks_mroIn I1.kc hB.cls.mB,{_,I1.kc _ _ hCl,rfl},?_};show wpAny (model P w) (A.deeper (envOfC qual scope ↑s₀ f cdv)) (leaving (envOfC qual scope ↑s₀ f cdv) (.ref a)) (λ_ s''=>QB P w outer H₀ s₀ E (.ref a) s'') (λe' s''=>QB P w outer H₀ s₀ E e' s'') s1;let hfr:jG (envOfC qual scope ↑s₀ f cdv::outer)=↑s₀::jG outer:=Bo rfl;let hst:s1.heap.FunFrames base (envOfC qual scope ↑s₀ f cdv::outer):=I1.stack;let hin:∀env∈(envOfC qual scope ↑s₀ f cdv::outer),∀b,env.frame=some b->b∈a::jG (envOfC qual scope ↑s₀ f cdv::outer):=λenv he b hf=>zr _ (vg.mpr {(env),he,hf});let hl:=PySem.W.funFrames_hide (as:=a::jG (envOfC qual scope ↑s₀ f cdv::outer)) hst hin;let mF:∀b:vw,b∉(gX (QB P w) P w K mg base N qual scope f cdv A outer s₀ H₀ E).ex:=λb z=>absurd (show b∈([]:List vw) from z) (by simp);let n0:∀o,s₀.heap.get? a≠some o:=λo e=>by
  have:=I1.base.free a o e ha0 (mF a);rw[ea] at this;cases this
 let low:∀b o,s₀.heap.get? b=some o->b≠↑s₀:=λb o e z=>absurd (yB e) (by rw[z];exact yf _);let nin:∀b o,s₀.heap.get? b=some o->b∉jG outer->b∉a::jG (envOfC qual scope ↑s₀ f cdv::outer):=λb o e n z=>by
  rw[hfr] at z;rcases zE.mp z with z | z
  ·subst z;exact n0 o e
  ·rcases zE.mp z with z | z
   ·exact low b o e z
   ·exact n z
 unfold leaving;refine yx (PY (B:=PySem.W.hideAll s1.heap (a::jG (envOfC qual scope ↑s₀ f cdv::outer))) I1.ok.frames hl rfl hx (λb o q=>PySem.W.of_hideAll _ q) (PySem.W.hideAll_none _ zt) rfl h1 λh2 x2 u2=>sS (s:={s1 with heap:=h2}) x2 λh3 x3 u3=>?_);let nt:∀b o,H1 b=some o->(∀φ,o≠.ext φ)->b≠a:=λb o e n z=>by subst z;rw[ea] at e;cases e;exact n _ rfl
 refine{a,.ref C,some dx,_,rem H1 a,rfl,I1.os,I1.bare,{(x3.st),x3.new,x3.fr.2.2,x3.ob},{λb o q n hb=>wY _ (I1.base.keep b o q n hb (mF b)) (nin b o q hb),λb o q n hb=>?_,λb o q n=>?_,λb o q hb=>?_,λb xs e=>?_,λb o u e=>?_,λb ps e=>?_,λb o q=>?_,x3.st},q}
 ·let⟨sl,e1⟩:=I1.base.slot b o q n hb (mF b)
  let⟨_,o1,e2,nd⟩:=I1.ok.nG.mem hb;let e2':s₀.heap.get? b=some o1:=e2;rw[q] at e2';cases e2';let⟨sl2,e4⟩:=u2 b _ e1 nd;let⟨sl3,e5⟩:=u3 b _ e4 nd;exact{(sl3),e5}
 ·unfold rem
  split
  ·rfl
  ·exact I1.base.free b o q n (mF b)
 ·let⟨o',e1⟩:=I1.base.there b o q (mF b)
  exact{o',wY _ e1 (nin b o q hb)}
 ·let e1:=I1.base.mz b xs e
  rw[pK (nt b _ e1 λφ z=>nomatch z)];exact e1
 ·let e1:=I1.base.kE b o u e
  rw[pK (nt b _ e1 λφ z=>nomatch z)];exact e1
 ·let⟨m,e1⟩:=I1.base.mC b ps e
  exact{m,by rw[pK (nt b _ e1 λφ z=>nomatch z)];exact e1}
 ·let⟨ne,q⟩:=ON q
  refine(I1.bV b o q).jH (λc u hc e1=>wY _ e1 λz=>?_) (λc z=>by rw[pK (nt c _ z λφ y=>nomatch y)];exact z) λc xs z=>by rw[pK (nt c _ z λφ y=>nomatch y)];exact z
  rcases zE.mp z with z | z
  ·rcases hc with hc | hc
   ·exact ne (hc▸z)
   ·exact nt c _ hc (λφ y=>nomatch y) z
  ·let n:=I1.kP c z
   rcases hc with rfl | hc
   ·rw[q] at n;cases n
   ·rw[hc] at n;cases n
def NS.Xy {x:Str} {st:Stmt} {fd:vv} {ps:List Str} {k:Nat} {sp:Sp} (F:NS K x qual st f fd) (S:d6 N ps (aT st)) (len:∀vs H Q E,sp vs H Q E->⇑vs=⇑ps)
  (hbody:∀(cdv:vm) (A:vt) (outer:List Env) (s:vn) (H:Hp) (vs:List V) (Q:VK) (E:XK),eT k (A.deeper (envOfC qual (aT st) ↑s f cdv))->sp vs H Q E->
   ∃t,Ce (gX (QB P w) P w K mg base N qual (aT st) f cdv A outer s H E) (bZ st) t/\t {nx:=λ_ H'=>Q .bQ H',rt:=Q} (start N vs) H):cO P w K mg base (QB P w) (k+1) f fd ps sp:=by
 let⟨oc,od,kV,doc,pm,an,cdv,ct,osl,rfl,lk,hcd⟩:=F.ex;exact PX lk hcd S len λA outer s H vs Q E hr hsp=>hbody cdv A outer s H vs Q E hr hsp
end
def UE (sp:Sp) (t:TA) (C:vw) (j:Nat) (th:TS):TS:=λD σ H=>t σ H λvs H1=>sp vs H1 (λ_ H2=>D.nx σ H2) λcls od H2=>cls=.ref C/\∀a,H2 a=none->th (V3 j D) (σ.set j (some (.ref a))) (upd H2 a (GO C od a))
section
variable {X:Cx} {k:Nat} {f:vw} {fd:vv} {ps:List Str} {sp:Sp} {fx cn n:Str} {p pos cpos pa np hpos:Pos} {e₀:Expr} {es:List Expr} {t:TA} {j:Nat} {C S:vw} {bmS:List vm} {newIdS:String} {b₀:Stmt} {suite:List Stmt} {th:TS}
def Q9 (F:cO X.prog X.w X.K X.mg X.base (QB X.prog X.w) k f fd ps sp) (hr:eT k X.A) (hg:Gl X fx) (hm:X.mg fx=some (.ref f)) (hk:PySem.W.keepIn X.K (.ref f)=true) (hb:Binds X.K fd ps []) (ha:PA X.FF (e₀::es) t)
  (hc:X.calm=true) (hN:X.N.Nodup) (hj:X.N[j]?=some n) (hnl:X.env.scope.names.lookup n=some .local) (hgc:Gl X cn) (hS0:PySem.W.nsIn X.K mainGlobals cn=some (some (.ref S))) (hQS:PySem.W.excIn X.K S bmS newIdS=true)
  (hSB:PySem.W.mroIn X.K S (.type "BaseException")=some true) (hup:PySem.W.mroIn X.K C (.ref S)=some true) (hstk:X.stack=X.env::X.outer) (hfrm:X.env.frame=some X.env.locals) (hex:X.ex=[])
  (hsu:∀e,Ce (X.held e).FF (b₀::suite) th)
  (hdb:(fx == ("__debug__": Str))=false<|>qb_) (hdc:(cn == ("__debug__": Str))=false<|>qb_) (he:starEach (e₀::es) X.env=(false,eval e₀ X.env)::starEach es X.env<|>qe_) (hpl:(backTo cpos (starEach es X.env)).any (·.1)=false<|>qe_)
  (hs:swapsWith (.Call (.Name fx p) (e₀::es) [] cpos) none pa.line X.env=pure false<|>qe_) :
  PS X (.Try [.Expr (.Call (.Name fx p) (e₀::es) [] cpos) pa] [.ExceptHandler (some (.Name cn np)) (some n) (b₀::suite) hpos] [] [] pos) (UE sp t C j th):=by
 intro pins s σ H D I h;let O:OwnCls cn S bmS newIdS X.mg X.base:=lj X.prog I.ok.mod hS0 hQS;let⟨ddS,cdS,slS,hSl⟩:=K5 hQS;refine wpAny_Try_except (wpAny_execs_cons ?_);refine wpAny_Expr_any ?_ I.quiet hs;refine xq (fW I hg hm ?_ hdb);let hA:wpAny (model X.prog X.w) X.A (spliced (backTo cpos (starEach (e₀::es) X.env))) (AP X.FF pins σ _) (λ_ _=>False) s:=ha s σ H _ (I.oI _) h;refine vd (h₀:=X.base) I.ok.mod.Qy hk (xc hA (λus s1 z0=>?_) λ_ _ z=>z.elim) he hpl;let⟨vs,H1,I1',r,q⟩:=z0;refine{I1'.kc,?_};let I1:Inv X pins σ H1 s1:=I1'.fP;let hl:⇑us=⇑ps:=by rw[<-⇑r];exact F.len _ _ _ _ q
 refine wpAny_call (xS (F.run X.A X.stack s1 H1 {us,[]} us vs _ _ hr I1.Nj (by have:=hb s1 us I1.kc (by rw[zW];exact hl);rw[zW] at this;exact this) r q) λrr s' hq=>?_);cases rr with
 | ok fl=>
  cases fl with
  | ret u=>
   let⟨v,H2,I2,r2,q2⟩:=I1.after hq;exact wy (wy {_,H2,I2,q2})
  | next=>exact False.elim hq
  | brk=>exact False.elim hq
  | cont=>exact False.elim hq
 | error ev=>
  let⟨a,cls,od,B,H',rfl,os,bare,fl,fly,⟨rfl,q2⟩⟩:=hq;let FT:∀b∈jG X.stack,H1 b=none:=I1.kP;let nf:∀{hh:vx},Heap.FunFrames hh B X.stack->∀b∈jG X.stack,∃o,hh.get? b=some o/\∀vs,o.data≠.fields vs:=λhF b hb=>(hF.mem hb).2;let back:∀(hh:vx),JG X.prog X.w (jG X.stack) H1 H' s1.heap B hh->Inv X pins σ H' {s' with heap:=hh}:=λhh fy=>
   I1.Mg (s':={s' with heap:=hh}) (ch:=[]) os (fy.un FT) (fy.bV.kept fy.jH) bare λb z=>absurd z (by simp)
  let hfr:X.A.frames=some (X.env::X.outer):=by rw[<-hstk];exact I1.ok.frames
  refine Rx hfr hfrm (by rw[<-hstk];exact fl) λh4 x4 up4=>?_;refine sS (s:={s' with heap:=h4}) x4 λh5 fl5 up5=>?_;let fl5':Fl B X.stack a (.ref C) od .none h5:=by rw[hstk];exact fl5
  let fy5:JG X.prog X.w (jG X.stack) H1 H' s1.heap B h5:=fly.on (up4.trans up5) fl5.st (nf fl.fr);let I5:=back h5 fy5;let⟨ob,_,_,_,_,hob,hobc,_⟩:=fl5'.ob;refine wpAny_handleBy_cons (codeAny_handlers_test (fW (X:=X.held (.ref a)) (I5.held _) hgc O.bound ?_ hdc)) (by intro q;cases q);refine Ry I5.kc hob hobc hSl hSB hup (codeAny_handlers_suite_as ?_);refine sS (s:={s' with heap:=h5}) fl5' λh6 fl6 up6=>?_;let fy6:JG X.prog X.w (jG X.stack) H1 H' s1.heap B h6:=fy5.on up6 fl6.st (nf fl5'.fr);let I6:=back h6 fy6;let⟨oe,ws,_,_,_,hoe,hoec,hoei,hoed,_⟩:=fl6.ob;let Bn:B.get? a=none:=fl6.new;let noFr:a∉jG X.stack:=λz=>by
   let⟨o,e1,e2⟩:=nf fl6.fr a z;rw[hoe] at e1;cases e1;exact e2 _ hoed
  let nL:a≠X.env.locals:=λz=>noFr (by rw[hstk,Bo hfrm,z];exact zt);let nH:H' a=none:=by
   cases e:H' a with
   | none=>rfl
   | some u=>let⟨o,e1⟩:=(fy6.bV a u e).here;rw[Bn] at e1;cases e1
  let n0:X.s₀.heap.get? a=none:=by
   cases e:X.s₀.heap.get? a with
   | none=>rfl
   | some o=>
    let⟨o',e1⟩:=I1.base.there a o e (by rw[hex];simp);let⟨o2,e2⟩:=fy6.there a o' e1 noFr;rw[Bn] at e2;cases e2
  let nC:∀y c,X.env.cells.lookup y=some c->c≠a:=λy c e z=>by
   let⟨v,o,ho,hd⟩:=I6.cell y c e;rw[z,hoe] at ho;cases ho;rw[hoed] at hd;cases hd
  let nP:∀p∈X.pn++pins,p.1≠a:=λp hp z=>by
   let⟨e,n,ne,nf',d⟩:=I1.pin p hp;have:=fy6.keep p.1 p.2 e n (by rw[z];exact noFr);rw[z,Bn] at this;cases this
  let I7:Inv X pins σ (upd H' a (GO C od a)) {s' with heap:=h6}:=I6.UB nH n0 nL nC nP (GO.ok hoe hoec hoei hoed);refine kr (X:=X.held (.ref a)) (I7.held _) hN hj (.inl hnl) (v:=.ref a) rfl (λs8 I8=>?_) (.inr hnl);refine xc (hsu (.ref a) _ _ _ (V3 j D) (I8.oI _) (q2 a nH)) (λfl s9 z=>?_) λ_ _ z=>z.elim;let z':SP X pins (V3 j D) fl s9:=SP.j7 I.ok.hd (SP.fP z);let hp:(X.env.scope.kind == .class||(X.env.scope.kind == .module&&X.env.locals != X.env.globals))=false:=by rw[I.ok.kind];rfl
  let fin:∀σ' H',Inv X pins σ' H' s9->∀(Q:Unit->vn->Prop),(∀s10,Inv X pins (σ'.set j none) H' s10->Q .unit s10)->wpAny (model X.prog X.w) X.A (do bindName X.env n .none;unbindBehindTheSuite X.env n hpos) Q X.xe s9:=λσ' H' I9 Q hQ=>by
   let⟨m,hm,hml⟩:=id I9.loc;refine wpAny_nameGoes_keeps hnl hm hp λh' v hn hs=>hQ _ (I9.QJ hN hj hml hn hs)
  cases fl with
  | next=>let⟨σ',H',I9,q⟩:=z';exact fin σ' H' I9 _ λs10 I10=>{_,_,I10,q}
  | brk=>let⟨σ',H',I9,q⟩:=z';exact fin σ' H' I9 _ λs10 I10=>{_,_,I10,q}
  | cont=>let⟨σ',H',I9,q⟩:=z';exact fin σ' H' I9 _ λs10 I10=>{_,_,I10,q}
  | ret u=>let⟨v,σ',H',I9,r,q⟩:=z';exact fin σ' H' I9 _ λs10 I10=>{v,_,_,I10,r,q}
end
structure Sl (K:yE) (D:vw):Prop where
 self:PySem.W.subIn K (.ref D) (.ref D)=some true
 ve:PySem.W.subIn K (.ref D) (.type "ValueError")=some true
 hd:PySem.W.hasDictIn K D=true
 np:dA K D "place"
 nw:dA K D "word"
def PF {K:yE} {D a b c d e:vw} (F:Sl K D) (na:mw K D a) (nb:mw K D b) (nc:mw K D c) (nd:mw K D d) (ne:mw K D e):PySem.W.kitAny K (.ref D) ([a,b,c,d,e].map Value.ref)=some false:=
 nu (na.U8 F.self) (nu (nb.U8 F.self) (nu (nc.U8 F.self) (nu (nd.U8 F.self) (nu (ne.U8 F.self) Rr))))
section
variable {X:Cx}
end
section
open AutoSeq1 (wpAny_loadPart')
section
variable {prog:vo} {w:vq} {A:vt} {E:vm->vn->Prop} {s:vn}
end
end
theorem Iq (its:Array vm):∀(k:Nat) (acc:Array vm),List.foldl (λx y=>x++y) acc (List.replicate k its)=(acc.toList++(List.replicate k its.toList).flatten).toArray
 | 0,acc=>by simp
 | k+1,acc=>by rw[List.replicate_succ,List.foldl_cons,Iq its k];simp[List.replicate_succ,zG]
theorem Ip {xs:List V} {its:List vm} (h:Vals xs its):∀k:Nat,Vals (List.replicate k xs).flatten (List.replicate k its).flatten
 | 0=>.nil
 | k+1=>by rw[List.replicate_succ,List.replicate_succ,ya,ya];exact h.append (Ip h k)
def US:R2:=λx y H Q=>∃(l:vw) (xs:List V) (n:Int),x=.ref l/\y=.int n/\H l=some (.lst xs)/\xs≠[]/\0<=n/\n<=1000/\⇑xs<=1000/\∀p,H p=none->Q (.ref p) (upd H p (.lst (List.replicate n.toNat xs).flatten))
def Rk {X:Cx}:nQ X (binaryOp .Mult) US:=by
 intro pins s σ H x y v u Q I rx ry h;let⟨l,xs,n,rfl,rfl,hH,hne,h0,h1,hl,q⟩:=h;cases rx;let⟨tk,rfl⟩:=ry;let sl:=yF;let⟨z,its,k,r,hl',e⟩:=I.Pp hH;let hm:⇑its*n.toNat<=1000*1000:=wH () ();let hs:its.toArray.size*n.toNat<=1000000:=by rw[yb];ext
 refine wpAny_binaryOp_repeat_ref (T:="list") (U:="int") ∅ {_,e,rfl} (λs'=>typeIs_int s' n tk) noFill_list_mul F.fills_int_mul F.slot_int_rmul repeat_list F.slot_int_index.lookup
  (wB F.slot_int_rmul (typeIs_int s n tk) F.entry_int_rmul (F.args_int_rmul_2 _ _) (int___rmul___int_list n tk l its.toArray k) {e,rfl,{_,e,rfl},wB F.slot_list_mul {_,e,rfl} F.entry_list_mul (F.args_list_mul_2 _ _)
   (AutoListH.list___mul___list_int_3 l its.toArray k n tk (by simp[Builtin.List.listFitsIndex];ext) () (by rw[A9 ()];exact zM)) {e,?_}})
 let ne:its.toArray.isEmpty=false:=by
  cases its with
  | nil=>exact absurd (yw.mp (by rw[hl'];rfl)) hne
  | cons a b=>rfl
 let ef:List.foldl (λx1 x2=>x1++x2) #[] (List.replicate (if its.toArray.isEmpty=true then 0 else n.toNat) its.toArray)=(List.replicate n.toNat its).flatten.toArray:=by rw[ne,yQ zM,Iq];rfl
 rw[ef];let rl:=Ip r n.toNat;refine{.ref ↑s,_,I.Tu (t':=s.toks) rl ?_,rfl,q _ I.fresh};let el:=⇑rl;let fl:⇑(List.replicate n.toNat its).flatten=n.toNat*⇑its:=by simp[List.length_flatten,List.map_replicate,List.sum_replicate_nat]
 rw[el,fl,Nat.mul_comm];ext
def SR (Tb:vw->Sp->Prop) (E:XK) (tf:TE) (t:TA):TE:=λσ H Q=>tf σ H λv H1=>∃f sp,v=.ref f/\Tb f sp/\t σ H1 λvs H2=>sp vs H2 Q E
section
variable {X:Cx} {CX:GP} {k:Nat} {o i:Expr} {p pos:Pos} {e:Expr} {es:List Expr} {tf:TE} {t:TA} {E:XK}
def O8 (Tb:vw->Sp->Prop) (hT:∀f sp,Tb f sp->Qv X CX k f sp) (hr:eT k X.A) (hv:PE X (.Subscript o i p) tf) (hx:Passes CX X E)
  (ha:PA X (e::es) t) (he:starEach (e::es) X.env=(false,eval e X.env)::starEach es X.env<|>qe_) (hpl:(backTo pos (starEach es X.env)).any (·.1)=false<|>qe_) :
  PE X (.Call (.Subscript o i p) (e::es) [] pos) (SR Tb E tf t):=by
 intro pins s σ H Q I h;let arm:eval (.Call (.Subscript o i p) (e::es) [] pos) X.env=(do callWith pos (<-eval (.Subscript o i p) X.env) [] (backTo pos (starEach (e::es) X.env)) (backToKw pos (keywordEach [] X.env))):=rfl;rw[arm];refine yx (cJ (hv s σ H _ I h) λu s1 zz=>?_);let⟨v,H1,I1,rv,f,sp,ev,hTb,h⟩:=zz;let⟨fd,ps,F,hk,hb⟩:=(hT f sp hTb).ok;subst ev;obtain rfl:u=Value.ref f:=rv;refine vd (h₀:=X.base) I1.ok.mod.Qy hk (cJ (ha s1 σ _ _ I1 h) λus s2 ⟨vs,H2,I2,r,q⟩=>{I2.kc,?_}) he hpl;exact Kb F hr hb .nil hx I2 r (by rw[zW];exact q)
end
end L2
namespace K22
open PySem L2 Lm Sc
def top (i:Nat):Stmt:=PySem.Challenge.pw_partsmith_k12_twice_lacking_and_no_bar.main.body.getD i (.Pass {0,0,0,0})
abbrev CG:=top 10
abbrev CC:=top 11
abbrev si:=top 14
abbrev CI:=top 15
abbrev Q0:=top 16
abbrev ML:=top 17
abbrev oV:=top 18
abbrev E6:=top 24
abbrev pE:=top 25
abbrev Hs:=top 26
abbrev J2:=top 36
abbrev J8:=top 37
abbrev Ho:=top 38
abbrev E5:=top 39
abbrev CA:=top 40
abbrev Hn:=top 41
abbrev Hm:=top 42
abbrev E8:=top 43
abbrev J3:=top 44
abbrev J4:=top 45
abbrev CF:=top 46
abbrev qo:=top 47
abbrev E4:=top 48
abbrev J5:=top 49
abbrev CB:=top 50
abbrev Ht:=top 51
abbrev E7:=top 52
abbrev CD:=top 53
abbrev Hr:=top 54
abbrev uz:=top 56
abbrev pC:=top 57
abbrev MM:=top 58
abbrev J7:=top 59
abbrev Cz:=top 60
abbrev Ap:=top 61
abbrev Hu:=top 62
abbrev Hv:=top 63
abbrev Av:=top 64
abbrev Hz:=top 65
abbrev Hw:=top 66
abbrev As:=top 75
abbrev Cw:=top 76
abbrev Au:=top 77
abbrev J6:=top 78
abbrev Ar:=top 79
abbrev pF:=top 80
abbrev Cy:=top 81
abbrev HA:=top 82
abbrev Ao:=top 83
abbrev Fb:=top 84
abbrev CH:=top 85
abbrev Aq:=top 86
abbrev E9:=top 87
abbrev pG:=top 89
abbrev J9:=top 90
abbrev MN:=top 91
abbrev qk:=top 92
abbrev AA:=top 94
abbrev Fd:=top 95
abbrev uC:=top 96
abbrev CJ:=top 97
abbrev uA:=top 98
abbrev uD:=top 99
abbrev AB:=top 100
abbrev sj:=top 101
abbrev uE:=top 102
abbrev uB:=top 103
abbrev Az:=top 104
abbrev qp:=top 105
abbrev Aw:=top 106
abbrev Fe:=top 107
abbrev Ay:=top 108
abbrev pI:=top 110
abbrev sk:=top 111
abbrev pH:=top 112
abbrev Fh:=top 113
abbrev Ff:=top 114
abbrev Fg:=top 115
abbrev HB:=top 116
abbrev Fc:=top 117
abbrev Ax:=top 118
abbrev CK:=top 119
abbrev OD:=top 120
abbrev qq:=inClass (top 74) 0
abbrev lW:=inClass (top 3) 0
structure Df (K:yE) (mg:Str->Option vm) (x:Str) (st:Stmt) (a:vw) (d:vv) (ps:List Str):Prop where
 F:NS K x x st a d
 g:mg x=some (.ref a)
 b:Binds K d ps []
structure VM (K:yE) (x y:Str) (st:Stmt) (a:vw) (d:vv) (ps:List Str):Prop where
 F:NS K x y st a d
 b:Binds K d ps []
set_option genInjectivity false in
set_option genSizeOf false in
structure Txt (K:yE) (mg:Str->Option vm) where
 (Dq Dp tD Dr RN NL kg Gv pW Ju Le Lj Jt Gu Dn Js Jr Gw Lf Lg gK eJ iT lJ gI jZ iU gJ jY uY BY NM Li Dm BX Jv Jw B1 Jy Jx BZ Dl B0 Lh gh d5 gH j0 gf iW gL gg iV B4 Lk NN rF B8 Gx vy Ds uZ vz B9 tE vA u9 B7 rG B5 Gy B6 pY tF pX iY Gz GA Jz iX gi gM Se lK jX eR d7 i7 qB iw b9 iS oF vP lH oE:vw)
 (C9 C6 sW Dd RG Nt kf F2 pQ Jc KP K0 Ja F1 C4 I0 IZ F4 KR KS C8 rk F0 KU C5 Jd F3 C7 Jb uQ KQ Nw KZ C3 Bw Je Jf BB Jh Jg Bz C1 BA KW By pR C2 Ji Bv F6 Dc Bx F5 KY K1 Nx rj BG F8 uT De uR uU BH sX uV uS BF rm BC F9 BE pT sY pS iQ Ga Gb Jj F7 BD Dg Qc rA mq:vv)
 (MF rN Cg vY Ci ue ED Aa rM Ab uf Ac EE v8 pj GZ EG EF vZ:Tok)
 dB:Df K mg "read_number" CG Dq C9 ["text","most"]
 fH:Df K mg "read_signed" CC Dp C6 ["text","most"]
 f9:Df K mg "common_divisor" si tD sW ["one","other"]
 eO:Df K mg "made_length" CI Dr Dd ["top","bottom"]
 added:Df K mg "added" Q0 RN RG ["one","other"]
 E3:Df K mg "shorter" ML NL Nt ["one","other"]
 eL:Df K mg "read_length" oV kg kf ["text"]
 jk:Df K mg "read_pitch" E6 Gv F2 ["fifths_text","steps_text"]
 dR:Df K mg "read_item_length" pE pW pQ ["text"]
 su:Df K mg "read_item" Hs Ju Jc ["text"]
 words_of:Df K mg "words_of" J2 Le KP ["row"]
 dq:Df K mg "all_read" J8 Lj K0 ["values"]
 eV:Df K mg "read_name" Ho Jt Ja ["word"]
 cU:Df K mg "read_plain" E5 Gu F1 ["word"]
 jL:Df K mg "read_within" CA Dn C4 ["word","lowest","highest"]
 sr:Df K mg "read_time" Hn Js I0 ["word"]
 so:Df K mg "read_turn" Hm Jr IZ ["fifths_word","steps_word"]
 pL:Df K mg "read_metre" E8 Gw F4 ["word"]
 AL:Df K mg "read_key" J3 Lf KR ["word"]
 AM:Df K mg "read_end" J4 Lg KS ["word"]
 jO:Df K mg "read_player" CF gK C8 ["words"]
 fA:Df K mg "read_instrument" qo eJ rk ["words"]
 kW:Df K mg "read_staff" E4 iT F0 ["words"]
 qA:Df K mg "read_bar" J5 lJ KU ["words"]
 jM:Df K mg "read_upbeat" CB gI C5 ["words"]
 nX:Df K mg "read_hold" Ht jZ Jd ["words"]
 kX:Df K mg "read_notes" E7 iU F3 ["words"]
 jN:Df K mg "read_repeat" CD gJ C7 ["words"]
 nV:Df K mg "read_jump" Hr jY Jb ["words"]
 ke:Df K mg "is_score_word" uz uY uQ ["word"]
 AK:Df K mg "read_row" pC BY KQ ["words"]
 FV:Df K mg "ends_of" MM NM Nw ["repeat"]
 Br:Df K mg "ends_fit" J7 Li KZ ["repeat"]
 mX:Df K mg "repeat_fits" Cz Dm C3 ["repeats","repeat"]
 iH:Df K mg "repeat_round" Ap BX Bw ["repeats","bar"]
 sN:Df K mg "may_leave" Hu Jv Je ["repeats","bar"]
 oq:Df K mg "may_enter" Hv Jw Jf ["repeats","bar"]
 iP:Df K mg "in_last_pass" Av B1 BB ["repeats","bar"]
 sZ:Df K mg "coda_fits" Hz Jy Jh ["repeats","at","coda"]
 sR:Df K mg "jump_fits" Hw Jx Jg ["repeats","jump"]
 iM:Df K mg "metre_length" As BZ Bz ["score","bar"]
 mJ:Df K mg "told_length" Cw Dl C1 ["score","bar"]
 lD:Df K mg "items_length" Au B0 BA ["items"]
 kD:Df K mg "has_bars" J6 Lh KW ["score","bars"]
 iK:Df K mg "player_fault" Ar gh By ["score","player"]
 eZ:Df K mg "instrument_fault" pF d5 pR ["score","told"]
 gO:Df K mg "staff_fault" Cy gH C2 ["score","told"]
 oG:Df K mg "bar_fault" HA j0 Ji ["score","told"]
 fO:Df K mg "upbeat_fault" Ao gf Bv ["score","length"]
 lF:Df K mg "hold_fault" Fb iW F6 ["score","told"]
 jT:Df K mg "notes_fault" CH gL Dc ["score","told"]
 iI:Df K mg "repeat_fault" Aq gg Bx ["score","repeat"]
 lC:Df K mg "jump_fault" E9 iV F5 ["score","jump"]
 Bq:Df K mg "fault_of" pG B4 KY ["score","sort","told"]
 BW:Df K mg "add_hold" J9 Lk K1 ["score","told"]
 Gs:Df K mg "add_row" MN NN Nx ["score","sort","told"]
 fF:Df K mg "read_score" qk rF rj ["text"]
 dg:Df K mg "_law_cell_at" AA B8 BG ["_law_script","_law_k"]
 cX:Df K mg "_law_mixed" Fd Gx F8 ["_law_cell","_law_k"]
 gN:Df K mg "_law_names_by" uC vy uT ["_law_cell","_law_many"]
 gY:Df K mg "_law_lowest" CJ Ds De ["_law_top","_law_bottom"]
 kh:Df K mg "_law_pitch_by" uA uZ uR ["_law_m"]
 km:Df K mg "_law_items_by" uD vz uU ["_law_m","_law_length"]
 lP:Df K mg "_law_bars_by" AB B9 BH ["_law_cell","_law_many"]
 jD:Df K mg "_law_length_of" sj tE sX ["_law_bars","_law_upbeat","_law_bar"]
 ko:Df K mg "_law_holds_by" uE vA uV ["_law_cell","_law_players","_law_instruments","_law_many"]
 ki:Df K mg "_law_notes_by" uB u9 uS ["_law_cell","_law_players","_law_bars","_law_upbeat"]
 lO:Df K mg "_law_ends_by" Az B7 BF ["_law_m","_law_first","_law_last","_law_times"]
 iA:Df K mg "_law_repeats_by" qp rG rm ["_law_cell","_law_many"]
 iZ:Df K mg "_law_lasting" Aw B5 BC ["_law_repeats","_law_bar"]
 lM:Df K mg "_law_inner" Fe Gy F9 ["_law_repeats","_law_bar"]
 lL:Df K mg "_law_jump_by" Ay B6 BE ["_law_cell","_law_many","_law_repeats"]
 dU:Df K mg "_law_length_text" pI pY pT ["_law_length"]
 jE:Df K mg "_law_item_text" sk tF sY ["_law_item"]
 gB:Df K mg "_law_repeat_text" pH pX pS ["_law_repeat"]
 jF:Df K mg "_law_alike" Fh iY iQ ["_law_found","_law_due"]
 lN:Df K mg "_law_fault" Ff Gz Ga ["_law_text","_law_place","_law_word"]
 pZ:Df K mg "_law_drawn" Fg GA Gb ["_law_script"]
 tG:Df K mg "_law_rows" HB Jz Jj ["_law_s"]
 jC:Df K mg "_law_twice" Fc iX F7 ["_law_s","_law_m"]
 gk:Df K mg "_law_lacking" Ax gi BD ["_law_s","_law_m"]
 gZ:Df K mg "_law_beyond" CK gM Dg ["_law_s","_law_m"]
 WC:Df K mg "law" OD Se Qc ["_law_script"]
 QK:mg "Score"= some (.ref jX)
 RQ:Mk K jX lK
 Cb:VM K "__init__" "Score.__init__" qq lK rA ["self"]
 NF:mg "FIGURES"= some (.str "0123456789" MF)
 kM:mg "LENGTH_FIGURES"= some (.int (4) rN)
 Di:mg "HIGHEST_KEY"= some (.int (7) Cg)
 BM:mg "OCTAVE_STEPS"= some (.int (12) vY)
 Dj:mg "FIFTH_STEPS"= some (.int (7) Ci)
 mr:mg "PITCH_FIGURES"= some (.int (2) ue)
 Gh:mg "NAME_SIGNS"= some (.str "abcdefghijklmnopqrstuvwxyz0123456789" ED)
 BP:mg "LONGEST_NAME"= some (.int (12) Aa)
 kL:mg "NUMBER_FIGURES"= some (.int (3) rM)
 BQ:mg "HIGHEST_TURN"= some (.int (12) Ab)
 uX:mg "HIGHEST_METRE"= some (.int (32) uf)
 uW:mg "METRE_BOTTOMS"= some (.ref d7)
 mj:∀H,mI K H d7 [.int 1,.int 2,.int 4,.int 8,.int 16,.int 32]
 BR:mg "FEWEST_TIMES"= some (.int (2) Ac)
 Gi:mg "MOST_TIMES"= some (.int (9) EE)
 Ep:mg "READERS"= some (.ref i7)
 BO:mg "MOST_PLAYERS"= some (.int (12) v8)
 pV:mg "MOST_INSTRUMENTS"= some (.int (12) pj)
 Jm:mg "MOST_BARS"= some (.int (200) GZ)
 Gk:mg "MOST_HOLDS"= some (.int (20) EG)
 Gj:mg "MOST_ITEMS"= some (.int (40) EF)
 BN:mg "MOST_REPEATS"= some (.int (20) vZ)
 Qf:mg "FAULTS"= some (.ref qB)
 FK:mg "ValueError"= none
 R7:mg "abs"= none
 Io:mg "all"= none
 Bc:mg "any"= none
 FJ:mg "bool"= none
 jU:mg "enumerate"= none
 Pl:mg "int"= none
 bN:mg "isinstance"= none
 bx:mg "len"= none
 Bb:mg "list"= none
 U5:mg "min"= none
 dE:mg "range"= none
 U4:mg "set"= none
 Im:mg "sorted"= none
 d9:mg "str"= none
 U3:mg "sum"= none
 iL:mg "tuple"= none
 Pk:mg "zip"= none
 lG:PySem.W.nsIn K mainGlobals "NoLength"= some (some (.ref eR))
 lg:PySem.W.excIn K eR [.type "ValueError",.type "Exception",.type "BaseException",.type "object"] "ValueError.__new__"= true
 JO:mg "NoLength"= some (.ref eR)
 cf:Cf K jX
 vX:mg "BadScore"= some (.ref b9)
 dM:GI K b9 iS iw
 o7:VM K "__init__" "BadScore.__init__" lW iw mq ["self","place","word"]
 FW:PySem.W.nsIn K mainGlobals "ScoreError"= some (some (.ref iS))
 CW:PySem.W.mroIn K iS (.type "BaseException")=some true
 GV:PySem.W.mroIn K b9 (.ref iS)=some true
 Mz:mg "BadDeed"= some (.ref oF)
 QL:mg "NoBar"= some (.ref vP)
 JN:mg "NoPlayer"= some (.ref lH)
 My:mg "NoStaff"= some (.ref oE)
 Mu:mw K b9 oF
 QG:mw K b9 vP
 JJ:mw K b9 eR
 JI:mw K b9 lH
 Mt:mw K b9 oE
 xf:Sl K b9
def cw {X:Cx} {x:Str} {st:Stmt} {k n:Nat} {f:vw} {fd:vv} {ps:List Str} {sp:Sp} {e:Expr} {es:List Expr} {t:TA} {p pos:Pos} (F:cO X.prog X.w X.K X.mg X.base Cc k f fd ps sp) (hr:eT n X.A) (D:Df X.K X.mg x st f fd ps)
  (ha:PA X (e::es) t) (hk:k<=n<|>qb_) (hg:Gl X x<|>qe_) (hdb:(x == ("__debug__": Str))=false<|>qb_) (he:starEach (e::es) X.env=(false,eval e X.env)::starEach es X.env<|>qe_) (hpl:(backTo pos (starEach es X.env)).any (·.1)=false<|>qe_) :
  PE X (.Call (.Name x p) (e::es) [] pos) (gn sp [] E0 t):=Fq F (hr.mono hk) hg D.g D.F.kp D.b .nil AX ha hdb he hpl
def dF {X:Cx} {a b:Expr} {ta tb:TE} {pos:Pos} (ha:PE X a ta) (hb:PE X b tb) (hs:rJ b<|>qj_):PE X (.Subscript a b pos) (cP (qC X.K) ta tb):=AS LV ha hb hs
def cy {X:Cx} {a b:Expr} {ta tb:TE} {pos:Pos} (ha:PE X a ta) (hb:PE X b tb) (hs:rJ b<|>qj_):PE X (.Subscript a b pos) (cP (mE X.K) ta tb):=AS TF ha hb hs
def ptr {X:Cx} {a b:Expr} {ta tb:TE} {pos:Pos} {op:CmpOp} {r:R2} (ho:nQ X (compareOp op) r) (ha:PE X a ta) (hb:PE X b tb) (h:op≠.In<|>qb_) (h2:op≠.NotIn<|>qb_):PT X (.Compare a [op] [b] pos) (mM (cP r ta tb)):=jQ ho ha hb (fe b h h2)
def Lo (p:St) (n:Nat) (σ:St):Prop:=∃e:Nat->Option V,σ=p++(List.range n).map e
def Lo.of {p:St} {n:Nat} {σ:St} (h:σ.take ⇑p=p) (l:⇑σ=⇑p+n):Lo p n σ:=by
 refine{λi=>σ[⇑p+i]?.join,List.ext_getElem? λi=>?_}
 by_cases c:i<⇑p
 ·rw[wq c]
  conv=>rhs;rw[<-h]
  rw[List.getElem?_take_of_lt c]
 ·rw[z9 (),zL]
  by_cases d:i-⇑p<n
  ·rw[List.getElem?_range d]
   have:⇑p+(i-⇑p)=i:=()
   simp only[xn,this];rw[ze ()];rfl
  ·rw[wN (),wN (by simp;ext)]
   rfl
abbrev At (b:yE->TS) (K:yE):TS:=b K
abbrev Sq (b:yE->TS) (K:yE) (D:Ends):Ends:={D with nx:=b K D}
abbrev Dz (Q:VK):Ends:={nx:=λ_ H'=>Q .bQ H',rt:=Q}
def Ev (t:TE) (σ:St) (H:Hp) (v:V):Prop:=∀Q:VK,Q v H->t σ H Q
def QA (t:TA) (σ:St) (H:Hp) (vs:List V):Prop:=∀R:List V->Hp->Prop,R vs H->t σ H R
def Sm (t:TT) (σ:St) (H:Hp) (b:Bool):Prop:=∀R:Bool->Hp->Prop,R b H->t σ H R
inductive WJ (K:yE) (f:Str) (x:V) (H:Hp) (Q:VK):Prop
 | mk (a C dx:vw) (fs:List (Str×V)) (v:V) (_:x=.ref a) (_:H a=some (.ins C dx fs)) (_:RV K C) (_:dA K C f) (_:fs.lookup f=some v) (_:Q v H)
section
variable {t u:TE} {ta:TA} {c:TT} {wi:TI} {a b:TS} {gt:TG} {D:Ends} {σ:St} {H:Hp} {v x y:V} {vs:List V} {g:Int->Int->V} {i j:Int} {r:R2} {Q:VK} {R:List V->Hp->Prop} {S:Bool->Hp->Prop} {k:Bool} {K:yE} {p:vw} {xs:List V}
def TV {n:Nat} (e:σ[n]?=some (some v)):Ev (aW n) σ H v:=λ_ q=>{(v),e,q}
def WM:Ev (tC v) σ H v:=λ_ q=>q
def Vl (a:Ev t σ H (.int i)) (b:Ev u σ H (.int j)):Ev (cP (tO g) t u) σ H (g i j):=λ_ q=>a _ (b _ {_,_,rfl,rfl,q})
def Vk {C:Int->Int->Prop} (a:Ev t σ H (.int i)) (b:Ev u σ H (.int j)) (c:C i j):Ev (cP (rI C g) t u) σ H (g i j):=λ_ q=>a _ (b _ {_,_,rfl,rfl,c,q})
def Vj (a:Ev t σ H (.ref p)) (b:Ev u σ H (.int j)) (h:H p=some (.tup xs)) (e:tm xs j=some v):Ev (cP (mE K) t u) σ H v:=λ_ q=>a _ (b _ {_,_,_,_,rfl,rfl,bC h,e,q})
def TY:QA cE σ H []:=λ_ q=>q
def RA (a:Ev t σ H v) (b:QA ta σ H vs):QA (aY t ta) σ H (v::vs):=λ_ q=>a _ (b _ q)
def TZ (a:Ev t σ H v):Ev (MG t) σ H (.bl (decide (v=.bQ))):=λ_ q=>a _ q
def Rz (a:Ev t σ H v):Ev (G1 t) σ H (.bl (!decide (v=.bQ))):=λ_ q=>a _ q
def TX (a:Ev t σ H (.bl k)):Ev (UI t) σ H (.bl (!k)):=λ_ q=>a _ {_,rfl,q}
def Vm (a:Ev t σ H x) (b:Ev u σ H y) (s:QY x y=true):Ev (cP Wv t u) σ H (.bl (decide (x=y))):=λ_ q=>a _ (b _ {(s),q})
def Vi (a:Ev t σ H x) (b:Ev u σ H y) (s:QY x y=true):Ev (cP Wt t u) σ H (.bl (!decide (x=y))):=λ_ q=>a _ (b _ {(s),q})
def WK (a:Ev t σ H (.bl k)):Sm (mM t) σ H k:=λ_ q=>a _ {_,rfl,q}
def WN (a:Ev t σ H (.bl k)):Sm (tB t) σ H k:=λ_ q=>a _ {_,rfl,q}
def WL (a:Sm c σ H k):Sm (QP c) σ H (!k):=λ_ q=>a _ q
def UO (e:Ev t σ H v) (q:gt v σ H D.nx):rO t gt D σ H:=e _ q
def UN (e:Ev t σ H v) (q:D.rt v H):Oj t D σ H:=e _ q
def Wq {a b:yE->TS} (e:Sm c σ H k) (q:if k=true then At a K D σ H else At b K D σ H):EK c (a K) (b K) D σ H:=e _ q
def VN {b:yE->TS} (q:a (Sq b K D) σ H):EI a (b K) D σ H:=q
def VT {n:Nat} {S:St->Hp->Prop} (q:S (σ.set n (some v)) H):bW n v σ H S:=q
def VQ {b:yE->TS} (q:b K D σ H):(Sq b K D).nx σ H:=q
def VP (q:D.nx σ H):Ad D σ H:=q
def Ux (q:t σ H λx H1=>gt x σ H1 D.nx):rO t gt D σ H:=q
def Uu (q:t σ H D.rt):Oj t D σ H:=q
def Sr (q:t σ H λ_ H1=>D.nx σ H1):Ae t D σ H:=q
def VS (q:c σ H λz H1=>if z=true then a D σ H1 else b D σ H1):EK c a b D σ H:=q
def VU {a b:yE->TS} (q:c σ H λz H1=>if z=true then At a K D σ H1 else At b K D σ H1):EK c (a K) (b K) D σ H:=q
def UM (e:Sm c σ H k) (q:S k H):c σ H S:=e S q
def Xl (q:t σ H λx H'=>∃k,x=.bl k/\S k H'):mM t σ H S:=q
def Xm (q:t σ H λx H'=>∃k,x=.bl k/\S k H'):tB t σ H S:=q
def VY (e:Ev t σ H v) (q:Q v H):t σ H Q:=e Q q
def w_arg (e:QA ta σ H vs) (q:R vs H):ta σ H R:=e R q
def x_call {sp:Sp} {dv:List V} {E:XK} (q:ta σ H λvs H1=>sp (vs++dv) H1 Q E):gn sp dv E ta σ H Q:=q
def VV {q':List V->Hp->VK->Prop} (q:ta σ H λvs H1=>q' vs H1 Q):EL q' ta σ H Q:=q
def Ut (q:ta σ H λxs H1=>⇑xs<=sizeLine/\∀p,H1 p=none->Q (.ref p) (upd H1 p (.tup xs))):EH ta σ H Q:=q
def Uv (q:ta σ H λxs H1=>⇑xs<=sizeLine/\∀p,H1 p=none->Q (.ref p) (upd H1 p (.lst xs))):oJ ta σ H Q:=q
def Ss {fr:List (Option Nat)} (q:wi σ H λJ H1=>dQ (fr.map λo=>o.bind λj=>(σ[j]?).join) gt c t Q J H1):mP fr wi gt c t σ H Q:=q
def Wo {R:It->Hp->Prop} (e:Ev t σ H (.ref p)) (q:(∃xs,fM K H p xs)/\R (Qs K p) H):LX K t σ H R:=e _ {_,rfl,q}
def VO {R:It->Hp->Prop} (q:ta σ H λvs H1=>∃j:Int,vs=[.int j]/\-(2^62)<=j/\j<2^62/\R (Qr 0 j.toNat) H1):PL ta σ H R:=q
abbrev iJ (J:It):TI:=λ_ H R=>R J H
def Fr (g:TG) (b:TS) (D:Ends) (σ:St) (J:It) (H:Hp):Prop:=SJ (iJ J) g b D σ H
def Uw {b:yE->TS} (q:wi σ H (Fr gt (At b K) D σ)):SJ wi gt (b K) D σ H:=q
def x_at {b:yE->TS} (q:b K D σ H):At b K D σ H:=q
def VR {R:It->Hp->Prop} (q:t σ H λx H1=>∃a,x=.ref a/\(∃xs,fM K H1 a xs)/\R (Qs K a) H1):LX K t σ H R:=q
def V9 {R:It->Hp->Prop} (e:QA ta σ H vs) (q:∃a xs,vs=[.ref a]/\fM K H a xs/\R (Uh K a) H):Sa K ta σ H R:=e _ q
def V5 {R:It->Hp->Prop} (e:QA ta σ H vs) (q:∃j:Int,vs=[.int j]/\-(2^62)<=j/\j<2^62/\R (Qr 0 j.toNat) H):PL ta σ H R:=e _ q
def Sw {sp:Sp} {dv:List V} {E:XK} (e:QA ta σ H vs) (q:sp (vs++dv) H Q E):gn sp dv E ta σ H Q:=e _ q
def Wa {q':List V->Hp->VK->Prop} (e:QA ta σ H vs) (q:q' vs H Q):EL q' ta σ H Q:=e _ q
def V4 (e:QA ta σ H vs) (q:⇑vs<=sizeLine/\∀p,H p=none->Q (.ref p) (upd H p (.tup vs))):EH ta σ H Q:=e _ q
def V8 (e:QA ta σ H vs) (q:⇑vs<=sizeLine/\∀p,H p=none->Q (.ref p) (upd H p (.lst vs))):oJ ta σ H Q:=e _ q
def UP {d:TT} (e:Sm c σ H k) (q:if k=true then d σ H S else S false H):SS c d σ H S:=e _ q
def Wn {d:TT} (e:Sm c σ H k) (q:if k=true then S true H else d σ H S):Wk c d σ H S:=e _ q
def Uz {f:Str} (e:Ev t σ H x) (q:WJ K f x H Q):QQ K t f σ H Q:=e _ (by let⟨a,C,dx,fs,v,h1,h2,h3,h4,h5,h6⟩:=q;exact{(a),C,dx,fs,v,h1,h2,h3,h4,h5,h6})
def Wb {T:String} {q':V->List V->Hp->VK->Prop} (e:Ev t σ H x) (q:Wc K T x H/\ta σ H λxs H2=>q' x xs H2 Q):Qw K T q' t ta σ H Q:=e _ q
def UA (e:Ev t σ H (.bl k)) (q:if k=true then u σ H Q else Q (.bl false) H):RW t u σ H Q:=e _ {_,rfl,q}
def V6 (e:Ev t σ H (.bl k)) (q:if k=true then Q (.bl true) H else u σ H Q):UH t u σ H Q:=e _ {_,rfl,q}
def V7 (q:t σ H λx H1=>u σ H1 λy H2=>r x y H2 Q):cP r t u σ H Q:=q
def Sv (q:t σ H λx H1=>ta σ H1 λxs H2=>R (x::xs) H2):aY t ta σ H R:=q
def VW (e:Ev t σ H x) (q:u σ H λy H2=>r x y H2 Q):cP r t u σ H Q:=e _ q
def Su (e:Ev t σ H v) (q:ta σ H λxs H2=>R (v::xs) H2):aY t ta σ H R:=e _ q
def VX (q:Q (g i j) H):tO g (.int i) (.int j) H Q:={(i),j,rfl,rfl,q}
def Uy (h:H p=some (.tup xs)) (e:tm xs j=some v) (q:Q v H):mE K (.ref p) (.int j) H Q:={_,_,_,_,rfl,rfl,bC h,e,q}
end
def eD {g:TG} {tb:TS} {x:V} {σ:St} {H:Hp} {A C:St->Hp->Prop} {B:VK} (h:∀N:Ends,(∀σ H,A σ H->N.nx σ H)->(∀v H,B v H->N.rt v H)->(∀σ H,A σ H->N.ct σ H)->(∀σ H,C σ H->N.bk σ H)->g x σ H λσ2 H2=>tb N σ2 H2):g x σ H λσ2 H2=>tb {nx:=A,rt:=B,bk:=C,ct:=A} σ2 H2:=h _ (λ_ _ z=>z) (λ_ _ z=>z) (λ_ _ z=>z) λ_ _ z=>z
def V1 {r:Sp} {vs:List V} {H:Hp} {Q:VK} {E:XK} (h:∀Q':VK,(∀v H',Q v H'->Q' v H')->r vs H Q' E):r vs H Q E:=h Q λ_ _ z=>z
def V2 {r:R2} {x y:V} {H:Hp} {Q:VK} (h:∀Q':VK,(∀v H',Q v H'->Q' v H')->r x y H Q'):r x y H Q:=h Q λ_ _ z=>z
def VZ {r:V->Hp->VK->Prop} {x:V} {H:Hp} {Q:VK} (h:∀Q':VK,(∀v H',Q v H'->Q' v H')->r x H Q'):r x H Q:=h Q λ_ _ z=>z
abbrev dz (P:vo) (w:vq) (base:vx) (n:Nat) {K:yE} {mg:Str->Option vm} {x:Str} {st:Stmt} {a:vw} {d:vv} {ps:List Str} (_:Df K mg x st a d ps) (sp:Sp):Prop:=cO P w K mg base Cc n a d ps sp
theorem _root_.L2.NS.Um {P:vo} {w:vq} {K:yE} {mg:Str->Option vm} {base:vx} {x qual:Str} {st:Stmt} {f:vw} {fd:vv} {N ps:List Str} {k:Nat} {sp:Sp} (F:NS K x qual st f fd) (S:d6 N ps (aT st))
  (hbody:∀(cdv:vm) (A:vt) (outer:List Env) (s:vn) (H:Hp) (vs:List V) (Q:VK) (E:XK),eT k (A.deeper (PyProof.Rows.envOfC qual (aT st) ↑s f cdv))->sp vs H Q E->
   ∃t,Ce (gX Cc P w K mg base N qual (aT st) f cdv A outer s H E).FF (bZ st) t/\t (Dz Q) (start N vs) H)
  (len:(∀vs H Q E,sp vs H Q E->⇑vs=⇑ps)<|>qk_):cO P w K mg base Cc (k+1) f fd ps sp:=F.ok S len hbody
def W8 {P:vo} {w:vq} {K:yE} {mg:Str->Option vm} {base:vx} {x:Str} {st:Stmt} {f:vw} {fd:vv} {N ps:List Str} {k:Nat} {sp:Sp} (D:Df K mg x st f fd ps) (S:d6 N ps (aT st))
  (hbody:N.Nodup->∀(cdv:vm) (A:vt) (outer:List Env) (s:vn) (H:Hp) (vs:List V) (Q:VK) (E:XK),eT k (A.deeper (PyProof.Rows.envOfC x (aT st) ↑s f cdv))->sp vs H Q E->
   ∃t,Ce (gX Cc P w K mg base N x (aT st) f cdv A outer s H E).FF (bZ st) t/\t (Dz Q) (start N vs) H)
  (len:(∀vs H Q E,sp vs H Q E->⇑vs=⇑ps)<|>qk_):cO P w K mg base Cc (k+1) f fd ps sp:=D.F.ok S len (hbody S.nd)
def Sd {N P:List Str} {sc:Scope} (h1:sc.kind=.function<|>qe_) (h2:sc.isCoroutine=false<|>qe_) (h3:sc.isGenerator=false<|>qe_) (h4:N.Nodup<|>ql_) (h5:N.take P.length=P<|>qe_) (h6:(∀x∈P,sc.names.lookup x=some .local\/sc.names.lookup x=some .cell)<|>ql_) (h7:(∀y∈sc.names,y.2≠.free)<|>ql_):d6 N P sc:={(h1),h2,h3,h4,h5,h6,h7}
def dC {X:Cx} {x:Str} {id:String} {r:List V->Hp->VK->Prop} {e:Expr} {es:List Expr} {t:TA} {p pos:Pos} (hc:fb X (.builtin id) r) (hm:X.mg x=none) (ha:PA X (e::es) t) (hg:Gl X x<|>qe_) (hv:bootBuiltins x=some (.builtin id)<|>ql_) (hn:x≠ "__name__"<|>qb_) (hdb:(x == ("__debug__": Str))=false<|>qb_)
  (he:starEach (e::es) X.env=(false,eval e X.env)::starEach es X.env<|>qe_) (hpl:(backTo pos (starEach es X.env)).any (·.1)=false<|>qe_):PE X (.Call (.Name x p) (e::es) [] pos) (EL r t):=HV hc hg hm hv ha hn hdb he hpl
def oa {X:Cx} {x:Str} {id:String} {r:List V->Hp->VK->Prop} {e:Expr} {es:List Expr} {t:TA} {p pos:Pos} (hc:fb X (.type id) r) (hm:X.mg x=none) (ha:PA X (e::es) t) (hg:Gl X x<|>qe_) (hv:bootBuiltins x=some (.type id)<|>ql_) (hn:x≠ "__name__"<|>qb_) (hdb:(x == ("__debug__": Str))=false<|>qb_)
  (he:starEach (e::es) X.env=(false,eval e X.env)::starEach es X.env<|>qe_) (hpl:(backTo pos (starEach es X.env)).any (·.1)=false<|>qe_):PE X (.Call (.Name x p) (e::es) [] pos) (EL r t):=M0 hc hg hm hv ha hn hdb he hpl
def b7 {X:Cx} {x:Str} {e:Expr} {te:TE} {pos pos':Pos} (i:Nat) (hN:X.N.Nodup) (he:PE X e te) (hi:X.N[i]?=some x<|>qe_) (hx:Loc X.env.scope x<|>qi_) (hs:swapsWith e (some (.Name x pos')) pos.line X.env=pure false<|>qe_) (hf:X.fn x=true\/X.env.scope.names.lookup x=some .local<|>qa_) :
  PS X (.Assign [.Name x pos'] e pos) (rO te (bW i)):=OV hN hi hx he hs hf
def eN {X:Cx} {x:Str} {pos:Pos} (i:Nat) (hN:X.N.Nodup) (hi:X.N[i]?=some x<|>qe_) (hx:Loc X.env.scope x<|>qi_) (hf:X.fn x=true\/X.env.scope.names.lookup x=some .local<|>qa_):PG X (.Name x pos) (bW i):=LL hN hi hx hf
def gF {X:Cx} {ts ys:List Str} {scope:Scope} {cl:List (Str×vw)} {C:vw} {s₀:vn} {H₀:Hp} {ex:List vw} {x:Str} {pos:Pos} (i:Nat) (hN:(ts++ys).Nodup<|>ql_) (hi:(ts++ys)[i]?=some x<|>qe_) (hx:Loc (cN X (ts++ys) scope cl C s₀ H₀ ex).env.scope x<|>qi_) (hf:(cN X (ts++ys) scope cl C s₀ H₀ ex).fn x=true\/(cN X (ts++ys) scope cl C s₀ H₀ ex).env.scope.names.lookup x=some .local<|>qa_):PG (cN X (ts++ys) scope cl C s₀ H₀ ex) (.Name x pos) (bW i):=LL hN hi hx hf
def Xg (X:Cx) (e:Expr) (t:TE):Prop:=∀(pins:List (vw×Obj)) (s:vn) (σ:St) (H:Hp) (Q:VK),Inv X pins σ H s->t σ H Q->wpAny (model X.prog X.w) X.A (eval e X.env) (EP X pins σ Q) X.xe s
section
variable {X:Cx} {pos:Pos} {elt target iter:Expr} {ifs:List Expr} {scope:Scope} {ts ys:List Str} {js:List Nat} {cl:List (Str×vw)} {wi:TI} {g:TG} {tc:TT} {te:TE}
def og (hi:PI X target iter wi) (hg:∀{C s₀ H₀ ex},PG (cN X (ts++ys) scope cl C s₀ H₀ ex) target g) (hif:∀{C s₀ H₀ ex},RP (cN X (ts++ys) scope cl C s₀ H₀ ex) ifs tc) (he:∀{C s₀ H₀ ex},Xg (cN X (ts++ys) scope cl C s₀ H₀ ex) elt te)
  (hclos:closureFor scope X.env=pure cl<|>qe_) (hc:X.calm=true<|>qe_) (hcl:GC X.env.cells cl<|>qm_)
  (hLo:((relabel scope X.env).names.all λp=>(p.2 != .cell&&p.2 != .free)||ys.contains p.1||scope.names.contains (p.1,.cell))=true<|>qe_) (hno:(∀p∈scope.names,p.2=.cell->p.1∉ys)<|>ql_)
  (hfr:NT X scope cl ys js<|>qm_)
  (hkind:scope.kind=.function<|>qe_) (hnames:(∀y∈scope.names,y.2=.local->scope.names.lookup y.1=some .local)<|>ql_) (hs:(∀x,foldedSetIterable iter X.env x=pure x)<|>qd_) :
  PE X (.ListComp elt [{target,iter,ifs,0}] scope pos) (mP (ts.map (λ_=>none)++js.map some) wi g tc te):=O7 hc hclos hcl hLo hno hfr hkind hnames hi (λ_ _ _ _=>hg) (λ_ _ _ _=>hif) (λ_ _ _ _=>he) hs
def Rg {i:Nat} {x:Str} {ps pa:Pos} (hi:PI X target iter wi) (hg:∀{C s₀ H₀ ex},PG (cN X (ts++ys) scope cl C s₀ H₀ ex) target g) (hif:∀{C s₀ H₀ ex},RP (cN X (ts++ys) scope cl C s₀ H₀ ex) ifs tc) (he:∀{C s₀ H₀ ex},Xg (cN X (ts++ys) scope cl C s₀ H₀ ex) elt te) (hN:X.N.Nodup)
  (hclos:closureFor scope X.env=pure cl<|>qe_) (hc:X.calm=true<|>qe_) (hcl:GC X.env.cells cl<|>qm_)
  (hLo:((relabel scope X.env).names.all λp=>(p.2 != .cell&&p.2 != .free)||ys.contains p.1||scope.names.contains (p.1,.cell))=true<|>qe_) (hno:(∀p∈scope.names,p.2=.cell->p.1∉ys)<|>ql_)
  (hfr:NT X scope cl ys js<|>qm_)
  (hkind:scope.kind=.function<|>qe_) (hnames:(∀y∈scope.names,y.2=.local->scope.names.lookup y.1=some .local)<|>ql_) (hx1:X.N[i]?=some x<|>qe_) (hx2:Loc X.env.scope x<|>qi_) (hs:(∀x,foldedSetIterable iter X.env x=pure x)<|>qd_) (hsw:swapsWith (.ListComp elt [{target,iter,ifs,0}] scope pos) (some (.Name x ps)) pa.line X.env=pure true<|>qe_)
  (hf:X.fn x=true\/X.env.scope.names.lookup x=some .local<|>qa_) :
  PS X (.Assign [.Name x ps] (.ListComp elt [{target,iter,ifs,0}] scope pos) pa) (rO (mP (ts.map (λ_=>none)++js.map some) wi g tc te) (bW i)):=OX hc hclos hcl hLo hno hfr hkind hnames hi (λ_ _ _ _=>hg) (λ_ _ _ _=>hif) (λ_ _ _ _=>he) hN hx1 hx2 hs hsw hf
end
section
variable {P:vo} {w:vq} {K:yE} {mg:Str->Option vm} {base:vx} (T:Txt K mg)
local macro_rules | `(tactic|right) => `(tactic| (intro pp hn; generalize hG : upd _ pp _ = HH; have sm := aG.A8 hG hn; have hh := BU hG; clear hG hn))
local macro_rules | `(tactic| intros $D:ident $n:ident $s:ident $h:ident $H:ident) => `(tactic| ((try refine ⟨yg _, ?_⟩); intro $D $n; generalize hG : upd _ $D _ = $H; have $s:ident := aG.A8 hG $n; have $h:ident := BU hG; clear hG))
local macro_rules|`(tactic|ac_rfl)=>`(tactic|try dsimp only[gX,Cx.FF])
local macro_rules|`(tactic|intros $p:ident $H:ident $s:ident $h:ident)=>`(tactic|(intro $p hn;generalize hG:upd _ $p _=$H;have $s:ident:=aG.A8 hG hn;have $h:ident:=BU hG;clear hG hn))
local macro_rules|`(tactic|change $e:term)=>`(tactic|(left ;exact $e))
set_option hygiene false
local macro_rules|`(tactic|fail "h")=>`(tactic|(refine aG.on (by assumption) ?_; fail "h"))
local macro_rules|`(tactic|fail "h")=>`(tactic|assumption)
local macro_rules|`(tactic|fail "e")=>`(tactic|((with_reducible apply Vk); fail "e"; fail "e"; (first | (show (0 : Int) < _; decide) | exact And.intro ∅ ∅ | exact Or.inl ⟨∅, by decide⟩ | exact Or.inr ⟨∅, by decide⟩)))
local macro_rules|`(tactic|fail "e")=>`(tactic|((with_reducible (first | apply Vm | apply Vi)); fail "e"; fail "e"; exact rfl))
local macro_rules|`(tactic|fail "e")=>`(tactic|((with_reducible (first | apply WK | apply WN | apply WL | apply TZ | apply Rz | apply TX)); fail "e"))
local macro_rules|`(tactic|fail "e")=>`(tactic|((with_reducible apply Vj); fail "e"; fail "e"; fail "h"; exact rfl))
local macro_rules|`(tactic|fail "e")=>`(tactic|((with_reducible (first | apply Vl | apply RA)); fail "e"; fail "e"))
local macro_rules|`(tactic|fail "e")=>`(tactic|with_reducible (first | exact WM | exact TY))
local macro_rules|`(tactic|fail "e")=>`(tactic|((with_reducible apply TV); exact rfl))
local macro_rules | `(tactic| exists $es,*) => `(tactic| (left; first | ((with_reducible (first | refine V1 fun _ kq => ?_ | refine V2 fun _ kq => ?_ | refine VZ fun _ kq => ?_)); refine ⟨$es,*⟩; refine kq _ _ ?_) | refine ⟨$es,*⟩))
local macro_rules|`(tactic|fail "s")=>`(tactic|refine Or.inr ⟨_, rfl, ?_⟩)
local macro_rules|`(tactic|fail "s")=>`(tactic|refine ⟨Or.inr ⟨∅, by decide⟩, ?_⟩)
local macro_rules|`(tactic|fail "s")=>`(tactic|refine ⟨Or.inl ⟨∅, by decide⟩, ?_⟩)
local macro_rules|`(tactic|fail "s")=>`(tactic|refine ⟨(And.intro ∅ ∅), ?_⟩)
local macro_rules|`(tactic|fail "s")=>`(tactic|refine ⟨(by show (0 : Int) < _; decide), ?_⟩)
local macro_rules|`(tactic|fail "s")=>`(tactic|refine ⟨_, LA (by fail "h"), ?_⟩)
local macro_rules|`(tactic|fail "s")=>`(tactic|refine ⟨_, _, _, _, rfl, rfl, bC (by fail "h"), rfl, ?_⟩)
local macro_rules|`(tactic|fail "s")=>`(tactic|refine WE ?_)
local macro_rules|`(tactic|fail "s")=>`(tactic|refine Va ?_)
local macro_rules|`(tactic|fail "s")=>`(tactic|refine ⟨rfl, ?_⟩)
local macro_rules|`(tactic|fail "s")=>`(tactic|refine ⟨_, _, rfl, rfl, ?_⟩)
local macro_rules|`(tactic|fail "s")=>`(tactic|refine ⟨_, rfl, ?_⟩)
local macro_rules|`(tactic|fail "s")=>`(tactic|with_reducible (first | apply VX | apply Xl | apply Xm | apply x_call | apply VV | apply Ut | apply Uv | apply Ss | apply VO | apply VR | apply V7 | apply Sv))
local macro_rules|`(tactic|fail "s")=>`(tactic|((with_reducible apply Uy); fail "h"; exact rfl))
local macro_rules|`(tactic|fail "s")=>`(tactic|((with_reducible (first | apply Sw | apply Wa | apply Wo | apply Uz | apply Wb | apply UA | apply V6 | apply VW | apply Su | apply V4 | apply V8 | apply V9 | apply V5 | apply UP | apply Wn | apply s_ie)); fail "e"))
local macro_rules|`(tactic|fail "s")=>`(tactic|((with_reducible apply UM); fail "e"))
local macro_rules|`(tactic|fail "s")=>`(tactic|((with_reducible apply w_arg); fail "e"))
local macro_rules|`(tactic|fail "s")=>`(tactic|((with_reducible apply VY); fail "e"))
local macro_rules|`(tactic|fail "s")=>`(tactic|with_reducible (first | apply VN (K := K) | apply VT | apply VQ | apply VP | apply x_at | apply Ux | apply Uu | apply Sr | apply VU (K := K) | apply VS | apply Uw (K := K)))
local macro_rules|`(tactic|fail "s")=>`(tactic|((with_reducible (first | apply UO | apply UN | apply Wq (K := K))); fail "e"))
local macro_rules | `(tactic|left) => `(tactic| ((repeat fail "s"); (first | (first | apply kN4 | apply kN3 | apply kN2 | apply kN1 | apply kN0 | apply kR4 | apply kR3 | apply kR2 | apply kR1 | apply kR0); left | skip)))
local macro_rules | `(tactic| nomatch $a:term, $b:term) => `(tactic| refine W8 $a (N := $b) Sd fun qN _ _ _ _ H vs Q E hr h => ?_)
set_option hygiene true
def qJ:dz P w base 1 T.f9 jJ:=by
 nomatch T.f9,["one","other","rest"]
 let⟨a,b,rfl,h1,h2,kk⟩:=h;refine{_,(ag (AR yS (ptr jq (pv 1) af)
  (ag (b7 2 qN (ao aQ (pv 0) (pv 1)))
   (ag (b7 0 qN (pv 1))
   (aj (b7 1 qN (pv 2))))))
  (aj (ax (pv 0)))),?_}
 refine{λm σ H'=>H'=H/\∃(x y:Int) (r:Option V),σ=[some (.int x),some (.int y),r]/\0<=x/\0<=y/\Int.gcd x y=Int.gcd a b/\m=y.toNat,{_,rfl,a,b,none,rfl,h1,h2,rfl,rfl},?_};rintro m σ H' ⟨rfl,x,y,r,rfl,hx,hy,hg,rfl⟩;left
 by_cases e:y=0
 ·subst e
  refine R9 rfl ?_;refine{_,rfl,?_};let e2:Int.gcd a b=x.natAbs:=by rw[<-hg];simp
  let e3:((Int.gcd a b:Nat):Int)=x:=by rw[e2];ext
  rw[e3] at kk;exact kk
 ·refine cz (by simp[e]) ?_
  refine{λσ' H''=>∃m',m'<y.toNat/\H''=H'/\∃(x y:Int) (r:Option V),σ'=[some (.int x),some (.int y),r]/\0<=x/\0<=y/\Int.gcd x y=Int.gcd a b/\m'=y.toNat,λ_ _ h=>h,?_};exists(by show(0:Int)<y;ext),?_;left;let hp:(0:Int)<y:=()
  let l1:=zy x (by omega:y≠0);let l2:=zv x hp;exact{(x%y).toNat,(),rfl,y,x%y,_,rfl,hy,l1,(IC hx hp).trans hg,rfl}
def jr:dz P w base 2 T.eO fR:=by
 let G_common_divisor:dz P w base 1 T.f9 jJ:=qJ T
 nomatch T.eO,["top","bottom","divisor"]
 let⟨t,b,rfl,h1,h2,h3,kk⟩:=h;refine{_,(ag (b7 2 qN (cw G_common_divisor hr T.f9 (ah (pv 0) (ah (pv 1) ae))))
  (aj (ax (bT (ah (ao qH (pv 0) (pv 2)) (ah (ao qH (pv 1) (pv 2)) ae)))))),?_}
 exists t,b,rfl,h1,y8 h2,?_;let g0:=vM (t:=t) h2;let g1:Sz 8999 ((Int.gcd t b:Nat):Int):=h3.le (y8 g0) (PR h2);exists{(g0),g1},?_;exists{(g0),g1},?_;refine{dj,laid λp H' sm hp=>kk p H' sm ?_};exact hp
def Pc:dz P w base 3 T.added OA:=by
 let G_made_length:dz P w base 2 T.eO fR:=jr T
 nomatch T.added,["one","other"]
 let⟨x,y,p,q,n,m,rfl,hp,hq,rx,ry,sx,sy,hnm,kk⟩:=h;let⟨x1,x2,_⟩:=rx.pos;let⟨y1,y2,_⟩:=ry.pos;let bx1:Sz 20000 x.1:=sx.1.mono ();let bx2:Sz 20000 x.2:=sx.2.mono ();let by1:Sz 20000 y.1:=sy.1.mono ();let by2:Sz 20000 y.2:=sy.2.mono ();refine{_,(aj (ax (cw G_made_length hr T.eO (ah (ao bw (ao qG (cy (pv 0) af) (cy (pv 1) af)) (ao qG (cy (pv 1) af) (cy (pv 0) af))) (ah (ao qG (cy (pv 0) af) (cy (pv 1) af)) ae))))),?_};exists{(bx1),by2},?_;exists{(by1),bx2},?_;exists{(bx2),by2},?_;refine{_,_,rfl,Int.add_nonneg (x9 x1 (y8 y2)) (x9 y1 (y8 x2)),xA x2 y2,(sx.2.mul sy.2).mono hnm,λr H' sm hr'=>kk r H' sm hr'}
def Kk:dz P w base 1 T.E3 JV:=by
 nomatch T.E3,["one","other"]
 let⟨x,y,p,q,rfl,hp,hq,sx,sy,kk⟩:=h;let bx1:Sz 20000 x.1:=sx.1.mono ();let bx2:Sz 20000 x.2:=sx.2.mono ();let by1:Sz 20000 y.1:=sy.1.mono ();let by2:Sz 20000 y.2:=sy.2.mono ();refine{_,(aj (ax (cR fo (ao qG (cy (pv 0) af) (cy (pv 1) af)) (ao qG (cy (pv 1) af) (cy (pv 0) af)) (fe _)))),?_};exists{(bx1),by2},?_;exists{(by1),bx2},?_;change kk
def cB:dz P w base 1 T.cX Cp:=by
 nomatch T.cX,["_law_cell","_law_k"]
 let⟨c,k,rfl,h1,h2,kk⟩:=h;refine{_,(aj (ax (ao aQ (ao eE (ao eE (ao bw (ao aQ (pv 0) af) af) (ao bw (ao eE (pv 1) (pv 1)) af)) af) af))),?_};exists Or.inl {(()),()},?_;left;let e1:0<=c%2305843009213693951:=zy _ ∅;let e2:c%2305843009213693951<2305843009213693951:=zv _ ∅;refine{Or.inl {(()),()},?_};change kk
def jt:dz P w base 1 T.gY Ak:=by
 nomatch T.gY,["_law_top","_law_bottom","_law_one","_law_other"]
 let⟨t,b,rfl,h1,h2,h3,kk⟩:=h;let g0:=vM (t:=t) h2;let g1:Sz 8999 ((Int.gcd t b:Nat):Int):=h3.le (y8 g0) (PR h2);refine{_,(ag (OW (i:=2) (j:=3) rfl qN rfl rfl ∅ rfl rfl (ah (pv 0) (ah (pv 1) ae)) rfl)
  (ag (AR yS (ptr fq (pv 3) af)
  (aj (OW (i:=2) (j:=3) rfl qN rfl rfl ∅ rfl rfl (ah (pv 3) (ah (ao aQ (pv 2) (pv 3)) ae)) rfl)))
  (aj (ax (bT (ah (ao qH (pv 0) (pv 2)) (ah (ao qH (pv 1) (pv 2)) ae))))))),?_}
 exists _,_,rfl,?_;refine{λm σ H'=>H'=H/\∃(x y:Int),σ=[some (.int t),some (.int b),some (.int x),some (.int y)]/\0<=x/\0<=y/\Int.gcd x y=Int.gcd t b/\m=y.toNat,{_,rfl,t,b,rfl,h1,y8 h2,rfl,rfl},?_};rintro m σ H' ⟨rfl,x,y,rfl,hx,hy,hg,rfl⟩;left
 by_cases e:y=0
 ·subst e
  refine cD (by simp) ?_;let e2:Int.gcd t b=x.natAbs:=by rw[<-hg];simp
  let e3:x=((Int.gcd t b:Nat):Int):=by rw[e2];ext
  subst e3;exists{(g0),g1},?_;exists{(g0),g1},?_;refine{dj,laid λp H' sm hp=>kk p H' sm ?_};exact hp
 ·let hp:(0:Int)<y:=()
  refine cz (zh hp) ?_;refine{λσ' H''=>∃m',m'<y.toNat/\H''=H'/\∃(x y:Int),σ'=[some (.int t),some (.int b),some (.int x),some (.int y)]/\0<=x/\0<=y/\Int.gcd x y=Int.gcd t b/\m'=y.toNat,λ_ _ h=>h,?_};exists(by show(0:Int)<y;ext),?_;refine{_,_,rfl,?_};let l1:=zy x (by omega:y≠0);let l2:=zv x hp;exact{(x%y).toNat,(),rfl,y,x%y,rfl,hy,l1,(IC hx hp).trans hg,rfl}
def eK:d6 ["text","parts","top","bottom"] ["text"] (aT oV):=Sd
def ic:dz P w base 1 T.dB hJ:=by
 nomatch T.dB,["text","most"]
 let⟨t,most,rfl,hl,kk⟩:=h;let sl:=yF;let hz:⇑t<=sizeLine:=()
 let el:⇑t.cps.toList=⇑t:=yT;unfold rn at kk;rw[el] at kk;refine{_,(ag (aL (PW.pt (d8 (ptr fo (dC gc T.bx (ah (pv 0) ae)) af) (dk (ptr fq (dC gc T.bx (ah (pv 0) ae)) (pv 1)))))
  (aj (ax bj))
  aA)
  (ag (aL (eM (cj (dC (kK rfl) T.Io (ah (og (ts:=["sign"]) (ys:=[]) (js:=[]) (te:=(cP (λx y H Q=>∃i j,x=.str i/\y=.str j/\Q (.bl (!(Builtin.Str.occurrences j i 0 ⇑j 1).isEmpty)) H) (aW 0) (tC (.str "0123456789")))) (O0 (pv 0)) (gF 0) bG (cR DR (pv 0) (bH (v:=.str "0123456789") (by rfl) T.NF {_,rfl}) (by with_unfolding_all rfl))) ae))))
  (aj (ax bj))
  aA)
  (ag (aL (PW.pt (dr (ptr cS (AS FN (pv 0) af (λ_ _=>rfl)) az) (c9 (ptr fq (dC gc T.bx (ah (pv 0) ae)) af))))
  (aj (ax bj))
  aA)
  (aj (ax (oa Gg T.Pl (ah (pv 0) ae))))))),?_}
 exists hz,?_;left;refine uN (λc1=>?_) (λc1=>?_)
 ·left
  let z:=kk H (aF H);rw[yR (ye c1)] at z;exact z
 let c1':¬(⇑t:Int)<1:=λz=>c1 (zh z);rw[yQ c1'] at kk;exists hz,?_;left;refine uN (λc2=>?_) (λc2=>?_)
 ·left
  let z:=kk H (aF H);rw[yR (ye c2)] at z;exact z
 let c2':¬most<(⇑t:Int):=λz=>c2 (zh z);rw[yQ c2'] at kk;left;refine rB ⇑t (λi=>(t.cps.toList.take i).map λc=>V.bl (decide (c∈uP))) (λi σ H'=>H'=H/\∃v,σ=[v]) (λi hi=>by rw[zd,zR];ext) () rfl {(rfl),none,rfl} (λi σ H' hi _=>hi) (λσ H' _=>zp _) ?_ ?_
 ·rintro i x σ H1 H2 hi ⟨rfl,v,rfl⟩ ⟨rfl,c,hc,rfl⟩
  left;refine NU.push hi ?_ {rfl,_,rfl};rw[PySem.StrLaws.found_one];rw[<-xj] at hc;show List.map _ (List.take (i+1) t.cps.toList)=_;rw[xw,hc,zm];rfl
 ·rintro σ H1 ⟨rfl,_⟩
  rw[<-el,zO];intros D H2 sm h2;refine{D,t.cps.toList.map (λc=>decide (c∈uP)),rfl,ak (by rw[h2,zC];rfl),?_};let ea:(t.cps.toList.map (λc=>decide (c∈uP))).all id=t.cps.toList.all (λc=>decide (c∈uP)):=by rw[wj];rfl
  rw[ea]
  by_cases ha:t.cps.toList.all (λc=>decide (c∈uP))=true
  ·rw[ha]
   rw[yR ha] at kk;left;let h1:0<t.cps.size:=by show 0<⇑t;ext
   obtain⟨c,hc⟩:∃c,t.cps[0]?=some c:={t.cps[0]'h1,Array.getElem?_eq_getElem h1}
   let hc':t.cps.toList[0]?=some c:=by rw[xj];exact hc
   rw[hc'] at kk;refine{_,0,c,rfl,rfl,hz,bz (j:=0) hc',?_};left;let rd:PySem.intText? t=some ((NumText.digitsVal t.cps.toList:Nat):Int):=PySem.intText_digits (La ha) (λz=>by rw[z] at el;simp at el;ext) ()
   by_cases e0:c=48
   ·subst e0
    refine cz ∅ ?_;exists hz,?_;left;refine uN (λc3=>?_) (λc3=>?_)
    ·left
     let c3':1<⇑t:=by have:=ye c3;ext
     let z:=kk H2 sm;rw[yR {(rfl),c3'}] at z;exact z
    ·let c3':¬1<⇑t:=λz=>c3 (zh ())
     let z:=kk H2 sm;rw[yQ (λq=>c3' q.2)] at z;change{_,_,rfl,rd,(),z}
   ·refine cD (zg λz=>e0 ?_) ?_
    ·let z':=V.str.inj z
     exact(List.cons.inj (show [c]=[48] from y6 (λy:Str=>y.cps.toList) z')).1
    let z:=kk H2 sm;rw[yQ (λq=>e0 (ym q.1))] at z;change{_,_,rfl,rd,(),z}
  ·rw[yQ ha] at kk
   rw[Bool.eq_false_iff.mpr ha];change kk H2 sm
def ma:dz P w base 2 T.fH lS:=by
 let G_read_number:dz P w base 1 T.dB hJ:=ic T
 nomatch T.fH,["text","most","number"]
 let⟨t,most,rfl,hl,kk⟩:=h;let sl:=yF;unfold rs at kk;refine{_,(ag (aL (eM (cj (bK yJ PySem.F.slot_str_startswith PySem.F.type_str_startswith CV (pv 0) (ah az ae))))
  (aj (ax (cw G_read_number hr T.dB (ah (pv 0) (ah (pv 1) ae)))))
  aA)
  (ag (b7 2 qN (cw G_read_number hr T.dB (ah (dS JZ (pv 0) (eW af) eX) (ah (pv 1) ae))))
  (ag (aL (PW.pt (d8 (bL (cF (pv 2))) (dk (ptr cS (pv 2) af))))
  (aj (ax bj))
  aA)
  (aj (ax (m6 jh (pv 2))))))),?_}
 left
 by_cases hn:t.cps.toList[0]?=some 45
 ·rw[yR hn] at kk
  let q:=(PySem.StrLaws.subAt_one t 45 0).mpr hn;let es:(decide (0+("-": Str).length<=⇑t)&&Builtin.Str.subAt t "-" 0)=true:=by
   rw[zP];exact{zh q.1,q.2}
  rw[es];exists by ext,?_
  let h1:1<=⇑t:=by have:=q.1;let e:⇑({#[45]}:Str)=1:=rfl;ext
  let e1:(PySem.Txt.slice t (some 1) none).cps.toList=t.cps.toList.drop 1:=pB t h1;exists _,most,rfl,zN (PySem.Txt.slice_le t _ _) hl,λH1 s1=>?_;rw[e1];let z:=kk H1 s1;cases hr':rn most (t.cps.toList.drop 1) with
  | none=>
   rw[hr'] at z;change z
  | some n=>
   rw[hr'] at z;left
   by_cases e0:n=0
   ·subst e0
    refine cz ∅ ?_;change z
   ·refine cD (zg λy=>e0 (V.int.inj y)) ?_
    left;let z':Q (ov (if n=0 then none else some (-n))) H1:=z;rw[yQ e0] at z';exact z'
 ·rw[yQ hn] at kk
  let es:(decide (0+("-": Str).length<=⇑t)&&Builtin.Str.subAt t "-" 0)=false:=by
   rw[Bool.eq_false_iff];intro z;rw[zP] at z;exact hn ((PySem.StrLaws.subAt_one t 45 0).mp {ye z.1,z.2})
  rw[es];change{t,most,rfl,hl,λH1 s1=>kk H1 s1}
def m7:dz P w base 3 T.jk mS:=by
 let G_read_signed:dz P w base 2 T.fH lS:=ma T
 nomatch T.jk,["fifths_text","steps_text","fifths","steps"]
 let⟨a,b,rfl,la,lb,kk⟩:=h;unfold rp at kk;refine{_,(ag (b7 2 qN (cw G_read_signed hr T.fH (ah (pv 0) (ah (bH (v:=.int 2) (by rfl) T.mr {_,rfl}) ae))))
  (ag (b7 3 qN (cw G_read_signed hr T.fH (ah (pv 1) (ah (bH (v:=.int 2) (by rfl) T.mr {_,rfl}) ae))))
  (ag (aL (PW.pt (d8 (bL (cF (pv 2))) (dk (bL (cF (pv 3))))))
  (aj (ax bj))
  aA)
  (ag (aL (ptr jq (ao aQ (ao ly (pv 3) (ao eE (bH (v:=.int 7) (by rfl) T.Dj {_,rfl}) (pv 2))) (bH (v:=.int 12) (by rfl) T.BM {_,rfl})) af)
  (aj (ax bj))
  aA)
  (aj (ax (bT (ah (pv 2) (ah (pv 3) ae))))))))),?_}
 exists a,2,rfl,la,λH1 s1=>?_;exists b,2,rfl,lb,λH2 s2=>?_;let S2:=s1.trans s2;cases ea:rs 2 a with
 | none=>
  rw[ea] at kk;change kk .bQ H2 S2 .bQ
 | some f=>
  cases eb:rs 2 b with
  | none=>
   rw[ea,eb] at kk;change kk .bQ H2 S2 .bQ
  | some g=>
   rw[ea,eb] at kk;left
   by_cases hm:(g-7*f)%12=0
   ·refine R9 (y6 V.int hm) ?_
    left;refine{dj,laid λp H3 s3 hp=>kk (.ref p) H3 (S2.trans s3) ?_};show Lp H3 (.ref p) (if(g-7*f)%12=0 then some (f,g) else none);rw[yR hm];exact .ref hp
   ·refine cz (by simp[hm]) ?_
    left;refine kk .bQ H2 S2 ?_;show Lp H2 .bQ (if(g-7*f)%12=0 then some (f,g) else none);rw[yQ hm];exact .bQ
def lZ:cO P w K mg base (JE P w) 3 T.kg T.kf ["text"] (lR T.eR):=by
 let G_read_number:dz P w base 1 T.dB hJ:=ic T;let G_made_length:dz P w base 2 T.eO fR:=jr T;refine T.eL.F.Xx eK (λvs H Q E h=>?_) (λcdv A' outer s H vs Q E hr h=>?_)
 ·let⟨_,rfl,_⟩:=h;rfl
 ·let⟨t,rfl,lt,k1,k2⟩:=h
  let sl:=yF;let pl:=PyProof.Rows.split_pos t "/";let sh:∀z∈Txt.split t "/",⇑z<=600:=λz hz=>zN (xQ hz) lt;unfold Qx at k1 k2;refine{_,(ag (b7 1 eK.nd (bK yJ yN yM jw (pv 0) (ah az ae)))
   (ag (aL (ptr fq (dC ay T.bx (ah (pv 1) ae)) af)
   (aj (HN T.lG T.lg PySem.F.excBase_ValueError rfl (ah az ae)))
   aA)
   (ag (b7 2 eK.nd (cw G_read_number hr T.dB (ah (dF (pv 1) af) (ah (bH (v:=.int 4) (by rfl) T.kM {_,rfl}) ae))))
   (ag (b7 3 eK.nd af)
   (ag (aL (ptr cS (dC ay T.bx (ah (pv 1) ae)) af)
   (aj (b7 3 eK.nd (cw G_read_number hr T.dB (ah (dF (pv 1) af) (ah (bH (v:=.int 4) (by rfl) T.kM {_,rfl}) ae)))))
   aA)
   (ag (aL (PW.pt (d8 (bL (cF (pv 2))) (d8 (bL (cF (pv 3))) (dk (ptr cS (pv 3) af)))))
   (aj (HN T.lG T.lg PySem.F.excBase_ValueError rfl (ah az ae)))
   aA)
   (aj (ax (cw G_made_length hr T.eO (ah (pv 2) (ah (pv 3) ae))))))))))),?_}
  exists by ext,?_
  generalize Txt.split t "/"= ws at k1 k2 pl sh;intros p1 H1 s1 h1;exists p1,_,rfl,.inl (ak h1),?_
  match ws,pl,sh,k1,k2,h1 with
  | [a],_,sh,k1,k2,h1=>
   exists p1,_,0,_,rfl,rfl,ak h1,rfl,?_;exists a,4,rfl,sh a (by simp),λH2 s2=>?_;replace h1:=s2 _ _ h1;exists p1,_,rfl,.inl (ak h1),?_;cases ea:rn 4 a.cps.toList with
   | none=>
    simp only[ea] at k1 k2;left;refine{by show 1<=sizeLine;decide,k2 trivial H2 (s1.trans s2)}
   | some n=>
    simp only[ea] at k1 k2;let⟨n0,n1,_⟩:=OI ea ∅;change{_,_,rfl,n0,∅,(cq (n:=1) ∅ ∅).mono ∅,λp3 H3 s3 h3=>k1 _ rfl p3 H3 ((s1.trans s2).trans s3) h3}
  | [a,b],_,sh,k1,k2,h1=>
   exists p1,_,0,_,rfl,rfl,ak h1,rfl,?_;exists a,4,rfl,sh a (by simp),λH2 s2=>?_;replace h1:=s2 _ _ h1;exists p1,_,rfl,.inl (ak h1),?_;exists p1,_,1,_,rfl,rfl,ak h1,rfl,?_;exists b,4,rfl,sh b (by simp),λH3 s3=>?_;let S3:=(s1.trans s2).trans s3;cases ea:rn 4 a.cps.toList with
   | none=>
    simp only[ea] at k1 k2;change{by show 1<=sizeLine;decide,k2 trivial H3 S3}
   | some n=>
    cases eb:rn 4 b.cps.toList with
    | none=>
     simp only[ea,eb] at k1 k2;change{by show 1<=sizeLine;decide,k2 trivial H3 S3}
    | some m=>
     simp only[ea,eb] at k1 k2;let⟨n0,n1,_⟩:=OI ea ∅;let⟨m0,m1,_⟩:=OI eb ∅;left
     by_cases e0:m=0
     ·subst e0
      refine cz ∅ ?_;change{by show 1<=sizeLine;decide,k2 rfl H3 S3}
     ·rw[yQ e0] at k1
      refine cD (zg λy=>e0 (V.int.inj y)) ?_;change{_,_,rfl,n0,(),(cq (n:=14) () ()).mono ∅,λp4 H4 s4 h4=>k1 _ rfl p4 H4 (S3.trans s4) h4}
  | a::b::c::r,_,sh,k1,k2,h1=>
   left;refine cz (zh (show(2:Int)<(⇑((a::b::c::r).map V.str):Int) by rw[zd];simp only[zw];ext)) ?_;change{by show 1<=sizeLine;decide,k2 rfl H1 s1}
def gQ:dz P w base 4 T.dR gP:=by
 let G_read_length:cO P w K mg base (JE P w) 3 T.kg T.kf ["text"] (lR T.eR):=lZ T
 nomatch T.dR,["text","length"]
 let⟨t,rfl,lt,kk⟩:=h;unfold lr at kk;refine{_,(ag (Ra G_read_length (hr.mono ∅) rfl T.eL.g T.eL.F.kp T.eL.b (ah (pv 0) ae) rfl qN (i:=1) rfl (Or.inl rfl) rfl T.lG T.lg rfl rfl rfl (λe=>(aj (ax bj))))
  (ag (aL (ptr cS (cy (pv 1) af) af)
  (aj (ax bj))
  aA)
  (aj (ax (pv 1))))),?_}
 left;refine{lt,λx ex p1 H1 s1 h1=>?_,λen H1 s1=>{rfl,?_}}
 ·simp only[ex] at kk
  left
  by_cases e0:x.1=0
  ·refine cz (by rw[e0];rfl) ?_
   left;rw[yR e0] at kk;exact kk .bQ H1 s1 .bQ
  ·refine cD (zg λy=>e0 (V.int.inj y)) ?_
   left;rw[yQ e0] at kk;exact kk (.ref p1) H1 s1 (.ref h1)
 ·simp only[en] at kk
  change kk .bQ H1 s1 .bQ
def Ro {ws:List Str} (h:1<=⇑ws):tm (ws.map V.str) (-1)=some (.str (ws.getLast?.getD "")):=by
 let ne:ws≠[]:=λz=>by rw[z] at h;simp at h
 let e:=xW ne;let e2:ws.getLast?.getD ""= ws.getLast ne:=by rw[List.getLast?_eq_some_getLast ne];rfl
 rw[e2];let e3:ws.map V.str=ws.dropLast.map V.str++[V.str (ws.getLast ne)]:=by rw[<-List.map_singleton (f:=V.str),<-zm,e]
 rw[e3];exact BV _ _
def Pz {ws:List Str} (h:1<=⇑ws):ws.getLast?.getD "" ∈ws:=by
 let ne:ws≠[]:=λz=>by rw[z] at h;simp at h
 rw[List.getLast?_eq_some_getLast ne];exact List.getLast_mem ne
def CL:dz P w base 5 T.su oR:=by
 let G_read_item_length:dz P w base 4 T.dR gP:=gQ T;let G_read_pitch:dz P w base 3 T.jk mS:=m7 T
 nomatch T.su,["text","parts","length","pitch"]
 let⟨t,rfl,lt,kk⟩:=h;let sl:=yF;let pl:=PyProof.Rows.split_pos t ":";let sh:∀z∈Txt.split t ":",⇑z<=600:=λz hz=>zN (xQ hz) lt;unfold ir at kk;refine{_,(ag (b7 1 qN (bK yJ yN yM jw (pv 0) (ah az ae)))
  (ag (b7 2 qN (cw G_read_item_length hr T.dR (ah (dF (pv 1) (m6 jh af)) ae)))
  (ag (aL (bL (cF (pv 2)))
  (aj (ax bj))
  aA)
  (ag (aL (PW.pt (dr (ptr cS (dC ay T.bx (ah (pv 1) ae)) af) (c9 (ptr cS (dF (pv 1) af) az))))
  (aj (ax (bT (ah bj (ah (pv 2) ae)))))
  aA)
  (ag (aL (ptr jq (dC ay T.bx (ah (pv 1) ae)) af)
  (aj (ax bj))
  aA)
  (ag (b7 3 qN (cw G_read_pitch hr T.jk (ah (dF (pv 1) af) (ah (dF (pv 1) af) ae))))
  (ag (aL (bL (cF (pv 3)))
  (aj (ax bj))
  aA)
  (aj (ax (bT (ah (pv 3) (ah (pv 2) ae)))))))))))),?_}
 exists by ext,?_
 generalize Txt.split t ":"= ws at kk pl sh;intros p1 H1 s1 h1;exists p1,_,-1,_,rfl,rfl,ak h1,Ro pl,?_;refine{_,rfl,sh _ (Pz pl),λv H2 s2 hv=>?_};let h2:=s2 _ _ h1;let S2:=s1.trans s2;generalize lr (ws.getLast?.getD "")=o at kk hv;cases hv with
 | bQ=>
  change kk .bQ H2 S2 rfl
 | @ref p2 x hx=>
  let kk':∀v H',aG H H'->RT H' v (if ws.dropLast=[("r": Str)] then some (none,x) else match ws.dropLast with
   | [a,b]=>(match rp a b with | some q=>some (some q,x) | none=>none)
   | _=>none)->Q v H':=kk
  clear kk;exists p1,_,rfl,.inl (ak h2),?_
  match ws,pl,sh,kk',h2 with
  | [a],_,sh,kk,h2=>
   exists p1,_,rfl,.inl (ak h2),?_;change kk .bQ H2 S2 rfl
  | [a,b],_,sh,kk,h2=>
   exists p1,_,0,_,rfl,rfl,ak h2,rfl,?_;left
   by_cases ea:a ="r"
   ·subst ea
    refine cz ∅ ?_;change{dj,laid λp3 H3 s3 h3=>kk (.ref p3) H3 (S2.trans s3) {p3,_,p2,rfl,h3,s3 _ _ hx,.bQ}}
   ·refine cD (zg λz=>ea (V.str.inj z)) ?_
    exists p1,_,rfl,.inl (ak h2),?_;left;refine kk .bQ H2 S2 ?_;rw[yQ (by intro z;exact ea (List.cons.inj z).1)];rfl
  | [a,b,c],_,sh,kk,h2=>
   exists p1,_,rfl,.inl (ak h2),?_;exists p1,_,0,_,rfl,rfl,ak h2,rfl,?_;exists p1,_,1,_,rfl,rfl,ak h2,rfl,?_;refine{a,b,rfl,sh a (by simp),sh b (by simp),λv H3 s3 hv=>?_};let kk2:∀v H',aG H H'->RT H' v (match rp a b with | some q=>some (some q,x) | none=>none)->Q v H':=λv H' s' z=>kk v H' s' (by
    rw[yQ (by intro y;simp at y)];exact z)
   generalize rp a b=o at kk2 hv;cases hv with
   | bQ=>
    change kk2 .bQ H3 (S2.trans s3) rfl
   | @ref p4 q hq=>
    change{dj,laid λp5 H5 s5 h5=>kk2 (.ref p5) H5 ((S2.trans s3).trans s5) {p5,_,p2,rfl,h5,s5 _ _ (s3 _ _ hx),.ref (s5 _ _ hq)}}
  | a::b::c::d::r,_,sh,kk,h2=>
   exists p1,_,rfl,.inl (ak h2),?_;left;refine kk .bQ H2 S2 ?_;rw[yQ (by intro y;simp at y)];rfl
def HY:dz P w base 1 T.words_of G6:=by
 nomatch T.words_of,["row"]
 let⟨t,rfl,hl,kk⟩:=h;let sl:=yF;let ple:=PyProof.Rows.split_le t " ";refine{_,(aj (ax (og (ts:=["word"]) (ys:=[]) (js:=[]) (g:=(bW 0)) (tc:=(mM (cP Wt (aW 0) (tC (.str ""))))) (te:=(aW 0)) (bY (bK yJ yN yM jw (pv 0) (ah az ae))) (gF 0) (jR (ptr jq (pv 0) az)) (pv 0)))),?_};ac_rfl;exists by ext,?_
 unfold words at kk;generalize Txt.split t " "= ws at kk ple;intros p1 H1 s1 h1;refine{p1,rfl,{_,ak h1},?_};refine rB ⇑ws (λi=>((ws.take i).filter λw=>decide (w≠("": Str))).map V.str) (λi σ H'=>H'=H1/\∃v,σ=[v]) ?_ () rfl {(rfl),none,rfl} ?_ ?_ ?_ ?_
 ·intro i hi
  rw[zd];exact zN (xi _ _) (by rw[zR];ext)
 ·rintro i σ H' hi ⟨rfl,_⟩
  exact LZ (ak h1) (by rw[zd];exact hi)
 ·rintro σ H' ⟨rfl,_⟩
  exact{_,ak h1,by rw[zd];exact zp _}
 ·rintro i x σ H' H2 hi ⟨rfl,v,rfl⟩ ⟨rfl,hy⟩
  let hx:=hy _ (ak h1);rw[zL,ze hi] at hx;cases hx;left
  by_cases e:ws[i] =""
  ·refine cD (by rw[e];rfl) ?_
   refine NU.skip hi ?_ {rfl,_,rfl};show List.map V.str (List.filter _ (List.take (i+1) ws))=List.map V.str (List.filter _ (List.take i ws));rw[xw,ze hi,e,y3];simp
  ·refine cz (by rw[zg λz=>e (V.str.inj z)];rfl) ?_
   left;refine NU.push hi ?_ {rfl,_,rfl};show List.map V.str (List.filter _ (List.take (i+1) ws))=List.map V.str (List.filter _ (List.take i ws))++[V.str ws[i]];rw[xw,ze hi,y3,zm];have:List.filter (λw=>decide (w≠("": Str))) (Option.toList (some ws[i]))=[ws[i]]:=by simp[e]
   rw[this];rfl
 ·rintro σ H' ⟨rfl,_⟩
  rw[zO];exact laid λp H' sm h=>kk p H' (s1.trans sm) h
def cA:dz P w base 2 T.cU j9:=by
 nomatch T.cU,["word"]
 let⟨t,rfl,hl,kk⟩:=h;refine{_,(aj (ax (cw (ic T) hr T.dB (ah (pv 0) (ah (bH (v:=.int (3)) (by rfl) T.kL {_,rfl}) ae))))),?_};ac_rfl;change{_,_,rfl,hl,kk}
def dX:dz P w base 1 T.eV kQ:=by
 nomatch T.eV,["word"]
 let⟨t,rfl,hl,kk⟩:=h;let sl:=yF;let hz:⇑t<=sizeLine:=()
 let el:⇑t.cps.toList=⇑t:=yT;unfold cu at kk;refine{_,(ag (aL (PW.pt (d8 (ptr fo (dC gc T.bx (ah (pv 0) ae)) af) (dk (ptr fq (dC gc T.bx (ah (pv 0) ae)) (bH (v:=.int (12)) (by rfl) T.BP {_,rfl})))))
  (aj (ax bj))
  aA)
  (ag (aL (eM (cj (dC (kK rfl) T.Io (ah (og (ts:=["sign"]) (ys:=[]) (js:=[]) (te:=(cP (λx y H Q=>∃i j,x=.str i/\y=.str j/\Q (.bl (!(Builtin.Str.occurrences j i 0 ⇑j 1).isEmpty)) H) (aW 0) (tC (.str "abcdefghijklmnopqrstuvwxyz0123456789")))) (O0 (pv 0)) (gF 0) bG (cR DR (pv 0) (bH (v:=.str "abcdefghijklmnopqrstuvwxyz0123456789") (by rfl) T.Gh {_,rfl}) (by with_unfolding_all rfl))) ae))))
  (aj (ax bj))
  aA)
  (aj (ax (pv 0))))),?_}
 ac_rfl;exists hz,?_;left;refine uN (λc1=>?_) (λc1=>?_)
 ·left
  let z:=kk H (aF H);rw[yR (ye c1)] at z;exact z
 let c1':¬(⇑t:Int)<1:=λz=>c1 (zh z);rw[yQ c1'] at kk;exists hz,?_;left;refine uN (λc2=>?_) (λc2=>?_)
 ·left
  let z:=kk H (aF H);rw[yR (ye c2)] at z;exact z
 let c2':¬(12:Int)<(⇑t:Int):=λz=>c2 (zh z);rw[yQ c2'] at kk;left;refine rB ⇑t (λi=>(t.cps.toList.take i).map λc=>V.bl (decide (c∈sgn))) (λi σ H'=>H'=H/\∃v,σ=[v]) (λi hi=>by rw[zd,zR];ext) () rfl {(rfl),none,rfl} (λi σ H' hi _=>hi) (λσ H' _=>zp _) ?_ ?_
 ·rintro i x σ H1 H2 hi ⟨rfl,v,rfl⟩ ⟨rfl,c,hc,rfl⟩
  left;refine NU.push hi ?_ {rfl,_,rfl};rw[PySem.StrLaws.found_one];rw[<-xj] at hc;show List.map _ (List.take (i+1) t.cps.toList)=_;rw[xw,hc,zm];rfl
 ·rintro σ H1 ⟨rfl,_⟩
  rw[<-el,zO];intros D H2 s2 h2;refine{D,t.cps.toList.map (λc=>decide (c∈sgn)),rfl,ak (by rw[h2,zC];rfl),?_};let ea:(t.cps.toList.map (λc=>decide (c∈sgn))).all id=t.cps.toList.all (λc=>decide (c∈sgn)):=by rw[wj];rfl
  rw[ea]
  by_cases ha:t.cps.toList.all (λc=>decide (c∈sgn))=true
  ·rw[ha]
   rw[yR ha] at kk;change kk _ s2
  ·rw[yQ ha] at kk
   rw[show t.cps.toList.all (λc=>decide (c∈sgn))=false from by simpa using ha];change kk _ s2
def m8:dz P w base 3 T.jL Aj:=by
 nomatch T.jL,["word","lowest","highest","number"]
 let⟨t,lo,hi,rfl,hl,kk⟩:=h;unfold lX at kk;refine{_,(ag (b7 3 qN (cw (cA T) hr T.cU (ah (pv 0) ae)))
  (ag (aL (PW.pt (d8 (bL (cF (pv 3))) (d8 (ptr fo (pv 3) (pv 1)) (dk (ptr fq (pv 3) (pv 2))))))
  (aj (ax bj))
  aA)
  (aj (ax (pv 3))))),?_}
 ac_rfl;exists hl,λH1 s1=>?_;cases e:fG t with
 | none=>
  rw[e] at kk;change kk _ s1
 | some n=>
  rw[e] at kk;left
  by_cases c1:n<lo
  ·refine cz (zh c1) ?_
   simp only[yR c1] at kk;change kk _ s1
  ·refine cD (zg c1) ?_
   simp only[yQ c1] at kk;left
   by_cases c2:hi<n
   ·refine cz (zh c2) ?_
    simp only[yR c2] at kk;change kk _ s1
   ·refine cD (zg c2) ?_
    simp only[yQ c2] at kk;change kk _ s1
def Fw:dz P w base 4 T.sr EV:=by
 nomatch T.sr,["word"]
 let⟨t,rfl,hl,kk⟩:=h;refine{_,(aj (Q8 (lZ T) (hr.mono ∅) rfl T.eL.g T.eL.F.kp T.eL.b (ah (pv 0) ae) rfl rfl T.lG T.lg rfl rfl rfl (λe=>(aj (ax bj))))),?_};ac_rfl;left;refine{hl,λx e p H1 s1 h1=>?_,λe H1 s1=>{rfl,?_}}
 ·rw[e] at kk
  exact kk _ H1 s1 (.ref h1)
 ·rw[e] at kk
  change kk _ H1 s1 .bQ
def Fv:dz P w base 4 T.so EU:=by
 nomatch T.so,["fifths_word","steps_word","turn"]
 let⟨a,b,rfl,la,lb,kk⟩:=h;unfold AG at kk;refine{_,(ag (b7 2 qN (cw (m7 T) hr T.jk (ah (pv 0) (ah (pv 1) ae))))
  (ag (aL (PW.pt (d8 (bL (cF (pv 2))) (dk (ptr fq (dC Jl T.R7 (ah (cy (pv 2) af) ae)) (bH (v:=.int (12)) (by rfl) T.BQ {_,rfl})))))
  (aj (ax bj))
  aA)
  (aj (ax (pv 2))))),?_}
 ac_rfl;exists _,_,rfl,la,lb,λv H1 s1 h1=>?_;cases e:rp a b with
 | none=>
  rw[e] at kk h1;cases h1;change kk _ _ s1 .bQ
 | some q=>
  rw[e] at kk h1;cases h1 with
  | ref h1=>
   left;refine uN (λc=>?_) (λc=>?_)
   ·simp only[yR (ye c)] at kk
    change kk _ _ s1 .bQ
   ·simp only[yQ (λz=>c (zh z))] at kk
    change kk _ _ s1 (.ref h1)
def Ib:dz P w base 3 T.AL G9:=by
 nomatch T.AL,["word","key"]
 let⟨t,rfl,hl,kk⟩:=h;unfold HG at kk;refine{_,(ag (b7 1 qN (cw (ma T) hr T.fH (ah (pv 0) (ah (bH (v:=.int (3)) (by rfl) T.kL {_,rfl}) ae))))
  (ag (aL (PW.pt (d8 (bL (cF (pv 1))) (dk (ptr fq (dC Jl T.R7 (ah (pv 1) ae)) (bH (v:=.int (7)) (by rfl) T.Di {_,rfl})))))
  (aj (ax bj))
  aA)
  (aj (ax (pv 1))))),?_}
 ac_rfl;exists _,_,rfl,hl,λH1 s1=>?_;cases e:rs 3 t with
 | none=>
  rw[e] at kk;change kk _ s1
 | some n=>
  rw[e] at kk;left;refine uN (λc=>?_) (λc=>?_)
  ·simp only[yR (ye c)] at kk
   change kk _ s1
  ·simp only[yQ (λz=>c (zh z))] at kk
   change kk _ s1
def eB:dz P w base 1 T.dq (Cn K):=by
 nomatch T.dq,["values"]
 let⟨a,us,rfl,ha,hl,kk⟩:=h;let sl:=yF;refine{_,(ag (aL (cj (dC (gA rfl) T.Bc (ah (og (ts:=["value"]) (ys:=[]) (js:=[]) (te:=(MG (aW 0))) (bY (pv 0)) (gF 0) bG (sE (cF (pv 0)))) ae)))
  (aj (ax bj))
  aA)
  (aj (ax (pv 0)))),?_}
 ac_rfl;exists{_,ha},?_;refine fK (enc:=λv=>v) (ws:=us) (λv=>.bl (gp v)) (λσ=>∃v,σ=[v]) () (by rw[List.map_id'];exact ha) {(none),rfl} ?_ ?_
 ·rintro v σ H1 R hv s1 ⟨_,rfl⟩ r
  change r _ _ _ (aF _) (by unfold Is;rfl) {_,rfl}
 ·intro D vs H1 s1 hD il
  let e:us.map (λv=>Dt.bl (gp v))=(us.map gp).map Dt.bl:=by rw[zC];rfl
  rw[e] at il;rw[jx il] at hD;refine{D,us.map gp,rfl,ak hD,?_};let e2:(us.map gp).any id=us.any gp:=by rw[wG];rfl
  rw[e2];cases q:us.any gp with
  | true=>
   rw[q] at kk;change kk _ s1
  | false=>
   rw[q] at kk;change kk _ s1
def fu:dz P w base 1 T.dq Cm:=by
 nomatch T.dq,["values"]
 let⟨a,us,rfl,ha,hl,kk⟩:=h;let sl:=yF;refine{_,(ag (aL (cj (dC (gA rfl) T.Bc (ah (og (ts:=["value"]) (ys:=[]) (js:=[]) (te:=(MG (aW 0))) (kb (pv 0)) (gF 0) bG (sE (cF (pv 0)))) ae)))
  (aj (ax bj))
  aA)
  (aj (ax (pv 0)))),?_}
 ac_rfl;exists{_,bC ha},?_;refine gz (enc:=λv=>v) (ws:=us) (λv=>.bl (gp v)) (λσ=>∃v,σ=[v]) () (by rw[List.map_id'];exact ha) {(none),rfl} ?_ ?_
 ·rintro v σ H1 R hv s1 ⟨_,rfl⟩ r
  change r _ _ _ (aF _) (by unfold Is;rfl) {_,rfl}
 ·intro D vs H1 s1 hD il
  let e:us.map (λv=>Dt.bl (gp v))=(us.map gp).map Dt.bl:=by rw[zC];rfl
  rw[e] at il;rw[jx il] at hD;refine{D,us.map gp,rfl,ak hD,?_};let e2:(us.map gp).any id=us.any gp:=by rw[wG];rfl
  rw[e2];cases q:us.any gp with
  | true=>
   rw[q] at kk;change kk _ s1
  | false=>
   rw[q] at kk;change kk _ s1
theorem Bk (n:Int):∀ns:List Int,IA (.int n) (ns.map V.int)=decide (n∈ns)
 | []=>rfl
 | m::ns=>by
  let ih:=Bk n ns;unfold IA at ih ⊢;rw[zk,xt,ih];show((m == n)||decide (n∈ns))=decide (n∈m::ns)
  by_cases e:n=m
  ·subst e
   simp
  ·simp[e,Ne.symm (a:=m) (b:=n) (λz=>e z.symm)]
   try ext
def Ke {t a b:Str} (h:Txt.split t "/"= [a,b]):ji t=(match lX a 1 32,fG b with | some m,some n=>if n∈BS then some (m,n) else none | _,_=>none):=by unfold ji;rw[h];try rfl
def MT {t:Str} (h:(Txt.split t "/").length≠2):ji t=none:=by
 unfold ji;split
 ·rename_i e;rw[e] at h;exact absurd rfl h
 ·rfl
def OM {t a b:Str} (h:Txt.split t ":"= [a,b]):AI t=(match fG a,nO ((Txt.split b ",").map fG) with | some n,some ps=>some (n,ps) | _,_=>none):=by unfold AI;rw[h];try rfl
def Q3 {t:Str} (h:(Txt.split t ":").length≠2):AI t=none:=by
 unfold AI;split
 ·rename_i e;rw[e] at h;exact absurd rfl h
 ·rfl
def CO:dz P w base 4 T.pL (Ck K):=by
 nomatch T.pL,["word","parts","top","bottom"]
 let⟨t,rfl,hl,kk⟩:=h;let sl:=yF;let sh:∀z∈Txt.split t "/",⇑z<=600:=λz hz=>zN (xQ hz) hl;refine{_,(ag (b7 1 qN (bK yJ yN yM jw (pv 0) (ah az ae)))
  (ag (aL (ptr jq (dC ay T.bx (ah (pv 1) ae)) af)
  (aj (ax bj))
  aA)
  (ag (b7 2 qN (cw (m8 T) hr T.jL (ah (dF (pv 1) af) (ah af (ah (bH (v:=.int (32)) (by rfl) T.uX {_,rfl}) ae)))))
  (ag (b7 3 qN (cw (cA T) hr T.cU (ah (dF (pv 1) af) ae)))
  (ag (aL (PW.pt (d8 (bL (cF (pv 2))) (dk (jQ eY (pv 3) (bH (v:=.ref T.d7) (by rfl) T.uW rfl) (by with_unfolding_all rfl)))))
  (aj (ax bj))
  aA)
  (aj (ax (bT (ah (pv 2) (ah (pv 3) ae)))))))))),?_}
 ac_rfl;exists by ext,?_
 generalize ew:Txt.split t "/"= ws at sh;intros p1 H1 s1 h1;exists p1,_,rfl,.inl (ak h1),?_;rw[zd];left
 by_cases hw:⇑ws=2
 ·obtain⟨a,b,rfl⟩:∃a b,ws=[a,b]:=by
   match ws,hw with
   | [a,b],_=>exact{(a),b,rfl}
  refine cD rfl ?_;exists p1,_,0,_,rfl,rfl,ak h1,rfl,?_;refine{_,_,_,rfl,sh a (by simp),λH2 s2=>?_};exists p1,_,1,_,rfl,rfl,ak (s2 _ _ h1),rfl,?_;refine{_,rfl,sh b (by simp),λH3 s3=>?_};let s03:=(s1.trans s2).trans s3;rw[Ke ew] at kk;cases ea:lX a 1 32 with
  | none=>
   rw[ea] at kk;change kk _ _ s03 .bQ
  | some m=>
   rw[ea] at kk;left;cases eb:fG b with
   | none=>
    rw[eb] at kk;refine{T.d7,_,rfl,.inr (T.mj H3),rfl,rfl,?_};change kk _ _ s03 .bQ
   | some n=>
    rw[eb] at kk;refine{T.d7,BS.map V.int,rfl,.inr (T.mj H3),rfl,rfl,?_};show∃k,V.bl (!IA (.int n) (BS.map V.int))=.bl k/\_;rw[Bk]
    by_cases c:n∈BS
    ·rw[zh c]
     simp only[yR c] at kk;left;refine{dj,laid λp4 H4 s4 h4=>kk _ _ (s03.trans s4) (.ref h4)}
    ·rw[zg c]
     simp only[yQ c] at kk;change kk _ _ s03 .bQ
 ·refine cz (by rw[zg λz=>hw (by have:=V.int.inj z;ext)];rfl) ?_
  left;rw[MT (by rw[ew];exact hw)] at kk;exact kk _ _ s1 .bQ
def Ic:dz P w base 4 T.AM tJ:=by
 nomatch T.AM,["word","parts","bar","passes"]
 let⟨t,rfl,hl,kk⟩:=h;let sl:=yF;let sh:∀z∈Txt.split t ":",⇑z<=600:=λz hz=>zN (xQ hz) hl;refine{_,(ag (b7 1 qN (bK yJ yN yM jw (pv 0) (ah az ae)))
  (ag (aL (ptr jq (dC ay T.bx (ah (pv 1) ae)) af)
  (aj (ax bj))
  aA)
  (ag (b7 2 qN (cw (cA T) hr T.cU (ah (dF (pv 1) af) ae)))
  (ag (b7 3 qN (cw (eB T) hr T.dq (ah (og (ts:=["part"]) (ys:=[]) (js:=[]) (te:=(gn j9 [] E0 (aY (aW 0) cE))) (bY (bK yJ yN yM jw (dF (pv 1) af) (ah az ae))) (gF 0) bG (cw (cA T) hr T.cU (ah (pv 0) ae))) ae)))
  (ag (aL (PW.pt (d8 (bL (cF (pv 2))) (dk (bL (cF (pv 3))))))
  (aj (ax bj))
  aA)
  (aj (ax (bT (ah (pv 2) (ah (oa dI T.iL (ah (pv 3) ae)) ae)))))))))),?_}
 ac_rfl;exists by ext,?_
 generalize ew:Txt.split t ":"= ws at sh;intros p1 H1 s1 h1;exists p1,_,rfl,.inl (ak h1),?_;rw[zd];left
 by_cases hw:⇑ws=2
 ·obtain⟨a,b,rfl⟩:∃a b,ws=[a,b]:=by
   match ws,hw with
   | [a,b],_=>exact{(a),b,rfl}
  refine cD rfl ?_;exists p1,_,0,_,rfl,rfl,ak h1,rfl,?_;refine{_,rfl,sh a (by simp),λH2 s2=>?_};exists p1,_,1,_,rfl,rfl,ak (s2 _ _ h1),rfl,?_;left;let lb:=sh b (by simp);let bl:=PyProof.Rows.split_le b ",";let bsh:∀z∈Txt.split b ",",⇑z<=600:=λz hz=>zN (xQ hz) lb;refine{(),?_};rw[OM ew] at kk;generalize Txt.split b ","= bs at kk bl bsh;intros p3 H3 s3 h3;exists{_,ak h3},?_;refine fK (enc:=V.str) (ws:=bs) (λz=>dO .int (fG z)) (λσ=>∃v,σ=[v]) () (ak h3) {(none),rfl} ?_ ?_
  ·rintro z σ H4 R hz s4 ⟨_,rfl⟩ r
   change{bsh z hz,λH5 s5=>r _ _ _ s5 (Bj _) {_,rfl}}
  ·intro D vs H4 s4 hD il
   let s04:=((s1.trans s2).trans s3).trans s4;refine{D,vs,rfl,ak hD,by rw[il.len,zd];ext,λH5 s5=>?_};let e1:bs.map (λz=>dO Dt.int (fG z))=(bs.map fG).map (dO Dt.int):=by rw[zC];rfl
   rw[e1] at il;rw[jW il];cases q:((bs.map fG).map (dO Dt.int)).any Dt.gp with
   | true=>
    rw[jg PZ q] at kk;let kn:=kk .bQ H5 (s04.trans s5) (by cases fG a <;> (unfold dO Is;rfl));cases ea:fG a with
    | none=>change kn
    | some n=>change kn
   | false=>
    let⟨xs,e2,e3,e4⟩:=jf q;rw[e2] at kk;rw[e3] at il;let ev:=fC il;subst ev;cases ea:fG a with
    | none=>
     rw[ea] at kk;change kk .bQ H5 (s04.trans s5) (by unfold dO Is;rfl)
    | some n=>
     rw[ea] at kk;left;refine{D,_,rfl,.inl {ak (s5 _ _ hD),?_}};intros p6 H6 s6 h6;left;refine{dj,laid λp7 H7 s7 h7=>kk _ _ (((s04.trans s5).trans s6).trans s7) ?_};show Is H7 (.tup [.int n,.tup (xs.map .int)]) _;unfold Is;refine{p7,_,rfl,h7,?_};unfold aB;refine{_,_,rfl,by unfold Is;rfl,?_};unfold aB;refine{_,_,rfl,?_,by unfold aB;rfl};unfold Is;exact{p6,_,rfl,s7 _ _ h6,qT}
 ·refine cz (by rw[zg λz=>hw (by have:=V.int.inj z;ext)];rfl) ?_
  left;rw[Q3 (by rw[ew];exact hw)] at kk;exact kk _ _ s1 (by unfold dO Is;rfl)
def Pb {α:Type} {f:Str->Option α} {ws:List Str} (h:⇑ws≠1):one f ws=none:=by
 match ws,h with
 | [],_=>rfl
 | [_],h=>exact absurd rfl h
 | _::_::_,_=>rfl
def A4:dz P w base 2 T.jO (fQ K (o6 .str (one cu))):=by
 nomatch T.jO,["words"]
 let⟨p,ws,rfl,hp,hl,sh,kk⟩:=h;refine{_,(ag (aL (ptr jq (dC ay T.bx (ah (pv 0) ae)) af)
  (aj (ax bj))
  aA)
  (aj (ax (cw (dX T) hr T.eV (ah (dF (pv 0) af) ae))))),?_}
 ac_rfl;exists p,_,rfl,.inl hp,?_;rw[zd];left
 by_cases hw:⇑ws=1
 ·obtain⟨a,rfl⟩:∃a,ws=[a]:=by
   match ws,hw with
   | [a],_=>exact{(a),rfl}
  refine cD rfl ?_;exists p,_,0,_,rfl,rfl,hp,rfl,?_;exact{_,rfl,sh a (by simp),λH1 s1=>kk _ _ s1 (DZ _)}
 ·refine cz (by rw[zg λz=>hw (by have:=V.int.inj z;ext)];rfl) ?_
  left;refine kk _ _ (aF _) ?_;unfold o6;rw[Pb hw];exact dZ
def A2:dz P w base 5 T.jM (fQ K (o6 dL (one lr))):=by
 nomatch T.jM,["words"]
 let⟨p,ws,rfl,hp,hl,sh,kk⟩:=h;refine{_,(ag (aL (ptr jq (dC ay T.bx (ah (pv 0) ae)) af)
  (aj (ax bj))
  aA)
  (aj (ax (cw (gQ T) hr T.dR (ah (dF (pv 0) af) ae))))),?_}
 ac_rfl;exists p,_,rfl,.inl hp,?_;rw[zd];left
 by_cases hw:⇑ws=1
 ·obtain⟨a,rfl⟩:∃a,ws=[a]:=by
   match ws,hw with
   | [a],_=>exact{(a),rfl}
  refine cD rfl ?_;exists p,_,0,_,rfl,rfl,hp,rfl,?_;exact{_,rfl,sh a (by simp),λv H1 s1 h1=>kk _ _ s1 (Bi h1)}
 ·refine cz (by rw[zg λz=>hw (by have:=V.int.inj z;ext)];rfl) ?_
  left;refine kk _ _ (aF _) ?_;unfold o6;rw[Pb hw];exact dZ
def Ge {α:Type} (d:α->Dt) (o:Option α):dO d o=(o.map d).getD .bQ:=by cases o <;> rfl
def Gr {H:Hp} {ds:List Dt} {us:List V} {a:vw} {d:Option Dt} (ha:H a=some (.tup us)) (il:aB H ds us) (h1:ds.any Dt.gp=true->d=none) (h2:ds.any Dt.gp=false->d=some (.tup ds)):Is H (d.getD .bQ) (if us.any gp=true then .bQ else .ref a):=by
 rw[jW il];cases q:ds.any Dt.gp with
 | true=>rw[h1 q];exact dZ
 | false=>rw[h2 q];exact cM ha il
def pN:dz P w base 5 T.fA (fQ K (o6 dy mZ)):=by
 nomatch T.fA,["words"]
 let⟨p,ws,rfl,hp,hl,sh,kk⟩:=h;refine{_,(ag (aL (ptr jq (dC ay T.bx (ah (pv 0) ae)) af)
  (aj (ax bj))
  aA)
  (aj (ax (cw (fu T) hr T.dq (ah (bT (ah (cw (dX T) hr T.eV (ah (dF (pv 0) af) ae)) (ah (cw (Fv T) hr T.so (ah (dF (pv 0) af) (ah (dF (pv 0) af) ae))) (ah (cw (Fw T) hr T.sr (ah (dF (pv 0) af) ae)) ae)))) ae))))),?_}
 ac_rfl;exists p,_,rfl,.inl hp,?_;rw[zd];left
 by_cases hw:⇑ws=4
 ·obtain⟨a,b,c,d,rfl⟩:∃a b c d,ws=[a,b,c,d]:=by
   match ws,hw with
   | [a,b,c,d],_=>exact{(a),b,c,d,rfl}
  refine cD rfl ?_;exists p,_,0,_,rfl,rfl,hp,rfl,?_;refine{_,rfl,sh a (by simp),λH1 s1=>?_};exists p,_,1,_,rfl,rfl,s1.seq hp,rfl,?_;exists p,_,2,_,rfl,rfl,s1.seq hp,rfl,?_;refine{_,_,rfl,sh b (by simp),sh c (by simp),λv2 H2 s2 h2=>?_};exists p,_,3,_,rfl,rfl,(s1.trans s2).seq hp,rfl,?_;refine{_,rfl,sh d (by simp),λv3 H3 s3 h3=>?_};exists mW,?_;intros p4 H4 s4 h4;let s24:=s3.trans s4;refine{p4,_,rfl,h4,(by show 3<=1000000;decide),λH5 s5=>kk _ _ (((s1.trans s2).trans s24).trans s5) ?_};unfold o6;rw[Ge];refine Gr (s5 _ _ h4) (bc (DZ _) (bc (Bi (h2.mono (s24.trans s5))) (nA (Bi (h3.mono (s4.trans s5)))))) ?_ ?_
  ·unfold mZ
   dsimp only;cases cu a <;> cases AG b c <;> cases Qx d <;> first | (intro _;rfl) | (intro q;exact absurd q (by simp[dO,dL,Dt.gp]))
  ·unfold mZ
   dsimp only;cases cu a <;> cases AG b c <;> cases Qx d <;> first | (intro _;rfl) | (intro q;exact absurd q (by simp[dO,dL,Dt.gp]))
 ·refine cz (by rw[zg λz=>hw (by have:=V.int.inj z;ext)];rfl) ?_
  left;refine kk _ _ (aF _) ?_;let e:mZ ws=none:=by
   rcases ws with _ | ⟨_,_ | ⟨_,_ | ⟨_,_ | ⟨_,_ | ⟨_,r⟩⟩⟩⟩⟩
   all_goals first | rfl | exact absurd rfl hw
  unfold o6;rw[e];exact dZ
def Fy:dz P w base 3 T.nX (fQ K (o6 uc tP)):=by
 nomatch T.nX,["words"]
 let⟨p,ws,rfl,hp,hl,sh,kk⟩:=h;refine{_,(ag (aL (ptr jq (dC ay T.bx (ah (pv 0) ae)) af)
  (aj (ax bj))
  aA)
  (aj (ax (cw (fu T) hr T.dq (ah (bT (ah (cw (dX T) hr T.eV (ah (dF (pv 0) af) ae)) (ah (cw (cA T) hr T.cU (ah (dF (pv 0) af) ae)) (ah (cw (dX T) hr T.eV (ah (dF (pv 0) af) ae)) ae)))) ae))))),?_}
 ac_rfl;exists p,_,rfl,.inl hp,?_;rw[zd];left
 by_cases hw:⇑ws=3
 ·obtain⟨a,b,c,rfl⟩:∃a b c,ws=[a,b,c]:=by
   match ws,hw with
   | [a,b,c],_=>exact{(a),b,c,rfl}
  refine cD rfl ?_;exists p,_,0,_,rfl,rfl,hp,rfl,?_;refine{_,rfl,sh a (by simp),λH1 s1=>?_};exists p,_,1,_,rfl,rfl,s1.seq hp,rfl,?_;refine{_,rfl,sh b (by simp),λH2 s2=>?_};exists p,_,2,_,rfl,rfl,(s1.trans s2).seq hp,rfl,?_;refine{_,rfl,sh c (by simp),λH3 s3=>?_};exists mW,?_;intros p4 H4 s4 h4;refine{p4,_,rfl,h4,(by show 3<=1000000;decide),λH5 s5=>kk _ _ (((s1.trans s2).trans (s3.trans s4)).trans s5) ?_};unfold o6;rw[Ge];refine Gr (s5 _ _ h4) (bc (DZ _) (bc (Bj _) (nA (DZ _)))) ?_ ?_
  ·unfold tP
   dsimp only;cases cu a <;> cases fG b <;> cases cu c <;> first | (intro _;rfl) | (intro q;exact absurd q (by simp[dO,dL,Dt.gp]))
  ·unfold tP
   dsimp only;cases cu a <;> cases fG b <;> cases cu c <;> first | (intro _;rfl) | (intro q;exact absurd q (by simp[dO,dL,Dt.gp]))
 ·refine cz (by rw[zg λz=>hw (by have:=V.int.inj z;ext)];rfl) ?_
  left;refine kk _ _ (aF _) ?_;let e:tP ws=none:=by
   rcases ws with _ | ⟨_,_ | ⟨_,_ | ⟨_,_ | ⟨_,r⟩⟩⟩⟩
   all_goals first | rfl | exact absurd rfl hw
  unfold o6;rw[e];exact dZ
def m9 {H:Hp} {ws:List Str} {vs:List V} {α:Type} {d:α->Dt} {f:Str->Option α} (il:aB H (ws.map λz=>dO d (f z)) vs):aB H ((ws.map f).map (dO d)) vs:=by
 let e:ws.map (λz=>dO d (f z))=(ws.map f).map (dO d):=by rw[zC];rfl
 rw[<-e];exact il
def CM:dz P w base 2 T.kW (fQ K (o6 nK sA)):=by
 nomatch T.kW,["words","names"]
 let⟨p,ws,rfl,hp,hl,sh,kk⟩:=h;let sl:=yF;refine{_,(ag (aL (ptr fo (dC ay T.bx (ah (pv 0) ae)) af)
  (aj (ax bj))
  aA)
  (ag (b7 1 qN (cw (eB T) hr T.dq (ah (og (ts:=["word"]) (ys:=[]) (js:=[]) (te:=(gn kQ [] E0 (aY (aW 0) cE))) (bY (pv 0)) (gF 0) bG (cw (dX T) hr T.eV (ah (pv 0) ae))) ae)))
  (ag (aL (bL (cF (pv 1)))
  (aj (ax bj))
  aA)
  (aj (ax (bT (ah (dF (pv 1) af) (ah (oa dI T.iL (ah (dS iF (pv 1) (eW af) eX) ae)) ae)))))))),?_}
 ac_rfl;exists p,_,rfl,.inl hp,?_;rw[zd];left;refine uN (λc=>?_) (λc=>?_)
 ·left
  refine kk _ _ (aF _) ?_;let hw:=ye c;let e:sA ws=none:=by
   rcases ws with _ | ⟨_,_ | ⟨_,r⟩⟩
   all_goals first | rfl | (simp at hw;ext)
  unfold o6;rw[e];exact dZ
 ·let hw:¬(⇑ws:Int)<2:=λz=>c (zh z)
  obtain⟨a,b,r,rfl⟩:∃a b r,ws=a::b::r:=by
   match ws,hw with
   | [],h=>exact absurd (by simp) h
   | [_],h=>exact absurd (by simp) h
   | a::b::r,_=>exact{(a),b,r,rfl}
  exists{_,hp},?_;refine fK (enc:=V.str) (ws:=a::b::r) (λz=>dO .str (cu z)) (λσ=>∃v,σ=[v]) () hp {(none),rfl} ?_ ?_
  ·rintro z σ H4 R hz s4 ⟨_,rfl⟩ r
   change{sh z hz,λH5 s5=>r _ _ _ s5 (DZ _) {_,rfl}}
  ·intro D vs H4 s4 hD il
   refine{D,vs,rfl,ak hD,by rw[il.len,zd];ext,λH5 s5=>?_};let il:=m9 il;rw[jW il];cases q:(((a::b::r).map cu).map (dO Dt.str)).any Dt.gp with
   | true=>
    left;refine kk _ _ (s4.trans s5) ?_;unfold o6;rw[pM,jg IH q];exact dZ
   | false=>
    let⟨xs,e2,e3,e4⟩:=jf q;rw[e3] at il;let ev:=dY il;subst ev;obtain⟨n,ps,rfl⟩:∃n ps,xs=n::ps:=by
     match xs,e4 with
     | n::ps,_=>exact{(n),ps,rfl}
    let hD5:=s5 _ _ hD;exists D,_,0,_,rfl,rfl,ak hD5,bz (j:=0) rfl,?_;exists D,_,rfl,ak hD5,?_;rw[show iR (List.map V.str (n::ps)) (some 1) none=ps.map V.str from(je _ 1).trans rfl];intros p6 H6 s6 h6;left;refine{p6,_,rfl,.inl {ak h6,?_}};intros p7 H7 s7 h7;left;refine{dj,laid λp8 H8 s8 h8=>kk _ _ (((((s4.trans s5).trans s6).trans s7)).trans s8) ?_};unfold o6;rw[pM,e2];exact cM h8 (bc fg (nA (cM (s8 _ _ h7) EM)))
def Ie:dz P w base 5 T.qA (fQ K (o6 kJ Fo)):=by
 nomatch T.qA,["words","marks"]
 let⟨p,ws,rfl,hp,hl,sh,kk⟩:=h;let sl:=yF;refine{_,(ag (aL (ptr fo (dC ay T.bx (ah (pv 0) ae)) af)
  (aj (ax bj))
  aA)
  (ag (b7 1 qN (cw (eB T) hr T.dq (ah (og (ts:=["word"]) (ys:=[]) (js:=[]) (te:=(gn kQ [] E0 (aY (aW 0) cE))) (bY (dS iF (pv 0) (eW af) eX)) (gF 0) bG (cw (dX T) hr T.eV (ah (pv 0) ae))) ae)))
  (ag (aL (bL (cF (pv 1)))
  (aj (ax bj))
  aA)
  (aj (ax (cw (fu T) hr T.dq (ah (bT (ah (cw (CO T) hr T.pL (ah (dF (pv 0) af) ae)) (ah (cw (Ib T) hr T.AL (ah (dF (pv 0) af) ae)) (ah (oa dI T.iL (ah (pv 1) ae)) ae)))) ae))))))),?_}
 ac_rfl;exists p,_,rfl,.inl hp,?_;rw[zd];left;refine uN (λc=>?_) (λc=>?_)
 ·left
  refine kk _ _ (aF _) ?_;let hw:=ye c;let e:Fo ws=none:=by
   rcases ws with _ | ⟨_,_ | ⟨_,r⟩⟩
   all_goals first | rfl | (simp at hw;ext)
  unfold o6;rw[e];exact dZ
 ·let hw:¬(⇑ws:Int)<2:=λz=>c (zh z)
  obtain⟨a,b,r,rfl⟩:∃a b r,ws=a::b::r:=by
   match ws,hw with
   | [],h=>exact absurd (by simp) h
   | [_],h=>exact absurd (by simp) h
   | a::b::r,_=>exact{(a),b,r,rfl}
  rw[zw,zw] at hl;exists p,_,rfl,hp,?_;rw[show iR (List.map V.str (a::b::r)) (some 2) none=r.map V.str from(je _ 2).trans rfl];intros p1 H1 s1 h1;exists{_,ak h1},?_;refine fK (enc:=V.str) (ws:=r) (λz=>dO .str (cu z)) (λσ=>∃v,σ=[v]) () (ak h1) {(none),rfl} ?_ ?_
  ·rintro z σ H4 R hz s4 ⟨_,rfl⟩ r
   change{sh z (by simp[hz]),λH5 s5=>r _ _ _ s5 (DZ _) {_,rfl}}
  ·intro D vs H4 s4 hD il
   refine{D,vs,rfl,ak hD,by rw[il.len,zd];ext,λH5 s5=>?_};let il:=m9 il;rw[jW il];let s05:=(s1.trans s4).trans s5;cases q:((r.map cu).map (dO Dt.str)).any Dt.gp with
   | true=>
    left;refine kk _ _ s05 ?_;unfold o6;unfold Fo;dsimp only;rw[jg IH q];exact dZ
   | false=>
    let⟨xs,e2,e3,e4⟩:=jf q;rw[e3] at il;let ev:=dY il;subst ev;let hD5:=s5 _ _ hD;exists p,_,0,_,rfl,rfl,s05.seq hp,bz (j:=0) rfl,?_;refine{_,rfl,sh a (by simp),λv6 H6 s6 h6=>?_};exists p,_,1,_,rfl,rfl,(s05.trans s6).seq hp,bz (j:=1) rfl,?_;refine{_,rfl,sh b (by simp),λH7 s7=>?_};left;refine{D,_,rfl,.inl {ak (s7 _ _ (s6 _ _ hD5)),?_}};intros p8 H8 s8 h8;exists mW,?_;intros p9 H9 s9 h9;refine{p9,_,rfl,h9,(by show 3<=1000000;decide),λHx sx=>kk _ _ (((((s05.trans s6).trans s7).trans s8).trans s9).trans sx) ?_};unfold o6;rw[Ge];refine Gr (ds:=[dO dL (ji a),dO .int (HG b),nJ xs]) (sx _ _ h9) (bc (Bi (h6.mono (((s7.trans s8).trans s9).trans sx))) (bc (Bj _) (nA (cM (sx _ _ (s9 _ _ h8)) EM)))) ?_ ?_
    ·unfold Fo
     dsimp only;rw[e2];cases ji a <;> cases HG b <;> first | (intro _;rfl) | (intro q;exact absurd q (by simp[dO,dL,Dt.gp,nJ]))
    ·unfold Fo
     dsimp only;rw[e2];cases ji a <;> cases HG b <;> first | (intro _;rfl) | (intro q;exact absurd q (by simp[dO,dL,Dt.gp,nJ]))
theorem vK {H:Hp} {α:Type} {d:α->Dt}:∀{xs:List α} {vs:List V},aB H (xs.map d) vs->∃ps:List (α×V),ps.map (·.1)=xs/\ps.map (·.2)=vs/\∀q∈ps,Is H (d q.1) q.2
 | [],_,h=>by unfold aB at h;exact{[],rfl,h.symm,λ_ z=>nomatch z}
 | x::xs,_,h=>by
  rw[zk] at h;unfold aB at h;let⟨u,r,rfl,h1,h2⟩:=h;let⟨ps,e1,e2,hh⟩:=vK h2;refine{(x,u)::ps,by simp[e1],by simp[e2],λq m=>?_};rcases zE.mp m with e | m
  ·subst e;exact h1
  ·exact hh q m
def item_at {H:Hp} {it:Item} {v:V} (h:Is H (eQ it) v):∃a pv lv,v=.ref a/\H a=some (.tup [pv,lv])/\Is H (dO dL it.1) pv/\Is H (dL it.2) lv:=by
 unfold eQ Is at h;let⟨a,vs,rfl,ha,hl⟩:=h;unfold aB at hl;let⟨pv,r,rfl,h1,hl⟩:=hl;unfold aB at hl;let⟨lv,r,rfl,h2,hl⟩:=hl;unfold aB at hl;subst hl;exact{(a),pv,lv,rfl,ha,h1,h2}
def Vc {H:Hp} {α:Type} {d:α->Dt} (f:Ls d) {o:Option α} {v:V} (h:Is H (dO d o) v):gp v=o.isNone:=by
 rw[PK h];cases o with
 | none=>rfl
 | some x=>exact f x
def CN:dz P w base 6 T.kX (fQ K Vs):=by
 nomatch T.kX,["words","items"]
 let⟨p,ws,rfl,hp,hl,sh,kk⟩:=h;let sl:=yF;refine{_,(ag (aL (ptr fo (dC ay T.bx (ah (pv 0) ae)) af)
  (aj (ax bj))
  aA)
  (ag (b7 1 qN (cw (eB T) hr T.dq (ah (og (ts:=["word"]) (ys:=[]) (js:=[]) (te:=(gn oR [] E0 (aY (aW 0) cE))) (bY (dS iF (pv 0) (eW af) eX)) (gF 0) bG (cw (CL T) hr T.su (ah (pv 0) ae))) ae)))
  (ag (aL (PW.pt (d8 (bL (cF (pv 1))) (dk (cj (dC (kK rfl) T.Io (ah (og (ts:=["item"]) (ys:=[]) (js:=[]) (te:=(MG (cP (mE K) (aW 0) (tC (.int (0)))))) (bY (pv 1)) (gF 0) bG (sE (cF (cy (pv 0) af)))) ae))))))
  (aj (ax bj))
  aA)
  (aj (ax (cw (fu T) hr T.dq (ah (bT (ah (cw (cA T) hr T.cU (ah (dF (pv 0) af) ae)) (ah (cw (dX T) hr T.eV (ah (dF (pv 0) af) ae)) (ah (pv 1) ae)))) ae))))))),?_}
 ac_rfl;exists p,_,rfl,.inl hp,?_;rw[zd];left;refine uN (λc=>?_) (λc=>?_)
 ·left
  refine kk _ _ (aF _) ?_;let hw:=ye c;let e:kZ ws=none:=by
   rcases ws with _ | ⟨_,_ | ⟨_,_ | ⟨_,r⟩⟩⟩
   all_goals first | rfl | (simp at hw;ext)
  unfold Vs;rw[e]
 ·let hw:¬(⇑ws:Int)<3:=λz=>c (zh z)
  obtain⟨a,b,i,r,rfl⟩:∃a b i r,ws=a::b::i::r:=by
   match ws,hw with
   | [],h=>exact absurd (by simp) h
   | [_],h=>exact absurd (by simp) h
   | [_,_],h=>exact absurd (by simp) h
   | a::b::i::r,_=>exact{(a),b,i,r,rfl}
  let en:kZ (a::b::i::r)=(match nO ((i::r).map ir) with | some l=>if l.all (λit=>it.1.isNone)=true then none else(match fG a,cu b with | some x,some y=>some (x,y,l) | _,_=>none) | none=>none):=rfl;unfold Vs at kk;rw[en] at kk;let sh':∀z∈i::r,⇑z<=600:=λz hz=>sh z (by simp at hz ⊢;rcases hz with h | h <;> simp[h]);let hl':⇑(i::r)<=1000000:=by simp at hl ⊢;ext
  exists p,_,rfl,hp,?_;rw[show iR (List.map V.str (a::b::i::r)) (some 2) none=(i::r).map V.str from(je _ 2).trans rfl];clear en;generalize i::r=its at kk sh' hl';intros p1 H1 s1 h1;exists{_,ak h1},?_;refine d4 (enc:=V.str) (ws:=its) (λz=>dO eQ (ir z)) (λσ=>∃v,σ=[v]) () (ak h1) {(none),rfl} ?_ ?_
  ·rintro z σ H4 R hz s4 ⟨_,rfl⟩ r
   change{sh' z hz,λv H5 s5 h5=>r _ _ _ s5 (Vb h5) {_,rfl}}
  ·intro D vs H4 s4 nD hD il
   refine{D,vs,rfl,ak hD,by rw[il.len,zd];ext,λH5 s5=>?_};let il:=m9 il;rw[jW il];let s05:=(s1.trans s4).trans s5;cases q:((its.map ir).map (dO eQ)).any Dt.gp with
   | true=>
    left;refine kk _ _ s05 ?_;rw[jg Nh q]
   | false=>
    let⟨xs,e2,e3,e4⟩:=jf q;rw[e3] at il;rw[e2] at kk;let il5:=il.mono s5;let hD5:=s5 _ _ hD;let⟨ps,f1,f2,f3⟩:=vK il5;let pl:⇑ps<=1000000:=by
     have:⇑ps=⇑xs:=by rw[<-f1,zd]
     rw[this,e4,zd];exact hl'
    exists{_,ak hD5},?_;refine fK (enc:=λq:Item×V=>q.2) (ws:=ps) (λq=>.bl q.1.1.isNone) (λσ=>∃v,σ=[v]) () (by rw[f2];exact ak hD5) {(none),rfl} ?_ ?_
    ·rintro z σ H6 R hz s6 ⟨_,rfl⟩ r
     let⟨a6,pv,lv,ev,h6,h7,h8⟩:=item_at (f3 z hz);rw[ev];let h66:=s6 _ _ h6;left;refine r _ _ _ (aF _) ?_ {_,rfl};rw[<-Vc TM h7];unfold Is;rfl
    ·intro D2 vs2 H6 s6 hD2 il2
     let e5:ps.map (λq=>Dt.bl q.1.1.isNone)=(ps.map λq=>q.1.1.isNone).map Dt.bl:=by rw[zC];rfl
     rw[e5] at il2;rw[jx il2] at hD2;refine{D2,_,rfl,ak hD2,?_};let e6:(ps.map λq=>q.1.1.isNone).all id=xs.all λit=>it.1.isNone:=by rw[<-f1,wj,wj];rfl
     rw[e6];cases qa:xs.all λit=>it.1.isNone with
     | true=>
      dsimp only at kk;rw[qa] at kk;change kk _ _ (s05.trans s6) rfl
     | false=>
      dsimp only at kk;rw[qa] at kk;let s06:=s05.trans s6;exists p,_,0,_,rfl,rfl,s06.seq hp,bz (j:=0) rfl,?_;refine{_,rfl,sh a (by simp),λH7 s7=>?_};exists p,_,1,_,rfl,rfl,(s06.trans s7).seq hp,bz (j:=1) rfl,?_;refine{_,rfl,sh b (by simp),λH8 s8=>?_};exists mW,?_;intros p9 H9 s9 h9;let s59:=((s6.trans s7).trans s8).trans s9;refine{p9,_,rfl,h9,(by show 3<=1000000;decide),λHx sx=>kk _ _ ((s05.trans s59).trans sx) ?_};let s5x:=s59.trans sx;let h9x:=sx _ _ h9;clear h9
      revert h9x
      cases fG a <;> cases cu b <;> intro h9x <;> first | rfl | exact⟨p9,D,vs,rfl,h9x,s5x _ _ hD5,il5.mono s5x,s1.back nD⟩
def A3:dz P w base 5 T.jN (fQ K (o6 jI kY)):=by
 nomatch T.jN,["words","times","ends"]
 let⟨p,ws,rfl,hp,hl,sh,kk⟩:=h;let sl:=yF;refine{_,(ag (aL (ptr fo (dC ay T.bx (ah (pv 0) ae)) af)
  (aj (ax bj))
  aA)
  (ag (b7 1 qN (cw (m8 T) hr T.jL (ah (dF (pv 0) af) (ah (bH (v:=.int (2)) (by rfl) T.BR {_,rfl}) (ah (bH (v:=.int (9)) (by rfl) T.Gi {_,rfl}) ae)))))
  (ag (b7 2 qN (cw (eB T) hr T.dq (ah (og (ts:=["word"]) (ys:=[]) (js:=[]) (te:=(gn tJ [] E0 (aY (aW 0) cE))) (bY (dS iF (pv 0) (eW af) eX)) (gF 0) bG (cw (Ic T) hr T.AM (ah (pv 0) ae))) ae)))
  (ag (aL (bL (cF (pv 2)))
  (aj (ax bj))
  aA)
  (aj (ax (cw (fu T) hr T.dq (ah (bT (ah (cw (cA T) hr T.cU (ah (dF (pv 0) af) ae)) (ah (cw (cA T) hr T.cU (ah (dF (pv 0) af) ae)) (ah (pv 1) (ah (oa dI T.iL (ah (pv 2) ae)) ae))))) ae)))))))),?_}
 ac_rfl;exists p,_,rfl,.inl hp,?_;rw[zd];left;refine uN (λc=>?_) (λc=>?_)
 ·left
  refine kk _ _ (aF _) ?_;let hw:=ye c;let e:kY ws=none:=by
   rcases ws with _ | ⟨_,_ | ⟨_,_ | ⟨_,r⟩⟩⟩
   all_goals first | rfl | (simp at hw;ext)
  unfold o6;rw[e];exact dZ
 ·let hw:¬(⇑ws:Int)<3:=λz=>c (zh z)
  obtain⟨a,b,c',r,rfl⟩:∃a b i r,ws=a::b::i::r:=by
   match ws,hw with
   | [],h=>exact absurd (by simp) h
   | [_],h=>exact absurd (by simp) h
   | [_,_],h=>exact absurd (by simp) h
   | a::b::i::r,_=>exact{(a),b,i,r,rfl}
  let en:kY (a::b::c'::r)=(match nO (r.map AI) with | some l=>(match fG a,fG b,lX c' 2 9 with | some x,some y,some z=>some {(x),y,z,l} | _,_,_=>none) | none=>none):=rfl;unfold o6 at kk;rw[en] at kk;let sh':∀z∈r,⇑z<=600:=λz hz=>sh z (by simp[hz]);let hl':⇑r<=1000000:=by simp at hl ⊢;ext
  exists p,_,2,_,rfl,rfl,hp,bz (j:=2) rfl,?_;refine{_,_,_,rfl,sh c' (by simp),λH0 s0=>?_};exists p,_,rfl,s0.seq hp,?_;rw[show iR (List.map V.str (a::b::c'::r)) (some 3) none=r.map V.str from(je _ 3).trans rfl];intros p1 H1 s1 h1;exists{_,ak h1},?_;refine fK (enc:=V.str) (ws:=r) (λz=>dO mH (AI z)) (λσ=>∃v,σ=[v]) () (ak h1) {(none),rfl} ?_ ?_
  ·rintro z σ H4 R hz s4 ⟨_,rfl⟩ r
   change{sh' z hz,λv H5 s5 h5=>r _ _ _ s5 h5 {_,rfl}}
  ·intro D vs H4 s4 hD il
   refine{D,vs,rfl,ak hD,by rw[il.len,zd];ext,λH5 s5=>?_};let il:=m9 il;rw[jW il];let s05:=((s0.trans s1).trans s4).trans s5;cases q:((r.map AI).map (dO mH)).any Dt.gp with
   | true=>
    left;refine kk _ _ s05 ?_;rw[jg P0 q];exact dZ
   | false=>
    let⟨xs,e2,e3,e4⟩:=jf q;rw[e3] at il;rw[e2] at kk;let il5:=il.mono s5;let hD5:=s5 _ _ hD;exists p,_,0,_,rfl,rfl,s05.seq hp,bz (j:=0) rfl,?_;refine{_,rfl,sh a (by simp),λH6 s6=>?_};exists p,_,1,_,rfl,rfl,(s05.trans s6).seq hp,bz (j:=1) rfl,?_;refine{_,rfl,sh b (by simp),λH7 s7=>?_};left;refine{D,_,rfl,.inl {ak (s7 _ _ (s6 _ _ hD5)),?_}};intros p8 H8 s8 h8;exists by show 4<=sizeLine;ext,?_
    intros p9 H9 s9 h9;let s59:=((s6.trans s7).trans s8).trans s9;refine{p9,_,rfl,h9,(by show 4<=1000000;decide),λHx sx=>kk _ _ ((s05.trans s59).trans sx) ?_};rw[Ge];refine Gr (ds:=[dO .int (fG a),dO .int (fG b),dO .int (lX c' 2 9),.tup (xs.map mH)]) (sx _ _ h9) (bc (Bj _) (bc (Bj _) (bc (Bj _) (nA (cM (sx _ _ (s9 _ _ h8)) (il5.mono (s59.trans sx))))))) ?_ ?_
    ·cases fG a <;> cases fG b <;> cases lX c' 2 9 <;> first | (intro _;rfl) | (intro q;exact absurd q (by simp[dO,dL,Dt.gp]))
    ·cases fG a <;> cases fG b <;> cases lX c' 2 9 <;> first | (intro _;rfl) | (intro q;exact absurd q (by simp[dO,dL,Dt.gp]))
def Fx:dz P w base 3 T.nV (fQ K (o6 gq AQ)):=by
 nomatch T.nV,["words","stops","coda"]
 let⟨p,ws,rfl,hp,hl,sh,kk⟩:=h;let sl:=yF;refine{_,(ag (aL (ptr jq (dC ay T.bx (ah (pv 0) ae)) af)
  (aj (ax bj))
  aA)
  (ag (b7 1 qN (cw (eB T) hr T.dq (ah (og (ts:=["word"]) (ys:=[]) (js:=[]) (te:=(gn j9 [] E0 (aY (aW 0) cE))) (bY (dS iF (pv 0) eX (eW af))) (gF 0) bG (cw (cA T) hr T.cU (ah (pv 0) ae))) ae)))
  (ag (b7 2 qN (cw (cA T) hr T.cU (ah (dF (pv 0) af) ae)))
  (ag (aL (PW.pt (d8 (bL (cF (pv 1))) (dk (PW.pt (dr (bL (cF (pv 2))) (c9 (ptr jq (dF (pv 0) af) az)))))))
  (aj (ax bj))
  aA)
  (aj (ax (bT (ah (dF (pv 1) af) (ah (dF (pv 1) af) (ah (dF (pv 1) af) (ah (pv 2) ae))))))))))),?_}
 ac_rfl;exists p,_,rfl,.inl hp,?_;rw[zd];left
 by_cases hw:⇑ws=4
 ·obtain⟨a,b,c,d,rfl⟩:∃a b c d,ws=[a,b,c,d]:=by
   match ws,hw with
   | [a,b,c,d],_=>exact{(a),b,c,d,rfl}
  let en:AQ [a,b,c,d]=(match fG a,fG b,fG c with | some x,some y,some z=>(match fG d with | some n=>some {x,y,z,some n} | none=>if d ="end" then some {(x),y,z,none} else none) | _,_,_=>none):=rfl;unfold o6 at kk;rw[en] at kk;refine cD rfl ?_;exists p,_,rfl,hp,?_;rw[show iR (List.map V.str [a,b,c,d]) none (some 3)=[a,b,c].map V.str from(RI _ 3).trans rfl];intros p1 H1 s1 h1;exists{_,ak h1},?_;refine fK (enc:=V.str) (ws:=[a,b,c]) (λz=>dO .int (fG z)) (λσ=>∃v,σ=[v]) (by show 3<=sizeLine;ext) (ak h1) {(none),rfl} ?_ ?_
  ·rintro z σ H4 R hz s4 ⟨_,rfl⟩ r
   change{sh z (by simp at hz ⊢;rcases hz with h | h | h <;> simp[h]),λH5 s5=>r _ _ _ s5 (Bj _) {_,rfl}}
  ·intro D vs H4 s4 hD il
   refine{D,vs,rfl,ak hD,by rw[il.len];show 3<=1000000;decide,λH5 s5=>?_};let il:=m9 il;rw[jW il];let s05:=(s1.trans s4).trans s5;cases q:(([a,b,c].map fG).map (dO Dt.int)).any Dt.gp with
   | true=>
    exists p,_,3,_,rfl,rfl,s05.seq hp,rfl,?_;refine{_,rfl,sh d (by simp),λH6 s6=>?_};left;refine kk _ _ (s05.trans s6) ?_;let q':([fG a,fG b,fG c].map (dO Dt.int)).any Dt.gp=true:=q;clear q en kk
    revert q'
    cases fG a <;> cases fG b <;> cases fG c <;> intro q' <;> first | exact dZ | exact absurd q' (by simp[dO,Dt.gp])
   | false=>
    obtain⟨x,y,z,ea,eb,ec⟩:∃x y z,fG a=some x/\fG b=some y/\fG c=some z:=by
     let q':([fG a,fG b,fG c].map (dO Dt.int)).any Dt.gp=false:=q;clear q en kk il
     revert q'
     cases fG a <;> cases fG b <;> cases fG c <;> intro q' <;> first | exact⟨_,_,_,rfl,rfl,rfl⟩ | exact absurd q' (by simp[dO,Dt.gp])
    rw[ea,eb,ec] at kk;let il':aB H4 ([x,y,z].map Dt.int) vs:=by
     have:([a,b,c].map fG).map (dO Dt.int)=[x,y,z].map Dt.int:=by simp[ea,eb,ec,dO]
     rw[this] at il;exact il
    let ev:=fC il';subst ev;let hD5:=s5 _ _ hD;exists p,_,3,_,rfl,rfl,s05.seq hp,rfl,?_;refine{_,rfl,sh d (by simp),λH6 s6=>?_};let hD6:=s6 _ _ hD5;let s06:=s05.trans s6;let fin:∀(o:Option Int) (v:V),Is H6 (dO .int o) v->fG d=o->(o=none->d ="end")->∀p7 H7,aG H6 H7->H7 p7=some (.tup [.int x,.int y,.int z,v])->Q (.ref p7) H7:=λo v iv eo hend p7 H7 s7 h7=>by
     refine kk _ _ (s06.trans s7) ?_;rw[eo];cases o with
     | none=>
      simp only[hend rfl,yR];exact cM h7 (bc cW (bc cW (bc cW (nA (iv.mono s7)))))
     | some n=>exact cM h7 (bc cW (bc cW (bc cW (nA (iv.mono s7)))))
    cases ed:fG d with
    | none=>
     exists p,_,3,_,rfl,rfl,s06.seq hp,rfl,?_;left
     by_cases he:d ="end"
     ·refine cD (by rw[he];rfl) ?_
      exists D,_,0,_,rfl,rfl,ak hD6,rfl,?_;exists D,_,1,_,rfl,rfl,ak hD6,rfl,?_;exists D,_,2,_,rfl,rfl,ak hD6,rfl,?_;left;refine{by show 4<=sizeLine;ext,laid ?_};exact fin none .bQ dZ ed λ_=>he
     ·refine cz (by rw[zg λz=>he (V.str.inj z)];rfl) ?_
      left;refine kk _ _ s06 ?_;rw[ed];simp only[yQ he];exact dZ
    | some n=>
     exists D,_,0,_,rfl,rfl,ak hD6,rfl,?_;exists D,_,1,_,rfl,rfl,ak hD6,rfl,?_;exists D,_,2,_,rfl,rfl,ak hD6,rfl,?_;left;refine{by show 4<=sizeLine;ext,laid ?_};exact fin (some n) (.int n) cW ed λz=>nomatch z
 ·refine cz (by rw[zg λz=>hw (by have:=V.int.inj z;ext)];rfl) ?_
  left;refine kk _ _ (aF _) ?_;let e:AQ ws=none:=by
   rcases ws with _ | ⟨_,_ | ⟨_,_ | ⟨_,_ | ⟨_,_ | ⟨_,r⟩⟩⟩⟩⟩
   all_goals first | rfl | exact absurd rfl hw
  unfold o6;rw[e];exact dZ
structure Dk (P:vo) (w:vq) (K:yE) {mg:Str->Option vm} (T:Txt K mg):Prop where
 LJ:KD P w K T.i7 [("player",.ref T.gK),("instrument",.ref T.eJ),("staff",.ref T.iT),("bar",.ref T.lJ),("upbeat",.ref T.gI),("holds",.ref T.jZ),("notes",.ref T.iU),("repeat",.ref T.gJ),("jump",.ref T.jY)]
 TQ:KD P w K T.qB [("player",.ref T.gh),("instrument",.ref T.d5),("staff",.ref T.gH),("bar",.ref T.j0),("upbeat",.ref T.gf),("holds",.ref T.iW),("notes",.ref T.gL),("repeat",.ref T.gg),("jump",.ref T.iV)]
inductive NZ (K:yE) {mg:Str->Option vm} (T:Txt K mg):vw->Sp->Prop where
 | bA:NZ K T T.gK (fQ K (o6 .str (one cu)))
 | cg:NZ K T T.eJ (fQ K (o6 dy mZ))
 | bE:NZ K T T.iT (fQ K (o6 nK sA))
 | bar:NZ K T T.lJ (fQ K (o6 kJ Fo))
 | aH:NZ K T T.gI (fQ K (o6 dL (one lr)))
 | holds:NZ K T T.jZ (fQ K (o6 uc tP))
 | aJ:NZ K T T.iU (fQ K Vs)
 | rep:NZ K T T.gJ (fQ K (o6 jI kY))
 | bP:NZ K T T.jY (fQ K (o6 gq AQ))
noncomputable def AO {K:yE} {mg:Str->Option vm} (T:Txt K mg):List (Str×V):=[("player",V.ref T.gK),("instrument",.ref T.eJ),("staff",.ref T.iT),("bar",.ref T.lJ),("upbeat",.ref T.gI),("holds",.ref T.jZ),("notes",.ref T.iU),("repeat",.ref T.gJ),("jump",.ref T.jY)]
def OO (K:yE) {mg:Str->Option vm} (T:Txt K mg) (x:Str):(rL (AO T) x=none/\∀ws,jP (x::ws)=none)\/∃f D,rL (AO T) x=some (.ref f)/\NZ K T f (fQ K D)/\∀H0 H v ws,D H0 H v ws->gC H0 H v (jP (x::ws)):=by
 by_cases e0:x ="player"
 ·subst e0
  refine .inr {_,_,rfl,.bA,λH0 H v ws h=>?_};exact mK (g:=Told.bA) h λx z=>by unfold Is at z;exact z
 by_cases e1:x ="instrument"
 ·subst e1
  refine .inr {_,_,rfl,.cg,λH0 H v ws h=>?_};exact mK (g:=λ(x:Str×(Int×Int)×(Int×Int))=>Told.cg x.1 x.2.1 x.2.2) h λx z=>(show Is H (dy x) v from z)
 by_cases e2:x ="staff"
 ·subst e2
  refine .inr {_,_,rfl,.bE,λH0 H v ws h=>?_};exact mK (g:=λ(x:Str×List Str)=>Told.bE x.1 x.2) h λx z=>(show Is H (nK x) v from z)
 by_cases e3:x ="bar"
 ·subst e3
  refine .inr {_,_,rfl,.bar,λH0 H v ws h=>?_};exact mK (g:=Told.bar) h λx z=>z
 by_cases e4:x ="upbeat"
 ·subst e4
  refine .inr {_,_,rfl,.aH,λH0 H v ws h=>?_};exact mK (g:=Told.aH) h λx z=>z
 by_cases e5:x ="holds"
 ·subst e5
  refine .inr {_,_,rfl,.holds,λH0 H v ws h=>?_};exact mK (g:=λ(x:Str×Int×Str)=>Told.holds x.1 x.2.1 x.2.2) h λx z=>(show Is H (uc x) v from z)
 by_cases e6:x ="notes"
 ·subst e6
  refine .inr {_,_,rfl,.aJ,λH0 H v ws h=>?_};let e:jP ("notes":: ws)=(kZ ws).map λx=>Told.aJ x.1 x.2.1 x.2.2:=rfl;rw[e];unfold Vs at h;cases q:kZ ws with
  | none=>rw[q] at h;exact h
  | some y=>rw[q] at h;exact h
 by_cases e7:x ="repeat"
 ·subst e7
  refine .inr {_,_,rfl,.rep,λH0 H v ws h=>?_};exact mK (g:=Told.rep) h λx z=>z
 by_cases e8:x ="jump"
 ·subst e8
  refine .inr {_,_,rfl,.bP,λH0 H v ws h=>?_};exact mK (g:=Told.bP) h λx z=>z
 refine .inl {?_,λws=>?_}
 ·let f0:∀(k:Str) (v:V) (r:List (Str×V)),x≠k->rL ((k,v)::r) x=rL r x:=λk v r h=>by
   unfold rL;rw[yV];rw[show decide ((k,v).1=x)=false from zg λz=>h z.symm]
  unfold AO;rw[f0 _ _ _ e0,f0 _ _ _ e1,f0 _ _ _ e2,f0 _ _ _ e3,f0 _ _ _ e4,f0 _ _ _ e5,f0 _ _ _ e6,f0 _ _ _ e7,f0 _ _ _ e8];rfl
 ·unfold jP
  dsimp only;rw[yQ e0,yQ e1,yQ e2,yQ e3,yQ e4,yQ e5,yQ e6,yQ e7,yQ e8]
def rR {K:yE} {mg:Str->Option vm} (T:Txt K mg):Sp:=λvs H Q _=>∃x:Str,vs=[.str x]/\Q (.bl (rL (AO T) x).isSome) H
def sF (B:Dk P w K T):dz P w base 1 T.ke (rR T):=by
 nomatch T.ke,["word"]
 let⟨x,rfl,kk⟩:=h;refine{_,(aj (ax (sE (Rh (pv 0) (bH (v:=.ref T.i7) (by rfl) T.Ep rfl))))),?_};ac_rfl;exists T.i7,AO T,x,rfl,B.LJ,rfl,?_;left;show Q (V.bl (false ^^ (rL (AO T) x).isSome)) H;rw[Bool.false_xor];exact kk
def tL:d6 ["words","reader"] ["words"] (aT pC):=Sd
def Ia (B:Dk P w K T):dz P w base 7 T.AK (G8 K):=by
 refine T.AK.F.Um tL λcdv A' outer s H vs Q E hr h=>?_
 ·let⟨p,x,ws,rfl,hp,hl,sh,kk⟩:=h
  let sl:=yF;let hTbV:∀f sp,NZ K T f sp->Qv (gX Cc P w K mg base ["words","reader"] "read_row" (aT pC) T.BY cdv A' outer s H E).FF Cc 6 f sp:=by
   intro f sp h;cases h with
   | bA=>exact{_,_,L2.cO.mono (A4 T) ∅,T.jO.F.kp,T.jO.b}
   | cg=>exact{_,_,L2.cO.mono (pN T) ∅,T.fA.F.kp,T.fA.b}
   | bE=>exact{_,_,L2.cO.mono (CM T) ∅,T.kW.F.kp,T.kW.b}
   | bar=>exact{_,_,L2.cO.mono (Ie T) ∅,T.qA.F.kp,T.qA.b}
   | aH=>exact{_,_,L2.cO.mono (A2 T) ∅,T.jM.F.kp,T.jM.b}
   | holds=>exact{_,_,L2.cO.mono (Fy T) ∅,T.nX.F.kp,T.nX.b}
   | aJ=>exact{_,_,L2.cO.mono (CN T) ∅,T.kX.F.kp,T.kX.b}
   | rep=>exact{_,_,L2.cO.mono (A3 T) ∅,T.jN.F.kp,T.jN.b}
   | bP=>exact{_,_,L2.cO.mono (Fx T) ∅,T.nV.F.kp,T.nV.b}
  refine{_,(ag (aL (eM (cj (cw (sF T B) hr T.ke (ah (dF (pv 0) af) ae))))
   (aj (ax bj))
   aA)
   (ag (b7 1 tL.nd (HR (bH (v:=.ref T.i7) (by rfl) T.Ep rfl) (dF (pv 0) af) (λ_ _=>rfl)))
   (aj (ax (HU (NZ K T) hTbV (hr.mono ∅) (pv 1) AX (ah (dS iF (pv 0) (eW af) eX) ae)))))),?_}
  ac_rfl;exists p,_,0,_,rfl,rfl,hp,bz (j:=0) rfl,?_;refine{x,rfl,?_};rcases OO K T x with⟨ev,er⟩ | ⟨f,D,ev,htb,hd⟩
  ·rw[ev]
   left;refine kk _ _ (aF _) ?_;rw[er];rfl
  ·rw[ev]
   exists p,_,0,_,rfl,rfl,hp,bz (j:=0) rfl,?_;refine{T.i7,AO T,x,_,rfl,B.LJ,rfl,ev,?_};exists f,_,rfl,htb,?_;exists p,_,rfl,hp,?_;rw[show iR (List.map V.str (x::ws)) (some 1) none=ws.map V.str from(je _ 1).trans rfl];intros p1 H1 s1 h1;refine{p1,ws,rfl,ak h1,(),λy hy=>sh y (by simp[hy]),λv H2 s2 h2=>kk _ _ (s1.trans s2) ((hd _ _ _ _ h2).back s1)}
def md:dz P w base 1 T.iH (uh K):=by
 nomatch T.iH,["repeats","bar","repeat"]
 let⟨p,rs,b,rfl,⟨vs,hp,il⟩,kk⟩:=h;unfold dP at kk;refine{_,(ag (dH yS rfl (bY (pv 0)) (eN 2 qN)
  (aj (aL (PW.pt (dr (ptr iE (cy (pv 2) af) (pv 1)) (c9 (ptr iE (pv 1) (cy (pv 2) af)))))
   (aj (ax (pv 2)))
   aA)))
  (aj (ax bj))),?_}
 ac_rfl;exists{_,hp},?_;refine gW (K:=K) (a:=p) (xs:=vs) (λi σ H'=>H'=H/\(rs.take i).find? (λr=>decide (r.first<=b)&&decide (b<=r.last))=none/\∃v,σ=[some (.ref p),some (.int b),v]) {(rfl),rfl,none,rfl} (λi σ H' _ h=>by rw[h.1];exact hp) ?_ ?_
 ·intro i x σ H' hx hh
  refine eD λN kN0 kR0 _ _=>?_;let⟨rfl,hn,v,rfl⟩:=hh;let⟨r,hr',hi⟩:=df il hx;let⟨a,e,rfl,ha,he⟩:=fT hi;left
  by_cases c1:r.first<=b
  ·refine cz (zh c1) ?_
   left
   by_cases c2:b<=r.last
   ·refine cz (zh c2) ?_
    left;refine kk _ ?_;rw[L6 hr' hn (by rw[zh c1,zh c2];rfl)];exact hi
   ·refine cD (zg c2) ?_
    change{Eh hr' hn (by rw[zg c2,wJ]),_,rfl}
  ·refine cD (zg c1) ?_
   change{Eh hr' hn (by rw[zg c1,yW]),_,rfl}
 ·rintro σ H' ⟨rfl,hn,v,rfl⟩
  rw[aZ il,zO] at hn;left;refine kk _ ?_;rw[hn];exact dZ
def Fz:dz P w base 2 T.sN (EW K):=by
 nomatch T.sN,["repeats","bar","repeat"]
 let⟨p,rs,b,rfl,hp,kk⟩:=h;unfold gR at kk;refine{_,(ag (b7 2 qN (cw (md T) hr T.iH (ah (pv 0) (ah (pv 1) ae))))
  (aj (ax (O1 (sE (cF (pv 2))) (hX (cR cS (pv 1) (cy (pv 2) af) (fe _))))))),?_}
 ac_rfl;exists p,rs,b,rfl,hp,λv iv=>?_;cases q:dP rs b with
 | none=>
  rw[q] at iv kk;unfold dO Is at iv;subst iv;change kk
 | some r=>
  rw[q] at iv kk;let⟨a,e,rfl,ha,he⟩:=fT iv;left;let e1:decide (V.int b=V.int r.last)=decide (b=r.last):=by simp
  show Q (.bl (decide (V.int b=V.int r.last))) H;rw[e1];exact kk
def qI:dz P w base 2 T.oq (EX K):=by
 nomatch T.oq,["repeats","bar","repeat"]
 let⟨p,rs,b,rfl,hp,kk⟩:=h;unfold eA at kk;refine{_,(ag (b7 2 qN (cw (md T) hr T.iH (ah (pv 0) (ah (pv 1) ae))))
  (aj (ax (O1 (sE (cF (pv 2))) (hX (cR cS (pv 1) (cy (pv 2) af) (fe _))))))),?_}
 ac_rfl;exists p,rs,b,rfl,hp,λv iv=>?_;cases q:dP rs b with
 | none=>
  rw[q] at iv kk;unfold dO Is at iv;subst iv;change kk
 | some r=>
  rw[q] at iv kk;let⟨a,e,rfl,ha,he⟩:=fT iv;left;let e1:decide (V.int b=V.int r.first)=decide (b=r.first):=by simp
  show Q (.bl (decide (V.int b=V.int r.first))) H;rw[e1];exact kk
def P7 (us:List V) (h:us≠[]):¬(HT.eU ⇑us 0 (some 1)=0/\HT.eU ⇑us ⇑us none=⇑us):=by
 rintro⟨h1,_⟩;let hp:0<⇑us:=yv.mpr h;let e:HT.eU ⇑us 0 (some ((1:Nat):Int))=min 1 ⇑us:=by unfold HT.eU;simp
 let e':HT.eU ⇑us 0 (some (1:Int))=min 1 ⇑us:=e;rw[e'] at h1;ext
def MJ {K:yE} {H:Hp} {e:vw} {us:List V} {Q:VK} (hu:H e=some (.tup us)) (k:∀q H1,aG H H1->H1 q=some (.tup (us.drop 1))->Q (.ref q) H1):R3 K (.ref e) (some 1) none H Q:=by
 by_cases h:us=[]
 ·subst h
  exact .inr {e,[],rfl,bC hu,{(rfl),rfl},k e H (aF H) hu}
 ·refine .inl {e,us,rfl,bC hu,P7 us h,?_}
  rw[show iR us (some 1) none=us.drop 1 from je us 1];exact laid k
def Kl:dz P w base 1 T.FV JW:=by
 nomatch T.FV,["repeat","ends","behind"]
 let⟨v,r,rfl,iv,hl,kk⟩:=h;let sl:=yF;let⟨a,e,rfl,ha,he⟩:=fT iv;unfold Is at he;let⟨e',us,ee,hu,ilu⟩:=he;cases ee;refine{_,(ag (b7 1 qN (cy (pv 0) af))
  (ag (b7 2 qN (ao cT (og (ts:=["end"]) (ys:=[]) (js:=[]) (te:=(cP (mE K) (aW 0) (tC (.int (0))))) (kb (dS QU (pv 1) (eW af) eX)) (gF 0) bG (cy (pv 0) af)) (aU (ah (ao bw (cy (pv 0) af) af) ae))))
  (aj (ax (og (ts:=["end","after"]) (ys:=[]) (js:=[]) (g:=(CY K 2 (eI (bW 0) (eI (bW 1) CZ)))) (te:=(EH (aY (cP (mE K) (aW 0) (tC (.int (0)))) (aY (cP (tO λi j=>.int (i-j)) (aW 1) (tC (.int (1)))) (aY (cP (mE K) (aW 0) (tC (.int (1)))) cE))))) (Ki (by rfl) T.Pk (ah (pv 1) (ah (pv 2) ae))) (du (n:=2) rfl (aD (gF 0) (aD (gF 1) cG))) bG (bT (ah (cy (pv 0) af) (ah (ao ly (pv 1) af) (ah (cy (pv 0) af) ae))))))))),?_}
 ac_rfl;left;let main:∀(q:vw) (H1:Hp),aG H H1->H1 q=some (.tup (us.drop 1))->∀(R:VK),(∀D H2,aG H1 H2->H2 D=some (.lst ((r.ends.drop 1).map λx=>V.int x.1))->R (.ref D) H2)->
   dQ [none] (bW 0) ug (cP (mE K) (aW 0) (tC (.int 0))) R (Sk K q) H1:=by
  intro q H1 s1 h1 R hR;let il1:aB H ((r.ends.drop 1).map mH) (us.drop 1):=by
   cases re:r.ends with
   | nil=>
    rw[re] at ilu;unfold aB at ilu;subst ilu;unfold aB;rfl
   | cons x xs=>
    rw[re,zk] at ilu;unfold aB at ilu;let⟨u,ur,rfl,_,h2⟩:=ilu;exact h2
  let⟨ps,f1,f2,f3⟩:=vK il1;let pl:⇑ps<=1000000:=by
   have:⇑ps=⇑(r.ends.drop 1):=by rw[<-f1,zd]
   rw[this,xC];ext
  refine gz (enc:=λz:Sc.End×V=>z.2) (ws:=ps) (λz=>.int z.1.1) (λσ=>∃v,σ=[v]) () (by rw[f2];exact h1) {(none),rfl} ?_ ?_
  ·rintro z σ H6 R' hz s6 ⟨_,rfl⟩ r'
   let⟨a6,q6,ev,h6,h7⟩:=sV (f3 z hz);rw[ev];let h66:=s6 _ _ (s1 _ _ h6);change r' _ _ _ (aF _) cW {_,rfl}
  ·intro D vs H6 s6 hD il
   let e5:ps.map (λz=>Dt.int z.1.1)=((r.ends.drop 1).map (·.1)).map Dt.int:=by rw[<-f1,zC,zC];rfl
   rw[e5] at il;rw[fC il,zC] at hD;exact hR D H6 s6 hD
 refine MJ hu λq H1 s1 h1=>{q,rfl,{_,bC h1},main q H1 s1 h1 _ λD H2 s2 h2=>?_}
 let ha2:=s2 _ _ (s1 _ _ ha);exists by show 1<=sizeLine;ext,?_
 intros p3 H3 s3 h3;refine{D,p3,_,_,rfl,rfl,ak (s3 _ _ h2),ak h3,by rw[zd,xC];show _+1<=_;ext,?_};intros p4 H4 s4 h4;let s04:=(s1.trans s2).trans (s3.trans s4);let hu4:=s04 _ _ hu;let eb:(List.map (λx=>V.int x.1) (r.ends.drop 1)++[V.int (r.last+1)])=((r.ends.drop 1).map (·.1)++[r.last+1]).map V.int:=by rw[zm,zC];rfl
 rw[eb] at h4;left;let ilu4:=ilu.mono s04;let ul:=aZ ilu;refine{true,false,e,p4,us,_,rfl,bC hu4,ak h4,?_};generalize hbs:(r.ends.drop 1).map (·.1)++[r.last+1]=bs at h4;let zl:⇑(r.ends.zip bs)=min ⇑r.ends ⇑bs:=xB;refine pU (ws:=r.ends.zip bs) (λz x H'=>∃p u,x=.ref p/\H' p=some (.tup [u,.int z.2])/\Is H' (mH z.1) u) (λz=>Ny (z.1.1,z.2-1,z.1.2)) (λσ=>∃u v,σ=[u,v]) () {(none),none,rfl} ?_ ?_ ?_ ?_ ?_
 ·intro i H5 hi s5
  let i1:i<⇑us:=()
  let i2:i<⇑(bs.map V.int):=by rw[zd];ext
  exact{us,bs.map V.int,us[i],(bs.map V.int)[i],bC (s5 _ _ hu4),ak (s5 _ _ h4),ze i1,ze i2}
 ·intro H5 s5
  refine{us,bs.map V.int,bC (s5 _ _ hu4),ak (s5 _ _ h4),?_};rw[zd];rcases Nat.le_total ⇑r.ends ⇑bs with h | h
  ·exact Or.inl ()
  ·right;ext
 ·rintro i x H5 H6 hi s5 ⟨p,u,v,hp,rfl,rfl,hu',hv'⟩
  let i1:i<⇑r.ends:=()
  let i2:i<⇑bs:=()
  let gu:=hu' us (bC (s5 _ _ hu4));let gv:=hv' (bs.map V.int) (ak (s5 _ _ h4));rw[zL,ze i2] at gv;cases gv;let⟨x0,hx0,ix0⟩:=df (ilu4.mono s5) gu;rw[ze i1] at hx0;cases hx0;refine{bF hp,p,u,rfl,?_,?_}
  ·rw[aE,List.getElem_zip]
  ·rw[List.getElem_zip];exact ix0.mono (bF hp)
 ·rintro z x σ H5 R hz s5 ⟨p,u,rfl,hp,iu⟩ ⟨_,_,rfl⟩ rr
  let⟨a6,q6,rfl,h6,h7⟩:=sV iu;refine{p,_,rfl,bC hp,rfl,?_};refine{_,_,rfl,_,_,rfl,rfl,?_};left;refine{mW,laid λp7 H7 s7 h7'=>rr _ _ _ s7 ?_ {_,_,rfl}};exact cM h7' (bc cW (bc cW (nA (cM (s7 _ _ h7) qT))))
 ·intro D5 vs5 H5 s5 hD5 il5
  refine kk _ _ _ (s04.trans s5) hD5 ?_;let ee:(jz r).map Ny=(r.ends.zip bs).map λz=>Ny (z.1.1,z.2-1,z.1.2):=by
   unfold jz;rw[hbs,zC];rfl
  rw[ee];exact il5
def Sy {H:Hp} {e:Int×Int×List Int} {v:V} (h:Is H (Ny e) v):∃a q,v=.ref a/\H a=some (.tup [.int e.1,.int e.2.1,.ref q])/\H q=some (.tup (e.2.2.map V.int)):=by
 unfold Ny Is at h;let⟨a,vs,rfl,ha,hl⟩:=h;unfold aB at hl;let⟨v1,r1,rfl,h1,hl⟩:=hl;unfold aB at hl;let⟨v2,r2,rfl,h2,hl⟩:=hl;unfold aB at hl;let⟨v3,r3,rfl,h3,hl⟩:=hl;unfold aB at hl;subst hl;unfold Is at h1 h2;subst h1 h2;unfold ua Is at h3;let⟨q,us,rfl,hq,hle⟩:=h3;rw[fC hle] at hq;exact{(a),q,rfl,ha,hq}
noncomputable def Bt (r:Rep) (b:Int) (e:Int×Int×List Int):Bool:=decide (e.1<=b)&&decide (b<=e.2.1)&&!decide (r.times∈e.2.2)
def Nf (rs:List Rep) (b:Int):lE rs b=rs.all λr=>(jz r).all λe=>!Bt r b e:=rfl
theorem Eg:∀ns:List Int,(ns.map V.int).all mm=true
 | []=>rfl
 | n::ns=>by rw[zk,wV,Eg ns];rfl
def mh:dz P w base 2 T.iP (uk K):=by
 nomatch T.iP,["repeats","bar","repeat","end"]
 let⟨p,rs,b,rfl,⟨vs,hp,il⟩,hl,kk⟩:=h;rw[Nf] at kk;refine{_,(ag (dH yS rfl (bY (pv 0)) (eN 2 qN)
  (aj (dH yS rfl (bY (cw (Kl T) hr T.FV (ah (pv 2) ae))) (eN 3 qN)
   (aj (aL (PW.pt (dr (ptr iE (cy (pv 3) af) (pv 1)) (dr (ptr iE (pv 1) (cy (pv 3) af)) (c9 (jQ eY (cy (pv 2) af) (cy (pv 3) af) (by with_unfolding_all rfl))))))
    (aj (ax lY))
    aA)))))
  (aj (ax lY))),?_}
 ac_rfl;exists{_,hp},?_;refine gW (K:=K) (a:=p) (xs:=vs) (λi σ H'=>aG H H'/\(rs.take i).all (λr=>(jz r).all λe=>!Bt r b e)=true/\∃v u,σ=[some (.ref p),some (.int b),v,u]) {aF H,rfl,none,none,rfl} (λi σ H' _ h=>h.1.seq hp) ?_ ?_
 ·intro i x σ H' hx hh
  refine eD λN kN0 kR0 _ _=>?_;let⟨s1,hn,v,u,rfl⟩:=hh;let⟨r,hr',hi⟩:=df il hx;let hm:=zD hr';exists _,r,rfl,hi.mono s1,hl r hm,λD us H2 s2 hD ilD=>?_;refine{D,rfl,{_,ak hD},?_};let⟨a,e,rfl,ha,he⟩:=fT (hi.mono (s1.trans s2));refine gW (K:=K) (a:=D) (xs:=us) (λj σ H'=>H'=H2/\((jz r).take j).all (λe=>!Bt r b e)=true/\∃u,σ=[some (.ref p),some (.int b),some (.ref a),u]) {rfl,rfl,_,rfl} (λj σ H' _ h=>by rw[h.1];exact ak hD) ?_ ?_
  ·intro j y σ H3 hy hh
   refine eD λN kN1 kR1 _ _=>?_;let⟨rfl,hnj,u',rfl⟩:=hh;let⟨t,ht,it⟩:=df ilD hy;let⟨a6,q6,rfl,h6,h7⟩:=Sy it;let good:Bt r b t=false->((jz r).take (j+1)).all (λe=>!Bt r b e)=true:=λz=>by
    rw[eG ht,List.all_append,hnj,yY];simp[z]
   left
   by_cases c1:t.1<=b
   ·refine cz (zh c1) ?_
    left
    by_cases c2:b<=t.2.1
    ·refine cz (zh c2) ?_
     exists q6,t.2.2.map V.int,rfl,.inr (bC h7),rfl,Eg _,?_;show∃k,V.bl (!IA (.int r.times) (t.2.2.map V.int))=.bl k/\_;rw[Bk]
     by_cases c3:r.times∈t.2.2
     ·rw[zh c3]
      change{good (by unfold Bt;rw[zh c3];simp),_,rfl}
     ·rw[zg c3]
      left;let z:=kk H3 (s1.trans s2);let e0:(rs.all λr=>(jz r).all λe=>!Bt r b e)=false:=by
       rw[List.all_eq_false];refine{r,hm,?_};have:((jz r).all λe=>!Bt r b e)=false:=by
        rw[List.all_eq_false];exact{t,zD ht,by unfold Bt;simp[c1,c2,c3]}
       rw[this];decide
      rw[e0] at z;exact z
    ·refine cD (zg c2) ?_
     change{good (by unfold Bt;rw[zg c2];simp),_,rfl}
   ·refine cD (zg c1) ?_
    change{good (by unfold Bt;rw[zg c1];simp),_,rfl}
  ·rintro σ H3 ⟨rfl,hnj,u',rfl⟩
   rw[aZ ilD,zO] at hnj;left;refine{s1.trans s2,?_,_,_,rfl};rw[eG hr',List.all_append,hn,yY];simp[hnj]
 ·rintro σ H' ⟨s1,hn,v,u,rfl⟩
  rw[aZ il,zO] at hn;left;let z:=kk H' s1;rw[hn] at z;exact z
inductive EZ (K:yE) (vs:List V) (H:Hp) (Q:VK) (E:XK):Prop
 | mk (p:vw) (rs:List Rep) (a c:Int) (_:vs=[.ref p,.int a,.int c]) (_:Du K H p rs) (_:(∀r∈rs,⇑r.ends<=1000000)) (_:∀H',aG H H'->Q (.bl (decide (a<c)&&eA rs c&&lE rs c)) H')
inductive EY (K:yE) (vs:List V) (H:Hp) (Q:VK) (E:XK):Prop
 | mk (p:vw) (rs:List Rep) (v:V) (j:Jump) (_:vs=[.ref p,v]) (_:Du K H p rs) (_:(∀r∈rs,⇑r.ends<=1000000)) (_:Is H (gq j) v) (_:∀H',aG H H'->Q (.bl (gU rs j)) H')
def vI {H:Hp} {j:Jump} {v:V} (h:Is H (gq j) v):∃a,v=.ref a/\H a=some (.tup [.int j.vJ,.int j.Cd,.int j.dw,ov j.ik]):=by
 unfold gq Is at h;let⟨a,vs,rfl,ha,hl⟩:=h;unfold aB at hl;let⟨v1,r1,rfl,h1,hl⟩:=hl;unfold aB at hl;let⟨v2,r2,rfl,h2,hl⟩:=hl;unfold aB at hl;let⟨v3,r3,rfl,h3,hl⟩:=hl;unfold aB at hl;let⟨v4,r4,rfl,h4,hl⟩:=hl;unfold aB at hl;subst hl;unfold Is at h1 h2 h3;subst h1 h2 h3;refine{a,rfl,?_};cases q:j.ik with
 | none=>rw[q] at h4;unfold dO Is at h4;subst h4;exact ha
 | some n=>rw[q] at h4;unfold dO Is at h4;subst h4;exact ha
def FC:dz P w base 3 T.sZ (EZ K):=by
 nomatch T.sZ,["repeats","at","coda"]
 let⟨p,rs,a,c,rfl,hp,hl,kk⟩:=h;refine{_,(aj (ax (ia (cR fo (pv 1) (pv 2) (fe _)) (ia (cw (qI T) hr T.oq (ah (pv 0) (ah (pv 2) ae))) (hX (cw (mh T) hr T.iP (ah (pv 0) (ah (pv 2) ae)))))))),?_};ac_rfl;left
 by_cases c1:a<c
 ·rw[zh c1,yY] at kk
  refine cz (zh c1) ?_;exists p,rs,c,rfl,hp,?_;cases q:eA rs c with
  | true=>
   rw[q,yY] at kk;change{(p),rs,c,rfl,hp,hl,kk}
  | false=>
   rw[q,yW] at kk;change kk _ (aF _)
 ·rw[zg c1,yW,yW] at kk
  refine cD (zg c1) ?_;change kk _ (aF _)
def FA:dz P w base 4 T.sR (EY K):=by
 nomatch T.sR,["repeats","jump","at","to","until","coda"]
 let⟨p,rs,v,j,rfl,hp,hl,iv,kk⟩:=h;let⟨a,rfl,ha⟩:=vI iv;unfold gU at kk;refine{_,(ag (b7 2 qN (cy (pv 1) af))
  (ag (b7 3 qN (cy (pv 1) af))
  (ag (b7 4 qN (cy (pv 1) af))
  (ag (b7 5 qN (cy (pv 1) af))
  (ag (aL (PW.pt (d8 (ptr fo (pv 4) (pv 3)) (dk (ptr fo (pv 2) (pv 4)))))
  (aj (ax lY))
  aA)
  (ag (aL (PW.pt (dr (bL (fB (pv 5))) (c9 (eM (cj (cw (FC T) hr T.sZ (ah (pv 0) (ah (pv 2) (ah (pv 5) ae)))))))))
  (aj (ax lY))
  aA)
  (aj (ax (ia (cw (Fz T) hr T.sN (ah (pv 0) (ah (pv 2) ae))) (ia (cw (qI T) hr T.oq (ah (pv 0) (ah (pv 3) ae))) (hX (cw (mh T) hr T.iP (ah (pv 0) (ah (pv 4) ae)))))))))))))),?_}
 ac_rfl;left
 by_cases c1:j.dw<j.Cd
 ·refine cz (zh c1) ?_
  simp only[yR c1] at kk;change kk _ (aF _)
 ·refine cD (zg c1) ?_
  simp only[yQ c1] at kk;left
  by_cases c2:j.vJ<j.dw
  ·refine cz (zh c2) ?_
   simp only[yR c2] at kk;change kk _ (aF _)
  ·refine cD (zg c2) ?_
   simp only[yQ c2] at kk;left;cases q:j.ik with
   | none=>
    rw[q] at kk;exists p,rs,_,rfl,hp,?_;cases q1:gR rs j.vJ with
    | false=>
     rw[q1] at kk;change kk _ (aF _)
    | true=>
     rw[q1] at kk;exists p,rs,_,rfl,hp,?_;cases q2:eA rs j.Cd with
     | false=>
      rw[q2] at kk;change kk _ (aF _)
     | true=>
      rw[q2] at kk;change{p,rs,_,rfl,hp,hl,kk}
   | some n=>
    rw[q] at kk;exists p,rs,_,_,rfl,hp,hl,λH1 s1=>?_;cases q0:(decide (j.vJ<n)&&eA rs n&&lE rs n) with
    | false=>
     simp only[q0] at kk;change kk _ s1
    | true=>
     simp only[q0,yY] at kk;exists p,rs,_,rfl,hp.mono s1,?_;cases q1:gR rs j.vJ with
     | false=>
      rw[q1] at kk;change kk _ s1
     | true=>
      rw[q1] at kk;exists p,rs,_,rfl,hp.mono s1,?_;cases q2:eA rs j.Cd with
      | false=>
       rw[q2] at kk;change kk _ s1
      | true=>
       rw[q2] at kk;change{p,rs,_,rfl,hp.mono s1,hl,λH2 s2=>kk _ (s1.trans s2)}
def DH {l ns:List Int} (h1:ns.Perm l) (h2:ns.Pairwise (·<=·)):ns=sortI l:=by
 unfold sortI;refine List.Perm.eq_of_pairwise (le:=λa b:Int=>a<=b) (λa b _ _ x y=>Int.le_antisymm x y) h2 ?_ (h1.trans (List.mergeSort_perm _ _).symm);have:=List.pairwise_mergeSort (le:=λa b:Int=>decide (a<=b)) (λa b c x y=>by simp at x y ⊢;ext) (λa b=>by simp;ext) l;exact this.imp λh=>by simpa using h
noncomputable def GK:List Sc.End->Nat
 | []=>0
 | e::r=>⇑e.2+GK r
def SA {es:List Sc.End} {e:Sc.End} (h:e∈es):⇑e.2<=GK es:=by
 induction es with
 | nil=>cases h
 | cons x r ih=>
  rcases zE.mp h with rfl | h
  ·unfold GK;ext
  ·have:=ih h;unfold GK;ext
def Ob {a b:List Int}:(decide (a.map V.int=b.map V.int))=decide (a=b):=by
 by_cases h:a=b
 ·subst h;simp
 ·rw[zg h,zg]
  intro z;have:∀{a b:List Int},a.map V.int=b.map V.int->a=b:=by
   intro a
   induction a with
   | nil=>intro b z;cases b with | nil=>rfl | cons _ _=>cases z
   | cons x r ih=>intro b z;cases b with | nil=>cases z | cons y s=>simp at z;rw[z.1,ih (by simpa using z.2)]
  exact h (this z)
theorem qE:∀ns:List Int,(ns.map V.int).all R5=true
 | []=>rfl
 | n::ns=>by rw[zk,wV,qE ns];rfl
def IS {e:Sc.End} {r:List Sc.End} {a:Int} {ps:List Int} (h1:¬e.1<=a) (h2:e.2=sortI e.2):fX (e::r) a ps=fX r e.1 (ps++e.2):=by
 show(if e.1<=a then none else if e.2≠sortI e.2 then none else fX r e.1 (ps++e.2))=_;rw[yQ h1,yQ (λz=>z h2)]
def Ek {e:Sc.End} {r:List Sc.End} {a:Int} {ps:List Int} (h:e.1<=a\/e.2≠sortI e.2):fX (e::r) a ps=none:=by
 show(if e.1<=a then none else if e.2≠sortI e.2 then none else fX r e.1 (ps++e.2))=_;rcases h with h | h
 ·rw[yR h]
 ·rw[yR h];split <;> rfl
def RC {α:Type} {l:List α} {i:Nat} {x:α} (h:l[i]?=some x):l.drop i=x::l.drop (i+1):=by
 let⟨hi,rfl⟩:=zA.mp h;exact List.drop_eq_getElem_cons hi
inductive tK (vs:List V) (H:Hp) (Q:VK) (E:XK):Prop
 | mk (v:V) (r:Rep) (_:vs=[v]) (_:Is H (jI r) v) (_:GK r.ends<64) (_:-1000000<=r.times) (_:r.times<=1000000) (_:∀H',aG H H'->Q (.bl (fY r)) H')
def Ih:dz P w base 1 T.Br tK:=by
 nomatch T.Br,["repeat","ends","ahead","passes","end"]
 let⟨v,r,rfl,iv,ht,t0,t1,kk⟩:=h;let sl:=yF;let⟨a,e,rfl,ha,he⟩:=fT iv;unfold Is at he;let⟨e',us,ee,hu,ilu⟩:=he;cases ee;let ul:=aZ ilu;refine{_,(ag (b7 1 qN (cy (pv 0) af))
  (ag (aL (ptr cS (dC ay T.bx (ah (pv 1) ae)) af)
  (aj (ax lY))
  aA)
  (ag (b7 2 qN (ao ly (cy (pv 0) af) af))
  (ag (b7 3 qN (aU ae))
  (ag (dH yS rfl (kb (pv 1)) (eN 4 qN)
  (ag (aL (PW.pt (d8 (ptr iE (cy (pv 4) af) (pv 2)) (dk (ptr (AY hr.units) (oa rD T.Bb (ah (cy (pv 4) af) ae)) (dC rC T.Im (ah (cy (pv 4) af) ae))))))
   (aj (ax lY))
   aA)
   (ag (b7 2 qN (cy (pv 4) af))
   (aj (bX (bK yG PySem.F.slot_list_extend PySem.F.type_list_extend Kq (pv 3) (ah (cy (pv 4) af) ae)))))))
  (aj (ax (ia (cR iE (pv 2) (cy (pv 0) af) (fe _)) (hX (cR (Ft hr.units) (dC rC T.Im (ah (pv 3) ae)) (O4 rfl (by rfl) T.Bb (by rfl) T.dE (ah af (ah (ao bw (cy (pv 0) af) af) ae))) (fe _))))))))))),?_}
 ac_rfl;exists e,_,rfl,.inr (bC hu),?_;rw[ul];left
 by_cases h0:⇑r.ends=0
 ·refine cz (by rw[h0];rfl) ?_
  left;let e0:fY r=true:=by
   unfold fY;rw[yw.mp h0]
  rw[e0] at kk;exact kk _ (aF _)
 ·refine cD (zg λz=>h0 (by have:=V.int.inj z;ext)) ?_
  let ef:fY r=(match fX r.ends (r.first-1) [] with | none=>false | some (a,ps)=>decide (a<=r.last)&&decide (sortI ps=MS 1 (r.times+1-1).toNat)):=by
   unfold fY;cases q:r.ends with
   | nil=>rw[q] at h0;exact absurd rfl h0
   | cons x xs=>rfl
  rw[ef] at kk;exists by show 0<=sizeLine;ext,?_
  intro pp hn;generalize hG:upd _ pp _=H1;let s1:=aG.A8 hG hn;let h1:=BU hG;clear hG;exists{_,bC (s1 _ _ hu)},?_;refine L4 (K:=K) (a:=e) (xs:=us) (λi σ H'=>aG H H'/\∃(z:Int) (ps:List Int) (u:Option V),σ=[some (.ref a),some (.ref e),some (.int z),some (.ref pp),u]/\H' pp=some (.lst (ps.map V.int))/\⇑ps+GK (r.ends.drop i)=GK r.ends/\fX r.ends (r.first-1) []=fX (r.ends.drop i) z ps) {s1,_,[],none,rfl,h1,by simp,rfl} (λi σ H' _ h=>bC (h.1 _ _ hu)) ?_ ?_
  ·intro i x σ H2 hx hh
   refine eD λN kN0 kR0 _ _=>?_;let⟨s2,z,ps,u,rfl,h2,hc,hgo⟩:=hh;let⟨en,hen,ien⟩:=df ilu hx;let⟨a6,q6,rfl,h6,h7⟩:=sV (ien.mono s2);let hle:=SA (zD hen);rw[RC hen] at hgo hc;rw[show GK (en::List.drop (i+1) r.ends)=⇑en.2+GK (List.drop (i+1) r.ends) from rfl] at hc;left
   by_cases c1:en.1<=z
   ·refine cz (zh c1) ?_
    rw[hgo,Ek (.inl c1)] at kk;change kk _ s2
   ·refine cD (zg c1) ?_
    exists q6,_,rfl,.inr (bC h7),?_;intros p8 H8 s8 h8;let h68:=s8 _ _ h6;let h78:=s8 _ _ h7;exists q6,en.2,rfl,.inr (bC h78),(),λns np ns'=>?_;intros p9 H9 s9 h9;let h69:=s9 _ _ h68;let h79:=s9 _ _ h78;let h29:=s9 _ _ (s8 _ _ h2);rw[DH np ns'] at h9;refine{p8,p9,_,_,rfl,rfl,.inl {ak (s9 _ _ h8),ak h9},.inr (.inr {qE _,qE _}),?_};rw[Ob]
    by_cases c2:en.2=sortI en.2
    ·rw[zh c2]
     rw[IS c1 c2] at hgo;exists .inl {rfl,_,ak h29},?_;left;refine .inr {pp,q6,_,_,rfl,rfl,h29,h79,by rw[zd,zd];ext,?_};left;let s29:=(s2.trans s8).trans s9;refine{λb o hb=>?_,en.1,ps++en.2,_,rfl,by rw[aE,zm],by rw[zj];ext,hgo};let ne:b≠pp:=λz=>by rw[z,hn] at hb;cases hb
     rw[aC ne];exact s29 b o hb
    ·rw[zg c2]
     rw[hgo,Ek (.inr c2)] at kk;change kk _ ((s2.trans s8).trans s9)
  ·rintro σ H2 ⟨s2,z,ps,u,rfl,h2,hc,hgo⟩
   rw[ul,List.drop_length] at hgo hc;rw[hgo] at kk;let ha2:=s2 _ _ ha;unfold fX at kk;simp only at kk;rw[show GK []=0 from rfl] at hc;left
   by_cases c1:z<=r.last
   ·rw[zh c1,yY] at kk
    refine cz (zh c1) ?_;exists pp,ps,rfl,.inl (ak h2),(),λns np ns'=>?_;intros p9 H9 s9 h9;rw[DH np ns'] at h9;let ha9:=s9 _ _ ha2;exists 1,r.times+1,rfl,{∅,(by decide),(),()},(),?_;intros p10 H10 s10 h10;refine{p9,p10,_,_,rfl,rfl,.inl {ak (s10 _ _ h9),ak h10},.inr (.inr {qE _,qE _}),?_};rw[Ob];exact kk _ ((s2.trans s9).trans s10)
   ·rw[zg c1,yW] at kk
    refine cD (zg c1) ?_;exact kk _ s2
def Ml {xs:List V} {x:V} (h:xs[⇑xs-1]?=some x):tm xs (-1)=some x:=by
 let hp:0<⇑xs:=by
  have:=(zA.mp h).1;ext
 let ne:xs≠[]:=yv.mp hp;let e:=xW ne;let e2:xs.getLast ne=x:=by
  have:=(zA.mp h).2;rw[List.getLast_eq_getElem];exact this
 rw[<-e,e2];exact L2.BV _ _
inductive Ai (K:yE) (vs:List V) (H:Hp) (Q:VK) (E:XK):Prop
 | mk (p:vw) (rs:List Rep) (v:V) (r:Rep) (_:vs=[.ref p,v]) (_:Du K H p rs) (_:Is H (jI r) v) (_:GK r.ends<64) (_:-1000000<=r.times) (_:r.times<=1000000) (_:∀H',aG H H'->Q (.bl (kU rs r)) H')
def A1:dz P w base 2 T.mX (Ai K):=by
 nomatch T.mX,["repeats","repeat"]
 let⟨p,rs,v,r,rfl,⟨vs,hp,il⟩,iv,ht,t0,t1,kk⟩:=h;let⟨a,e,rfl,ha,he⟩:=fT iv;let vl:=aZ il;let tail:(∀H',aG H H'->Q (.bl (decide (r.first<=r.last)&&fY r)) H')->(if decide (r.first<=r.last)=true then gn tK [] E0 (aY (aW 1) cE) [some (.ref p),some (.ref a)] H Q else Q (.bl false) H):=by
  intro k
  by_cases c:r.first<=r.last
  ·rw[zh c,yY] at k
   refine cz (zh c) ?_;exact{_,rfl,_,r,rfl,iv,ht,t0,t1,k}
  ·rw[zg c,yW] at k
   refine cD (zg c) ?_;exact k _ (aF _)
 refine{_,(ag (aL (PW.pt (dr (ptr fq (dC ay T.bx (ah (pv 0) ae)) af) (c9 (ptr iE (cy (pv 1) af) (cy (dF (pv 0) (m6 jh af)) af)))))
  (aj (ax lY))
  aA)
  (aj (ax (ia (cR iE (cy (pv 1) af) (cy (pv 1) af) (fe _)) (hX (cw (Ih T) hr T.Br (ah (pv 1) ae))))))),?_}
 ac_rfl;exists p,_,rfl,.inl hp,?_;rw[vl];left
 by_cases h0:0<⇑rs
 ·refine cz (zh ()) ?_
  let hi:⇑rs-1<⇑vs:=()
  let⟨q,hq,iq⟩:=df il (ze hi);let⟨b,eb,evb,hb,_⟩:=fT iq;let eg:rs.getLast?=some q:=by rw[wo];exact hq
  unfold kU at kk;rw[eg] at kk;left;refine{p,vs,-1,_,rfl,rfl,hp,Ml (by rw[vl];exact ze hi),?_};rw[evb];left
  by_cases c:r.first<=q.last
  ·refine cz (zh c) ?_
   simp only[yR c] at kk;change kk _ (aF _)
  ·refine cD (zg c) ?_
   simp only[yQ c] at kk;change tail kk
 ·refine cD (zg ()) ?_
  let e0:rs=[]:=yw.mp ();unfold kU at kk;rw[e0] at kk;change tail kk
def Mq (x:Sc.N1):Prop:=0<=x.bg.1/\x.bg.1<=1000/\0<x.bg.2/\x.bg.2<=1000
inductive WW (C:vw) (H:Hp) (a:vw) (o:Ow):Prop
 | mk (ub jm:V) (_:H a=some (.ins C o.dx (QZ o ub jm)))
structure VG (C:vw) (H:Hp) (a:vw) (S:bO) (o:Ow):Prop where
 obj:WW C H a o
 ba:Qp H kJ o.ba S.aR
def VG.of {C a:vw} {H:Hp} {S:bO} {o:Ow} (h:cm C H a S o):VG C H a S o:={by let⟨ub,jm,h1,_⟩:=h.obj;exact{(ub),jm,h1},h.ba}
inductive ui (C:vw) (vs:List V) (H:Hp) (Q:VK) (E:XK):Prop
 | mk (a:vw) (S:bO) (o:Ow) (b:Nat) (_:vs=[.ref a,.int b]) (_:VG C H a S o) (_:b<⇑S.aR) (_:(∀x∈S.aR,Mq x)) (_:∀p H',aG H H'->H' p=some (lQ (S.bg b))->Q (.ref p) H')
def Uc {H:Hp} {b:Sc.N1} {v:V} (h:Is H (kJ b) v):∃a m q,v=.ref a/\H a=some (.tup [.ref m,.int b.key,.ref q])/\H m=some (lQ b.bg):=by
 unfold kJ Is at h;let⟨a,vs,rfl,ha,hl⟩:=h;unfold aB at hl;let⟨v1,r1,rfl,h1,hl⟩:=hl;unfold aB at hl;let⟨v2,r2,rfl,h2,hl⟩:=hl;unfold aB at hl;let⟨v3,r3,rfl,h3,hl⟩:=hl;unfold aB at hl;subst hl;unfold Is at h2;subst h2;unfold nJ Is at h3;let⟨q,us,rfl,hq,hle⟩:=h3;have:=fV (o:=some b.bg) h1;cases this with
 | ref hm=>exact{a,_,q,rfl,ha,hm}
def mf {C:vw} (F:Cf K C):dz P w base 3 T.iM (ui C):=by
 nomatch T.iM,["score","bar","metre"]
 let⟨a,S,o,b,rfl,sc,hb,bV,kk⟩:=h;let⟨ub,jm,ho⟩:=sc.obj;let⟨vs,hv,il⟩:=sc.ba;let hi:b<⇑vs:=by rw[aZ il];exact hb
 let⟨x,hx,ix⟩:=df il (ze hi);let⟨a1,m,q,ev,h1,hm⟩:=Uc ix;let⟨k1,k2,k3,k4⟩:=bV x (zD hx);unfold bO.bg at kk;rw[hx] at kk;refine{_,(ag (b7 2 qN (cy (dF (bU (pv 0) rfl) (pv 1)) af))
  (aj (ax (cw (jr T) hr T.eO (ah (cy (pv 2) af) (ah (cy (pv 2) af) ae)))))),?_}
 ac_rfl;exists a,C,o.dx,_,_,rfl,ho,F.cls,F.aR,rfl,?_;left;refine{o.ba,vs,b,_,rfl,rfl,ak hv,bz (ze hi),?_};rw[ev];change{_,_,rfl,k1,k3,(cq (n:=10) () ()).mono ∅,λp H' s' h'=>kk p H' s' h'}
inductive Ah (C:vw) (vs:List V) (H:Hp) (Q:VK) (E:XK):Prop
 | mk (a:vw) (S:bO) (o:Ow) (b:Nat) (_:vs=[.ref a,.int b]) (_:cm C H a S o) (_:b<⇑S.aR) (_:(∀x∈S.aR,Mq x)) (_:∀p H',aG H H'->H' p=some (lQ (S.len b))->Q (.ref p) H')
def AZ {C:vw} (F:Cf K C):dz P w base 4 T.mJ (Ah C):=by
 nomatch T.mJ,["score","bar"]
 let⟨a,S,o,b,rfl,sc,hb,bV,kk⟩:=h;let⟨ub,jm,ho,hub,hjm⟩:=sc.obj;unfold bO.len at kk;refine{_,(ag (aL (PW.pt (dr (ptr cS (pv 1) af) (c9 (bL (fB (bU (pv 0) rfl))))))
  (aj (ax (bU (pv 0) rfl)))
  aA)
  (aj (ax (cw (mf T F) hr T.iM (ah (pv 0) (ah (pv 1) ae)))))),?_}
 ac_rfl;left
 by_cases c:b=0
 ·refine cz (by rw[c];rfl) ?_
  exists a,C,o.dx,_,_,rfl,ho,F.cls,F.aH,rfl,?_;cases q:S.aH with
  | none=>
   rw[q] at kk hub;unfold dO Is at hub;subst hub;change{a,S,o,b,rfl,.of sc,hb,bV,kk}
  | some u=>
   rw[q] at kk hub;cases fV (o:=some u) hub with
   | ref hu=>
    exists a,C,o.dx,_,_,rfl,ho,F.cls,F.aH,rfl,?_;refine kk _ _ (aF _) ?_;simp only[yR c];exact hu
 ·refine cD (zg λz=>c (by have:=V.int.inj z;ext)) ?_
  left;refine{a,S,o,b,rfl,.of sc,hb,bV,λp H' s' h'=>kk p H' s' ?_};cases q:S.aH with
  | none=>exact h'
  | some u=>simp only[yQ c];exact h'
theorem kC (n:Str):∀ns:List Str,IA (.str n) (ns.map V.str)=decide (n∈ns)
 | []=>rfl
 | m::ns=>by
  let ih:=kC n ns;unfold IA at ih ⊢;rw[zk,xt,ih];show((m == n)||decide (n∈ns))=decide (n∈m::ns)
  by_cases e:n=m
  ·subst e
   simp
  ·let e':¬m=n:=λz=>e z.symm
   simp[e,e']
theorem jd:∀ns:List Str,(ns.map V.str).all mm=true
 | []=>rfl
 | n::ns=>by rw[zk,wV,jd ns];rfl
inductive fk (C:vw) (D:Hp->V->bO->Option Str->Prop) (vs:List V) (H:Hp) (Q:VK) (E:XK):Prop
 | mk (a:vw) (S:bO) (o:Ow) (v:V) (f:Option Str) (_:vs=[.ref a,v]) (_:cm C H a S o) (_:D H v S f) (_:∀H',aG H H'->Q (os f) H')
def lV (C:vw):Sp:=fk C λ_ v S f=>∃n,v=.str n/\f=aX S (.bA n)
def uH {C:vw} (F:Cf K C):dz P w base 1 T.iK (lV C):=by
 nomatch T.iK,["score","player"]
 let⟨a,S,o,v,f,rfl,sc,⟨n,rfl,rfl⟩,kk⟩:=h;let⟨ub,jm,ho,hub,hjm⟩:=sc.obj;let k:=kk H (aF H);unfold aX at k;dsimp only at k;refine{_,(ag (aL (jQ oh (pv 1) (bU (pv 0) rfl) (by with_unfolding_all rfl))
  (aj (ax az))
  aA)
  (ag (aL (ptr HX (dC ay T.bx (ah (bU (pv 0) rfl) ae)) (bH (v:=.int (12)) (by rfl) T.BO {_,rfl}))
  (aj (ax az))
  aA)
  (aj (ax bj)))),?_}
 ac_rfl;exists a,C,o.dx,_,_,rfl,ho,F.cls,F.au,rfl,?_;refine{o.pl,_,rfl,.inl (ak sc.pl),rfl,jd _,?_};show∃k,V.bl (IA (.str n) (S.au.map V.str))=.bl k/\_;rw[kC]
 by_cases c1:n∈S.au
 ·rw[zh c1]
  rw[yR c1] at k;change k
 ·rw[zg c1]
  rw[yQ c1] at k;exists a,C,o.dx,_,_,rfl,ho,F.cls,F.au,rfl,?_;exists o.pl,_,rfl,.inl (ak sc.pl),?_;rw[zd];left
  by_cases c2:12<=⇑S.au
  ·refine cz (zh ()) ?_
   rw[yR c2] at k;change k
  ·refine cD (zg ()) ?_
   rw[yQ c2] at k;change k
def qh (C:vw):Sp:=fk C λ_ _ S f=>∃b,f=aX S (.bar b)
def FD {C:vw} (F:Cf K C):dz P w base 1 T.oG (qh C):=by
 nomatch T.oG,["score","told"]
 let⟨a,S,o,v,f,rfl,sc,⟨b,rfl⟩,kk⟩:=h;let⟨ub,jm,ho,hub,hjm⟩:=sc.obj;let⟨vs,hv,il⟩:=sc.ba;let vl:=aZ il;let k:=kk H (aF H);unfold aX at k;dsimp only at k;refine{_,(ag (aL (ptr HX (dC ay T.bx (ah (bU (pv 0) rfl) ae)) (bH (v:=.int (200)) (by rfl) T.Jm {_,rfl}))
  (aj (ax az))
  aA)
  (aj (ax bj))),?_}
 ac_rfl;exists a,C,o.dx,_,_,rfl,ho,F.cls,F.aR,rfl,?_;exists o.ba,_,rfl,.inl (ak hv),?_;rw[vl];left
 by_cases c2:200<=⇑S.aR
 ·refine cz (zh ()) ?_
  rw[yR c2] at k;change k
 ·refine cD (zg ()) ?_
  rw[yQ c2] at k;change k
theorem qg (n:Str):∀{ks:List Str} {vs:List V},⇑vs=⇑ks->(fj ((ks.map kS).zip vs) (kS n)).isSome=decide (n∈ks)
 | [],_,_=>by simp[fj]
 | k::ks,[],h=>by simp at h
 | k::ks,v::vs,h=>by
  let ih:=qg n (ks:=ks) (vs:=vs) (by simpa using h);rw[zk,yZ];unfold fj at ih ⊢;rw[yV]
  by_cases e:k=n
  ·subst e
   simp
  ·let e1:¬kS k=kS n:=λz=>e (wW z)
   let e2:¬n=k:=λz=>e z.symm;simp only[e1,decide_false] at ih ⊢;rw[ih];simp[e2]
def iC (C:vw):Sp:=fk C λH v S f=>∃x,Is H (dy x) v/\f=aX S (.cg x.1 x.2.1 x.2.2)
def Iz {H:Hp} {x:Str×(Int×Int)×(Int×Int)} {v:V} (h:Is H (dy x) v):∃a t l,v=.ref a/\H a=some (.tup [.str x.1,t,l])/\Is H (dL x.2.1) t/\Is H (dL x.2.2) l:=by
 unfold dy Is at h;let⟨a,vs,rfl,ha,hl⟩:=h;unfold aB at hl;let⟨v1,r1,rfl,h1,hl⟩:=hl;unfold aB at hl;let⟨v2,r2,rfl,h2,hl⟩:=hl;unfold aB at hl;let⟨v3,r3,rfl,h3,hl⟩:=hl;unfold aB at hl;subst hl;unfold Is at h1;subst h1;exact{(a),v2,v3,rfl,ha,h2,h3}
def oM {C:vw} (F:Cf K C):dz P w base 1 T.eZ (iC C):=by
 nomatch T.eZ,["score","told"]
 let⟨a,S,o,v,f,rfl,sc,⟨x,iv,rfl⟩,kk⟩:=h;let⟨ub,jm,ho,hub,hjm⟩:=sc.obj;let⟨vs,hv,il⟩:=sc.ins;let⟨a1,t,l,rfl,h1,_,_⟩:=Iz iv;let vl:=aZ il;let em:(S.aq.map λx=>kS x.1)=(S.aq.map (·.1)).map kS:=by rw[zC];rfl
 let k:=kk H (aF H);unfold aX at k;dsimp only at k;refine{_,(ag (aL (bL (Kj (nF hr) (cy (pv 1) af) (bU (pv 0) rfl)))
  (aj (ax az))
  aA)
  (ag (aL (ptr HX (dC K8 T.bx (ah (bU (pv 0) rfl) ae)) (bH (v:=.int (12)) (by rfl) T.pV {_,rfl}))
  (aj (ax az))
  aA)
  (aj (ax bj)))),?_}
 ac_rfl;exists a,C,o.dx,_,_,rfl,ho,F.cls,F.aq,rfl,?_;refine{o.ins,_,rfl,.inl {_,kS x.1,.inl hv,rfl,rfl},?_};rw[em,qg x.1 (by rw[zd];exact vl)];left
 by_cases c1:x.1∈S.aq.map (·.1)
 ·rw[zh c1]
  rw[yR c1] at k;change k
 ·rw[zg c1]
  rw[yQ c1] at k;exists a,C,o.dx,_,_,rfl,ho,F.cls,F.aq,rfl,?_;exists o.ins,_,rfl,hv,?_;rw[xB,zd,vl,Nat.min_self];left
  by_cases c2:12<=⇑S.aq
  ·refine cz (zh ()) ?_
   rw[yR c2] at k;change k
  ·refine cD (zg ()) ?_
   rw[yQ c2] at k;change k
inductive Hh (K:yE) (C:vw) (vs:List V) (H:Hp) (Q:VK) (E:XK):Prop
 | mk (a p:vw) (S:bO) (o:Ow) (bs:List Int) (_:vs=[.ref a,.ref p]) (_:cm C H a S o) (_:fM K H p (bs.map V.int)) (_:⇑bs<=1000000) (_:∀H',aG H H'->Q (.bl (S.has bs)) H')
def jS {C:vw} (F:Cf K C):dz P w base 1 T.kD (Hh K C):=by
 nomatch T.kD,["score","bars"]
 let⟨a,p,S,o,bs,rfl,sc,hp,hl,kk⟩:=h;let sl:=yF;refine{_,(aj (ax (dC (kK rfl) T.Io (ah (og (ts:=["bar"]) (ys:=["score"]) (js:=[0]) (te:=(cP (tO λi j=>.bl (decide (i<j))) (aW 0) (EL (Ww K) (aY (QQ K (aW 1) "bars") cE)))) (bY (pv 1)) (gF 0) bG (cR fo (pv 0) (dC ay T.bx (ah (bU (pv 1) rfl) ae)) (fe _))) ae)))),?_};ac_rfl;exists{_,hp},?_;refine fK (enc:=V.int) (ws:=bs) (λz=>.bl (decide (z<(⇑S.aR:Int)))) (λσ=>∃v,σ=[v,some (.ref a)]) () hp {(none),rfl} ?_ ?_
 ·rintro z σ H1 R hz s1 ⟨_,rfl⟩ r
  let sc1:=sc.mono s1;let⟨ub,jm,ho,hub,hjm⟩:=sc1.obj;let⟨vs,hv,il⟩:=sc1.ba;let vl:=aZ il;exists a,C,o.dx,_,_,rfl,ho,F.cls,F.aR,rfl,?_;exists o.ba,vs,rfl,.inl (ak hv),?_;rw[vl];change r _ _ _ (aF _) (by unfold Is;rfl) {_,rfl}
 ·intro D vs H1 s1 hD il
  let e:bs.map (λz=>Dt.bl (decide (z<(⇑S.aR:Int))))=(bs.map λz=>decide (z<(⇑S.aR:Int))).map Dt.bl:=by rw[zC];rfl
  rw[e] at il;rw[jx il] at hD;refine{D,_,rfl,ak hD,?_};let e2:(bs.map λz=>decide (z<(⇑S.aR:Int))).all id=S.has bs:=by rw[wj];rfl
  rw[e2];exact kk _ s1
inductive uj (K:yE) (vs:List V) (H:Hp) (Q:VK) (E:XK):Prop
 | mk (p:vw) (us:List V) (its:List Item) (_:vs=[.ref p]) (_:fM K H p us) (_:aB H (its.map eQ) us) (_:⇑its<=500) (_:(∀it∈its,Ey it.2)) (_:∀r H',aG H H'->H' r=some (lQ (j8 its))->Q (.ref r) H')
def rQ (l:List Item) (it:Item):j8 (l++[it])=add (j8 l) it.2:=by unfold j8;rw[zZ];rfl
def uI:dz P w base 4 T.lD (uj K):=by
 nomatch T.lD,["items","length","item"]
 let⟨p,us,its,rfl,hp,il,hl,bV,kk⟩:=h;let sl:=yF;let ul:=aZ il;refine{_,(ag (b7 1 qN (bT (ah af (ah af ae))))
  (ag (dH yS rfl (bY (pv 0)) (eN 2 qN)
  (aj (b7 1 qN (cw (Pc T) hr T.added (ah (pv 1) (ah (cy (pv 2) af) ae))))))
  (aj (ax (pv 1))))),?_}
 ac_rfl;exists dj,?_;intros p1 H1 s1 h1;exists{_,s1.seq hp},?_;refine gW (K:=K) (a:=p) (xs:=us) (λi σ H'=>aG H H'/\∃q v,σ=[some (.ref p),some (.ref q),v]/\H' q=some (lQ (j8 (its.take i)))/\Lm.Rd (j8 (its.take i))/\Ca (15*i+1) (j8 (its.take i))) {s1,p1,none,rfl,h1,?_,?_} (λi σ H' _ h=>h.1.seq hp) ?_ ?_
 ·exact Lm.Rd.zero
 ·show Ca 1 (0,1)
  exact{cq ∅ ∅,cq ∅ ∅}
 ·rintro i x σ H2 hx ⟨s2,q,v,rfl,hq,rq,zq⟩
  let⟨it,hit,iit⟩:=df il hx;let⟨a6,pv,lv,rfl,h6,_,i8⟩:=item_at (iit.mono s2);let hi:i<⇑its:=(zA.mp hit).1;let⟨ok1,Um,W8,ok4⟩:=bV it (zD hit);cases fV (o:=some it.2) i8 with
  | ref h8=>
   let zi:Ca 14 it.2:={cq () (),cq (by have:=ok1.pos;ext) ()}
   exists _,_,_,_,_,_,rfl,hq,h8,rq,ok1,zq,zi,(),λr H3 s3 h3=>?_;let e:=eG hit;refine{s2.trans s3,r,_,rfl,?_,?_,?_}
   ·rw[e,rQ];exact h3
   ·rw[e,rQ];exact rq.add ok1
   ·rw[e,rQ];exact{(Ca.add rq ok1 zq zi).1.mono (),(Ca.add rq ok1 zq zi).2.mono ()}
 ·rintro σ H2 ⟨s2,q,v,rfl,hq,_,_⟩
  rw[ul,zO] at hq;change kk _ _ s2 hq
def GD (S:bO):Prop:=∀r∈S.aN,⇑r.ends<=1000000
def oS (C:vw):Sp:=fk C λH v S f=>∃j,Is H (gq j) v/\GD S/\f=aX S (.bP j)
def II {l:List V} {i:Nat} {x:V} (h:l[i]?=some x):(l.take (i+1)).filter (λv=>!gp v)=(l.take i).filter (λv=>!gp v)++(if gp x=true then [] else [x]):=by
 rw[eG h,y3];cases q:gp x with
 | true=>simp[q]
 | false=>simp[q]
def CP {C:vw} (F:Cf K C):dz P w base 5 T.lC (oS C):=by
 nomatch T.lC,["score","jump"]
 let⟨a,S,o,v,f,rfl,sc,⟨j,iv,rok,rfl⟩,kk⟩:=h;let sl:=yF;let⟨ub,jm,ho,hub,hjm⟩:=sc.obj;let⟨vs,hv,il⟩:=sc.re;let⟨a1,rfl,h1⟩:=vI iv;unfold aX at kk;dsimp only at kk;refine{_,(ag (aL (bL (fB (bU (pv 0) rfl)))
  (aj (ax az))
  aA)
  (ag (aL (eM (cj (cw (jS T F) hr T.kD (ah (pv 0) (ah (og (ts:=["bar"]) (ys:=[]) (js:=[]) (g:=(bW 0)) (tc:=(tB (G1 (aW 0)))) (te:=(aW 0)) (kb (pv 1)) (gF 0) (jR (bL (fB (pv 0)))) (pv 0)) ae)))))
  (aj (ax az))
  aA)
  (ag (aL (eM (cj (cw (FA T) hr T.sR (ah (bU (pv 0) rfl) (ah (pv 1) ae)))))
  (aj (ax az))
  aA)
  (aj (ax bj))))),?_}
 ac_rfl;exists a,C,o.dx,_,_,rfl,ho,F.cls,F.bP,rfl,?_;cases q:S.bP with
 | some j'=>
  rw[q] at hjm kk;let⟨a2,rfl,_⟩:=vI hjm;change kk _ (aF _)
 | none=>
  rw[q] at hjm kk;unfold dO Is at hjm;subst hjm;rw[yQ ∅] at kk;exists{_,bC h1},?_;generalize hw:[V.int j.vJ,V.int j.Cd,V.int j.dw,ov j.ik]=ws at h1;let wl:⇑ws=4:=by rw[<-hw];rfl
  refine rB ⇑ws (λi=>(ws.take i).filter λv=>!gp v) (λi σ H'=>H'=H/\∃v,σ=[v]) (λi hi=>zN (xi _ _) (by rw[zR];ext)) () rfl {(rfl),none,rfl} ?_ ?_ ?_ ?_
  ·rintro i σ H' hi ⟨rfl,_⟩
   exact KC (bC h1) hi
  ·rintro σ H' ⟨rfl,_⟩
   exact{_,bC h1,zp _}
  ·rintro i x σ H' H2 hi ⟨rfl,v,rfl⟩ ⟨rfl,hy⟩
   let hx:=hy _ (bC h1);left
   by_cases e:x=.bQ
   ·refine cD (by rw[zh e];rfl) ?_
    refine NU.skip hi ?_ {rfl,_,rfl};show List.filter _ (List.take (i+1) ws)=List.filter _ (List.take i ws);rw[II hx,yR (show gp x=true from zh e),zW]
   ·refine cz (by rw[zg e];rfl) ?_
    left;refine NU.push hi ?_ {rfl,_,rfl};show List.filter _ (List.take (i+1) ws)=List.filter _ (List.take i ws)++[x];rw[II hx,yQ (by unfold gp;rw[zg e];decide)]
  ·rintro σ H' ⟨rfl,_⟩
   rw[zO];let ef:(ws.filter λv=>!gp v)=([j.vJ,j.Cd,j.dw]++j.ik.toList).map V.int:=by
    rw[<-hw];cases j.ik <;> rfl
   rw[ef];intros D H2 s2 h2;refine{a,D,S,o,_,rfl,sc.mono s2,ak h2,?_,λH3 s3=>?_}
   ·cases j.ik <;> simp
   ·cases qb:S.has ([j.vJ,j.Cd,j.dw]++j.ik.toList) with
    | false=>
     rw[qb] at kk;change kk _ (s2.trans s3)
    | true=>
     rw[qb,yQ (by simp)] at kk;let s03:=s2.trans s3;let sc3:=sc.mono s03;exists a,C,o.dx,_,_,rfl,s03 _ _ ho,F.cls,F.aN,rfl,?_;exists o.re,S.aN,_,j,rfl,{vs,ak (s03 _ _ hv),il.mono s03},rok,iv.mono s03,λH4 s4=>?_;cases qj:gU S.aN j with
     | false=>
      rw[qj] at kk;change kk _ (s03.trans s4)
     | true=>
      rw[qj,yQ (by simp)] at kk;change kk _ (s03.trans s4)
def lU (C:vw):Sp:=fk C λH v S f=>∃r:Rep,Is H (jI r) v/\GK r.ends<64/\⇑r.ends<=1000/\-1000000<=r.times/\r.times<=1000000/\f=aX S (.rep r)
def uG {C:vw} (F:Cf K C):dz P w base 3 T.iI (lU C):=by
 nomatch T.iI,["score","repeat"]
 let⟨a,S,o,v,f,rfl,sc,⟨r,iv,ht,hl,t0,t1,rfl⟩,kk⟩:=h;let sl:=yF;let⟨ub,jm,ho,hub,hjm⟩:=sc.obj;let⟨vs,hv,il⟩:=sc.re;let vl:=aZ il;let⟨a1,e,rfl,h1,he⟩:=fT iv;unfold Is at he;let⟨e',us,ee,hu,ilu⟩:=he;cases ee;unfold aX at kk;dsimp only at kk;refine{_,(ag (aL (eM (cj (cw (jS T F) hr T.kD (ah (pv 0) (ah (ao cT (aU (ah (cy (pv 1) af) (ah (cy (pv 1) af) ae))) (og (ts:=["end"]) (ys:=[]) (js:=[]) (te:=(cP (mE K) (aW 0) (tC (.int (0))))) (kb (cy (pv 1) af)) (gF 0) bG (cy (pv 0) af))) ae)))))
  (aj (ax az))
  aA)
  (ag (aL (PW.pt (d8 (bL (fB (bU (pv 0) rfl))) (dk (eM (cj (cw (A1 T) hr T.mX (ah (bU (pv 0) rfl) (ah (pv 1) ae))))))))
  (aj (ax az))
  aA)
  (ag (aL (ptr HX (dC ay T.bx (ah (bU (pv 0) rfl) ae)) (bH (v:=.int (20)) (by rfl) T.BN {_,rfl}))
  (aj (ax az))
  aA)
  (aj (ax bj))))),?_}
 ac_rfl;exists dj,?_;intros p2 H2 s2 h2;let h12:=s2 _ _ h1;exists{_,bC (s2 _ _ hu)},?_;let⟨ps,f1,f2,f3⟩:=vK ilu;let pl:⇑ps<=1000:=by
  have:⇑ps=⇑r.ends:=by rw[<-f1,zd]
  ext
 refine gz (enc:=λz:Sc.End×V=>z.2) (ws:=ps) (λz=>.int z.1.1) (λσ=>∃v,σ=[v]) () (by rw[f2];exact s2 _ _ hu) {(none),rfl} ?_ ?_
 ·rintro z σ H6 R' hz s6 ⟨_,rfl⟩ r'
  let⟨a6,q6,ev,h6,h7⟩:=sV (f3 z hz);rw[ev];let h66:=s6 _ _ (s2 _ _ h6);change r' _ _ _ (aF _) cW {_,rfl}
 ·intro D vs5 H3 s3 hD il5
  let e5:ps.map (λz=>Dt.int z.1.1)=(r.ends.map (·.1)).map Dt.int:=by rw[<-f1,zC,zC];rfl
  rw[e5] at il5;rw[fC il5] at hD;refine{p2,D,_,_,rfl,rfl,ak (s3 _ _ h2),ak hD,by rw[zd,zd];show 2+_<=_;ext,?_};rw[show [V.int r.first,V.int r.last]++List.map V.int (r.ends.map (·.1))=([r.first,r.last]++r.ends.map (·.1)).map V.int from by rw[zm];rfl];intros p4 H4 s4 h4;let s04:=(s2.trans s3).trans s4;refine{a,p4,S,o,_,rfl,sc.mono s04,ak h4,by rw[zj,zd];show 2+_<=_;ext,λH5 s5=>?_};let s05:=s04.trans s5;cases qb:S.has ([r.first,r.last]++r.ends.map (·.1)) with
  | false=>
   rw[qb] at kk;change kk _ s05
  | true=>
   rw[qb,yQ (by simp)] at kk;exists a,C,o.dx,_,_,rfl,s05 _ _ ho,F.cls,F.bP,rfl,?_;cases q:S.bP with
   | some j'=>
    rw[q] at hjm kk;let⟨a2,rfl,_⟩:=vI hjm;change kk _ s05
   | none=>
    rw[q] at hjm kk;unfold dO Is at hjm;subst hjm;rw[yQ ∅] at kk;exists a,C,o.dx,_,_,rfl,s05 _ _ ho,F.cls,F.aN,rfl,?_;exists o.re,S.aN,_,r,rfl,{vs,ak (s05 _ _ hv),il.mono s05},iv.mono s05,ht,t0,t1,λH6 s6=>?_;let s06:=s05.trans s6;cases qj:kU S.aN r with
    | false=>
     rw[qj] at kk;change kk _ s06
    | true=>
     rw[qj,yQ (by simp)] at kk;exists a,C,o.dx,_,_,rfl,s06 _ _ ho,F.cls,F.aN,rfl,?_;exists o.re,vs,rfl,.inl (ak (s06 _ _ hv)),?_;rw[vl];left
     by_cases c2:20<=⇑S.aN
     ·refine cz (zh ()) ?_
      rw[yR c2] at kk;change kk _ s06
     ·refine cD (zg ()) ?_
      rw[yQ c2] at kk;change kk _ s06
theorem GU (n:Int×Str):∀{ks:List (Int×Str)} {vs:List V},⇑vs=⇑ks->(fj ((ks.map kN).zip vs) (kN n)).isSome=decide (n∈ks)
 | [],_,_=>by simp[fj]
 | k::ks,[],h=>by simp at h
 | k::ks,v::vs,h=>by
  let ih:=GU n (ks:=ks) (vs:=vs) (by simpa using h);rw[zk,yZ];unfold fj at ih ⊢;rw[yV]
  by_cases e:k=n
  ·subst e
   simp
  ·let e1:¬kN k=kN n:=λz=>e (by
    unfold kN at z;simp at z;exact Prod.ext z.1 z.2)
   let e2:¬n=k:=λz=>e z.symm;simp only[e1,decide_false] at ih ⊢;rw[ih];simp[e2]
theorem oy {α:Type} {d:α->Dt} {H:Hp}:∀{ls:List (List α)} {as:List vw},cx H d ls as->⇑as=⇑ls
 | [],_,h=>by unfold cx at h;rw[h];rfl
 | l::r,_,⟨a,t,vs,e,_,_,h3⟩=>by rw[e,zw,zw,oy h3]
def Ri {x y:Int×Int}:decide ([V.int x.1,V.int x.2]=[V.int y.1,V.int y.2])=decide (x=y):=by
 by_cases h:x=y
 ·subst h;simp
 ·rw[zg h,zg]
  intro z;simp at z;exact h (Prod.ext z.1 z.2)
def mU (C:vw):Sp:=fk C λH v S f=>∃x:Int×Str×List Item,Mo H v x/\0<=x.1/\⇑x.2.2<=500/\(∀it∈x.2.2,Ey it.2)/\(∀b∈S.aR,Mq b)/\f=aX S (.aJ x.1 x.2.1 x.2.2)
def A5 {C:vw} (F:Cf K C):dz P w base 5 T.jT (mU C):=by
 nomatch T.jT,["score","told","bar","player","items"]
 let⟨a,S,o,v,f,rfl,sc,⟨⟨b,pn,its⟩,⟨a1,q,us,rfl,h1,hq,ilq⟩,b0,il5,iok,bok,rfl⟩,kk⟩:=h;let sl:=yF;let⟨ub,jm,ho,hub,hjm⟩:=sc.obj;let nl:⇑(o.ns.map V.ref)=⇑(S.aJ.map (·.1)):=by rw[zd,zd,oy sc.no.2,zd]
 let em:(S.aJ.map λx=>kN x.1)=(S.aJ.map (·.1)).map kN:=by rw[zC];rfl
 unfold aX at kk;dsimp only at kk h1 b0 il5 iok ilq;refine{_,(ag (b7 2 qN (cy (pv 1) af))
  (ag (b7 3 qN (cy (pv 1) af))
  (ag (b7 4 qN (cy (pv 1) af))
  (ag (aL (bL (Kj (nF hr) (bT (ah (pv 2) (ah (pv 3) ae))) (bU (pv 0) rfl)))
  (aj (ax az))
  aA)
  (ag (aL (jQ eY (pv 3) (bU (pv 0) rfl) (by with_unfolding_all rfl))
  (aj (ax az))
  aA)
  (ag (aL (eM (cj (cw (jS T F) hr T.kD (ah (pv 0) (ah (aU (ah (pv 2) ae)) ae)))))
  (aj (ax az))
  aA)
  (ag (aL (ptr (AY hr.units) (cw (uI T) hr T.lD (ah (pv 4) ae)) (cw (AZ T F) hr T.mJ (ah (pv 0) (ah (pv 2) ae))))
  (aj (ax az))
  aA)
  (ag (aL (ptr fq (dC ay T.bx (ah (pv 4) ae)) (bH (v:=.int (40)) (by rfl) T.Gj {_,rfl}))
  (aj (ax az))
  aA)
  (aj (ax bj)))))))))),?_}
 ac_rfl;exists dj,?_;intros p2 H2 s2 h2;let h12:=s2 _ _ h1;exists a,C,o.dx,_,_,rfl,s2 _ _ ho,F.cls,F.aJ,rfl,?_;refine{o.no,_,rfl,.inr {_,kN (b,pn),p2,.inl (s2 _ _ sc.no.1),rfl,h2,rfl},?_};rw[em,GU (b,pn) nl];left
 by_cases c1:(b,pn)∈S.aJ.map (·.1)
 ·rw[zh c1]
  rw[yR c1] at kk;change kk _ s2
 ·rw[zg c1]
  rw[yQ c1] at kk;exists a,C,o.dx,_,_,rfl,s2 _ _ ho,F.cls,F.au,rfl,?_;refine{o.pl,_,rfl,.inl (ak (s2 _ _ sc.pl)),rfl,jd _,?_};show∃k,V.bl (!IA (.str pn) (S.au.map V.str))=.bl k/\_;rw[kC]
  by_cases c2:pn∈S.au
  ·rw[zh c2]
   rw[yQ (λz=>z c2)] at kk;exists by show 1<=sizeLine;ext,?_
   intros p3 H3 s3 h3;refine{a,p3,S,o,[b],rfl,sc.mono (s2.trans s3),ak h3,(by show 1<=1000000;decide),λH4 s4=>?_};let s04:=(s2.trans s3).trans s4;cases qb:S.has [b] with
   | false=>
    rw[qb] at kk;change kk _ s04
   | true=>
    rw[qb,yQ (by simp)] at kk;let hb:b<⇑S.aR:=by
     unfold bO.has at qb
     simpa using qb
    let⟨n,rfl⟩:=yO b0;exists q,us,its,rfl,ak (s04 _ _ hq),ilq.mono s04,il5,iok,λr5 H5 s5 h5=>?_;exists a,S,o,n,rfl,sc.mono (s04.trans s5),(),bok,λr6 H6 s6 h6=>?_;let s06:=(s04.trans s5).trans s6;refine{r5,r6,_,_,rfl,rfl,.inr {bC (s6 _ _ h5),bC h6},.inr (.inr {(rfl),rfl}),?_};rw[Ri]
    by_cases c3:j8 its=S.len n
    ·rw[zh c3]
     rw[yQ (λz=>z c3)] at kk;exists q,us,rfl,.inl (ak (s06 _ _ hq)),?_;rw[aZ ilq];left
     by_cases c4:40<⇑its
     ·refine cz (zh ()) ?_
      rw[yR c4] at kk;change kk _ s06
     ·refine cD (zg ()) ?_
      rw[yQ c4] at kk;change kk _ s06
    ·rw[zg c3]
     rw[yR (show j8 its≠S.len ((n:Int)).toNat from c3)] at kk;change kk _ s06
  ·rw[zg c2]
   rw[yR c2] at kk;change kk _ s2
def both {c:Bool} {T:(Bool->Hp->Prop)->Prop} {Z:Bool->Hp->Prop} {H:Hp} (v:Bool) (h1:c=true->∀Z,Z v H->T Z) (h2:c=false->v=false) (hz:Z v H):if c=true then T Z else Z false H:=by
 cases c with
 | true=>rw[yR rfl];exact h1 rfl Z hz
 | false=>rw[yQ (by simp)];rw[<-h2 rfl];exact hz
theorem Ec {H:Hp} {α:Type} {d:α->Dt} (p:Str):∀{hs:List (Str×List α)} {as:List vw},cx H d (hs.map (·.2)) as->
  (hs.lookup p=none/\fj ((hs.map λx=>kS x.1).zip (as.map V.ref)) (kS p)=none)\/∃l h vs,hs.lookup p=some l/\fj ((hs.map λx=>kS x.1).zip (as.map V.ref)) (kS p)=some (.ref h)/\H h=some (.lst vs)/\aB H (l.map d) vs
 | [],_,h=>.inl {rfl,by simp[fj]}
 | (x,l)::r,as,h=>by
  rw[zk] at h;unfold cx at h;let⟨a,t,vs,rfl,h1,h2,h3⟩:=h;rw[zk,zk,yZ]
  by_cases e:x=p
  ·subst e
   refine .inr {l,a,vs,by rw[yu,wk],?_,h1,h2};unfold fj;rw[yV];simp
  ·let e1:¬kS x=kS p:=λz=>e (wW z)
   let e2:(p == x)=false:=by simp;exact λz=>e z.symm
   let ih:=Ec p h3;unfold fj at ih ⊢;rw[yV,yu,e2];simp only[e1,decide_false];exact ih
def Vg {H:Hp} {x:Int×Str} {v:V} (h:Is H (K2 x) v):∃a,v=.ref a/\H a=some (.tup [.int x.1,.str x.2]):=by
 unfold K2 Is at h;let⟨a,vs,rfl,ha,hl⟩:=h;unfold aB at hl;let⟨v1,r1,rfl,h1,hl⟩:=hl;unfold aB at hl;let⟨v2,r2,rfl,h2,hl⟩:=hl;unfold aB at hl;subst hl;unfold Is at h1 h2;subst h1 h2;exact{(a),rfl,ha}
def LY {H:Hp} {x:Str×Int×Str} {v:V} (h:Is H (uc x) v):∃a,v=.ref a/\H a=some (.tup [.str x.1,.int x.2.1,.str x.2.2]):=by
 unfold uc Is at h;let⟨a,vs,rfl,ha,hl⟩:=h;unfold aB at hl;let⟨v1,r1,rfl,h1,hl⟩:=hl;unfold aB at hl;let⟨v2,r2,rfl,h2,hl⟩:=hl;unfold aB at hl;let⟨v3,r3,rfl,h3,hl⟩:=hl;unfold aB at hl;subst hl;unfold Is at h1 h2 h3;subst h1 h2 h3;exact{(a),rfl,ha}
def oU (C:vw):Sp:=fk C λH v S f=>∃x:Str×Int×Str,Is H (uc x) v/\f=aX S (.holds x.1 x.2.1 x.2.2)
def CQ {C:vw} (F:Cf K C):dz P w base 3 T.lF (oU C):=by
 nomatch T.lF,["score","told","bar","holds"]
 let⟨a,S,o,v,f,rfl,sc,⟨⟨pn,b,iN⟩,hd,rfl⟩,kk⟩:=h;let⟨a1,rfl,h1⟩:=LY hd;let sl:=yF;let⟨ub,jm,ho,hub,hjm⟩:=sc.obj;unfold aX at kk;dsimp only at kk h1;refine{_,(ag (b7 2 qN (cy (pv 1) af))
  (ag (b7 3 qN (O6 (nF hr) (bU (pv 0) rfl) (cy (pv 1) af) (aU ae) {(rfl),rfl,rfl,rfl}))
  (ag (aL (PW.pt (dr (ptr fq (dC ay T.bx (ah (pv 3) ae)) af) (c9 (ptr iE (pv 2) (cy (dF (pv 3) (m6 jh af)) af)))))
  (aj (ax az))
  aA)
  (ag (aL (PW.pt (d8 (jQ eY (cy (pv 1) af) (bU (pv 0) rfl) (by with_unfolding_all rfl)) (dk (bL (DO (nF hr) (cy (pv 1) af) (bU (pv 0) rfl))))))
  (aj (ax az))
  aA)
  (ag (aL (eM (cj (cw (jS T F) hr T.kD (ah (pv 0) (ah (aU (ah (pv 2) ae)) ae)))))
  (aj (ax az))
  aA)
  (ag (aL (ptr HX (dC ay T.bx (ah (pv 3) ae)) (bH (v:=.int (20)) (by rfl) T.Gk {_,rfl}))
  (aj (ax az))
  aA)
  (aj (ax bj)))))))),?_}
 ac_rfl;exists a,C,o.dx,_,_,rfl,ho,F.cls,F.holds,rfl,?_;refine{o.ho,rfl,.inl {_,.inl sc.ho.1},?_};exists by show 0<=sizeLine;ext,?_
 intros p2 H2 s2 h2;let h12:=s2 _ _ h1;refine{_,.inl {_,kS pn,.inl (s2 _ _ sc.ho.1),rfl,rfl},?_};obtain⟨h,vs,l,eh,hh,ilh,el⟩:∃h vs l,(fj ((S.holds.map λx=>kS x.1).zip (o.hs.map V.ref)) (kS pn)).getD (.ref p2)=.ref h/\H2 h=some (.lst vs)/\aB H2 (l.map K2) vs/\(S.holds.lookup pn).getD []=l:=by
  rcases Ec (H:=H) pn sc.ho.2 with⟨e1,e2⟩ | ⟨l,h,vs,e1,e2,hh,il⟩
  ·exact{p2,[],[],by rw[e2];rfl,h2,by unfold aB;rfl,by rw[e1];rfl}
  ·exact{h,vs,l,by rw[e2];rfl,s2 _ _ hh,il.mono s2,by rw[e1];rfl}
 rw[el] at kk;rw[eh];exists h,vs,rfl,.inl (ak hh),?_;rw[aZ ilh];left;obtain⟨c1,ec,kk⟩:∃c1:Bool,c1=(match l.getLast? with | some q=>decide (b<=q.1) | none=>false)/\∀H',aG H H'->Q (Sc.os (if c1=true then some "twice" else if pn∉S.au then some "name" else if iN∉S.aq.map (·.1) then some "name" else if¬S.has [b]=true then some "bar" else if 20<=⇑l then some "many" else none)) H':=by
  refine{_,rfl,?_};cases q:l.getLast? with
  | none=>rw[q] at kk;exact kk
  | some x=>rw[q] at kk;exact kk
 refine both c1 ?_ ?_ ?_
 ·intro c Z hz
  let lp:0<⇑l:=by have:=ye c;ext
  let vl:=aZ ilh;let⟨x,hx,ix⟩:=df ilh (i:=⇑vs-1) (ze ());let⟨a3,ea,h3⟩:=Vg ix;let eg:l.getLast?=some x:=by rw[wo,<-vl];exact hx
  rw[ec,eg] at hz;left;refine{h,vs,-1,_,rfl,rfl,ak hh,Ml (ze ()),?_};rw[ea];change hz
 ·intro c
  have:l=[]:=yw.mp (by have:=of_decide_eq_false c;ext);rw[ec,this];rfl
 ·clear ec
  cases c1 with
  | true=>
   change kk _ s2
  | false=>
   rw[yQ (by simp)] at kk;exists a,C,o.dx,_,_,rfl,s2 _ _ ho,F.cls,F.au,rfl,?_;refine{o.pl,_,rfl,.inl (ak (s2 _ _ sc.pl)),rfl,jd _,?_};show∃k,V.bl (!IA (.str pn) (S.au.map V.str))=.bl k/\_;rw[kC]
   by_cases c2:pn∈S.au
   ·rw[zh c2]
    rw[yQ (λz=>z c2)] at kk;let⟨us,hu,ilu⟩:=sc.ins;let em:(S.aq.map λx=>kS x.1)=(S.aq.map (·.1)).map kS:=by rw[zC];rfl
    exists a,C,o.dx,_,_,rfl,s2 _ _ ho,F.cls,F.aq,rfl,?_;refine{o.ins,_,rfl,.inl {_,kS iN,.inl (s2 _ _ hu),rfl,rfl},?_};rw[em,qg iN (by rw[zd];exact aZ ilu)]
    by_cases c3:iN∈S.aq.map (·.1)
    ·rw[zh c3]
     rw[yQ (λz=>z c3)] at kk;exists by show 1<=sizeLine;ext,?_
     intros p3 H3 s3 h3;refine{a,p3,S,o,[b],rfl,sc.mono (s2.trans s3),ak h3,(by show 1<=1000000;decide),λH4 s4=>?_};let s04:=(s2.trans s3).trans s4;cases qb:S.has [b] with
     | false=>
      rw[qb] at kk;change kk _ s04
     | true=>
      rw[qb,yQ (by simp)] at kk;exists h,vs,rfl,.inl (ak ((s3.trans s4) _ _ hh)),?_;rw[aZ ilh];left
      by_cases c4:20<=⇑l
      ·refine cz (zh ()) ?_
       rw[yR c4] at kk;change kk _ s04
      ·refine cD (zg ()) ?_
       rw[yQ c4] at kk;change kk _ s04
    ·rw[zg c3]
     rw[yR c3] at kk;change kk _ s2
   ·rw[zg c2]
    rw[yR c2] at kk;change kk _ s2
def G4 {H:Hp} {x:Str×List Str} {v:V} (h:Is H (nK x) v):∃a q,v=.ref a/\H a=some (.tup [.str x.1,.ref q])/\H q=some (.tup (x.2.map V.str)):=by
 unfold nK Is at h;let⟨a,vs,rfl,ha,hl⟩:=h;unfold aB at hl;let⟨v1,r1,rfl,h1,hl⟩:=hl;unfold aB at hl;let⟨v2,r2,rfl,h2,hl⟩:=hl;unfold aB at hl;subst hl;unfold Is at h1;subst h1;unfold nJ Is at h2;let⟨q,us,rfl,hq,hl⟩:=h2;rw[dY hl] at hq;exact{(a),q,rfl,ha,hq}
def Ta {H:Hp} {x:Str×List Str} {v:V} (h:Is H (RH x) v):∃q,v=.ref q/\H q=some (.tup (x.2.map V.str)):=by
 unfold RH nJ Is at h;let⟨q,us,rfl,hq,hl⟩:=h;rw[dY hl] at hq;exact{(q),rfl,hq}
inductive G7 (C:vw) (vs:List V) (H:Hp) (Q:VK) (E:XK):Prop
 | mk (a:vw) (S:bO) (o:Ow) (v ub jm:V) (x:Str×List Str) (ob:Obj) (us:List V) (_:vs=[.ref a,v]) (_:H a=some (.ins C o.dx (QZ o ub jm))) (_:H o.pl=some (.lst (S.au.map V.str))) (_:Lr H o.st ob ((S.aP.map λx=>kS x.1).zip us)) (_:aB H (S.aP.map RH) us) (_:Is H (nK x) v) (_:⇑x.2<=1000) (_:∀H',aG H H'->Q (os (aX S (.bE x.1 x.2))) H')
theorem JH {α β:Type}:∀{l:List α} {m:List β} {i:Nat} {p:α×β},(l.zip m)[i]?=some p->l[i]?=some p.1/\m[i]?=some p.2
 | [],_,_,_,h=>by simp at h
 | _::_,[],_,_,h=>by simp at h
 | _::_,_::_,0,_,h=>by simp at h;subst h;exact{(rfl),rfl}
 | _::l,_::m,i+1,_,h=>by
  rw[yZ] at h
  simpa using JH (l:=l) (m:=m) (i:=i) (by simpa using h)
def Qk {α:Type} {p:α->Bool} {l:List α} {i:Nat} {x:α} (h:l[i]?=some x) (hn:(l.take i).any p=false) (hx:p x=false):(l.take (i+1)).any p=false:=by
 rw[eG h,List.any_append,hn];simp[hx]
def Ql {α:Type} {p:α->Bool} {l:List α} {i:Nat} {x:α} (h:l[i]?=some x) (hx:p x=true):l.any p=true:=yr.mpr {x,zD h,hx}
def HZ {C:vw} (F:Cf K C):dz P w base 1 T.gO (G7 C):=by
 nomatch T.gO,["score","told","players","others"]
 let⟨a,S,o,v,ub,jm,x,ob,us,rfl,ho,hpl,fz,ilu,iv,x5,kk⟩:=h;let⟨a1,q,rfl,h1,hq⟩:=G4 iv;let sl:=yF;let ul:=aZ ilu;let em:(S.aP.map λx=>kS x.1)=(S.aP.map (·.1)).map kS:=by rw[zC];rfl
 unfold aX at kk;dsimp only at kk;refine{_,(ag (b7 2 qN (cy (pv 1) af))
  (ag (aL (PW.pt (d8 (bL (Kj (nF hr) (cy (pv 1) af) (bU (pv 0) rfl))) (dk (ptr fo (dC ND T.bx (ah (oa (NA rfl) T.U4 (ah (pv 2) ae)) ae)) (dC ay T.bx (ah (pv 2) ae))))))
  (aj (ax az))
  aA)
  (ag (dH yS rfl (MY (bU (pv 0) rfl)) (eN 3 qN)
  (aj (aL (cj (dC (gA rfl) T.Bc (ah (og (ts:=["player"]) (ys:=["others"]) (js:=[3]) (te:=(cP (Uk K false) (aW 0) (aW 1))) (kb (pv 2)) (gF 0) bG (cR oh (pv 0) (pv 1) (by with_unfolding_all rfl))) ae)))
   (aj (ax az))
   aA)))
  (ag (aL (cj (dC (gA rfl) T.Bc (ah (og (ts:=["player"]) (ys:=["score"]) (js:=[0]) (te:=(cP (Uk K true) (aW 0) (QQ K (aW 1) "players"))) (kb (pv 2)) (gF 0) bG (cR eY (pv 0) (bU (pv 1) rfl) (by with_unfolding_all rfl))) ae)))
  (aj (ax az))
  aA)
  (aj (ax bj)))))),?_}
 ac_rfl;exists a,C,o.dx,_,_,rfl,ho,F.cls,F.aP,rfl,?_;refine{o.st,_,rfl,.inl {_,kS x.1,.inr {_,fz},rfl,rfl},?_};rw[em,qg x.1 (by rw[zd];exact ul)]
 by_cases c1:x.1∈S.aP.map (·.1)
 ·rw[zh c1]
  rw[yR c1] at kk;change kk _ (aF _)
 ·rw[zg c1]
  rw[yQ c1] at kk;exists q,x.2,rfl,bC hq,x5,λp2 n2=>?_;let s2:aG H (upd H p2 (JB p2 ⇑(gy x.2))):=bF n2;let h2:upd H p2 (JB p2 ⇑(gy x.2)) p2=some (JB p2 ⇑(gy x.2)):=aE;generalize upd H p2 (JB p2 ⇑(gy x.2))=H2 at s2 h2 ⊢;let⟨d1,d2⟩:=IV x.2;refine{p2,_,rfl,h2,(),?_};exists q,_,rfl,.inr (bC (s2 _ _ hq)),?_;rw[zd];left
  by_cases c2:x.2.Nodup
  ·refine cD (zg (by have:=d2.mpr c2;ext)) ?_
   rw[yQ (λz=>z c2)] at kk;exists a,C,o.dx,_,_,rfl,s2 _ _ ho,F.cls,F.aP,rfl,?_;refine{o.st,ob,_,rfl,s2 _ _ fz,?_};refine KH (λi σ H'=>aG H H'/\(S.aP.take i).any (λq=>x.2.any λp=>decide (p∈q.2))=false/\∃u,σ=[some (.ref a),some (.ref a1),some (.ref q),u]) {(s2),rfl,none,rfl} (λi σ H' _ h=>h.1 _ _ fz) ?_ ?_
   ·intro i p σ H3 hp hh
    refine eD λN kN0 kR0 _ _=>?_;let⟨s3,hn,u,rfl⟩:=hh;let⟨_,hp2⟩:=JH hp;let⟨st,hst,ist⟩:=df ilu hp2;let⟨r,er,hr'⟩:=Ta ist;rw[er];exists{_,bC (s3 _ _ hq)},?_;refine gz (enc:=V.str) (ws:=x.2) (λz=>.bl (decide (z∈st.2))) (λσ=>∃v,σ=[v,some (.ref r)]) () (s3 _ _ hq) {(none),rfl} ?_ ?_
    ·rintro z σ H4 R hz s4 ⟨_,rfl⟩ rr
     exists r,_,rfl,.inr (bC ((s3.trans s4) _ _ hr')),rfl,jd _,?_;refine rr _ _ _ (aF _) ?_ {_,rfl};rw[yQ (by simp),kC];unfold Is;rfl
    ·intro D vs H4 s4 hD il
     let e:x.2.map (λz=>Dt.bl (decide (z∈st.2)))=(x.2.map λz=>decide (z∈st.2)).map Dt.bl:=by rw[zC];rfl
     rw[e] at il;rw[jx il] at hD;refine{D,_,rfl,ak hD,?_};let e2:(x.2.map λz=>decide (z∈st.2)).any id=x.2.any λp=>decide (p∈st.2):=by rw[wG];rfl
     rw[e2];cases qc:x.2.any λp=>decide (p∈st.2) with
     | true=>
      rw[yR (Ql hst (p:=λq:Str×List Str=>x.2.any λp=>decide (p∈q.2)) qc)] at kk;change kk _ (s3.trans s4)
     | false=>
      change{s3.trans s4,Qk hst hn qc,_,rfl}
   ·rintro σ H3 ⟨s3,hn,u,rfl⟩
    rw[xB,zd,ul,Nat.min_self,zO] at hn;rw[hn,yQ (by simp)] at kk;exists{_,bC (s3 _ _ hq)},?_;refine gz (enc:=V.str) (ws:=x.2) (λz=>.bl (!decide (z∈S.au))) (λσ=>∃v,σ=[v,some (.ref a)]) () (s3 _ _ hq) {(none),rfl} ?_ ?_
    ·rintro z σ H4 R hz s4 ⟨_,rfl⟩ rr
     exists a,C,o.dx,_,_,rfl,(s3.trans s4) _ _ ho,F.cls,F.au,rfl,?_;refine{o.pl,_,rfl,.inl (ak ((s3.trans s4) _ _ hpl)),rfl,jd _,?_};refine rr _ _ _ (aF _) ?_ {_,rfl};show Is H4 _ (V.bl (!IA (.str z) (S.au.map V.str)));rw[kC];unfold Is;rfl
    ·intro D vs H4 s4 hD il
     let e:x.2.map (λz=>Dt.bl (!decide (z∈S.au)))=(x.2.map λz=>!decide (z∈S.au)).map Dt.bl:=by rw[zC];rfl
     rw[e] at il;rw[jx il] at hD;refine{D,_,rfl,ak hD,?_};let e2:(x.2.map λz=>!decide (z∈S.au)).any id=x.2.any λp=>!decide (p∈S.au):=by rw[wG];rfl
     rw[e2];cases qc:x.2.any λp=>!decide (p∈S.au) with
     | true=>
      rw[qc,yR rfl] at kk;change kk _ (s3.trans s4)
     | false=>
      rw[qc,yQ (by simp)] at kk;change kk _ (s3.trans s4)
  ·refine cz (zh (by have:⇑(gy x.2)≠⇑x.2:=λz=>c2 (d2.mp z);ext)) ?_
   rw[yR c2] at kk;change kk _ s2
def mT (C:vw):Sp:=fk C λH v S f=>∃x,Is H (nK x) v/\⇑x.2<=1000/\f=aX S (.bE x.1 x.2)
def PV {H:Hp} {d:vw} {o:Obj} {u:HO} (hd:H d=some u) (nt:cZ (some u)) {l:List Dt} {vs:List V} (h:aB H l vs):aB (upd H d (.mG o u)) l vs:=aB.upd (by rw[hd];exact nt) h
def Hl {H H':Hp} {d:vw} {o:Obj} {u:HO} (hd:H d=some u) (s:aG (upd H d (.mG o u)) H'):aG H (upd H' d u):=λb z hb=>by
 by_cases e:b=d
 ·subst e;rw[aE,<-hd,hb]
 ·rw[aC e];exact s b z (by rw[aC e];exact hb)
def A0 {C:vw} (F:Cf K C):dz P w base 1 T.gO (mT C):=by
 refine(HZ (P:=P) (w:=w) (base:=base) T F).RY (λvs H Q E h=>?_) (λvs H Q E h=>?_)
 ·let⟨_,_,_,_,_,rfl,_⟩:=h;rfl
 ·let⟨a,S,o,v,f,rfl,sc,⟨x,iv,x5,rfl⟩,kk⟩:=h
  let⟨us,hu,ilu⟩:=sc.st;let⟨ub,jm,ho,hub,hjm⟩:=sc.obj;let nt:cZ (some (HO.dK ((S.aP.map λx=>kS x.1).zip us))):=λvs z=>by cases z
  let na:a≠o.st:=λz=>by rw[z,hu] at ho;cases ho
  let np:o.pl≠o.st:=λz=>by have:=sc.pl;rw[z,hu] at this;cases this
  refine{o.st,_,hu,rfl,λob=>{a,S,o,v,ub,jm,x,ob,us,rfl,by rw[aC na];exact ho,by rw[aC np];exact sc.pl,aE,PV hu nt ilu,Is.upd (by rw[hu];exact nt) iv,x5,λH' s'=>kk _ (Hl hu s')}}
def Sj (S:bO):Prop:=∀b∈S.aR,Mq b
inductive ET (C:vw) (vs:List V) (H:Hp) (Q:VK) (E:XK):Prop
 | mk (a:vw) (S:bO) (o:Ow) (v ub jm:V) (x:Int×Int) (ob:Obj) (us:List V) (_:vs=[.ref a,v]) (_:H a=some (.ins C o.dx (QZ o ub jm))) (_:Is H (dO dL S.aH) ub) (_:VG C H a S o) (_:H o.no=some (.mG ob (.dT ((S.aJ.map λx=>kN x.1).zip us)))) (_:⇑us=⇑S.aJ) (_:⇑S.aJ<=1000000) (_:Is H (dL x) v) (_:Ca 8999 x) (_:Sj S) (_:∀H',aG H H'->Q (os (aX S (.aH x))) H')
def Pn {S:bO} (h:Sj S) (b:Nat) (hb:b<⇑S.aR):Ca 8999 (S.bg b):=by
 unfold bO.bg;rw[ze hb];let⟨k1,k2,k3,k4⟩:=h _ (yo hb);let⟨g,g1,g2,g3,g4,g5⟩:=mY (t:=S.aR[b].bg.1) k3;let r0:=AJ (t:=S.aR[b].bg.1) (b:=S.aR[b].bg.2) k1;let r1:=Fi (t:=S.aR[b].bg.1) (b:=S.aR[b].bg.2) k1;dsimp only;exact{(cq (n:=10) r0 ()).mono ∅,(cq (n:=10) () ()).mono ∅}
def Fu {C:vw} (F:Cf K C):dz P w base 4 T.fO (ET C):=by
 nomatch T.fO,["score","length"]
 let⟨a,S,o,v,ub,jm,x,ob,us,rfl,ho,hub,sb,fz,ul,n6,iv,zx,bok,kk⟩:=h;let sl:=yF;unfold aX at kk;dsimp only at kk;refine{_,(ag (aL (bL (fB (bU (pv 0) rfl)))
  (aj (ax az))
  aA)
  (ag (aL (ptr cS (dC ay T.bx (ah (bU (pv 0) rfl) ae)) af)
  (aj (ax az))
  aA)
  (ag (aL (eM (cj (cw (Kk T) hr T.E3 (ah (pv 1) (ah (cw (mf T F) hr T.iM (ah (pv 0) (ah af ae))) ae)))))
  (aj (ax az))
  aA)
  (ag (aL (cj (dC (gA rfl) T.Bc (ah (og (ts:=["place"]) (ys:=[]) (js:=[]) (te:=(cP Wv (cP (mE K) (aW 0) (tC (.int (0)))) (tC (.int (0))))) (Rb (bU (pv 0) rfl)) (gF 0) bG (cR cS (cy (pv 0) af) af (fe _))) ae)))
  (aj (ax az))
  aA)
  (aj (ax bj)))))),?_}
 ac_rfl;exists a,C,o.dx,_,_,rfl,ho,F.cls,F.aH,rfl,?_;cases q:S.aH with
 | some u=>
  rw[q,yR (show(some u).isSome=true from rfl)] at kk;rw[q] at hub;cases fV (o:=some u) hub with
  | ref hu=>
   change kk _ (aF _)
 | none=>
  rw[q,yQ (by simp)] at kk;rw[q] at hub;unfold dO Is at hub;subst hub;let⟨vs,hv,il⟩:=sb.ba;cases fV (o:=some x) iv with
  | ref hx=>
  rename_i a1;exists a,C,o.dx,_,_,rfl,ho,F.cls,F.aR,rfl,?_;exists o.ba,vs,rfl,.inl (ak hv),?_;rw[aZ il];left
  by_cases c1:⇑S.aR=0
  ·refine cz (by rw[c1];rfl) ?_
   rw[yR c1] at kk;change kk _ (aF _)
  ·refine cD (zg λz=>c1 (by have:=V.int.inj z;ext)) ?_
   rw[yQ c1] at kk;exists a,S,o,0,rfl,sb,(),bok,λp H1 s1 h1=>?_;refine{_,_,_,_,rfl,s1 _ _ hx,h1,zx,Pn bok 0 (),?_}
   by_cases c2:x.1*(S.bg 0).2<(S.bg 0).1*x.2
   ·rw[zh c2]
    rw[yQ (λz=>z c2)] at kk;exists a,C,o.dx,_,_,rfl,s1 _ _ ho,F.cls,F.aJ,rfl,?_;refine{o.no,ob,_,_,rfl,{_,s1 _ _ fz,.inr {_,rfl,rfl,rfl}},?_};let kl:⇑((S.aJ.map λx=>kN x.1).zip us)=⇑S.aJ:=by rw[xB,zd,ul,Nat.min_self]
    refine pU (ws:=S.aJ) (λp x H=>∃b,x=.ref b/\H b=some (.tup [.int p.1.1,.str p.1.2])) (λp=>.bl (decide (p.1.1=0))) (λσ=>∃v,σ=[v]) () {(none),rfl} (λi H2 hi s2=>{{_,s2 _ _ (s1 _ _ fz),.inr {_,rfl,rfl,rfl}},()}) (λH2 s2=>{{_,s2 _ _ (s1 _ _ fz),.inr {_,rfl,rfl,rfl}},()}) ?_ ?_ ?_
    ·rintro i y H2 H3 hi s2 ⟨rfl,p,b,hp,hb,rfl⟩
     refine{aF _,b,rfl,?_};let⟨z1,_⟩:=JH hp;rw[zL,ze hi] at z1;simp only[xn,xN] at z1;rw[<-z1] at hb;exact hb
    ·rintro p y σ H2 R hp s2 ⟨b,rfl,hb⟩ ⟨_,rfl⟩ r
     left;refine r _ _ _ (aF _) ?_ {_,rfl};rw[show decide (V.int p.1.1=V.int 0)=decide (p.1.1=0) from by by_cases h:p.1.1=0 <;> simp[h]];unfold Is;rfl
    ·intro D vs H4 s4 hD il
     let e:S.aJ.map (λp=>Dt.bl (decide (p.1.1=0)))=(S.aJ.map λp=>decide (p.1.1=0)).map Dt.bl:=by rw[zC];rfl
     rw[e] at il;rw[jx il] at hD;refine{D,_,rfl,ak hD,?_};let e2:(S.aJ.map λp=>decide (p.1.1=0)).any id=S.aJ.any λp=>decide (p.1.1=0):=by rw[wG];rfl
     rw[e2];cases qc:S.aJ.any λp=>decide (p.1.1=0) with
     | true=>
      rw[qc,yR rfl] at kk;change kk _ (s1.trans s4)
     | false=>
      rw[qc,yQ (by simp)] at kk;change kk _ (s1.trans s4)
   ·rw[zg c2]
    rw[yR c2] at kk;change kk _ s1
def lT (C:vw):Sp:=fk C λH v S f=>∃x,Is H (dL x) v/\Ca 8999 x/\Sj S/\⇑S.aJ<=1000000/\f=aX S (.aH x)
def uF {C:vw} (F:Cf K C):dz P w base 4 T.fO (lT C):=by
 refine(Fu (P:=P) (w:=w) (base:=base) T F).RY (λvs H Q E h=>?_) (λvs H Q E h=>?_)
 ·let⟨_,_,_,_,_,rfl,_⟩:=h;rfl
 ·let⟨a,S,o,v,f,rfl,sc,⟨x,iv,zx,bok,n6,rfl⟩,kk⟩:=h
  let⟨hn,ln⟩:=sc.no;let⟨ub,jm,ho,hub,hjm⟩:=sc.obj;let⟨bs,hb,ilb⟩:=sc.ba;let nt:cZ (some (HO.dT ((S.aJ.map λx=>kN x.1).zip (o.ns.map V.ref)))):=λvs z=>by cases z
  let na:a≠o.no:=λz=>by rw[z,hn] at ho;cases ho
  let nb:o.ba≠o.no:=λz=>by rw[z,hn] at hb;cases hb
  let ho':∀ob,upd H o.no (.mG ob (.dT ((S.aJ.map λx=>kN x.1).zip (o.ns.map V.ref)))) a=some (.ins C o.dx (QZ o ub jm)):=λob=>by rw[aC na];exact ho
  refine{o.no,_,hn,rfl,λob=>{a,S,o,v,ub,jm,x,ob,o.ns.map V.ref,rfl,ho' ob,Is.upd (by rw[hn];exact nt) hub,{{ub,jm,ho' ob},bs,by rw[aC nb];exact hb,PV hn nt ilb},aE,by rw[zd,oy ln,zd],n6,Is.upd (by rw[hn];exact nt) iv,zx,bok,λH' s'=>kk _ (Hl hn s')}}
noncomputable def mV:Told->Str
 | .bA _=> "player"
 | .cg _ _ _=> "instrument"
 | .bE _ _=> "staff"
 | .bar _=> "bar"
 | .aH _=> "upbeat"
 | .holds _ _ _=> "holds"
 | .aJ _ _ _=> "notes"
 | .rep _=> "repeat"
 | .bP _=> "jump"
def GB (S:bO):Told->Prop
 | .bE _ ps=>⇑ps<=1000
 | .aH l=>Ca 8999 l/\Sj S/\⇑S.aJ<=1000000
 | .aJ b _ its=>0<=b/\⇑its<=500/\(∀it∈its,Ey it.2)/\Sj S
 | .rep r=>GK r.ends<64/\⇑r.ends<=1000/\-1000000<=r.times/\r.times<=1000000
 | .bP _=>GD S
 | _=>True
inductive N0 (K:yE) {mg:Str->Option vm} (T:Txt K mg) (C:vw):vw->Sp->Prop where
 | bA:N0 K T C T.gh (lV C)
 | cg:N0 K T C T.d5 (iC C)
 | bE:N0 K T C T.gH (mT C)
 | bar:N0 K T C T.j0 (qh C)
 | aH:N0 K T C T.gf (lT C)
 | holds:N0 K T C T.iW (oU C)
 | aJ:N0 K T C T.gL (mU C)
 | rep:N0 K T C T.gg (lU C)
 | bP:N0 K T C T.iV (oS C)
noncomputable def Sb {K:yE} {mg:Str->Option vm} (T:Txt K mg):List (Str×V):=[("player",V.ref T.gh),("instrument",.ref T.d5),("staff",.ref T.gH),("bar",.ref T.j0),("upbeat",.ref T.gf),("holds",.ref T.iW),("notes",.ref T.gL),("repeat",.ref T.gg),("jump",.ref T.iV)]
def PU (K:yE) {mg:Str->Option vm} (T:Txt K mg) (C:vw) (t:Told):∃f D,rL (Sb T) (mV t)=some (.ref f)/\N0 K T C f (fk C D)/\∀H0 H v S,gC H0 H v (some t)->GB S t->D H v S (aX S t):=by
 cases t with
 | bA n=>exact{_,_,rfl,.bA,λH0 H v S h1 h2=>{(n),h1,rfl}}
 | cg n t l=>exact{_,_,rfl,.cg,λH0 H v S h1 h2=>{(n,t,l),h1,rfl}}
 | bE n ps=>exact{_,_,rfl,.bE,λH0 H v S h1 h2=>{(n,ps),h1,h2,rfl}}
 | bar b=>exact{_,_,rfl,.bar,λH0 H v S h1 h2=>{(b),rfl}}
 | aH l=>exact{_,_,rfl,.aH,λH0 H v S h1 h2=>{(l),h1,h2.1,h2.2.1,h2.2.2,rfl}}
 | holds p b i=>exact{_,_,rfl,.holds,λH0 H v S h1 h2=>{(p,b,i),h1,rfl}}
 | aJ b p its=>exact{_,_,rfl,.aJ,λH0 H v S h1 h2=>{(b,p,its),i4.at h1,h2.1,h2.2.1,h2.2.2.1,h2.2.2.2,rfl}}
 | rep r=>exact{_,_,rfl,.rep,λH0 H v S h1 h2=>{(r),h1,h2.1,h2.2.1,h2.2.2.1,h2.2.2.2,rfl}}
 | bP j=>exact{_,_,rfl,.bP,λH0 H v S h1 h2=>{(j),h1,h2,rfl}}
def Og {H0 H:Hp} {v:V} {t:Told} (h:gC H0 H v (some t)):v≠.bQ:=by
 let tp:∀l,Is H (.tup l) v->v≠.bQ:=λl z=>by
  unfold Is at z;let⟨a,vs,e,_⟩:=z;rw[e];simp
 cases t with
 | bA n=>let e:v=.str n:=h;rw[e];simp
 | cg n t l=>exact tp _ h
 | bE n ps=>exact tp _ h
 | bar b=>exact tp _ h
 | aH l=>exact tp _ h
 | holds p b i=>exact tp _ h
 | aJ b p its=>let⟨a,_,_,e,_⟩:=h;rw[e];simp
 | rep r=>exact tp _ h
 | bP j=>exact tp _ h
noncomputable def KI (S:bO):Option Told->Option Str
 | none=>some "row"
 | some t=>aX S t
inductive Hi (C:vw) (vs:List V) (H:Hp) (Q:VK) (E:XK):Prop
 | mk (a:vw) (S:bO) (o:Ow) (x:Str) (v:V) (H0:Hp) (t:Option Told) (_:vs=[.ref a,.str x,v]) (_:cm C H a S o) (_:gC H0 H v t) (_:(∀t',t=some t'->x=mV t'/\GB S t')) (_:∀H',aG H H'->Q (os (KI S t)) H')
def tM:d6 ["score","sort","told","finder"] ["score","sort","told"] (aT pG):=Sd
def Ig (B:Dk P w K T) {C:vw} (F:Cf K C):dz P w base 6 T.Bq (Hi C):=by
 refine T.Bq.F.Um tM λcdv A' outer s H vs Q E hr h=>?_
 ·let⟨a,S,o,x,v,H0,t,rfl,sc,tv,fit,kk⟩:=h
  let hTbV:∀f sp,N0 K T C f sp->Qv (gX Cc P w K mg base ["score","sort","told","finder"] "fault_of" (aT pG) T.B4 cdv A' outer s H E).FF Cc 5 f sp:=by
   intro f sp h;cases h with
   | bA=>exact{_,_,L2.cO.mono (uH T F) ∅,T.iK.F.kp,T.iK.b}
   | cg=>exact{_,_,L2.cO.mono (oM T F) ∅,T.eZ.F.kp,T.eZ.b}
   | bE=>exact{_,_,L2.cO.mono (A0 T F) ∅,T.gO.F.kp,T.gO.b}
   | bar=>exact{_,_,L2.cO.mono (FD T F) ∅,T.oG.F.kp,T.oG.b}
   | aH=>exact{_,_,L2.cO.mono (uF T F) ∅,T.fO.F.kp,T.fO.b}
   | holds=>exact{_,_,L2.cO.mono (CQ T F) ∅,T.lF.F.kp,T.lF.b}
   | aJ=>exact{_,_,L2.cO.mono (A5 T F) ∅,T.jT.F.kp,T.jT.b}
   | rep=>exact{_,_,L2.cO.mono (uG T F) ∅,T.iI.F.kp,T.iI.b}
   | bP=>exact{_,_,L2.cO.mono (CP T F) ∅,T.lC.F.kp,T.lC.b}
  refine{_,(ag (aL (bL (cF (pv 2)))
   (aj (ax az))
   aA)
   (ag (b7 3 tM.nd (HR (bH (v:=.ref T.qB) (by rfl) T.Qf rfl) (pv 1) (λ_ _=>rfl)))
   (aj (ax (HU (N0 K T C) hTbV (hr.mono ∅) (pv 3) AX (ah (pv 0) (ah (pv 2) ae))))))),?_}
  ac_rfl;left;cases t with
  | none=>
   let e:v=.bQ:=tv;subst e;change kk _ (aF _)
  | some t=>
   let⟨ex,ft⟩:=fit t rfl;subst ex;let⟨f,D,ev,htb,hd⟩:=PU K T C t;let ne:=Og tv;rw[zg ne];exists T.qB,Sb T,mV t,_,rfl,B.TQ,rfl,ev,?_;exists f,_,rfl,htb,?_;change{a,S,o,v,_,rfl,sc,hd H0 H v S tv ft,kk}
def Jq {hs:List (Str×List (Int×Str))} {p:Str} {h:Int×Str} (fr:p∉hs.map (·.1)):e9 (hs++[(p,[])]) p h=e9 hs p h:=by
 unfold e9;rw[yQ fr,yR (by rw[zm];exact zJ _ (zB.mpr rfl)),zm];let e:(hs.map λq:Str×List (Int×Str)=>if q.1=p then(q.1,q.2++[h]) else q)=hs:=by
  conv=>rhs;rw[<-List.map_id hs]
  refine xy λq hq=>?_;rw[yQ (λz=>fr (by rw[<-z];exact zQ (f:=λx:Str×List (Int×Str)=>x.1) hq))];rfl
 rw[e];simp
def oQ (S:bO):Prop:=(S.holds.map (·.1)).Nodup/\⇑S.holds<=1000000/\∀q∈S.holds,⇑q.2<=1000000
inductive Hj (C:vw) (vs:List V) (H:Hp) (Q:VK) (E:XK):Prop
 | mk (a:vw) (S:bO) (o:Ow) (v:V) (pn:Str) (b:Int) (i:Str) (_:vs=[.ref a,v]) (_:cm C H a S o) (_:Is H (uc (pn,b,i)) v) (_:oQ S) (_:∀H' o',cm C H' a (bR S (.holds pn b i)) o'->vB (own a o) H H'->(∀x∈own a o',x∈own a o\/H x=none)->Q .bQ H')
def qO {o:Ow} {a x:vw} (h:x∈o.lists):x∈own a o:=by
 unfold Ow.lists at h;unfold own;rw[zH,zH] at h ⊢;rcases h with(h | h) | h
 ·refine .inl (.inl ?_)
  simp only[zE,zF,yX] at h ⊢;rcases h with h | h | h <;> simp[h]
 ·exact .inl (.inr h)
 ·exact .inr h
def Pa {C a x:vw} {H:Hp} {S:bO} {o:Ow} (h:cm C H a S o) (hx:x∈own a o):∃u,H x=some u:=by
 let⟨_,_,ha,_⟩:=h.obj;let⟨_,hi,_⟩:=h.ins;let⟨_,hs,_⟩:=h.st;let⟨_,hb,_⟩:=h.ba;let⟨_,hr,_⟩:=h.re;unfold own at hx;rw[zH,zH] at hx;rcases hx with(hx | hx) | hx
 ·simp only[zE,zF,yX] at hx
  rcases hx with rfl | rfl | rfl | rfl | rfl | rfl | rfl | rfl
  ·exact{_,ha}
  ·exact{_,h.pl}
  ·exact{_,hi}
  ·exact{_,hs}
  ·exact{_,hb}
  ·exact{_,h.ho.1}
  ·exact{_,h.no.1}
  ·exact{_,hr}
 ·let⟨vs,e⟩:=cI h.ho.2 hx
  exact{_,e}
 ·let⟨vs,e⟩:=cI h.no.2 hx
  exact{_,e}
def Fs {C a x:vw} {H:Hp} {S:bO} {o:Ow} (h:cm C H a S o) (hx:H x=none):x∉own a o:=λz=>by
 let⟨u,e⟩:=Pa h z;rw[hx] at e;cases e
def Iv {hs:List (Str×List (Int×Str))} {as:List vw} {H:Hp} {x:vw} {vs:List V} (hL:cx H K2 (hs.map (·.2)) as) (hx:x∈as) (hH:H x=some (.lst vs)) (hb:∀q∈hs,⇑q.2<=1000000):⇑vs<=1000000:=by
 induction hs generalizing as with
 | nil=>unfold cx at hL;rw[hL] at hx;simp at hx
 | cons q r ih=>
  rw[zk] at hL;let⟨a,t,us,rfl,h1,h2,h3⟩:=hL;rcases zE.mp hx with rfl | hx
  ·rw[h1] at hH;cases hH
   have:=aZ h2;have:=hb q zt;ext
  ·exact ih h3 hx λq hq=>hb q (zr _ hq)
def Ii {C:vw} (F:Cf K C):dz P w base 1 T.BW (Hj C):=by
 nomatch T.BW,["score","told"]
 let⟨a,S,o,v,pn,b,i,rfl,sc,iv,⟨nk,hl,hb⟩,kk⟩:=h;let⟨a1,rfl,h1⟩:=LY iv;let sl:=yF;let⟨ub,jm,ho,hub,hjm⟩:=sc.obj;let em:(S.holds.map λx=>kS x.1)=(S.holds.map (·.1)).map kS:=by rw[zC];rfl
 let ll:⇑(o.hs.map V.ref)=⇑(S.holds.map (·.1)):=by rw[zd,zd,oy sc.ho.2,zd]
 dsimp only at h1;refine{_,(ag (aL (bL (DO (nF hr) (cy (pv 1) af) (bU (pv 0) rfl)))
  (aj (vE (nF hr) (bU (pv 0) rfl) (cy (pv 1) af) (aU ae) rfl))
  aA)
  (aj (bX (bK yG yI yH bJ (Rf (nF hr) (bU (pv 0) rfl) (cy (pv 1) af) (λ_ _=>rfl)) (ah (bT (ah (cy (pv 1) af) (ah (cy (pv 1) af) ae))) ae))))),?_}
 ac_rfl;exists a,C,o.dx,_,_,rfl,ho,F.cls,F.holds,rfl,?_;refine{o.ho,_,rfl,.inl {_,kS pn,.inl sc.ho.1,rfl,rfl},?_};rw[em,qg pn ll]
 by_cases c1:pn∈S.holds.map (·.1)
 ·rw[zh c1]
  let⟨x,us,e1,e2,e3,e4⟩:=sc.oj nk c1;exists a,C,o.dx,_,_,rfl,ho,F.cls,F.holds,rfl,?_;exists o.ho,_,rfl,.inl {_,kS pn,.inl sc.ho.1,rfl,e1.symm},?_;refine{.inl {rfl,us,ak e3},?_};exists dj,?_;intros p2 H2 s2 h2;refine{x,us,_,rfl,rfl,s2 _ _ e3,?_,?_}
  ·have:=Iv sc.ho.2 e2 e3 hb
   ext
  ·let⟨x',us',f1,f2,f3,f4⟩:=(sc.mono s2).oj nk c1
   let ex:x=x':=by rw[f1] at e1;cases e1;rfl
   subst ex;let eu:us=us':=by have:=s2 _ _ e3;rw[f3] at this;cases this;rfl
   subst eu;change kk _ o (f4 _ b i (cM h2 (bc cW (bc fg dn)))) ((vB.of s2).trans (vB.upd (qO (by unfold Ow.lists;simp[e2])))) λy hy=>.inl hy
 ·rw[zg c1]
  left
  intros p1 n1 s1 g1 H1
  let sc1:=sc.mono s1;let h11:=s1 _ _ h1;let nl:p1∉o.lists:=λz=>Fs sc n1 (qO z);exists a,C,o.dx,_,_,rfl,s1 _ _ ho,F.cls,F.holds,rfl,?_;left;refine{o.ho,_,rfl,.inl {_,kS pn,sc1.ho.1,rfl,?_,rfl},?_}
  ·rw[xB,zd];ext
  let sc2:=sc1.Pf g1 nl c1;let nt1:cZ (H1 o.ho):=by rw[sc1.ho.1];exact λ_ z=>by cases z
  let h12:upd H1 o.ho (.dK (putK ((S.holds.map λx=>kS x.1).zip (o.hs.map V.ref)) (kS pn) (.ref p1))) a1=some (.tup [V.str pn,V.int b,V.str i]):=by rw[aC (Sc.bB h11 sc1.ho.1 (fL rfl))];exact h11
  let el:vB (own a o) H (upd H1 o.ho (.dK (putK ((S.holds.map λx=>kS x.1).zip (o.hs.map V.ref)) (kS pn) (.ref p1)))):=(vB.of s1).trans (vB.upd (by unfold own;simp));generalize upd H1 o.ho (.dK (putK ((S.holds.map λx=>kS x.1).zip (o.hs.map V.ref)) (kS pn) (.ref p1)))=H3 at sc2 h12 el ⊢;let⟨ub2,jm2,ho2,_,_⟩:=sc2.obj;let nk2:(({S with holds:=S.holds++[(pn,[])]}:bO).holds.map (·.1)).Nodup:=by
   show((S.holds++[(pn,[])]).map λx:Str×List (Int×Str)=>x.1).Nodup;rw[zm,zU];exact{nk,by simp,λx hx y hy e=>by simp at hy;subst hy;subst e;exact c1 hx}
  let c2:pn∈({S with holds:=S.holds++[(pn,[])]}:bO).holds.map (·.1):=by
   show pn∈(S.holds++[(pn,[])]).map λx:Str×List (Int×Str)=>x.1;rw[zm];exact zJ _ (zB.mpr rfl)
  let⟨x,us,e1,e2,e3,e4⟩:=sc2.oj nk2 c2;let hb2:∀q∈S.holds++[((pn,[]):Str×List (Int×Str))],⇑q.2<=1000000:=λq hq=>by
   rcases zH.mp hq with z | z
   ·exact hb q z
   ·rw[zB.mp z];exact yg _
  exists a,C,_,_,_,rfl,ho2,F.cls,F.holds,rfl,?_;exists o.ho,_,rfl,.inl {_,kS pn,.inl sc2.ho.1,rfl,e1.symm},?_;refine{.inl {rfl,us,ak e3},?_};exists dj,?_;intros p2 H4 s4 h4;refine{x,us,_,rfl,rfl,s4 _ _ e3,?_,?_}
  ·have:=Iv sc2.ho.2 e2 e3 hb2
   ext
  ·let⟨x',us',f1,f2,f3,f4⟩:=(sc2.mono s4).oj nk2 c2
   let ex:x=x':=by rw[f1] at e1;cases e1;rfl
   subst ex;let eu:us=us':=by have:=s4 _ _ e3;rw[f3] at this;cases this;rfl
   subst eu;left;let ea:bR {S with holds:=S.holds++[(pn,[])]} (.holds pn b i)=bR S (.holds pn b i):=by
    show({S with holds:=e9 (S.holds++[(pn,[])]) pn (b,i)}:bO)={S with holds:=e9 S.holds pn (b,i)};rw[Jq c1]
   let sf:=f4 _ b i (cM h4 (bc cW (bc fg dn)));rw[ea] at sf;let xin:x∈o.hs\/x=p1:=by
    have:x∈o.hs++[p1]:=e2;rw[zH,zB] at this;exact this
   refine kk _ _ sf (λy u ny hy=>?_) λy hy=>?_
   ·let hy4:=s4 _ _ (el y u ny hy)
    rw[aC]
    ·exact hy4
    ·intro z
     subst z;rcases xin with z | z
     ·exact ny (qO (by unfold Ow.lists;simp[z]))
     ·subst z;rw[n1] at hy;cases hy
   ·have:y∈own a o\/y=p1:=by
     unfold own at hy ⊢;simp only[zH,zE,zF,yX] at hy ⊢;rcases hy with(hy | hy | hy) | hy
     ·exact .inl (.inl (.inl hy))
     ·exact .inl (.inl (.inr hy))
     ·exact .inr hy
     ·exact .inl (.inr hy)
    rcases this with z | z
    ·exact .inl z
    ·subst z;exact .inr n1
def rH (S:bO):Prop:=⇑S.au<=1000000/\⇑S.aq<=1000000/\⇑S.aP<=1000000/\⇑S.aR<=1000000/\⇑S.aJ<=1000000/\⇑S.aN<=1000000
inductive JX (C:vw) (vs:List V) (H:Hp) (Q:VK) (E:XK):Prop
 | mk (a:vw) (S:bO) (o:Ow) (v:V) (H0:Hp) (t:Told) (_:vs=[.ref a,.str (mV t),v]) (_:cm C H0 a S o) (_:aG H0 H) (_:gC H0 H v (some t)) (_:aX S t=none) (_:oQ S) (_:rH S) (_:∀H' o',cm C H' a (bR S t) o'->vB (own a o) H H'->(∀x∈own a o',x∈own a o\/H0 x=none)->Q .bQ H')
def FP {c:Prop} [Decidable c] {x:Str} {y:Option Str} (h:(if c then some x else y)=none):¬c/\y=none:=by
 by_cases e:c
 ·rw[yR e] at h;cases h
 ·rw[yQ e] at h;exact{(e),h}
theorem tX {H:Hp}:∀l:List Str,aB H (l.map Dt.str) (l.map V.str)
 | []=>dn
 | x::r=>bc fg (tX r)
def Km {C:vw} (F:Cf K C):dz P w base 2 T.Gs (JX C):=by
 nomatch T.Gs,["score","sort","told"]
 let⟨a,S,o,v,H0,t,rfl,sc0,s0,tv,fn,bV,⟨z1,z2,z3,z4,z5,z6⟩,kk⟩:=h;let sl:=yF;let sc:=sc0.mono s0;let⟨ub,jm,ho,hub,hjm⟩:=sc.obj;let me:∀x∈own a o,x∈own a o\/H0 x=none:=λx hx=>.inl hx;refine{_,(aj (aL (ptr cS (pv 1) az)
  (aj (bX (bK yG yI yH bJ (bU (pv 0) rfl) (ah (pv 2) ae))))
  (aj (aL (ptr cS (pv 1) az)
   (aj (vE (nF hr) (bU (pv 0) rfl) (cy (pv 2) af) (bT (ah (cy (pv 2) af) (ah (cy (pv 2) af) ae))) rfl))
   (aj (aL (ptr cS (pv 1) az)
    (aj (vE (nF hr) (bU (pv 0) rfl) (cy (pv 2) af) (cy (pv 2) af) rfl))
    (aj (aL (ptr cS (pv 1) az)
     (aj (bX (bK yG yI yH bJ (bU (pv 0) rfl) (ah (pv 2) ae))))
     (aj (aL (ptr cS (pv 1) az)
      (aj (jn (pv 0) (pv 2) rfl))
      (aj (aL (ptr cS (pv 1) az)
       (aj (bX (cw (Ii T F) hr T.BW (ah (pv 0) (ah (pv 2) ae)))))
       (aj (aL (ptr cS (pv 1) az)
        (aj (vE (nF hr) (bU (pv 0) rfl) (bT (ah (cy (pv 2) af) (ah (cy (pv 2) af) ae))) (cy (pv 2) af) rfl))
        (aj (aL (ptr cS (pv 1) az)
         (aj (bX (bK yG yI yH bJ (bU (pv 0) rfl) (ah (pv 2) ae))))
         (aj (jn (pv 0) (pv 2) rfl)))))))))))))))))),?_}
 ac_rfl;cases t with
 | bA n=>
  let e:v=.str n:=tv;subst e;exists a,C,o.dx,_,_,rfl,ho,F.cls,F.au,rfl,?_;refine{.inl {rfl,_,ak sc.pl},?_};exists o.pl,_,_,rfl,rfl,sc.pl,by rw[zd];ext,?_
  change kk _ o (sc.Ld n) (vB.upd (by unfold own;simp)) me
 | cg n t l=>
  let⟨a1,t1,l1,rfl,h1,it,il⟩:=Iz (x:=(n,t,l)) tv;let fr:=(FP fn).1;exists dj,?_;intros p2 H2 s2 h2;let sc2:=sc.mono s2;let h12:=s2 _ _ h1;let⟨vs,hv,ilv⟩:=sc2.ins;exists a,C,o.dx,_,_,rfl,s2 _ _ ho,F.cls,F.aq,rfl,?_;left;refine{o.ins,_,rfl,.inl {_,kS n,hv,rfl,?_,rfl},?_}
  ·rw[xB,zd];ext
  exact kk _ o (sc2.NK hv ilv (cM h2 (bc (it.mono s2) (bc (il.mono s2) dn))) fr) ((vB.of s2).trans (vB.upd (by unfold own;simp))) me
 | bE n ps=>
  let⟨a1,q,rfl,h1,hq⟩:=G4 (x:=(n,ps)) tv;let fr:=(FP fn).1;let⟨vs,hv,ilv⟩:=sc.st;exists a,C,o.dx,_,_,rfl,ho,F.cls,F.aP,rfl,?_;left;refine{o.st,_,rfl,.inl {_,kS n,hv,rfl,?_,rfl},?_}
  ·rw[xB,zd];ext
  exact kk _ o (sc.NI hv ilv (by unfold RH nJ;exact cM hq (tX ps)) fr) (vB.upd (by unfold own;simp)) me
 | bar b=>
  let⟨vs,hv,ilv⟩:=sc.ba;let vl:=aZ ilv;exists a,C,o.dx,_,_,rfl,ho,F.cls,F.aR,rfl,?_;refine{.inl {rfl,_,ak hv},?_};exists o.ba,_,_,rfl,rfl,hv,(),?_;change kk _ o (sc.RM hv ilv tv) (vB.upd (by unfold own;simp)) me
 | aH l=>
  exists a,C,o.dx,_,rfl,ho,F.cls,F.aH,(by show 9<1000;decide),?_;exact kk _ o (sc.Lc ho hjm tv) (vB.upd (by unfold own;simp)) me
 | holds p b i=>
  change{a,S,o,v,p,b,i,rfl,sc,tv,bV,λH' o' s' e' n'=>kk H' o' s' e' λx hx=>(n' x hx).imp id λz=>s0.back z}
 | aJ b p its=>
  let⟨a1,q,us,rfl,h1,hq,ilq,nq⟩:=tv;let fr:=(FP fn).1;let nl:q∉o.lists:=λz=>Fs sc0 nq (qO z);exists a,C,o.dx,_,_,rfl,ho,F.cls,F.aJ,rfl,?_;exists dj,?_;intros p2 H2 s2 h2;let sc2:=sc.mono s2;refine{o.no,_,rfl,.inr {_,kN (b,p),p2,sc2.no.1,rfl,h2,?_,rfl},?_}
  ·rw[xB,zd];ext
  refine kk _ _ (sc2.NJ (s2 _ _ hq) (ilq.mono s2) nl fr) ((vB.of s2).trans (vB.upd (by unfold own;simp))) λx hx=>?_;have:x∈own a o\/x=q:=by
   unfold own at hx ⊢;simp only[zH,zE,zF,yX] at hx ⊢;rcases hx with hx | hx | hx
   ·exact .inl (.inl hx)
   ·exact .inl (.inr hx)
   ·exact .inr hx
  rcases this with z | z
  ·exact .inl z
  ·subst z;exact .inr nq
 | rep r=>
  let⟨vs,hv,ilv⟩:=sc.re;let vl:=aZ ilv;exists a,C,o.dx,_,_,rfl,ho,F.cls,F.aN,rfl,?_;refine{.inl {rfl,_,ak hv},?_};exists o.re,_,_,rfl,rfl,hv,(),?_;change kk _ o (sc.RJ hv ilv tv) (vB.upd (by unfold own;simp)) me
 | bP j=>
  exists a,C,o.dx,_,rfl,ho,F.cls,F.bP,(by show 9<1000;decide),?_;exact kk _ o (sc.Qn ho hub tv) (vB.upd (by unfold own;simp)) me
def gx {H:Hp} {a C dx p:vw} {fs fs':List (Str×V)} {u:HO} (ha:H a=some (.ins C dx fs)) (np:H p=none) :
  upd (upd H p u) a (.ins C dx fs') a=some (.ins C dx fs')/\upd (upd H p u) a (.ins C dx fs') p=some u/\∀b v,H b=some v->b≠a->upd (upd H p u) a (.ins C dx fs') b=some v:=by
 let na:p≠a:=λz=>by rw[z,ha] at np;cases np
 refine{aE,by rw[aC na,aE],λb v hb ne=>?_};rw[aC ne,aC (λz=>by rw[z,np] at hb;cases hb)];exact hb
def D1 {H:Hp} {a C dx:vw} {fs':List (Str×V)}:upd H a (.ins C dx fs') a=some (.ins C dx fs')/\∀b v,H b=some v->b≠a->upd H a (.ins C dx fs') b=some v:=
 {aE,λb v hb ne=>by rw[aC ne];exact hb}
inductive Cs (C:vw) (vs:List V) (H:Hp) (Q:VK) (E:XK):Prop
 | mk (a dx:vw) (_:vs=[.ref a]) (_:H a=some (.ins C dx [])) (_:∀H' o,cm C H' a {} o->(∀b u,H b=some u->b≠a->H' b=some u)->(∀x∈own a o,x=a\/H x=none)->Q .bQ H')
def Cv:d6 ["self"] ["self"] (aT qq):=Sd
def CU {C:vw} (F:Cf K C):cO P w K mg base Cc 1 T.lK T.rA ["self"] (Cs C):=by
 refine T.Cb.F.Um Cv λ_ _ _ _ H vs Q E hr h=>?_
 ·let⟨a,dx,rfl,ha,kk⟩:=h
  let sl:=yF;refine{_,ag (jn (pv 0) (aU ae) rfl) (ag (jn (pv 0) AU rfl) (ag (jn (pv 0) AU rfl) (ag (jn (pv 0) (aU ae) rfl) (ag (jn (pv 0) bj rfl) (ag (jn (pv 0) AU rfl) (ag (jn (pv 0) O5 rfl) (ag (jn (pv 0) (aU ae) rfl) (aj (jn (pv 0) bj rfl))))))))),?_};refine{by show 0<=sizeLine;ext,λp1 n1=>?_};refine{_,rfl,a,C,dx,[],rfl,(by rw[aC (λz=>by rw[<-z,ha] at n1;cases n1)];exact ha),F.cls,F.au,(by show 0<1000;decide),?_};let⟨a1,q1,k1⟩:=gx (u:=.lst []) (fs':=bq "players" (.ref p1) []) ha n1;generalize upd (upd H p1 (.lst [])) a (.ins C dx (bq "players" (.ref p1) []))=H1 at a1 q1 k1 ⊢;refine λp2 n2=>{_,rfl,a,C,dx,_,rfl,(by rw[aC (λz=>by rw[<-z,a1] at n2;cases n2)];exact a1),F.cls,F.aq,(by show 1<1000;decide),?_}
  let⟨a2,q2,k2⟩:=gx (u:=.dK []) (fs':=(bq "instruments" (.ref p2) (bq "players" (.ref p1) []))) a1 n2;generalize upd (upd H1 p2 (.dK [])) a (.ins C dx (bq "instruments" (.ref p2) (bq "players" (.ref p1) [])))=H2 at a2 q2 k2 ⊢;refine λp3 n3=>{_,rfl,a,C,dx,_,rfl,(by rw[aC (λz=>by rw[<-z,a2] at n3;cases n3)];exact a2),F.cls,F.aP,(by show 2<1000;decide),?_}
  let⟨a3,q3,k3⟩:=gx (u:=.dK []) (fs':=(bq "staffs" (.ref p3) (bq "instruments" (.ref p2) (bq "players" (.ref p1) [])))) a2 n3;generalize upd (upd H2 p3 (.dK [])) a (.ins C dx (bq "staffs" (.ref p3) (bq "instruments" (.ref p2) (bq "players" (.ref p1) []))))=H3 at a3 q3 k3 ⊢;refine{by show 0<=sizeLine;ext,λp4 n4=>{_,rfl,a,C,dx,_,rfl,(by rw[aC (λz=>by rw[<-z,a3] at n4;cases n4)];exact a3),F.cls,F.aR,(by show 3<1000;decide),?_}};let⟨a4,q4,k4⟩:=gx (u:=.lst []) (fs':=(bq "bars" (.ref p4) (bq "staffs" (.ref p3) (bq "instruments" (.ref p2) (bq "players" (.ref p1) []))))) a3 n4;generalize upd (upd H3 p4 (.lst [])) a (.ins C dx (bq "bars" (.ref p4) (bq "staffs" (.ref p3) (bq "instruments" (.ref p2) (bq "players" (.ref p1) [])))))=H4 at a4 q4 k4 ⊢;refine{_,rfl,a,C,dx,_,rfl,a4,F.cls,F.aH,(by show 4<1000;decide),?_};let⟨a5,k5⟩:=D1 (H:=H4) (a:=a) (C:=C) (dx:=dx) (fs':=(bq "upbeat" .bQ (bq "bars" (.ref p4) (bq "staffs" (.ref p3) (bq "instruments" (.ref p2) (bq "players" (.ref p1) []))))));generalize upd H4 a (.ins C dx (bq "upbeat" .bQ (bq "bars" (.ref p4) (bq "staffs" (.ref p3) (bq "instruments" (.ref p2) (bq "players" (.ref p1) []))))))=H5 at a5 k5 ⊢;refine λp6 n6=>{_,rfl,a,C,dx,_,rfl,(by rw[aC (λz=>by rw[<-z,a5] at n6;cases n6)];exact a5),F.cls,F.holds,(by show 5<1000;decide),?_}
  let⟨a6,q6,k6⟩:=gx (u:=.dK []) (fs':=(bq "holds" (.ref p6) (bq "upbeat" .bQ (bq "bars" (.ref p4) (bq "staffs" (.ref p3) (bq "instruments" (.ref p2) (bq "players" (.ref p1) []))))))) a5 n6;generalize upd (upd H5 p6 (.dK [])) a (.ins C dx (bq "holds" (.ref p6) (bq "upbeat" .bQ (bq "bars" (.ref p4) (bq "staffs" (.ref p3) (bq "instruments" (.ref p2) (bq "players" (.ref p1) [])))))))=H6 at a6 q6 k6 ⊢;refine λp7 n7=>{_,rfl,a,C,dx,_,rfl,(by rw[aC (λz=>by rw[<-z,a6] at n7;cases n7)];exact a6),F.cls,F.aJ,(by show 6<1000;decide),?_}
  let⟨a7,q7,k7⟩:=gx (u:=.dT []) (fs':=(bq "notes" (.ref p7) (bq "holds" (.ref p6) (bq "upbeat" .bQ (bq "bars" (.ref p4) (bq "staffs" (.ref p3) (bq "instruments" (.ref p2) (bq "players" (.ref p1) [])))))))) a6 n7;generalize upd (upd H6 p7 (.dT [])) a (.ins C dx (bq "notes" (.ref p7) (bq "holds" (.ref p6) (bq "upbeat" .bQ (bq "bars" (.ref p4) (bq "staffs" (.ref p3) (bq "instruments" (.ref p2) (bq "players" (.ref p1) []))))))))=H7 at a7 q7 k7 ⊢;refine{by show 0<=sizeLine;ext,λp8 n8=>{_,rfl,a,C,dx,_,rfl,(by rw[aC (λz=>by rw[<-z,a7] at n8;cases n8)];exact a7),F.cls,F.aN,(by show 7<1000;decide),?_}};let⟨a8,q8,k8⟩:=gx (u:=.lst []) (fs':=(bq "repeats" (.ref p8) (bq "notes" (.ref p7) (bq "holds" (.ref p6) (bq "upbeat" .bQ (bq "bars" (.ref p4) (bq "staffs" (.ref p3) (bq "instruments" (.ref p2) (bq "players" (.ref p1) []))))))))) a7 n8;generalize upd (upd H7 p8 (.lst [])) a (.ins C dx (bq "repeats" (.ref p8) (bq "notes" (.ref p7) (bq "holds" (.ref p6) (bq "upbeat" .bQ (bq "bars" (.ref p4) (bq "staffs" (.ref p3) (bq "instruments" (.ref p2) (bq "players" (.ref p1) [])))))))))=H8 at a8 q8 k8 ⊢;refine{_,rfl,a,C,dx,_,rfl,a8,F.cls,F.bP,(by show 8<1000;decide),?_};let⟨a9,k9⟩:=D1 (H:=H8) (a:=a) (C:=C) (dx:=dx) (fs':=(bq "jump" .bQ (bq "repeats" (.ref p8) (bq "notes" (.ref p7) (bq "holds" (.ref p6) (bq "upbeat" .bQ (bq "bars" (.ref p4) (bq "staffs" (.ref p3) (bq "instruments" (.ref p2) (bq "players" (.ref p1) []))))))))));generalize upd H8 a (.ins C dx (bq "jump" .bQ (bq "repeats" (.ref p8) (bq "notes" (.ref p7) (bq "holds" (.ref p6) (bq "upbeat" .bQ (bq "bars" (.ref p4) (bq "staffs" (.ref p3) (bq "instruments" (.ref p2) (bq "players" (.ref p1) []))))))))))=H9 at a9 k9 ⊢;let e1:p1≠a:=λz=>by rw[z,ha] at n1;cases n1
  let g1:=k9 _ _ (k8 _ _ (k7 _ _ (k6 _ _ (k5 _ _ (k4 _ _ (k3 _ _ (k2 _ _ (q1) e1) e1) e1) e1) e1) e1) e1) e1;let e2:p2≠a:=λz=>by rw[z,a1] at n2;cases n2
  let g2:=k9 _ _ (k8 _ _ (k7 _ _ (k6 _ _ (k5 _ _ (k4 _ _ (k3 _ _ (q2) e2) e2) e2) e2) e2) e2) e2;let e3:p3≠a:=λz=>by rw[z,a2] at n3;cases n3
  let g3:=k9 _ _ (k8 _ _ (k7 _ _ (k6 _ _ (k5 _ _ (k4 _ _ (q3) e3) e3) e3) e3) e3) e3;let e4:p4≠a:=λz=>by rw[z,a3] at n4;cases n4
  let g4:=k9 _ _ (k8 _ _ (k7 _ _ (k6 _ _ (k5 _ _ (q4) e4) e4) e4) e4) e4;let e6:p6≠a:=λz=>by rw[z,a5] at n6;cases n6
  let g6:=k9 _ _ (k8 _ _ (k7 _ _ (q6) e6) e6) e6;let e7:p7≠a:=λz=>by rw[z,a6] at n7;cases n7
  let g7:=k9 _ _ (k8 _ _ (q7) e7) e7;let e8:p8≠a:=λz=>by rw[z,a7] at n8;cases n8
  let g8:=k9 _ _ (q8) e8;let kH:∀b v,H b=some v->b≠a->H9 b=some v:=λb v hb ne=>k9 _ _ (k8 _ _ (k7 _ _ (k6 _ _ (k5 _ _ (k4 _ _ (k3 _ _ (k2 _ _ (k1 _ _ hb ne) ne) ne) ne) ne) ne) ne) ne) ne;let f1:H p1=none:=n1;let f2:H p2=none:=by
   cases q:H p2 with
   | none=>rfl
   | some v=>let z:=q;rw[show H1 p2=some v from k1 _ _ z e2] at n2;cases n2
  let f3:H p3=none:=by
   cases q:H p3 with
   | none=>rfl
   | some v=>let z:=q;rw[show H2 p3=some v from k2 _ _ (k1 _ _ z e3) e3] at n3;cases n3
  let f4:H p4=none:=by
   cases q:H p4 with
   | none=>rfl
   | some v=>let z:=q;rw[show H3 p4=some v from k3 _ _ (k2 _ _ (k1 _ _ z e4) e4) e4] at n4;cases n4
  let f6:H p6=none:=by
   cases q:H p6 with
   | none=>rfl
   | some v=>let z:=q;rw[show H5 p6=some v from k5 _ _ (k4 _ _ (k3 _ _ (k2 _ _ (k1 _ _ z e6) e6) e6) e6) e6] at n6;cases n6
  let f7:H p7=none:=by
   cases q:H p7 with
   | none=>rfl
   | some v=>let z:=q;rw[show H6 p7=some v from k6 _ _ (k5 _ _ (k4 _ _ (k3 _ _ (k2 _ _ (k1 _ _ z e7) e7) e7) e7) e7) e7] at n7;cases n7
  let f8:H p8=none:=by
   cases q:H p8 with
   | none=>rfl
   | some v=>let z:=q;rw[show H7 p8=some v from k7 _ _ (k6 _ _ (k5 _ _ (k4 _ _ (k3 _ _ (k2 _ _ (k1 _ _ z e8) e8) e8) e8) e8) e8) e8] at n8;cases n8
  let d14:p1≠p4:=λz=>by let h:=k3 _ _ (k2 _ _ (q1) e1) e1;rw[z,n4] at h;cases h
  let d18:p1≠p8:=λz=>by let h:=k7 _ _ (k6 _ _ (k5 _ _ (k4 _ _ (k3 _ _ (k2 _ _ (q1) e1) e1) e1) e1) e1) e1;rw[z,n8] at h;cases h
  let d48:p4≠p8:=λz=>by let h:=k7 _ _ (k6 _ _ (k5 _ _ (q4) e4) e4) e4;rw[z,n8] at h;cases h
  let d23:p2≠p3:=λz=>by let h:=q2;rw[z,n3] at h;cases h
  let d26:p2≠p6:=λz=>by let h:=k5 _ _ (k4 _ _ (k3 _ _ (q2) e2) e2) e2;rw[z,n6] at h;cases h
  let d36:p3≠p6:=λz=>by let h:=k5 _ _ (k4 _ _ (q3) e3) e3;rw[z,n6] at h;cases h
  refine kk H9 {dx,p1,p2,p3,p4,p6,p7,p8,[],[]} {{.bQ,.bQ,a9,dZ,dZ},g1,{[],g2,dn},{[],g3,dn},{[],g4,dn},{(g6),rfl},{(g7),rfl},{[],g8,dn},?_,?_} kH λx hx=>?_
  ·show [p1,p4,p8].Nodup
   simp[d14,d18,d48]
  ·show [p2,p3,p6].Nodup
   simp[d23,d26,d36]
  ·let hx':x∈[a,p1,p2,p3,p4,p6,p7,p8]:=by simpa[own] using hx
   simp only[zE,zF,yX] at hx';rcases hx' with rfl | rfl | rfl | rfl | rfl | rfl | rfl | rfl
   ·exact .inl rfl
   ·exact .inr f1
   ·exact .inr f2
   ·exact .inr f3
   ·exact .inr f4
   ·exact .inr f6
   ·exact .inr f7
   ·exact .inr f8
def Runs:bO->List Told->bO->Prop
 | S,[],S'=>S=S'
 | S,t::r,S'=>aX S t=none/\GB S t/\oQ S/\rH S/\Runs (bR S t) r S'
def DG (t:Told):∃ws,aV t=mV t::ws:=by cases t <;> exact{_,rfl}
inductive Out where
 | ok (S:bO)
 | bad (i:Nat) (w:Str)
inductive RX:bO->Nat->List Str->Out->Prop where
 | nil {S:bO} {i:Nat}:RX S i [] (.ok S)
 | blank {S:bO} {i:Nat} {r:Str} {rs:List Str} {out:Out}:⇑r<=1000000->words r=[]->RX S (i+1) rs out->RX S i (r::rs) out
 | row {S:bO} {i:Nat} {r:Str} {t:Told} {rs:List Str} {out:Out}:⇑r<=1000000->words r=aV t->Ew t->⇑(aV t)<=1000000->(∀y∈aV t,⇑y<=600)->aX S t=none->GB S t->oQ S->rH S->RX (bR S t) (i+1) rs out->RX S i (r::rs) out
 | bad {S:bO} {i:Nat} {r x w:Str} {ws rs:List Str}:⇑r<=1000000->words r=x::ws->⇑ws<=999999->(∀y∈x::ws,⇑y<=600)->(∀t,jP (x::ws)=some t->x=mV t/\GB S t)->KI S (jP (x::ws))=some w->RX S i (r::rs) (.bad i w)
inductive rY (C:vw) (vs:List V) (H:Hp) (Q:VK) (E:XK):Prop
 | mk (a:vw) (x y:V) (_:vs=[.ref a,x,y]) (_:H a=some (Ez C none a)) (_:∀dx H',H dx=none->dx≠a->H' a=some (Ez C (some dx) a)->H' dx=some (XD dx [("place",x),("word",y)])->(∀b,b≠a->b≠dx->H' b=H b)->Q .bQ H')
def rZ:d6 ["self","place","word"] ["self","place","word"] (aT lW):=Sd
def sL:cO P w K mg base Cc 1 T.iw T.mq ["self","place","word"] (rY T.b9):=by
 refine T.o7.F.Um rZ λ_ _ _ _ H vs Q E hr h=>?_
 ·let⟨a,x,y,rfl,ha,kk⟩:=h
  refine{_,ag (UX (pv 0) (pv 1) rfl) (aj (UW (pv 0) (pv 2) rfl)),?_};refine{_,rfl,_,rfl,a,_,_,rfl,ha,T.dM.set,T.xf.np,λdx nd na=>?_};refine{_,rfl,_,rfl,a,_,_,dx,_,rfl,aE,by rw[aC na,aE],T.dM.set,T.xf.nw,(by show 1<1000;decide),?_};exact kk dx _ nd na (by rw[aC (Ne.symm na),aE]) (by rw[aE];rfl) λb n1 n2=>by rw[aC n2,aC n1,aC n2]
inductive Cj (C B:vw) (vs:List V) (H:Hp) (Q:VK) (E:XK):Prop
 | mk (t:Str) (out:Out) (_:vs=[.str t]) (_:⇑t+2<=sizeLine) (_:RX {} 0 (Txt.split t "\n") out) (_:(∀S,out=.ok S->∀a o H',cm C H' a S o->aG H H'->(∀x∈own a o,H x=none)->Q (.ref a) H')) (_:∀i w,out=.bad i w->∀dx H',aG H H'->H' dx=some (XD dx [("place",.int (i:Nat)),("word",.str w)])->E (.ref B) (some dx) H')
theorem MD {H0 H H':Hp} {v:V} (s:aG H H'):∀{t:Option Told},gC H0 H v t->gC H0 H' v t
 | none,h=>h
 | some (.bA _),h=>h
 | some (.cg _ _ _),h=>Is.mono s h
 | some (.bE _ _),h=>Is.mono s h
 | some (.bar _),h=>Is.mono s h
 | some (.aH _),h=>Is.mono s h
 | some (.holds _ _ _),h=>Is.mono s h
 | some (.aJ _ _ _),⟨a,q,vs,h1,h2,h3,h4,h5⟩=>{a,q,vs,h1,s _ _ h2,s _ _ h3,h4.mono s,h5}
 | some (.rep _),h=>Is.mono s h
 | some (.bP _),h=>Is.mono s h
def dG:d6 ["text","score","place","row","words","told","word"] ["text"] (aT qk):=Sd
def oW (B:Dk P w K T) (F:Cf K T.jX):cO P w K mg base (QB P w) 8 T.rF T.rj ["text"] (Cj T.jX T.b9):=by
 refine T.fF.F.Xy dG (λvs H Q E h=>?_) (λcdv A' outer s H vs Q E hr h=>?_)
 ·let⟨_,_,rfl,_⟩:=h;rfl
 ·let⟨t,out,rfl,tl,rt,kk,kx⟩:=h
  let sl:=yF;refine{_,(ag (b7 1 dG.nd (O3 T.RQ (CU T F) (hr.mono ∅) rfl T.QK T.Cb.b .nil AX))
   (ag (dH PassesOwn.leaving rfl (vF (by rfl) T.jU (ah (bK yJ yN yM jw (pv 0) (ah az ae)) ae)) (du (n:=2) rfl (aD (eN 2 dG.nd) (aD (eN 3 dG.nd) cG)))
   (ag (b7 4 dG.nd (cw (HY T) hr T.words_of (ah (pv 3) ae)))
    (aj (aL (ptr fq (dC ay T.bx (ah (pv 4) ae)) af)
    (ag (b7 5 dG.nd (cw (Ia T B) hr T.AK (ah (pv 4) ae)))
     (ag (b7 6 dG.nd (cw (Ig T B F) hr T.Bq (ah (pv 1) (ah (dF (pv 4) af) (ah (pv 5) ae)))))
     (ag (aL (bL (fB (pv 6)))
     (aj (MU (O2 T.dM (sL T) (hr.mono ∅) rfl T.vX T.o7.b AX (ah (pv 2) (ah (pv 6) ae)))))
     aA)
     (aj (bX (cw (Km T F) hr T.Gs (ah (pv 1) (ah (dF (pv 4) af) (ah (pv 5) ae)))))))))
    aA))))
   (aj (ax (pv 1))))),?_}
  ac_rfl;intro a dx na ndx ne;refine{a,dx,rfl,aE,λH1 o sc1 k1 fr1=>{rfl,?_}};let s1:aG H H1:=λb u hb=>k1 b u (by rw[aC (λz=>by rw[z,na] at hb;cases hb),aC (λz=>by rw[z,ndx] at hb;cases hb)];exact hb) (λz=>by rw[z,na] at hb;cases hb);let f1:∀x∈own a o,H x=none:=λx hx=>by
   rcases fr1 x hx with z | z
   ·rw[z];exact na
   ·cases q:H x with
    | none=>rfl
    | some u=>
     rw[aC (λy=>by rw[y,na] at q;cases q),aC (λy=>by rw[y,ndx] at q;cases q),q] at z;cases z
  exists tl,λl nl=>?_;let s2:aG H1 (upd H1 l (.lst ((Txt.split t "\n").map V.str))):=bF nl;let h2:upd H1 l (.lst ((Txt.split t "\n").map V.str)) l=some (.lst ((Txt.split t "\n").map V.str)):=aE;generalize upd H1 l (.lst ((Txt.split t "\n").map V.str))=H2 at s2 h2 ⊢;generalize hrows:Txt.split t "\n"= rows at rt h2;exists l,_,rfl,ak h2,?_;refine qY (K:=K) (a:=l) (xs:=rows.map V.str) (λi σ H'=>∃S' o',RX S' i (rows.drop i) out/\cm T.jX H' a S' o'/\H' l=some (.lst (rows.map V.str))/\l∉own a o'/\aG H H'/\(∀x∈own a o',H x=none)/\∃u2 u3 u4 u5 u6,σ=[some (.str t),some (.ref a),u2,u3,u4,u5,u6])
   {{},o,rt,sc1.mono s2,h2,Fs sc1 nl,s1.trans s2,f1,none,none,none,none,none,rfl} (λi σ H' _ h=>by let⟨_,_,_,_,h,_⟩:=h;exact ak h) ?_ ?_
  ·intro i x σ H3 p H4 hx hh s34 hp4
   refine eD λN kN0 kR0 _ _=>?_;let⟨S',o',rt',sc3,hl3,nl3,s3,f3,u2,u3,u4,u5,u6,rfl⟩:=hh;rw[zL] at hx;cases qr:rows[i]? with
   | none=>rw[qr] at hx;cases hx
   | some r=>
   rw[qr] at hx;simp only[xn,xN] at hx;subst hx;let ed:rows.drop i=r::rows.drop (i+1):=by
    let hi:=(zA.mp qr).1;rw[List.drop_eq_getElem_cons hi];have:=(zA.mp qr).2;rw[this]
   rw[ed] at rt';let s4:=s3.trans s34;let sc4:=sc3.mono s34;cases rt' with
   | blank rl rw0 rt''=>
    refine{p,_,rfl,bC hp4,rfl,?_};refine{_,_,rfl,{_,_,rfl,{rfl,?_}}};exists rl,λp5 H5 s5 h5=>?_;rw[rw0] at h5;exists p5,_,rfl,.inl (ak h5),?_;left;let s05:=s4.trans s5;exact{S',o',rt'',sc4.mono s5,s5 _ _ (s34 _ _ hl3),nl3,s05,f3,_,_,_,_,_,rfl}
   | @row _ _ _ t' _ _ rl rw0 tok wl ws6 fn fit hd sz rt''=>
    let⟨ws,ew⟩:=DG t';refine{p,_,rfl,bC hp4,rfl,?_};refine{_,_,rfl,{_,_,rfl,{rfl,?_}}};exists rl,λp5 H5 s5 h5=>?_;rw[rw0] at h5;let h5':=h5;rw[ew] at h5;let sc5:=sc4.mono s5;let hl5:=s5 _ _ (s34 _ _ hl3);exists p5,_,rfl,.inl (ak h5),?_;rw[zd,zw];left;refine cz (zh ()) ?_;left;let wl':⇑ws<=999999:=by rw[ew,zw] at wl;ext
    refine{p5,mV t',ws,rfl,ak h5,wl',by rw[<-ew];exact ws6,λv H6 s6 tv=>?_};rw[<-ew,AN tok] at tv;let sc6:=sc5.mono s6;exists p5,_,0,_,rfl,rfl,ak (s6 _ _ h5),bz (j:=0) rfl,?_;exists a,S',o',mV t',v,H5,some t',rfl,sc6,tv,λt2 e2=>by cases e2;exact{(rfl),fit},λH7 s7=>?_
    rw[show KI S' (some t')=aX S' t' from rfl,fn];exists p5,_,0,_,rfl,rfl,ak (s7 _ _ (s6 _ _ h5)),bz (j:=0) rfl,?_;exists a,S',o',v,H5,t',rfl,sc5,s6.trans s7,MD s7 tv,fn,hd,sz,λH8 o8 sc8 el8 fr8=>?_;let s07:=((s4.trans s5).trans s6).trans s7;left;refine{bR S' t',o8,rt'',sc8,el8 _ _ nl3 (s7 _ _ (s6 _ _ hl5)),λz=>?_,λb u hb=>el8 _ _ (λz=>by rw[f3 b z] at hb;cases hb) (s07 _ _ hb),λx hx=>?_,_,_,_,_,_,rfl}
    ·rcases fr8 l z with y | y
     ·exact nl3 y
     ·rw[hl5] at y;cases y
    ·rcases fr8 x hx with y | y
     ·exact f3 x y
     ·exact(s4.trans s5).back y
   | @bad _ _ _ x w' ws _ rl rw0 wl ws6 fit fn=>
    refine{p,_,rfl,bC hp4,rfl,?_};refine{_,_,rfl,{_,_,rfl,{rfl,?_}}};exists rl,λp5 H5 s5 h5=>?_;rw[rw0] at h5;let sc5:=sc4.mono s5;exists p5,_,rfl,.inl (ak h5),?_;rw[zd,zw];left;refine cz (zh ()) ?_;exists p5,x,ws,rfl,ak h5,wl,ws6,λv H6 s6 tv=>?_;let sc6:=sc5.mono s6;exists p5,_,0,_,rfl,rfl,ak (s6 _ _ h5),bz (j:=0) rfl,?_;exists a,S',o',x,v,H5,_,rfl,sc6,tv,fit,λH7 s7=>?_;rw[fn];left;let s07:=((s4.trans s5).trans s6).trans s7;refine{by show 2<=sizeLine;ext,λy ny=>?_};refine{y,_,_,rfl,aE,λdx H8 nd na h8 hd8 k8=>{rfl,?_}};refine{y,_,dx,rfl,h8,?_,{_,_,T.dM},?_}
    ·exact s07.back ny
    ·let nd7:H7 dx=none:=by rw[<-nd,aC na]
     refine kx _ _ rfl dx _ (λb u hb=>?_) (by rw[pK na];exact hd8);let hb7:=s07 _ _ hb;let n1:b≠y:=λz=>by rw[z,ny] at hb7;cases hb7
     let n2:b≠dx:=λz=>by rw[z,nd7] at hb7;cases hb7
     rw[pK n1,k8 b n1 n2,aC n1];exact hb7
  ·rintro σ H3 ⟨S',o',rt',sc3,hl3,nl3,s3,f3,u2,u3,u4,u5,u6,rfl⟩
   rw[zd,List.drop_length] at rt';cases rt';change kk _ rfl a o' H3 sc3 s3 f3
theorem Runs.app:∀{a b:List Told} {S S1 S2:bO},Runs S a S1->Runs S1 b S2->Runs S (a++b) S2
 | [],_,_,_,_,h,k=>by
  let e:_=_:=h;subst e;exact k
 | _::_,_,_,_,_,⟨h1,h2,h3,h4,h5⟩,k=>{h1,h2,h3,h4,Runs.app h5 k}
theorem kT:∀{l:List Str} {S:bO},(S.au++l).Nodup->⇑(S.au++l)<=12->oQ S->rH S->Runs S (l.map .bA) {S with au:=S.au++l}
 | [],S,_,_,_,_=>by
  show S=_;rw[zW]
 | n::r,S,nd,hl,hd,sz=>by
  let nd':=nd;rw[zU] at nd';rw[zj,zw] at hl;refine{?_,trivial,hd,sz,?_}
  ·unfold aX
   dsimp only;rw[yQ (λz=>nd'.2.2 n z n zt rfl),yQ ()]
  ·let ih:=kT (l:=r) (S:=bR S (.bA n)) (by show(S.au++[n]++r).Nodup;rw[zG];exact nd) (by show(S.au++[n]++r).length<=12;simp only[zj,zw,xo];ext) hd {by show(S.au++[n]).length<=1000000;rw[zj];simp;ext,sz.2}
   let e:({bR S (.bA n) with au:=(bR S (.bA n)).au++r}:bO)={S with au:=S.au++n::r}:=by
    show({S with au:=S.au++[n]++r}:bO)=_;rw[zG];rfl
   rw[e] at ih;exact ih
theorem AE:∀{l:List (Str×(Int×Int)×(Int×Int))} {S:bO},((S.aq++l).map (·.1)).Nodup->⇑(S.aq++l)<=12->oQ S->rH S->Runs S (l.map λx=>.cg x.1 x.2.1 x.2.2) {S with aq:=S.aq++l}
 | [],S,_,_,_,_=>by
  show S=_;rw[zW]
 | n::r,S,nd,hl,hd,sz=>by
  let nd':=nd;rw[zm,zU] at nd';rw[zj,zw] at hl;refine{?_,trivial,hd,sz,?_}
  ·unfold aX
   dsimp only;rw[yQ (λz=>nd'.2.2 n.1 z n.1 (by rw[zk];exact zt) rfl),yQ ()]
  ·let ih:=AE (l:=r) (S:=bR S (.cg n.1 n.2.1 n.2.2)) (by show((S.aq++[n]++r).map _).Nodup;rw[zG];exact nd) (by show(S.aq++[n]++r).length<=12;simp only[zj,zw,xo];ext) hd {sz.1,by show(S.aq++[n]).length<=1000000;rw[zj];simp;ext,sz.2.2}
   let e:({bR S (.cg n.1 n.2.1 n.2.2) with aq:=(bR S (.cg n.1 n.2.1 n.2.2)).aq++r}:bO)={S with aq:=S.aq++n::r}:=by
    show({S with aq:=S.aq++[n]++r}:bO)=_;rw[zG];rfl
   rw[e] at ih;exact ih
theorem DL:∀{l:List Sc.N1} {S:bO},⇑(S.aR++l)<=200->oQ S->rH S->Runs S (l.map .bar) {S with aR:=S.aR++l}
 | [],S,_,_,_=>by
  show S=_;rw[zW]
 | n::r,S,hl,hd,sz=>by
  rw[zj,zw] at hl;refine{?_,trivial,hd,sz,?_}
  ·unfold aX
   dsimp only;rw[yQ ()]
  ·let ih:=DL (l:=r) (S:=bR S (.bar n)) (by show(S.aR++[n]++r).length<=200;simp only[zj,zw,xo];ext) hd {sz.1,sz.2.1,sz.2.2.1,by show(S.aR++[n]).length<=1000000;rw[zj];simp;ext,sz.2.2.2.2}
   let e:({bR S (.bar n) with aR:=(bR S (.bar n)).aR++r}:bO)={S with aR:=S.aR++n::r}:=by
    show({S with aR:=S.aR++[n]++r}:bO)=_;rw[zG];rfl
   rw[e] at ih;exact ih
theorem AD:∀{l:List ((Int×Str)×List Item)} {S:bO},((S.aJ++l).map (·.1)).Nodup->⇑(S.aJ++l)<=1000000->Sj S->(∀x∈l,0<=x.1.1/\x.1.1<⇑S.aR/\x.1.2∈S.au/\⇑x.2<=40/\(∀it∈x.2,Ey it.2)/\j8 x.2=S.len x.1.1.toNat)->oQ S->rH S->Runs S (l.map λx=>.aJ x.1.1 x.1.2 x.2) {S with aJ:=S.aJ++l}
 | [],S,_,_,_,_,_,_=>by
  show S=_;rw[zW]
 | n::r,S,nd,hl,lu,hx,hd,sz=>by
  let nd':=nd;rw[zm,zU] at nd';rw[zj,zw] at hl;let⟨b0,b1,pin,il,iok,isum⟩:=hx n zt;refine{?_,{(b0),(),iok,lu},hd,sz,?_}
  ·unfold aX
   dsimp only;rw[yQ (λz=>nd'.2.2 n.1 z n.1 (by rw[zk];exact zt) rfl),yQ (λz=>z pin),yQ,yQ (λz=>z isum),yQ ()];intro z;apply z;unfold bO.has;simp[b1]
  ·let ih:=AD (l:=r) (S:=bR S (.aJ n.1.1 n.1.2 n.2)) (by show((S.aJ++[n]++r).map _).Nodup;rw[zG];exact nd) (by show(S.aJ++[n]++r).length<=1000000;simp only[zj,zw,xo];ext) lu (λx h=>hx x (zr _ h)) hd {sz.1,sz.2.1,sz.2.2.1,sz.2.2.2.1,by show(S.aJ++[n]).length<=1000000;rw[zj];simp;ext,sz.2.2.2.2.2}
   let e:({bR S (.aJ n.1.1 n.1.2 n.2) with aJ:=(bR S (.aJ n.1.1 n.1.2 n.2)).aJ++r}:bO)={S with aJ:=S.aJ++n::r}:=by
    show({S with aJ:=S.aJ++[n]++r}:bO)=_;rw[zG];rfl
   rw[e] at ih;exact ih
def HC {S:bO} {u:Int×Int} (hn:S.aH=none) (hb:⇑S.aR≠0) (hs:u.1*(S.bg 0).2<(S.bg 0).1*u.2) (no:S.aJ=[]) (zu:Ca 8999 u) (lu:Sj S) (hd:oQ S) (sz:rH S):Runs S [.aH u] {S with aH:=some u}:=by
 refine{?_,{zu,lu,by rw[no];exact yg _},hd,sz,rfl};unfold aX;dsimp only;rw[yQ (by rw[hn];simp),yQ hb,yQ (λz=>z hs),yQ (by rw[no];simp)]
theorem tN:∀{l:List (Str×List Str)} {S:bO},((S.aP++l).map (·.1)).Nodup->((S.aP++l).map (·.2)).flatten.Nodup->(∀x∈l,∀p∈x.2,p∈S.au)->(∀x∈l,⇑x.2<=1000)->⇑(S.aP++l)<=1000000->oQ S->rH S->Runs S (l.map λx=>.bE x.1 x.2) {S with aP:=S.aP++l}
 | [],S,_,_,_,_,_,_,_=>by
  show S=_;rw[zW]
 | n::r,S,nd,fd,pin,pl,hl,hd,sz=>by
  let nd':=nd;let fd':=fd;rw[zm,zU] at nd';rw[zm,xg,zk,ya,zU] at fd';rw[zj,zw] at hl;refine{?_,pl n zt,hd,sz,?_}
  ·unfold aX
   dsimp only;let pn:n.2.Nodup:=(zU.mp fd'.2.1).1;let p2:¬(S.aP.any λq=>n.2.any λp=>decide (p∈q.2))=true:=λz=>by
    let⟨q,hq,z⟩:=yr.mp z;let⟨p,hp,z⟩:=yr.mp z;exact fd'.2.2 p (wm.mpr {q.2,zQ (f:=λx:Str×List Str=>x.2) hq,ye z}) p (zK _ hp) rfl
   let p3:¬(n.2.any λp=>!decide (p∈S.au))=true:=λz=>by
    let⟨p,hp,z⟩:=yr.mp z;rw[zh (pin n zt p hp)] at z;cases z
   rw[yQ (λz=>nd'.2.2 n.1 z n.1 (by rw[zk];exact zt) rfl),yQ (λz=>z pn),yQ p2,yQ p3]
  ·let ih:=tN (l:=r) (S:=bR S (.bE n.1 n.2)) (by show((S.aP++[n]++r).map _).Nodup;rw[zG];exact nd) (by show((S.aP++[n]++r).map _).flatten.Nodup;rw[zG];exact fd) (λx h=>pin x (zr _ h)) (λx h=>pl x (zr _ h)) (by show(S.aP++[n]++r).length<=1000000;simp only[zj,zw,xo];ext) hd {sz.1,sz.2.1,by show(S.aP++[n]).length<=1000000;rw[zj];simp;ext,sz.2.2.2}
   let e:({bR S (.bE n.1 n.2) with aP:=(bR S (.bE n.1 n.2)).aP++r}:bO)={S with aP:=S.aP++n::r}:=by
    show({S with aP:=S.aP++[n]++r}:bO)=_;rw[zG];rfl
   rw[e] at ih;exact ih
def Be {base:List (Str×List (Int×Str))} {p:Str} (h:p∉base.map (·.1)):base.lookup p=none:=by
 induction base with
 | nil=>rfl
 | cons x r ih=>
  rw[zk,zE,not_or] at h;rw[yu,show(p == x.1)=false from by simp;exact h.1];exact ih h.2
def M5 {base:List (Str×List (Int×Str))} {p:Str} {acc:List (Int×Str)} (h:p∉base.map (·.1)):(base++[(p,acc)]).lookup p=some acc:=by
 induction base with
 | nil=>rw[List.nil_append,yu,wk]
 | cons x r ih=>
  rw[zk,zE,not_or] at h;rw[wQ,yu,show(p == x.1)=false from by simp;exact h.1];exact ih h.2
def Qm {base:List (Str×List (Int×Str))} {p:Str} {acc:List (Int×Str)} {e:Int×Str} (h:p∉base.map (·.1)):e9 (base++[(p,acc)]) p e=base++[(p,acc++[e])]:=by
 unfold e9;rw[yR (by rw[zm];exact zJ _ (zB.mpr rfl)),zm];let er:(base.map λq:Str×List (Int×Str)=>if q.1=p then(q.1,q.2++[e]) else q)=base:=by
  conv=>rhs;rw[<-List.map_id base]
  refine xy λq hq=>?_;rw[yQ (λz=>h (by rw[<-z];exact zQ (f:=λx:Str×List (Int×Str)=>x.1) hq))];rfl
 rw[er];simp
def Ed {S:bO} {p:Str} {acc:List (Int×Str)} {h:Int×Str} (hl:(S.holds.lookup p).getD []=acc) (asc:∀a∈acc,a.1<h.1) (al:⇑acc<20) (hp:p∈S.au) (hb:h.1<⇑S.aR) (hi:h.2∈S.aq.map (·.1)):aX S (.holds p h.1 h.2)=none:=by
 unfold aX;dsimp only;rw[hl];let c1:¬(match acc.getLast? with | some q=>decide (h.1<=q.1) | none=>false)=true:=by
  cases q:acc.getLast? with
  | none=>simp
  | some x=>
   have:=asc x (wX q);simp;exact this
 rw[yQ (by
  cases q:acc.getLast? with
  | none=>simp
  | some x=>
   have:=asc x (wX q);simp;exact this),yQ (λz=>z hp),yQ (λz=>z hi),yQ (λz=>z (by unfold bO.has;simp[hb])),yQ ()]
theorem HD {p:Str} {base:List (Str×List (Int×Str))} (nb:p∉base.map (·.1)) (nd:(base.map (·.1)).Nodup) (bl:⇑base<=999999) (bb:∀q∈base,⇑q.2<=1000000):∀{row acc:List (Int×Str)} {S:bO},S.holds=base++[(p,acc)]->((acc++row).map (·.1)).Pairwise (·<·)->⇑(acc++row)<=20->p∈S.au->
  (∀h∈row,h.1<⇑S.aR/\h.2∈S.aq.map (·.1))->rH S->Runs S (row.map λh=>.holds p h.1 h.2) {S with holds:=base++[(p,acc++row)]}
 | [],acc,S,eS,_,_,_,_,_=>by
  show S=_;rw[zW,<-eS]
 | h::r,acc,S,eS,asc,al,hp,hx,sz=>by
  let⟨hb,hi⟩:=hx h zt;let asc':=asc;rw[zm,zV] at asc';rw[zj,zw] at al;let hd:oQ S:=by
   refine{?_,?_,?_}
   ·rw[eS,zm,zU]
    exact{nd,by simp,λx hx y hy e=>by simp at hy;subst hy;subst e;exact nb hx}
   ·rw[eS,zj];simp;ext
   ·intro q hq
    rw[eS] at hq;rcases zH.mp hq with z | z
    ·exact bb q z
    ·rw[zB.mp z];show ⇑acc<=1000000;ext
  refine{Ed (acc:=acc) (by rw[eS,M5 nb];rfl) (λa ha=>asc'.2.2 a.1 (zQ (f:=λx:Int×Str=>x.1) ha) h.1 (by rw[zk];exact zt)) () hp hb hi,trivial,hd,sz,?_};let ih:=HD nb nd bl bb (row:=r) (acc:=acc++[h]) (S:=bR S (.holds p h.1 h.2)) (by show e9 S.holds p (h.1,h.2)=_;rw[eS,Qm nb]) (by rw[zG];exact asc) (by simp only[zj,zw,xo];ext) hp (λx hx'=>hx x (zr _ hx')) sz;let e:({bR S (.holds p h.1 h.2) with holds:=base++[(p,acc++[h]++r)]}:bO)={S with holds:=base++[(p,acc++h::r)]}:=by
   show({S with holds:=base++[(p,acc++[h]++r)]}:bO)=_;rw[zG];rfl
  rw[e] at ih;exact ih
theorem AF:∀{l:List (Str×List (Int×Str))} {S:bO},((S.holds++l).map (·.1)).Nodup->⇑(S.holds++l)<=999999->(∀x∈l,x.2≠[]/\⇑x.2<=20/\(x.2.map (·.1)).Pairwise (·<·)/\x.1∈S.au/\∀h∈x.2,h.1<⇑S.aR/\h.2∈S.aq.map (·.1))->oQ S->rH S->
  Runs S (l.map λx=>x.2.map λh=>Told.holds x.1 h.1 h.2).flatten {S with holds:=S.holds++l}
 | [],S,_,_,_,_,_=>by
  show S=_;rw[zW]
 | x::r,S,nd,hl,hx,hd,sz=>by
  let⟨ne,xl,asc,hp,hh⟩:=hx x zt;let⟨h,t,et⟩:=List.exists_cons_of_ne_nil ne;let nd':=nd;rw[zm,zU] at nd';let nb:x.1∉S.holds.map (·.1):=λz=>nd'.2.2 x.1 z x.1 (by rw[zk];exact zt) rfl;rw[zj,zw] at hl;rw[zk,ya];refine Runs.app (S1:={S with holds:=S.holds++[x]}) ?_ ?_
  ·rw[et] at xl asc hh ⊢
   let⟨hb,hi⟩:=hh h zt;refine{Ed (acc:=[]) (by rw[Be nb];rfl) (by simp) (by simp) hp hb hi,trivial,hd,sz,?_};let ea:bR S (.holds x.1 h.1 h.2)={S with holds:=S.holds++[(x.1,[h])]}:=by
    show({S with holds:=e9 S.holds x.1 (h.1,h.2)}:bO)=_;unfold e9;rw[yQ nb]
   rw[ea];let rr:=HD (p:=x.1) nb hd.1 () hd.2.2 (row:=t) (acc:=[h]) (S:={S with holds:=S.holds++[(x.1,[h])]}) rfl asc xl hp (λy hy=>hh y (zr _ hy)) sz;let ex:x=(x.1,[h]++t):=by rw[List.singleton_append,<-et]
   let e2:({({S with holds:=S.holds++[(x.1,[h])]}:bO) with holds:=S.holds++[(x.1,[h]++t)]}:bO)={S with holds:=S.holds++[x]}:=by rw[<-ex]
   rw[e2] at rr;exact rr
  ·let ih:=AF (l:=r) (S:={S with holds:=S.holds++[x]}) (by show((S.holds++[x]++r).map _).Nodup;rw[zG];exact nd) (by show(S.holds++[x]++r).length<=999999;simp only[zj,zw,xo];ext) (λy hy=>hx y (zr _ hy)) ?_ sz
   ·let e:({({S with holds:=S.holds++[x]}:bO) with holds:=S.holds++[x]++r}:bO)={S with holds:=S.holds++x::r}:=by rw[zG];rfl
    exact e▸ih
   ·refine{?_,?_,?_}
    ·show((S.holds++[x]).map _).Nodup
     have:=List.Nodup.sublist (List.Sublist.map (λx:Str×List (Int×Str)=>x.1) (List.Sublist.append (List.Sublist.refl S.holds) (List.singleton_sublist.mpr zt))) nd;exact this
    ·show(S.holds++[x]).length<=1000000
     rw[zj];simp;ext
    ·intro q hq
     let hq':q∈S.holds++[x]:=hq;rcases zH.mp hq' with z | z
     ·exact hd.2.2 q z
     ·rw[zB.mp z];ext
def vR (n:Nat):List Rep->List Rep->Prop
 | _,[]=>True
 | rs,r::l=>(∀b∈[r.first,r.last]++r.ends.map (·.1),b<(n:Int))/\kU rs r=true/\(GK r.ends<64/\⇑r.ends<=1000/\-1000000<=r.times/\r.times<=1000000)/\vR n (rs++[r]) l
def PQ {S:bO} {bs:List Int} (h:∀b∈bs,b<(⇑S.aR:Int)):S.has bs=true:=yt.mpr λb hb=>zh (h b hb)
theorem DK:∀{l:List Rep} {S:bO},S.bP=none->vR ⇑S.aR S.aN l->⇑(S.aN++l)<=20->oQ S->rH S->Runs S (l.map .rep) {S with aN:=S.aN++l}
 | [],S,_,_,_,_,_=>by
  show S=_;rw[zW]
 | r::l,S,nj,⟨h1,h2,h3,h4⟩,hl,hd,sz=>by
  rw[zj,zw] at hl;refine{?_,h3,hd,sz,?_}
  ·unfold aX
   dsimp only;rw[yQ (λz=>z (PQ h1)),yQ (by rw[nj];simp),yQ (λz=>z h2),yQ ()]
  ·let ih:=DK (l:=l) (S:=bR S (.rep r)) nj h4 (by show(S.aN++[r]++l).length<=20;simp only[zj,zw,xo];ext) hd {sz.1,sz.2.1,sz.2.2.1,sz.2.2.2.1,sz.2.2.2.2.1,by show(S.aN++[r]).length<=1000000;rw[zj];simp;ext}
   let e:({bR S (.rep r) with aN:=(bR S (.rep r)).aN++l}:bO)={S with aN:=S.aN++r::l}:=by
    show({S with aN:=S.aN++[r]++l}:bO)=_;rw[zG];rfl
   rw[e] at ih;exact ih
def MO {S:bO} {j:Jump} (nj:S.bP=none) (hb:∀b∈[j.vJ,j.Cd,j.dw]++j.ik.toList,b<(⇑S.aR:Int)) (hf:gU S.aN j=true) (ro:GD S) (hd:oQ S) (sz:rH S):Runs S [.bP j] {S with bP:=some j}:=by
 refine{?_,ro,hd,sz,rfl};unfold aX;dsimp only;rw[yQ (by rw[nj];simp),yQ (λz=>z (PQ hb)),yQ (λz=>z hf)]
structure Xc (S:bO):Prop where
 pn:S.au.Nodup
 pl:⇑S.au<=12
 XH:(S.aq.map (·.1)).Nodup
 il:⇑S.aq<=12
 sn:(S.aP.map (·.1)).Nodup
 sf:(S.aP.map (·.2)).flatten.Nodup
 sp:∀x∈S.aP,∀p∈x.2,p∈S.au
 sl:∀x∈S.aP,⇑x.2<=1000
 sc:⇑S.aP<=1000000
 bl:⇑S.aR<=200
 lu:Sj S
 up:∀u,S.aH=some u->⇑S.aR≠0/\u.1*(S.bg 0).2<(S.bg 0).1*u.2/\Ca 8999 u
 hn:(S.holds.map (·.1)).Nodup
 hl:⇑S.holds<=999999
 hx:∀x∈S.holds,x.2≠[]/\⇑x.2<=20/\(x.2.map (·.1)).Pairwise (·<·)/\x.1∈S.au/\∀h∈x.2,h.1<⇑S.aR/\h.2∈S.aq.map (·.1)
 nn:(S.aJ.map (·.1)).Nodup
 nl:⇑S.aJ<=1000000
 nx:∀x∈S.aJ,0<=x.1.1/\x.1.1<⇑S.aR/\x.1.2∈S.au/\⇑x.2<=40/\(∀it∈x.2,Ey it.2)/\j8 x.2=S.len x.1.1.toNat
 rf:vR ⇑S.aR [] S.aN
 rl:⇑S.aN<=20
 ro:GD S
 ju:∀j,S.bP=some j->(∀b∈[j.vJ,j.Cd,j.dw]++j.ik.toList,b<(⇑S.aR:Int))/\gU S.aN j=true
def HE {S:bO} (V:Xc S):Runs {} (cC S) S:=by
 let hd0:∀T:bO,T.holds=[]->oQ T:=λT e=>by
  refine{by rw[e];exact x8,by rw[e];exact yg _,λq hq=>by rw[e] at hq;cases hq}
 let hdS:∀T:bO,T.holds=S.holds->oQ T:=λT e=>by
  refine{by rw[e];exact V.hn,by rw[e];have:=V.hl;ext,λq hq=>?_};rw[e] at hq;have:=(V.hx q hq).2.1;ext
 let b1:=V.pl;let b2:=V.il;let b3:=V.sc;let b4:=V.bl;let b5:=V.nl;let b6:=V.rl;let szP:∀T:bO,(T.au=[]\/T.au=S.au)->(T.aq=[]\/T.aq=S.aq)->(T.aP=[]\/T.aP=S.aP)->(T.aR=[]\/T.aR=S.aR)->(T.aJ=[]\/T.aJ=S.aJ)->(T.aN=[]\/T.aN=S.aN)->rH T:=λT q1 q2 q3 q4 q5 q6=>by
  refine{?_,?_,?_,?_,?_,?_}
  ·rcases q1 with e | e <;> rw[e] <;> first | exact yg _ | ext
  ·rcases q2 with e | e <;> rw[e] <;> first | exact yg _ | ext
  ·rcases q3 with e | e <;> rw[e] <;> first | exact yg _ | ext
  ·rcases q4 with e | e <;> rw[e] <;> first | exact yg _ | ext
  ·rcases q5 with e | e <;> rw[e] <;> first | exact yg _ | ext
  ·rcases q6 with e | e <;> rw[e] <;> first | exact yg _ | ext
 let r1:=kT (l:=S.au) (S:={}) V.pn b1 (hd0 _ rfl) (szP _ (.inl rfl) (.inl rfl) (.inl rfl) (.inl rfl) (.inl rfl) (.inl rfl));let r2:=AE (l:=S.aq) (S:={au:=S.au}) V.XH b2 (hd0 _ rfl) (szP _ (.inr rfl) (.inl rfl) (.inl rfl) (.inl rfl) (.inl rfl) (.inl rfl));let r3:=tN (l:=S.aP) (S:={au:=S.au,aq:=S.aq}) V.sn V.sf V.sp V.sl b3 (hd0 _ rfl) (szP _ (.inr rfl) (.inr rfl) (.inl rfl) (.inl rfl) (.inl rfl) (.inl rfl));let r4:=DL (l:=S.aR) (S:={au:=S.au,aq:=S.aq,aP:=S.aP}) b4 (hd0 _ rfl) (szP _ (.inr rfl) (.inr rfl) (.inr rfl) (.inl rfl) (.inl rfl) (.inl rfl));let r5:Runs {au:=S.au,aq:=S.aq,aP:=S.aP,aR:=S.aR} (S.aH.toList.map .aH) {au:=S.au,aq:=S.aq,aP:=S.aP,aR:=S.aR,aH:=S.aH}:=by
  cases q:S.aH with
  | none=>exact rfl
  | some u=>
   let⟨u1,u2,u3⟩:=V.up u q;exact HC (S:={au:=S.au,aq:=S.aq,aP:=S.aP,aR:=S.aR}) rfl u1 u2 rfl u3 V.lu (hd0 _ rfl) (szP _ (.inr rfl) (.inr rfl) (.inr rfl) (.inr rfl) (.inl rfl) (.inl rfl))
 let r6:=AF (l:=S.holds) (S:={au:=S.au,aq:=S.aq,aP:=S.aP,aR:=S.aR,aH:=S.aH}) V.hn V.hl V.hx (hd0 _ rfl) (szP _ (.inr rfl) (.inr rfl) (.inr rfl) (.inr rfl) (.inl rfl) (.inl rfl));let r7:=AD (l:=S.aJ) (S:={au:=S.au,aq:=S.aq,aP:=S.aP,aR:=S.aR,aH:=S.aH,holds:=S.holds}) V.nn b5 V.lu V.nx (hdS _ rfl) (szP _ (.inr rfl) (.inr rfl) (.inr rfl) (.inr rfl) (.inl rfl) (.inl rfl));let r8:=DK (l:=S.aN) (S:={au:=S.au,aq:=S.aq,aP:=S.aP,aR:=S.aR,aH:=S.aH,holds:=S.holds,aJ:=S.aJ}) rfl V.rf b6 (hdS _ rfl) (szP _ (.inr rfl) (.inr rfl) (.inr rfl) (.inr rfl) (.inr rfl) (.inl rfl));let r9:Runs {au:=S.au,aq:=S.aq,aP:=S.aP,aR:=S.aR,aH:=S.aH,holds:=S.holds,aJ:=S.aJ,aN:=S.aN} (S.bP.toList.map .bP) S:=by
  let⟨s1,s2,s3,s4,s5,s6,s7,s8,s9⟩:=S;cases s9 with
  | none=>exact rfl
  | some j=>
   let⟨j1,j2⟩:=V.ju j rfl;exact MO (S:={au:=s1,aq:=s2,aP:=s3,aR:=s4,aH:=s5,holds:=s6,aJ:=s7,aN:=s8}) rfl j1 j2 V.ro (hdS _ rfl) (szP _ (.inr rfl) (.inr rfl) (.inr rfl) (.inr rfl) (.inr rfl) (.inr rfl))
 exact Runs.app (Runs.app (Runs.app (Runs.app (Runs.app (Runs.app (Runs.app r1 r2) r3) r4) r5) r6) r7) (Runs.app r8 r9)
inductive uw (K:yE) (vs:List V) (H:Hp) (Q:VK) (E:XK):Prop
 | mk (a:vw) (ns:List Int) (k:Int) (_:vs=[.ref a,.int k]) (_:fM K H a (ns.map V.int)) (_:0<=k) (_:⇑ns<=1000) (_:∀c:Int,Q (.int c) H)
def cV:dz P w base 1 T.dg (uw K):=by
 nomatch T.dg,["_law_script","_law_k"]
 let⟨a,ns,k,rfl,hS,h0,hl,kk⟩:=h;refine{_,(ag (aL (ptr fo (pv 1) (dC ay T.bx (ah (pv 0) ae)))
  (aj (ax (dF (pv 0) (pv 1))))
  aA)
  (aj (ax af))),?_}
 exists a,_,rfl,.inl hS,?_;left;refine uN (λc1=>?_) (λc1=>?_)
 ·let c2:=ye c1
  rw[zd] at c2;change{a,_,_,_,rfl,rfl,hS,Qj h0 c2,kk _}
 ·left
  exact kk _
def NR (n:Str):Prop:=∃c∈n.cps.toList,97<=c
def OK {c m:Nat} (hc:97<=c):∀n∈(List.range m).map (λk=>fm {#[c]} (m-k)),NR n:=λn hn=>by
 let⟨k,hk,rfl⟩:=zI.mp hn;have:=yU.mp hk;refine{c,?_,hc};rw[fU];exact wm.mpr {[c],List.mem_replicate.mpr {(()),rfl},zB.mpr rfl}
def MI {a b:Str} {f:Nat->Nat} {l:List Nat}:∀n∈l.map (λk=>a++{#[97+f k]}++b),NR n:=λn hn=>by
 let⟨k,hk,rfl⟩:=zI.mp hn;refine{97+f k,?_,()};rw[bD,bD];simp
inductive rV (vs:List V) (H:Hp) (Q:VK) (E:XK):Prop
 | mk (c m:Int) (_:vs=[.int c,.int m]) (_:0<=c) (_:c<1099511627776) (_:0<=m) (_:m<=12) (_:∀(ns:List Str) p H',(⇑ns=m.toNat/\∀n∈ns,NR n)->JC ns->aG H H'->H' p=some (.lst (ns.map V.str))->Q (.ref p) H')
def ky:dz P w base 1 T.gN rV:=by
 nomatch T.gN,["_law_cell","_law_many","_law_letters","_law_first","_law_size","_law_place","_law_stem"]
 let⟨c,m,rfl,c0,c1,m0,m1,kk⟩:=h;let sl:=yF;refine{_,(ag (b7 2 qN az)
  (ag (b7 3 qN (ao aQ (ao aS (pv 0) af) af))
  (ag (aL (PW.pt (dr (ptr cS (ao aQ (pv 0) af) af) (c9 (ptr fo (pv 1) af))))
  (aj (ax (og (ts:=["_law_k"]) (ys:=["_law_many","_law_letters","_law_first"]) (js:=[1,2,3]) (te:=(cP OR (cP Q7 (aW 2) (aW 3)) (cP (tO λi j=>.int (i-j)) (aW 1) (aW 0)))) (cQ (by rfl) T.dE (aa (pv 1) ae)) (gF 0) bG (ao vG (AS FN (pv 2) (pv 3) (λ_ _=>rfl)) (ao ly (pv 1) (pv 0))))))
  aA)
  (ag (b7 4 qN (ao aQ (ao aS (pv 0) af) af))
  (ag (b7 5 qN (ao aQ (ao aS (pv 0) af) (ao bw (pv 4) af)))
  (ag (b7 6 qN (bK yJ yL yK cK az (aa (og (ts:=["_law_k"]) (ys:=["_law_cell","_law_letters"]) (js:=[0,2]) (te:=(cP Q7 (cP (λx y H Q=>∃i j,x=.str i/\y=.str j/\⇑i+⇑j<=sizeLine/\Q (.str (i++j)) H) (aW 2) (tC (.str "0123456789"))) (cP (rI (λ_ j=>0<j) λi j=>.int (i%j)) (cP (tO λi j=>.int (i+j)) (cP (rI Dw λi j=>.int (i/j)) (aW 1) (tC (.int (16224)))) (cP (rI NV λi j=>.int (i*j)) (tC (.int (7))) (aW 0))) (tC (.int (36)))))) (cQ (by rfl) T.dE (aa (pv 4) ae)) (gF 0) bG (AS FN (ao aM (pv 2) az) (ao aQ (ao bw (ao aS (pv 1) af) (ao eE af (pv 0))) af) (λ_ _=>rfl))) ae)))
  (aj (ax (og (ts:=["_law_k"]) (ys:=["_law_letters","_law_first","_law_place","_law_stem"]) (js:=[2,3,5,6]) (te:=(cP (λx y H Q=>∃i j,x=.str i/\y=.str j/\⇑i+⇑j<=sizeLine/\Q (.str (i++j)) H) (cP (λx y H Q=>∃i j,x=.str i/\y=.str j/\⇑i+⇑j<=sizeLine/\Q (.str (i++j)) H) (Wi S6 (aW 4) EJ (Ol (aW 3))) (cP Q7 (aW 1) (cP (rI (λ_ j=>0<j) λi j=>.int (i%j)) (cP (tO λi j=>.int (i+j)) (aW 2) (cP (rI NV λi j=>.int (i*j)) (tC (.int (5))) (aW 0))) (tC (.int (26)))))) (Wi S6 (aW 4) (Ol (aW 3)) EJ))) (cQ (by rfl) T.dE (aa (pv 1) ae)) (gF 0) bG (ao aM (ao aM (dS JZ (pv 4) eX (eW (pv 3))) (AS FN (pv 1) (ao aQ (ao bw (pv 2) (ao eE af (pv 0))) af) (λ_ _=>rfl))) (dS JZ (pv 4) (eW (pv 3)) eX))))))))))),?_}
 ac_rfl;left
 by_cases q:c%4=0
 ·refine cz (by show decide (V.int (c%4)=V.int 0)=true;rw[q];rfl) ?_
  left;refine cz (zh ()) ?_;exists by ext,(),?_
  let f0:0<=c/4%26:=zy _ ∅;let f1:c/4%26<26:=zv _ ∅;refine jB (λk=>.str (fm {#[97+(c/4%26).toNat]} (m.toNat-k))) (λσ=>∃v,σ=[v,some (.int m),some (.str lets),some (.int (c/4%26))]) () {(none),rfl} ?_ ?_
  ·rintro k σ H4 R hk s4 ⟨_,rfl⟩ r
   exists lets,_,_,rfl,rfl,(by show 26<=sizeLine;ext),LQ f0 f1,?_;exists by ext,(),(by show 1<=1000;decide),?_
   refine r _ _ _ (aF _) ?_ {_,rfl};rw[show(m-(0+(k:Int))).toNat=m.toNat-k from by ext];exact fg
  ·intro D vs H4 s4 _ hD il
   let e:(List.range m.toNat).map (λk=>Dt.str (fm {#[97+(c/4%26).toNat]} (m.toNat-k)))=((List.range m.toNat).map λk=>fm {#[97+(c/4%26).toNat]} (m.toNat-k)).map Dt.str:=by rw[zC];rfl
   rw[e] at il;rw[dY il] at hD;exact kk _ D H4 {by rw[zd,zT],OK ()} (M3 () (Pw f0 f1)) s4 hD
 ·refine cD (by show decide (V.int (c%4)=V.int 0)=false;exact zg λz=>q (V.int.inj z)) ?_
  let f0:0<=c/4%26:=zy _ ∅;let f1:c/4%26<26:=zv _ ∅;let z0:0<=c/104%12:=zy _ ∅;let z1:c/104%12<12:=zv _ ∅;let y0:0<=c/1248%(c/104%12+1):=zy _ ();let y1:c/1248%(c/104%12+1)<c/104%12+1:=zv _ ();let x0:0<=c/16224:=zX c0 ∅;let x1:c/16224<=c:=zY _ c0;exists by show 0<c/104%12+1;ext,?_
  exists by ext,(),?_
  refine jB (λk=>.str {#[QW ((c/16224+7*(0+(k:Nat)))%36)]}) (λσ=>∃v,σ=[v,some (.int c),some (.str lets)]) () {(none),rfl} ?_ ?_
  ·rintro k σ H4 R hk s4 ⟨_,rfl⟩ r
   exists by show 26+10<=sizeLine;ext,?_
   left;let w0:0<=(c/16224+7*(0+(k:Int)))%36:=zy _ ∅;let w1:(c/16224+7*(0+(k:Int)))%36<36:=zv _ ∅;refine{lets ++"0123456789",_,_,rfl,rfl,by show 36<=sizeLine;ext,(OB w0 w1).1,?_};exact r _ _ _ (aF _) fg {_,rfl}
  ·intro D vs H4 s4 _ hD il
   let e:(List.range (c/104%12).toNat).map (λk:Nat=>Dt.str {#[QW ((c/16224+7*(0+(k:Nat)))%36)]})=(mQ c (c/104%12).toNat).map Dt.str:=by unfold mQ;rw[zC];rfl
   rw[e] at il;rw[dY il] at hD;refine{"",D,mQ c (c/104%12).toNat,rfl,rfl,ak hD,by rw[Ou];ext,?_};exists by ext,(),?_
   let sln:=Ox c (c/104%12).toNat;let ssg:=Ov (c:=c) (n:=(c/104%12).toNat);generalize hst:Str.join "" (mQ c (c/104%12).toNat)=stem at sln ssg;obtain⟨pn,hpn⟩:∃n:Nat,c/1248%(c/104%12+1)=(n:Int):={(c/1248%(c/104%12+1)).toNat,()}
   obtain⟨fn,hfn⟩:∃n:Nat,c/4%26=(n:Int):={(c/4%26).toNat,()}
   let pb:pn<=⇑stem:=()
   let l1:⇑(Txt.slice stem none (some (pn:Int)))<=11:=by
    rw[<-show _=⇑(Txt.slice stem none (some (pn:Int))) from yT,Hk stem pb,zR];ext
   let l2:⇑(Txt.slice stem (some (pn:Int)) none)<=11:=by
    rw[<-show _=⇑(Txt.slice stem (some (pn:Int)) none) from yT,pB stem pb,xC,show ⇑stem.cps.toList=⇑stem from yT];ext
   refine jB (λk=>.str (Txt.slice stem none (some (pn:Int))++{#[97+(fn+5*k)%26]}++Txt.slice stem (some (pn:Int)) none)) (λσ=>∃v,σ=[v,some (.str lets),some (.int (fn:Int)),some (.int (pn:Int)),some (.str stem)]) () {none,by rw[<-hpn,<-hfn];rfl} ?_ ?_
   ·rintro k σ H5 R hk s5 ⟨_,rfl⟩ r
    exists by ext,?_
    left;let w0:0<=((fn:Int)+5*(0+(k:Int)))%26:=zy _ ∅;let w1:((fn:Int)+5*(0+(k:Int)))%26<26:=zv _ ∅;let we:(((fn:Int)+5*(0+(k:Int)))%26).toNat=(fn+5*k)%26:=()
    refine{lets,_,_,rfl,rfl,by show 26<=sizeLine;ext,LQ w0 w1,?_};rw[we];let l3:⇑({#[97+(fn+5*k)%26]}:Str)=1:=rfl;refine{_,_,rfl,rfl,(),?_};exists by ext,?_
    refine{_,_,rfl,rfl,by rw[bo];ext,?_};exact r _ _ _ (aF _) fg {_,rfl}
   ·intro D2 vs2 H5 s5 _ hD2 il2
    let e:(List.range m.toNat).map (λk=>Dt.str (Txt.slice stem none (some (pn:Int))++{#[97+(fn+5*k)%26]}++Txt.slice stem (some (pn:Int)) none))=((List.range m.toNat).map λk=>Txt.slice stem none (some (pn:Int))++{#[97+(fn+5*k)%26]}++Txt.slice stem (some (pn:Int)) none).map Dt.str:=by rw[zC];rfl
    rw[e] at il2;rw[dY il2] at hD2;exact kk _ D2 H5 {by rw[zd,zT],MI (f:=λk=>(fn+5*k)%26)} (Ko () pb ssg ()) (s4.trans s5) hD2
def rS:Sp:=λvs H Q _=>∃(m:Int),vs=[.int m]/\0<=m/\∀q p H',Qz q->aG H H'->H' p=some (lQ q)->Q (.ref p) H'
def sG:dz P w base 1 T.kh rS:=by
 nomatch T.kh,["_law_m","_law_f","_law_high"]
 let⟨m,rfl,m0,kk⟩:=h;let a:=zy m (b:=41) ∅;let b:=zv m (b:=41) ∅;let c:=zy (m/41) (b:=14) ∅;let d:=zv (m/41) (b:=14) ∅;refine{_,(ag (b7 1 qN (ao ly (ao aQ (pv 0) af) af))
  (ag (b7 2 qN (ao eE (ao ly (ao aQ (ao aS (pv 0) af) af) af) af))
  (aj (ax (bT (aa (pv 1) (aa (ao bw (ao aQ (ao eE af (pv 1)) af) (pv 2)) ae))))))),?_}
 ac_rfl;exists dj,?_;intros p1 H1 s1 h1;change kk _ _ _ (MX m) s1 h1
inductive rW (vs:List V) (H:Hp) (Q:VK) (E:XK):Prop
 | mk (m:Int) (x:Int×Int) (q:vw) (_:vs=[.int m,.ref q]) (_:H q=some (lQ x)) (_:0<=m) (_:m<1099511627776) (_:NQ x) (_:∀(its:List Item) p us H',GH its x->aG H H'->H p=none->H' p=some (.lst us)->aB H' (its.map eQ) us->Q (.ref p) H')
def sI:dz P w base 2 T.km rW:=by
 nomatch T.km,["_law_m","_law_length","_law_many","_law_weights","_law_items","_law_j","_law_each"]
 let⟨m,x,q,rfl,hq,m0,m1,xok,kk⟩:=h;let sl:=yF;let a:=zy m (b:=6) ∅;let b:=zv m (b:=6) ∅;obtain⟨n,hn⟩:∃n:Nat,1+m%6=(n:Int):={(1+m%6).toNat,()}
 refine{_,(ag (b7 2 qN (ao bw af (ao aQ (pv 0) af)))
  (ag (Rg (i:=3) (ts:=["_law_j"]) (ys:=["_law_m"]) (js:=[0]) (te:=(cP (tO λi j=>.int (i+j)) (tC (.int (1))) (cP (rI (λ_ j=>0<j) λi j=>.int (i%j)) (cP (rI Dw λi j=>.int (i/j)) (aW 1) (cP (tO λi j=>.int (i+j)) (tC (.int (7))) (cP (rI NV λi j=>.int (i*j)) (tC (.int (5))) (aW 0)))) (tC (.int (4)))))) (cQ (by rfl) T.dE (aa (pv 2) ae)) (gF 0) bG (ao bw af (ao aQ (ao aS (pv 1) (ao bw af (ao eE af (pv 0)))) af)) qN)
  (ag (b7 4 qN (aU ae))
  (ag (dH yS rfl (cQ (by rfl) T.dE (aa (pv 2) ae)) (eN 5 qN)
  (ag (b7 6 qN (cw (jt T) hr T.gY (aa (ao eE (cy (pv 1) af) (dF (pv 3) (pv 5))) (aa (ao eE (cy (pv 1) af) (dC (Nz rfl) T.U3 (aa (pv 3) ae))) ae))))
   (aj (aL (PW.pt (dr (ptr jq (pv 5) (ao aQ (ao aS (pv 0) af) (pv 2))) (c9 (ptr cS (ao Tn (ao Tj (ao aS (pv 0) af) (pv 5)) af) af))))
   (aj (bX (bK yG yI yH bJ (pv 4) (aa (bT (aa bj (aa (pv 6) ae))) ae))))
   (aj (bX (bK yG yI yH bJ (pv 4) (aa (bT (aa (cw (sG T) hr T.kh (aa (ao aS (pv 0) (ao bw af (ao eE af (pv 5)))) ae)) (aa (pv 6) ae))) ae))))))))
  (aj (ax (pv 4))))))),?_}
 ac_rfl;exists by ext,(),?_
 rw[show(1+m%6).toNat=n from by ext];refine jB (λj=>.int (1+m/(7+5*(0+(j:Nat)))%4)) (λσ=>∃v,σ=[v,some (.int m)]) () {(none),rfl} ?_ ?_
 ·rintro j σ H1 R hj s1 ⟨_,rfl⟩ r
  exists{(()),()},?_;change r _ _ _ (aF _) cW {_,rfl}
 ·intro D0 vs0 H1 s1 _ hD0 il0
  let e:(List.range n).map (λj:Nat=>Dt.int (1+m/(7+5*(0+(j:Nat)))%4))=(rK m n).map Dt.int:=by unfold rK;rw[zC];rfl
  rw[e] at il0;rw[fC il0] at hD0;left
  intros D nD s2 h2 H2
  let nDH:H D=none:=s1.back nD;exists by ext,(),?_
  rw[show(1+m%6).toNat=n from by ext];let⟨xr,x1,x2,x3⟩:=id xok;let⟨_,xp,_⟩:=xr.pos;let wl:=QH m n;let wb:=Oq (l:=rK m n) λw hw=>JK hw;let W0:0<(rK m n).sum:=()
  let W2:(rK m n).sum<=24:=()
  let j0a:0<=m/4%(n:Int):=zy _ ();let j0b:m/4%(n:Int)<n:=zv _ ();refine i9 (λi σ H'=>∃(its:List Item) (us:List V) (v5 v6:Option V),σ=[some (.int m),some (.ref q),some (.int (1+m%6)),some (.ref D0),some (.ref D),v5,v6]/\aG H1 H'/\H' D=some (.lst us)/\aB H' (its.map eQ) us/\⇑its=i/\(∀it∈its,Lq it)/\
   j8 its=red (x.1*((rK m n).take i).sum) (x.2*(rK m n).sum)/\(m/4%(n:Int)<i->its.all (λit=>it.1.isNone)=false)) {[],[],none,none,rfl,s2,h2,dn,rfl,by simp,Oo xp W0,λz=>by exfalso;simp at z;ext} ?_ ?_
  ·intro i σ H3 hi hh
   refine eD λN kN0 kR0 _ _=>?_;let⟨its,us,v5,v6,rfl,s3,h3,il3,il,iok,isum,ino⟩:=hh;let hq3:=s3 _ _ (s1 _ _ hq);let hD3:=s3 _ _ hD0;let hwi:(rK m n)[i]?=some ((rK m n)[i]'()):=ze ();let⟨w1,w2⟩:=JK (zD hwi);generalize (rK m n)[i]'()=wi at hwi w1 w2;left;refine{D0,_,_,_,rfl,rfl,ak hD3,(by rw[Int.zero_add];exact bz (by rw[zL,hwi];rfl)),?_};exists .inl {(()),()},?_;exists D0,_,rfl,ak hD3,λw hw=>by have:=JK hw;ext,(),?_
   exists .inl {(()),()},?_;let lk:=Pq xok w1 w2 W0 W2;let b1:0<x.2*(rK m n).sum:=xA xp W0;let b2:x.2*(rK m n).sum<=160*24:=wc x3 W2 () ∅;let t0:0<=x.1*wi:=x9 () ();refine{_,_,rfl,t0,b1,(cq (n:=12) () ()).mono ∅,λp6 H6 s6 h6=>?_};exists by show 0<1+m%6;ext,?_
   left;let nD6:H6 D=some (.lst us):=s6 _ _ h3;let il6:=il3.mono s6;let e6:(rK m n).take (i+1)=(rK m n).take i++[wi]:=eG hwi;let ps:∀it:Item,it.2=red (x.1*wi) (x.2*(rK m n).sum)->j8 (its++[it])=red (x.1*((rK m n).take (i+1)).sum) (x.2*(rK m n).sum):=λit e=>by
    rw[e6,List.sum_append];have:[wi].sum=wi:=by simp
    rw[this];exact Om xp W0 isum e
   refine eC ((!decide (V.int (0+(i:Int))=V.int (m/4%(1+m%6))))&&decide (V.int (Builtin.bitAnd (m/16/2^(0+(i:Int)).toNat) 1)=V.int 1)) ?_ ?_ ?_
   ·intro c Z hz
    rw[c,yY] at hz;exists by show 0<=0+(i:Int);ext,?_
    change hz
   ·intro c;rw[c,yW]
   ·cases qv:((!decide (V.int (0+(i:Int))=V.int (m/4%(1+m%6))))&&decide (V.int (Builtin.bitAnd (m/16/2^(0+(i:Int)).toNat) 1)=V.int 1)) with
    | true=>
     let ne:(i:Int)≠m/4%(n:Int):=λz=>by
      rw[Int.zero_add,z,hn] at qv;simp at qv
     exists .inl {rfl,_,ak nD6},?_;exists dj,?_;intros p7 H7 s7 h7;refine{D,us,_,rfl,rfl,s7 _ _ nD6,(by have:=aZ il3;ext),?_};left;let nt:cZ (H7 D):=by rw[s7 _ _ nD6];exact λ_ z=>by cases z
     let it7:Is H7 (eQ (none,red (x.1*wi) (x.2*(rK m n).sum))) (.ref p7):=cM h7 (bc dZ (bc (iO (s7 _ _ h6)) dn));refine{its++[(none,red (x.1*wi) (x.2*(rK m n).sum))],_,_,_,rfl,cY nD ((s3.trans s6).trans s7),aE,?_,by rw[zj,il];rfl,λit hit=>?_,ps _ rfl,λz=>?_}
     ·rw[zm]
      exact dm (Is.upd nt it7) (aB.upd nt (il6.mono s7))
     ·rcases zH.mp hit with y | y
      ·exact iok it y
      ·rw[zB.mp y];exact{lk,λq z=>by cases z}
     ·rw[List.all_append,ino (),yW]
    | false=>
     exists .inl {rfl,_,ak nD6},?_;exists{(()),()},?_;exists zX m0 (),λpq p8 H8 pok s8 h8=>?_;exists dj,?_;intros p7 H7 s7 h7;let s67:=s8.trans s7;refine{D,us,_,rfl,rfl,s67 _ _ nD6,by have:=aZ il3;ext,?_};left;let nt:cZ (H7 D):=by rw[s67 _ _ nD6];exact λ_ z=>by cases z
     let it7:Is H7 (eQ (some pq,red (x.1*wi) (x.2*(rK m n).sum))) (.ref p7):=cM h7 (bc (iO (s7 _ _ h8)) (bc (iO (s67 _ _ h6)) dn));refine{its++[(some pq,red (x.1*wi) (x.2*(rK m n).sum))],_,_,_,rfl,cY nD ((s3.trans s6).trans s67),aE,?_,by rw[zj,il];rfl,λit hit=>?_,ps _ rfl,λz=>?_}
     ·rw[zm]
      exact dm (Is.upd nt it7) (aB.upd nt (il6.mono s67))
     ·rcases zH.mp hit with y | y
      ·exact iok it y
      ·rw[zB.mp y];exact{lk,λq z=>by cases z;exact pok}
     ·rw[List.all_append];simp
  ·rintro σ H3 ⟨its,us,v5,v6,rfl,s3,h3,il3,il,iok,isum,ino⟩
   left;refine kk its D us H3 {(),iok,?_,ino j0b} (s1.trans s3) nDH h3 il3;rw[isum,show(rK m n).take n=rK m n from xx (),MH xr W0]
noncomputable def Ks:List (Int×Int):=[(4,4),(3,4),(6,8),(2,2),(5,16),(7,8),(1,32),(12,1)]
def NW (b:Sc.N1):Prop:=b.bg∈Ks/\-7<=b.key/\b.key<=7/\(∀n∈b.marks,dW n)/\⇑b.marks<=2
inductive ux (vs:List V) (H:Hp) (Q:VK) (E:XK):Prop
 | mk (c n:Int) (_:vs=[.int c,.int n]) (_:0<=n) (_:n<=200) (_:∀(bs:List Sc.N1) p us H',⇑bs=n.toNat->(∀b∈bs,NW b)->aG H H'->H p=none->H' p=some (.lst us)->aB H' (bs.map kJ) us->Q (.ref p) H')
def uM:dz P w base 2 T.lP ux:=by
 nomatch T.lP,["_law_cell","_law_many","_law_bars","_law_k","_law_m","_law_metre","_law_key","_law_marks"]
 let⟨c,n,rfl,n0,n1,kk⟩:=h;let sl:=yF;refine{_,(ag (b7 2 qN (aU ae))
  (ag (dH yS rfl (cQ (by rfl) T.dE (aa (pv 1) ae)) (eN 3 qN)
  (zf (zc (zS (b7 4 qN (cw (cB T) hr T.cX (aa (pv 0) (aa (ao bw (pv 3) af) ae)))))
   (zc (Wy 5 qN (Rc Ks (ao aQ (pv 4) af) (λ_ _=>rfl)))
   (zc (zS (b7 6 qN (ao ly (ao aQ (ao aS (pv 4) af) af) af)))
   (zc (zS (aL (PW.pt (dr (ptr fq (pv 3) af) (c9 (ptr fq (ao aQ (ao aS (pv 4) af) af) af))))
   (aj (b7 5 qN (cy (dF (pv 2) (m6 jh af)) af)))
   aA))
   (zc (zS (aL (PW.pt (dr (ptr fq (pv 3) af) (c9 (ptr fq (ao aQ (ao aS (pv 4) af) af) af))))
   (aj (b7 6 qN (cy (dF (pv 2) (m6 jh af)) af)))
   aA))
   (zc (zS (b7 7 qN (oa dI T.iL (aa (cw (ky T) hr T.gN (aa (ao aS (pv 4) af) (aa (dF (aU (aa af (aa af (aa af (aa af (aa af (aa af (aa af ae)))))))) (ao aQ (ao aS (pv 4) af) af)) ae))) ae))))
   (zo (zS (bX (bK yG yI yH bJ (pv 2) (aa (bT (aa (pv 5) (aa (pv 6) (aa (pv 7) ae)))) ae)))))))))))))
  (aj (ax (pv 2))))),?_}
 ac_rfl;left
 intros D nD s2 h2 H2
 exists by ext,(),?_
 refine i9 (λi σ H'=>∃(bs:List Sc.N1) (us:List V),Lo [some (.int c),some (.int n),some (.ref D)] 5 σ/\aG H H'/\H' D=some (.lst us)/\aB H' (bs.map kJ) us/\⇑bs=i/\∀b∈bs,NW b)
  {[],[],Lo.of rfl rfl,s2,h2,dn,rfl,by simp} ?_ ?_
 ·intro i σ H3 hi hh
  refine eD λN kN0 kR0 _ _=>?_;let⟨bs,us,⟨e,rfl⟩,s3,h3,il3,bl,bok⟩:=hh;exists c,_,rfl,(),(),?_;let m0:0<=mixed c (0+(i:Int)+20):=zy _ ∅;let m1:mixed c (0+(i:Int)+20)<2147483399:=zv _ ∅;generalize mixed c (0+(i:Int)+20)=m at m0 m1;let a0:0<=m%8:=zy _ ∅;let a1:m%8<8:=zv _ ∅;let b0:0<=m/8%15:=zy _ ∅;let b1:m/8%15<15:=zv _ ∅;left;intro D4 vs4 H4 s4 h4 il4;left;obtain⟨j,hj⟩:∃j:Nat,m%8=(j:Int):={(m%8).toNat,()}
  let vl4:=aZ il4;let jl:j<⇑vs4:=by rw[vl4];show j<8;ext
  let⟨mx,hmx,imx⟩:=df (d:=dL) il4 (i:=j) (ze jl);generalize hmv:vs4[j]=mv at imx;let h3':=s4 _ _ h3;let il3':=il3.mono s4;refine{D4,vs4,m%8,mv,rfl,rfl,ak h4,(by rw[hj];exact bz (by rw[<-hmv];exact ze jl)),?_};left;let lastB:0<(i:Int)->∃b a mt q,us[⇑us-1]?=some (.ref a)/\H4 a=some (.tup [mt,.int b.key,.ref q])/\Is H4 (dL b.bg) mt/\b∈bs:=λip=>by
   let ul:=aZ il3';let⟨b,hb,ib⟩:=df il3' (i:=⇑us-1) (ze ());let⟨a,mt,q,ea,ha,hm,_⟩:=vH ib;exact{b,a,mt,q,by rw[<-ea];exact ze (),ha,hm,zD hb}
  refine eC (decide (0<0+(i:Int))&&decide (0<m/120%4)) ?_ ?_ ?_
  ·intro c1 Z hz
   rw[c1,yY] at hz;change hz
  ·intro c1;rw[c1,yW]
  refine join (λσ H'=>H'=H4/\∃mv x,σ=[some (.int c),some (.int n),some (.ref D),some (.int (0+(i:Int))),some (.int m),some mv,some (.int (m/8%15-7)),e 4]/\Is H4 (dL x) mv/\x∈Ks) (λN hN c1=>?_) (λN hN c1=>?_) ?_
  ·let ip:0<(i:Int):=by simp at c1;ext
   let⟨b,a,mt,q,hl,ha,hm,hb⟩:=lastB ip;exists D,us,-1,_,rfl,rfl,ak h3',lI hl,?_;change hN _ _ {rfl,mt,b.bg,rfl,hm,(bok b hb).1}
  ·left
   exact hN _ _ {rfl,mv,mx,rfl,imx,zD hmx}
  clear imx hmv;rintro σ5 H5 ⟨e5,mv,x,rfl,imv,hx⟩;rw[e5];clear e5 H5;left;refine eC (decide (0<0+(i:Int))&&decide (0<m/480%5)) ?_ ?_ ?_
  ·intro c1 Z hz
   rw[c1,yY] at hz;change hz
  ·intro c1;rw[c1,yW]
  refine join (λσ H'=>H'=H4/\∃k:Int,σ=[some (.int c),some (.int n),some (.ref D),some (.int (0+(i:Int))),some (.int m),some mv,some (.int k),e 4]/\-7<=k/\k<=7) (λN hN c1=>?_) (λN hN c1=>?_) ?_
  ·let ip:0<(i:Int):=by simp at c1;ext
   let⟨b,a,mt,q,hl,ha,hm,hb⟩:=lastB ip;exists D,us,-1,_,rfl,rfl,ak h3',lI hl,?_;change hN _ _ {rfl,b.key,rfl,(bok b hb).2.1,(bok b hb).2.2.1}
  ·left
   exact hN _ _ {rfl,m/8%15-7,rfl,(),()}
  rintro σ5 H5 ⟨e5,k,rfl,k0,k1⟩;rw[e5];clear e5 H5;exists by show 7<=sizeLine;ext,?_
  intros p6 H6 s6 h6;let g0:0<=m/33600%7:=zy _ ∅;let g1:m/33600%7<7:=zv _ ∅;obtain⟨jj,hjj⟩:∃j:Nat,m/33600%7=(j:Int):={(m/33600%7).toNat,()}
  obtain⟨z,hz,z0,z1⟩:∃z:Int,[V.int 0,V.int 0,V.int 0,V.int 0,V.int 0,V.int 1,V.int 2][jj]?=some (.int z)/\0<=z/\z<=2:=by
   have:jj<7:=()
   match jj,this with
   | 0,_=>exact{0,rfl,∅,∅}
   | 1,_=>exact{0,rfl,∅,∅}
   | 2,_=>exact{0,rfl,∅,∅}
   | 3,_=>exact{0,rfl,∅,∅}
   | 4,_=>exact{0,rfl,∅,∅}
   | 5,_=>exact{1,rfl,∅,∅}
   | 6,_=>exact{2,rfl,∅,∅}
  exists p6,_,m/33600%7,.int z,rfl,rfl,ak h6,(by rw[hjj];exact bz hz),?_;left;refine{_,z,rfl,zX m0 ∅,?_,z0,(),λns p7 H7 nl nok s7 h7=>?_}
  ·have:=zY (a:=m) 2400 m0;ext
  left;refine{p7,_,rfl,.inl {ak h7,?_}};intros p8 H8 s8 h8;let s48:=(s6.trans s7).trans s8;let h38:=s48 _ _ h3';exists .inl {rfl,_,ak h38},?_;exists mW,?_;intros p9 H9 s9 h9;refine{D,us,_,rfl,rfl,s9 _ _ h38,(by have:=aZ il3;ext),?_};left;let s49:=s48.trans s9;let nt:cZ (H9 D):=by rw[s9 _ _ h38];exact λ_ z=>by cases z
  let ib:Is H9 (kJ {(x),k,ns}) (.ref p9):=cM h9 (bc (imv.mono s49) (bc cW (bc (cM (s9 _ _ h8) (Iy ns)) dn)));refine{bs++[{(x),k,ns}],_,Lo.of rfl rfl,cY nD ((s3.trans s4).trans s49),aE,?_,by rw[zj,bl];rfl,λb hb=>?_}
  ·rw[zm]
   exact dm (Is.upd nt ib) (aB.upd nt (il3'.mono s49))
  ·rcases zH.mp hb with y | y
   ·exact bok b y
   ·rw[zB.mp y]
    exact{hx,k0,k1,nok.1,by show ⇑ns<=2;ext}
 ·rintro σ H3 ⟨bs,us,⟨e,rfl⟩,s3,h3,il3,bl,bok⟩
  change kk bs D us H3 bl bok s3 nD h3 il3
inductive qi (vs:List V) (H:Hp) (Q:VK) (E:XK):Prop
 | mk (bl:vw) (us:List V) (S:bO) (ub:V) (b:Nat) (_:vs=[.ref bl,ub,.int b]) (_:H bl=some (.lst us)) (_:aB H (S.aR.map kJ) us) (_:Is H (dO dL S.aH) ub) (_:b<⇑S.aR) (_:(∀x∈S.aR,NW x)) (_:∀p H',aG H H'->H' p=some (lQ (S.len b))->Q (.ref p) H')
def lA {x:Int×Int} (h:x∈Ks):1<=x.1/\x.1<=12/\x.2∈BS/\1<=x.2/\x.2<=32:=by
 unfold Ks at h;simp only[zE,zF,yX] at h;rcases h with rfl | rfl | rfl | rfl | rfl | rfl | rfl | rfl <;> decide
def qK:dz P w base 2 T.jD qi:=by
 nomatch T.jD,["_law_bars","_law_upbeat","_law_bar"]
 let⟨bl,us,S,ub,b,rfl,hbl,il,iu,hb,bok,kk⟩:=h;let ul:=aZ il;let⟨x,hx,ix⟩:=df il (i:=b) (ze ());let⟨a1,mv,q,ev,h1,im,_⟩:=vH ix;let⟨m1,m2,m3,m4,m5⟩:=lA (bok x (zD hx)).1;let em:S.bg b=red x.bg.1 x.bg.2:=by unfold bO.bg;rw[hx]
 cases fV (o:=some x.bg) im with
 | ref hm=>
 rename_i am;refine{_,(ag (aL (PW.pt (dr (ptr cS (pv 2) af) (c9 (bL (fB (pv 1))))))
  (aj (ax (pv 1)))
  aA)
  (aj (ax (cw (jt T) hr T.gY (aa (cy (cy (dF (pv 0) (pv 2)) af) af) (aa (cy (cy (dF (pv 0) (pv 2)) af) af) ae)))))),?_}
 ac_rfl;left;let nz:∀H1,Is H1 (dO dL S.aH) ub->(!decide (ub=V.bQ))=S.aH.isSome:=λH1 z=>by
  cases q:S.aH with
  | none=>rw[q] at z;unfold dO Is at z;rw[z];rfl
  | some u=>
   rw[q] at z;cases fV (o:=some u) z with
   | ref hu=>rfl
 refine eC (decide (V.int (b:Int)=V.int 0)&&S.aH.isSome) ?_ ?_ ?_
 ·intro c Z hz
  rw[c,yY,<-nz H iu] at hz;change hz
 ·intro c;rw[c,yW]
 ·cases qv:(decide (V.int (b:Int)=V.int 0)&&S.aH.isSome) with
  | true=>
   rw[zP] at qv;let b0:b=0:=by have:=V.int.inj (ye qv.1);ext
   cases q:S.aH with
   | none=>rw[q] at qv;cases qv.2
   | some u=>
    rw[q] at iu;cases fV (o:=some u) iu with
    | ref hu=>
     left;refine kk _ _ (aF _) ?_;unfold bO.len;rw[q];simp only[b0,w8];exact hu
  | false=>
   let el:S.len b=S.bg b:=by
    unfold bO.len;cases q:S.aH with
    | none=>rfl
    | some u=>
     rw[q] at qv;have:b≠0:=λz=>by rw[z] at qv;simp at qv
     simp only[yQ this]
   rw[el,em] at kk;left;refine{bl,us,b,_,rfl,rfl,ak hbl,bz (ze ()),?_};rw[ev];left;refine{bl,us,b,_,rfl,rfl,ak hbl,bz (ze ()),?_};rw[ev];change{_,_,rfl,(),(),(cq (n:=10) () ()).mono ∅,kk}
inductive rX (vs:List V) (H:Hp) (Q:VK) (E:XK):Prop
 | mk (c many:Int) (pp ip:vw) (ps:List Str) (ins:List (Str×(Int×Int)×(Int×Int))) (iv:List V) (_:vs=[.int c,.ref pp,.ref ip,.int many]) (_:H pp=some (.lst (ps.map V.str))) (_:H ip=some (.lst iv)) (_:aB H (ins.map dy) iv) (_:⇑ps<=100) (_:⇑ins<=100) (_:many<=200) (_:∀(hs:List (Str×List (Int×Str))) D us H',List.Sublist (hs.map (·.1)) ps->(∀x∈hs,Mn (ins.map (·.1)) many x.2)->aG H H'->H' D=some (.lst us)->RL (iB D H') hs us->Q (.ref D) H')
def M7 {H:Hp} {x:Str×(Int×Int)×(Int×Int)} {v:V} (h:Is H (dy x) v):∃a t l,v=.ref a/\H a=some (.tup [.str x.1,t,l]):=by
 unfold dy Is at h;let⟨a,vs,rfl,ha,hl⟩:=h;unfold aB at hl;let⟨v1,r1,rfl,h1,hl⟩:=hl;unfold aB at hl;let⟨v2,r2,rfl,h2,hl⟩:=hl;unfold aB at hl;let⟨v3,r3,rfl,h3,hl⟩:=hl;unfold aB at hl;subst hl;unfold Is at h1;subst h1;exact{(a),v2,v3,rfl,ha}
def sJ:dz P w base 2 T.ko rX:=by
 nomatch T.ko,["_law_cell","_law_players","_law_instruments","_law_many","_law_holds","_law_k","_law_player","_law_row","_law_bar","_law_j","_law_m"]
 let⟨c,many,pp,ip,ps,ins,iv,rfl,hpp,hip,ili,pl,il0,my,kk⟩:=h;let sl:=yF;let ivl:=aZ ili;refine{_,(ag (b7 4 qN (aU ae))
  (ag (dH yS rfl (vF (by rfl) T.jU (aa (pv 1) ae)) (du (n:=2) rfl (aD (eN 5 qN) (aD (eN 6 qN) cG)))
  (ag (b7 7 qN (aU ae))
   (ag (b7 8 qN af)
   (ag (dH yS rfl (cQ (by rfl) T.dE (aa af ae)) (eN 9 qN)
   (ag (b7 10 qN (cw (cB T) hr T.cX (aa (pv 0) (aa (ao bw (ao bw (ao eE af (pv 5)) (pv 9)) af) ae))))
    (ag (b7 8 qN (ao bw (pv 8) (ao aQ (pv 10) af)))
    (ag (aL (PW.pt (dr (ptr fo (pv 8) (pv 3)) (dr (ptr fq (dC ay T.bx (aa (pv 2) ae)) af) (c9 (ptr fq (ao aQ (ao aS (pv 10) af) af) af)))))
    (aj (bX (bK yG yI yH bJ (pv 7) (aa (bT (aa (pv 8) (aa (cy (dF (pv 2) (ao aQ (ao aS (pv 10) af) (dC ay T.bx (aa (pv 2) ae)))) af) ae))) ae))))
    aA)
    (aj (b7 8 qN (ao bw (pv 8) af)))))))
   (aj (aL (ptr (AY hr.units) (pv 7) (aU ae))
   (aj (bX (bK yG yI yH bJ (pv 4) (aa (bT (aa (pv 6) (aa (pv 7) ae))) ae))))
   aA))))))
  (aj (ax (pv 4))))),?_}
 ac_rfl;left
 intros D nD s2 h2 H2
 exists pp,_,rfl,ak (s2 _ _ hpp),?_;refine qY (K:=K) (a:=pp) (xs:=ps.map V.str) (λi σ H'=>∃(hs:List (Str×List (Int×Str))) (us:List V),Lo [some (.int c),some (.ref pp),some (.ref ip),some (.int many),some (.ref D)] 6 σ/\aG H H'/\H' D=some (.lst us)/\RL (iB D H') hs us/\List.Sublist (hs.map (·.1)) (ps.take i)/\(∀x∈hs,Mn (ins.map (·.1)) many x.2)/\⇑hs<=i)
  {[],[],Lo.of rfl rfl,s2,h2,rfl,List.nil_sublist _,by simp,zp _} (λi σ H' _ h=>by let⟨_,_,_,z,_⟩:=h;exact ak (z _ _ hpp)) ?_ ?_
 ·intro i x σ H3 p H4 hx hh s34 hp4
  refine eD λN kN0 kR0 _ _=>?_;let⟨hs,us,⟨e,rfl⟩,s3,h3,rl3,sub,rok,hl⟩:=hh;rw[zL] at hx;cases qr:ps[i]? with
  | none=>rw[qr] at hx;cases hx
  | some pn=>
  rw[qr] at hx;simp only[xn,xN] at hx;subst hx;refine{p,_,rfl,bC hp4,rfl,?_};refine{_,_,rfl,{_,_,rfl,{rfl,?_}}};left
  intros R nR s5 h5 H5
  exists by decide,(by decide),?_
  refine i9 (λj σ H'=>∃(row:List (Int×Str)) (ws:List V) (bar:Int) (v9 va:Option V),σ=[some (.int c),some (.ref pp),some (.ref ip),some (.int many),some (.ref D),some (.int (i:Int)),some (.str pn),some (.ref R),some (.int bar),v9,va]/\aG H4 H'/\H' R=some (.lst ws)/\aB H' (row.map K2) ws/\0<=bar/\⇑row<=j/\(row.map (·.1)).Pairwise (·<·)/\
   ∀h∈row,0<=h.1/\h.1<many/\h.2∈ins.map (·.1)/\h.1<bar) {[],[],0,e 4,e 5,rfl,s5,h5,dn,∅,by simp,by simp,by simp} ?_ ?_
  ·intro j σ H6 hj hh
   refine eD λN kN1 kR1 _ _=>?_;let⟨row,ws,bar,v9,va,rfl,s6,h6,il6,b0,rl,asc,rin⟩:=hh;let s06:=(s3.trans s34).trans s6;left;let ib:i<⇑ps:=(zA.mp qr).1;refine{c,_,rfl,(),(),?_};let m0:0<=mixed c (7*(i:Int)+(0+(j:Int))+60):=zy _ ∅;let m1:mixed c (7*(i:Int)+(0+(j:Int))+60)<2147483399:=zv _ ∅;generalize mixed c (7*(i:Int)+(0+(j:Int))+60)=m at m0 m1;let a0:0<=m%5:=zy _ ∅;left;let hip6:=s06 _ _ hip;refine eC (decide (bar+m%5<many)&&(decide (0<(⇑ins:Int))&&decide (0<m/5%3))) ?_ ?_ ?_
   ·intro c1 Z hz
    rw[c1,yY] at hz;exists ip,iv,rfl,.inl (ak hip6),?_;rw[ivl];left;refine eC (decide (0<(⇑ins:Int))&&decide (0<m/5%3)) ?_ ?_ hz
    ·intro c2 Z hz
     rw[c2,yY] at hz;change hz
    ·intro c2;rw[c2,yW]
   ·intro c1;rw[c1,yW]
   refine join (λσ H'=>∃(row:List (Int×Str)) (ws:List V),σ=[some (.int c),some (.ref pp),some (.ref ip),some (.int many),some (.ref D),some (.int (i:Int)),some (.str pn),some (.ref R),some (.int (bar+m%5)),some (.int (0+(j:Int))),some (.int m)]/\aG H4 H'/\H' R=some (.lst ws)/\aB H' (row.map K2) ws/\⇑row<=j+1/\(row.map (·.1)).Pairwise (·<·)/\
    ∀h∈row,0<=h.1/\h.1<many/\h.2∈ins.map (·.1)/\h.1<bar+m%5+1) (λN hN c1=>?_) (λN hN c1=>?_) ?_
   ·simp only[zP,xE] at c1
    let⟨c1,c2,c3⟩:=c1;let d0:0<=m/15%(⇑ins:Int):=zy _ ();let d1:m/15%(⇑ins:Int)<⇑ins:=zv _ ();obtain⟨jj,hjj⟩:∃jj:Nat,m/15%(⇑ins:Int)=(jj:Int):={(m/15%(⇑ins:Int)).toNat,()}
    let⟨nx,hnx,inx⟩:=df (d:=dy) (ili.mono s06) (i:=jj) (ze ());let⟨ai,ti,li,ea,hai⟩:=M7 inx;exists .inl {rfl,_,ak h6},?_;exists ip,iv,rfl,.inl (ak hip6),?_;rw[ivl];exists by show 0<(⇑ins:Int);ext,?_
    refine{ip,iv,_,_,rfl,rfl,ak hip6,(by rw[hjj];exact bz (ze ())),?_};rw[ea];exists dj,?_;intros p7 H7 s7 h7;refine{R,ws,_,rfl,rfl,s7 _ _ h6,(by have:=aZ il6;ext),?_};left;let nt:cZ (H7 R):=by rw[s7 _ _ h6];exact λ_ z=>by cases z
    refine hN _ _ {row++[(bar+m%5,nx.1)],_,rfl,cY nR (s6.trans s7),aE,?_,by rw[zj];simp;ext,?_,λh hh=>?_}
    ·rw[zm]
     exact dm (Is.upd nt (cM h7 (bc cW (bc fg dn)))) (aB.upd nt (il6.mono s7))
    ·rw[zm,zV]
     refine{asc,by simp,λx hx y hy=>?_};let⟨h',hh',rfl⟩:=zI.mp hx;let ey:y=bar+m%5:=by simpa using hy
     have:=(rin h' hh').2.2.2;ext
    ·rcases zH.mp hh with z | z
     ·have:=rin h z
      exact{(this.1),this.2.1,this.2.2.1,()}
     ·rw[zB.mp z]
      exact{by show 0<=bar+m%5;ext,c1,zQ (f:=λx:Str×(Int×Int)×(Int×Int)=>x.1) (zD hnx),by show bar+m%5<bar+m%5+1;ext}
   ·left
    refine hN _ _ {row,ws,rfl,s6,h6,il6,(),asc,λh hh=>?_};have:=rin h hh;exact{(this.1),this.2.1,this.2.2.1,()}
   rintro σ7 H7 ⟨row,ws,rfl,s7,h7,il7,rl7,asc7,rin7⟩;change{row,ws,bar+m%5+1,_,_,rfl,s7,h7,il7,(),rl7,asc7,rin7}
  ·rintro σ H6 ⟨row,ws,bar,v9,va,rfl,s6,h6,il6,b0,rl,asc,rin⟩
   let s06:=(s3.trans s34).trans s6;let h36:=s6 _ _ (s34 _ _ h3);let rl6:RL (iB D H6) hs us:=rl3.imp λx v z=>(z.mono s34).mono s6;let ne:R≠D:=λz=>by rw[z,s34 _ _ h3] at nR;cases nR
   let ib:i<⇑ps:=(zA.mp qr).1;let tk:ps.take (i+1)=ps.take i++[pn]:=eG qr;exists by show 0<=sizeLine;ext,?_
   intros p7 H7 s7 h7;refine{R,p7,ws,[],rfl,rfl,.inl {ak (s7 _ _ h6),ak h7},.inr (.inl rfl),?_};let wr:=aZ il6;let s07:=s06.trans s7
   by_cases e:ws=[]
   ·rw[zh e]
    left;refine{hs,us,Lo.of rfl rfl,s07,s7 _ _ h36,rl6.imp λx v z=>z.mono s7,?_,rok,()};rw[tk];exact sub.trans (List.sublist_append_left _ _)
   ·rw[zg e]
    let rne:row≠[]:=λz=>e (by rw[z] at wr;exact yw.mp wr);exists .inl {rfl,_,ak (s7 _ _ h36)},?_;exists dj,?_;intros p8 H8 s8 h8;let s78:=s7.trans s8;let h38:=s78 _ _ h36;refine{D,us,_,rfl,rfl,h38,by have:=rl3.len;ext,?_};left;refine{hs++[(pn,row)],_,Lo.of rfl rfl,cY nD (s06.trans s78),aE,?_,?_,λx hx=>?_,by rw[zj];simp;ext}
    ·refine RL.snoc ?_ (rl6.imp λx v z=>(z.mono s78).upd h38)
     exact iB.upd h38 {p8,R,ws,rfl,h8,s78 _ _ h6,il6.mono s78,ne}
    ·rw[zm,tk]
     exact sub.append (List.Sublist.refl _)
    ·rcases zH.mp hx with z | z
     ·exact rok x z
     ·rw[zB.mp z]
      exact{rne,rl,asc,λh hh=>{(rin h hh).1,(rin h hh).2.1,(rin h hh).2.2.1}}
 ·rintro σ H3 ⟨hs,us,⟨e,rfl⟩,s3,h3,rl3,sub,rok,hl⟩
  rw[zd,zO] at sub;change kk hs D us H3 sub rok s3 h3 rl3
def GG (S:bO) (ns:List ((Int×Str)×List Item)):Prop:=(ns.map (·.1)).Nodup/\∀x∈ns,0<=x.1.1/\x.1.1<⇑S.aR/\x.1.2∈S.au/\GH x.2 (S.len x.1.1.toNat)
inductive rT (vs:List V) (H:Hp) (Q:VK) (E:XK):Prop
 | mk (c:Int) (pp bl:vw) (S:bO) (bv:List V) (ub:V) (_:vs=[.int c,.ref pp,.ref bl,ub]) (_:H pp=some (.lst (S.au.map V.str))) (_:H bl=some (.lst bv)) (_:aB H (S.aR.map kJ) bv) (_:Is H (dO dL S.aH) ub) (_:⇑S.au<=9) (_:S.au.Nodup) (_:⇑S.aR<=200) (_:(∀x∈S.aR,NW x)) (_:(∀b:Nat,b<⇑S.aR->NQ (S.len b))) (_:∀(ns:List ((Int×Str)×List Item)) D us H',GG S ns->⇑ns<=9*⇑S.aR->aG H H'->H' D=some (.lst us)->RL (gD D H') ns us->Q (.ref D) H')
def sH:dz P w base 3 T.ki rT:=by
 nomatch T.ki,["_law_cell","_law_players","_law_bars","_law_upbeat","_law_notes","_law_bar","_law_k","_law_player","_law_m","_law_often","_law_run"]
 let⟨c,pp,bl,S,bv,ub,rfl,hpp,hbl,ilb,iub,pl,pnd,bl2,bok,lok,kk⟩:=h;let sl:=yF;let bvl:=aZ ilb;refine{_,(ag (b7 4 qN (aU ae))
  (ag (dH yS rfl (cQ (by rfl) T.dE (aa (dC ay T.bx (aa (pv 2) ae)) ae)) (eN 5 qN)
  (aj (dH yS rfl (vF (by rfl) T.jU (aa (pv 1) ae)) (du (n:=2) rfl (aD (eN 6 qN) (aD (eN 7 qN) cG)))
   (ag (b7 8 qN (cw (cB T) hr T.cX (aa (pv 0) (aa (ao bw (ao bw (ao eE af (pv 6)) (pv 5)) af) ae))))
    (ag (b7 9 qN (ao aQ (cw (cB T) hr T.cX (aa (pv 0) (aa (ao bw (pv 6) af) ae))) af))
    (ag (b7 10 qN (ao aQ (cw (cB T) hr T.cX (aa (pv 0) (aa (ao bw (ao bw (ao eE af (pv 6)) (ao aS (pv 5) af)) af) ae))) af))
    (aj (aL (PW.pt (dr (ptr iE (ao aQ (pv 8) af) (pv 9)) (c9 (ptr fq (pv 10) af))))
    (aj (bX (bK yG yI yH bJ (pv 4) (aa (bT (aa (pv 5) (aa (pv 7) (aa (cw (sI T) hr T.km (aa (ao aS (pv 8) af) (aa (cw (qK T) hr T.jD (aa (pv 2) (aa (pv 3) (aa (pv 5) ae)))) ae))) ae)))) ae))))
    aA))))))))
  (aj (ax (pv 4))))),?_}
 ac_rfl;left
 intros D nD s2 h2 H2
 exists bl,bv,rfl,.inl (ak (s2 _ _ hbl)),?_;rw[bvl];exists by ext,(),?_
 rw[show((⇑S.aR:Int)).toNat=⇑S.aR from by ext];refine i9 (λi σ H'=>∃(ns:List ((Int×Str)×List Item)) (us:List V),Lo [some (.int c),some (.ref pp),some (.ref bl),some ub,some (.ref D)] 6 σ/\aG H H'/\H' D=some (.lst us)/\RL (gD D H') ns us/\GG S ns/\(∀x∈ns,x.1.1<i)/\⇑ns<=9*i)
  {[],[],Lo.of rfl rfl,s2,h2,rfl,{by simp,by simp},by simp,by simp} ?_ ?_
 ·intro i σ H3 hi hh
  refine eD λN kN0 kR0 _ _=>?_;let⟨ns,us,⟨e,rfl⟩,s3,h3,rl3,nok,nlt,nl⟩:=hh;exists pp,_,rfl,ak (s3 _ _ hpp),?_;refine qY (K:=K) (a:=pp) (xs:=S.au.map V.str) (λj σ H'=>∃(ns:List ((Int×Str)×List Item)) (us:List V),Lo [some (.int c),some (.ref pp),some (.ref bl),some ub,some (.ref D),some (.int (0+(i:Int)))] 5 σ/\aG H H'/\H' D=some (.lst us)/\RL (gD D H') ns us/\GG S ns/\(∀x∈ns,x.1.1<i\/(x.1.1=i/\x.1.2∈S.au.take j))/\⇑ns<=9*i+j)
   {ns,us,Lo.of rfl rfl,s3,h3,rl3,nok,λx hx=>.inl (nlt x hx),()} (λi σ H' _ h=>by let⟨_,_,_,z,_⟩:=h;exact ak (z _ _ hpp)) ?_ ?_
  ·intro j x σ H4 p H5 hx hh s45 hp5
   refine eD λN kN1 kR1 _ _=>?_;let⟨ns,us,⟨e,rfl⟩,s4,h4,rl4,nok,nlt,nl⟩:=hh;rw[zL] at hx;cases qr:S.au[j]? with
   | none=>rw[qr] at hx;cases hx
   | some pn=>
   rw[qr] at hx;simp only[xn,xN] at hx;subst hx;let jb:j<⇑S.au:=(zA.mp qr).1;let s05:=s4.trans s45;let h45:=s45 _ _ h4;let rl5:RL (gD D H5) ns us:=rl4.imp λx v z=>z.mono s45;let tk:S.au.take (j+1)=S.au.take j++[pn]:=eG qr;refine{p,_,rfl,bC hp5,rfl,?_};refine{_,_,rfl,{_,_,rfl,{rfl,?_}}};exists c,_,rfl,(),(),?_;let m0:0<=mixed c (97*(j:Int)+(0+(i:Int))+100):=zy _ ∅;let m1:mixed c (97*(j:Int)+(0+(i:Int))+100)<2147483399:=zv _ ∅;generalize mixed c (97*(j:Int)+(0+(i:Int))+100)=m at m0 m1;exists c,_,rfl,(),(),?_;left;refine{c,_,rfl,?_,?_,?_}
   ·have:=zX (a:=0+(i:Int)) (b:=4) () ∅;ext
   ·have:=zY (a:=0+(i:Int)) 4 ();ext
   generalize mixed c (31*(j:Int)+(0+(i:Int))/4+400)=m3;generalize mixed c ((j:Int)+90)=m2;left;refine eC (decide (m%6<=m2%5)&&decide (0<m3%3)) ?_ ?_ ?_
   ·intro c1 Z hz
    rw[c1,yY] at hz;change hz
   ·intro c1;rw[c1,yW]
   cases qv:(decide (m%6<=m2%5)&&decide (0<m3%3)) with
   | true=>
    exists .inl {rfl,_,ak h45},?_;exists bl,bv,S,ub,i,(by simp),s05 _ _ hbl,ilb.mono s05,iub.mono s05,hi,bok,λp6 H6 s6 h6=>?_;refine{_,_,p6,rfl,h6,zX m0 ∅,?_,lok i hi,λits p7 ws H7 iok s7 n7 h7 il7=>?_}
    ·have:=zY (a:=m) 6 m0;ext
    let s57:=s6.trans s7;let ne:p7≠D:=λz=>by rw[z,s6 _ _ h45] at n7;cases n7
    exists mW,?_;intros p8 H8 s8 h8;let s58:=s57.trans s8;let h48:=s58 _ _ h45;refine{D,us,_,rfl,rfl,h48,by have:=rl4.len;ext,?_};left;let fr:((0+(i:Int),pn):Int×Str)∉ns.map (·.1):=λz=>by
     let⟨y,hy,ey⟩:=zI.mp z;rcases nlt y hy with q | ⟨_,q2⟩
     ·rw[ey] at q;dsimp only at q;ext
     ·rw[ey] at q2
      dsimp only at q2;let nd:=List.Nodup.sublist (List.take_sublist (j+1) S.au) pnd;rw[tk,zU] at nd;exact nd.2.2 pn q2 pn (zB.mpr rfl) rfl
    refine{ns++[((0+(i:Int),pn),its)],_,Lo.of rfl rfl,cY nD (s05.trans s58),aE,?_,{?_,λx hx=>?_},λx hx=>?_,by rw[zj];simp;ext}
    ·refine RL.snoc ?_ (rl5.imp λx v z=>(z.mono s58).upd h48)
     exact gD.upd h48 {p8,p7,ws,rfl,h8,s8 _ _ h7,il7.mono s8,ne}
    ·rw[zm,zU]
     exact{nok.1,by simp,λx hx y hy e=>by
      have:y=(0+(i:Int),pn):=by simpa using hy
      rw[<-e] at this;exact fr (this▸hx)}
    ·rcases zH.mp hx with z | z
     ·exact nok.2 x z
     ·rw[zB.mp z]
      refine{by show 0<=0+(i:Int);ext,by show 0+(i:Int)<⇑S.aR;ext,zD qr,?_};show GH its (S.len (0+(i:Int)).toNat);rw[show(0+(i:Int)).toNat=i from by ext];exact iok
    ·rcases zH.mp hx with z | z
     ·rcases nlt x z with q | ⟨q1,q2⟩
      ·exact .inl q
      ·exact .inr {q1,by rw[tk];exact zK _ q2}
     ·rw[zB.mp z]
      exact .inr {by show 0+(i:Int)=i;ext,by rw[tk];exact zJ _ (zB.mpr rfl)}
   | false=>
    left;refine{ns,us,Lo.of rfl rfl,s05,h45,rl5,nok,λx hx=>?_,()};rcases nlt x hx with z | ⟨z1,z2⟩
    ·exact .inl z
    ·exact .inr {z1,by rw[tk];exact zK _ z2}
  ·rintro σ H4 ⟨ns,us,⟨e,rfl⟩,s4,h4,rl4,nok,nlt,nl⟩
   rw[zd] at nlt nl;left;refine{ns,us,Lo.of rfl rfl,s4,h4,rl4,nok,λx hx=>?_,()};rcases nlt x hx with z | ⟨z1,z2⟩
   ·ext
   ·ext
 ·rintro σ H3 ⟨ns,us,⟨e,rfl⟩,s3,h3,rl3,nok,nlt,nl⟩
  change kk ns D us H3 nok () s3 h3 rl3
inductive oK (vs:List V) (H:Hp) (Q:VK) (E:XK):Prop
 | mk (q:vw) (x:Int×Int) (_:vs=[.ref q]) (_:H q=some (lQ x)) (_:0<=x.1) (_:x.1<10000) (_:0<x.2) (_:x.2<10000) (_:Q (.str (gm x)) H)
def fc:dz P w base 1 T.dU oK:=by
 nomatch T.dU,["_law_length"]
 let⟨q,x,rfl,hq,x1,x2,x3,x4,kk⟩:=h;let sl:=yF;let a:=cb (n:=x.1) () x2;let b:=cb (n:=x.2) () x4;let na:=bM (n:=x.1) () x2;let nb:=bM (n:=x.2) () x4;let l1:("/": Str).length=1:=rfl;refine{_,(ag (aL (ptr cS (cy (pv 0) af) af)
  (aj (ax (oa bf T.d9 (aa (cy (pv 0) af) ae))))
  aA)
  (aj (ax (ao aM (ao aM (oa bf T.d9 (aa (cy (pv 0) af) ae)) az) (oa bf T.d9 (aa (cy (pv 0) af) ae)))))),?_}
 ac_rfl;left
 by_cases c:x.2=1
 ·refine cz (by rw[c];rfl) ?_
  exists na,?_;left;unfold gm at kk;rw[yR c] at kk;exact kk
 ·refine cD (zg λz=>c (V.int.inj z)) ?_
  unfold gm at kk;rw[yQ c] at kk;exists na,?_;exists by show(dec x.1).length+_<=_;ext,?_
  exists nb,?_;exists by show(dec x.1 ++"/").length+⇑(dec x.2)<=_;rw[bo];ext,?_
  exact kk
inductive jK (vs:List V) (H:Hp) (Q:VK) (E:XK):Prop
 | mk (v:V) (it:Item) (_:vs=[v]) (_:Is H (eQ it) v) (_:Lq it) (_:Q (.str (kA it)) H)
def Pr {H:Hp} {it:Item} {v:V} (h:Is H (eQ it) v):∃a q b,v=.ref a/\H a=some (.tup [q,.ref b])/\Is H (dO dL it.1) q/\H b=some (lQ it.2):=by
 unfold eQ Is at h;let⟨a,vs,rfl,ha,hl⟩:=h;unfold aB at hl;let⟨v1,r1,rfl,h1,hl⟩:=hl;unfold aB at hl;let⟨v2,r2,rfl,h2,hl⟩:=hl;unfold aB at hl;subst hl;cases fV (o:=some it.2) h2 with
 | ref hb=>exact{a,v1,_,rfl,ha,h1,hb}
def qL:dz P w base 2 T.jE jK:=by
 nomatch T.jE,["_law_item"]
 let⟨v,⟨o,x⟩,rfl,iv,iok,kk⟩:=h;let sl:=yF;let⟨a,q,b,rfl,ha,iq,hb⟩:=Pr iv;let⟨⟨hr',h1,h2,h3⟩,hq⟩:=id iok;let⟨_,p2,_⟩:=hr'.pos;let lx:=kz (x:=x) (by have:=h1;dsimp only at this;ext) h2 (by have:=p2;dsimp only at this;ext) h3;dsimp only at h1 h2 h3 p2 hq hb iq;refine{_,(ag (aL (bL (cF (cy (pv 0) af)))
  (aj (ax (ao aM az (cw (fc T) hr T.dU (aa (cy (pv 0) af) ae)))))
  aA)
  (aj (ax (ao aM (ao aM (ao aM (ao aM (oa bf T.d9 (aa (cy (cy (pv 0) af) af) ae)) az) (oa bf T.d9 (aa (cy (cy (pv 0) af) af) ae))) az) (cw (fc T) hr T.dU (aa (cy (pv 0) af) ae)))))),?_}
 ac_rfl;left;cases o with
 | none=>
  unfold dO Is at iq;subst iq;exists b,x,rfl,hb,(),h2,p2,h3,?_;let l2:("r:": Str).length=2:=rfl;refine{_,_,rfl,rfl,(),?_};exact kk
 | some pq=>
  let⟨q1,q2,q3,q4,_⟩:=hq pq rfl;let la:=cb (n:=pq.1) () ();let lb:=cb (n:=pq.2) () ();let na:=bM (n:=pq.1) () ();let nb:=bM (n:=pq.2) () ();cases fV (o:=some pq) iq with
  | ref hpq=>
   let l1:(":": Str).length=1:=rfl;exists na,?_;exists by show(dec pq.1).length+_<=_;ext,?_
   exists nb,?_;exists by show(dec pq.1 ++":").length+⇑(dec pq.2)<=_;rw[bo];ext,?_
   exists by show(dec pq.1 ++":" ++ dec pq.2).length+_<=_;rw[bo,bo];ext,?_
   exists b,x,rfl,hb,(),h2,p2,h3,?_;refine{_,_,rfl,rfl,by show(dec pq.1 ++":" ++ dec pq.2 ++":").length+_<=_;rw[bo,bo,bo];ext,?_};exact kk
inductive iD (vs:List V) (H:Hp) (Q:VK) (E:XK):Prop
 | mk (v:V) (r:Rep) (_:vs=[v]) (_:Is H (jI r) v) (_:RO r) (_:∀H',aG H H'->Q (.str (aO (.rep r))) H')
noncomputable def w4 (r:Rep):List Str:=["repeat",dec r.first,dec r.last,dec r.times]
def oN:dz P w base 1 T.gB iD:=by
 nomatch T.gB,["_law_repeat","_law_words","_law_begin","_law_passes"]
 let⟨v,r,rfl,iv,⟨⟨f1,f2,f3,f4,f5⟩,el,pl⟩,kk⟩:=h;let sl:=yF;let⟨a,ep,rfl,ha,ie⟩:=fT iv;obtain⟨ep',evs,e0,hep,ile⟩:∃ep' evs,V.ref ep=.ref ep'/\H ep'=some (.tup evs)/\aB H (r.ends.map mH) evs:=by unfold Is at ie;exact ie
 cases e0;let evl:=aZ ile;let n1:=bM (n:=r.first) (by have:=f1.1;ext) (by have:=f1.2;ext);let n2:=bM (n:=r.last) (by have:=f2.1;ext) (by have:=f2.2;ext);let n3:=bM (n:=r.times) () ();refine{_,(ag (b7 1 qN (aU (aa az (aa (oa bf T.d9 (aa (cy (pv 0) af) ae)) (aa (oa bf T.d9 (aa (cy (pv 0) af) ae)) (aa (oa bf T.d9 (aa (cy (pv 0) af) ae)) ae))))))
  (ag (dH yS rfl (kb (cy (pv 0) af)) (du (n:=2) rfl (aD (eN 2 qN) (aD (eN 3 qN) cG)))
  (aj (bX (bK yG yI yH bJ (pv 1) (aa (ao aM (ao aM (oa bf T.d9 (aa (pv 2) ae)) az) (bK yJ yL yK cK az (aa (og (ts:=["_law_one"]) (ys:=[]) (js:=[]) (te:=(EL UT (aY (aW 0) cE))) (kb (pv 3)) (gF 0) bG (oa bf T.d9 (aa (pv 0) ae))) ae))) ae)))))
  (aj (ax (bK yJ yL yK cK az (aa (pv 1) ae)))))),?_}
 ac_rfl;exists n1,?_;exists n2,?_;exists n3,?_;exists by show 4<=sizeLine;ext,?_
 intro W nW;generalize hU:upd H W _=H2;let s2:aG H H2:=by rw[<-hU];exact bF nW
 let h2:H2 W=some (.lst ((w4 r).map V.str)):=by rw[<-hU];exact aE
 clear hU;let ha2:=s2 _ _ ha;exists{_,bC (s2 _ _ hep)},?_;refine L4 (K:=K) (a:=ep) (xs:=evs) (λi σ H'=>∃(v2 v3:Option V),σ=[some (.ref a),some (.ref W),v2,v3]/\aG H H'/\H' W=some (.lst ((w4 r++(r.ends.take i).map oO).map V.str))) {none,none,rfl,s2,by rw[wI,yq,zW];exact h2} (λi σ H' _ h=>by let⟨_,_,_,z,_⟩:=h;exact bC (z _ _ hep)) ?_ ?_
 ·intro i x σ H3 hx hh
  refine eD λN kN0 kR0 _ _=>?_;let⟨v2,v3,rfl,s3,h3⟩:=hh;let⟨e,he,ie⟩:=df ile hx;let⟨b,q,rfl,hb,hq⟩:=sV ie;let eo:=f5 e (zD he);let pe:=pl e (zD he);let hb3:=s3 _ _ hb;let tk:r.ends.take (i+1)=r.ends.take i++[e]:=eG he;let ib:i<⇑r.ends:=(zA.mp he).1;let nb:=bM (n:=e.1) (by have:=eo.1;ext) (by have:=eo.2.1;ext);let lb:=cb (n:=e.1) (by have:=eo.1;ext) (by have:=eo.2.1;ext);refine{b,_,rfl,bC hb3,rfl,?_};refine{_,_,rfl,{_,_,rfl,{rfl,?_}}};exists .inl {rfl,_,ak h3},?_;exists nb,?_;exists by show(dec e.1).length+(":": Str).length<=_;have:(":": Str).length=1:=rfl;ext,?_
  exists{_,bC (s3 _ _ hq)},?_;refine gz (enc:=V.int) (ws:=e.2) (λz=>.str (dec z)) (λσ=>∃v,σ=[v]) () (s3 _ _ hq) {(none),rfl} ?_ ?_
  ·rintro z σ H4 R hz s4 ⟨_,rfl⟩ rr
   have:=eo.2.2.2 z hz;exists bM () (),?_;exact rr _ _ _ (aF _) fg {_,rfl}
  ·intro D vs H4 s4 hD il
   let e1:e.2.map (λz=>Dt.str (dec z))=(e.2.map dec).map Dt.str:=by rw[zC];rfl
   rw[e1] at il;rw[dY il] at hD;let l5:∀z∈e.2.map dec,⇑z<=5:=λz hz=>by
    let⟨p,hp,rfl⟩:=zI.mp hz;have:=eo.2.2.2 p hp;exact cb () ()
   let l9:⇑(e.2.map dec)<=9:=by rw[zd];exact pe
   let sb:=rP (sep:=",") l5;let jb:=Bh (sep:=",") l5;let mb:⇑(e.2.map dec)*(5+(",": Str).length)<=9*(5+1):=wH l9 (zp _);refine{",",D,_,rfl,rfl,ak hD,zN sb (zN mb ()),?_};refine{_,_,rfl,rfl,?_,?_}
   ·show(dec e.1 ++":").length+(Str.join "," (e.2.map dec)).length<=sizeLine
    rw[bo];have:(":": Str).length=1:=rfl;ext
   let h34:=s4 _ _ h3;let s04:=s3.trans s4;left;refine{W,_,_,rfl,rfl,h34,?_,?_}
   ·rw[zd,zj,zd,zR]
    show 4+_<_;ext
   exists _,_,rfl,cY nW s04,?_;let ew:(w4 r++(r.ends.take (i+1)).map oO).map V.str=(w4 r++(r.ends.take i).map oO).map V.str++[V.str (oO e)]:=by
    rw[tk,zm (f:=oO),<-zG,zm (f:=V.str)];rfl
   rw[aE,ew];rfl
 ·rintro σ H3 ⟨v2,v3,rfl,s3,h3⟩
  rw[evl,zO] at h3;left;let ll:∀z∈w4 r++r.ends.map oO,⇑z<=60:=λz hz=>by
   rcases zH.mp hz with y | y
   ·unfold w4 at y
    simp only[zE,zF,yX] at y;rcases y with rfl | rfl | rfl | rfl
    ·decide
    ·have:=cb (n:=r.first) (by have:=f1.1;ext) (by have:=f1.2;ext);ext
    ·have:=cb (n:=r.last) (by have:=f2.1;ext) (by have:=f2.2;ext);ext
    ·have:=cb (n:=r.times) () ();ext
   ·let⟨e,he,rfl⟩:=zI.mp y
    exact IP (f5 e he) (pl e he)
  let sb:=rP (sep:=" ") ll;refine{" ",W,_,rfl,rfl,ak h3,?_,?_}
  ·let l4:⇑(w4 r++r.ends.map oO)<=13:=by rw[zj,zd];show 4+_<=13;ext
   exact zN sb (zN (wH l4 (zp _)) (by show 13*(60+1)<=sizeLine;ext))
  exact kk _ s3
def Xb {c:Bool} {T1 T2:VK->Prop} {Z:VK} {H:Hp} (v:V) (h1:c=true->∀Z:VK,Z v H->T1 Z) (h2:c=false->∀Z:VK,Z v H->T2 Z) (hz:Z v H):if c=true then T1 Z else T2 Z:=by
 cases c with
 | true=>rw[yR rfl];exact h1 rfl Z hz
 | false=>rw[yQ (by simp)];exact h2 rfl Z hz
def PH {H:Hp} {j:Jump} {v:V} (h:Is H (gq j) v):∃a c,v=.ref a/\H a=some (.tup [.int j.vJ,.int j.Cd,.int j.dw,c])/\Is H (dO .int j.ik) c:=by
 unfold gq Is at h;let⟨a,vs,rfl,ha,hl⟩:=h;unfold aB at hl;let⟨v1,r1,rfl,h1,hl⟩:=hl;unfold aB at hl;let⟨v2,r2,rfl,h2,hl⟩:=hl;unfold aB at hl;let⟨v3,r3,rfl,h3,hl⟩:=hl;unfold aB at hl;let⟨v4,r4,rfl,h4,hl⟩:=hl;unfold aB at hl;subst hl;unfold Is at h1 h2 h3;subst h1 h2 h3;exact{(a),v4,rfl,ha,h4}
theorem gS {H:Hp} {α:Type} {d:α->Dt}:∀{xs:List α} {vs:List V},aB H (xs.map d) vs->∃ps:List (α×V),ps.map (·.1)=xs/\ps.map (·.2)=vs/\∀z∈ps,Is H (d z.1) z.2
 | [],_,h=>{[],rfl,by unfold aB at h;rw[h];rfl,by simp}
 | x::xs,_,h=>by
  rw[zk] at h;unfold aB at h;let⟨v,r,rfl,h1,h2⟩:=h;let⟨ps,e1,e2,e3⟩:=gS h2;refine{(x,v)::ps,by rw[zk,e1],by rw[zk,e2],λz hz=>?_};rcases zE.mp hz with rfl | hz
  ·exact h1
  ·exact e3 z hz
def qP {H:Hp} {x:Str×(Int×Int)×(Int×Int)} {v:V} (h:Is H (dy x) v):∃a t l,v=.ref a/\H a=some (.tup [.str x.1,t,l])/\Is H (dL x.2.1) t/\Is H (dL x.2.2) l:=by
 unfold dy Is at h;let⟨a,vs,rfl,ha,hl⟩:=h;unfold aB at hl;let⟨v1,r1,rfl,h1,hl⟩:=hl;unfold aB at hl;let⟨v2,r2,rfl,h2,hl⟩:=hl;unfold aB at hl;let⟨v3,r3,rfl,h3,hl⟩:=hl;unfold aB at hl;subst hl;unfold Is at h1;subst h1;exact{(a),v2,v3,rfl,ha,h2,h3}
def Pt {H:Hp} {x:Int×Str} {v:V} (h:Is H (K2 x) v):∃a,v=.ref a/\H a=some (.tup [.int x.1,.str x.2]):=by
 unfold K2 Is at h;let⟨a,vs,rfl,ha,hl⟩:=h;unfold aB at hl;let⟨v1,r1,rfl,h1,hl⟩:=hl;unfold aB at hl;let⟨v2,r2,rfl,h2,hl⟩:=hl;unfold aB at hl;subst hl;unfold Is at h1 h2;subst h1 h2;exact{(a),rfl,ha}
def TD (t:Told):Prop:=Ew t/\⇑(Sc.aV t)<=100/\∀w∈Sc.aV t,⇑w<=100
def fE {t:Told} (h:TD t):((Sc.aV t).map (λz:Str=>⇑z+(" ": Str).length)).sum<=sizeLine:=by
 let sl:=yF;let a:=rP (sep:=" ") h.2.2;let b:⇑(Sc.aV t)*(100+(" ": Str).length)<=100*(100+(" ": Str).length):=wH h.2.1 (zp _);exact zN a (zN b (by show 100*(100+1)<=sizeLine;ext))
def Kg (n:Str):("player ": Str)++n=aO (.bA n):=rfl
noncomputable def rws (ts:List Told):List V:=(ts.map aO).map V.str
def iG (a b:List Told):rws (a++b)=rws a++rws b:=by unfold rws;rw[zm,zm]
def fS (a:List Told):⇑(rws a)=⇑a:=by unfold rws;rw[zd,zd]
def EC {t:Told} (h:TD t):⇑(aO t)<=10100:=by
 let a:=Bh (sep:=" ") h.2.2;let b:⇑(Sc.aV t)*(100+(" ": Str).length)<=100*(100+(" ": Str).length):=wH h.2.1 (zp _);exact zN a (zN b (by show 100*(100+1)<=10100;decide))
theorem vD:∀{ts:List Told} {S S':bO} {i:Nat} {rest:List Str} {out:Out},Runs S ts S'->(∀t∈ts,TD t)->RX S' (i+⇑ts) rest out->RX S i (ts.map aO++rest) out
 | [],S,S',i,rest,out,h,_,k=>by cases(show S=S' from h);exact k
 | t::r,S,S',i,rest,out,⟨fn,fit,hd,sz,h⟩,td,k=>by
  let ht:=td t zt;refine .row (zN (EC ht) ∅) (DM ht.1) ht.1 (zN ht.2.1 ∅) (λy hy=>zN (ht.2.2 y hy) ∅) fn fit hd sz (vD h (λx hx=>td x (zr _ hx)) ?_);rw[zw] at k;rw[show i+1+⇑r=i+(⇑r+1) by ext];exact k
def Ka {t:Told} {S:bO} {i:Nat} {rest:List Str} {w:Str} (h:TD t) (fit:GB S t) (f:aX S t=some w):RX S i (aO t::rest) (.bad i w):=by
 let⟨ws,ew⟩:=DG t;let e:=AN h.1;let l:=h.2.1;let q:=h.2.2;rw[ew] at e l q;refine .bad (zN (EC h) ∅) (by rw[DM h.1,ew]) (by rw[zw] at l;ext) (λy hy=>zN (q y hy) ∅) (λt' e'=>?_) (by rw[e];exact f);rw[e] at e';cases e';exact{(rfl),fit}
def pk {rows:List Str} (ne:rows≠[]) (h:∀r∈rows,10∉r.cps.toList):Txt.split (Str.join "\n" rows) "\n"= rows:=gs (c:=10) ne h
def AH {rows:List Str} (h:∀r∈rows,⇑r<=10100) (hl:⇑rows<=1000):(rows.map (λz:Str=>⇑z+("\n": Str).length)).sum<=sizeLine/\(Str.join "\n" rows).length+2<=sizeLine:=by
 let sl:=yF;let a:=rP (sep:="\n") h;let b:⇑rows*(10100+("\n": Str).length)<=1000*(10100+("\n": Str).length):=wH hl (zp _);let c:1000*(10100+("\n": Str).length)=1000*10101:=rfl;let d:=join_le "\n" rows;exact{(()),()}
def aK {a:Str} {l:List Str} {p:Str->Prop} (ha:p a) (hl:∀x∈l,p x):∀x∈a::l,p x:=by
 intro x hx;rcases zE.mp hx with rfl | hx
 ·exact ha
 ·exact hl x hx
def all_nil {p:Str->Prop}:∀x∈([]:List Str),p x:=λ_ h=>nomatch h
inductive uq (vs:List V) (H:Hp) (Q:VK) (E:XK):Prop
 | mk (m first last times:Int) (_:vs=[.int m,.int first,.int last,.int times]) (_:0<=m) (_:m<1099511627776) (_:0<=first) (_:first<=last) (_:last<=200) (_:2<=times) (_:times<=9) (_:∀(es:List Sc.End) v H',Mp first last times es->aG H H'->Is H' (.tup (es.map mH)) v->Q v H')
def Lu (first last:Int) (bs:List Int):Prop:=bs≠[]/\bs.Pairwise (·<·)/\∀b∈bs,first<=b/\b<=last
def Qi {first last:Int} {bs:List Int} (h:Lu first last bs):∃b,(bs.map V.int)[⇑(bs.map V.int)-1]?=some (.int b)/\first<=b/\b<=last/\∀x∈bs,x<=b:=by
 let⟨ne,asc,hin⟩:=h;let e:=xW ne;let hm:=List.getLast_mem ne;refine{bs.getLast ne,?_,(hin _ hm).1,(hin _ hm).2,λx hx=>?_}
 ·rw[zd,zL,List.getLast_eq_getElem,ze (by have:=yv.mpr ne;ext)];rfl
 ·rw[<-e] at hx asc
  rw[zV] at asc;rcases zH.mp hx with z | z
  ·exact y8 (asc.2.2 x z _ (zB.mpr rfl))
  ·rw[zB.mp z];exact Int.le_refl _
def Qh {first last b c:Int} {bs:List Int} (h:Lu first last bs) (hb:∀x∈bs,x<=b) (h1:first<=b) (h2:b<c) (h3:c<=last):Lu first last (bs++[c]):=by
 let⟨ne,asc,hin⟩:=h;refine{by simp,?_,λx hx=>?_}
 ·rw[zV]
  refine{asc,by simp,λx hx y hy=>?_};let ey:y=c:=by simpa using hy
  have:=hb x hx;ext
 ·rcases zH.mp hx with z | z
  ·exact hin x z
  ·let ey:x=c:=by simpa using z
   ext
noncomputable def mD (m:Int) (n k:Nat):Nat:=if k<n then(k+(m/90).toNat)%n else(m/((k:Int)+7)%(n:Int)).toNat
def uL:dz P w base 1 T.lO uq:=by
 nomatch T.lO,["_law_m","_law_first","_law_last","_law_times","_law_begins","_law_passes","_law_k","_law_spot"]
 let⟨m,first,last,times,rfl,m0,m1,f0,fl,l1,t0,t1,kk⟩:=h;let sl:=yF;refine{_,(ag (aL (PW.pt (d8 (ptr cS (pv 2) (pv 1)) (dk (ptr cS (ao aQ (pv 0) af) af))))
  (aj (ax (bT ae)))
  aA)
  (ag (b7 4 qN (aU (aa (ao bw (pv 1) (ao aQ (ao aS (pv 0) af) (ao bw (ao ly (pv 2) (pv 1)) af))) ae)))
  (ag (AR yS (PW.pt (dr (ptr fo (dC ay T.bx (aa (pv 4) ae)) (pv 3)) (dr (ptr fo (dF (pv 4) (m6 jh af)) (pv 2)) (c9 (ptr fq (ao aQ (ao aS (pv 0) (ao bw (ao eE af (dC ay T.bx (aa (pv 4) ae))) af)) af) af)))))
  (aj (bX (bK yG yI yH bJ (pv 4) (aa (dC (NC rfl) T.U5 (aa (pv 2) (aa (ao bw (ao bw (dF (pv 4) (m6 jh af)) af) (ao aQ (ao aS (pv 0) (ao bw (dC ay T.bx (aa (pv 4) ae)) af)) af)) ae))) ae)))))
  (ag (Rg (i:=5) (ts:=["_law_begin"]) (ys:=[]) (js:=[]) (te:=(oJ cE)) (bY (pv 4)) (gF 0) bG (aU ae) qN)
  (ag (dH yS rfl (cQ (by rfl) T.dE (aa (pv 3) ae)) (eN 6 qN)
  (ag (b7 7 qN (HQ (ptr fo (pv 6) (dC ay T.bx (aa (pv 4) ae))) (ao aQ (ao bw (pv 6) (ao aS (pv 0) af)) (dC ay T.bx (aa (pv 4) ae))) (ao aQ (ao aS (pv 0) (ao bw (pv 6) af)) (dC ay T.bx (aa (pv 4) ae)))))
   (aj (bX (bK yG yI yH bJ (dF (pv 5) (pv 7)) (aa (ao bw (pv 6) af) ae))))))
  (aj (ax (oa dI T.iL (aa (og (ts:=["_law_begin","_law_some"]) (ys:=[]) (js:=[]) (g:=(CY K 2 (eI (bW 0) (eI (bW 1) CZ)))) (te:=(EH (aY (aW 0) (aY (EL (S8 K) (aY (aW 1) cE)) cE)))) (Ki (by rfl) T.Pk (aa (pv 4) (aa (pv 5) ae))) (du (n:=2) rfl (aD (gF 0) (aD (gF 1) cG))) bG (bT (aa (pv 0) (aa (oa dI T.iL (aa (pv 1) ae)) ae)))) ae))))))))),?_}
 ac_rfl;left;let none_:∀(Hq:Hp),aG H Hq->(∀p,Hq p=none->Q (.ref p) (upd Hq p (.tup []))):=λHq sq p n=>kk [] (.ref p) _ Nk (sq.trans (bF n)) (cM aE dn);refine LN (decide (V.int last=V.int first)||decide (V.int (m%3)=V.int 0)) ?_ ?_ ?_
 ·intro c1 Z hz
  rw[c1,Bool.false_or] at hz;change hz
 ·intro c1;rw[c1,Bool.true_or]
 cases qv:(decide (V.int last=V.int first)||decide (V.int (m%3)=V.int 0)) with
 | true=>
  change{by show 0<=sizeLine;ext,none_ H (aF _)}
 | false=>
 exists by show 0<last-first+1;ext,?_
 let a0:0<=m/3%(last-first+1):=zy _ ();let a1:m/3%(last-first+1)<last-first+1:=zv _ ();exists by show 1<=sizeLine;ext,λB nB=>?_
 generalize hU1:upd H B _=H1;let s1:aG H H1:=aG.A8 hU1 nB;let h1:H1 B=some (.lst ([first+m/3%(last-first+1)].map V.int)):=BU hU1;let b1:Lu first last [first+m/3%(last-first+1)]:=by
  refine{by simp,by simp,λb hb=>?_};have:b=first+m/3%(last-first+1):=by simpa using hb
  ext
 clear hU1;left;refine Mw (λn σ H'=>∃bs:List Int,n=9-⇑bs/\σ=[some (.int m),some (.int first),some (.int last),some (.int times),some (.ref B),none,none,none]/\aG H H'/\H' B=some (.lst (bs.map V.int))/\Lu first last bs/\(⇑bs:Int)<=times)
  (λσ H'=>∃bs:List Int,σ=[some (.int m),some (.int first),some (.int last),some (.int times),some (.ref B),none,none,none]/\aG H H'/\H' B=some (.lst (bs.map V.int))/\Lu first last bs/\(⇑bs:Int)<=times)
  {_,_,rfl,rfl,s1,h1,b1,by show(1:Int)<=times;ext} ?_ ?_
 ·rintro n σ H2 ⟨bs,rfl,rfl,s2,h2,b2,bl⟩ N hN
  let⟨lb,hlb,lb0,lb1,lbx⟩:=Qi b2;let out:=hN _ _ {(bs),rfl,s2,h2,b2,bl};exists B,_,rfl,.inl (ak h2),?_;rw[zd];left;let q0:0<=m/(7*(⇑bs:Int)+5)%4:=zy _ ∅;refine eC (decide ((⇑bs:Int)<times)&&(decide (lb<last)&&decide (0<m/(7*(⇑bs:Int)+5)%4))) ?_ ?_ ?_
  ·intro c1 Z hz
   rw[c1,yY] at hz;exists B,_,-1,_,rfl,rfl,ak h2,lI hlb,?_;left;refine eC (decide (lb<last)&&decide (0<m/(7*(⇑bs:Int)+5)%4)) ?_ ?_ hz
   ·intro c2 Z hz
    rw[c2,yY] at hz;exists B,_,rfl,.inl (ak h2),?_;rw[zd];exists{by show 0<7*(⇑bs:Int)+5;ext,by show 7*(⇑bs:Int)+5<1073741824;ext},?_;change hz
   ·intro c2;rw[c2,yW]
  ·intro c1;rw[c1,yW]
  cases qw:(decide ((⇑bs:Int)<times)&&(decide (lb<last)&&decide (0<m/(7*(⇑bs:Int)+5)%4))) with
  | false=>exact cD rfl out
  | true=>
   simp only[zP,xE] at qw;let⟨c1,c2,c3⟩:=qw;refine cz rfl {λσ H'=>∃bs':List Int,⇑bs'=⇑bs+1/\σ=[some (.int m),some (.int first),some (.int last),some (.int times),some (.ref B),none,none,none]/\aG H H'/\H' B=some (.lst (bs'.map V.int))/\Lu first last bs'/\(⇑bs':Int)<=times,?_,?_}
   ·rintro σ' H' ⟨bs',e1,e2,e3,e4,e5,e6⟩
    exact{9-⇑bs',(),bs',rfl,e2,e3,e4,e5,e6}
   exists .inl {rfl,_,ak h2},?_;exists B,_,-1,_,rfl,rfl,ak h2,lI hlb,?_;exists B,_,rfl,.inl (ak h2),?_;rw[zd];exists{by show 0<(⇑bs:Int)+11;ext,by show(⇑bs:Int)+11<1073741824;ext},?_;left;let r0:0<=m/((⇑bs:Int)+11)%3:=zy _ ∅;refine{_,_,rfl,?_};exists B,_,_,rfl,rfl,h2,by rw[zd];ext,?_
   left;refine{bs++[if lb+1+m/((⇑bs:Int)+11)%3<last then lb+1+m/((⇑bs:Int)+11)%3 else last],by rw[zj];rfl,rfl,cY nB s2,by rw[aE,zm];rfl,Qh b2 lbx lb0 ?_ ?_,by rw[zj];show((⇑bs+1:Nat):Int)<=times;ext}
   ·split <;> ext
   ·split <;> ext
 ·clear s1 h1 b1
  rintro σ1 H1 ⟨bs,rfl,s1,h1,b1,bl⟩;let bp:0<⇑bs:=yv.mpr b1.1;exists{_,ak h1},?_;refine Gf (by rw[zd];ext) (ak h1) {(none),rfl} λD qs H2 s2 nD h2 nd nDq ql hq=>?_;rw[zd] at ql;exists by ext,(),?_
  let neB:∀q∈qs,q≠B:=λq hq' e=>by
   have:=(hq q hq').1;rw[e,h1] at this;cases this
  let tn:((times.toNat:Nat):Int)=times:=()
  refine i9 (λk σ H'=>∃(v6 v7:Option V),σ=[some (.int m),some (.int first),some (.int last),some (.int times),some (.ref B),some (.ref D),v6,v7]/\aG H H'/\H' B=some (.lst (bs.map V.int))/\H' D=some (.lst (qs.map V.ref))/\∀(i:Nat) (q:vw),qs[i]?=some q->H' q=some (.lst ((cL (mD m ⇑bs) k i).map V.int)))
   {none,none,rfl,s1.trans s2,s2 _ _ h1,h2,λi q e=>(hq q (zD e)).2} ?_ ?_
  ·intro k σ H3 hk hh
   refine eD λN kN0 kR0 _ _=>?_;let⟨v6,v7,rfl,s3,hB3,hD3,hq3⟩:=hh;left;let m90:0<=m/90:=zX m0 ∅;let sl0:mD m ⇑bs k<⇑bs:=by
    unfold mD;split
    ·exact vc _ bp
    ·have:=zv (m/((k:Int)+7)) (b:=(⇑bs:Int)) ()
     have:=zy (m/((k:Int)+7)) (b:=(⇑bs:Int)) ();ext
   refine{B,_,rfl,.inl (ak hB3),?_};rw[zd];left;refine Xb (H:=H3) (.int ((mD m ⇑bs k:Nat):Int)) ?_ ?_ ?_
   ·intro c1 Z hz
    let c1':k<⇑bs:=by have:=ye c1;ext
    let e:((mD m ⇑bs k:Nat):Int)=(0+(k:Int)+m/90)%(⇑bs:Int):=by
     unfold mD;rw[yR c1',Int.natCast_emod,Int.natCast_add,Int.toNat_of_nonneg m90,Int.zero_add]
    rw[e] at hz;exists B,_,rfl,.inl (ak hB3),?_;rw[zd];change{by show 0<(⇑bs:Int);ext,hz}
   ·intro c1 Z hz
    let c1':¬k<⇑bs:=by have:=of_decide_eq_false c1;ext
    let e:((mD m ⇑bs k:Nat):Int)=m/(0+(k:Int)+7)%(⇑bs:Int):=by
     unfold mD;rw[yQ c1',Int.zero_add,Int.toNat_of_nonneg (zy _ ())]
    rw[e] at hz;exists{by show 0<0+(k:Int)+7;ext,by show 0+(k:Int)+7<1073741824;ext},?_;exists B,_,rfl,.inl (ak hB3),?_;rw[zd];change{by show 0<(⇑bs:Int);ext,hz}
   left;let qe:qs[mD m ⇑bs k]?=some (qs[mD m ⇑bs k]'()):=ze ();generalize qs[mD m ⇑bs k]'()=q at qe;let qm:=zD qe;refine{D,_,_,.ref q,rfl,rfl,ak hD3,bz (by rw[zL,qe];rfl),?_};let hq3':=hq3 _ _ qe;refine{.inl {rfl,_,ak hq3'},?_};exists q,_,_,rfl,rfl,hq3',by rw[zd];have:=AV (sp:=mD m ⇑bs) (i:=mD m ⇑bs k) (k:=k);ext,?_
   exists _,_,rfl,cY (s1.back (hq q qm).1) s3,by rw[aC (neB q qm).symm];exact hB3,by rw[aC (λz=>nDq (by rw[z];exact qm))];exact hD3,λi q' e=>?_
   by_cases ei:i=mD m ⇑bs k
   ·have:q'=q:=by rw[ei,qe] at e;exact(ym e).symm
    rw[this,aE,cL,yR ei,zm,Int.zero_add,ei];rfl
   ·let nq:q'≠q:=λz=>by
     rw[z] at e;exact ei (Ik nd e qe)
    rw[aC nq,cL,yQ ei];exact hq3 i q' e
  ·rintro σ H3 ⟨v6,v7,rfl,s3,hB3,hD3,hq3⟩
   left;let eb:=sv V.int 0 bs;let eq:=sv V.ref 0 qs;rw[ql] at eq;refine{false,false,B,D,_,_,rfl,ak hB3,ak hD3,?_};refine K4 (ws:=List.range ⇑bs) (e1:=λi=>.int (bs.getD i 0)) (e2:=λi=>.ref (qs.getD i 0)) (λi=>mH (bs.getD i 0,cL (mD m ⇑bs) times.toNat i)) (λσ=>∃v w,σ=[v,w]) (by rw[zT];ext) (by rw[eb];exact ak hB3) (by rw[eq];exact ak hD3) {(none),none,rfl} ?_ ?_
   ·rintro i σ H4 p R hi s4 hp ⟨v,w',rfl⟩ rr
    let il:=yU.mp hi;let qe:qs[i]?=some (qs.getD i 0):=by rw[List.getD_eq_getElem?_getD,ze ()];rfl
    let h5:=s4 _ _ (hq3 i _ qe);refine{p,_,rfl,bC hp,rfl,?_};refine{_,_,rfl,{_,_,rfl,{rfl,?_}}};left;refine{_,_,rfl,.inl {ak h5,?_}};intros p6 H6 s6 h6;exists dj,?_;intros p7 H7 s7 h7;exact rr _ _ _ (s6.trans s7) (cM h7 (bc cW (bc (cM (s7 _ _ h6) qT) dn))) {_,_,rfl}
   ·intro D5 vs5 H5 s5 _ h5 il5
    rw[Nl] at il5;left;refine{D5,_,rfl,.inl {ak h5,?_}};intros p6 H6 s6 h6;refine kk _ _ _ ?_ ((s3.trans s5).trans s6) (cM h6 (il5.mono s6));have:=KN (first:=first) (last:=last) (t:=times.toNat) (bs:=bs) (sp:=mD m ⇑bs) () b1.1 b1.2.1 b1.2.2 ?_ ?_ ()
    ·rw[tn] at this;exact this
    ·intro j hj
     unfold mD;split
     ·exact vc _ bp
     ·have:=zv (m/((j:Int)+7)) (b:=(⇑bs:Int)) ()
      have:=zy (m/((j:Int)+7)) (b:=(⇑bs:Int)) ();ext
    ·intro i hi
     let⟨j,hj,ej⟩:=QS (c:=(m/90).toNat) hi;exact{j,(),by unfold mD;rw[yR hj];exact ej}
def GF (many:Int) (r:Rep):Prop:=0<=r.first/\r.first<=r.last/\r.last<many/\2<=r.times/\r.times<=9/\Mp r.first r.last r.times r.ends
def Ex (many:Int) (rs:List Rep):Prop:=⇑rs<=4/\(∀r∈rs,GF many r)/\rs.Pairwise λa b=>a.last<b.first
inductive pA (vs:List V) (H:Hp) (Q:VK) (E:XK):Prop
 | mk (c many:Int) (_:vs=[.int c,.int many]) (_:many<=200) (_:∀(rs:List Rep) D us H',Ex many rs->aG H H'->H' D=some (.lst us)->aB H' (rs.map jI) us->Q (.ref D) H')
def pO:dz P w base 2 T.iA pA:=by
 nomatch T.iA,["_law_cell","_law_many","_law_repeats","_law_bar","_law_k","_law_m","_law_first","_law_last","_law_times"]
 let⟨c,many,rfl,my,kk⟩:=h;let sl:=yF;refine{_,(ag (b7 2 qN (aU ae))
  (ag (b7 3 qN af)
  (ag (dH yS rfl (cQ (by rfl) T.dE (aa af ae)) (eN 4 qN)
  (ag (b7 5 qN (cw (cB T) hr T.cX (aa (pv 0) (aa (ao bw (pv 4) af) ae))))
   (ag (b7 6 qN (ao bw (pv 3) (ao aQ (pv 5) af)))
   (ag (b7 7 qN (ao bw (pv 6) (ao aQ (ao aS (pv 5) af) af)))
   (aj (aL (PW.pt (dr (ptr fo (pv 7) (pv 1)) (c9 (ptr fq (ao aQ (ao aS (pv 5) af) af) af))))
   (ag (b7 8 qN (ao bw af (ao aQ (ao aS (pv 5) af) (dF (aU (aa af (aa af (aa af ae)))) (ao aQ (ao aS (pv 5) af) af)))))
    (ag (bX (bK yG yI yH bJ (pv 2) (aa (bT (aa (pv 6) (aa (pv 7) (aa (pv 8) (aa (cw (uL T) hr T.lO (aa (ao aS (pv 5) af) (aa (pv 6) (aa (pv 7) (aa (pv 8) ae))))) ae))))) ae)))
    (aj (b7 3 qN (ao bw (pv 7) af)))))
   aA))))))
  (aj (ax (pv 2)))))),?_}
 ac_rfl;left
 intros D nD s2 h2 H2
 exists by decide,(by decide),?_
 refine i9 (λi σ H'=>∃(rs:List Rep) (us:List V) (bar:Int),Lo [some (.int c),some (.int many),some (.ref D),some (.int bar)] 5 σ/\aG H H'/\H' D=some (.lst us)/\aB H' (rs.map jI) us/\⇑rs<=i/\0<=bar/\(∀r∈rs,GF many r/\r.last<bar)/\rs.Pairwise λa b=>a.last<b.first)
  {[],[],0,Lo.of rfl rfl,s2,h2,dn,zp _,∅,by simp,by simp} ?_ ?_
 ·intro i σ H3 hi hh
  refine eD λN kN0 kR0 _ _=>?_;let⟨rs,us,bar,⟨e,rfl⟩,s3,h3,il3,rl,b0,rok,asc⟩:=hh;exists c,_,rfl,(),(),?_;let m0:0<=mixed c (0+(i:Int)+500):=zy _ ∅;let m1:mixed c (0+(i:Int)+500)<2147483399:=zv _ ∅;generalize mixed c (0+(i:Int)+500)=m at m0 m1;let a0:0<=m%4:=zy _ ∅;let e0:0<=m/4%8:=zy _ ∅;left;refine eC (decide (bar+m%4+m/4%8<many)&&decide (0<m/32%4)) ?_ ?_ ?_
  ·intro c1 Z hz
   rw[c1,yY] at hz;change hz
  ·intro c1;rw[c1,yW]
  cases qw:(decide (bar+m%4+m/4%8<many)&&decide (0<m/32%4)) with
  | false=>
   change{rs,us,bar,Lo.of rfl rfl,s3,h3,il3,(),b0,rok,asc}
  | true=>
   simp only[zP,xE] at qw;let⟨c1,c2⟩:=qw;exists by show 3<=sizeLine;ext,?_
   intros p4 H4 s4 h4;let g0:0<=m/1024%3:=zy _ ∅;let g1:m/1024%3<3:=zv _ ∅;obtain⟨jj,hjj⟩:∃j:Nat,m/1024%3=(j:Int):={(m/1024%3).toNat,()}
   obtain⟨z,hz,z0,z1⟩:∃z:Int,[V.int 2,V.int 3,V.int 8][jj]?=some (.int z)/\2<=z/\z<=8:=by
    have:jj<3:=()
    match jj,this with
    | 0,_=>exact{2,rfl,∅,∅}
    | 1,_=>exact{3,rfl,∅,∅}
    | 2,_=>exact{8,rfl,∅,∅}
   exists p4,_,m/1024%3,.int z,rfl,rfl,ak h4,(by rw[hjj];exact bz hz),?_;exists by show 0<z;ext,?_
   let t0:0<=m/128%z:=zy _ ();let t1:m/128%z<z:=zv _ ();exists .inl {rfl,_,ak (s4 _ _ h3)},?_;left;refine{_,_,_,_,rfl,zX m0 ∅,?_,(),(),(),(),(),λes v H5 VF s5 h5=>?_}
   ·have:=zY (a:=m) 7 m0;ext
   exists by show 4<=sizeLine;ext,?_
   intros p6 H6 s6 h6;let s36:=s4.trans (s5.trans s6);let h36:=s36 _ _ h3;refine{D,us,_,rfl,rfl,h36,by have:=aZ il3;ext,?_};let nt:cZ (H6 D):=by rw[h36];exact λ_ z=>by cases z
   let ix:Is H6 (jI {bar+m%4,bar+m%4+m/4%8,2+m/128%z,es}) (.ref p6):=cM h6 (bc cW (bc cW (bc cW (bc (h5.mono s6) dn))));left;refine{rs++[{bar+m%4,bar+m%4+m/4%8,2+m/128%z,es}],_,_,Lo.of rfl rfl,cY nD (s3.trans s36),aE,?_,by rw[zj];show ⇑rs+1<=i+1;ext,(),λr hr=>?_,?_}
   ·rw[zm]
    exact dm (Is.upd nt ix) (aB.upd nt (il3.mono s36))
   ·rcases zH.mp hr with y | y
    ·have:=rok r y
     exact{(this.1),()}
    ·rw[zB.mp y]
     exact{{by show 0<=bar+m%4;ext,by show bar+m%4<=bar+m%4+m/4%8;ext,c1,by show 2<=2+m/128%z;ext,by show 2+m/128%z<=9;ext,VF},by show bar+m%4+m/4%8<bar+m%4+m/4%8+1;ext}
   ·rw[zV]
    refine{asc,by simp,λa ha b hb=>?_};let eb:b=⟨bar+m%4,bar+m%4+m/4%8,2+m/128%z,es⟩:=by simpa using hb
    rw[eb];have:=(rok a ha).2;show a.last<bar+m%4;ext
 ·rintro σ H3 ⟨rs,us,bar,⟨e,rfl⟩,s3,h3,il3,rl,b0,rok,asc⟩
  change kk rs D us H3 {rl,λr hr=>(rok r hr).1,asc} s3 h3 il3
def Sh (H:Hp) (p:vw) (rs:List Rep):Prop:=⇑rs<=1000/\(∀r∈rs,⇑r.ends<=1000)/\∃rv,H p=some (.lst rv)/\aB H (rs.map jI) rv
theorem Sh.mono {H H':Hp} (s:aG H H') {p:vw} {rs:List Rep} (h:Sh H p rs):Sh H' p rs:=by
 let⟨h1,h2,rv,h3,h4⟩:=h;exact{h1,h2,rv,s _ _ h3,h4.mono s}
inductive hV (vs:List V) (H:Hp) (Q:VK) (E:XK):Prop
 | mk (p:vw) (rs:List Rep) (b:Int) (_:vs=[.ref p,.int b]) (_:Sh H p rs) (_:∀H',aG H H'->Q (.bl (jV rs b)) H')
inductive ka (vs:List V) (H:Hp) (Q:VK) (E:XK):Prop
 | mk (p:vw) (rs:List Rep) (b:Int) (_:vs=[.ref p,.int b]) (_:Sh H p rs) (_:∀H',aG H H'->Q (.bl (eP rs b)) H')
def oX:dz P w base 1 T.lM ka:=by
 nomatch T.lM,["_law_repeats","_law_bar"]
 let⟨p,rs,b,rfl,⟨rl,el,rv,hp,il⟩,kk⟩:=h;let sl:=yF;let⟨ps,e1,e2,e3⟩:=gS il;let pln:⇑ps=⇑rs:=by rw[<-e1,zd]
 refine{_,(aj (ax (dC (gA rfl) T.Bc (aa (og (ts:=["_law_first","_law_last","_law_times","_law_ends"]) (ys:=["_law_bar"]) (js:=[1]) (g:=(CY K 4 (eI (bW 0) (eI (bW 1) (eI (bW 2) (eI (bW 3) CZ)))))) (te:=(Af (tO λi j=>.bl (decide (i<j))) (tO λi j=>.bl (decide (i<=j))) (aW 0) (aW 4) (aW 1))) (bY (pv 0)) (du (n:=4) rfl (aD (gF 0) (aD (gF 1) (aD (gF 2) (aD (gF 3) cG))))) bG (HS fo iE (pv 0) (pv 4) (pv 1))) ae)))),?_};ac_rfl;exists{_,ak hp},?_;refine d4 (enc:=λq:Rep×V=>q.2) (ws:=ps) (λq=>.bl (decide (q.1.first<b)&&decide (b<=q.1.last))) (λσ=>∃v1 v2 v3 v4,σ=[v1,v2,v3,v4,some (.int b)]) () (by rw[e2];exact ak hp) {_,_,_,_,rfl} ?_ ?_
 ·rintro z σ H1 R hz s1 ⟨v1,v2,v3,v4,rfl⟩ rr
  let⟨a,e,ev,ha,_⟩:=fT ((e3 z hz).mono s1);rw[ev];refine{a,_,rfl,bC ha,rfl,?_};refine{_,_,rfl,{_,_,rfl,{_,_,rfl,{_,_,rfl,{rfl,?_}}}}};left
  by_cases c:z.1.first<b
  ·refine cz (zh c) ?_
   change rr _ _ _ (aF _) (by rw[zh c,yY];unfold Is;rfl) {_,_,_,_,rfl}
  ·refine cD (zg c) ?_
   exact rr _ _ _ (aF _) (by rw[zg c,yW];unfold Is;rfl) {_,_,_,_,rfl}
 ·intro D vs H1 s1 nD hD ilD
  let ee:ps.map (λq:Rep×V=>Dt.bl (decide (q.1.first<b)&&decide (b<=q.1.last)))=(rs.map λr=>decide (r.first<b)&&decide (b<=r.last)).map Dt.bl:=by rw[<-e1,zC,zC];rfl
  rw[ee] at ilD;rw[jx ilD] at hD;exists D,_,rfl,ak hD,?_;have:=kk _ s1;unfold eP at this;rw[wG];exact this
def mi:dz P w base 1 T.iZ hV:=by
 nomatch T.iZ,["_law_repeats","_law_bar","_law_first","_law_last","_law_times","_law_ends","_law_mine"]
 let⟨p,rs,b,rfl,⟨rl,el,rv,hp,il⟩,kk⟩:=h;let sl:=yF;let rvl:=aZ il;refine{_,(ag (dH yS rfl (bY (pv 0)) (du (n:=4) rfl (aD (eN 2 qN) (aD (eN 3 qN) (aD (eN 4 qN) (aD (eN 5 qN) cG)))))
  (aj (aL (OU iE iE (pv 2) (pv 1) (pv 3))
   (ag (Rg (i:=6) (ts:=["_law_begin","_law_passes"]) (ys:=["_law_bar"]) (js:=[1]) (g:=(CY K 2 (eI (bW 0) (eI (bW 1) CZ)))) (tc:=(mM (cP (tO λi j=>.bl (decide (i<=j))) (aW 0) (aW 2)))) (te:=(aW 1)) (kb (pv 5)) (du (n:=2) rfl (aD (gF 0) (aD (gF 1) cG))) (jR (ptr iE (pv 0) (pv 2))) (pv 1) qN)
    (aj (ax (O1 (cR (Ft hr.units) (pv 6) (aU ae) (fe _)) (hX (cR oh (pv 4) (dF (pv 6) (m6 jh af)) (by with_unfolding_all rfl)))))))
   aA)))
  (aj (ax lY))),?_}
 ac_rfl;exists{_,ak hp},?_;refine gW (K:=K) (a:=p) (xs:=rv) (λi σ H'=>H'=H/\(∀r∈rs.take i,GN r b=false)/\∃(v2 v3 v4 v5 v6:Option V),σ=[some (.ref p),some (.int b),v2,v3,v4,v5,v6]) {rfl,by simp,none,none,none,none,none,rfl} (λi σ H' _ h=>by rw[h.1];exact ak hp) ?_ ?_
 ·rintro i x σ H1 hx ⟨rfl,no,v2,v3,v4,v5,v6,rfl⟩
  let⟨r,hr',ir⟩:=df il hx;let⟨a,ep,rfl,ha,ie⟩:=fT ir;let rin:=zD hr';let nxt:GN r b=false->∀y∈rs.take (i+1),GN y b=false:=λe y hy=>by
   rw[eG hr'] at hy;rcases zH.mp hy with z | z
   ·exact no y z
   ·rw[zB.mp z];exact e
  refine{a,_,rfl,bC ha,rfl,?_};refine{_,_,rfl,{_,_,rfl,{_,_,rfl,{_,_,rfl,{rfl,?_}}}}};left
  by_cases c1:r.first<=b
  ·refine cz (zh c1) ?_
   left
   by_cases c2:b<=r.last
   ·refine cz (zh c2) ?_
    left;obtain⟨ep',evs,e0,hep,ile⟩:∃ep' evs,V.ref ep=.ref ep'/\H1 ep'=some (.tup evs)/\aB H1 (r.ends.map mH) evs:=by unfold Is at ie;exact ie
    cases e0;let⟨ps,e1,e2,e3⟩:=gS ile;let pln:⇑ps=⇑r.ends:=by rw[<-e1,zd]
    let elr:=el r rin;refine{{_,bC hep},?_};let hro:dP rs b=some r:=Bp hr' (by rw[zh c1,zh c2];rfl) λy hy=>no y hy;refine BI (ws:=ps) (enc:=λq:Sc.End×V=>q.2) (λq=>decide (q.1.1<=b)) (λq=>ua q.1.2) (λσ=>∃v w',σ=[v,w',some (.int b)]) () {_,_,rfl} (λi H hi sm=>KC (i6 sm hep) (by rw[<-e2,zd];exact hi)) (λH sm=>{_,i6 sm hep,by rw[<-e2,zd];exact zp _}) ?_ ?_ ?_
    ·rintro i x H H2 hi sm ⟨rfl,hy⟩
     let hx':=hy _ (i6 sm hep);rw[<-e2,zL,ze hi] at hx';cases hx';exact{(rfl),rfl}
    ·rintro z σ H2 R N hz s2 ⟨v,w',rfl⟩ rr nn
     let⟨a2,q2,ev,ha2,hq2⟩:=sV ((e3 z hz).mono s2);rw[ev];refine{a2,_,rfl,bC ha2,rfl,?_};refine{_,_,rfl,{_,_,rfl,{rfl,?_}}};left
     by_cases c3:z.1.1<=b
     ·refine cz (zh c3) ?_
      change rr (zh c3) _ _ _ (aF _) (cM hq2 qT) {_,_,rfl}
     ·refine cD (zg c3) ?_
      exact nn (zg c3) _ _ (aF _) {_,_,rfl}
    ·intro D vs H2 s2 nD hD ilD
     let ee:(ps.filter λq:Sc.End×V=>decide (q.1.1<=b)).map (λq=>ua q.1.2)=((r.ends.filter λe=>decide (e.1<=b)).map (·.2)).map ua:=by
      rw[<-e1,List.filter_map,zC,zC];rfl
     rw[ee] at ilD;let vl:=aZ ilD;rw[zd] at vl;exists by show 0<=sizeLine;ext,?_
     intros p3 H3 s3 h3;refine{D,p3,_,_,rfl,rfl,.inl {ak (s3 _ _ hD),ak h3},.inr (.inl rfl),?_};let hlp:jV rs b=(match (r.ends.filter λe=>decide (e.1<=b)).getLast? with | none=>true | some e=>decide (r.times∈e.2)):=by unfold jV;rw[hro];try rfl
     rw[hlp] at kk;clear hlp ee;generalize (r.ends.filter λe=>decide (e.1<=b))=fs at kk ilD vl;let s13:=s2.trans s3
     by_cases e:vs=[]
     ·refine{_,rfl,cz (zh e) ?_}
      have:fs=[]:=by
       rw[e] at vl;exact yw.mp vl.symm
      rw[this] at kk;exact kk _ s13
     ·refine{_,rfl,cD (zg e) ?_}
      let vp:0<⇑vs:=yv.mpr e;let⟨ps5,hps5,i5⟩:=df ilD (i:=⇑vs-1) (ze ());rw[zL] at hps5;cases qf:fs[⇑vs-1]? with
      | none=>rw[qf] at hps5;cases hps5
      | some en=>
       rw[qf] at hps5;let e5:en.2=ps5:=ym hps5;subst e5;let gl:fs.getLast?=some en:=by rw[wo,<-vl];exact qf
       rw[gl] at kk;unfold ua Is at i5;let⟨a5,us5,ev5,ha5,il5⟩:=i5;rw[fC il5] at ha5;left;refine{D,vs,-1,_,rfl,rfl,ak (s3 _ _ hD),lI (ze ()),?_};rw[ev5];refine{a5,_,rfl,.inr (bC (s3 _ _ ha5)),rfl,by rw[wj];exact yt.mpr λx _=>rfl,?_};show Q (.bl (IA (.int r.times) (en.2.map V.int))) _;rw[vL];exact kk _ s13
   ·refine cD (zg c2) ?_
    change{nxt (by unfold GN;rw[zg c2,wJ]),_,_,_,_,_,rfl}
  ·refine cD (zg c1) ?_
   change{nxt (by unfold GN;rw[zg c1,yW]),_,_,_,_,_,rfl}
 ·rintro σ H1 ⟨rfl,no,v2,v3,v4,v5,v6,rfl⟩
  left;let e:jV rs b=true:=by
   unfold jV;rw[show dP rs b=none from xT.mpr λy hy=>by
    have:=no y (by rw[rvl,zO];exact hy);unfold GN at this;rw[this];simp]
  rw[e] at kk;exact kk _ (aF _)
def Ex.apart {many:Int} {rs:List Rep} (h:Ex many rs):Apart rs:=by
 refine{λr hr=>?_,h.2.2};let⟨h1,h2,h3,h4,h5,e1,e2,e3,e4,e5⟩:=h.2.1 r hr;exact{h2,e5,λe he=>{(e3 e he).1,(e3 e he).2.1}}
inductive uo (vs:List V) (H:Hp) (Q:VK) (E:XK):Prop
 | mk (c many:Int) (p:vw) (rs:List Rep) (_:vs=[.int c,.int many,.ref p]) (_:Sh H p rs) (_:Ex many rs) (_:1<=many) (_:many<=200) (_:∀(jo:Option Jump) v H',(∀j,jo=some j->RS many rs j)->aG H H'->Is H' (dO gq jo) v->Q v H')
def Mj {l:List Int} {j:Nat} (h:j<⇑l):∃x,(l.map V.int)[j]?=some (.int x)/\x∈l:={l[j],by rw[zL,ze h];rfl,yo h}
def Kr {m:Int} {l:List Int} (h:l≠[]):∃x,tm (l.map V.int) (m%(⇑l:Int))=some (.int x)/\x∈l:=by
 let hp:0<⇑l:=yv.mpr h;let a0:=zy m (b:=(⇑l:Int)) ();let a1:=zv m (b:=(⇑l:Int)) ();obtain⟨j,hj⟩:∃j:Nat,m%(⇑l:Int)=(j:Int):={(m%(⇑l:Int)).toNat,()}
 let⟨x,e1,e2⟩:=Mj (l:=l) (j:=j) ();exact{x,by rw[hj];exact bz e1,e2}
def Jp (l:List Int):(l.map V.int).all mm=true:=by rw[wj];exact yt.mpr λ_ _=>rfl
def uK:dz P w base 2 T.lL uo:=by
 nomatch T.lL,["_law_cell","_law_many","_law_repeats","_law_m","_law_lasts","_law_inside","_law_ats","_law_at","_law_tos","_law_to","_law_untils","_law_codas"]
 let⟨c,many,p,rs,rfl,rsl,rd,mn1,mn2,kk⟩:=h;let sl:=yF;let ap:=rd.apart;let⟨rl,el,rv,hp,il⟩:=id rsl;let⟨ps,e1,e2,e3⟩:=gS il;let pln:⇑ps=⇑rs:=by rw[<-e1,zd]
 refine{_,(ag (b7 3 qN (cw (cB T) hr T.cX (aa (pv 0) (aa af ae))))
  (ag (b7 4 qN (og (ts:=["_law_first","_law_last","_law_times","_law_ends"]) (ys:=[]) (js:=[]) (g:=(CY K 4 (eI (bW 0) (eI (bW 1) (eI (bW 2) (eI (bW 3) CZ)))))) (te:=(aW 1)) (bY (pv 2)) (du (n:=4) rfl (aD (gF 0) (aD (gF 1) (aD (gF 2) (aD (gF 3) cG))))) bG (pv 1)))
  (ag (b7 5 qN (og (ts:=["_law_bar"]) (ys:=["_law_repeats"]) (js:=[2]) (g:=(bW 0)) (tc:=(tB (EL (Wx K) (aY (mP [none,some 0] (LX K (aW 1)) (bW 0) ug (Af (tO λi j=>.bl (decide (i<=j))) (tO λi j=>.bl (decide (i<=j))) (cP (mE K) (aW 0) (tC (.int (0)))) (aW 1) (cP (mE K) (aW 0) (tC (.int (1)))))) cE)))) (te:=(aW 0)) (cQ (by rfl) T.dE (aa (pv 1) ae)) (gF 0) (jR (cj (dC (gA rfl) T.Bc (aa (og (ts:=["_law_one"]) (ys:=["_law_bar"]) (js:=[0]) (te:=(Af (tO λi j=>.bl (decide (i<=j))) (tO λi j=>.bl (decide (i<=j))) (cP (mE K) (aW 0) (tC (.int (0)))) (aW 1) (cP (mE K) (aW 0) (tC (.int (1)))))) (bY (pv 1)) (gF 0) bG (HS iE iE (cy (pv 0) af) (pv 1) (cy (pv 0) af))) ae)))) (pv 0)))
  (ag (Rg (i:=6) (ts:=["_law_bar"]) (ys:=["_law_lasts","_law_inside"]) (js:=[4,5]) (g:=(bW 0)) (tc:=(Wk (mM (cP (Uk K false) (aW 0) (aW 1))) (mM (cP (Uk K true) (aW 0) (aW 2))))) (te:=(aW 0)) (cQ (by rfl) T.dE (aa (pv 1) ae)) (gF 0) (jR (PW.pt (d8 (jQ oh (pv 0) (pv 1) (by with_unfolding_all rfl)) (dk (jQ eY (pv 0) (pv 2) (by with_unfolding_all rfl)))))) (pv 0) qN)
  (ag (aL (PW.pt (d8 (ptr cS (ao aQ (ao aS (pv 3) af) af) af) (dk (ptr (Ft hr.units) (pv 6) (aU ae)))))
  (aj (ax bj))
  aA)
  (ag (b7 7 qN (dF (pv 6) (ao aQ (ao aS (pv 3) af) (dC ay T.bx (aa (pv 6) ae)))))
  (ag (Rg (i:=8) (ts:=["_law_bar"]) (ys:=["_law_repeats"]) (js:=[2]) (g:=(bW 0)) (tc:=(QP (tB (gn ka [] E0 (aY (aW 1) (aY (aW 0) cE)))))) (te:=(aW 0)) (cQ (by rfl) T.dE (aa (ao bw (pv 7) af) ae)) (gF 0) (jR (eM (cj (cw (oX T) hr T.lM (aa (pv 1) (aa (pv 0) ae)))))) (pv 0) qN)
  (ag (b7 9 qN (dF (pv 8) (ao aQ (ao aS (pv 3) af) (dC ay T.bx (aa (pv 8) ae)))))
  (ag (Rg (i:=10) (ts:=["_law_bar"]) (ys:=["_law_repeats"]) (js:=[2]) (g:=(bW 0)) (tc:=(tB (gn hV [] E0 (aY (aW 1) (aY (aW 0) cE))))) (te:=(aW 0)) (DN (by rfl) T.dE (aa (pv 9) (aa (ao bw (pv 7) af) ae))) (gF 0) (jR (cj (cw (mi T) hr T.iZ (aa (pv 1) (aa (pv 0) ae))))) (pv 0) qN)
  (ag (Rg (i:=11) (ts:=["_law_bar"]) (ys:=["_law_repeats"]) (js:=[2]) (g:=(bW 0)) (tc:=(SS (QP (tB (gn ka [] E0 (aY (aW 1) (aY (aW 0) cE))))) (tB (gn hV [] E0 (aY (aW 1) (aY (aW 0) cE)))))) (te:=(aW 0)) (DN (by rfl) T.dE (aa (ao bw (pv 7) af) (aa (pv 1) ae))) (gF 0) (jR (PW.pt (dr (eM (cj (cw (oX T) hr T.lM (aa (pv 1) (aa (pv 0) ae))))) (c9 (cj (cw (mi T) hr T.iZ (aa (pv 1) (aa (pv 0) ae)))))))) (pv 0) qN)
  (ag (aL (ptr (Ft hr.units) (pv 10) (aU ae))
  (aj (ax bj))
  aA)
  (aj (ax (bT (aa (pv 7) (aa (pv 9) (aa (dF (pv 10) (ao aQ (ao aS (pv 3) af) (dC ay T.bx (aa (pv 10) ae)))) (aa (dF (ao cT (aU (aa bj ae)) (pv 11)) (ao aQ (ao aS (pv 3) af) (ao bw af (dC ay T.bx (aa (pv 11) ae))))) ae)))))))))))))))))),?_}
 ac_rfl;exists c,520,rfl,(),(),?_;let m0:0<=mixed c 520:=zy _ ∅;generalize mixed c 520=m at m0;exists{_,ak hp},?_;refine d4 (enc:=λq:Rep×V=>q.2) (ws:=ps) (λq=>.int q.1.last) (λσ=>∃v1 v2 v3 v4,σ=[v1,v2,v3,v4]) () (by rw[e2];exact ak hp) {_,_,_,_,rfl} ?_ ?_
 ·rintro z σ H1 R hz s1 ⟨v1,v2,v3,v4,rfl⟩ rr
  let⟨a,e,ev,ha,_⟩:=fT ((e3 z hz).mono s1);rw[ev];refine{a,_,rfl,bC ha,rfl,?_};refine{_,_,rfl,{_,_,rfl,{_,_,rfl,{_,_,rfl,{rfl,?_}}}}};change rr _ _ _ (aF _) cW {_,_,_,_,rfl}
 intro D4 vs4 H4 s4 _ hD4 il4;let ee:ps.map (λq:Rep×V=>Dt.int q.1.last)=(rs.map (·.last)).map Dt.int:=by rw[<-e1,zC,zC];rfl
 rw[ee] at il4;rw[fC il4] at hD4;clear ee il4;exists by ext,(),?_
 let mt:((many.toNat:Nat):Int)=many:=()
 refine jA (rest:=[some (.ref p)]) (λb=>rs.any λr=>GN r b) () {(none),rfl} ?_ ?_
 ·intro i H5 R i0 i1 s5 hR
  let s05:=s4.trans s5;exists{_,ak (s05 _ _ hp)},?_;refine d4 (enc:=λq:Rep×V=>q.2) (ws:=ps) (λq=>.bl (GN q.1 i)) (λσ=>∃v1,σ=[v1,some (.int i)]) () (by rw[e2];exact ak (s05 _ _ hp)) {_,rfl} ?_ ?_
  ·rintro z σ H6 R hz s6 ⟨v1,rfl⟩ rr
   let⟨a,e,ev,ha,_⟩:=fT ((e3 z hz).mono (s05.trans s6));rw[ev];left
   by_cases c1:z.1.first<=i
   ·refine cz (zh c1) ?_
    change rr _ _ _ (aF _) (by unfold GN;rw[zh c1,yY];unfold Is;rfl) {_,rfl}
   ·refine cD (zg c1) ?_
    exact rr _ _ _ (aF _) (by unfold GN;rw[zg c1,yW];unfold Is;rfl) {_,rfl}
  ·intro D vs H6 s6 nD hD ilD
   let ee:ps.map (λq:Rep×V=>Dt.bl (GN q.1 i))=(rs.map λr=>GN r i).map Dt.bl:=by rw[<-e1,zC,zC];rfl
   rw[ee] at ilD;rw[jx ilD] at hD;exists D,_,rfl,ak hD,?_;rw[wG];exact{_,rfl,hR _ s6}
 intro D5 H5 s5 _ hD5;let hD45:=s5 _ _ hD4;generalize hins:mn (λb=>rs.any λr=>GN r b) 0 many.toNat=ins at hD5;exists by ext,(),?_
 refine jA (rest:=[some (.ref D4),some (.ref D5)]) (λb=>decide (b∈rs.map (·.last))||!decide (b∈ins)) () ⟨none,rfl⟩ ?_ ?_
 ·intro i H6 R i0 i1 s6 hR
  exists D4,_,rfl,.inl (ak (s6 _ _ hD45)),rfl,Jp _,?_;show∃k,V.bl (IA (.int i) ((rs.map (·.last)).map V.int))=.bl k/\_;rw[vL];refine{_,rfl,?_};refine LN (decide (i∈rs.map (·.last))||!decide (i∈ins)) ?_ ?_ (hR _ (aF _))
  ·intro c1 Z hz
   rw[c1,Bool.false_or] at hz;exists D5,_,rfl,.inl (ak (s6 _ _ hD5)),rfl,Jp _,?_;show∃k,V.bl (!IA (.int i) (ins.map V.int))=.bl k/\_;rw[vL];exact{_,rfl,hz}
  ·intro c1;rw[c1,Bool.true_or]
 intro D6 H6 s6 _ hD6;let s06:=(s4.trans s5).trans s6;generalize hats:mn (λb=>decide (b∈rs.map (·.last))||!decide (b∈ins)) 0 many.toNat=ats at hD6;left;let out:∀H',aG H H'->Q .bQ H':=λH' s'=>kk none .bQ H' (λj z=>by cases z) s' (by unfold dO Is;rfl)
 by_cases c0:m/7%3=0
 ·refine cz (zh (y6 V.int c0)) ?_
  change out _ s06
 refine cD (zg λz=>c0 (V.int.inj z)) ?_;exists by show 0<=sizeLine;ext,?_
 intros p7 H7 s7 h7;refine{D6,p7,_,_,rfl,rfl,.inl {ak (s7 _ _ hD6),ak h7},.inr (.inl rfl),?_}
 by_cases cn:ats=[]
 ·rw[cn]
  change out _ (s06.trans s7)
 let hn:decide (ats.map V.int=[])=false:=zg (by simpa using cn);rw[hn];let s07:=s06.trans s7;let hD67:=s7 _ _ hD6;left;let⟨at_,hat,atin⟩:=Kr (m:=m/3) cn;let anp:0<⇑ats:=yv.mpr cn;refine{D6,_,rfl,.inl (ak hD67),?_};rw[zd];exists by show 0<(⇑ats:Int);ext,?_
 refine{D6,_,_,_,rfl,rfl,ak hD67,hat,?_};rw[<-hats] at atin;let⟨a0,a1,a2⟩:=oB atin;let a1':at_<many:=()
 let aleave:(∃r∈rs,r.last=at_)\/(rs.any λr=>GN r at_)=false:=by
  rw[Bool.or_eq_true,xE] at a2;rcases a2 with z | z
  ·let⟨r,hr1,hr2⟩:=zI.mp z
   exact .inl {(r),hr1,hr2}
  ·right
   cases q:rs.any λr=>GN r at_ with
   | false=>rfl
   | true=>
    have:at_∈ins:=by rw[<-hins];exact IJ a0 () q
    rw[zh this] at z;cases z
 clear hats atin hat;exists by show -2^62<=at_+1;ext,(by show at_+1<2^62;ext),?_
 let pt:∀H',aG H7 H'->Sh H' p rs:=λH' s'=>(rsl.mono s07).mono s';refine jA (rest:=[some (.ref p)]) (λb=>!eP rs b) (by show(at_+1).toNat<=sizeLine;ext) {(none),rfl} ?_ ?_
 ·intro i H8 R i0 i1 s8 hR
  change{p,rs,i,rfl,pt _ s8,λH' s'=>{_,rfl,hR _ s'}}
 intro D8 H8 s8 _ hD8;generalize htos:mn (λb=>!eP rs b) 0 (at_+1).toNat=tos at hD8;let tn:tos≠[]:=by
  rw[<-htos];refine List.ne_nil_of_mem (IJ (x:=0) () () ?_);have:eP rs 0=false:=by
   unfold eP;rw[vi];intro r hr';have:=(rd.2.1 r hr').1;rw[zg (show¬r.first<0 by ext)];simp
  rw[this];rfl
 let⟨to_,hto,toin⟩:=Kr (m:=m/50) tn;let tnp:0<⇑tos:=yv.mpr tn;exists D8,_,rfl,.inl (ak hD8),?_;rw[zd];exists by show 0<(⇑tos:Int);ext,?_
 refine{D8,_,_,_,rfl,rfl,ak hD8,hto,?_};rw[<-htos] at toin;let⟨b0,b1,b2⟩:=oB toin;let b2':eP rs to_=false:=by cases q:eP rs to_ with
  | false=>rfl
  | true=>rw[q] at b2;cases b2
 clear htos toin hto tnp tn;exists _,_,rfl,{(),(),(by show -2^62<=at_+1;ext),by show at_+1<2^62;ext},?_;refine jA (rest:=[some (.ref p)]) (λb=>jV rs b) (by show(at_+1-to_).toNat<=sizeLine;ext) {(none),rfl} ?_ ?_
 ·intro i H9 R i0 i1 s9 hR
  change{p,rs,i,rfl,pt _ (s8.trans s9),λH' s'=>{_,rfl,hR _ s'}}
 intro D9 H9 s9 _ hD9;generalize hunt:mn (λb=>jV rs b) to_ (at_+1-to_).toNat=unt at hD9;exists _,_,rfl,{by show -2^62<=at_+1;ext,(by show at_+1<2^62;ext),(),()},?_;refine jA (rest:=[some (.ref p)]) (λb=>!eP rs b&&jV rs b) (by show(many-(at_+1)).toNat<=sizeLine;ext) {(none),rfl} ?_ ?_
 ·intro i Ha R i0 i1 sa hR
  left;refine{p,rs,i,rfl,pt _ ((s8.trans s9).trans sa),λH' s'=>{_,rfl,?_}};cases q:eP rs i with
  | true=>
   rw[q] at hR;exact cD rfl (hR _ s')
  | false=>
   rw[q] at hR;refine cz rfl ?_;change{p,rs,i,rfl,(pt _ ((s8.trans s9).trans sa)).mono s',λH'' s''=>{_,rfl,hR _ (s'.trans s'')}}
 intro Da Ha sa _ hDa;generalize hcod:mn (λb=>!eP rs b&&jV rs b) (at_+1) (many-(at_+1)).toNat=cod at hDa;let cl:⇑cod<=200:=by
  have:=Ni (f:=λb=>!eP rs b&&jV rs b) (lo:=at_+1) (n:=(many-(at_+1)).toNat);rw[hcod] at this;ext
 let s0a:=((s07.trans s8).trans s9).trans sa;exists by show 0<=sizeLine;ext,?_
 intros pb Hb sb hb;let hD9b:=sb _ _ (sa _ _ hD9);refine{D9,pb,_,_,rfl,rfl,.inl {ak hD9b,ak hb},.inr (.inl rfl),?_}
 by_cases un:unt=[]
 ·rw[un]
  change out _ (s0a.trans sb)
 let hn2:decide (unt.map V.int=[])=false:=zg (by simpa using un);rw[hn2];let⟨u_,hu,uin⟩:=Kr (m:=m/500) un;let unp:0<⇑unt:=yv.mpr un;rw[<-hunt] at uin;let⟨u0,u1,u2⟩:=oB uin;exists D9,_,rfl,.inl (ak hD9b),?_;rw[zd];exists by show 0<(⇑unt:Int);ext,?_
 refine{D9,_,_,_,rfl,rfl,ak hD9b,hu,?_};exists by show 1<=sizeLine;ext,?_
 intros pc Hc sc hc;let hDac:=sc _ _ (sb _ _ hDa);exists pc,Da,_,_,rfl,rfl,ak hc,ak hDac,by rw[zd];show 1+⇑cod<=sizeLine;ext,?_
 intros pd Hd sd hd;exists Da,_,rfl,.inl (ak (sd _ _ hDac)),?_;rw[zd];exists by show 0<1+(⇑cod:Int);ext,?_
 let k0:0<=m/7%(1+(⇑cod:Int)):=zy _ ();let k1:m/7%(1+(⇑cod:Int))<1+(⇑cod:Int):=zv _ ();obtain⟨kj,hkj⟩:∃j:Nat,m/7%(1+(⇑cod:Int))=(j:Int):={(m/7%(1+(⇑cod:Int))).toNat,()}
 obtain⟨co,cv,hcv,icv,cok⟩:∃(co:Option Int) (cv:V),(V.bQ::cod.map V.int)[kj]?=some cv/\(∀H',Is H' (dO Dt.int co) cv)/\∀x,co=some x->x∈cod:=by
  cases kj with
  | zero=>exact{none,.bQ,rfl,λH'=>by unfold dO Is;rfl,λx z=>by cases z}
  | succ k=>
   let⟨x,f1,f2⟩:=Mj (l:=cod) (j:=k) ();exact{some x,.int x,by simpa using f1,λH'=>by unfold dO Is;rfl,λy z=>by cases z;exact f2}
 refine{pd,_,_,_,rfl,rfl,ak hd,(by rw[hkj];exact bz hcv),?_};exists by show 4<=sizeLine;ext,?_
 intros pe He se he;refine kk (some {(at_),to_,u_,co}) _ _ (λj z=>?_) ((((s0a.trans sb).trans sc).trans sd).trans se) (cM he (bc cW (bc cW (bc cW (bc (icv _) dn)))));cases z;refine TC ap a0 a1' aleave b0 () b2' u0 () u2 λx hx=>?_;let xin:=cok x hx;rw[<-hcod] at xin;let⟨x0,x1,x2⟩:=oB xin;rw[zP] at x2;refine{(),(),?_,x2.2};cases q:eP rs x with
 | false=>rfl
 | true=>rw[q] at x2;cases x2.1
def Od:∀x∈Ks,∀z∈([2,3,5]:List Int),(red x.1 (x.2*z)).1*(red x.1 x.2).2<(red x.1 x.2).1*(red x.1 (x.2*z)).2:=by decide +kernel
noncomputable def aI (k:Nat):Str×(Int×Int)×(Int×Int):=(fm "a" (k+1),(0,0),(1,8))
structure bS (S:bO):Prop where
 NX:2<=⇑S.au
 pl:⇑S.au<=5
 pn:JC S.au
 ph:∀n∈S.au,NR n
 ins:∃n,1<=n/\n<=3/\S.aq=(List.range n).map aI
 st:∃q,S.au.getLast?=some q/\S.aP=[(("s": Str),[q])]
 b1:1<=⇑S.aR
 bl:⇑S.aR<=12
 bd:∀b∈S.aR,NW b
 up:∀u,S.aH=some u->∃x z,S.aR[0]?=some x/\z∈([2,3,5]:List Int)/\u=red x.bg.1 (x.bg.2*z)
 hs:List.Sublist (S.holds.map (·.1)) S.au
 hr:∀x∈S.holds,Mn (S.aq.map (·.1)) ⇑S.aR x.2
 no:GG S S.aJ
 nl:⇑S.aJ<=9*⇑S.aR
 rp:Ex ⇑S.aR S.aN
 ju:∀j,S.bP=some j->RS ⇑S.aR S.aN j
inductive L8 (H:Hp) (p:vw) (S:bO):Prop
 | mk (pl il bl hl nl rl:vw) (ub jm:V) (iv bv hv nv rv:List V) (_:H p=some (.tup [.ref pl,.ref il,.ref bl,ub,.ref hl,.ref nl,.ref rl,jm])) (_:H pl=some (.lst (S.au.map V.str)))
  (_:H il=some (.lst iv)/\aB H (S.aq.map dy) iv) (_:H bl=some (.lst bv)/\aB H (S.aR.map kJ) bv) (_:Is H (dO dL S.aH) ub)
  (_:H hl=some (.lst hv)/\RL (iB hl H) S.holds hv) (_:H nl=some (.lst nv)/\RL (gD nl H) S.aJ nv) (_:H rl=some (.lst rv)/\aB H (S.aN.map jI) rv) (_:Is H (dO gq S.bP) jm)
theorem L8.mono {H H':Hp} (s:aG H H') {p:vw} {S:bO} (h:L8 H p S):L8 H' p S:=by
 let⟨pl,il,bl,hl,nl,rl,ub,jm,iv,bv,hv,nv,rv,h1,h2,h3,h5,h6,h7,h8,h9,ha⟩:=h;exact{pl,il,bl,hl,nl,rl,ub,jm,iv,bv,hv,nv,rv,s _ _ h1,s _ _ h2,{s _ _ h3.1,h3.2.mono s},{s _ _ h5.1,h5.2.mono s},h6.mono s,{s _ _ h7.1,h7.2.imp λx v z=>z.mono s},{s _ _ h8.1,h8.2.imp λx v z=>z.mono s},{s _ _ h9.1,h9.2.mono s},ha.mono s}
def IT {aR:List Sc.N1} {upb:Option (Int×Int)} {S:bO} (eb:S.aR=aR) (eu:S.aH=upb) (bd:∀b∈aR,NW b) (up:∀u,upb=some u->∃x z,aR[0]?=some x/\z∈([2,3,5]:List Int)/\u=red x.bg.1 (x.bg.2*z)) (b:Nat) (hb:b<⇑aR):NQ (S.len b):=by
 let hm:NQ (S.bg b):=by
  unfold bO.bg;rw[eb,ze hb];let⟨m1,m2,m3,m4,m5⟩:=lA (bd _ (yo hb)).1;exact Kv () () () ()
 unfold bO.len;rw[eu];cases q:upb with
 | none=>exact hm
 | some u=>
  dsimp only;split
  ·let⟨x,z,e1,e2,e3⟩:=up u q
   let⟨m1,m2,m3,m4,m5⟩:=lA (bd _ (zD e1)).1;rw[e3];let z1:2<=z/\z<=5:=by
    simp only[zE,zF,yX] at e2;ext
   let p1:0<x.bg.2*z:=xA () ();let p2:x.bg.2*z<=32*5:=wc m5 z1.2 () ∅;exact Kv () () p1 ()
  ·exact hm
inductive Cr (K:yE) (vs:List V) (H:Hp) (Q:VK) (E:XK):Prop
 | mk (a:vw) (ns:List Int) (_:vs=[.ref a]) (_:fM K H a (ns.map V.int)) (_:⇑ns<=1000) (_:∀S p H',bS S->aG H H'->L8 H' p S->Q (.ref p) H')
def CT:dz P w base 4 T.pZ (Cr K):=by
 nomatch T.pZ,["_law_script","_law_m","_law_players","_law_instruments","_law_many","_law_bars","_law_upbeat","_law_holds","_law_notes","_law_repeats","_law_jump"]
 let⟨a,ns,rfl,hS,nl,kk⟩:=h;let sl:=yF;refine{_,(ag (b7 1 qN (cw (cB T) hr T.cX (aa (cw (cV T) hr T.dg (aa (pv 0) (aa af ae))) (aa af ae))))
  (ag (b7 2 qN (cw (ky T) hr T.gN (aa (ao aS (pv 1) af) (aa (ao bw af (ao aQ (pv 1) af)) ae))))
  (ag (Rg (i:=3) (ts:=["_law_k"]) (ys:=[]) (js:=[]) (te:=(EH (aY (cP OR (tC (.str "a")) (cP (tO λi j=>.int (i+j)) (aW 0) (tC (.int (1))))) (aY (EH (aY (tC (.int (0))) (aY (tC (.int (0))) cE))) (aY (EH (aY (tC (.int (1))) (aY (tC (.int (8))) cE))) cE))))) (cQ (by rfl) T.dE (aa (ao bw af (ao aQ (pv 1) af)) ae)) (gF 0) bG (bT (aa (ao vG az (ao bw (pv 0) af)) (aa (bT (aa af (aa af ae))) (aa (bT (aa af (aa af ae))) ae)))) qN)
  (ag (b7 4 qN (ao bw af (ao aQ (cw (cB T) hr T.cX (aa (cw (cV T) hr T.dg (aa (pv 0) (aa af ae))) (aa af ae))) af)))
  (ag (b7 5 qN (cw (uM T) hr T.lP (aa (cw (cV T) hr T.dg (aa (pv 0) (aa af ae))) (aa (pv 4) ae))))
  (ag (b7 6 qN bj)
  (ag (aL (ptr cS (ao aQ (ao aS (pv 1) af) af) af)
  (aj (b7 6 qN (cw (jt T) hr T.gY (aa (cy (cy (dF (pv 5) af) af) af) (aa (ao eE (cy (cy (dF (pv 5) af) af) af) af) ae)))))
  aA)
  (ag (b7 7 qN (cw (sJ T) hr T.ko (aa (cw (cV T) hr T.dg (aa (pv 0) (aa af ae))) (aa (pv 2) (aa (pv 3) (aa (pv 4) ae))))))
  (ag (b7 8 qN (cw (sH T) hr T.ki (aa (cw (cV T) hr T.dg (aa (pv 0) (aa af ae))) (aa (pv 2) (aa (pv 5) (aa (pv 6) ae))))))
  (ag (b7 9 qN (cw (pO T) hr T.iA (aa (cw (cV T) hr T.dg (aa (pv 0) (aa af ae))) (aa (pv 4) ae))))
  (ag (b7 10 qN (cw (uK T) hr T.lL (aa (cw (cV T) hr T.dg (aa (pv 0) (aa af ae))) (aa (pv 4) (aa (pv 9) ae)))))
  (aj (ax (bT (aa (pv 2) (aa (pv 3) (aa (pv 5) (aa (pv 6) (aa (pv 7) (aa (pv 8) (aa (pv 9) (aa (pv 10) ae)))))))))))))))))))))),?_}
 ac_rfl;exists a,ns,0,rfl,hS,(by decide),nl,λc0=>?_;exists c0,1,rfl,(by decide),(by decide),?_;let m0:0<=mixed c0 1:=zy _ ∅;let m1:mixed c0 1<2147483399:=zv _ ∅;generalize mixed c0 1=m at m0 m1;let a0:0<=m%4:=zy _ ∅;let a1:m%4<4:=zv _ ∅;let t0:0<=m%3:=zy _ ∅;let t1:m%3<3:=zv _ ∅;left;refine{_,_,rfl,zX m0 ∅,?_,(),(),λps pp H1 pl pok s1 hpp=>?_}
 ·have:=zY (a:=m) 4 m0;ext
 let⟨pl,phl⟩:=pl;let NX:2<=⇑ps/\⇑ps<=5:=()
 exists by ext,(),?_
 refine jB (λk=>dy (aI k)) (λσ=>∃v,σ=[v]) () {(none),rfl} ?_ ?_
 ·rintro k σ H4 R hk s4 ⟨_,rfl⟩ r
  exists by ext,(),(by decide),?_
  rw[show(0+(k:Int)+1).toNat=k+1 from by ext];exists dj,?_;intros p5 H5 s5 h5;exists dj,?_;intros p6 H6 s6 h6;exists mW,?_;intros p7 H7 s7 h7;exact r _ _ _ ((s5.trans s6).trans s7) (cM h7 (bc fg (bc (iO ((s6.trans s7) _ _ h5)) (bc (iO (s7 _ _ h6)) dn)))) {_,rfl}
 intro ip iv H2 s2 _ hip ili;let ei:(List.range (1+m%3).toNat).map (λk=>dy (aI k))=((List.range (1+m%3).toNat).map aI).map dy:=by rw[zC];rfl
 rw[ei] at ili;clear ei;let il:⇑((List.range (1+m%3).toNat).map aI)=(1+m%3).toNat:=by rw[zd,zT]
 obtain⟨ni,hni⟩:∃n,n=(1+m%3).toNat:={_,rfl}
 rw[<-hni] at ili il;obtain⟨ins,hins⟩:∃l,l=(List.range ni).map aI:={_,rfl}
 rw[<-hins] at ili il;exists a,ns,2,rfl,(s1.trans s2).seq hS,(by decide),nl,λc2=>?_;exists c2,2,rfl,(by decide),(by decide),?_;generalize mixed c2 2=n;let d0:0<=n%12:=zy _ ∅;let d1:n%12<12:=zv _ ∅;exists a,ns,2,rfl,(s1.trans s2).seq hS,(by decide),nl,λc3=>?_;exists c3,_,rfl,(),(),λaR bp bv H3 bl bok s3 nb hbp ilb=>?_;let bl2:((⇑aR:Nat):Int)=1+n%12:=()
 let bvl:=aZ ilb;let s03:=(s1.trans s2).trans s3;let x0:aR[0]?=some (aR[0]'()):=ze ();generalize aR[0]'()=x at x0;let⟨y,hy,iy⟩:=df ilb (i:=0) (ze ());let ey:y=x:=by rw[x0] at hy;exact(ym hy).symm
 subst ey;let⟨ab,mv,qb,ev,hab,imv,_⟩:=vH iy;let xin:y.bg∈Ks:=(bok y (zD x0)).1;let⟨e1,e2,e3,e4,e5⟩:=lA xin;let av:bv[0]?=some (.ref ab):=by rw[<-ev];exact ze ()
 cases fV (o:=some y.bg) imv with
 | ref hmv=>
 rename_i am;left;refine join (λσ H'=>aG H3 H'/\∃(upb:Option (Int×Int)) (uv:V),σ=[some (.ref a),some (.int m),some (.ref pp),some (.ref ip),some (.int (1+n%12)),some (.ref bp),some uv,none,none,none,none]/\Is H' (dO dL upb) uv/\∀u,upb=some u->∃x z,aR[0]?=some x/\z∈([2,3,5]:List Int)/\u=red x.bg.1 (x.bg.2*z)) (λN hN cc=>?_) (λN hN cc=>?_) ?_
 ·left
  refine{bp,bv,0,_,rfl,rfl,ak hbp,bz av,?_};exists bp,bv,0,_,rfl,rfl,ak hbp,bz av,?_;exists _,_,rfl,(),(),(cq (n:=10) () ()).mono ∅,λp5 H5 s5 h5=>?_;change hN _ _ {s5,some (red y.bg.1 (y.bg.2*2)),.ref p5,rfl,iO h5,λu q=>by cases q;exact{y,2,x0,∅,rfl}}
 ·left
  exact hN _ _ {aF _,none,.bQ,rfl,by unfold dO Is;rfl,λu z=>by cases z}
 rintro σ4 H4 ⟨s4,upb,uv,rfl,iuv,uok⟩;let s04:=s03.trans s4;exists a,ns,1,rfl,s04.seq hS,(by decide),nl,λc5=>?_;left;let s14:=(s2.trans s3).trans s4;let s24:=s3.trans s4;refine{c5,_,pp,ip,ps,ins,iv,rfl,s14 _ _ hpp,s24 _ _ hip,ili.mono s24,(),(),(),λhs hp hv H5 hsub hrow s5 hhp rlh=>?_};let s05:=s04.trans s5;exists a,ns,3,rfl,s05.seq hS,(by decide),nl,λc6=>?_;left;let s15:=s14.trans s5;let s35:=s4.trans s5;refine{c6,pp,bp,{au:=ps,aR:=aR,aH:=upb},bv,uv,rfl,s15 _ _ hpp,s35 _ _ hbp,ilb.mono s35,iuv.mono s5,by show ⇑ps<=9;ext,pok.2,by show ⇑aR<=200;ext,bok,IT rfl rfl bok uok,λnts np nv H6 nok nlen s6 hnp rln=>?_};let s06:=s05.trans s6;exists a,ns,4,rfl,s06.seq hS,(by decide),nl,λc7=>?_;exists c7,_,rfl,(),λrs rp rv H7 rok s7 hrp ilr=>?_;let s07:=s06.trans s7;exists a,ns,4,rfl,s07.seq hS,(by decide),nl,λc8=>?_;left;let rsl:Sh H7 rp rs:={by have:=rok.1;ext,λr hr'=>by have:=(rok.2.1 r hr').2.2.2.2.2.2.1;ext,rv,hrp,ilr}
 refine{c8,_,rp,rs,rfl,rsl,rok,(),(),λjo jv H8 jok s8 ij=>?_};let s08:=s07.trans s8;exists by show 8<=sizeLine;ext,?_
 intros pa Ha s8a ha;let s7a:=s8.trans s8a;let s6a:=s7.trans s7a;let s5a:=s6.trans s6a;let s4a:=s5.trans s5a;let s3a:=s4.trans s4a;let s2a:=s3.trans s3a;let s1a:=s2.trans s2a;obtain⟨lz,lq⟩:∃z,ps.getLast?=some z:={_,List.getLast?_eq_some_getLast (by intro z;rw[z] at NX;simp at NX)}
 refine kk {ps,ins,[("s",[lz])],aR,upb,hs,nts,rs,jo} pa Ha ?_ (s08.trans s8a) ?_
 rotate_left
 ·exact{pp,ip,bp,hp,np,rp,uv,jv,iv,bv,hv,nv,rv,ha,s1a _ _ hpp,{s2a _ _ hip,ili.mono s2a},{s3a _ _ hbp,ilb.mono s3a},iuv.mono s4a,{s5a _ _ hhp,rlh.imp λx v z=>z.mono s5a},{s6a _ _ hnp,rln.imp λx v z=>z.mono s6a},{s7a _ _ hrp,ilr.mono s7a},ij.mono s8a}
 ·exact{NX.1,NX.2,pok,phl,{(ni),(),(),hins},{(lz),lq,rfl},by show 1<=⇑aR;ext,by show ⇑aR<=12;ext,bok,uok,hsub,λx hx=>by show Mn (ins.map (·.1)) ⇑aR x.2;rw[bl2];exact hrow x hx,nok,nlen,by show Ex ⇑aR rs;rw[bl2];exact rok,λj hj=>by show RS ⇑aR rs j;rw[bl2];exact jok j hj}
def fi (a b c:Str):a++b++c=a++(b++c):=dN (by rw[bD,bD,bD,bD,zG])
def Nc (n:Str):("instrument ": Str)++n ++" 0 0 1/8"= aO (.cg n (0,0) (1,8)):=by
 show _=Str.join " " ["instrument",n,dec 0,dec 0,gm (1,8)];rw[bu,bu,show Str.join " " [dec 0,dec 0,gm (1,8)] ="0 0 1/8" by decide +kernel,fi n " ",<-fi,<-fi];rfl
def DF (q:Str):("staff s ": Str)++q=aO (.bE "s" [q]):=by
 show _=Str.join " " ["staff","s",q];rw[bu,bu,join_one,<-fi];rfl
noncomputable def L3 (S:bO):List Told:=S.aN.map .rep++S.bP.toList.map .bP
inductive E1 (vs:List V) (H:Hp) (Q:VK) (E:XK):Prop
 | mk (p:vw) (S:bO) (q:Str) (_:vs=[.ref p]) (_:L8 H p S) (_:(∀t∈cC S,TD t)) (_:⇑(cC S)<=1000000) (_:(∀x∈S.aq,x=(x.1,(0,0),(1,8)))) (_:S.au.getLast?=some q) (_:S.aP=[(("s": Str),[q])]) (_:(∀r∈S.aN,RO r)) (_:⇑S.aN<=1000) (_:∀D H',aG H H'->H' D=some (.lst (rws (cC S)))->Q (.ref D) H')
def FE:dz P w base 3 T.tG E1:=by
 nomatch T.tG,["_law_s","_law_players","_law_instruments","_law_bars","_law_upbeat","_law_holds","_law_notes","_law_repeats","_law_jump","_law_rows_here","_law_metre","_law_key","_law_marks","_law_player","_law_row","_law_bar","_law_items","_law_coda"]
 let⟨p,S,q,rfl,la,tok,tl,iok,lq,stq,rok,rln3,kk⟩:=h;let sl:=yF;let⟨pl,il,bl,hl,nl,rl,ub,jm,iv,bv,hv,nv,rv,h1,h2,⟨h3,ili⟩,⟨h5,ilb⟩,h6,⟨h7,rlh⟩,⟨h8,rln⟩,⟨h9,ilr⟩,hj⟩:=la;let tlen:∀a b:List Told,cC S=a++b->⇑a<=1000000:=λa b e=>by rw[e,zj] at tl;ext
 obtain⟨fl,fli,flb,fln⟩:⇑S.au<=1000000/\⇑S.au+⇑S.aq<=1000000/\⇑S.au+⇑S.aq+⇑S.aP+⇑S.aR<=1000000/\⇑S.aJ<=1000000:=by
  unfold cC at tl;simp only[zj,zd] at tl;ext
 refine{_,(ag (sC (pv 0) (du (n:=8) rfl (aD (eN 1 qN) (aD (eN 2 qN) (aD (eN 3 qN) (aD (eN 4 qN) (aD (eN 5 qN) (aD (eN 6 qN) (aD (eN 7 qN) (aD (eN 8 qN) cG))))))))))
  (ag (Rg (i:=9) (ts:=["_law_name"]) (ys:=[]) (js:=[]) (te:=(cP (λx y H Q=>∃i j,x=.str i/\y=.str j/\⇑i+⇑j<=sizeLine/\Q (.str (i++j)) H) (tC (.str "player ")) (aW 0))) (bY (pv 1)) (gF 0) bG (ao aM az (pv 0)) qN)
  (ag (b7 9 qN (ao cT (ao cT (pv 9) (og (ts:=["_law_one"]) (ys:=[]) (js:=[]) (te:=(cP (λx y H Q=>∃i j,x=.str i/\y=.str j/\⇑i+⇑j<=sizeLine/\Q (.str (i++j)) H) (cP (λx y H Q=>∃i j,x=.str i/\y=.str j/\⇑i+⇑j<=sizeLine/\Q (.str (i++j)) H) (tC (.str "instrument ")) (cP (mE K) (aW 0) (tC (.int (0))))) (tC (.str " 0 0 1/8")))) (bY (pv 2)) (gF 0) bG (ao aM (ao aM az (cy (pv 0) af)) az))) (aU (aa (ao aM az (dF (pv 1) (m6 jh af))) ae))))
  (ag (dH yS rfl (bY (pv 3)) (du (n:=3) rfl (aD (eN 10 qN) (aD (eN 11 qN) (aD (eN 12 qN) cG))))
  (aj (bX (bK yG yI yH bJ (pv 9) (aa (bK yJ yL yK cK az (aa (ao cT (aU (aa az (aa (ao aM (ao aM (oa bf T.d9 (aa (cy (pv 10) af) ae)) az) (oa bf T.d9 (aa (cy (pv 10) af) ae))) (aa (oa bf T.d9 (aa (pv 11) ae)) ae)))) (oa rD T.Bb (aa (pv 12) ae))) ae)) ae)))))
  (ag (aL (bL (fB (pv 4)))
  (aj (bX (bK yG yI yH bJ (pv 9) (aa (ao aM az (cw (fc T) hr T.dU (aa (pv 4) ae))) ae))))
  aA)
  (ag (dH yS rfl (bY (pv 5)) (du (n:=2) rfl (aD (eN 13 qN) (aD (eN 14 qN) cG)))
  (aj (b7 9 qN (ao cT (pv 9) (og (ts:=["_law_bar","_law_name"]) (ys:=["_law_player"]) (js:=[13]) (g:=(CY K 2 (eI (bW 0) (eI (bW 1) CZ)))) (te:=(Qw K "str" (rJoin K) (tC (.str " ")) (aY (oJ (aY (tC (.str "holds")) (aY (aW 2) (aY (EL UT (aY (aW 0) cE)) (aY (aW 1) cE))))) cE))) (bY (pv 14)) (du (n:=2) rfl (aD (gF 0) (aD (gF 1) cG))) bG (bK yJ yL yK cK az (aa (aU (aa az (aa (pv 2) (aa (oa bf T.d9 (aa (pv 0) ae)) (aa (pv 1) ae))))) ae)))))))
  (ag (dH yS rfl (bY (pv 6)) (du (n:=3) rfl (aD (eN 15 qN) (aD (eN 13 qN) (aD (eN 16 qN) cG))))
  (aj (bX (bK yG yI yH bJ (pv 9) (aa (bK yJ yL yK cK az (aa (ao cT (aU (aa az (aa (oa bf T.d9 (aa (pv 15) ae)) (aa (pv 13) ae)))) (og (ts:=["_law_item"]) (ys:=[]) (js:=[]) (te:=(gn jK [] E0 (aY (aW 0) cE))) (bY (pv 16)) (gF 0) bG (cw (qL T) hr T.jE (aa (pv 0) ae)))) ae)) ae)))))
  (ag (b7 9 qN (ao cT (pv 9) (og (ts:=["_law_repeat"]) (ys:=[]) (js:=[]) (te:=(gn iD [] E0 (aY (aW 0) cE))) (bY (pv 7)) (gF 0) bG (cw (oN T) hr T.gB (aa (pv 0) ae)))))
  (ag (aL (bL (fB (pv 8)))
  (ag (b7 17 qN (HQ (bL (cF (cy (pv 8) af))) az (oa bf T.d9 (aa (cy (pv 8) af) ae))))
   (aj (bX (bK yG yI yH bJ (pv 9) (aa (bK yJ yL yK cK az (aa (aU (aa az (aa (oa bf T.d9 (aa (cy (pv 8) af) ae)) (aa (oa bf T.d9 (aa (cy (pv 8) af) ae)) (aa (oa bf T.d9 (aa (cy (pv 8) af) ae)) (aa (pv 17) ae)))))) ae)) ae)))))
  aA)
  (aj (ax (pv 9)))))))))))),?_}
 ac_rfl;exists p,_,rfl,bC h1,rfl,?_;refine{_,_,rfl,{_,_,rfl,{_,_,rfl,{_,_,rfl,{_,_,rfl,{_,_,rfl,{_,_,rfl,{_,_,rfl,{rfl,?_}}}}}}}}};show(_:TS) _ [some (.ref p),some (.ref pl),some (.ref il),some (.ref bl),some ub,some (.ref hl),some (.ref nl),some (.ref rl),some jm,none,none,none,none,none,none,none,none,none] _;exists{_,ak h2},?_;refine d4 (enc:=V.str) (ws:=S.au) (λn=>.str (aO (.bA n))) (λσ=>∃v,σ=[v]) () (ak h2) {(none),rfl} ?_ ?_
 ·rintro z σ H1 R hz s1 ⟨_,rfl⟩ rr
  let tz:TD (.bA z):=tok _ (by unfold cC;simp[hz]);left;refine{?_,?_}
  ·let l7:("player ": Str).length=7:=rfl
   have:=tz.2.2 z (by simp[Sc.aV]);ext
  exact rr _ _ _ (aF _) (by rw[Kg];exact fg) {_,rfl}
 ·intro D vs H1 s1 nD hD ilD
  let ee:S.au.map (λn=>Dt.str (aO (.bA n)))=((S.au.map Told.bA).map aO).map Dt.str:=by rw[zC,zC];rfl
  rw[ee] at ilD;rw[dY ilD] at hD;let⟨ps,e1,e2,e3⟩:=gS ili;let pln:⇑ps=⇑S.aq:=by rw[<-e1,zd]
  exists{_,ak (s1 _ _ h3)},?_;refine d4 (enc:=λq:(Str×(Int×Int)×(Int×Int))×V=>q.2) (ws:=ps) (λq=>.str (aO (.cg q.1.1 q.1.2.1 q.1.2.2))) (λσ=>∃v,σ=[v]) () (by rw[e2];exact ak (s1 _ _ h3)) {(none),rfl} ?_ ?_
  ·rintro z σ H3 R hz s3 ⟨_,rfl⟩ rr
   let zin:z.1∈S.aq:=by rw[<-e1];exact zQ hz
   let tz:TD (.cg z.1.1 z.1.2.1 z.1.2.2):=tok _ (by unfold cC;simp only[zH,zI];exact .inl (.inl (.inl (.inl (.inl (.inl (.inr {(z.1),zin,rfl})))))));let⟨a1,t1,l1,ea,ha1,_,_⟩:=qP (e3 z hz);let nz:=tz.2.2 z.1.1 (by simp[Sc.aV]);let l7:("instrument ": Str).length=11:=rfl;let l8:(" 0 0 1/8": Str).length=8:=rfl;let iz:=iok z.1 zin;rw[ea];exists by ext,?_
   exists by rw[bo];ext,?_
   refine rr _ _ _ (aF _) ?_ {_,rfl};rw[iz,Nc];exact fg
  ·intro D3 vs3 H3 s3 nD3 hD3 il3
   let ee3:ps.map (λq:(Str×(Int×Int)×(Int×Int))×V=>Dt.str (aO (.cg q.1.1 q.1.2.1 q.1.2.2)))=((S.aq.map λx=>Told.cg x.1 x.2.1 x.2.2).map aO).map Dt.str:=by rw[<-e1,zC,zC,zC];rfl
   rw[ee3] at il3;rw[dY il3] at hD3;refine{D,D3,_,_,rfl,rfl,ak (s3 _ _ hD),ak hD3,?_,?_}
   ·simp only[zd];ext
   intro Dx nx;generalize hU:upd H3 Dx _=Hx;let sx:aG H3 Hx:=by rw[<-hU];exact bF nx
   let hDx:Hx Dx=some (.lst (rws (S.au.map .bA++S.aq.map λx=>.cg x.1 x.2.1 x.2.2))):=by
    rw[<-hU,aE];exact y6 (λl=>some (HO.lst l)) (iG _ _).symm
   clear hU;let s0x:=(s1.trans s3).trans sx;let qin:=wX lq;let tq:TD (.bA q):=tok _ (by unfold cC;simp[qin]);let lq9:=tq.2.2 q (by simp[Sc.aV]);let l9:("staff s ": Str).length=8:=rfl;left;refine{pl,_,_,_,rfl,rfl,ak (s0x _ _ h2),lI (x:=.str q) (by rw[zd,zL,<-wo,lq];rfl),?_};refine{_,_,rfl,rfl,(),?_};exists by show 1<=sizeLine;ext,?_
   intros py Hy sy hy;refine{Dx,py,_,_,rfl,rfl,ak (sy _ _ hDx),ak hy,?_,?_}
   ·rw[fS,zj,zd,zd];show _+1<=_;ext
   intro D4 n4;generalize hU:upd Hy D4 _=H4;let s4:aG Hy H4:=by rw[<-hU];exact bF n4
   let hD4:H4 D4=some (.lst (rws (S.au.map .bA++(S.aq.map λx=>.cg x.1 x.2.1 x.2.2)++S.aP.map λx=>.bE x.1 x.2))):=by
    rw[<-hU,aE,stq,DF];exact y6 (λl=>some (HO.lst l)) (iG _ [Told.bE "s" [q]]).symm
   clear hU;let nD4:H D4=none:=(s0x.trans sy).back n4;let s04:=(s0x.trans sy).trans s4;clear hDx hD3 il3 hD ilD nD nD3;exists{_,ak (s04 _ _ h5)},?_;refine gW (K:=K) (a:=bl) (xs:=bv) (λi σ H'=>Lo [some (.ref p),some (.ref pl),some (.ref il),some (.ref bl),some ub,some (.ref hl),some (.ref nl),some (.ref rl),some jm,some (.ref D4)] 8 σ/\aG H H'/\H' D4=some (.lst (rws (S.au.map .bA++(S.aq.map λx=>.cg x.1 x.2.1 x.2.2)++(S.aP.map λx=>.bE x.1 x.2)++(S.aR.take i).map .bar)))) {Lo.of rfl rfl,s04,by rw[wI,yq,zW];exact hD4} (λi σ H' _ h=>by let⟨_,z,_⟩:=h;exact ak (z _ _ h5)) ?_ ?_
   ·intro i x σ H5 hx hh
    refine eD λN kN0 kR0 _ _=>?_;let⟨⟨e,rfl⟩,s5,hD5⟩:=hh;let⟨b,hb,ib⟩:=df (d:=kJ) ilb hx;let⟨a1,mv,q1,rfl,ha1,im,hq1⟩:=vH ib;cases fV (o:=some b.bg) im with
    | ref hm=>
    rename_i am;let tb:TD (.bar b):=tok _ (by unfold cC;simp only[zH,zI];exact .inl (.inl (.inl (.inl (.inr {b,zD hb,rfl})))));let hm5:=s5 _ _ hm;refine{a1,_,rfl,bC (s5 _ _ ha1),rfl,?_};refine{_,_,rfl,{_,_,rfl,{_,_,rfl,{rfl,?_}}}};let⟨t1,t2,t3,t4,t5,t6⟩:=tb.1;let bb:0<=b.bg.2/\b.bg.2<1000:=by unfold BS at t3;simp at t3;ext
    let la1:=cb (n:=b.bg.1) () ();let la2:=cb (n:=b.bg.2) () ();let l1:("/": Str).length=1:=rfl;exists .inl {rfl,_,ak hD5},?_;exists bM () (),?_;exists by show(dec b.bg.1).length+_<=_;ext,?_
    exists bM () (),?_;exists by show(dec b.bg.1 ++"/").length+⇑(dec b.bg.2)<=_;rw[bo];ext,?_
    exists bM () (),?_;exists by show 3<=sizeLine;ext,?_
    intros p6 H6 s6 h6;exists q1,_,rfl,.inr (bC (s6 _ _ (s5 _ _ hq1))),?_;intros p7 H7 s7 h7;let ml:⇑b.marks<=97:=by have:=tb.2.1;simp only[Sc.aV,zw] at this;ext
    refine{p6,p7,_,_,rfl,rfl,ak (s7 _ _ h6),ak h7,by rw[zd];show 3+_<=_;ext,?_};intros p8 H8 s8 h8;refine{" ",p8,Sc.aV (.bar b),rfl,rfl,ak h8,fE tb,?_};let s58:=(s6.trans s7).trans s8;left;refine{D4,_,_,rfl,rfl,s58 _ _ hD5,?_,?_}
    ·rw[fS];simp only[zj,zd,zR];ext
    exists Lo.of rfl rfl,cY nD4 (s5.trans s58),?_;rw[aE,eG hb,zm,<-zG];exact y6 (λl=>some (HO.lst l)) (iG _ [Told.bar b]).symm
   ·rintro σ H5 ⟨⟨e,rfl⟩,s5,hD5⟩
    rw[aZ ilb,zO] at hD5;obtain⟨B,hB⟩:∃B,B=S.au.map Told.bA++(S.aq.map λx=>Told.cg x.1 x.2.1 x.2.2)++(S.aP.map λx=>Told.bE x.1 x.2)++S.aR.map Told.bar:={_,rfl}
    let tB:cC S=B++S.aH.toList.map .aH++(S.holds.map λx=>x.2.map λh=>Told.holds x.1 h.1 h.2).flatten++(S.aJ.map λx=>.aJ x.1.1 x.1.2 x.2)++L3 S:=by rw[hB];rfl
    rw[<-hB] at hD5;left;refine join (λσ H'=>Lo [some (.ref p),some (.ref pl),some (.ref il),some (.ref bl),some ub,some (.ref hl),some (.ref nl),some (.ref rl),some jm,some (.ref D4)] 8 σ/\aG H H'/\H' D4=some (.lst (rws (B++S.aH.toList.map .aH)))) (λN hN c1=>?_) (λN hN c1=>?_) ?_
    ·cases qu:S.aH with
     | none=>
      rw[qu] at h6;unfold dO Is at h6;rw[h6] at c1;simp at c1
     | some u=>
      rw[qu] at h6;cases fV (o:=some u) h6 with
      | ref hu=>
      let tu:TD (.aH u):=tok _ (by rw[tB,qu];simp);let⟨u1,u2,u3,u4⟩:=tu.1;let⟨_,r2,_⟩:=u1.pos;let lu:=kz (x:=u) () u3 () u4;let bl5:B.length<=1000000:=tlen B _ (by rw[tB,zG,zG,zG]);exists .inl {rfl,_,ak hD5},?_;exists _,u,rfl,s5 _ _ hu,(),u3,r2,u4,?_;let l7:("upbeat ": Str).length=7:=rfl;refine{_,_,rfl,rfl,(),?_};exists D4,_,_,rfl,rfl,hD5,by rw[fS];ext,?_
      left;refine hN _ _ {Lo.of rfl rfl,cY nD4 s5,?_};rw[aE,qu];exact y6 (λl=>some (HO.lst l)) (iG B [Told.aH u]).symm
    ·let qu:S.aH=none:=by
      cases qu:S.aH with
      | none=>rfl
      | some u=>
       rw[qu] at h6;cases fV (o:=some u) h6 with
       | ref hu=>simp at c1
     left;refine hN _ _ {Lo.of rfl rfl,s5,?_};rw[qu];show H5 D4=some (.lst (rws (B++[])));rw[zW];exact hD5
    rintro σ6 H6 ⟨⟨e,rfl⟩,s6,hD6⟩;exists{_,ak (s6 _ _ h7)},?_;refine gW (K:=K) (a:=hl) (xs:=hv) (λi σ H'=>∃(D:vw),Lo [some (.ref p),some (.ref pl),some (.ref il),some (.ref bl),some ub,some (.ref hl),some (.ref nl),some (.ref rl),some jm,some (.ref D)] 8 σ/\aG H H'/\H D=none/\H' D=some (.lst (rws (B++S.aH.toList.map .aH++((S.holds.take i).map λx=>x.2.map λh=>Told.holds x.1 h.1 h.2).flatten)))) {D4,{(e),rfl},s6,nD4,by rw[wI,yq,List.flatten_nil,zW];exact hD6} (λi σ H' _ h=>by let⟨_,_,z,_⟩:=h;exact ak (z _ _ h7)) ?_ ?_
    ·intro i x σ H7 hx hh
     refine eD λN kN1 kR1 _ _=>?_;let⟨D7,⟨e,rfl⟩,s7,nD7,hD7⟩:=hh;let⟨y,hy,a7,r7,us7,rfl,ha7,hr7,il7,_⟩:=rlh.at hx;let⟨qs,f1,f2,f3⟩:=gS il7;let ty:∀h∈y.2,TD (.holds y.1 h.1 h.2):=λh hh=>tok _ (by
      rw[tB];refine zK _ (zK _ (zJ _ ?_));exact wm.mpr {_,zQ (zD hy),zQ hh})
     let tke:((S.holds.take (i+1)).map λx=>x.2.map λh=>Told.holds x.1 h.1 h.2).flatten=((S.holds.take i).map λx=>x.2.map λh=>Told.holds x.1 h.1 h.2).flatten++y.2.map λh=>Told.holds y.1 h.1 h.2:=by
      rw[eG hy,zm,xg];simp
     let lenB:⇑(B++S.aH.toList.map Told.aH++((S.holds.take (i+1)).map λx=>x.2.map λh=>Told.holds x.1 h.1 h.2).flatten)<=1000000:=by
      refine tlen _ (((S.holds.drop (i+1)).map λx=>x.2.map λh=>Told.holds x.1 h.1 h.2).flatten++(S.aJ.map λx=>.aJ x.1.1 x.1.2 x.2)++L3 S) ?_;rw[tB]
      conv=>lhs;rw[<-List.take_append_drop (i+1) S.holds,zm,xg]
      simp only[zG]
     rw[tke] at lenB;simp only[zj,zd] at lenB;refine{a7,_,rfl,bC (s7 _ _ ha7),rfl,?_};refine{_,_,rfl,{_,_,rfl,{rfl,?_}}};exists{_,ak (s7 _ _ hr7)},?_;let ql:⇑qs=⇑y.2:=by rw[<-f1,zd]
     refine d4 (enc:=λq:(Int×Str)×V=>q.2) (ws:=qs) (λq=>.str (aO (.holds y.1 q.1.1 q.1.2))) (λσ=>∃v u,σ=[v,u,some (.str y.1)]) () (by rw[f2];exact ak (s7 _ _ hr7)) {(none),none,rfl} ?_ ?_
     ·rintro z σ H8 R hz s8 ⟨_,_,rfl⟩ rr
      let zin:z.1∈y.2:=by rw[<-f1];exact zQ hz
      let tz:=ty z.1 zin;let⟨a8,ea,ha8⟩:=Pt (f3 z hz);let s08:=s7.trans s8;let⟨b1,b2⟩:=tz.1.2.1;rw[ea];refine{a8,_,rfl,bC (s08 _ _ ha8),rfl,?_};refine{_,_,rfl,{_,_,rfl,{rfl,?_}}};exists bM () (),?_;exists by show 4<=sizeLine;ext,?_
      intros p9 H9 s9 h9;refine{" ",p9,Sc.aV (.holds y.1 z.1.1 z.1.2),rfl,rfl,ak h9,fE tz,?_};exact rr _ _ _ s9 fg {_,_,rfl}
     ·intro D8 vs8 H8 s8 _ hD8 il8
      let ee8:qs.map (λq:(Int×Str)×V=>Dt.str (aO (.holds y.1 q.1.1 q.1.2)))=((y.2.map λh=>Told.holds y.1 h.1 h.2).map aO).map Dt.str:=by rw[<-f1,zC,zC,zC];rfl
      rw[ee8] at il8;rw[dY il8] at hD8;refine{D7,D8,_,_,rfl,rfl,ak (s8 _ _ hD7),ak hD8,?_,?_}
      ·rw[fS];simp only[zj,zd];ext
      intro D9 n9;generalize hU:upd H8 D9 _=H9;let s9:aG H8 H9:=by rw[<-hU];exact bF n9
      exists D9,Lo.of rfl rfl,(s7.trans s8).trans s9,(s7.trans s8).back n9,?_;rw[<-hU,aE,tke,<-zG];exact y6 (λl=>some (HO.lst l)) (iG _ _).symm
    ·rintro σ H7 ⟨D7,⟨e,rfl⟩,s7,nD7,hD7⟩
     rw[rlh.len,zO] at hD7;obtain⟨B2,hB2⟩:∃B2,B2=B++S.aH.toList.map Told.aH++(S.holds.map λx=>x.2.map λh=>Told.holds x.1 h.1 h.2).flatten:={_,rfl}
     rw[<-hB2] at hD7 tB;exists{_,ak (s7 _ _ h8)},?_;refine gW (K:=K) (a:=nl) (xs:=nv) (λi σ H'=>Lo [some (.ref p),some (.ref pl),some (.ref il),some (.ref bl),some ub,some (.ref hl),some (.ref nl),some (.ref rl),some jm,some (.ref D7)] 8 σ/\aG H H'/\H' D7=some (.lst (rws (B2++(S.aJ.take i).map λx=>.aJ x.1.1 x.1.2 x.2)))) {{(e),rfl},s7,by rw[wI,yq,zW];exact hD7} (λi σ H' _ h=>by let⟨_,z,_⟩:=h;exact ak (z _ _ h8)) ?_ ?_
     ·intro i x σ H8 hx hh
      refine eD λN kN2 kR2 _ _=>?_;let⟨⟨e,rfl⟩,s8,hD8⟩:=hh;let⟨y,hy,a7,r7,us7,rfl,ha7,hr7,il7,_⟩:=rln.at hx;let⟨qs,f1,f2,f3⟩:=gS il7;let tz:TD (.aJ y.1.1 y.1.2 y.2):=tok _ (by rw[tB];simp only[zH,zI];exact .inl (.inr {y,zD hy,rfl}));let⟨⟨b1,b2⟩,b3,b4,_⟩:=tz.1;let yl:⇑y.2<=97:=by have:=tz.2.1;simp only[Sc.aV,zw,zd] at this;ext
      let ql:⇑qs=⇑y.2:=by rw[<-f1,zd]
      let ib:i<⇑S.aJ:=(zA.mp hy).1;let lenB:B2.length+⇑S.aJ<=1000000:=by
       have:=tlen (B2++S.aJ.map λx=>.aJ x.1.1 x.1.2 x.2) (L3 S) tB
       simpa[zj,zd] using this
      refine{a7,_,rfl,bC (s8 _ _ ha7),rfl,?_};refine{_,_,rfl,{_,_,rfl,{_,_,rfl,{rfl,?_}}}};exists .inl {rfl,_,ak hD8},?_;exists bM () (),?_;exists by show 3<=sizeLine;ext,?_
      intros p9 H9 s9 h9;let s09:=s8.trans s9;exists{_,ak (s09 _ _ hr7)},?_;refine d4 (enc:=λq:Item×V=>q.2) (ws:=qs) (λq=>.str (kA q.1)) (λσ=>∃v,σ=[v]) () (by rw[f2];exact ak (s09 _ _ hr7)) {(none),rfl} ?_ ?_
      ·rintro z σ Ha R hz sa ⟨_,rfl⟩ rr
       let zin:z.1∈y.2:=by rw[<-f1];exact zQ hz
       change{z.2,z.1,rfl,((f3 z hz).mono s09).mono sa,b4 _ zin,rr _ _ _ (aF _) fg {_,rfl}}
      ·intro Da vsa Ha sa _ hDa ila
       let eea:qs.map (λq:Item×V=>Dt.str (kA q.1))=(y.2.map kA).map Dt.str:=by rw[<-f1,zC,zC];rfl
       rw[eea] at ila;rw[dY ila] at hDa;refine{p9,Da,_,_,rfl,rfl,ak (sa _ _ h9),ak hDa,by rw[zd,zd];show 3+_<=_;ext,?_};intros pb Hb sb hb;refine{" ",pb,Sc.aV (.aJ y.1.1 y.1.2 y.2),rfl,rfl,ak hb,fE tz,?_};let s8b:=(s9.trans sa).trans sb;left;refine{D7,_,_,rfl,rfl,s8b _ _ hD8,?_,?_}
       ·rw[fS];simp only[zj,zd,zR];ext
       exists Lo.of rfl rfl,cY nD7 (s8.trans s8b),?_;rw[aE,eG hy,zm,<-zG];exact y6 (λl=>some (HO.lst l)) (iG _ [Told.aJ y.1.1 y.1.2 y.2]).symm
     ·rintro σ H8 ⟨⟨e,rfl⟩,s8,hD8⟩
      rw[rln.len,zO] at hD8;obtain⟨B3,hB3⟩:∃B3,B3=B2++S.aJ.map λx=>.aJ x.1.1 x.1.2 x.2:={_,rfl}
      rw[<-hB3] at hD8 tB;let⟨ps,e1,e2,e3⟩:=gS ilr;let pln:⇑ps=⇑S.aN:=by rw[<-e1,zd]
      exists{_,ak (s8 _ _ h9)},?_;refine d4 (enc:=λq:Rep×V=>q.2) (ws:=ps) (λq=>.str (aO (.rep q.1))) (λσ=>∃v,σ=[v]) () (by rw[e2];exact ak (s8 _ _ h9)) {(none),rfl} ?_ ?_
      ·rintro z σ H9 R hz s9 ⟨_,rfl⟩ rr
       let zin:z.1∈S.aN:=by rw[<-e1];exact zQ hz
       change{z.2,z.1,rfl,(e3 z hz).mono (s8.trans s9),rok _ zin,λH2 s2=>rr _ _ _ s2 fg {_,rfl}}
      intro D9 vs9 H9 s9 nD9 hD9 il9;let ee9:ps.map (λq:Rep×V=>Dt.str (aO (.rep q.1)))=((S.aN.map Told.rep).map aO).map Dt.str:=by rw[<-e1,zC,zC,zC];rfl
      rw[ee9] at il9;rw[dY il9] at hD9;let tl2:=tl;rw[tB] at tl2;unfold L3 at tB tl2;simp only[zj,zd] at tl2;refine{D7,D9,_,_,rfl,rfl,ak (s9 _ _ hD8),ak hD9,by rw[fS];simp only[zd];ext,?_};intro Da na;generalize hU:upd H9 Da _=Ha;let sa:aG H9 Ha:=by rw[<-hU];exact bF na
      let hDa:Ha Da=some (.lst (rws (B3++S.aN.map .rep))):=by
       rw[<-hU,aE];exact y6 (λl=>some (HO.lst l)) (iG _ _).symm
      clear hU;let s0a:=(s8.trans s9).trans sa;let nDa:H Da=none:=(s8.trans s9).back na;clear hD8 hD9 il9;left;cases qj:S.bP with
      | none=>
       rw[qj] at hj tB;unfold dO Is at hj;subst hj;left;refine kk Da Ha s0a ?_;rw[hDa,tB];simp
      | some j=>
       rw[qj] at hj;let tj:=tok (.bP j) (by rw[tB,qj];simp);let⟨ja,jc,rfl,hja,ijc⟩:=PH hj;let⟨j1,j2,j3,j4⟩:=tj.1;let hja1:=s0a _ _ hja;let n1:=bM (n:=j.vJ) (by have:=j1.1;ext) (by have:=j1.2;ext);let n2:=bM (n:=j.Cd) (by have:=j2.1;ext) (by have:=j2.2;ext);let n3:=bM (n:=j.dw) (by have:=j3.1;ext) (by have:=j3.2;ext);left;refine Xb (H:=Ha) (.str (ctxt j.ik)) ?_ ?_ ?_
       ·intro c Z hz
        let e:jc=.bQ:=ye c;cases qc:j.ik with
        | none=>rw[qc] at hz;change hz
        | some m=>rw[qc] at ijc;unfold dO Is at ijc;rw[ijc] at e;cases e
       ·intro c Z hz
        cases qc:j.ik with
        | none=>rw[qc] at ijc;unfold dO Is at ijc;rw[ijc] at c;simp at c
        | some m=>
         rw[qc] at ijc hz;unfold dO Is at ijc;subst ijc;change{bM (by have:=(j4 m qc).1;ext) (by have:=(j4 m qc).2;ext),hz}
       exists .inl {rfl,_,ak hDa},?_;exists n1,?_;exists n2,?_;exists n3,?_;exists by show 5<=sizeLine;ext,?_
       intros p5 H5 s5 h5;refine{" ",p5,Sc.aV (.bP j),rfl,rfl,ak h5,fE tj,?_};exists Da,_,_,rfl,rfl,s5 _ _ hDa,by rw[fS,zj,zd];ext,?_
       left;refine kk Da _ (cY nDa (s0a.trans s5)) ?_;rw[aE,tB,qj,<-zG];exact y6 (λl=>some (HO.lst l)) (iG _ [Told.bP j]).symm
def U6 (b:Bool) (xs:List V):HO:=match b with | true=>.tup xs | false=>.lst xs
def Al (H:Hp):Nat->V->V->Prop
 | 0,_,_=>False
 | d+1,x,y=>(∃i,x=.int i/\y=.int i)\/(∃t,x=.str t/\y=.str t)\/∃p q b xs ys,x=.ref p/\y=.ref q/\H p=some (U6 b xs)/\H q=some (U6 b ys)/\⇑xs=⇑ys/\⇑xs<=1000000/\∀z∈xs.zip ys,Al H d z.1 z.2
def Al.mono {H H':Hp} (s:aG H H') {d:Nat}:∀{x y:V},Al H d x y->Al H' d x y:=by
 induction d with
 | zero=>exact λh=>h
 | succ d ih=>
  intro x y h;rcases h with h | h | ⟨p,q,b,xs,ys,e1,e2,h1,h2,h3,h4,h5⟩;exact .inl h;exact .inr (.inl h);exact .inr (.inr {p,q,b,xs,ys,e1,e2,s _ _ h1,s _ _ h2,h3,h4,λz hz=>ih (h5 z hz)})
def mL {H:Hp} {p:vw} {b:Bool} {xs:List V} (h:H p=some (U6 b xs)):tag H (.ref p)=some (if b=true then Ty.tup else Ty.lst):=by
 cases b
 ·exact QM h
 ·exact LA h
def tI {K:yE} {H:Hp} {p:vw} {b:Bool} {xs:List V} (h:H p=some (U6 b xs)):JF b K H p xs:=by
 cases b
 ·exact ak h
 ·exact bC h
def RZ {K:yE} {H:Hp} {p:vw} {b:Bool} {xs:List V} (h:H p=some (U6 b xs)):fM K H p xs\/mI K H p xs:=by
 cases b
 ·exact .inl (ak h)
 ·exact .inr (bC h)
inductive gE (d:Nat) (vs:List V) (H:Hp) (Q:VK) (E:XK):Prop
 | mk (x y:V) (_:vs=[x,y]) (_:Al H d x y) (_:∀H',aG H H'->Q (.bl true) H')
def oZ {k d:Nat} (G__law_alike:cO P w K mg base Cc k T.iY T.iQ ["_law_found","_law_due"] (gE d)):cO P w K mg base Cc (k+1) T.iY T.iQ ["_law_found","_law_due"] (gE (d+1)):=by
 nomatch T.jF,["_law_found","_law_due"]
 let⟨x,y,rfl,al,kk⟩:=h;let sl:=yF;refine{_,(ag (aL (PW.pt (d8 (cj (hZ .bl (by decide +kernel) (pv 1) T.bN T.FJ)) (dk (cj (hZ .bl (by decide +kernel) (pv 0) T.bN T.FJ)))))
  (aj (ax (ia (hZ .bl (by decide +kernel) (pv 1) T.bN T.FJ) (ia (hZ .bl (by decide +kernel) (pv 0) T.bN T.FJ) (hX (cR cS (pv 0) (pv 1) (fe _)))))))
  aA)
  (ag (aL (cj (hZ .int (by decide +kernel) (pv 1) T.bN T.Pl))
  (aj (ax (ia (hZ .int (by decide +kernel) (pv 0) T.bN T.Pl) (hX (cR cS (pv 0) (pv 1) (fe _))))))
  aA)
  (ag (aL (cj (hZ .str (by decide +kernel) (pv 1) T.bN T.d9))
  (aj (ax (ia (hZ .str (by decide +kernel) (pv 0) T.bN T.d9) (hX (cR cS (pv 0) (pv 1) (fe _))))))
  aA)
  (ag (aL (PW.pt (d8 (ptr jq (hZ .tup (by decide +kernel) (pv 1) T.bN T.iL) (hZ .tup (by decide +kernel) (pv 0) T.bN T.iL)) (dk (ptr jq (hZ .lst (by decide +kernel) (pv 1) T.bN T.Bb) (hZ .lst (by decide +kernel) (pv 0) T.bN T.Bb)))))
  (aj (ax lY))
  aA)
  (aj (ax (ia (cR cS (dC ay T.bx (aa (pv 0) ae)) (dC ay T.bx (aa (pv 1) ae)) (fe _)) (hX (dC (kK rfl) T.Io (aa (og (ts:=["_law_one","_law_other"]) (ys:=[]) (js:=[]) (g:=(CY K 2 (eI (bW 0) (eI (bW 1) CZ)))) (te:=(gn (gE d) [] E0 (aY (aW 0) (aY (aW 1) cE)))) (Ki (by rfl) T.Pk (aa (pv 0) (aa (pv 1) ae))) (du (n:=2) rfl (aD (gF 0) (aD (gF 1) cG))) bG (Fq G__law_alike hr rfl T.jF.g T.jF.F.kp T.jF.b .nil AX (aa (pv 0) (aa (pv 1) ae)))) ae)))))))))),?_}
 ac_rfl;rcases al with⟨i,rfl,rfl⟩ | ⟨i,rfl,rfl⟩ | ⟨p,q,b,xs,ys,rfl,rfl,hp,hq,hl,hz,ha⟩
 ·left
  rw[zh rfl];exact kk _ (aF _)
 ·left
  rw[zh rfl];exact kk _ (aF _)
 ·let t1:∀c,c≠Ty.tup->c≠Ty.lst->(if b=true then Ty.tup else Ty.lst).sub c=false:=λc n1 n2=>by cases b <;> cases c <;> first | rfl | exact absurd rfl n1 | exact absurd rfl n2
  exists _,mL hq,?_;left;refine cD (t1 _ (λz=>nomatch z) (λz=>nomatch z)) ?_;exists _,mL hp,?_;left;refine cD (t1 _ (λz=>nomatch z) (λz=>nomatch z)) ?_;exists _,mL hq,?_;left;refine cD (t1 _ (λz=>nomatch z) (λz=>nomatch z)) ?_;exists _,mL hq,?_;left;refine cD (t1 _ (λz=>nomatch z) (λz=>nomatch z)) ?_;exists _,mL hq,?_;exists _,mL hp,?_;left;refine cD (by rw[zh rfl];rfl) ?_;exists _,mL hq,?_;exists _,mL hp,?_;left;refine cD (by rw[zh rfl];rfl) ?_;exists p,xs,rfl,RZ hp,?_;exists q,ys,rfl,RZ hq,?_;rw[hl];left;refine cz (zh rfl) ?_;exists b,b,p,q,xs,ys,rfl,tI hp,tI hq,?_;let zl:⇑(xs.zip ys)=⇑xs:=by rw[xB];ext
  refine pU (ws:=xs.zip ys) (λz x H'=>∃a,x=.ref a/\H' a=some (.tup [z.1,z.2])) (λ_=>.bl true) (λσ=>∃u v,σ=[u,v]) () {(none),none,rfl} ?_ ?_ ?_ ?_ ?_
  ·intro i H5 hi s5
   let i1:i<⇑xs:=()
   let i2:i<⇑ys:=()
   exact{xs,ys,xs[i],ys[i],tI (s5 _ _ hp),tI (s5 _ _ hq),ze i1,ze i2}
  ·intro H5 s5
   exact{xs,ys,tI (s5 _ _ hp),tI (s5 _ _ hq),Or.inl ()}
  ·rintro i x H5 H6 hi s5 ⟨a,u,v,ha',rfl,rfl,hu',hv'⟩
   let i1:i<⇑xs:=()
   let i2:i<⇑ys:=()
   let gu:=hu' xs (tI (s5 _ _ hp));let gv:=hv' ys (tI (s5 _ _ hq));rw[ze i1] at gu;rw[ze i2] at gv;cases gu;cases gv;exact{bF ha',a,rfl,by rw[aE,List.getElem_zip]}
  ·rintro z x σ H5 R hz' s5 ⟨a,rfl,ha'⟩ ⟨_,_,rfl⟩ rr
   refine{a,_,rfl,bC ha',rfl,?_};refine{_,_,rfl,_,_,rfl,rfl,?_};exists _,_,rfl,(ha z hz').mono s5,λH6 s6=>?_;exact rr _ _ _ s6 rfl {_,_,rfl}
  ·intro D5 vs5 H5 s5 hD5 il5
   let e5:(xs.zip ys).map (λ_=>Dt.bl true)=(List.replicate ⇑xs true).map Dt.bl:=by rw[List.map_const',zl,List.map_replicate]
   rw[e5] at il5;rw[jx il5] at hD5;refine{D5,List.replicate ⇑xs true,rfl,ak hD5,?_};rw[show(List.replicate ⇑xs true).all id=true from yt.mpr λx hx=>List.eq_of_mem_replicate hx];exact kk _ s5
def A7 {k:Nat}:cO P w K mg base Cc k T.iY T.iQ ["_law_found","_law_due"] (gE 0):=
 {λvs H Q E h=>by let⟨_,_,_,z,_⟩:=h;exact z.elim,λT outer s H args us vs Q E _ _ _ _ h=>by let⟨_,_,_,z,_⟩:=h;exact z.elim}
inductive Cq (vs:List V) (H:Hp) (Q:VK) (E:XK):Prop
 | mk (t w:Str) (i:Nat) (_:vs=[.str t,.int (i:Nat),.str w]) (_:⇑t+2<=sizeLine) (_:RX {} 0 (Txt.split t "\n") (.bad i w)) (_:∀H',aG H H'->Q (.bl true) H')
def oY (B:Dk P w K T) (F:Cf K T.jX):dz P w base 9 T.lN Cq:=by
 nomatch T.lN,["_law_text","_law_place","_law_word","_law_caught","e"]
 let⟨t,w',i,rfl,tl,rx,kk⟩:=h;let sl:=yF;refine{_,(ag (b7 3 qN bj)
  (ag (Q9 (oW T B F) (hr.mono ∅) rfl T.fF.g T.fF.F.kp T.fF.b (aa (pv 0) ae) rfl qN (j:=4) rfl rfl rfl T.FW T.dM.sup T.CW T.GV rfl rfl rfl (λe=>(aj (b7 3 qN (pv 4)))))
  (ag (aL (PW.pt (d8 (eM (cj (dC Eo T.bN (aa (pv 3) (aa (bH (v:=.ref T.b9) (by rfl) T.vX rfl) ae))))) (dk (eM (cj (dC Eo T.bN (aa (pv 3) (aa (LM (v:=.ty "ValueError") (by rfl) T.FK (by decide +kernel) rfl) ae))))))))
  (aj (ax lY))
  aA)
  (ag (aL (cj (dC K9 T.bN (aa (pv 3) (aa (bT (aa (bH (v:=.ref T.oF) (by rfl) T.Mz rfl) (aa (bH (v:=.ref T.vP) (by rfl) T.QL rfl) (aa (bH (v:=.ref T.eR) (by rfl) T.JO rfl) (aa (bH (v:=.ref T.lH) (by rfl) T.JN rfl) (aa (bH (v:=.ref T.oE) (by rfl) T.My rfl) ae)))))) ae))))
  (aj (ax lY))
  aA)
  (aj (ax (cw (oZ T (oZ T (A7 T (k:=0)))) hr T.jF (aa (aU (aa (R6 (pv 3) rfl) (aa (R6 (pv 3) rfl) ae))) (aa (aU (aa (pv 1) (aa (pv 2) ae))) ae))))))))),?_}
 ac_rfl;exists t,.bad i w',rfl,tl,rx,(λS z=>nomatch z),λi2 w2 z dx H1 s1 hd=>?_;cases z;refine{rfl,λa na=>?_};let s2:aG H1 (upd H1 a (GO T.b9 (some dx) a)):=bF na;let ha:upd H1 a (GO T.b9 (some dx) a) a=some (GO T.b9 (some dx) a):=aE;generalize upd H1 a (GO T.b9 (some dx) a)=H2 at s2 ha ⊢;let hd2:=s2 _ _ hd;let s02:=s1.trans s2;exists a,_,_,_,_,true,rfl,ha,T.dM.cls,.inl {_,rfl,rfl},PD,?_;exists a,_,_,_,_,true,rfl,ha,T.dM.cls,.inr {_,rfl,rfl},PB T.xf.ve (by decide +kernel),?_;left
 skip
 refine{(by show 5<=sizeLine;ext),?_}
 intros p np s3 hp H3
 let s03:=s02.trans s3;refine{a,_,p,_,[T.oF,T.vP,T.eR,T.lH,T.oE],false,rfl,s3 _ _ ha,T.dM.cls,hp,PF T.xf T.Mu T.QG T.JJ T.JI T.Mt,?_};left;let ha3:=s3 _ _ ha;let hd3:=s3 _ _ hd2;refine{a,_,dx,_,_,rfl,ha3,hd3,T.dM.cls,T.xf.hd,T.xf.np,rfl,?_};left;let hd3':=hd3;refine{a,_,dx,_,_,rfl,ha3,hd3,T.dM.cls,T.xf.hd,T.xf.nw,rfl,?_};left
 skip
 refine{(by show 2<=sizeLine;ext),?_}
 intros p4 n4 s4 h4 H4
 left
 skip
 refine{(by show 2<=sizeLine;ext),?_}
 intros p5 n5 s5 h5 H5
 left
 skip
 refine{_,_,rfl,.inr (.inr {p4,p5,false,_,_,rfl,rfl,s5 _ _ h4,h5,rfl,(by show 2<=1000000;decide),λz hz=>?_}),λH6 s6=>kk _ (((s03.trans s4).trans s5).trans s6)};rcases zE.mp hz with rfl | hz
 ·exact .inl {_,rfl,rfl}
 ·rw[zB.mp hz];exact .inr (.inl {_,rfl,rfl})
def sM {n:Str} (h:dW n):⇑n<=12:=by
 unfold dW cu at h;split at h
 ·cases h
 ·split at h
  ·cases h
  ·ext
def T6 {n:Int} (h:NB n):⇑(dec n)<=5:=cb (by have:=h.1;ext) (by have:=h.2;ext)
theorem GY:∀es:List Sc.End,GK es=⇑((es.map (·.2)).flatten)
 | []=>rfl
 | e::r=>by rw[zk,ya,zj,<-GY r];rfl
theorem HI {n:Nat} (hn:n<=999):∀{l rs:List Rep},(rs++l).Pairwise (λa b=>a.last<b.first)->(∀r∈l,GF n r)->vR n rs l
 | [],_,_,_=>trivial
 | r::l,rs,asc,ok=>by
  let⟨h1,h2,h3,h4,h5,e1,e2,e3,e4,e5⟩:=ok r zt;refine{λb hb=>?_,?_,{by rw[GY];ext,(),(),()},HI hn (by rw[zG];exact asc) λx hx=>ok x (zr _ hx)}
  ·rcases zH.mp hb with z | z
   ·simp only[zE,zF,yX] at z
    rcases z with z | z <;> ext
   ·let⟨e,he,rfl⟩:=zI.mp z
    have:=(e3 e he).2.1;ext
  ·let fin:(decide (r.first<=r.last)&&fY r)=true:=by rw[zh h2];exact e1
   unfold kU;cases q:rs.getLast? with
   | none=>exact fin
   | some p=>
    have:=(zV.mp asc).2.2 p (wX q) r zt;dsimp only;rw[yQ ()];exact fin
def Ll (k:Nat):⇑(aI k).1=k+1:=by show(fm "a" (k+1)).length=k+1;rw[qx];exact Nat.mul_one _
structure W4 (S:bO):Prop where
 l1:1<=⇑S.aq
 l3:⇑S.aq<=3
 nm:JC (S.aq.map (·.1))
 z:∀x∈S.aq,x=(x.1,(0,0),(1,8))
 hl:∀n∈S.aq.map (·.1),NR n
 a0:S.aq[0]?=some (("a": Str),(0,0),(1,8))
def bS.i {S:bO} (D:bS S):W4 S:=by
 let⟨n,n1,n3,e⟩:=D.ins;let ec:∀k c,c∈(aI k).1.cps.toList->c=97:=λk c hc=>by
  let hc:c∈(fm "a" (k+1)).cps.toList:=hc;rw[fU] at hc;let⟨l,hl,hd⟩:=wm.mp hc;rw[List.mem_replicate] at hl;rw[hl.2] at hd;exact zB.mp hd
 refine{by rw[e,zd,zT];exact n1,by rw[e,zd,zT];exact n3,{λx hx=>?_,?_},λx hx=>?_,λx hx=>?_,?_}
 ·rw[e,zC] at hx
  let⟨k,hk,rfl⟩:=zI.mp hx;have:=yU.mp hk;let l:=Ll k;exact LO (by show 1<=⇑(aI k).1;ext) (by show(aI k).1.length<=12;ext) λc hc=>by rw[ec k c hc];decide
 ·rw[e,zC]
  refine ou List.nodup_range λx hx y hy q=>?_;let q2:⇑(aI x).1=⇑(aI y).1:=y6 Str.length q;rw[Ll,Ll] at q2;ext
 ·rw[e] at hx
  let⟨k,hk,rfl⟩:=zI.mp hx;rfl
 ·rw[e,zC] at hx
  let⟨k,hk,rfl⟩:=zI.mp hx;refine{97,?_,zp _};show 97∈(fm "a" (k+1)).cps.toList;rw[fU];exact wm.mpr {[97],List.mem_replicate.mpr {(()),rfl},zB.mpr rfl}
 ·rw[e,zL,List.getElem?_range n1]
  show some (fm "a" 1,((0,0):Int×Int),((1,8):Int×Int))=_;rw[HJ]
def gG {S:bO} (D:bS S):Xc S:=by
 let bl:=D.bl;let b1:=D.b1;let pl:=D.pl;let I:=D.i;let i1:=I.l3;let⟨q,q1,q2⟩:=D.st;let qin:=wX q1;let nl:=D.nl;let⟨r1,r2,r3⟩:=D.rp;let hl:=D.hs.length_le;rw[zd] at hl;refine{D.pn.2,(),I.nm.2,(),by rw[q2];simp,by rw[q2];simp,λx hx p hp=>by rw[q2] at hx;rw[zB.mp hx] at hp;rw[zB.mp hp];exact qin,λx hx=>by rw[q2] at hx;rw[zB.mp hx];show 1<=1000;decide,by rw[q2];show 1<=1000000;decide,(),λb hb=>?_,λu hu=>?_,D.hs.nodup D.pn.2,(),λx hx=>?_,D.no.1,(),λx hx=>?_,HI () (by rw[List.nil_append];exact r3) r2,(),λr hr=>?_,λj hj=>?_}
 ·let⟨m1,m2,m3,m4,m5⟩:=lA (D.bd b hb).1
  exact{(()),(),(),()}
 ·let⟨x,z,e1,e2,e3⟩:=D.up u hu
  let xin:=(D.bd x (zD e1)).1;let⟨m1,m2,m3,m4,m5⟩:=lA xin;refine{(),?_,?_}
  ·unfold bO.bg
   rw[e1,e3];exact Od x.bg xin z e2
  ·let z1:2<=z/\z<=5:=by
    simp only[zE,zF,yX] at e2;ext
   let p1:0<x.bg.2*z:=xA () ();let p2:x.bg.2*z<=32*5:=wc m5 z1.2 () ∅;let⟨q1,q2,q3,q4⟩:=Kv (t:=x.bg.1) (b:=x.bg.2*z) () () p1 ();let⟨_,q5,_⟩:=q1.pos;rw[e3];exact{(cq (n:=10) () ()).mono ∅,(cq (n:=10) () ()).mono ∅}
 ·let⟨h1,h2,h3,h4⟩:=D.hr x hx
  exact{h1,(),h3,D.hs.subset (zQ (f:=λy:Str×List (Int×Str)=>y.1) hx),λh hh=>{(h4 h hh).2.1,(h4 h hh).2.2}}
 ·let⟨h1,h2,h3,h4,h5,h6,h7⟩:=D.no.2 x hx
  exact{h1,h2,h3,h4,λit hit=>(h5 it hit).1,h6}
 ·have:=(r2 r hr).2.2.2.2.2.2.1
  ext
 ·let⟨j1,j2,j3,j4,j5⟩:=D.ju j hj
  refine{λb hb=>?_,j1};rcases zH.mp hb with z | z
  ·simp only[zE,zF,yX] at z
   rcases z with z | z | z <;> ext
  ·cases q:j.ik with
   | none=>rw[q] at z;cases z
   | some c=>
    rw[q] at z;have:b=c:=by simpa using z
    have:=(j5 c q).2;ext
def El {many:Int} {r:Rep} (hm:many<=200) (h:GF many r):RO r:=by
 let⟨h1,h2,h3,h4,h5,e1,e2,e3,e4,e5⟩:=h;exact{{{(h1),()},{(()),()},h4,h5,λe he=>{by have:=(e3 e he).1;ext,by have:=(e3 e he).2.1;ext,(e3 e he).2.2.1,(e3 e he).2.2.2.2}},e2,λe he=>(e3 e he).2.2.2.1}
def U2:dW "s":=(by decide +kernel:cu "s"= some "s")
def Pd:dW "t":=(by decide +kernel:cu "t"= some "t")
def WB:dW "0":=(by decide +kernel:cu "0"= some "0")
def WA:dW "zzzzzzzzzzzz":=(by decide +kernel:cu "zzzzzzzzzzzz"= some "zzzzzzzzzzzz")
def Kn:dW "0zz":=(by decide +kernel:cu "0zz"= some "0zz")
def W5:Told->Prop
 | .bE _ ps=>⇑ps<=90
 | .bar b=>⇑b.marks<=90
 | .aJ _ _ its=>⇑its<=90
 | .rep r=>⇑r.ends<=9/\∀e∈r.ends,⇑e.2<=9
 | _=>True
def tR {n:Str} (h:dW n):⇑n<=100:=by have:=sM h;ext
def tS {n:Int} (h:NB n):⇑(dec n)<=100:=by have:=T6 h;ext
def Mb {n:Int} (h1:-10000<n) (h2:n<10000):⇑(dec n)<=100:=by have:=cb h1 h2;ext
def LP {α:Type} {f:α->Str} {l:List α} {p:Str->Prop} (h:∀x∈l,p (f x)):∀y∈l.map f,p y:=λy hy=>by
 let⟨x,hx,rfl⟩:=zI.mp hy;exact h x hx
def eF {t:Told} (h:Ew t) (f:W5 t):TD t:=by
 refine{h,?_};cases t with
 | bA n=>exact{by show 2<=100;decide,aK ∅ (aK (tR h) all_nil)}
 | cg n t l=>
  let⟨h1,⟨o1,o2,o3,o4,_⟩,_,_,h5,h6,h7⟩:=h;let⟨p1,p2,_⟩:=h5.pos;exact{by show 5<=100;decide,aK ∅ (aK (tR h1) (aK (Mb () ()) (aK (Mb () ()) (aK (by have:=kz (x:=l) () h6 () h7;ext) all_nil))))}
 | bE n ps=>
  let f:⇑ps<=90:=f;exact{by show ⇑ps+1+1<=100;ext,aK ∅ (aK (tR h.1) λp hp=>tR (h.2.2 p hp))}
 | bar b=>
  let⟨m1,m2,m3,q2,q3,q4⟩:=h;let f:⇑b.marks<=90:=f;let mb:1<=b.bg.2/\b.bg.2<=32:=by unfold BS at m3;simp at m3;ext
  refine{by show ⇑b.marks+1+1+1<=100;ext,aK ∅ (aK ?_ (aK (Mb () ()) λp hp=>tR (q4 p hp)))};let l1:=cb (n:=b.bg.1) () ();let l2:=cb (n:=b.bg.2) () ();rw[bo,bo];have:("/": Str).length=1:=rfl;ext
 | aH l=>
  let⟨p1,p2,_⟩:=h.1.pos;exact{by show 2<=100;decide,aK ∅ (aK (by have:=kz (x:=l) () h.2.2.1 () h.2.2.2;ext) all_nil)}
 | holds p b i=>exact{by show 4<=100;decide,aK ∅ (aK (tR h.1) (aK (tS h.2.1) (aK (tR h.2.2) all_nil)))}
 | aJ b p its=>
  let f:⇑its<=90:=f;exact{by show(its.map kA).length+1+1+1<=100;rw[zd];ext,aK ∅ (aK (tS h.1) (aK (tR h.2.1) (LP λit hit=>by have:=M9 (h.2.2.1 it hit);ext)))}
 | rep r=>
  let⟨f1,f2⟩:=f;let⟨q1,q2,q3,q4,q5⟩:=h;exact{by show(r.ends.map oO).length+1+1+1+1<=100;rw[zd];ext,aK ∅ (aK (tS q1) (aK (tS q2) (aK (Mb () ()) (LP λe he=>by have:=IP (q5 e he) (f2 e he);ext))))}
 | bP j=>
  let⟨n1,n2,n3,n4⟩:=h;refine{by show 5<=100;decide,aK ∅ (aK (tS n1) (aK (tS n2) (aK (tS n3) (aK ?_ all_nil))))};unfold ctxt;cases q:j.ik with
  | none=>decide
  | some c=>exact tS (n4 c q)
def kG {S:bO} (D:bS S):∀t∈cC S,TD t:=by
 let bl:=D.bl;let b1:=D.b1;let pl:=D.pl;let I:=D.i;let⟨q,q1,q2⟩:=D.st;let qin:=wX q1;let⟨r1,r2,r3⟩:=D.rp;let pnm:∀p∈S.au,dW p:=D.pn.1;let inm:∀p∈S.aq.map (·.1),dW p:=I.nm.1;intro t ht;unfold cC at ht;simp only[zH] at ht;rcases ht with((((((ht | ht) | ht) | ht) | ht) | ht) | ht) | (ht | ht)
 ·let⟨n,hn,rfl⟩:=zI.mp ht
  exact eF (t:=.bA n) (pnm n hn) trivial
 ·let⟨x,hx,rfl⟩:=zI.mp ht
  let nx:=inm x.1 (zQ (f:=λy:Str×(Int×Int)×(Int×Int)=>y.1) hx);rw[I.z x hx];exact eF (t:=.cg x.1 (0,0) (1,8)) {nx,by unfold Qz;decide,∅,∅,Lm.Rd.of (t:=1) (b:=8) ∅ ∅,∅,∅} trivial
 ·rw[q2] at ht
  rw[zB.mp ht];exact eF (t:=.bE "s" [q]) {U2,List.cons_ne_nil _ _,λp hp=>by rw[zB.mp hp];exact pnm q qin} (by show 1<=90;decide)
 ·let⟨b,hb,rfl⟩:=zI.mp ht
  let⟨q1,q2,q3,q4,q5⟩:=D.bd b hb;let⟨m1,m2,m3,m4,m5⟩:=lA q1;exact eF (t:=.bar b) {(m1),(),m3,q2,q3,q4} (by show ⇑b.marks<=90;ext)
 ·let⟨u,hu,rfl⟩:=zI.mp ht
  let hu':S.aH=some u:=Option.mem_toList.mp hu;let ln:=IT (S:=S) rfl rfl D.bd D.up 0 ();let el:S.len 0=u:=by unfold bO.len;rw[hu'];rfl
  rw[el] at ln;let⟨l1,l2,l3,l4⟩:=ln;exact eF (t:=.aH u) {(l1),l2,(),()} trivial
 ·let⟨l,hl,ht⟩:=wm.mp ht
  let⟨x,hx,rfl⟩:=zI.mp hl;let⟨h,hh,rfl⟩:=zI.mp ht;let⟨h1,h2,h3,h4⟩:=D.hr x hx;let np:=pnm x.1 (D.hs.subset (zQ (f:=λy:Str×List (Int×Str)=>y.1) hx));exact eF (t:=.holds x.1 h.1 h.2) {np,{(h4 h hh).1,by have:=(h4 h hh).2.1;ext},inm h.2 (h4 h hh).2.2} trivial
 ·let⟨x,hx,rfl⟩:=zI.mp ht
  let⟨h1,h2,h3,h4,h5,h6,h7⟩:=D.no.2 x hx;exact eF (t:=.aJ x.1.1 x.1.2 x.2) {{(h1),()},pnm _ h3,h5,h7} (by show ⇑x.2<=90;ext)
 ·let⟨r,hr,rfl⟩:=zI.mp ht
  let⟨q5,q6,q7⟩:=El () (r2 r hr);exact eF (t:=.rep r) q5 {(q6),q7}
 ·let⟨j,hj,rfl⟩:=zI.mp ht
  let⟨j1,j2,j3,j4,j5⟩:=D.ju j (Option.mem_toList.mp hj);exact eF (t:=.bP j) {{(j2.1),()},{(j3.1),()},{(j4.1),()},λc hc=>{(j5 c hc).1,by have:=(j5 c hc).2;ext}} trivial
theorem L5 {α:Type} {k:Nat}:∀{l:List (List α)},(∀x∈l,⇑x<=k)->⇑l.flatten<=k*⇑l
 | [],_=>by simp
 | x::r,h=>by
  let ih:=L5 (l:=r) λy hy=>h y (zr _ hy);have:=h x zt;rw[ya,zj,zw,Nat.mul_succ];ext
def Np {S:bO} (D:bS S):⇑(cC S)<=900/\cC S≠[]:=by
 let bl:=D.bl;let b1:=D.b1;let pl:=D.pl;let NX:=D.NX;let i1:=D.i.l3;let⟨q,q1,q2⟩:=D.st;let t1:⇑S.aP<=1:=by rw[q2];exact zp _
 let r1:=D.rp.1;let nl:=D.nl;let hl:=D.hs.length_le;rw[zd] at hl;let f:=L5 (k:=4) (l:=S.holds.map λx=>x.2.map λh=>Told.holds x.1 h.1 h.2) λy hy=>by
  let⟨x,hx,rfl⟩:=zI.mp hy;rw[zd];exact(D.hr x hx).2.1
 rw[zd] at f;let u:⇑S.aH.toList<=1:=by cases S.aH <;> simp
 let j:⇑S.bP.toList<=1:=by cases S.bP <;> simp
 refine{?_,λz=>?_}
 ·unfold cC
  simp only[zj,zd];ext
 ·have:=y6 List.length z
  unfold cC at this;simp only[zj,zd,xo] at this;ext
def Gd (S:bO) (wd r:Str):Prop:=∃t,r=aO t/\TD t/\GB S t/\aX S t=some wd
def gd {S:bO} {wd:Str} {t:Told} (h:Ew t) (f:W5 t) (i:GB S t) (e:aX S t=some wd):Gd S wd (aO t):={t,rfl,eF h f,i,e}
def Ph {n:Int} {m:Nat} (h0:0<=n) (h1:n<(m:Int)) (h:m<=12):NB n:={(h0),()}
theorem bS.rw {S:bO} (D:bS S) {x:Str×List (Int×Str)} (hx:x∈S.holds):(S.holds.lookup x.1).getD []=x.2:=by
 let nd:=D.hs.nodup D.pn.2
 revert hx nd
 generalize S.holds=hs
 induction hs with
 | nil=>intro h;cases h
 | cons y r ih=>
  intro h nd;rw[zk,yd] at nd;rw[yu];rcases zE.mp h with rfl | h
  ·rw[wk];rfl
  ·rw[show(x.1 == y.1)=false from by simp;exact λz=>nd.1 (by rw[<-z];exact zQ (f:=λx:Str×List (Int×Str)=>x.1) h)]
   exact ih h nd.2
def bS.XJ {S:bO} (D:bS S) (p:Str):∀h∈(S.holds.lookup p).getD [],h.1<(⇑S.aR:Int):=λh hh=>by
 by_cases c:p∈S.holds.map (·.1)
 ·let⟨x,hx,rfl⟩:=zI.mp c
  rw[D.rw hx] at hh;exact((D.hr x hx).2.2.2 h hh).2.1
 ·rw[Be c] at hh
  cases hh
def qV {S:bO} (D:bS S) {p i:Str} {b:Int} (h:(⇑S.aR:Int)<=b):aX S (.holds p b i)=if p∉S.au then some ("name": Str) else if i∉S.aq.map (·.1) then some ("name": Str) else some ("bar": Str):=by
 unfold aX;dsimp only;rw[yQ (by
  cases q:((S.holds.lookup p).getD []).getLast? with
  | none=>simp
  | some x=>
   have:=D.XJ p x (wX q);simp;ext)]
 split
 ·rfl
 split
 ·rfl
 ·rw[yR (λz=>by unfold bO.has at z;simp at z;ext)]
def GS {n:Nat} {x:Str} (h:NR x):x≠fm "0" n:=λz=>by
 let⟨c,hc,h⟩:=h;rw[z,fU] at hc;let⟨l,hl,hd⟩:=wm.mp hc;rw[(List.mem_replicate.mp hl).2] at hd;have:=zB.mp hd;ext
def bS.Xz {S:bO} (D:bS S) (n:Nat):fm "0" n∉S.au:=λz=>GS (D.ph _ z) rfl
def bS.XA {S:bO} (D:bS S) (n:Nat):fm "0" n∉S.aq.map (·.1):=λz=>GS (D.i.hl _ z) rfl
def Tq {n:Nat} (h1:1<=n) (h2:n<=12):dW (fm "0" n):=by
 let el:(fm "0" n).length=n:=by rw[qx];exact Nat.mul_one n
 refine LO () () λd hd=>?_;rw[fU] at hd;let⟨l,hl,hd⟩:=wm.mp hd;rw[(List.mem_replicate.mp hl).2] at hd;rw[zB.mp hd];decide
def Kz {S:bO} (D:bS S) {x:Str×List (Int×Str)} {h:Int×Str} {i:Str} (hx:x∈S.holds) (hh:h∈x.2):aX S (.holds x.1 h.1 i)=some ("twice": Str):=by
 unfold aX;dsimp only;rw[D.rw hx,yR];let⟨ne,_,asc,_⟩:=D.hr x hx;rw[List.getLast?_eq_some_getLast ne];refine zh ?_;obtain⟨l,z,e⟩:∃l z,x.2=l++[z]:={_,_,(xW ne).symm}
 rw[e,zm,zV] at asc;rw[e] at hh;rw[show x.2.getLast ne=z by simp[e]];rcases zH.mp hh with y | y
 ·have:=asc.2.2 h.1 (zQ (f:=λx:Int×Str=>x.1) y) z.1 (by simp)
  ext
 ·rw[zB.mp y];ext
def om {m:Int} {l:List V} (h:l≠[]):∃(j:Nat) (v:V),l[j]?=some v/\tm l (m%(⇑l:Int))=some v:=by
 let hp:0<⇑l:=yv.mpr h;let a0:=zy m (b:=(⇑l:Int)) ();let a1:=zv m (b:=(⇑l:Int)) ();obtain⟨j,hj⟩:∃j:Nat,m%(⇑l:Int)=(j:Int):={(m%(⇑l:Int)).toNat,()}
 exact{j,l[j]'(),ze _,by rw[hj];exact bz (ze _)}
def oo {m:Int} {l:List Str} (h:l≠[]):∃x,tm (l.map V.str) (m%(⇑l:Int))=some (.str x)/\x∈l:=by
 let⟨j,v,h1,h2⟩:=om (m:=m) (l:=l.map V.str) (by simpa using h);rw[zd] at h2;rw[zL] at h1;cases q:l[j]? with
 | none=>rw[q] at h1;cases h1
 | some x=>
  rw[q] at h1;cases h1;exact{x,h2,zD q}
def o9 (a b:Str) (m:Int):∃z,tm [V.str a,V.str b] (m%2)=some (.str z)/\(z=a\/z=b):=by
 let⟨z,h1,h2⟩:=oo (m:=m) (l:=[a,b]) (by simp);exact{z,h1,by simpa using h2}
inductive pw (wd:Str) (vs:List V) (H:Hp) (Q:VK) (E:XK):Prop
 | mk (p:vw) (S:bO) (m:Int) (_:vs=[.ref p,.int m]) (_:L8 H p S) (_:bS S) (_:0<=m) (_:∀r H',aG H H'->Gd S wd r->Q (.str r) H')
def O9 {S:bO} (D:bS S):∃x,(S.au.map V.str)[0]?=some (.str x)/\x∈S.au/\∀q,S.au.getLast?=some q->x≠q:=by
 let l:=D.NX;let nd:=D.pn.2
 revert l nd
 generalize S.au=l;intro l1 nd
 match l,l1,nd with
 | x::y::r,_,nd=>
  refine{x,rfl,zt,λq hq e=>?_};rw[List.getLast?_cons_cons] at hq;have:=wX hq;rw[<-e] at this;exact(yd.mp nd).1 this
def U0 {S:bO} (D:bS S):∃x,tm (S.au.map V.str) (-1)=some (.str x)/\x∈S.au/\S.aP=[(("s": Str),[x])]:=by
 let⟨q,q1,q2⟩:=D.st;have:=D.NX;refine{q,lI ?_,wX q1,q2};rw[zd,zL,<-wo,q1];rfl
def Ag {S:bO} (D:bS S) {ps:List Str} {o:Str} (nd:ps.Nodup) (hl:∀q,S.au.getLast?=some q->q∉ps) (ho:o∈ps) (hp:o∉S.au):aX S (.bE "t" ps)=some ("name": Str):=by
 let⟨q,q1,q2⟩:=D.st;unfold aX;dsimp only;rw[q2,yQ (by show¬("t": Str)∈[("s": Str)];decide),yQ (λz=>z nd),yQ,yR]
 ·exact yr.mpr {o,ho,by rw[zg hp];rfl}
 ·intro z
  let⟨x,hx,z⟩:=yr.mp z;let⟨y,hy,z⟩:=yr.mp z;rw[zB.mp hx] at z;let z:=zB.mp (ye z);exact hl q q1 (z▸hy)
def mR {S:bO} (D:bS S) {ps:List Str} (h:¬ps.Nodup\/∃q∈ps,S.au.getLast?=some q):aX S (.bE "t" ps)=some ("twice": Str):=by
 let⟨q,q1,q2⟩:=D.st;unfold aX;dsimp only;rw[q2,yQ (by show¬("t": Str)∈[("s": Str)];decide)]
 by_cases c:ps.Nodup
 ·rw[yQ (λz=>z c),yR]
  rcases h with h | ⟨y,hy,e⟩
  ·exact absurd c h
  ·rw[q1] at e
   cases e;exact yr.mpr {("s",[q]),zB.mpr rfl,yr.mpr {q,hy,zh (zB.mpr rfl)}}
 ·rw[yR c]
def KA {S:bO} {bs:List Int} {b:Int} (hb:b∈bs) (h:(⇑S.aR:Int)<=b):¬S.has bs=true:=λz=>by
 have:=ye (yt.mp z b hb);ext
def Q2 {S:bO} {r:Rep} {b:Int} (hb:b∈[r.first,r.last]++r.ends.map (·.1)) (h:(⇑S.aR:Int)<=b):aX S (.rep r)=some ("bar": Str):=by
 unfold aX;dsimp only;rw[yR (KA hb h)]
def qQ {S:bO} {j:Jump} {b:Int} (nj:S.bP=none) (hb:b∈[j.vJ,j.Cd,j.dw]++j.ik.toList) (h:(⇑S.aR:Int)<=b):aX S (.bP j)=some ("bar": Str):=by
 unfold aX;dsimp only;rw[nj,yQ (by simp),yR (KA hb h)]
def DT {S:bO} (D:bS S) {b:Int} {p:Str} {its:List Item} (h:(⇑S.aR:Int)<=b\/p∉S.au):aX S (.aJ b p its)=if p∉S.au then some ("name": Str) else some ("bar": Str):=by
 unfold aX;dsimp only;rw[yQ (λz=>by
  let⟨x,hx,e⟩:=zI.mp z;let⟨x1,x2,x3,_⟩:=D.no.2 x hx;let e1:x.1.1=b:=y6 Prod.fst e;let e2:x.1.2=p:=y6 Prod.snd e;rcases h with h | h
  ·ext
  ·exact h (e2▸x3))]
 by_cases c:p∉S.au
 ·rw[yR c,yR c]
 ·rw[yQ c,yQ c]
  rcases h with h | h
  ·rw[yR (KA zt h)]
  ·exact absurd h c
def Eb {S:bO} (D:bS S) {b:Int} {p i:Str} (hp:p∉S.au):aX S (.holds p b i)=some ("name": Str):=by
 unfold aX;dsimp only;rw[Be (λz=>hp (D.hs.subset z)),yQ (by simp),yR hp]
def LW {l:Int×Int} (h:Ey l):Lq (some (0,0),l):={h,λq e=>by cases e;unfold Qz;decide}
def Bm {S:bO} (D:bS S) {wd:Str} {b:Int} {p:Str} {l:Int×Int} (hb:NB b) (hp:dW p) (hl:Ey l) (f:aX S (.aJ b p [(some (0,0),l)])=some wd):Gd S wd (aO (.aJ b p [(some (0,0),l)])):=
 gd (t:=.aJ b p [(some (0,0),l)]) {hb,hp,λit hit=>by rw[zB.mp hit];exact LW hl,rfl} (by show 1<=90;decide) {hb.1,by show 1<=500;decide,λit hit=>by rw[zB.mp hit];exact hl,(gG D).lu} f
def FR {S:bO} {r:Rep} {b:Int} (h:Ew (.rep r)) (f:W5 (.rep r)) (ht:GK r.ends<64) (hb:b∈[r.first,r.last]++r.ends.map (·.1)) (hl:(⇑S.aR:Int)<=b):Gd S "bar" (aO (.rep r)):=
 gd h f {ht,by have:=f.1;ext,by have:=h.2.2.1;ext,by have:=h.2.2.2.1;ext} (Q2 hb hl)
def Bl {S:bO} {wd:Str} {n:Str} {ps:List Str} (hn:dW n) (ne:ps≠[]) (hp:∀p∈ps,dW p) (hl:⇑ps<=90) (f:aX S (.bE n ps)=some wd):Gd S wd (aO (.bE n ps)):=
 gd (t:=.bE n ps) {(hn),ne,hp} hl (by show ⇑ps<=1000;ext) f
def qX {S:bO} (D:bS S) {wd:Str} {j:Jump} (h:Ew (.bP j)) (f:aX S (.bP j)=some wd):Gd S wd (aO (.bP j)):=gd h trivial (gG D).ro f
def Gd.sum {S:bO} {wd:Str} {t:Told} (h:TD t) (i:GB S t) (e:aX S t=some wd):Gd S wd (aO t):={(t),rfl,h,i,e}
def Ky (n:Str):("instrument ": Str)++n ++" 1 7 0"= aO (.cg n (1,7) (0,1)):=by
 show _=Str.join " " ["instrument",n,dec 1,dec 7,gm (0,1)];rw[bu,bu,show Str.join " " [dec 1,dec 7,gm (0,1)] ="1 7 0" by decide +kernel,fi n " ",<-fi,<-fi];rfl
def JU (a b:Str):("staff t ": Str)++a ++" " ++ b=aO (.bE "t" [a,b]):=by
 show _=Str.join " " ["staff","t",a,b];rw[bu,bu,bu,join_one,fi,fi,<-fi a " " b,<-fi ("staff" ++" ")];rfl
def JT (a b:Str):("staff t ": Str)++a ++" 0zz " ++ b=aO (.bE "t" [a,"0zz",b]):=by
 show _=Str.join " " ["staff","t",a,"0zz",b];rw[bu,bu,bu,bu,join_one,fi,fi,<-fi ("staff" ++" "),fi a " ",<-fi " " ("0zz" ++" ") b];rfl
def Vu:Ey (1,9999):={Lm.Rd.of (t:=1) (b:=9999) ∅ ∅,∅,∅,∅}
def WZ:Ey (32,1):={Lm.Rd.of (t:=32) (b:=1) ∅ ∅,∅,∅,∅}
def WY:Ey (99,1):={Lm.Rd.of (t:=99) (b:=1) ∅ ∅,∅,∅,∅}
def Oc {S:bO} (D:bS S) {u:Int×Int} (h:S.aH=some u) {z:Str} (hz:z ="1/9999"\/z ="32"):Gd S "twice" ("upbeat " ++ z):=by
 let g:∀l,Ey l->Ca 8999 l->Gd S "twice" (aO (.aH l)):=λl hl hs=>gd (t:=.aH l) hl trivial {hs,(gG D).lu,(gG D).nl} (by unfold aX;dsimp only;rw[h];rfl);rcases hz with rfl | rfl
 ·exact(by decide +kernel:aO (.aH (1,9999)) ="upbeat " ++"1/9999")▸g _ Vu {(cq (n:=14) ∅ ∅).mono ∅,(cq (n:=14) ∅ ∅).mono ∅}
 ·exact(by decide +kernel:aO (.aH (32,1)) ="upbeat " ++"32")▸g _ WZ {(cq (n:=14) ∅ ∅).mono ∅,(cq (n:=14) ∅ ∅).mono ∅}
def DU:NB 0:={∅,∅}
def PJ {S:bO} (D:bS S) {u:Jump} (h:S.bP=some u) {z:Str} (hz:z ="end"\/z ="999"):Gd S "twice" ("jump 0 0 0 " ++ z):=by
 let g:∀c,(∀x,c=some x->NB x)->Gd S "twice" (aO (.bP {0,0,0,c})):=λc hc=>qX D {(DU),DU,DU,hc} (by unfold aX;dsimp only;rw[h];rfl);rcases hz with rfl | rfl
 ·exact(by decide +kernel:aO (.bP {0,0,0,none}) ="jump 0 0 0 " ++"end")▸g none λx e=>nomatch e
 ·exact(by decide +kernel:aO (.bP {0,0,0,some 999}) ="jump 0 0 0 " ++"999")▸g (some 999) λx e=>by cases e;exact{∅,∅}
def vQ (S:bO) (H:Hp) (p pl il bl hl nl rl D:vw) (m:Int) (ub jm:V) (px ow:Str) (n:Nat):St->Hp->Prop:=λσ H'=>∃rs:List Str,Lo [some (.ref p),some (.int m),some (.ref pl),some (.ref il),some (.ref bl),some ub,some (.ref hl),some (.ref nl),some (.ref rl),some jm,some (.int (m/16)),some (.str px),some (.str ow),some (.ref D)] 5 σ/\aG H H'/\H' D=some (.lst (rs.map V.str))/\(∀r∈rs,Gd S "twice" r)/\0<⇑rs/\⇑rs<=n
def vQ.more {S:bO} {H:Hp} {p pl il bl hl nl rl D:vw} {m:Int} {ub jm:V} {px ow:Str} {n:Nat} {σ:St} {H':Hp} (h:vQ S H p pl il bl hl nl rl D m ub jm px ow n σ H'):vQ S H p pl il bl hl nl rl D m ub jm px ow (n+1) σ H':=by
 let⟨rs,a,b,c,d,e,f⟩:=h;exact{(rs),a,b,c,d,e,()}
def vQ.put {S:bO} {H:Hp} {p pl il bl hl nl rl D:vw} {m:Int} {ub jm:V} {px ow:Str} {n:Nat} {σ:St} {H1:Hp} {rs:List Str} {r:Str} (nD:H D=none) (s1:aG H H1) (g:∀r∈rs,Gd S "twice" r) (l:⇑rs<=n) (gr:Gd S "twice" r) (hL:Lo [some (.ref p),some (.int m),some (.ref pl),some (.ref il),some (.ref bl),some ub,some (.ref hl),some (.ref nl),some (.ref rl),some jm,some (.int (m/16)),some (.str px),some (.str ow),some (.ref D)] 5 σ):vQ S H p pl il bl hl nl rl D m ub jm px ow (n+1) σ (upd H1 D (.lst (rs.map V.str++[.str r]))):=
 {rs++[r],hL,cY nD s1,by rw[aE,zm];rfl,λx hx=>by
  rcases zH.mp hx with z | z
  ·exact g x z
  ·rw[zB.mp z];exact gr,by rw[zj];show 0<_+1;ext,by rw[zj];show _+1<=_;ext}
def Lz {a b z:Str} (h:z=a\/z=b) (ha:⇑a<=20) (hb:⇑b<=20):⇑z<=20:=by rcases h with rfl | rfl <;> assumption
def G5 {T R:TS} {Z:Ends} {σ:St} {H:Hp} (h:T {Z with nx:=R Z} σ H):EI T R Z σ H:=h
def Wd {S:bO} {H:Hp} {p pl il bl hl nl rl D:vw} {m:Int} {ub jm:V} {px ow:Str} {n:Nat} {Z:Ends} {σ:St} {H8:Hp} (hN:∀σ' H',vQ S H p pl il bl hl nl rl D m ub jm px ow (n+1) σ' H'->Z.nx σ' H') (nD:H D=none) (h6:Is H (dO dL S.aH) ub) (D0:bS S) (nn:n<=20) (I:vQ S H p pl il bl hl nl rl D m ub jm px ow n σ H8) :
  (EK (tB (G1 (aW 5))) (Ae (Qw K "list" nY (aW 13) (aY (cP (λx y H Q=>∃i j,x=V.str i/\y=V.str j/\⇑i+⇑j<=sizeLine/\Q (V.str (i++j)) H) (tC (V.str "upbeat ")) (cP (qC K) (oJ (aY (tC (V.str "1/9999")) (aY (tC (V.str "32")) cE))) (cP (rI (λx j=>0<j) λi j=>V.int (i%j)) (cP (rI Dw λi j=>V.int (i/j)) (aW 1) (tC (V.int 8))) (tC (V.int 2))))) cE))) Ad) Z σ H8:=by
 let sl:=yF;let⟨rs,⟨e,rfl⟩,s8,h8,g8,l1,l2⟩:=I;cases qu:S.aH with
 | none=>
  rw[qu] at h6;unfold dO Is at h6;subst h6;change hN _ _ (vQ.more {rs,Lo.of rfl rfl,s8,h8,g8,l1,l2})
 | some u=>
  rw[qu] at h6;let ne:ub≠.bQ:=λz=>by rw[z] at h6;unfold dO dL Is at h6;let⟨_,_,z,_⟩:=h6;cases z
  left;refine cz (by rw[zg ne];rfl) ?_;let⟨z,za,zb⟩:=o9 "1/9999" "32" (m/8);let zl:=Lz zb ∅ ∅;let l0:("upbeat ": Str).length<=20:=by decide
  exists .inl {rfl,_,ak h8},?_;exists by show 2<=sizeLine;ext,?_
  intros q H9 s9 hq;exists q,_,_,_,rfl,rfl,ak hq,za,?_;refine{_,_,rfl,rfl,(),?_};exists D,_,_,rfl,rfl,s9 _ _ h8,by rw[zd];ext,?_
  change hN _ _ (vQ.put nD (s8.trans s9) g8 l2 (Oc D0 qu zb) (Lo.of rfl rfl))
def Wf {S:bO} {H:Hp} {p pl il bl hl nl rl D:vw} {m:Int} {ub jm:V} {px ow:Str} {n:Nat} {Z:Ends} {σ:St} {H8:Hp} (hN:∀σ' H',vQ S H p pl il bl hl nl rl D m ub jm px ow (n+1) σ' H'->Z.nx σ' H') (nD:H D=none) (h6:Is H (dO gq S.bP) jm) (D0:bS S) (nn:n<=20) (I:vQ S H p pl il bl hl nl rl D m ub jm px ow n σ H8) :
  (EK (tB (G1 (aW 9))) (Ae (Qw K "list" nY (aW 13) (aY (cP (λx y H Q=>∃i j,x=V.str i/\y=V.str j/\⇑i+⇑j<=sizeLine/\Q (V.str (i++j)) H) (tC (V.str "jump 0 0 0 ")) (cP (qC K) (oJ (aY (tC (V.str "end")) (aY (tC (V.str "999")) cE))) (cP (rI (λx j=>0<j) λi j=>V.int (i%j)) (cP (rI Dw λi j=>V.int (i/j)) (aW 1) (tC (V.int 8))) (tC (V.int 2))))) cE))) Ad) Z σ H8:=by
 let sl:=yF;let⟨rs,⟨e,rfl⟩,s8,h8,g8,l1,l2⟩:=I;cases qu:S.bP with
 | none=>
  rw[qu] at h6;unfold dO Is at h6;subst h6;change hN _ _ (vQ.more {rs,Lo.of rfl rfl,s8,h8,g8,l1,l2})
 | some u=>
  rw[qu] at h6;let ne:jm≠.bQ:=λz=>by rw[z] at h6;unfold dO gq Is at h6;let⟨_,_,z,_⟩:=h6;cases z
  left;refine cz (by rw[zg ne];rfl) ?_;let⟨z,za,zb⟩:=o9 "end" "999" (m/8);let zl:=Lz zb ∅ ∅;let l0:("jump 0 0 0 ": Str).length<=20:=by decide
  exists .inl {rfl,_,ak h8},?_;exists by show 2<=sizeLine;ext,?_
  intros q H9 s9 hq;exists q,_,_,_,rfl,rfl,ak hq,za,?_;refine{_,_,rfl,rfl,(),?_};exists D,_,_,rfl,rfl,s9 _ _ h8,by rw[zd];ext,?_
  change hN _ _ (vQ.put nD (s8.trans s9) g8 l2 (PJ D0 qu zb) (Lo.of rfl rfl))
def Wg {S:bO} {H:Hp} {p pl il bl hl nl rl D:vw} {m:Int} {ub jm:V} {px ow:Str} {n:Nat} {Z:Ends} {σ:St} {H8:Hp} {hv iv:List V} (hN:∀σ' H',vQ S H p pl il bl hl nl rl D m ub jm px ow (n+1) σ' H'->Z.nx σ' H') (nD:H D=none) (h7:H hl=some (.lst hv)) (rlh:RL (iB hl H) S.holds hv) (h3:H il=some (.lst iv)) (ili:aB H (S.aq.map dy) iv) (D0:bS S) (nn:n<=20) (I:vQ S H p pl il bl hl nl rl D m ub jm px ow n σ H8) :
  (EK (mM (cP (S7 K) (aW 6) (oJ cE))) (EI (rO (cP (qC K) (aW 6) (cP (rI (λx j=>0<j) λi j=>V.int (i%j)) (aW 10) (EL (λxs H Q=>∃p ys,xs=[V.ref p]/\(fM K H p ys\/mI K H p ys)/\Q (V.int (⇑ys:Int)) H) (aY (aW 6) cE)))) (CY K 2 (eI (bW 14) (eI (bW 15) CZ)))) (EI (rO (cP (mE K) (cP (qC K) (aW 15) (cP (rI (λx j=>0<j) λi j=>V.int (i%j)) (cP (rI Dw λi j=>V.int (i/j)) (aW 10) (tC (V.int 8))) (EL (λxs H Q=>∃p ys,xs=[V.ref p]/\(fM K H p ys\/mI K H p ys)/\Q (V.int (⇑ys:Int)) H) (aY (aW 15) cE)))) (tC (V.int 0))) (bW 16)) (Ae (Qw K "list" nY (aW 13) (aY (Qw K "str" (rJoin K) (tC (V.str " ")) (aY (oJ (aY (tC (V.str "holds")) (aY (aW 14) (aY (EL (λxs H Q=>∃i,xs=[V.int i]/\i.natAbs.log2<1920/\Q (V.str (Str.ofString (toString i))) H) (aY (aW 16) cE)) (aY (cP (qC K) (oJ (aY (cP (mE K) (cP (qC K) (aW 3) (tC (V.int 0))) (tC (V.int 0))) (aY (tC (V.str "0zz")) cE))) (cP (rI (λx j=>0<j) λi j=>V.int (i%j)) (cP (rI Dw λi j=>V.int (i/j)) (aW 1) (tC (V.int 8))) (tC (V.int 2)))) cE))))) cE)) cE))))) Ad) Z σ H8:=by
 let sl:=yF;let⟨rs,⟨e,rfl⟩,s8,h8,g8,l1,l2⟩:=I;let bl0:=D0.bl;exists by show 0<=sizeLine;ext,?_
 intros q0 H9 s9 hq0;let s09:=s8.trans s9;let h89:=s9 _ _ h8;refine{hl,q0,_,_,rfl,rfl,.inl {ak (s09 _ _ h7),ak hq0},.inr (.inl rfl),?_}
 by_cases cn:hv=[]
 ·rw[cn]
  change hN _ _ (vQ.more {rs,Lo.of rfl rfl,s09,h89,g8,l1,l2})
 rw[zg cn];let⟨j,v,j1,j2⟩:=om (m:=m/16) cn;let⟨y,hy,a7,r7,us7,rfl,ha7,hr7,il7,_⟩:=rlh.at j1;let hy:=zD hy;exists hl,_,rfl,.inl (ak (s09 _ _ h7)),?_;exists by show 0<(⇑hv:Int);have:=yv.mpr cn;ext,?_
 refine{hl,_,_,_,rfl,rfl,ak (s09 _ _ h7),j2,?_};refine{a7,_,rfl,bC (s09 _ _ ha7),rfl,?_};refine{_,_,rfl,{_,_,rfl,{rfl,?_}}};let⟨yn,_,_,yh⟩:=D0.hr y hy;let ul:=aZ il7;let un:us7≠[]:=λz=>yn (by rw[z] at ul;exact yw.mp ul.symm);let⟨j',v',j1',j2'⟩:=om (m:=m/16/8) un;let⟨h,hh,ih⟩:=df (d:=K2) il7 j1';let hh:=zD hh;let⟨a8,rfl,ha8⟩:=Pt ih;let ha8':=s09 _ _ ha8;let⟨hb0,hb1,_⟩:=yh h hh;let I:=D0.i;let i1:=I.l1;let ivl:=aZ ili;let⟨x,hx,ix⟩:=df (d:=dy) ili (i:=0) (ze ());let⟨ai,ti,li,ei,hai,_,_⟩:=qP ix;let hx:=zQ (f:=λy:Str×(Int×Int)×(Int×Int)=>y.1) (zD hx);let iv0:iv[0]?=some (.ref ai):=by rw[<-ei];exact ze ()
 let hai':=s09 _ _ hai;let np:=D0.pn.1 _ (D0.hs.subset (zQ (f:=λx:Str×List (Int×Str)=>x.1) hy));let⟨z,za,zb⟩:=o9 x.1 "0zz" (m/8);let nz:dW z:=by rcases zb with z | z <;> rw[z];exact I.nm.1 _ hx;exact Kn
 let tk:Ew (.holds y.1 h.1 z):={np,Ph hb0 hb1 bl0,nz}
 exists r7,_,rfl,.inl (ak (s09 _ _ hr7)),?_;exists by show 0<(⇑us7:Int);have:=yv.mpr un;ext,?_
 refine{r7,_,_,_,rfl,rfl,ak (s09 _ _ hr7),j2',?_};exists .inl {rfl,_,ak h89},?_;exists bM () (),?_;exists il,_,_,_,rfl,rfl,ak (s09 _ _ h3),bz iv0,?_;exists by show 2<=sizeLine;ext,?_
 intros qa Ha sa hqa;exists qa,_,_,_,rfl,rfl,ak hqa,za,?_;exists by show 4<=sizeLine;ext,?_
 intros qb Hb sb hqb;refine{" ",qb,Sc.aV (.holds y.1 h.1 z),rfl,rfl,ak hqb,fE (eF tk trivial),?_};exists D,_,_,rfl,rfl,(sa.trans sb) _ _ h89,by rw[zd];ext,?_
 change hN _ _ (vQ.put nD ((s09.trans sa).trans sb) g8 l2 (gd tk trivial trivial (Kz D0 hy hh)) (Lo.of rfl rfl))
def We {S:bO} {H:Hp} {p pl il bl hl nl rl D:vw} {m:Int} {ub jm:V} {px ow:Str} {n:Nat} {Z:Ends} {σ:St} {H8:Hp} {nv:List V} (hN:∀σ' H',vQ S H p pl il bl hl nl rl D m ub jm px ow (n+1) σ' H'->Z.nx σ' H') (nD:H D=none) (h7:H nl=some (.lst nv)) (rlh:RL (gD nl H) S.aJ nv) (D0:bS S) (nn:n<=20) (I:vQ S H p pl il bl hl nl rl D m ub jm px ow n σ H8) :
  (EK (mM (cP (S7 K) (aW 7) (oJ cE))) (EI (rO (cP (qC K) (aW 7) (cP (rI (λx j=>0<j) λi j=>V.int (i%j)) (aW 10) (EL (λxs H Q=>∃p ys,xs=[V.ref p]/\(fM K H p ys\/mI K H p ys)/\Q (V.int (⇑ys:Int)) H) (aY (aW 7) cE)))) (CY K 3 (eI (bW 17) (eI (bW 14) (eI (bW 18) CZ))))) (Ae (Qw K "list" nY (aW 13) (aY (Qw K "str" (rJoin K) (tC (V.str " ")) (aY (oJ (aY (tC (V.str "notes")) (aY (EL (λxs H Q=>∃i,xs=[V.int i]/\i.natAbs.log2<1920/\Q (V.str (Str.ofString (toString i))) H) (aY (aW 17) cE)) (aY (aW 14) (aY (cP (qC K) (oJ (aY (tC (V.str "0:0:99")) (aY (tC (V.str "0:0:1/9999")) cE))) (cP (rI (λx j=>0<j) λi j=>V.int (i%j)) (cP (rI Dw λi j=>V.int (i/j)) (aW 1) (tC (V.int 8))) (tC (V.int 2)))) cE))))) cE)) cE)))) Ad) Z σ H8:=by
 let sl:=yF;let⟨rs,⟨e,rfl⟩,s8,h8,g8,l1,l2⟩:=I;let bl0:=D0.bl;exists by show 0<=sizeLine;ext,?_
 intros q0 H9 s9 hq0;let s09:=s8.trans s9;let h89:=s9 _ _ h8;refine{nl,q0,_,_,rfl,rfl,.inl {ak (s09 _ _ h7),ak hq0},.inr (.inl rfl),?_}
 by_cases cn:nv=[]
 ·rw[cn]
  change hN _ _ (vQ.more {rs,Lo.of rfl rfl,s09,h89,g8,l1,l2})
 rw[zg cn];let⟨j,v,j1,j2⟩:=om (m:=m/16) cn;let⟨y,hy,a7,r7,us7,rfl,ha7,hr7,il7,_⟩:=rlh.at j1;let hy:=zD hy;exists nl,_,rfl,.inl (ak (s09 _ _ h7)),?_;exists by show 0<(⇑nv:Int);have:=yv.mpr cn;ext,?_
 refine{nl,_,_,_,rfl,rfl,ak (s09 _ _ h7),j2,?_};refine{a7,_,rfl,bC (s09 _ _ ha7),rfl,?_};refine{_,_,rfl,{_,_,rfl,{_,_,rfl,{rfl,?_}}}};let⟨hb0,hb1,yp,_⟩:=D0.no.2 y hy;let⟨z,za,zb⟩:=o9 "0:0:99" "0:0:1/9999" (m/8);obtain⟨l,lk,rfl⟩:∃l,Ey l/\z=kA (some (0,0),l):=by
  rcases zb with rfl | rfl
  ·exact{_,WY,by decide +kernel}
  ·exact{_,Vu,by decide +kernel}
 let tg:=Bm D0 (Ph hb0 hb1 bl0) (D0.pn.1 _ yp) lk (wd:="twice") (by unfold aX;dsimp only;rw[yR (zQ (f:=λx:(Int×Str)×List Item=>x.1) hy)]);let tk:TD (.aJ y.1.1 y.1.2 [(some (0,0),l)]):=eF (t:=.aJ y.1.1 y.1.2 [(some (0,0),l)]) {Ph hb0 hb1 bl0,D0.pn.1 _ yp,λit hit=>by rw[zB.mp hit];exact LW lk,rfl} (by show 1<=90;decide);exists .inl {rfl,_,ak h89},?_;exists bM () (),?_;exists by show 2<=sizeLine;ext,?_
 intros qa Ha sa hqa;exists qa,_,_,_,rfl,rfl,ak hqa,za,?_;exists by show 4<=sizeLine;ext,?_
 intros qb Hb sb hqb;refine{" ",qb,Sc.aV (.aJ y.1.1 y.1.2 [(some (0,0),l)]),rfl,rfl,ak hqb,fE tk,?_};exists D,_,_,rfl,rfl,(sa.trans sb) _ _ h89,by rw[zd];ext,?_
 change hN _ _ (vQ.put nD ((s09.trans sa).trans sb) g8 l2 tg (Lo.of rfl rfl))
def Wh {S:bO} {H:Hp} {p pl il bl hl nl rl D:vw} {m:Int} {ub jm:V} {px ow:Str} {n:Nat} {Z:Ends} {σ:St} {H8:Hp} (hN:∀r H',aG H H'->Gd S "twice" r->Z.rt (.str r) H') (I:vQ S H p pl il bl hl nl rl D m ub jm px ow n σ H8) :
  (Oj (cP (qC K) (aW 13) (cP (rI (λx j=>0<j) λi j=>V.int (i%j)) (cP (rI Dw λi j=>V.int (i/j)) (aW 1) (tC (V.int 2))) (EL (λxs H Q=>∃p ys,xs=[V.ref p]/\(fM K H p ys\/mI K H p ys)/\Q (V.int (⇑ys:Int)) H) (aY (aW 13) cE))))) Z σ H8:=by
 let⟨rs,⟨e,rfl⟩,s8,h8,g8,l1,l2⟩:=I;let⟨r,ra,rb⟩:=oo (m:=m/2) (yv.mp l1);exists D,_,rfl,.inl (ak h8),?_;rw[zd];exists by show 0<(⇑rs:Int);ext,?_
 refine{D,_,_,_,rfl,rfl,ak h8,ra,?_};exact hN _ _ s8 (g8 r rb)
def Co:Sp:=pw "twice"
def CS:dz P w base 3 T.jC Co:=by
 nomatch T.jC,["_law_s","_law_m","_law_players","_law_instruments","_law_bars","_law_upbeat","_law_holds","_law_notes","_law_repeats","_law_jump","_law_n","_law_player","_law_odd","_law_some","_law_name","_law_row","_law_at","_law_bar","_law_items"]
 let⟨p,S,m,rfl,la,D,m0,kk⟩:=h;let sl:=yF;let V0:=gG D;let I:=D.i;let pl:=D.pl;let⟨pl,il,bl,hl,nl,rl,ub,jm,iv,bv,hv,nv,rv,h1,h2,⟨h3,ili⟩,⟨h5,ilb⟩,h6,⟨h7,rlh⟩,⟨h8,rln⟩,⟨h9,ilr⟩,hj⟩:=la;let⟨p0,f1,f2,f3⟩:=O9 D;let⟨pz,z1,z2,z3⟩:=U0 D;let pne:S.au≠[]:=List.ne_nil_of_mem f2;refine{_,(ag (sC (pv 0) (du (n:=8) rfl (aD (eN 2 qN) (aD (eN 3 qN) (aD (eN 4 qN) (aD (eN 5 qN) (aD (eN 6 qN) (aD (eN 7 qN) (aD (eN 8 qN) (aD (eN 9 qN) cG))))))))))
  (ag (b7 10 qN (ao aS (pv 1) af))
  (ag (b7 11 qN (dF (pv 2) (ao aQ (pv 10) (dC ay T.bx (aa (pv 2) ae)))))
  (ag (b7 12 qN (dF (aU (aa az (aa az ae))) (ao aQ (ao aS (pv 1) af) af)))
  (ag (b7 13 qN (aU (aa (ao aM az (pv 11)) (aa (ao aM (ao aM az (cy (dF (pv 3) (ao aQ (pv 10) (dC ay T.bx (aa (pv 3) ae)))) af)) az) ae))))
  (ag (b7 13 qN (ao cT (pv 13) (aU (aa (ao aM az (dF (aU (aa (dF (pv 2) af) (aa az ae))) (ao aQ (ao aS (pv 1) af) af))) (aa (bK yJ yL yK cK az (aa (aU (aa az (aa az (aa (dF (pv 2) (m6 jh af)) (aa (pv 12) ae))))) ae)) ae)))))
  (ag (bX (bK yG yI yH bJ (pv 13) (aa (ao aM (ao aM (ao aM az (dF (pv 2) af)) (dF (aU (aa az (aa az ae))) (ao aQ (ao aS (pv 1) af) af))) (dF (pv 2) af)) ae)))
  (ag (aL (bL (fB (pv 5)))
  (aj (bX (bK yG yI yH bJ (pv 13) (aa (ao aM az (dF (aU (aa az (aa az ae))) (ao aQ (ao aS (pv 1) af) af))) ae))))
  aA)
  (ag (aL (ptr (AY hr.units) (pv 6) (aU ae))
  (ag (sC (dF (pv 6) (ao aQ (pv 10) (dC ay T.bx (aa (pv 6) ae)))) (du (n:=2) rfl (aD (eN 14 qN) (aD (eN 15 qN) cG))))
   (ag (b7 16 qN (cy (dF (pv 15) (ao aQ (ao aS (pv 10) af) (dC ay T.bx (aa (pv 15) ae)))) af))
   (aj (bX (bK yG yI yH bJ (pv 13) (aa (bK yJ yL yK cK az (aa (aU (aa az (aa (pv 14) (aa (oa bf T.d9 (aa (pv 16) ae)) (aa (dF (aU (aa (cy (dF (pv 3) af) af) (aa az ae))) (ao aQ (ao aS (pv 1) af) af)) ae))))) ae)) ae))))))
  aA)
  (ag (aL (ptr (AY hr.units) (pv 7) (aU ae))
  (ag (sC (dF (pv 7) (ao aQ (pv 10) (dC ay T.bx (aa (pv 7) ae)))) (du (n:=3) rfl (aD (eN 17 qN) (aD (eN 14 qN) (aD (eN 18 qN) cG)))))
   (aj (bX (bK yG yI yH bJ (pv 13) (aa (bK yJ yL yK cK az (aa (aU (aa az (aa (oa bf T.d9 (aa (pv 17) ae)) (aa (pv 14) (aa (dF (aU (aa az (aa az ae))) (ao aQ (ao aS (pv 1) af) af)) ae))))) ae)) ae)))))
  aA)
  (ag (aL (bL (fB (pv 9)))
  (aj (bX (bK yG yI yH bJ (pv 13) (aa (ao aM az (dF (aU (aa az (aa az ae))) (ao aQ (ao aS (pv 1) af) af))) ae))))
  aA)
  (aj (ax (dF (pv 13) (ao aQ (ao aS (pv 1) af) (dC ay T.bx (aa (pv 13) ae))))))))))))))))),?_}
 ac_rfl;exists p,_,rfl,bC h1,rfl,?_;refine{_,_,rfl,{_,_,rfl,{_,_,rfl,{_,_,rfl,{_,_,rfl,{_,_,rfl,{_,_,rfl,{_,_,rfl,{rfl,?_}}}}}}}}};show(_:TS) _ [some (.ref p),some (.int m),some (.ref pl),some (.ref il),some (.ref bl),some ub,some (.ref hl),some (.ref nl),some (.ref rl),some jm,none,none,none,none,none,none,none,none,none] _;exists pl,_,rfl,.inl (ak h2),?_;rw[zd];exists by show 0<(⇑S.au:Int);have:=D.NX;ext,?_
 let⟨px,x1,x2⟩:=oo (m:=m/16) pne;refine{pl,_,_,_,rfl,rfl,ak h2,x1,?_};let npx:=sM (D.pn.1 _ x2);let np0:=sM (D.pn.1 _ f2);let npz:=sM (D.pn.1 _ z2);exists by show 2<=sizeLine;ext,?_
 intros q1 H1 s1 hq1;let⟨ow,o1,o2⟩:=o9 "0" "zzzzzzzzzzzz" (m/8);let nw:dW ow:=by rcases o2 with z | z <;> rw[z];exact WB;exact WA
 clear o2;exists q1,_,_,_,rfl,rfl,ak hq1,o1,?_;clear hq1 o1;let l7:("player ": Str).length=7:=rfl;let l11:("instrument ": Str).length=11:=rfl;let l6:(" 1 7 0": Str).length=6:=rfl;exists by ext,?_
 let ivl:=aZ ili;let i1:=I.l1;let⟨j,v,j1,j2⟩:=om (m:=m/16) (l:=iv) (by intro z;rw[z] at ivl;simp at ivl;ext);let⟨x,hx,ix⟩:=df (d:=dy) ili j1;let⟨a1,t1,l1,rfl,ha1,_,_⟩:=qP ix;let xin:=zD hx;let nx:=I.nm.1 x.1 (zQ (f:=λy:Str×(Int×Int)×(Int×Int)=>y.1) xin);let nxl:=sM nx;let ha1':=s1 _ _ ha1;exists il,_,rfl,.inl (ak (s1 _ _ h3)),?_;exists by show 0<(⇑iv:Int);ext,?_
 refine{il,_,_,_,rfl,rfl,ak (s1 _ _ h3),j2,?_};exists by ext,?_
 exists by rw[bo];ext,?_
 exists by show 2<=sizeLine;ext,?_
 intros q2 H2 s2 hq2;let g1:Gd S "twice" ("player " ++ px):=gd (t:=.bA px) (D.pn.1 _ x2) trivial trivial (by unfold aX;dsimp only;rw[yR x2]);let g2:Gd S "twice" ("instrument " ++ x.1 ++" 1 7 0"):=by
  rw[Ky];exact gd (t:=.cg x.1 (1,7) (0,1)) {nx,by unfold Qz;decide,∅,∅,Lm.Rd.of (t:=0) (b:=1) ∅ ∅,∅,∅} trivial trivial (by unfold aX;dsimp only;rw[yR (zQ (f:=λy:Str×(Int×Int)×(Int×Int)=>y.1) xin)])
 let s02:=s1.trans s2;let l8:("staff s ": Str).length=8:=rfl;let l8':("staff t ": Str).length=8:=rfl;let l3:("0zz": Str).length=3:=rfl;let⟨c1,c1a,c1b⟩:=o9 p0 "0zz" (m/8);let nc1:dW c1:=by rcases c1b with z | z <;> rw[z];exact D.pn.1 _ f2;exact Kn
 let lc1:=sM nc1;clear c1b;let⟨qz,qz1,qz2⟩:=D.st;let ez:qz=pz:=by rw[qz2] at z3;cases z3;rfl
 rw[ez] at qz1;let nz:=D.pn.1 _ z2;let t4:TD (.bE "t" [pz,ow]):=eF (t:=.bE "t" [pz,ow]) {Pd,List.cons_ne_nil _ _,aK nz (aK nw all_nil)} (by show 2<=90;decide);exists pl,_,_,_,rfl,rfl,ak (s02 _ _ h2),bz f1,?_;exists by show 2<=sizeLine;ext,?_
 intros q3 H3 s3 hq3;exists q3,_,_,_,rfl,rfl,ak hq3,c1a,?_;refine{_,_,rfl,rfl,(),?_};exists pl,_,_,_,rfl,rfl,ak ((s02.trans s3) _ _ h2),z1,?_;exists by show 4<=sizeLine;ext,?_
 intros q4 H4 s4 hq4;refine{" ",q4,Sc.aV (.bE "t" [pz,ow]),rfl,rfl,ak hq4,fE t4,?_};exists by show 2<=sizeLine;ext,?_
 intros q5 H5 s5 hq5;let s25:=(s3.trans s4).trans s5;refine{q2,q5,_,_,rfl,rfl,ak (s25 _ _ hq2),ak hq5,by show 2+2<=sizeLine;ext,?_};intro D6 n6;generalize hU:upd H5 D6 _=H6;let s6:aG H5 H6:=by rw[<-hU];exact bF n6
 let h6':H6 D6=some (.lst (["player " ++ px,"instrument " ++ x.1 ++" 1 7 0","staff s " ++ c1,aO (.bE "t" [pz,ow])].map V.str)):=by rw[<-hU,aE];rfl
 let g3:Gd S "twice" ("staff s " ++ c1):=by
  rw[DF];exact Bl U2 (List.cons_ne_nil _ _) (aK nc1 all_nil) (by show 1<=90;decide) (by unfold aX;dsimp only;rw[qz2,yR (by show("s": Str)∈[("s": Str)];exact zB.mpr rfl)])
 let g4:Gd S "twice" (aO (.bE "t" [pz,ow])):=.sum t4 (by show 2<=1000;decide) (mR D (.inr {(pz),zt,qz1}));let s05:=s02.trans s25;let nD6:H D6=none:=s05.back n6;let s06:=s05.trans s6;clear hU hq2 hq3 hq4 hq5 c1a;generalize hrs:["player " ++ px,"instrument " ++ x.1 ++" 1 7 0","staff s " ++ c1,aO (.bE "t" [pz,ow])]=rs at h6';let grs:∀r∈rs,Gd S "twice" r:=by rw[<-hrs];exact aK g1 (aK g2 (aK g3 (aK g4 all_nil)))
 let lrs:⇑rs=4:=by rw[<-hrs];rfl
 clear hrs g1 g2 g3 g4;let⟨c2,c2a,c2b⟩:=o9 " " " 0zz " (m/8);let l2':⇑c2<=5:=by rcases c2b with z | z <;> rw[z] <;> decide
 exists .inl {rfl,_,ak h6'},?_;exists pl,_,_,_,rfl,rfl,ak (s06 _ _ h2),bz f1,?_;refine{_,_,rfl,rfl,(),?_};exists by show 2<=sizeLine;ext,?_
 intros q7 H7 s7 hq7;exists q7,_,_,_,rfl,rfl,ak hq7,c2a,?_;refine{_,_,rfl,rfl,by rw[bo];ext,?_};exists pl,_,_,_,rfl,rfl,ak ((s06.trans s7) _ _ h2),bz f1,?_;refine{_,_,rfl,rfl,by rw[bo,bo];ext,?_};exists D6,_,_,rfl,rfl,s7 _ _ h6',by rw[zd];ext,?_
 let g5:Gd S "twice" ("staff t " ++ p0++c2++p0):=by
  let n0:=D.pn.1 _ f2;rcases c2b with z | z <;> rw[z]
  ·rw[JU]
   exact Bl Pd (List.cons_ne_nil _ _) (aK n0 (aK n0 all_nil)) (by show 2<=90;decide) (mR D (.inl (by simp)))
  ·rw[JT]
   exact Bl Pd (List.cons_ne_nil _ _) (aK n0 (aK Kn (aK n0 all_nil))) (by show 3<=90;decide) (mR D (.inl (by simp)))
 let I5:vQ S H p pl il bl hl nl rl D6 m ub jm px ow 5 [some (.ref p),some (.int m),some (.ref pl),some (.ref il),some (.ref bl),some ub,some (.ref hl),some (.ref nl),some (.ref rl),some jm,some (.int (m/16)),some (.str px),some (.str ow),some (.ref D6),none,none,none,none,none] (upd H7 D6 (.lst (rs.map V.str++[.str ("staff t " ++ p0++c2++p0)]))):=vQ.put nD6 (s06.trans s7) grs () g5 (Lo.of rfl rfl)
 revert I5
 generalize upd H7 D6 _=H8;intro I5;exact G5 (Wd (λσ1 H1 I1=>G5 (Wg (λσ2 H2 I2=>G5 (We (λσ3 H3 I3=>G5 (Wf (λσ4 H4 I4=>Wh (λr H' s' g'=>kk r H' s' g') I4) nD6 hj D ∅ I3)) nD6 h8 rln D ∅ I2)) nD6 h7 rlh h3 ili D ∅ I1)) nD6 h6 D ∅ I5)
def um:Sp:=pw "name"
def uJ:dz P w base 3 T.gk um:=by
 nomatch T.gk,["_law_s","_law_m","_law_players","_law_instruments","_law_bars","_law_upbeat","_law_holds","_law_notes","_law_repeats","_law_jump","_law_beyond_here","_law_odd","_law_some"]
 let⟨p,S,m,rfl,la,D,m0,kk⟩:=h;let sl:=yF;let V0:=gG D;let I:=D.i;let bl0:=D.bl;let⟨pl,il,bl,hl,nl,rl,ub,jm,iv,bv,hv,nv,rv,h1,h2,⟨h3,ili⟩,⟨h5,ilb⟩,h6,⟨h7,rlh⟩,⟨h8,rln⟩,⟨h9,ilr⟩,hj⟩:=la;let⟨p0,f1,f2,f3⟩:=O9 D;let bvl:=aZ ilb;refine{_,(ag (sC (pv 0) (du (n:=8) rfl (aD (eN 2 qN) (aD (eN 3 qN) (aD (eN 4 qN) (aD (eN 5 qN) (aD (eN 6 qN) (aD (eN 7 qN) (aD (eN 8 qN) (aD (eN 9 qN) cG))))))))))
  (ag (b7 10 qN (oa bf T.d9 (aa (ao bw (dC ay T.bx (aa (pv 4) ae)) (ao aQ (ao eE (ao aQ (ao aS (pv 1) af) af) (ao aQ (ao aS (pv 1) af) af)) (ao ly af (dC ay T.bx (aa (pv 4) ae))))) ae)))
  (ag (b7 11 qN (ao vG az (ao bw af (ao aQ (ao aS (pv 1) af) af))))
  (ag (b7 12 qN (aU (aa (bK yJ yL yK cK az (aa (aU (aa az (aa az (aa (dF (pv 2) af) (aa (pv 11) ae))))) ae)) (aa (bK yJ yL yK cK az (aa (aU (aa az (aa az (aa (pv 11) ae)))) ae)) ae))))
  (ag (b7 12 qN (ao cT (pv 12) (aU (aa (bK yJ yL yK cK az (aa (aU (aa az (aa (pv 11) (aa (pv 10) (aa (cy (dF (pv 3) af) af) ae))))) ae)) (aa (bK yJ yL yK cK az (aa (aU (aa az (aa (pv 10) (aa (pv 11) (aa az ae))))) ae)) ae)))))
  (ag (b7 12 qN (ao cT (pv 12) (aU (aa (bK yJ yL yK cK az (aa (aU (aa az (aa (dF (pv 2) af) (aa az (aa (pv 11) ae))))) ae)) (aa (bK yJ yL yK cK az (aa (aU (aa az (aa (pv 11) (aa az (aa (pv 11) ae))))) ae)) ae)))))
  (aj (ax (dF (pv 12) (ao aQ (ao aS (pv 1) af) af)))))))))),?_}
 ac_rfl;exists p,_,rfl,bC h1,rfl,?_;refine{_,_,rfl,{_,_,rfl,{_,_,rfl,{_,_,rfl,{_,_,rfl,{_,_,rfl,{_,_,rfl,{_,_,rfl,{rfl,?_}}}}}}}}};show(_:TS) _ [some (.ref p),some (.int m),some (.ref pl),some (.ref il),some (.ref bl),some ub,some (.ref hl),some (.ref nl),some (.ref rl),some jm,none,none,none] _;exists bl,_,rfl,.inl (ak h5),?_;rw[bvl];left;let a0:0<=m/8%2:=zy _ ∅;let a1:m/8%2<2:=zv _ ∅;refine{.inr {(()),()},?_};exists bl,_,rfl,.inl (ak h5),?_;rw[bvl];exists by show 0<999-(⇑S.aR:Int);ext,?_
 let b0:0<=m/64%900*(m/8%2)%(999-(⇑S.aR:Int)):=zy _ ();let b1:m/64%900*(m/8%2)%(999-(⇑S.aR:Int))<999-(⇑S.aR:Int):=zv _ ();left;obtain⟨b,hb⟩:∃b,b=(⇑S.aR:Int)+m/64%900*(m/8%2)%(999-(⇑S.aR:Int)):={_,rfl}
 rw[<-hb];let bb:(⇑S.aR:Int)<=b/\b<1000:=()
 clear hb b0 b1 a0 a1;refine{bM () (),?_};let o0:0<=m/16%12:=zy _ ∅;let o1:m/16%12<12:=zv _ ∅;exists by ext,(),(by decide),?_
 let no:=Tq (n:=(1+m/16%12).toNat) () ();let nP:=D.Xz (1+m/16%12).toNat;let nI:=D.XA (1+m/16%12).toNat;generalize fm "0" (1+m/16%12).toNat=od at no nP nI;let n0:=D.pn.1 _ f2;let nb:NB b:={(()),bb.2}
 let h99:NB 999:={∅,∅}
 let ivl:=aZ ili;let i1:=I.l1;let⟨x,hx,ix⟩:=df (d:=dy) ili (i:=0) (ze ());let⟨ai,ti,li,ei,hai,_,_⟩:=qP ix;let nx:=I.nm.1 _ (zQ (f:=λy:Str×(Int×Int)×(Int×Int)=>y.1) (zD hx));let iv0:iv[0]?=some (.ref ai):=by rw[<-ei];exact ze ()
 let k1:Ew (.bE "t" [p0,od]):={Pd,List.cons_ne_nil _ _,aK n0 (aK no all_nil)}
 let k2:Ew (.bE "t" [od]):={Pd,List.cons_ne_nil _ _,aK no all_nil}
 let k3:Ew (.holds od b x.1):={(no),nb,nx}
 let kl:Ey (1,1):={Lm.Rd.of (t:=1) (b:=1) ∅ ∅,∅,∅,∅}
 let k4:Ew (.aJ b od [(some (0,0),(1,1))]):={nb,no,λit hit=>by rw[zB.mp hit];exact LW kl,rfl}
 let k5:Ew (.holds p0 999 od):={(n0),h99,no}
 let k6:Ew (.holds od 0 od):={(no),DU,no}
 let w4:Sc.aV (.aJ b od [(some (0,0),(1,1))])=[("notes": Str),dec b,od,"0:0:1"]:=by show [("notes": Str),dec b,od,kA (some (0,0),(1,1))]=_;rw[show kA (some (0,0),(1,1)) ="0:0:1" by decide +kernel]
 let ll:∀q,S.au.getLast?=some q->q∉[p0,od]:=λq hq z=>by
  rcases zE.mp z with z | z
  ·exact f3 q hq z.symm
  ·exact nP (zB.mp z▸wX hq)
 let g1:Gd S "name" (aO (.bE "t" [p0,od])):=.sum (eF k1 (by show 2<=90;decide)) (by show 2<=1000;decide) (Ag D (by simp;exact λz=>nP (z▸f2)) ll (zr _ zt) nP);let g2:Gd S "name" (aO (.bE "t" [od])):=.sum (eF k2 (by show 1<=90;decide)) (by show 1<=1000;decide) (Ag D (by simp) (λq hq z=>ll q hq (zr _ z)) zt nP);let g3:Gd S "name" (aO (.holds od b x.1)):=gd k3 trivial trivial (Eb D nP);let g4:Gd S "name" (aO (.aJ b od [(some (0,0),(1,1))])):=Bm D nb no kl (by rw[DT D (.inr nP),yR nP]);let g5:Gd S "name" (aO (.holds p0 999 od)):=gd k5 trivial trivial (by rw[qV D (),yQ (λz=>z f2),yR nI]);let g6:Gd S "name" (aO (.holds od 0 od)):=gd k6 trivial trivial (Eb D nP);exists pl,_,_,_,rfl,rfl,ak h2,bz f1,?_;exists by show 4<=sizeLine;ext,?_
 intros q1 H1 s1 hq1;refine{" ",q1,Sc.aV (.bE "t" [p0,od]),rfl,rfl,ak hq1,fE (eF k1 (by show 2<=90;decide)),?_};exists by show 3<=sizeLine;ext,?_
 intros q2 H2 s2 hq2;refine{" ",q2,Sc.aV (.bE "t" [od]),rfl,rfl,ak hq2,fE (eF k2 (by show 1<=90;decide)),?_};exists by show 2<=sizeLine;ext,?_
 intros q3 H3 s3 hq3;let s03:=(s1.trans s2).trans s3;let hai3:=s03 _ _ hai;clear hq1 hq2;exists il,_,_,_,rfl,rfl,ak (s03 _ _ h3),bz iv0,?_;exists by show 4<=sizeLine;ext,?_
 intros q4 H4 s4 hq4;refine{" ",q4,Sc.aV (.holds od b x.1),rfl,rfl,ak hq4,fE (eF k3 trivial),?_};exists by show 4<=sizeLine;ext,?_
 intros q5 H5 s5 hq5;refine{" ",q5,Sc.aV (.aJ b od [(some (0,0),(1,1))]),rfl,rfl,ak (by rw[w4];exact hq5),fE (eF k4 (by show 1<=90;decide)),?_};exists by show 2<=sizeLine;ext,?_
 intros q6 H6 s6 hq6;let s36:=(s4.trans s5).trans s6;refine{q3,q6,_,_,rfl,rfl,ak (s36 _ _ hq3),ak hq6,by show 2+2<=sizeLine;ext,?_};intros q7 H7 s7 hq7;let s07:=(s03.trans s36).trans s7;clear hq3 hq4 hq5 hq6;exists pl,_,_,_,rfl,rfl,ak (s07 _ _ h2),bz f1,?_;exists by show 4<=sizeLine;ext,?_
 intros q8 H8 s8 hq8;refine{" ",q8,Sc.aV (.holds p0 999 od),rfl,rfl,ak hq8,fE (eF k5 trivial),?_};exists by show 4<=sizeLine;ext,?_
 intros q9 H9 s9 hq9;refine{" ",q9,Sc.aV (.holds od 0 od),rfl,rfl,ak hq9,fE (eF k6 trivial),?_};exists by show 2<=sizeLine;ext,?_
 intros qa Ha sa hqa;let s7a:=(s8.trans s9).trans sa;refine{q7,qa,_,_,rfl,rfl,ak (s7a _ _ hq7),ak hqa,by show 4+2<=sizeLine;ext,?_};intros qb Hb sb hqb;left;let⟨r,ra,rb⟩:=oo (m:=m/2) (l:=[aO (.bE "t" [p0,od]),aO (.bE "t" [od]),aO (.holds od b x.1),aO (.aJ b od [(some (0,0),(1,1))]),aO (.holds p0 999 od),aO (.holds od 0 od)]) (List.cons_ne_nil _ _);refine{qb,_,_,_,rfl,rfl,ak hqb,ra,?_};exact kk r Hb ((s07.trans s7a).trans sb) (aK g1 (aK g2 (aK g3 (aK g4 (aK g5 (aK g6 all_nil))))) r rb)
def d0:dec 0 ="0":=by decide +kernel
def d2:dec 2 ="2":=by decide +kernel
def d3:dec 3 ="3":=by decide +kernel
def Xw (f:Int) :"repeat 0 " ++ dec f ++" 2"= aO (.rep {0,f,2,[]}):=by
 refine dN ?_;show _=(Str.join " " ["repeat",dec 0,dec f,dec 2]).cps.toList;simp only[bu,join_one,d0,d2,bD,zG];rfl
def Xv (f:Int) :"repeat " ++ dec f ++" 0 3"= aO (.rep {f,0,3,[]}):=by
 refine dN ?_;show _=(Str.join " " ["repeat",dec f,dec 0,dec 3]).cps.toList;simp only[bu,join_one,d0,d3,bD,zG];rfl
def Xu (f:Int) :"repeat 0 0 2 " ++ dec f ++":1,2"= aO (.rep {0,0,2,[(f,[1,2])]}):=by
 refine dN ?_;show _=(Str.join " " ["repeat",dec 0,dec 0,dec 2,dec f ++":" ++ Str.join "," [dec 1,dec 2]]).cps.toList;simp only[bu,join_one,d0,d2,show dec 1 ="1" by decide +kernel,bD,zG];rfl
def Xt (f:Int) :"repeat 0 0 2 0:1 " ++ dec f ++":2"= aO (.rep {0,0,2,[(0,[1]),(f,[2])]}):=by
 refine dN ?_;show _=(Str.join " " ["repeat",dec 0,dec 0,dec 2,dec 0 ++":" ++ Str.join "," [dec 1],dec f ++":" ++ Str.join "," [dec 2]]).cps.toList;simp only[bu,join_one,d0,d2,show dec 1 ="1" by decide +kernel,bD,zG];rfl
def XG (f:Int) :"jump " ++ dec f ++" 0 0 end"= aO (.bP {f,0,0,none}):=by
 refine dN ?_;show _=(Str.join " " ["jump",dec f,dec 0,dec 0,"end"]).cps.toList;simp only[bu,join_one,d0,bD,zG];rfl
def XF (f:Int) :"jump 0 " ++ dec f ++" 0 end"= aO (.bP {0,f,0,none}):=by
 refine dN ?_;show _=(Str.join " " ["jump",dec 0,dec f,dec 0,"end"]).cps.toList;simp only[bu,join_one,d0,bD,zG];rfl
def XE (f:Int) :"jump 0 0 " ++ dec f ++" end"= aO (.bP {0,0,f,none}):=by
 refine dN ?_;show _=(Str.join " " ["jump",dec 0,dec 0,dec f,"end"]).cps.toList;simp only[bu,join_one,d0,bD,zG];rfl
def XC (f:Int) :"jump 0 0 0 " ++ dec f=aO (.bP {0,0,0,some f}):=by
 refine dN ?_;show _=(Str.join " " ["jump",dec 0,dec 0,dec 0,dec f]).cps.toList;simp only[bu,join_one,d0,bD,zG];rfl
def VF {f:Int} {l:List Int} (h:NB f) (ne:l≠[]) (hl:∀p∈l,0<=p/\p<1000):Uq (f,l):={(h.1),h.2,ne,hl}
def Qg {S:bO} {f:Int} (h:NB f) (hl:(⇑S.aR:Int)<=f):∀r∈["repeat 0 " ++ dec f ++" 2","repeat " ++ dec f ++" 0 3","repeat 0 0 2 " ++ dec f ++":1,2","repeat 0 0 2 0:1 " ++ dec f ++":2"],Gd S "bar" r:=by
 let e0:∀e∈([]:List Sc.End),Uq e:=λe he=>nomatch he;let e1:∀l:List Int,l≠[]->(∀p∈l,0<=p/\p<1000)->Uq (f,l):=λl=>VF h;rw[Xw,Xv,Xu,Xt];refine aK (FR (b:=f) {DU,h,(by decide:(2:Int)<=2),(by decide:(2:Int)<=9),e0} {by show 0<=9;decide,λe he=>nomatch he} (by show GK []<64;decide) (by simp) hl)
  (aK (FR (b:=f) {h,DU,(by decide:(2:Int)<=3),(by decide:(3:Int)<=9),e0} {by show 0<=9;decide,λe he=>nomatch he} (by show GK []<64;decide) (by simp) hl)
  (aK (FR (b:=f) {DU,DU,(by decide:(2:Int)<=2),(by decide:(2:Int)<=9),λe he=>by rw[zB.mp he];exact e1 _ ∅ ∅} {by show 1<=9;decide,λe he=>by rw[zB.mp he];show 2<=9;decide} (by show 2<64;decide) (by simp) hl)
  (aK (FR (b:=f) {DU,DU,(by decide:(2:Int)<=2),(by decide:(2:Int)<=9),λe he=>by
   rcases zE.mp he with rfl | he
   ·exact VF DU ∅ ∅
   ·rw[zB.mp he];exact e1 _ ∅ ∅} ⟨by show 2<=9;decide,λe he=>by
   rcases zE.mp he with rfl | he
   ·show 1<=9;decide
   ·rw[zB.mp he];show 1<=9;decide⟩ (by show 2<64;decide) (by simp) hl) all_nil)))
def NG {S:bO} (D:bS S) (nj:S.bP=none) {f:Int} (h:NB f) (hl:(⇑S.aR:Int)<=f):∀r∈["jump " ++ dec f ++" 0 0 end","jump 0 " ++ dec f ++" 0 end","jump 0 0 " ++ dec f ++" end","jump 0 0 0 " ++ dec f],Gd S "bar" r:=by
 let e0:∀c:Int,(none:Option Int)=some c->NB c:=λc z=>nomatch z;rw[XG,XF,XE,XC];exact aK (qX D {(h),DU,DU,e0} (qQ (b:=f) nj (by simp) hl)) (aK (qX D {(DU),h,DU,e0} (qQ (b:=f) nj (by simp) hl)) (aK (qX D {(DU),DU,h,e0} (qQ (b:=f) nj (by simp) hl)) (aK (qX D {DU,DU,DU,λc z=>by cases z;exact h} (qQ (b:=f) nj (by simp) hl)) all_nil)))
def TR {n:Nat} {m:Int} (h:n<=12) (m0:0<=m):∃f:Int,tm [V.int n,V.int (n+1),V.int 999,V.int (n+m/64%100)] (m/8%4)=some (.int f)/\(n:Int)<=f/\f<1000:=by
 let a:=zy (m/64) (b:=100) ∅;let b:=zv (m/64) (b:=100) ∅;let⟨j,v,h1,h2⟩:=om (m:=m/8) (l:=[V.int n,V.int (n+1),V.int 999,V.int (n+m/64%100)]) (List.cons_ne_nil _ _)
 match j,h1 with
 | 0,h1=>exact{_,h2.trans h1.symm,(),()}
 | 1,h1=>exact{_,h2.trans h1.symm,(),()}
 | 2,h1=>exact{_,h2.trans h1.symm,(),()}
 | 3,h1=>exact{_,h2.trans h1.symm,(),()}
def W6 (S:bO) (H H':Hp) (D:vw) (n:Nat):Prop:=∃rs:List Str,aG H H'/\H' D=some (.lst (rs.map V.str))/\(∀r∈rs,Gd S "bar" r)/\0<⇑rs/\⇑rs<=n
def WS {S:bO} {H H8:Hp} {p pl il bl hl nl rl D:vw} {m k f:Int} {ub jm:V} {Z:Ends} (hN:∀D H',W6 S H H' D 10->Z.nx [some (.ref p),some (.int m),some (.ref pl),some (.ref il),some (.ref bl),some ub,some (.ref hl),some (.ref nl),some (.ref rl),some jm,some (.int k),some (.str (dec f)),some (.ref D)] H') (hj:Is H (dO gq S.bP) jm) (D0:bS S) (nf:NB f) (fl:(⇑S.aR:Int)<=f) (I:W6 S H H8 D 6) :
  (EK (tB (MG (aW 9))) (EI (rO (cP (R4 K) (aW 12) (oJ (aY (cP (λx y H Q=>∃i j,x=V.str i/\y=V.str j/\⇑i+⇑j<=sizeLine/\Q (V.str (i++j)) H) (cP (λx y H Q=>∃i j,x=V.str i/\y=V.str j/\⇑i+⇑j<=sizeLine/\Q (V.str (i++j)) H) (tC (V.str "jump ")) (aW 11)) (tC (V.str " 0 0 end"))) (aY (cP (λx y H Q=>∃i j,x=V.str i/\y=V.str j/\⇑i+⇑j<=sizeLine/\Q (V.str (i++j)) H) (cP (λx y H Q=>∃i j,x=V.str i/\y=V.str j/\⇑i+⇑j<=sizeLine/\Q (V.str (i++j)) H) (tC (V.str "jump 0 ")) (aW 11)) (tC (V.str " 0 end"))) (aY (cP (λx y H Q=>∃i j,x=V.str i/\y=V.str j/\⇑i+⇑j<=sizeLine/\Q (V.str (i++j)) H) (cP (λx y H Q=>∃i j,x=V.str i/\y=V.str j/\⇑i+⇑j<=sizeLine/\Q (V.str (i++j)) H) (tC (V.str "jump 0 0 ")) (aW 11)) (tC (V.str " end"))) cE))))) (bW 12)) (Ae (Qw K "list" nY (aW 12) (aY (cP (λx y H Q=>∃i j,x=V.str i/\y=V.str j/\⇑i+⇑j<=sizeLine/\Q (V.str (i++j)) H) (tC (V.str "jump 0 0 0 ")) (aW 11)) cE)))) Ad) Z [some (.ref p),some (.int m),some (.ref pl),some (.ref il),some (.ref bl),some ub,some (.ref hl),some (.ref nl),some (.ref rl),some jm,some (.int k),some (.str (dec f)),some (.ref D)] H8:=by
 let sl:=yF;let⟨rs,s8,h8,g8,l1,l2⟩:=I;let lf:=T6 nf;let lf2:⇑(Str.ofString (toString f))<=5:=lf;cases qu:S.bP with
 | some u=>
  rw[qu] at hj;let ne:jm≠.bQ:=λz=>by rw[z] at hj;unfold dO gq Is at hj;let⟨_,_,z,_⟩:=hj;cases z
  left;refine cD (zg ne) ?_;change hN _ _ {(rs),s8,h8,g8,l1,()}
 | none=>
  let gj:=NG D0 qu nf fl;rw[qu] at hj;unfold dO Is at hj;subst hj;exists by show 5+_<=sizeLine;ext,?_
  exists by rw[bo];show 5+_+8<=sizeLine;ext,?_
  exists by show 7+_<=sizeLine;ext,?_
  exists by rw[bo];show 7+_+6<=sizeLine;ext,?_
  exists by show 9+_<=sizeLine;ext,?_
  exists by rw[bo];show 9+_+4<=sizeLine;ext,?_
  exists by show 3<=sizeLine;ext,?_
  intros q9 H9 s9 hq9;refine{D,q9,_,_,rfl,rfl,ak (s9 _ _ h8),ak hq9,by rw[zd];show _+3<=sizeLine;ext,?_};intro qa na;generalize hU:upd H9 qa _=Ha;let sa:aG H9 Ha:=by rw[<-hU];exact bF na
  let ha:Ha qa=some (.lst (rs.map V.str++["jump " ++ dec f ++" 0 0 end","jump 0 " ++ dec f ++" 0 end","jump 0 0 " ++ dec f ++" end"].map V.str)):=by rw[<-hU,aE];rfl
  clear hU;let nqa:H qa=none:=(s8.trans s9).back na;exists .inl {rfl,_,ak ha},?_;exists by show 11+_<=sizeLine;ext,?_
  exists qa,_,_,rfl,rfl,ha,by rw[zj,zd,zd];show _+3<sizeLine;ext,?_
  left;refine hN _ _ {rs++["jump " ++ dec f ++" 0 0 end","jump 0 " ++ dec f ++" 0 end","jump 0 0 " ++ dec f ++" end","jump 0 0 0 " ++ dec f],cY nqa ((s8.trans s9).trans sa),by rw[aE,zm,zG];rfl,λr hr=>?_,by rw[zj];ext,by rw[zj];show _+4<=10;ext};rcases zH.mp hr with z | z
  ·exact g8 r z
  ·exact gj r z
def WT {S:bO} {H H8:Hp} {p pl il bl hl nl rl D:vw} {m k f:Int} {ub jm:V} {Z:Ends} (hN:∀r H',aG H H'->Gd S "bar" r->Z.rt (.str r) H') (I:W6 S H H8 D 10) :
  (Oj (cP (qC K) (aW 12) (cP (rI (λx j=>0<j) λi j=>V.int (i%j)) (cP (rI Dw λi j=>V.int (i/j)) (aW 1) (tC (V.int 16))) (EL (λxs H Q=>∃p ys,xs=[V.ref p]/\(fM K H p ys\/mI K H p ys)/\Q (V.int (⇑ys:Int)) H) (aY (aW 12) cE))))) Z [some (.ref p),some (.int m),some (.ref pl),some (.ref il),some (.ref bl),some ub,some (.ref hl),some (.ref nl),some (.ref rl),some jm,some (.int k),some (.str (dec f)),some (.ref D)] H8:=by
 let⟨rs,s8,h8,g8,l1,l2⟩:=I;let⟨r,ra,rb⟩:=oo (m:=m/16) (yv.mp l1);exists D,_,rfl,.inl (ak h8),?_;rw[zd];exists by show 0<(⇑rs:Int);ext,?_
 refine{D,_,_,_,rfl,rfl,ak h8,ra,?_};exact hN _ _ s8 (g8 r rb)
def Am:Sp:=pw "bar"
def A6:dz P w base 3 T.gZ Am:=by
 nomatch T.gZ,["_law_s","_law_m","_law_players","_law_instruments","_law_bars","_law_upbeat","_law_holds","_law_notes","_law_repeats","_law_jump","_law_many","_law_far","_law_some"]
 let⟨p,S,m,rfl,la,D,m0,kk⟩:=h;let sl:=yF;let V0:=gG D;let I:=D.i;let bl0:=D.bl;let⟨pl,il,bl,hl,nl,rl,ub,jm,iv,bv,hv,nv,rv,h1,h2,⟨h3,ili⟩,⟨h5,ilb⟩,h6,⟨h7,rlh⟩,⟨h8,rln⟩,⟨h9,ilr⟩,hj⟩:=la;let⟨p0,f1,f2,f3⟩:=O9 D;let bvl:=aZ ilb;refine{_,(ag (sC (pv 0) (du (n:=8) rfl (aD (eN 2 qN) (aD (eN 3 qN) (aD (eN 4 qN) (aD (eN 5 qN) (aD (eN 6 qN) (aD (eN 7 qN) (aD (eN 8 qN) (aD (eN 9 qN) cG))))))))))
  (ag (b7 10 qN (dC ay T.bx (aa (pv 4) ae)))
  (ag (b7 11 qN (oa bf T.d9 (aa (dF (aU (aa (pv 10) (aa (ao bw (pv 10) af) (aa af (aa (ao bw (pv 10) (ao aQ (ao aS (pv 1) af) af)) ae))))) (ao aQ (ao aS (pv 1) af) af)) ae)))
  (ag (b7 12 qN (aU (aa (bK yJ yL yK cK az (aa (aU (aa az (aa (dF (pv 2) (ao aQ (ao aS (pv 1) af) (dC ay T.bx (aa (pv 2) ae)))) (aa (pv 11) (aa (cy (dF (pv 3) af) af) ae))))) ae)) ae)))
  (ag (b7 12 qN (ao cT (pv 12) (aU (aa (bK yJ yL yK cK az (aa (aU (aa az (aa (pv 11) (aa (dF (pv 2) (ao aQ (ao aS (pv 1) af) (dC ay T.bx (aa (pv 2) ae)))) (aa az ae))))) ae)) (aa (ao aM (ao aM az (pv 11)) az) ae)))))
  (ag (b7 12 qN (ao cT (pv 12) (aU (aa (ao aM (ao aM az (pv 11)) az) (aa (ao aM (ao aM az (pv 11)) az) (aa (ao aM (ao aM az (pv 11)) az) ae))))))
  (ag (aL (bL (cF (pv 9)))
  (ag (b7 12 qN (ao cT (pv 12) (aU (aa (ao aM (ao aM az (pv 11)) az) (aa (ao aM (ao aM az (pv 11)) az) (aa (ao aM (ao aM az (pv 11)) az) ae))))))
   (aj (bX (bK yG yI yH bJ (pv 12) (aa (ao aM az (pv 11)) ae)))))
  aA)
  (aj (ax (dF (pv 12) (ao aQ (ao aS (pv 1) af) (dC ay T.bx (aa (pv 12) ae))))))))))))),?_}
 ac_rfl;exists p,_,rfl,bC h1,rfl,?_;refine{_,_,rfl,{_,_,rfl,{_,_,rfl,{_,_,rfl,{_,_,rfl,{_,_,rfl,{_,_,rfl,{_,_,rfl,{rfl,?_}}}}}}}}};show(_:TS) _ [some (.ref p),some (.int m),some (.ref pl),some (.ref il),some (.ref bl),some ub,some (.ref hl),some (.ref nl),some (.ref rl),some jm,none,none,none] _;exists bl,_,rfl,.inl (ak h5),?_;rw[bvl];exists by show 4<=sizeLine;ext,?_
 intros q1 H1 s1 hq1;let⟨f,fa,fl,fh⟩:=TR bl0 m0;exists q1,_,_,_,rfl,rfl,ak hq1,fa,?_;exists _,rfl,bM () (),?_;clear hq1 fa;let nf:NB f:={(()),fh}
 let lf:=T6 nf;let lf2:⇑(Str.ofString (toString f))<=5:=lf;let pne:S.au≠[]:=List.ne_nil_of_mem f2;let⟨px,x1,x2⟩:=oo (m:=m/16) pne;let ivl:=aZ ili;let i1:=I.l1;let⟨x,hx,ix⟩:=df (d:=dy) ili (i:=0) (ze ());let⟨ai,ti,li,ei,hai,_,_⟩:=qP ix;let hx:=zQ (f:=λy:Str×(Int×Int)×(Int×Int)=>y.1) (zD hx);let iv0:iv[0]?=some (.ref ai):=by rw[<-ei];exact ze ()
 let hai1:=s1 _ _ hai;let nP:=D.pn.1 _ x2;let kl:Ey (1,8):={Lm.Rd.of (t:=1) (b:=8) ∅ ∅,∅,∅,∅}
 let k1:Ew (.holds px f x.1):={nP,nf,I.nm.1 _ hx}
 let k2:Ew (.aJ f px [(some (0,0),(1,8))]):={nf,nP,λit hit=>by rw[zB.mp hit];exact LW kl,rfl}
 let w2:Sc.aV (.aJ f px [(some (0,0),(1,8))])=[("notes": Str),dec f,px,"0:0:1/8"]:=by show [("notes": Str),dec f,px,kA (some (0,0),(1,8))]=_;rw[show kA (some (0,0),(1,8)) ="0:0:1/8" by decide +kernel]
 let g1:Gd S "bar" (aO (.holds px f x.1)):=gd k1 trivial trivial (by rw[qV D fl,yQ (λz=>z x2),yQ (λz=>z hx)]);let g2:Gd S "bar" (aO (.aJ f px [(some (0,0),(1,8))])):=Bm D nf nP kl (by rw[DT D (.inl fl),yQ (λz=>z x2)]);exists pl,_,rfl,.inl (ak (s1 _ _ h2)),?_;rw[zd];exists by show 0<(⇑S.au:Int);have:=D.NX;ext,?_
 refine{pl,_,_,_,rfl,rfl,ak (s1 _ _ h2),x1,?_};exists il,_,_,_,rfl,rfl,ak (s1 _ _ h3),bz iv0,?_;exists by show 4<=sizeLine;ext,?_
 intros q2 H2 s2 hq2;refine{" ",q2,Sc.aV (.holds px f x.1),rfl,rfl,ak hq2,fE (eF k1 trivial),?_};exists by show 1<=sizeLine;ext,?_
 intros q3 H3 s3 hq3;let s03:=(s1.trans s2).trans s3;exists pl,_,rfl,.inl (ak (s03 _ _ h2)),?_;rw[zd];exists by show 0<(⇑S.au:Int);have:=D.NX;ext,?_
 refine{pl,_,_,_,rfl,rfl,ak (s03 _ _ h2),x1,?_};exists by show 4<=sizeLine;ext,?_
 intros q4 H4 s4 hq4;refine{" ",q4,Sc.aV (.aJ f px [(some (0,0),(1,8))]),rfl,rfl,ak (by rw[w2];exact hq4),fE (eF k2 (by show 1<=90;decide)),?_};exists by show 9+_<=sizeLine;ext,?_
 exists by rw[bo];show 9+_+2<=sizeLine;ext,?_
 exists by show 2<=sizeLine;ext,?_
 intros q5 H5 s5 hq5;let s35:=s4.trans s5;refine{q3,q5,_,_,rfl,rfl,ak (s35 _ _ hq3),ak hq5,by show 1+2<=sizeLine;ext,?_};intros q6 H6 s6 hq6;let s06:=(s03.trans s35).trans s6;clear hq2 hq3 hq4 hq5;exists by show 7+_<=sizeLine;ext,?_
 exists by rw[bo];show 7+_+4<=sizeLine;ext,?_
 exists by show 13+_<=sizeLine;ext,?_
 exists by rw[bo];show 13+_+4<=sizeLine;ext,?_
 exists by show 17+_<=sizeLine;ext,?_
 exists by rw[bo];show 17+_+2<=sizeLine;ext,?_
 exists by show 3<=sizeLine;ext,?_
 intros q7 H7 s7 hq7;refine{q6,q7,_,_,rfl,rfl,ak (s7 _ _ hq6),ak hq7,(by show 3+3<=sizeLine;ext),?_};intro q8 n8;generalize hU:upd H7 q8 _=H8;let s8:aG H7 H8:=by rw[<-hU];exact bF n8
 let s08:=(s06.trans s7).trans s8;obtain⟨rs,hrs⟩:∃rs,rs=[aO (.holds px f x.1),aO (.aJ f px [(some (0,0),(1,8))]),"repeat 0 " ++ dec f ++" 2","repeat " ++ dec f ++" 0 3","repeat 0 0 2 " ++ dec f ++":1,2","repeat 0 0 2 0:1 " ++ dec f ++":2"]:={_,rfl}
 let h8:H8 q8=some (.lst (rs.map V.str)):=by rw[<-hU,aE,hrs];rfl
 let g8:∀r∈rs,Gd S "bar" r:=by rw[hrs];exact aK g1 (aK g2 (Qg nf fl))
 let l8:⇑rs=6:=by rw[hrs];rfl
 clear hU hrs hq6 hq7;show EI _ _ _ [some (.ref p),some (.int m),some (.ref pl),some (.ref il),some (.ref bl),some ub,some (.ref hl),some (.ref nl),some (.ref rl),some jm,some (.int ⇑S.aR),some (.str (dec f)),some (.ref q8)] H8;exact G5 (WS (λD' H' I'=>WT (λr H' s' g'=>kk r H' s' g') I') hj D nf fl {(rs),s08,h8,g8,(),()})
def vC {ts:List Told} (td:∀t∈ts,TD t):∀r∈ts.map aO,10∉r.cps.toList/\⇑r<=10100:=λr hr=>by
 let⟨t,ht,rfl⟩:=zI.mp hr;exact{HF (td t ht).1,EC (td t ht)}
def Gd.row {S:bO} {wd r:Str} (h:Gd S wd r):10∉r.cps.toList/\⇑r<=10100:=by
 let⟨t,rfl,td,_⟩:=h;exact{HF td.1,EC td}
def W7 (b:List Str):Prop:=⇑b<=1/\∀r∈b,words r=[]/\10∉r.cps.toList/\⇑r<=2
def XN {k n:Int} (k0:0<=k) (k3:k<3) (n0:0<=n) (n2:n<2):∃b,W7 b/\(⇑b:Int)=n/\(List.replicate n.toNat [V.str (fm " " k.toNat)]).flatten=b.map V.str:=by
 let w:words (fm " " k.toNat)=[]/\10∉(fm " " k.toNat).cps.toList/\(fm " " k.toNat).length<=2:=by
  obtain rfl | rfl | rfl:k=0\/k=1\/k=2:=()
  ·decide +kernel
  ·decide +kernel
  ·decide +kernel
 obtain rfl | rfl:n=0\/n=1:=()
 ·exact{[],{∅,all_nil},rfl,rfl}
 ·exact{[fm " " k.toNat],{zp _,λr hr=>by rw[zB.mp hr];exact w},rfl,rfl}
def SY {S:bO} (D:bS S) {r wd:Str} (g:Gd S wd r) {b:List Str} (hb:W7 b):RX {} 0 ((cC S).map aO++b++[r]) (.bad (⇑(cC S)+⇑b) wd):=by
 rw[zG];refine vD (HE (gG D)) (kG D) ?_;rw[Nat.zero_add];let⟨t,rfl,td,fit,f⟩:=g
 match b,hb with
 | [],_=>exact Ka td fit f
 | [x],hb=>
  let⟨h1,_,h3⟩:=hb.2 x zt;exact .blank () h1 (Ka td fit f)
def all_rows {S:bO} (D:bS S) {r:Str} (g:10∉r.cps.toList/\⇑r<=10100) {b:List Str} (hb:W7 b):∀x∈(cC S).map aO++b++[r],10∉x.cps.toList/\⇑x<=10100:=λx hx=>by
 rcases zH.mp hx with z | z
 ·rcases zH.mp z with z | z
  ·exact vC (kG D) x z
  ·have:=hb.2 x z
   exact{(this.2.1),()}
 ·rw[zB.mp z];exact g
def KO {S:bO} (D:bS S):∀x∈(S.au.map Told.bA).map aO++[("": Str),"upbeat 1/8"]++((cC S).map aO).drop ⇑S.au,10∉x.cps.toList/\⇑x<=10100:=λx hx=>by
 let td:=kG D;rcases zH.mp hx with z | z
 ·rcases zH.mp z with z | z
  ·exact vC (λt ht=>td t (by unfold cC;simp only[zH];exact .inl (.inl (.inl (.inl (.inl (.inl (.inl ht)))))))) x z
  ·rcases zE.mp z with rfl | z
   ·decide
   ·rw[zB.mp z];decide
 ·exact vC td x (List.mem_of_mem_drop z)
def OF {S:bO} (D:bS S) {rest:List Str}:RX {} 0 ((S.au.map Told.bA).map aO++[("": Str),"upbeat 1/8"]++rest) (.bad (⇑S.au+1) "bar"):=by
 let V0:=gG D;let td:=kG D;let r1:=kT (l:=S.au) (S:={}) V0.pn V0.pl {x8,∅,λq hq=>nomatch hq} {∅,∅,∅,∅,∅,∅};let kl:Ey (1,8):={Lm.Rd.of (t:=1) (b:=8) ∅ ∅,∅,∅,∅}
 let b:=Ka (S:={au:=S.au}) (i:=⇑S.au+1) (rest:=rest) (w:="bar") (eF (t:=.aH (1,8)) kl trivial) {{(cq (n:=14) ∅ ∅).mono ∅,(cq (n:=14) ∅ ∅).mono ∅},(λb hb=>nomatch hb),yg _} (by unfold aX;rfl);rw[show aO (.aH (1,8)) ="upbeat 1/8" by decide +kernel] at b;rw[zG];refine vD r1 (λt ht=>td t (by unfold cC;simp only[zH];exact .inl (.inl (.inl (.inl (.inl (.inl (.inl ht)))))))) ?_;rw[zd,Nat.zero_add];exact .blank ∅ (by decide +kernel) b
def OE {S:bO} (D:bS S):RX {} 0 ((cC S).map aO) (.ok S):=by
 have:=vD (i:=0) (rest:=[]) (out:=.ok S) (HE (gG D)) (kG D) .nil;rw[zW] at this;exact this
def T8 {xs:List V} {n:Nat} (h:n<=⇑xs):iR xs none (some (n:Int))=xs.take n:=by
 unfold iR;rw[HT.qt,List.drop_zero,Nat.sub_zero];let e:HT.eU ⇑xs ⇑xs (some (n:Int))=n:=by unfold HT.eU;simp;ext
 rw[e]
def Qe {xs:List V} {n:Nat} (h:n<=⇑xs):iR xs (some (n:Int)) none=xs.drop n:=by
 unfold iR;rw[HT.qt];let e:HT.eU ⇑xs 0 (some (n:Int))=n:=by unfold HT.eU;simp;ext
 rw[e];exact xx (by rw[xC];ext)
def ME (S:bO):(rws (cC S)).take ⇑S.au=rws (S.au.map .bA):=by
 unfold cC;simp only[zG];rw[iG];exact List.take_left' (by rw[fS,zd])
inductive Up (K:yE) {mg:Str->Option vm} (T:Txt K mg):vw->Sp->Prop where
 | t:Up K T T.iX (pw "twice")
 | l:Up K T T.gi (pw "name")
 | b:Up K T T.gM (pw "bar")
def SD (K:yE) {mg:Str->Option vm} (T:Txt K mg) (m:Int):∃f wd,tm [V.ref T.iX,V.ref T.gi,V.ref T.gM] (m%3)=some (.ref f)/\Up K T f (pw wd)/\tm [V.str "twice",V.str "name",V.str "bar"] (m%3)=some (.str wd):=by
 obtain h | h | h:m%3=0\/m%3=1\/m%3=2:=()
 ·rw[h];exact{_,_,rfl,.t,rfl}
 ·rw[h];exact{_,_,rfl,.l,rfl}
 ·rw[h];exact{_,_,rfl,.b,rfl}
inductive Oz (K:yE) (vs:List V) (H:Hp) (Q:VK) (E:XK):Prop
 | mk (a:vw) (ns:List Int) (_:vs=[.ref a]) (_:fM K H a (ns.map V.int)) (_:⇑ns<=63) (_:∀H':Hp,Q (.bl true) H')
def kR:d6 ["_law_script","_law_s","_law_rows_here","_law_k","_law_cell","_law_m","_law_row","_law_text","_law_early"] ["_law_script"] (aT OD):=Sd
def Tp (B:Dk P w K T) (F:Cf K T.jX):dz P w base 10 T.WC (Oz K):=by
 refine T.WC.F.Um kR λcdv A' outer s H vs Q E hr h=>?_
 ·let⟨a,ns,rfl,hS,nl,kk⟩:=h
  let sl:=yF;let hTbV:∀f sp,Up K T f sp->Qv (gX Cc P w K mg base ["_law_script","_law_s","_law_rows_here","_law_k","_law_cell","_law_m","_law_row","_law_text","_law_early"] "law" (aT OD) T.Se cdv A' outer s H E).FF Cc 3 f sp:=by
   intro f sp h;cases h with
   | t=>exact{_,_,CS T,T.jC.F.kp,T.jC.b}
   | l=>exact{_,_,uJ T,T.gk.F.kp,T.gk.b}
   | b=>exact{_,_,A6 T,T.gZ.F.kp,T.gZ.b}
  refine{_,(ag (b7 1 kR.nd (cw (CT T) hr T.pZ (aa (pv 0) ae)))
   (ag (b7 2 kR.nd (cw (FE T) hr T.tG (aa (pv 1) ae)))
   (ag (dH yS rfl (vF (by rfl) T.jU (aa (ao cT (dS iF (pv 0) eX (eW af)) (aU (aa af ae))) ae)) (du (n:=2) rfl (aD (eN 3 kR.nd) (aD (eN 4 kR.nd) cG)))
   (ag (b7 5 kR.nd (cw (cB T) hr T.cX (aa (pv 4) (aa (pv 3) ae))))
    (ag (b7 6 kR.nd (O8 (Up K T) hTbV (hr.mono ∅) (dF (aU (aa (bH (v:=.ref T.iX) (by rfl) T.jC.g rfl) (aa (bH (v:=.ref T.gi) (by rfl) T.gk.g rfl) (aa (bH (v:=.ref T.gM) (by rfl) T.gZ.g rfl) ae)))) (ao aQ (pv 5) af)) AX (aa (pv 1) (aa (ao aS (pv 5) af) ae))))
    (ag (b7 7 kR.nd (bK yJ yL yK cK az (aa (ao cT (ao cT (pv 2) (ao Rk (aU (aa (ao vG az (ao aQ (ao aS (pv 5) af) af)) ae)) (ao aQ (ao aS (pv 5) af) af))) (aU (aa (pv 6) ae))) ae)))
    (aj (aL (eM (cj (cw (oY T B F) hr T.lN (aa (pv 7) (aa (ao bw (dC ay T.bx (aa (pv 2) ae)) (ao aQ (ao aS (pv 5) af) af)) (aa (dF (aU (aa az (aa az (aa az ae)))) (ao aQ (pv 5) af)) ae))))))
    (aj (ax lY))
    aA))))))
   (ag (b7 8 kR.nd (bK yJ yL yK cK az (aa (ao cT (ao cT (dS iF (pv 2) eX (eW (dC ay T.bx (aa (cy (pv 1) af) ae)))) (aU (aa az (aa az ae)))) (dS iF (pv 2) (eW (dC ay T.bx (aa (cy (pv 1) af) ae))) eX)) ae)))
   (aj (ax (ia (cw (oY T B F) hr T.lN (aa (pv 8) (aa (ao bw (dC ay T.bx (aa (cy (pv 1) af) ae)) af) (aa az ae)))) (hX (cR cS (dC ay T.bx (aa (bU (Fq (oW T B F) (hr.mono ∅) rfl T.fF.g T.fF.F.kp T.fF.b .nil UY (aa (bK yJ yL yK cK az (aa (pv 2) ae)) ae)) rfl) ae)) (dC ay T.bx (aa (cy (pv 1) af) ae)) (fe _)))))))))),?_}
  ac_rfl;exists a,ns,rfl,hS,(),λS p H1 D s1 la=>?_;let td:=kG D;let⟨tl,tne⟩:=Np D;let⟨q,q1,q2⟩:=D.st;let rok:∀r∈S.aN,RO r:=λr hr'=>El (by have:=D.bl;ext) (D.rp.2.1 r hr');exists p,S,q,rfl,la,td,(),D.i.z,q1,q2,rok,(by have:=D.rp.1;ext),λR H2 s2 hR=>?_;let s02:=s1.trans s2;exists a,_,rfl,s02.seq hS,?_;intros p3 H3 s3 h3;exists by show 1<=sizeLine;ext,?_
  intros p4 H4 s4 h4;let hR4:=(s3.trans s4) _ _ hR;obtain⟨cs,ec,cl⟩:∃cs:List Int,iR (ns.map V.int) none (some 10)++[V.int 3]=cs.map V.int/\⇑cs<=64:=by
   obtain⟨l,el,ll⟩:∃l:List Int,iR (ns.map V.int) none (some 10)=l.map V.int/\⇑l<=63:=by
    unfold iR;exact{_,by rw[<-List.map_drop,<-List.map_take],by rw[zR,xC];ext}
   exact{l++[3],by rw[el,zm];rfl,by rw[zj];show _+1<=_;ext}
  let cn:=y6 List.length ec;rw[zj,zd] at cn;exists p3,p4,_,_,rfl,rfl,ak (s4 _ _ h3),ak h4,by show _+⇑[V.int 3]<=_;ext,?_
  intro C nC;generalize hU:upd H4 C _=H5;let s5:aG H4 H5:=by rw[<-hU];exact bF nC
  let hC:H5 C=some (.lst (cs.map V.int)):=by rw[<-hU,aE];exact y6 (λz=>some (HO.lst z)) ec
  clear hU h3 h4 ec cn;let s25:=(s3.trans s4).trans s5;let hR5:=s5 _ _ hR4;let la5:=(la.mono s2).mono s25;clear hR hR4 nC;let rl:⇑(rws (cC S))=⇑(cC S):=fS _;exists C,_,rfl,ak hC,?_;refine qY (K:=K) (a:=C) (xs:=cs.map V.int) (λi σ H'=>aG H5 H'/\∃u3 u4 u5 u6 u7 u8,σ=[some (.ref a),some (.ref p),some (.ref R),u3,u4,u5,u6,u7,u8]) {aF _,none,none,none,none,none,none,rfl} (λi σ H' _ h=>ak (h.1 _ _ hC)) ?_ ?_
  ·rintro i x σ H6 t H7 hx ⟨s6,u3,u4,u5,u6,u7,u8,rfl⟩ s67 ht
   rw[zL] at hx;let⟨c,hc,rfl⟩:=Option.map_eq_some_iff.mp hx;let ci:=(zA.mp hc).1;let s57:=s6.trans s67;refine{t,_,rfl,bC ht,rfl,?_};refine{_,_,rfl,{_,_,rfl,{rfl,?_}}};exists c,i,rfl,(),(),?_;let m0:0<=mixed c i:=zy _ ∅;generalize mixed c i=m at m0;let⟨f,wd,fa,tb,wa⟩:=SD K T m;exists by show 3<=sizeLine;ext,?_
   intros p8 H8 s8 h8;exists p8,_,_,_,rfl,rfl,ak h8,fa,?_;refine{f,_,rfl,tb,?_};exists p,S,m/3,rfl,la5.mono (s57.trans s8),D,zX m0 ∅,λr H9 s9 g=>?_;let s59:=(s57.trans s8).trans s9;let⟨b,hb,hbl,eb⟩:=XN (k:=m/5%3) (n:=m/15%2) (zy _ ∅) (zv _ ∅) (zy _ ∅) (zv _ ∅);let k0:0<=m/5%3:=zy _ ∅;let k1:m/5%3<3:=zv _ ∅;let n0:0<=m/15%2:=zy _ ∅;let b1:=hb.1;exists k0,(),(by decide),?_;exists by show 1<=sizeLine;ext,?_
   intros pa Ha sa ha;exists pa,_,_,rfl,rfl,ha,List.cons_ne_nil _ _,n0,(),(by show 1<=1000;decide),?_;rw[eb];right;rename_i pb Hb sb hb';let s5b:=(s59.trans sa).trans sb;refine{R,pb,_,_,rfl,rfl,ak (s5b _ _ hR5),ak hb',by rw[rl,zd];ext,?_};right;rename_i pc Hc sc hc';exists by show 1<=sizeLine;ext,?_
   intros pd Hd sd hd;refine{pc,pd,_,_,rfl,rfl,ak (sd _ _ hc'),ak hd,by rw[zj,rl,zd];show _+1<=sizeLine;ext,?_};intros pe He se he;let er:rws (cC S)++b.map V.str++[V.str r]=((cC S).map aO++b++[r]).map V.str:=by unfold rws;rw[zm,zm];rfl
   let ar:=all_rows D g.row hb;let lr:=AH (λx hx=>(ar x hx).2) (by rw[zj,zj,zd];show _+1<=1000;ext);refine{"\n",pe,(cC S).map aO++b++[r],rfl,rfl,ak (by rw[<-er];exact he),lr.1,?_};let s5e:=((s5b.trans sc).trans sd).trans se;exists R,_,rfl,.inl (ak (s5e _ _ hR5)),?_;rw[rl];exists by show 3<=sizeLine;ext,?_
   intros pf Hf sf hf;exists pf,_,_,_,rfl,rfl,ak hf,wa,?_;refine{_,wd,⇑(cC S)+⇑b,by rw[<-hbl];rfl,lr.2,by rw[pk (by simp) λx hx=>(ar x hx).1];exact SY D g hb,λHg sg=>?_};change{(s5e.trans sf).trans sg,_,_,_,_,_,_,rfl}
  ·rintro σ H6 ⟨s6,u3,u4,u5,u6,u7,u8,rfl⟩
   let hR6:=s6 _ _ hR5;let⟨pl,il,bl,hl,nl',rl',ub,jm,iv,bv,hv,nv,rv,l1,l2,_,⟨l5,ilb⟩,_⟩:=la5.mono s6;exists pl,_,rfl,.inl (ak l2),?_;rw[zd];refine{_,rfl,?_};refine{R,_,rfl,ak hR6,?_};rw[T8 (by rw[rl];unfold cC;simp only[zj,zd];ext),ME];intros p7 H7 s7 h7;exists by show 2<=sizeLine;ext,?_
   intros p8 H8 s8 h8;refine{p7,p8,_,_,rfl,rfl,ak (s8 _ _ h7),ak h8,by have:=D.pl;rw[fS,zd];show _+2<=sizeLine;ext,?_};intros p9 H9 s9 h9;let s69:=(s7.trans s8).trans s9;let l19:=s69 _ _ l1;exists pl,_,rfl,.inl (ak (s69 _ _ l2)),?_;rw[zd];refine{_,rfl,?_};refine{R,_,rfl,ak (s69 _ _ hR6),?_};rw[Qe (by rw[rl];unfold cC;simp only[zj,zd];ext)];intros pa Ha sa ha;let dl:((rws (cC S)).drop ⇑S.au).length<=900:=by rw[xC];ext
   refine{p9,pa,_,_,rfl,rfl,ak (sa _ _ h9),ak ha,by have:=D.pl;rw[zj,fS,zd];show _+2+_<=sizeLine;ext,?_};intros pb Hb sb hb;let er:rws (S.au.map .bA)++[V.str "",V.str "upbeat 1/8"]++(rws (cC S)).drop ⇑S.au=((S.au.map Told.bA).map aO++[("": Str),"upbeat 1/8"]++((cC S).map aO).drop ⇑S.au).map V.str:=by unfold rws;rw[zm,zm,List.map_drop];rfl
   let ar:=KO D;let lr:=AH (λx hx=>(ar x hx).2) (by have:=D.pl;rw[zj,zj,zd,zd,xC,zd];show _+2+_<=1000;ext);refine{"\n",pb,(S.au.map Told.bA).map aO++[("": Str),"upbeat 1/8"]++((cC S).map aO).drop ⇑S.au,rfl,rfl,ak (by rw[<-er];exact hb),lr.1,?_};let s6b:=(s69.trans sa).trans sb;let l1b:=s6b _ _ l1;exists pl,_,rfl,.inl (ak (s6b _ _ l2)),?_;rw[zd];exists _,"bar",⇑S.au+1,rfl,lr.2,by rw[pk (by simp) λx hx=>(ar x hx).1];exact OF D,λHc sc=>?_
   let ar2:=vC td;let lr2:=AH (λx hx=>(ar2 x hx).2) (by rw[zd];ext);let s6c:=s6b.trans sc;let l1c:=s6c _ _ l1;exists "\n",R,(cC S).map aO,rfl,rfl,ak (s6c _ _ hR6),lr2.1,?_;refine{_,.ok S,rfl,lr2.2,by rw[pk (by simpa using tne) λx hx=>(ar2 x hx).1];exact OE D,λS' e a' o H' sc' s' _=>?_,λi w z=>nomatch z};cases e;let⟨ub',jm',ho,_,_⟩:=sc'.obj;let⟨vs',hv',il'⟩:=sc'.ba;let l1d:=s' _ _ l1c;refine{a',_,o.dx,_,_,rfl,ho,F.cls,F.aR,rfl,?_};exists o.ba,vs',rfl,.inl (ak hv'),?_;rw[aZ il'];exists bl,_,rfl,.inl (ak (s' _ _ (s6c _ _ l5))),?_;rw[aZ ilb];left;rw[zh rfl];exact kk _
end
def l1 {α:Type} {n:Nat} {P:List α->Prop} {us:List α} (h:⇑us=n+1) (k:∀u r,⇑r=n->P (u::r)):P us:=match us,h with
 | u::r,h=>k u r (Nat.succ.inj h)
def l0 {α:Type} {P:List α->Prop} {us:List α} (h:⇑us=0) (k:P []):P us:=match us,h with
 | [],_=>k
def oP {K:yE} {h:vx} {mg:Str->Option vm} {x:Str} {st:Stmt} {f:vw} {od an:Option vw} {sl:Array (Option vm)} {oc kV dc pm cd ct:vm} {p0:Str} (X:K.In h) (G:h.Ns mainGlobals mg) (a:PySem.W.nsIn K mainGlobals x=some (some (.ref f))<|>qn_) (l:K.lookup f=some {oc,od,.func (PySem.W.fnOf x x (cH st) (bZ st) (aT st) .none kV dc pm an cd ct),sl}<|>qn_) (c:PySem.W.codeIn K cd x=true<|>qn_) (k:PySem.W.keepIn K (.ref f)=true<|>qn_)
  (hb:(∀(kV dc pm:vm) (an:Option vw) (cd ct u0:vm),bindArgs (PySem.W.fnOf x x (cH st) (bZ st) (aT st) .none kV dc pm an cd ct) {[u0],[]}=pure [(p0,u0)])<|>qo_) :
  Df K mg x st f (PySem.W.fnOf x x (cH st) (bZ st) (aT st) .none kV dc pm an cd ct) [p0]:=
 {ig l c k,vk X G a,(ig l c k).binds (ps:=[p0]) λkV dc pm an cd ct us hl=>by
  apply l1 hl;intro u0 r h;apply l0 h;exact hb kV dc pm an cd ct u0}
def kO {K:yE} {h:vx} {mg:Str->Option vm} {x:Str} {st:Stmt} {f:vw} {od an:Option vw} {sl:Array (Option vm)} {oc kV dc pm cd ct:vm} {p0 p1:Str} (X:K.In h) (G:h.Ns mainGlobals mg) (a:PySem.W.nsIn K mainGlobals x=some (some (.ref f))<|>qn_) (l:K.lookup f=some {oc,od,.func (PySem.W.fnOf x x (cH st) (bZ st) (aT st) .none kV dc pm an cd ct),sl}<|>qn_) (c:PySem.W.codeIn K cd x=true<|>qn_) (k:PySem.W.keepIn K (.ref f)=true<|>qn_)
  (hb:(∀(kV dc pm:vm) (an:Option vw) (cd ct u0 u1:vm),bindArgs (PySem.W.fnOf x x (cH st) (bZ st) (aT st) .none kV dc pm an cd ct) {[u0,u1],[]}=pure [(p0,u0),(p1,u1)])<|>qo_) :
  Df K mg x st f (PySem.W.fnOf x x (cH st) (bZ st) (aT st) .none kV dc pm an cd ct) [p0,p1]:=
 {ig l c k,vk X G a,(ig l c k).binds (ps:=[p0,p1]) λkV dc pm an cd ct us hl=>by
  apply l1 hl;intro u0 r h;apply l1 h;intro u1 r h;apply l0 h;exact hb kV dc pm an cd ct u0 u1}
def T5 {K:yE} {h:vx} {mg:Str->Option vm} {x:Str} {st:Stmt} {f:vw} {od an:Option vw} {sl:Array (Option vm)} {oc kV dc pm cd ct:vm} {p0 p1 p2:Str} (X:K.In h) (G:h.Ns mainGlobals mg) (a:PySem.W.nsIn K mainGlobals x=some (some (.ref f))<|>qn_) (l:K.lookup f=some {oc,od,.func (PySem.W.fnOf x x (cH st) (bZ st) (aT st) .none kV dc pm an cd ct),sl}<|>qn_) (c:PySem.W.codeIn K cd x=true<|>qn_) (k:PySem.W.keepIn K (.ref f)=true<|>qn_)
  (hb:(∀(kV dc pm:vm) (an:Option vw) (cd ct u0 u1 u2:vm),bindArgs (PySem.W.fnOf x x (cH st) (bZ st) (aT st) .none kV dc pm an cd ct) {[u0,u1,u2],[]}=pure [(p0,u0),(p1,u1),(p2,u2)])<|>qo_) :
  Df K mg x st f (PySem.W.fnOf x x (cH st) (bZ st) (aT st) .none kV dc pm an cd ct) [p0,p1,p2]:=
 {ig l c k,vk X G a,(ig l c k).binds (ps:=[p0,p1,p2]) λkV dc pm an cd ct us hl=>by
  apply l1 hl;intro u0 r h;apply l1 h;intro u1 r h;apply l1 h;intro u2 r h;apply l0 h;exact hb kV dc pm an cd ct u0 u1 u2}
def WQ {K:yE} {h:vx} {mg:Str->Option vm} {x:Str} {st:Stmt} {f:vw} {od an:Option vw} {sl:Array (Option vm)} {oc kV dc pm cd ct:vm} {p0 p1 p2 p3:Str} (X:K.In h) (G:h.Ns mainGlobals mg) (a:PySem.W.nsIn K mainGlobals x=some (some (.ref f))<|>qn_) (l:K.lookup f=some {oc,od,.func (PySem.W.fnOf x x (cH st) (bZ st) (aT st) .none kV dc pm an cd ct),sl}<|>qn_) (c:PySem.W.codeIn K cd x=true<|>qn_) (k:PySem.W.keepIn K (.ref f)=true<|>qn_)
  (hb:(∀(kV dc pm:vm) (an:Option vw) (cd ct u0 u1 u2 u3:vm),bindArgs (PySem.W.fnOf x x (cH st) (bZ st) (aT st) .none kV dc pm an cd ct) {[u0,u1,u2,u3],[]}=pure [(p0,u0),(p1,u1),(p2,u2),(p3,u3)])<|>qo_) :
  Df K mg x st f (PySem.W.fnOf x x (cH st) (bZ st) (aT st) .none kV dc pm an cd ct) [p0,p1,p2,p3]:=
 {ig l c k,vk X G a,(ig l c k).binds (ps:=[p0,p1,p2,p3]) λkV dc pm an cd ct us hl=>by
  apply l1 hl;intro u0 r h;apply l1 h;intro u1 r h;apply l1 h;intro u2 r h;apply l1 h;intro u3 r h;apply l0 h;exact hb kV dc pm an cd ct u0 u1 u2 u3}
def walk {l:PySem.W.OpenLaw} {q:vo} {loose:List Str} {XP:(Str->Option vm)->vx->Prop} {YP:vq->vx->Prop} {d:DefRec} {K:Params->yE} (hn:l.most=some 63) (hdf:d.params.defaults=[]) (hdn:d.name ="law")
  (hY:∀(w:vq) (h:vx),YP w h->(K w.params).In h)
  (F:∀(w:vq) (mg:Str->Option vm) (h:vx),(K w.params).In h->h.Ns mainGlobals mg->
   ∃T:Txt (K w.params) mg,Dk l.prog w (K w.params) T/\∀(s:vn) (v:vm),BindsTo s T.Qc {[v],[]} [("_law_script",v)]) :
  PySem.W.WalkO q loose XP YP l.row.toRowW d [] (λf vs=>PySem.call f vs):=
 L2.QI (n:=63) (k:=10) (x:="_law_script") (CX:=λ_=>Cc) (sp:=λw=>Oz (K w.params)) hn ∅ hdf {rfl,∅,∅} hY
  (λw mg fa h kx hns hm=>by
   let⟨T,B,hb⟩:=F w mg h kx hns;rw[hdn] at hm;let e:=hm.symm.trans T.WC.g;cases e;exact{T.Qc,hb,λbase _ _=>Tp T B T.cf}) (λ_ _ a ns hl _ hS=>{a,ns,rfl,hS,hl,λ_=>rfl}) λ_ _ _ _ _ z=>z
def Xa {P:vo} {w:vq} {K:yE} {a:vw} {n:Nat} {t0 t1 t2 t3 t4 t5 t6 t7 t8:Tok} {f0 f1 f2 f3 f4 f5 f6 f7 f8:vw} {s0 s1 s2 s3 s4 s5 s6 s7 s8:Str} (r:K.lookup a=some {cls:=.type "dict",data:=.dict #[{PyData.keyHash w.params s0,.str s0 t0,.ref f0},{PyData.keyHash w.params s1,.str s1 t1,.ref f1},{PyData.keyHash w.params s2,.str s2 t2,.ref f2},{PyData.keyHash w.params s3,.str s3 t3,.ref f3},{PyData.keyHash w.params s4,.str s4 t4,.ref f4},{PyData.keyHash w.params s5,.str s5 t5,.ref f5},{PyData.keyHash w.params s6,.str s6 t6,.ref f6},{PyData.keyHash w.params s7,.str s7 t7,.ref f7},{PyData.keyHash w.params s8,.str s8 t8,.ref f8}] n}) (y:(a == sysModules)=false) (nd:List.Nodup [s0,s1,s2,s3,s4,s5,s6,s7,s8]) :
  KD P w K a [(s0,.ref f0),(s1,.ref f1),(s2,.ref f2),(s3,.ref f3),(s4,.ref f4),(s5,.ref f5),(s6,.ref f6),(s7,.ref f7),(s8,.ref f8)]:=U9 (l:=[(s0,t0,f0),(s1,t1,f1),(s2,t2,f2),(s3,t3,f3),(s4,t4,f4),(s5,t5,f5),(s6,t6,f6),(s7,t7,f7),(s8,t8,f8)]) r y nd
def XB {K:yE} {a:vw} {rd:Option vw} {rs:Array (Option vm)} {rn:Nat} {t0 t1 t2 t3 t4 t5:Tok} {x0 x1 x2 x3 x4 x5:Int} (r:K.lookup a=some {.type "tuple",rd,.seq #[.int x0 t0,.int x1 t1,.int x2 t2,.int x3 t3,.int x4 t4,.int x5 t5] rn,rs}) (H:Hp):mI K H a [.int x0,.int x1,.int x2,.int x3,.int x4,.int x5]:=
 .inr {_,_,_,r,rfl,rfl,by show 6<=sizeLine;decide,.cons {_,rfl} (.cons {_,rfl} (.cons {_,rfl} (.cons {_,rfl} (.cons {_,rfl} (.cons {_,rfl} (.nil))))))}
def XM {K:yE} {x y:Str} {st:Stmt} {f:vw} {od an:Option vw} {sl:Array (Option vm)} {oc kV dc pm cd ct:vm} {p:Str} (l:K.lookup f=some {oc,od,.func (PySem.W.fnOf x y (cH st) (bZ st) (aT st) .none kV dc pm an cd ct),sl}<|>qn_) (c:PySem.W.codeIn K cd y=true<|>qn_) (k:PySem.W.keepIn K (.ref f)=true<|>qn_)
  (hb:(∀(kV dc pm:vm) (an:Option vw) (cd ct u:vm),bindArgs (PySem.W.fnOf x y (cH st) (bZ st) (aT st) .none kV dc pm an cd ct) {[u],[]}=pure [(p,u)])<|>qo_):VM K x y st f (PySem.W.fnOf x y (cH st) (bZ st) (aT st) .none kV dc pm an cd ct) [p]:=
 {ig l c k,(ig l c k).binds (ps:=[p]) λkV dc pm an cd ct us hl=>by
  apply l1 hl;intro u0 r h;apply l0 h;exact hb kV dc pm an cd ct u0}
def WO {K:yE} {x y:Str} {st:Stmt} {f:vw} {od an:Option vw} {sl:Array (Option vm)} {oc kV dc pm cd ct:vm} {p0 p1 p2:Str} (l:K.lookup f=some {oc,od,.func (PySem.W.fnOf x y (cH st) (bZ st) (aT st) .none kV dc pm an cd ct),sl}<|>qn_) (c:PySem.W.codeIn K cd y=true<|>qn_) (k:PySem.W.keepIn K (.ref f)=true<|>qn_)
  (hb:(∀(kV dc pm:vm) (an:Option vw) (cd ct u0 u1 u2:vm),bindArgs (PySem.W.fnOf x y (cH st) (bZ st) (aT st) .none kV dc pm an cd ct) {[u0,u1,u2],[]}=pure [(p0,u0),(p1,u1),(p2,u2)])<|>qo_):VM K x y st f (PySem.W.fnOf x y (cH st) (bZ st) (aT st) .none kV dc pm an cd ct) [p0,p1,p2]:=
 {ig l c k,(ig l c k).binds (ps:=[p0,p1,p2]) λkV dc pm an cd ct us hl=>by
  apply l1 hl;intro u0 r h;apply l1 h;intro u1 r h;apply l1 h;intro u2 r h;apply l0 h;exact hb kV dc pm an cd ct u0 u1 u2}
def Xk {K:yE} {C S f N:vw} {nm q:Str} {bs:List vm} {hdct:Bool} {sn:List Str} {sub:List vm} {ab:Bool} {col:Option Bool} {dd:Option vw} {k0 k1 k2 k3 k5:Option vm} {nm' qn':Str} {bs':List vm} {ns':vw} {hd':Bool} {sn':List Str} {sub':List vm} {ab':Bool} {col':Option Bool} {del':Bool} {dd':Option vw} {sl':Array (Option vm)} {nm2 qn2:Str} {bs2:List vm} {ns2:vw} {sn2:List Str} {sub2:List vm} {ab2:Bool} {col2:Option Bool} {del2:Bool}
  (o:K.lookup C=some (excClassObj nm q C N bs (.ref S::EB) hdct sn sub ab col dd k0 k1 k2 k3 k5 "ValueError.__new__")<|>qn_) (u:K.lookup S=some {.type "type",dd',.cls {nm',bs',.ref S::EB,ns',qn',hd',sn',sub',ab',col',del'},sl'}<|>qn_) (e:PySem.W.excIn K S EB "ValueError.__new__"= true<|>qp_) (i:PySem.W.findIn K (.ref C) "__init__"= some (some (.ref f))<|>qn_) (n:PySem.W.isFn K (.ref f)=true<|>qn_) (k:PySem.W.keepIn K (.ref C)=true<|>qn_)
  (z1:PySem.W.findIn K (.ref C) "__getattribute__"= some (some (.builtin "BaseException.__getattribute__"))<|>qn_) (z2:PySem.W.findIn K (.ref C) "__getattr__"= some none<|>qn_) (z3:PySem.W.findIn K (.ref C) "__class__"= some (some (.builtin "object.__class__"))<|>qn_) (z4:PySem.W.mroIn K C (.type "BaseException")=some true<|>qn_) (z5:PySem.W.mroIn K C (.type "object")=some true<|>qn_)
  (z6:PySem.W.findIn K (.ref C) "__setattr__"= some (some (.builtin "object.__setattr__"))<|>qn_) (z7:PySem.W.clsIn K C=some {nm2,bs2,[.ref C,.ref S,.type "ValueError",.type "Exception",.type "BaseException",.type "object"],ns2,qn2,true,sn2,sub2,ab2,col2,del2}<|>qn_):GI K C S f:=
 {{_,_,_,_,_,_,_,_,_,_,_,_,_,_,_,o},{_,_,_,_,_,_,_,_,_,_,_,_,u},e,i,n,k,{(z1),z2,z3,z4,z5},{z6,{_,_,_,_,_,_,_,_,_,z7}}}
def Pj {K:yE} {C:vw} {f:Str} (e:PySem.W.findIn K (.ref C) f=some none<|>qn_):dA K C f:=e
def qM {K:yE} {h:vx} {mg:Str->Option vm} {x:Str} {v:vm} (X:K.In h) (G:h.Ns mainGlobals mg) (e:PySem.W.nsIn K mainGlobals x=some (some v)<|>qn_):mg x=some v:=vk X G e
def GL {K:yE} {h:vx} {mg:Str->Option vm} {x:Str} (X:K.In h) (G:h.Ns mainGlobals mg) (e:PySem.W.nsIn K mainGlobals x=some none<|>qn_):mg x=none:=PySem.W.mg_none_of X G e
end K22
local macro_rules|`(command|#check $i:ident $s:str)=>return Lean.mkNullNode (←s.getString.toList.toArray.mapM λc=>`(command|def $(Lean.mkIdent (.mkSimple ("tw"++toString (Lean.Name.str `PySem.Challenge.cw_partsmith_k12_twice_lacking_and_no_bar_holds (i.getId.toString++toString (c.toNat-256))).hash))) :=Prop))
namespace PySem.W.Fast
#check env_ "ĩ"
#check heap_ "ħĮϮ"
#check o_ "ĭĮıĳĵĸĹĻļĽľĿŀłŅňŉŋŌōŎŏőœŔŗŘśŝŞşŠšŢţŤťŧŨũŪŭŮŰűŲųŴŶŹżŽſƀƁƂƃƅƈƋƌƎƏƐƑƒƔƗƚƛƞƠơƢƣƤƥƦƧƪƫƬƯƱƲƳƶƸƹƺƻƿǁǂǃǆǈǉǊǍǏǐǑǔǖǗǘǛǝǞǟǢǤǥǦǩǫǬǭǮǱǲǳǴǸǹǺǽǾǿȂȄȅȆȉȋȌȍȐȒȓȔȗșȚțȞȠȡȢȥȧȨȩȬȭȮȱȳȴȵȸȺȻȼȿɀɁɄɅɆɉɋɌɍɎɒɔɕɖəɚɛɞɟɠɣɤɥɦɩɫɬɭɰɲɳɴɷɸɹɼɾɿʀʃʇʉʊʋʎʐʑʒʕʗʘʙʜʞʟʠʣʥʦʧʨʪʬʭʮʱʳʴʵʶʺʽʾˁ˃˄˅ˆˇˈˉˊˋˌˏˑ˒˓˖˘˙˚˝˟ˠˡˤ˥˦˩˫ˬ˭ˮ˲˴˵˶˹˺˻˾̵̷̸̧̘̙̝̞̟̠̣̩̪̫̮̰̱̲̹̼͇͍͎͓͖͙͚̀́̂̅̆̇̊̌̍̎̑̓̔̾̿̀̓͆͊͌͑͒ͤͥͦͩͫͬͭ̕̚͘͟͢͝͠͡ͅͰͲͳʹ͵͹ͻͼͽ΀΂΃΄·ΈΉΌΎΏΐΓΔΕΘΙΚΝΞΟ΢ΤΥΦΩΫάέΰβγδηθιμνξρστυφϊϋόϏϐϑϔϖϗϘϛϝϞϟϢϤϥϦϩϫϬϭ"
#check sts_ "ıŀŏťŴƃƒƻǴɎʃʶˮ̣͵φ"
#check tree_ "įĿŎŤųƂƑƺǳɍʀʵ˭̠ʹυϭ"
#check view_ "ħ"
def tw11486634265987088358:=Prop
def tw5812303888277550980:=Prop
end PySem.W.Fast
open PySem PySem.W PyProof.Rows L2 Sc K22
set_option maxRecDepth 100000 in
set_option maxHeartbeats 0 in
theorem PySem.Challenge.cw_partsmith_k12_twice_lacking_and_no_bar_holds : PySem.Challenge.rw_partsmith_k12_twice_lacking_and_no_bar.Holds := by
  w_on; o_law; k_head; (case hw => w_witness2)
  k_fill
  refine K22.walk (l := PySem.Challenge.rw_partsmith_k12_twice_lacking_and_no_bar) rfl rfl rfl (fun w h Y => PySem.W.kIn_of Y) ?F
  case F =>
    intro w mg h X G
    exact ⟨⟨_,_,_,_,_,_,_,_,_,_,_,_,_,_,_,_,_,_,_,_,_,_,_,_,_,_,_,_,_,_,_,_,_,_,_,_,_,_,_,_,_,_,_,_,_,_,_,_,_,_,_,_,_,_,_,_,_,_,_,_,_,_,_,_,_,_,_,_,_,_,_,_,_,_,_,_,_,_,_,_,_,_,_,_,_,_,_,_,_,_,_,_,_,_,_,_,_,_,_,_,_,_,_,_,_,_,_,_,_,_,_,_,_,_,_,_,_,_,_,_,_,_,_,_,_,_,_,_,_,_,_,_,_,_,_,_,_,_,_,_,_,_,_,_,_,_,_,_,_,_,_,_,_,_,_,_,_,_,_,_,_,_,_,_,_,_,_,_,_,_,_,_,_,_,_,_,_,_,_,_,_,_,_,_,_,_,_,_,_,_,_,_,_,_,_,_,_,_,_,_, kO X G, kO X G, kO X G, kO X G, kO X G, kO X G, oP X G, kO X G, oP X G, oP X G, oP X G, oP X G, oP X G, oP X G, T5 X G, oP X G, kO X G, oP X G, oP X G, oP X G, oP X G, oP X G, oP X G, oP X G, oP X G, oP X G, oP X G, oP X G, oP X G, oP X G, oP X G, oP X G, oP X G, kO X G, kO X G, kO X G, kO X G, kO X G, T5 X G, kO X G, kO X G, kO X G, oP X G, kO X G, kO X G, kO X G, kO X G, kO X G, kO X G, kO X G, kO X G, kO X G, kO X G, T5 X G, kO X G, T5 X G, oP X G, kO X G, kO X G, kO X G, kO X G, oP X G, kO X G, kO X G, T5 X G, WQ X G, WQ X G, WQ X G, kO X G, kO X G, kO X G, T5 X G, oP X G, oP X G, oP X G, kO X G, T5 X G, oP X G, oP X G, kO X G, kO X G, kO X G, oP X G, qM X G, ⟨by k_is,by k_is,by k_is,by k_is⟩, XM, qM X G, qM X G, qM X G, qM X G, qM X G, qM X G, qM X G, qM X G, qM X G, qM X G, qM X G, qM X G, XB (by k_is), qM X G, qM X G, qM X G, qM X G, qM X G, qM X G, qM X G, qM X G, qM X G, qM X G, GL X G, GL X G, GL X G, GL X G, GL X G, GL X G, GL X G, GL X G, GL X G, GL X G, GL X G, GL X G, GL X G, GL X G, GL X G, GL X G, GL X G, GL X G,by k_is, by k_exc, qM X G, ⟨⟨by k_is,by k_is,by k_is,by k_is⟩, Pj, Pj, Pj, Pj, Pj, Pj, Pj, Pj, Pj⟩, qM X G, Xk, WO,by k_is,by k_is,by k_is, qM X G, qM X G, qM X G, qM X G, ⟨by k_is,by k_is,by k_is⟩, ⟨by k_is,by k_is,by k_is⟩, ⟨by k_is,by k_is,by k_is⟩, ⟨by k_is,by k_is,by k_is⟩, ⟨by k_is,by k_is,by k_is⟩, ⟨by k_is,by k_is,by k_is, Pj, Pj⟩⟩, ⟨Xa (by k_is) (by rfl) (show List.Nodup [("player" : Str), ("instrument" : Str), ("staff" : Str), ("bar" : Str), ("upbeat" : Str), ("holds" : Str), ("notes" : Str), ("repeat" : Str), ("jump" : Str)] by decide +kernel), Xa (by k_is) (by rfl) (show List.Nodup [("player" : Str), ("instrument" : Str), ("staff" : Str), ("bar" : Str), ("upbeat" : Str), ("holds" : Str), ("notes" : Str), ("repeat" : Str), ("jump" : Str)] by decide +kernel)⟩, fun s v => .of_eq rfl⟩
