import PyProof.Rows.All
import KE.KNestM
import Wide.FinOn
import PyProof.EqAt
import PyProof.EqKinds
import PyProof.TupleCall
import PyProof.ZipIter
import PyProof.WalksMore
import PyProof.CompFree
import PyProof.NeKinds
import KE.KRevIter
import PyProof.Rows.Range3
import KE.KIntText
import OpenK.KOwn
import PyProof.NsDelKeeps
import KE.KIsAll
import PyProof.CompMap
import PyProof.Cells
import PyProof.ConsumeWalk
import PyProof.SumWalk
import PyProof.Rows.SortShell
import PyProof.MeetsStr
import PyProof.StrOps2
import PyProof.DictWalks
import PyProof.Rows.SetFrom
import PyProof.SetRoads
import PyProof.ListRange
import PyProof.ListNew
import PySem.Challenge.RW_partsmith_k25_playing_refused
local macro_rules|`(tactic|omega)=>`(tactic|lia)
local macro_rules|`(tactic|ext)=>`(tactic|omega)
local macro_rules|`(())=>`(by omega)
local macro_rules|`(∅)=>`(by decide)
local macro_rules|`(↑$s)=>`(($s).heap.objs.size)
local macro_rules|`($a <|> $b)=>`(autoParam $a $b)
local macro_rules (kind:=«term{_}»)|`({$xs,*})=>`(⟨$xs,*⟩)
local macro_rules|`(⇑$x)=>`(($x).length)
def tpt:Nat->Lean.Term->Lean.MacroM (Lean.TSyntax `rcasesPat)
|0,_=>Lean.Macro.throwUnsupported
|n+1,p=>match p with
 |`(⟨$ps,*⟩)=>do let qs<-ps.getElems.mapM (tpt n);`(rcasesPat|⟨$[$qs],*⟩)
 |`($i:ident)=>`(rcasesPat|$i:ident)
 |_=>`(rcasesPat|_)
local macro_rules|`(tactic|let $d:letDecl)=>`(tactic|have $d:letDecl)
local macro_rules|`(tactic|let $p:term:=$v:term)=>do let q<-tpt 9 p;`(tactic|obtain $q:rcasesPat:=$v)
set_option compiler.extract_closed false
set_option Elab.async false
set_option linter.all false
set_option maxRecDepth 100000
set_option maxHeartbeats 8000000
def qa_1(h:True:=by first | exact .inl rfl | exact .inr rfl | assumption):=h
def qa_:=qa_1._auto_1
def qb_1(h:True:=by decide):=h
def qb_:=qb_1._auto_1
def qc_1(h:True:=by first | exact BX _ (by decide) (by decide) | rfl):=h
def qc_:=qc_1._auto_1
def qd_1(h:True:=by intro _;rfl):=h
def qd_:=qd_1._auto_1
def qe_1(h:True:=by rfl):=h
def qe_:=qe_1._auto_1
def qf_1(h:True:=by with_unfolding_all rfl):=h
def qf_:=qf_1._auto_1
def qg_1(h:True:=by first | exact Or.inl rfl | exact Or.inr (Or.inl rfl) | exact Or.inr (Or.inr rfl)):=h
def qg_:=qg_1._auto_1
def qh_1(h:True:=by repeat constructor):=h
def qh_:=qh_1._auto_1
def qi_1(h:True:=by first | exact Or.inl rfl | exact Or.inr rfl):=h
def qi_:=qi_1._auto_1
def qj_1(h:True:=by exact fun _ _=>rfl):=h
def qj_:=qj_1._auto_1
def qk_1(h:True:=by intro vs H Q E h;first | (obtain⟨_,rfl,_⟩:=h;rfl) | (cases h;subst_vars;rfl)):=h
def qk_:=qk_1._auto_1
def ql_1(h:True:=by decide +kernel):=h
def ql_:=ql_1._auto_1
def qm_1(h:True:=by repeat' (first | exact trivial | exact .inl rfl | exact rfl | constructor)):=h
def qm_:=qm_1._auto_1
def qn_1(h:True:=by k_is):=h
def qn_:=qn_1._auto_1
def qo_1(h:True:=by intros;rfl):=h
def qo_:=qo_1._auto_1
def za:=@List.length_map
def zd:=@List.getElem?_eq_getElem
def ze:=@decide_eq_false
def zg:=@decide_eq_true
def zh:=@List.length_append
def zj:=@List.map_cons
def zk:=@List.map_append
def zm:=@Nat.le_refl
def zp:=@List.mem_cons_of_mem
def zv:=@List.mem_cons_self
def zw:=@Int.emod_lt_of_pos
def zy:=@List.length_cons
def zA:=@Int.emod_nonneg
def zB:=@List.getElem?_eq_some_iff
def zC:=@List.mem_singleton
def zD:=@List.map_map
def zE:=@List.mem_of_getElem?
def zF:=@List.mem_cons
def zG:=@List.not_mem_nil
def zH:=@List.append_assoc
def zI:=@List.mem_append
def zJ:=@List.mem_map
def zK:=@List.mem_append_right
def zL:=@List.mem_append_left
def zM:=@List.getElem?_map
def zN:=@Bool.false_ne_true
def zO:=@Nat.le_trans
def zP:=@List.take_length
def zQ:=@Bool.and_eq_true
def zR:=@List.mem_map_of_mem
def zT:=@List.length_take
def zU:=@List.length_range
def zV:=@List.nodup_append
def zW:=@List.pairwise_append
def zX:=@List.append_nil
def zY:=@Int.ediv_nonneg
def zZ:=@Int.ediv_le_self
def z9:=@List.foldl_append
def ya:=@List.getElem?_append_right
def yb:=@List.flatten_cons
def yc:=@List.size_toArray
def yd:=@Nat.lt_of_lt_of_le
def ye:=@List.nodup_cons
def yf:=@of_decide_eq_true
def yg:=@Nat.lt_irrefl
def yh:=@Nat.zero_le
def yi:=@Nat.le_of_lt
def yj:=@Nat.ne_of_gt
def yk:=@Nat.ne_of_lt
def ym:=@Option.some.inj
def yn:=@List.getElem_mem
def yo:=@List.map_nil
def yp:=@List.any_eq_true
def yq:=@List.all_eq_true
def yr:=@List.lookup_cons
def yt:=@List.length_pos_iff
def yu:=@List.length_eq_zero_iff
def yv:=@PySem.wpAny_bind
def yw:=@PySem.Heap.get?_push_of_some
def yx:=@PySem.wpAny_pure
def yy:=@PySem.Heap.get?_push_size
def yz:=@PySem.Heap.lt_size
def yA:=@PySem.Heap.get?_update_other
abbrev yB:=PySem.W.Frag
def yC:=@PySem.sizeLine_eq
def yD:=@PySem.F.plainAttrs_list
def yE:=@PySem.F.type_list_append
def yF:=@PySem.F.slot_list_append
def yG:=@PySem.F.plainAttrs_str
def yH:=@PySem.F.type_str_join
def yI:=@PySem.F.slot_str_join
def yJ:=@PySem.F.type_str_split
def yK:=@PySem.F.slot_str_split
def yL:=@Int.eq_ofNat_of_zero_le
def yM:=@PyProof.Rows.callWith_type1
def yN:=@if_neg
def yO:=@if_pos
def yP:=@PySem.PassesOwn.never
def yQ:=@Array.length_toList
def yR:=@Int.le_refl
def yS:=@List.mem_range
def yT:=@List.find?_cons
def yU:=@Bool.false_and
def yV:=@or_false
def yW:=@Bool.true_and
def yX:=@List.zip_cons_cons
def yY:=@List.filter_append
def yZ:=@PySem.wpAny_callSpecial?_slot
def y6:=@congrArg
def y7:=@PySem.wpAny_field
def y8:=@PySem.F.type_list_extend
def y9:=@PySem.F.slot_list_extend
def xa:=@Int.le_of_lt
def xb:=@PySem.wpAny_call_entry
def xc:=@List.pairwise_cons
def xf:=@PySem.wpAny_newObj_type
def xg:=@PySem.wpAny_mono
def xh:=@List.flatten_append
def xi:=@PySem.wpAny_truthy_bool
def xj:=@List.length_filter_le
def xk:=@Array.getElem?_toList
def xm:=@PySem.Heap.size_push
def xn:=@Option.map_some
def xo:=@List.length_nil
def xq:=@PySem.wpAny_Call_Name_kw
def xt:=@List.any_cons
def xu:=@PySem.wpAny_seqItems
def xw:=@List.take_add_one
def xx:=@List.take_of_length_le
def xy:=@List.map_congr_left
def xA:=@Int.mul_pos
def xB:=@List.length_zip
def xC:=@List.length_drop
def xD:=@Int.mul_comm
def xE:=@decide_eq_true_eq
def xF:=@beq_eq_false_iff_ne
def xG:=@Nat.lt_trans
def xH:=@Nat.lt_or_ge
def xI:=@PySem.wpAny_holding
def xJ:=@PySem.wpAny_setField_rec
def xK:=@PySem.F.slot_zip_next
def xM:=@Bool.eq_iff_iff
def xN:=@Option.some.injEq
def xO:=@PyProof.Rows.slot_tuple_getitem
def xP:=@Nat.lt_succ_self
def xQ:=@PyProof.Rows.part_short
def xR:=@PySem.wpAny_typeNameOfWhole_keyiter
def xS:=@PySem.codeAny_mono
def xT:=@List.find?_eq_none
def xU:=@PySem.wpAny_passesOwn
def xV:=@PySem.codeAny_builtin
def xW:=@List.dropLast_concat_getLast
def xX:=@PySem.F.slot_dict_keyiterator_next
def xY:=@PySem.Paired.length
def xZ:=@Int.toNat_natCast
def x6:=@Nat.le_succ
def x8:=@List.nodup_nil
def x9:=@Int.mul_nonneg
def wa:=@Int.mul_le_mul
def wc:=@PySem.F.slot_tuple_iterator_next
def wd:=@List.all_map
def wg:=@beq_self_eq_true
def wj:=@List.mem_flatten
def wk:=@List.getLast?_eq_getElem?
def wm:=@List.getElem?_append_left
def wq:=@PySem.mem_of_lookup
def wt:=@if_false
def wu:=@PySem.wpAny_typeNameOf_keyiter
def wx:=@PySem.wpAny_execs_nil
def wy:=@List.of_mem_zip
def wz:=@List.mem_filter
def wA:=@PySem.call_meets
def wB:=@PySem.tupleKind_room_in1
def wC:=@List.lookup_append
def wD:=@PySem.Calls.spliced_cons
def wF:=@List.any_map
def wG:=@Nat.mul_le_mul
def wH:=@List.take_zero
def wI:=@Bool.and_false
def wJ:=@PySem.wpAny_pyIter_list
def wK:=@Nat.lt_succ_of_lt
def wL:=@Int.mul_left_comm
def wM:=@PySem.Calls.callWith_builtin
def wN:=@List.getElem?_eq_none
def wO:=@PySem.typeIs_str
def wQ:=@List.cons_append
def wR:=@Int.mul_le_mul_of_nonneg_right
def wU:=@PySem.wpAny_attempt
def wV:=@List.sum_cons
def wW:=@List.all_cons
def wX:=@Int.mul_assoc
def wY:=@Sum.inr.inj
def wZ:=@List.mem_of_getLast?
def w6:=@PySem.W.hideAll_get
def w9:=@List.take_succ_cons
def vc:=@List.filterMap_cons
def vd:=@PySem.Heap.SameBut.update
def vf:=@if_true
def vg:=@PySem.wpAny_typeOf
def vh:=@beq_iff_eq
def vi:=@Nat.mod_lt
def vj:=@PySem.W.callWith_K
def vk:=@PySem.Obj.data_mapFields
def vm:=@List.mem_filterMap
def vn:=@Int.fdiv_eq_ediv_of_nonneg
def vo:=@List.any_eq_false
def vq:=@PySem.Calls.spliced_nil
def vt:=@PySem.W.mg_of
abbrev vv:=PySem.Value
abbrev vw:=PySem.Shared
abbrev vz:=PySem.Program
abbrev vA:=PySem.World
abbrev vB:=PySem.Around
abbrev vC:=PySem.FuncData
abbrev vD:=PySem.Addr
abbrev vE:=PySem.Heap
namespace L2
open PySem PySem.Spec PyProof.Rows
abbrev Key:=Sum Int Str
noncomputable def ET:Key->vv->Bool
 | .inl k,v=>Value.isInt k v
 | .inr x,v=>Value.isStrOf x v
noncomputable def WT (w:vA):Key->Int
 | .inl k=>hashInt k
 | .inr x=>hashStr w x
def dA:∀{k:Key} {v:vv},ET k v=true->(∃i t,k=Sum.inl i/\v=Value.int i t)\/(∃x t,k=Sum.inr x/\v=Value.str x t)
 | .inl i,v,h=>by
  let⟨t,e⟩:=Value.isInt_shape (k:=i) (v:=v) h;exact .inl {(i),t,rfl,e}
 | .inr x,v,h=>by
  let⟨t,e⟩:=Value.isStrOf_shape (x:=x) (v:=v) h;exact .inr {(x),t,rfl,e}
def Nf (i:Int) (t:Tok):ET (.inl i) (.int i t)=true:=by simp[ET,Value.isInt]
def oO (x:Str) (t:Tok):ET (.inr x) (.str x t)=true:=by simp[ET,Value.isStrOf]
def T3 (a b:Int):decide ((Sum.inl a:Key)=Sum.inl b)=(a == b):=by
 by_cases e:a=b
 ·subst e;simp
 ·let h:¬(Sum.inl a:Key)=Sum.inl b:=λq=>e (Sum.inl.inj q)
  rw[ze h];exact(xF.mpr e).symm
def TX (a b:Str):decide ((Sum.inr a:Key)=Sum.inr b)=decide (a=b):=by
 by_cases e:a=b
 ·subst e;simp
 ·let h:¬(Sum.inr a:Key)=Sum.inr b:=λq=>e (wY q)
  rw[ze h,ze e]
def TZ (a:Int) (b:Str):decide ((Sum.inl a:Key)=Sum.inr b)=false:=ze (λq=>nomatch q)
def TY (a:Str) (b:Int):decide ((Sum.inr a:Key)=Sum.inl b)=false:=ze (λq=>nomatch q)
noncomputable def dt (prog:vz) (w:vA):PySem.KeyKind prog w Key where
 is:=ET
 hash:=WT w
 inj:=λv a b ha hb=>by
  rcases dA ha with⟨i,t,rfl,rfl⟩ | ⟨x,t,rfl,rfl⟩
  ·rcases dA hb with⟨j,u,rfl,e⟩ | ⟨y,u,rfl,e⟩
   ·injection e with e1 _;rw[e1]
   ·exact nomatch e
  ·rcases dA hb with⟨j,u,rfl,e⟩ | ⟨y,u,rfl,e⟩
   ·exact nomatch e
   ·injection e with e1 _;rw[e1]
 byValue:=λk v h=>by
  rcases dA h with⟨i,t,rfl,rfl⟩ | ⟨x,t,rfl,rfl⟩ <;> rfl
 pyHash:=λhv h=>by
  rcases dA hv with⟨i,t,rfl,rfl⟩ | ⟨x,t,rfl,rfl⟩
  ·exact wpAny_pyHash_int h
  ·exact wpAny_pyHash_str h
 eqBool:=λhu hv h=>by
  rcases dA hu with⟨i,t,rfl,rfl⟩ | ⟨x,t,rfl,rfl⟩
  ·rcases dA hv with⟨j,u,rfl,rfl⟩ | ⟨y,u,rfl,rfl⟩
   ·rw[T3] at h;exact wpAny_eqBool_int h
   ·rw[TZ] at h;exact SeqAt.EqAt.int_str i t y u _ _ _ _ h
  ·rcases dA hv with⟨j,u,rfl,rfl⟩ | ⟨y,u,rfl,rfl⟩
   ·rw[TY] at h;exact SeqAt.EqAt.str_int x t j u _ _ _ _ h
   ·rw[TX] at h;exact wpAny_eqBool_str h
 «strs»:=λk x t v h=>by
  rcases dA h with⟨i,u,rfl,e⟩ | ⟨y,u,rfl,e⟩
  ·exact nomatch e
  ·injection e with e1 _
   subst e1;cases v <;> rfl
def IK (prog:vz) (w:vA) (i:Int) (t:Tok):(dt prog w).is (.inl i) (.int i t)=true:=Nf i t
def uS (prog:vz) (w:vA) (x:Str) (t:Tok):(dt prog w).is (.inr x) (.str x t)=true:=oO x t
end L2
namespace L2
open PySem PySem.Spec PyProof.Rows
inductive V where
 | bT | bl (b:Bool) | int (i:Int) | str (x:Str) | NK (b:Array UInt8) | Vs (b:UInt64) | ref (a:vD) | ty (n:String)
 deriving DecidableEq
def RelV:V->vv->Prop
 | .bT,u=>u=Value.none
 | .bl b,u=>u=Value.bool b
 | .int i,u=>∃t,u=Value.int i t
 | .str x,u=>∃t,u=Value.str x t
 | .NK b,u=>∃t,u=Value.bytes b t
 | .Vs b,u=>∃t,u=Value.float b t
 | .ref a,u=>u=Value.ref a
 | .ty n,u=>u=Value.type n
abbrev Vals:List V->List vv->Prop:=Paired RelV
theorem Vals.length (r:Vals xs us):⇑xs=⇑us:=xY r
theorem Vals.get:∀{xs:List V} {us:List vv} {i:Nat} {x:V},Vals xs us->xs[i]?=some x->∃u,us[i]?=some u/\RelV x u
 | _,_,_,_,.nil,e=>by simp at e
 | _,_,0,_,.cons r _,e=>by simp at e;subst e;exact{_,rfl,r}
 | _,_,i+1,x,.cons _ t,e=>by
  let⟨u,h1,h2⟩:=Vals.get (i:=i) (x:=x) t (by simpa using e);exact{u,by simpa using h1,h2}
theorem Vals.append:∀{xs ys:List V} {us ws:List vv},Vals xs us->Vals ys ws->Vals (xs++ys) (us++ws)
 | _,_,_,_,.nil,s=>s
 | _,_,_,_,.cons r t,s=>.cons r (Vals.append t s)
theorem Vals.take:∀{xs:List V} {us:List vv} (n:Nat),Vals xs us->Vals (xs.take n) (us.take n)
 | _,_,0,_=>.nil
 | _,_,_+1,.nil=>.nil
 | _,_,n+1,.cons r t=>.cons r (Vals.take n t)
theorem Vals.drop:∀{xs:List V} {us:List vv} (n:Nat),Vals xs us->Vals (xs.drop n) (us.drop n)
 | _,_,0,r=>r
 | _,_,_+1,.nil=>.nil
 | _,_,n+1,.cons _ t=>Vals.drop n t
def mw:Option V->Option vv->Prop
 | some v,some u=>RelV v u
 | none,none=>True
 | _,_=>False
def KV:List (κ×V)->List (κ×vv)->Prop:=Paired λ(p:κ×V) (q:κ×vv)=>p.1=q.1/\RelV p.2 q.2
noncomputable def kV:Key->V
 | .inl i=>.int i
 | .inr x=>.str x
inductive HO where
 | lst (xs:List V)
 | tup (xs:List V)
 | dK (kvs:List (Key×V)) | dT (kvs:List (List Key×V))
 | set (S:Int->Bool) (n:Nat)
 | ins (C dx:vD) (fs:List (Str×V))
 | own (x:vD)
 | xd (fs:List (Str×V))
 | met (f x:vD)
 | MT (lo hi:Int)
 | qS (o:Obj) (u:HO)
 | Ol (ps:Array vv)
 | ext (φ:vE->Prop)
abbrev Hp:=vD->Option HO
noncomputable def upd (H:Hp) (a:vD) (o:HO):Hp:=λb=>if b=a then some o else H b
def aF:upd H a o a=some o:=by unfold upd;rw[yO rfl]
def aE (h:b≠a):upd H a o b=H b:=by unfold upd;rw[yN h]
def bw {H:Hp} {a b:vD} {o u:HO} (h:H a=some o) (h':H b=some u) (d:o≠u):a≠b:=by
 intro e;subst e;rw[h] at h';exact d (ym h')
def bD {H:Hp} {a b:vD} {o:HO} (h:H a=some o) (h':H b=none):a≠b:=by
 intro e;subst e;rw[h] at h';cases h'
section
variable (P:vz) (w:vA)
def df (H:Hp) (h:vE) (a:vD):HO->Prop
 | .lst xs=>⇑xs<=sizeLine/\∃(its:List vv) (n:Nat),Vals xs its/\h.get? a=some {cls:=.type "list",data:=.seq its.toArray n}
 | .tup xs=>⇑xs<=sizeLine/\∃its:List vv,Vals xs its/\IsTup h a its.toArray
 | .dK kvs=>⇑kvs<=sizeLine/\(a == sysModules)=false/\∃vs,KV kvs vs/\h.DictOf (dt P w) a vs
 | .dT kvs=>⇑kvs<=sizeLine/\(a == sysModules)=false/\∃xs:List (List Key×vD×vv),
   Paired (λ(p:List Key×V) (q:List Key×vD×vv)=>p.1=q.1/\H q.2.1=some (.tup (p.1.map kV))/\RelV p.2 q.2.2) kvs xs/\
   ∃o es ep,h.get? a=some o/\o.ExactDict/\o.data=.dict es ep/\es.toList=xs.map (entryOfKey (tupleKind (dt P w)))/\(xs.map (·.1)).Nodup
 | .set S n=>h.SetOf (intKind P w) a S n
 | .ins C dx fs=>H dx=some (.own a)/\⇑fs<=1000/\dx≠a/\h.get? a=some (PySem.W.instObj C dx)/\
   ∃mA,h.Ns1 dx mA/\(∀f,mw (fs.lookup f) (mA f))/\PySem.Within mA (fs.map (·.1))
 | .own _=>∃o,h.get? a=some o
 | .xd fs=>∃mA,h.Ns1 a mA/\∀f,mw (fs.lookup f) (mA f)
 | .MT lo hi=>∃t u v,h.get? a=some {cls:=.type "range",data:=.fields #[.int lo t,.int hi u,.int 1 v]}
 | .qS o u=>h.get? a=some o/\df H h a u
 | .Ol ps=>h.get? a=some {cls:=.none,data:=.fields ps}
 | .met f x=>h.get? a=some (PySem.W.methodObj (.ref f) (.ref x))
 | .ext φ=>φ h/\(∃o,h.get? a=some o)/\∀h1 h2:vE,φ h1->(∀o,h1.get? a=some o->h2.get? a=some o)->φ h2
def pB (H:Hp) (h:vE):Prop:=∀a o,H a=some o->df P w H h a o
end
section
variable {P:vz} {w:vA} {H H':Hp} {h h':vE} {a:vD} {o:HO}
theorem df.lt (x:df P w H h a o):a<h.objs.size:=by
 cases o with
 | lst xs=>let⟨_,_,_,_,e⟩:=x;exact yz e
 | tup xs=>let⟨_,_,_,p⟩:=x;exact p.lt
 | dK kvs=>let⟨_,_,_,_,o,_,_,e,_⟩:=x;exact yz e
 | dT kvs=>let⟨_,_,_,_,o,_,_,e,_⟩:=x;exact yz e
 | set S n=>let⟨o,_,_,_,e,_⟩:=x;exact yz e
 | ins C dx fs=>let⟨_,_,_,e,_⟩:=x;exact yz e
 | own y=>let⟨_,e⟩:=x;exact yz e
 | xd fs=>let⟨_,⟨_,_,_,e,_⟩,_⟩:=x;exact yz e
 | MT lo hi=>let⟨_,_,_,e⟩:=x;exact yz e
 | qS ob u=>let⟨e,_⟩:=x;exact yz e
 | Ol ps=>exact yz (show h.get? a=some _ from x)
 | met f y=>exact yz (show h.get? a=some _ from x)
 | ext φ=>let⟨_,⟨_,e⟩,_⟩:=x;exact yz e
theorem Paired.TM:∀{l₁:List α} {l₂:List β},Paired F l₁ l₂->(∀a b,F a b->G a b)->Paired G l₁ l₂
 | _,_,.nil,_=>.nil
 | _,_,.cons r t,f=>.cons (f _ _ r) (Paired.TM t f)
def df.kg (x:df P w H h a o) (k:∀b u,(b=a\/H b=some (.own a))->h.get? b=some u->h'.get? b=some u)
  (ho:∀b,H b=some (.own a)->H' b=some (.own a)) (ht:∀b xs,H b=some (.tup xs)->H' b=some (.tup xs)):df P w H' h' a o:=by
 induction o with
 | lst xs=>let⟨z,its,n,r,e⟩:=x;exact{z,its,n,r,k _ _ (.inl rfl) e}
 | tup xs=>let⟨z,its,r,ob,e,c⟩:=x;exact{z,its,r,ob,k _ _ (.inl rfl) e,c}
 | dK kvs=>let⟨z,y,vs,r,ob,es,ep,e,c⟩:=x;exact{z,y,vs,r,ob,es,ep,k _ _ (.inl rfl) e,c}
 | dT kvs=>
  let⟨z,y,xs,r,ob,es,ep,e,c⟩:=x;exact{z,y,xs,Paired.TM r λp q z=>{z.1,ht _ _ z.2.1,z.2.2},ob,es,ep,k _ _ (.inl rfl) e,c}
 | set S n=>let⟨ob,es,ep,t,e,c⟩:=x;exact{ob,es,ep,t,k _ _ (.inl rfl) e,c}
 | ins C dx fs=>
  let⟨d,z,ne,e,mA,⟨od,es,ep,e2,c⟩,r⟩:=x;exact{ho _ d,z,ne,k _ _ (.inl rfl) e,mA,{od,es,ep,k _ _ (.inr d) e2,c},r}
 | own y=>let⟨ob,e⟩:=x;exact{ob,k _ _ (.inl rfl) e}
 | xd fs=>let⟨mA,⟨od,es,ep,e,c⟩,r⟩:=x;exact{mA,{od,es,ep,k _ _ (.inl rfl) e,c},r}
 | MT lo hi=>let⟨t,u,v,e⟩:=x;exact{t,u,v,k _ _ (.inl rfl) e}
 | qS ob u ih=>let⟨e,q⟩:=x;exact{k _ _ (.inl rfl) e,ih q}
 | Ol ps=>
  let e:h.get? a=some {cls:=.none,data:=.fields ps}:=x;show h'.get? a=some {cls:=.none,data:=.fields ps};exact k a _ (.inl rfl) e
 | met f y=>
  let e:h.get? a=some (PySem.W.methodObj (.ref f) (.ref y)):=x;show h'.get? a=some (PySem.W.methodObj (.ref f) (.ref y));exact k a _ (.inl rfl) e
 | ext φ=>let⟨p,⟨o,e⟩,st⟩:=x;exact{st _ _ p λo q=>k _ _ (.inl rfl) q,{o,k _ _ (.inl rfl) e},st}
theorem pB.lt (x:pB P w H h) (e:H a=some o):a<h.objs.size:=(x a o e).lt
def pB.fresh (x:pB P w H h) (e:h.objs.size<=a):H a=none:=by
 cases q:H a with
 | none=>rfl
 | some u=>exact absurd (yd (x.lt q) e) (yg _)
def pB.kept (x:pB P w H h) (k:∀b u,h.get? b=some u->h'.get? b=some u):pB P w H h':=λa o e=>
 (x a o e).kg (λb u _ q=>k b u q) (λ_ q=>q) λ_ _ q=>q
def pB.laid (x:pB P w H h) (k:∀b u,h.get? b=some u->h'.get? b=some u) (hp:h.objs.size<=a) (new:df P w (upd H a o) h' a o):pB P w (upd H a o) h':=λb u e=>by
 let hn:=x.fresh hp
 by_cases hb:b=a
 ·subst hb;rw[aF] at e;cases e;exact new
 ·rw[aE hb] at e
  exact(x b u e).kg (λc v _ q=>k c v q) (λc q=>by rw[aE (bD q hn)];exact q) λc xs q=>by rw[aE (bD q hn)];exact q
end
def Rd (H:Hp) (a:vD) (u:HO):Prop:=H a=some u\/∃o,H a=some (.qS o u)
def Rd.ok (r:Rd H a u) (x:pB P w H h):df P w H h a u:=by
 rcases r with r | ⟨o,r⟩
 ·exact x a u r
 ·let⟨_,q⟩:=x a _ r
  exact q
def VH:Option HO->Prop
 | some (.lst _)=>True
 | some (.dK _)=>True
 | some (.dT _)=>True
 | some (.set _ _)=>True
 | some (.ins _ _ _)=>True
 | some (.ext _)=>True
 | _=>False
section
variable {P:vz} {w:vA} {H:Hp} {h h':vE} {x e:vD} {o':HO}
def pB.write (ok:pB P w H h) (mu:VH (H x)) (he:e=x\/H e=some (.own x)) (k:∀b u,b≠e->h.get? b=some u->h'.get? b=some u) (heo:∃u,h'.get? e=some u)
  (new:df P w (upd H x o') h' x o'):pB P w (upd H x o') h':=λb u q=>by
 let nown:∀c y,H c=some (.own y)->c≠x:=λc y r z=>by subst z;rw[r] at mu;exact mu
 let ntup:∀c xs,H c=some (.tup xs)->c≠x:=λc xs r z=>by subst z;rw[r] at mu;exact mu
 by_cases hb:b=x
 ·subst hb;rw[aF] at q;cases q;exact new
 ·rw[aE hb] at q
  by_cases hbe:b=e
  ·let q':H b=some (.own x):=by
    rcases he with z | z
    ·exact absurd (hbe.trans z) hb
    ·rw[hbe];exact z
   rw[q] at q';cases q';let⟨v,hv⟩:=heo;exact{v,by rw[hbe];exact hv}
  ·refine(ok b u q).kg (λc v hc r=>k c v ?_ r) (λc r=>by rw[aE (nown c b r)];exact r) λc xs r=>by rw[aE (ntup c xs r)];exact r
   rcases hc with rfl | hc
   ·exact hbe
   ·rintro rfl
    rcases he with z | z
    ·exact nown c b hc z
    ·rw[hc] at z;cases z;exact hb rfl
end
structure Un (fs ex:List vD) (H H':Hp) (h h':vE):Prop where
 keep:∀b o,h.get? b=some o->H b=none->b∉fs->b∉ex->h'.get? b=some o
 slot:∀b o,h.get? b=some o->H b=none->b∈fs->b∉ex->∃sl,h'.get? b=some {o with slots:=sl}
 free:∀b o,h.get? b=some o->H b=none->b∉ex->H' b=none
 there:∀b o,h.get? b=some o->b∉ex->∃o',h'.get? b=some o'
 lB:∀b xs,H b=some (.tup xs)->H' b=some (.tup xs)
 kA:∀b o u,H b=some (.qS o u)->H' b=some (.qS o u)
 lC:∀b ps,H b=some (.Ol ps)->∃more,H' b=some (.Ol (ps++more))
section
variable {fs fs' ex ex':List vD} {H H1 H2:Hp} {h h1 h2 h':vE} {a x e:vD} {o:HO}
def Un.any (u:Un fs ex H H1 h h1) (q:h.get? b=some ob) (n:H b=none) (hx:b∉ex):∃sl,h1.get? b=some {ob with slots:=sl}:=by
 by_cases hb:b∈fs
 ·exact u.slot b ob q n hb hx
 ·exact{ob.slots,u.keep b ob q n hb hx}
def Un.kept (k:∀b u,h.get? b=some u->h'.get? b=some u):Un fs ex H H h h':=
 {λb ob q _ _ _=>k b ob q,λb ob q _ _ _=>{ob.slots,k b ob q},λ_ _ _ n _=>n,λb ob q _=>{ob,k b ob q},λ_ _ q=>q,λ_ _ _ q=>q,λ_ ps q=>{#[],by rw[q];simp}}
def Un.refl:Un fs ex H H h h:=Un.kept λ_ _ q=>q
def Un.laid (k:∀b u,h.get? b=some u->h'.get? b=some u) (hp:h.objs.size<=a) (hn:H a=none):Un fs ex H (upd H a o) h h' where
 keep:=λb u q _ _ _=>k b u q
 slot:=λb u q _ _ _=>{u.slots,k b u q}
 free:=λb u q n _=>by rw[aE (yk (yd (yz q) hp))];exact n
 there:=λb u q _=>{u,k b u q}
 lB:=λb xs q=>by rw[aE (bD q hn)];exact q
 kA:=λb u xs q=>by rw[aE (bD q hn)];exact q
 lC:=λb ps q=>{#[],by rw[aE (bD q hn),q];simp}
def Un.write (mu:VH (H x)) (he:e=x\/H e=some (.own x)) (k:∀b u,b≠e->h.get? b=some u->h'.get? b=some u) (heo:∃u,h'.get? e=some u):Un fs ex H (upd H x o) h h':=by
 let hx:∀b,H b=none->b≠x:=λb n z=>by subst z;rw[n] at mu;exact mu
 let hb:∀b,H b=none->b≠e:=λb n z=>by
  subst z;rcases he with r | r
  ·exact hx b n r
  ·rw[n] at r;cases r
 let hm:∀b u,H b=some u->¬VH (some u)->b≠x:=λb u q nm z=>by subst z;rw[q] at mu;exact nm mu
 refine{λb u q n _ _=>k b u (hb b n) q,λb u q n _ _=>{u.slots,k b u (hb b n) q},λb u q n _=>by rw[aE (hx b n)];exact n,λb u q _=>?_,
  λb xs q=>by rw[aE (hm b _ q λz=>z)];exact q,λb u xs q=>by rw[aE (hm b _ q λz=>z)];exact q,λb ps q=>{#[],by rw[aE (hm b _ q λz=>z),q];simp}}
 by_cases hbe:b=e
 ·subst hbe;exact heo
 ·exact{u,k b u hbe q}
end
noncomputable def VU (h:vE) (H:Hp):List vD:=(List.range h.objs.size).filter λa=>(H a).isSome
noncomputable def Gr (h:vE) (H:Hp):vE:=PySem.W.hideAll h (VU h H)
def Nj (h:vE) (H:Hp):(Gr h H).objs.size=h.objs.size:=PySem.W.hideAll_size _ _
def PN (e:h.get? b=some o) (n:H b=none):(Gr h H).get? b=some o:=
 w6 _ e λhm=>by
  let q:(H b).isSome=true:=(wz.mp hm).2;rw[n] at q;simp at q
def Rq (e:(Gr h H).get? b=some o):h.get? b=some o/\H b=none:=by
 let e':h.get? b=some o:=PySem.W.of_hideAll (VU h H) e;refine{e',?_};cases q:H b with
 | none=>rfl
 | some x=>
  let hm:b∈VU h H:=wz.mpr {yS.mpr (yz e'),by simp[q]};let z:(Gr h H).get? b=none:=PySem.W.hideAll_none (VU h H) hm;rw[z] at e;cases e
end L2
namespace L2
open PySem PySem.Spec PyProof.Rows
structure Mod (K:yB) (mg:Str->Option vv) (base:vE):Prop where
 TV:K.In base
 glob:base.Ns mainGlobals mg
 blt:∃mb,base.Ns builtinsNs mb/\∀x:Str,x≠ "__name__"->mb x=bootBuiltins x
 nolimit:base.NoLimit
set_option genInjectivity false in
structure Cx where
 prog:vz
 w:vA
 K:yB
 mg:Str->Option vv
 base:vE
 A:vB
 N:List Str
 s₀:vw
 H₀:Hp
 env:Env
 outer:List Env
 stack:List Env
 ex:List vD
 fn:Str->Bool
 calm:Bool
 pn:List (vD×Obj)
 xe:vv->vw->Prop
noncomputable def kB (l:List Env):List vD:=l.filterMap (·.frame)
noncomputable abbrev Cx.fs (X:Cx):List vD:=kB X.outer
def Sw (sc:Scope) (x:Str):Prop:=sc.names.lookup x=some .local\/sc.names.lookup x=some .cell\/sc.names.lookup x=some .free
def Loc (sc:Scope) (x:Str):Prop:=sc.names.lookup x=some .local\/sc.names.lookup x=some .cell
def Look (env:Env) (h:vE) (m:Str->Option vv) (x:Str) (u:vv):Prop:=
 (env.kindOf x=some .local/\m x=some u)\/((env.kindOf x=some .cell\/env.kindOf x=some .free)/\∃c,env.cells.lookup x=some c/\h.IsCell c (some u))
structure Cx.Ok (X:Cx):Prop where
 mod:Mod X.K X.mg X.base
 kind:X.env.scope.kind=.function
 glob:X.env.globals=mainGlobals
 blt:X.env.builtins=builtinsNs
 above:X.s₀.heap.objs.size<=X.env.locals
 inj:∀x y c,X.env.cells.lookup x=some c->X.env.cells.lookup y=some c->x=y
 has:∀x,(X.env.kindOf x=some .cell\/X.env.kindOf x=some .free)->∃c,X.env.cells.lookup x=some c
 RS:∀x c,X.fn x=true->X.env.cells.lookup x=some c->X.s₀.heap.objs.size<=c
 hd:X.calm=true->X.A.handled=none
 frames:X.A.frames=some X.stack
 Sa:X.stack=X.outer\/(X.stack=X.env::X.outer/\X.env.frame=some X.env.locals)
 UH:∀b∈X.ex,b≠X.env.locals/\∀x c,X.env.cells.lookup x=some c->c≠b
 bs:∀b o,X.base.get? b=some o->X.s₀.heap.get? b=some o/\X.H₀ b=none
 Mq:X.base.objs.size<=X.s₀.heap.objs.size
 jN:∀b o,X.base.get? b=some o->b∉X.ex
 Gs:∀b∈X.ex,b∉X.fs
 l6:X.s₀.heap.FunFrames X.base X.outer
 DS:∀b∈X.fs,X.H₀ b=none
structure Inv (X:Cx) (pins:List (vD×Obj)) (U:List (Option V)) (H:Hp) (s:vw):Prop where
 ok:X.Ok
 os:s.os=X.s₀.os
 bare:AllBare s.gens
 base:Un X.fs X.ex X.H₀ H X.s₀.heap s.heap
 loc:∃m,s.heap.Ns X.env.locals m/\∀(i:Nat) (x:Str) (v:V),X.N[i]?=some x->U[i]?=some (some v)->Sw X.env.scope x->∃u,RelV v u/\Look X.env s.heap m x u
 cell:∀x c,X.env.cells.lookup x=some c->∃v,s.heap.IsCell c v
 free:H X.env.locals=none
 ic:∀x c,X.env.cells.lookup x=some c->H c=none
 pin:∀p∈X.pn++pins,s.heap.get? p.1=some p.2/\H p.1=none/\p.1≠X.env.locals/\p.1∉X.fs/\∀v,p.2.data≠.cell v
 cB:pB X.prog X.w H s.heap
 len:U.length=⇑X.N
section
variable {X:Cx} {pins:List (vD×Obj)} {U:List (Option V)} {H H':Hp} {s:vw} {h':vE}
def Cx.Ok.WR (ok:X.Ok) (e:X.base.get? b=some o):b∉X.fs:=λhb=>by
 have:=(ok.l6.mem hb).1;rw[e] at this;cases this
theorem Inv.bs (I:Inv X pins U H s):∀b o,X.base.get? b=some o->s.heap.get? b=some o/\H b=none:=λb o e=>
 {I.base.keep b o (I.ok.bs b o e).1 (I.ok.bs b o e).2 (I.ok.WR e) (I.ok.jN b o e),I.base.free b o (I.ok.bs b o e).1 (I.ok.bs b o e).2 (I.ok.jN b o e)}
def Inv.bk (I:Inv X pins U H s):∀b o,X.base.get? b=some o->s.heap.get? b=some o:=λb o e=>(I.bs b o e).1
theorem Inv.mod (I:Inv X pins U H s):Mod X.K X.mg X.base:=I.ok.mod
def Inv.DR (I:Inv X pins U H s):X.K.In s.heap:=I.ok.mod.TV.keeps I.bk
theorem Inv.lt (I:Inv X pins U H s):X.env.locals<↑s:=let ⟨_,hn,_⟩:=I.loc;hn.lt
def Inv.sz (I:Inv X pins U H s):X.s₀.heap.objs.size<=↑s:=zO I.ok.above (yi I.lt)
def Inv.Vg (I:Inv X pins U H s) (h:↑s<=a):a∉X.fs:=λhb=>by
 let⟨_,o,ho,_⟩:=I.ok.l6.mem hb;exact absurd (yd (yz ho) (zO I.sz h)) (yg _)
def Inv.Mn (I:Inv X pins U H s):∀x c,X.env.cells.lookup x=some c->c≠X.env.locals:=λx c e z=>by
 let⟨v,o,ho,hd⟩:=I.cell x c e;let⟨m,⟨o',es,ep,ho',hd',_⟩,_⟩:=I.loc;rw[z,ho'] at ho;cases ho;rw[hd'] at hd;cases hd
theorem Inv.l6 (I:Inv X pins U H s):s.heap.FunFrames X.base X.outer:=by
 let all:∀(l:List Env),(∀b∈kB l,b∈X.fs)->X.s₀.heap.FunFrames X.base l->s.heap.FunFrames X.base l:=by
  intro l
  induction l with
  | nil=>intro _ _;trivial
  | cons env r ih=>
   intro hs hl;let⟨hk,⟨L,o,hf,hn,ho,hd⟩,hr⟩:=hl;let hL:L∈X.fs:=hs L (by unfold kB;rw[vc,hf];exact zv);let⟨sl,e⟩:=I.base.slot L o ho (I.ok.DS L hL) hL λz=>I.ok.Gs L z hL;exact{hk,{L,_,hf,hn,e,hd},ih (λb hb=>hs b (by unfold kB;rw[vc,hf];exact zp _ hb)) hr}
 exact all X.outer (λ_ hb=>hb) I.ok.l6
theorem Inv.stack (I:Inv X pins U H s):s.heap.FunFrames X.base X.stack:=by
 rcases I.ok.Sa with e | ⟨e,hf⟩
 ·rw[e];exact I.l6
 ·rw[e]
  let⟨m,hn,_⟩:=I.loc;refine .cons (by rw[I.ok.kind];decide) hf hn ?_ I.l6;exact Heap.get?_none_of_le (zO I.ok.Mq I.ok.above)
def Inv.Ft (I:Inv X pins U H s):∀b∈kB X.stack,b∈X.env.locals::X.fs:=λb hb=>by
 rcases I.ok.Sa with e | ⟨e,hf⟩
 ·rw[e] at hb;exact zp _ hb
 ·rw[e] at hb
  unfold kB at hb;rw[vc,hf] at hb;exact hb
def Inv.oA (I:Inv X pins U H s):∀b∈kB X.stack,H b=none:=λb hb=>by
 rcases zF.mp (I.Ft b hb) with e | hb
 ·rw[e];exact I.free
 ·let⟨_,o,ho,_⟩:=I.ok.l6.mem hb
  exact I.base.free b o ho (I.ok.DS b hb) λz=>I.ok.Gs b z hb
def Inv.step {g':Array GenState} {t':Nat} {d':Drawn} {ch:List vD} (I:Inv X pins U H s)
  (hch:∀b∈ch,(b∈X.ex\/X.s₀.heap.objs.size<=b)/\b≠X.env.locals/\(∀x c,X.env.cells.lookup x=some c->c≠b)/\∀p∈X.pn++pins,p.1≠b)
  (keep:∀b o,b≠X.env.locals->b∉X.fs->b∉ch->s.heap.get? b=some o->H b=none->h'.get? b=some o)
  (slot:∀b o,b≠X.env.locals->b∈X.fs->b∉ch->s.heap.get? b=some o->H b=none->∃sl,h'.get? b=some {o with slots:=sl}) (free:∀b o,b∉ch->s.heap.get? b=some o->H b=none->H' b=none)
  (there:∀b o,b∉ch->s.heap.get? b=some o->∃o',h'.get? b=some o')
  (lB:∀b xs,H b=some (.tup xs)->H' b=some (.tup xs)) (kA:∀b o u,H b=some (.qS o u)->H' b=some (.qS o u)) (lC:∀b ps,H b=some (.Ol ps)->∃more,H' b=some (.Ol (ps++more)))
  (ns:∀m,s.heap.Ns X.env.locals m->h'.Ns X.env.locals m) (cB:pB X.prog X.w H' h') (hg:AllBare g') :
  Inv X pins U H' {s with heap:=h',gens:=g',drawn:=d',toks:=t'}:=by
 let neL:∀b o,X.s₀.heap.get? b=some o->b≠X.env.locals:=λb o e=>yk (yd (yz e) I.ok.above);let neC:∀b o,X.s₀.heap.get? b=some o->b∉X.ex->b∉ch:=λb o e hx hb=>by
  rcases(hch b hb).1 with z | z
  ·exact hx z
  ·exact absurd (yd (yz e) z) (yg _)
 let cellK:∀x c,X.env.cells.lookup x=some c->∀v,s.heap.IsCell c v->h'.IsCell c v:=λx c e v ⟨o,ho,hd⟩=>by
  let nch:c∉ch:=λz=>(hch c z).2.2.1 x c e rfl
  by_cases hc:c∈X.fs
  ·let⟨sl,q⟩:=slot c o (I.Mn x c e) hc nch ho (I.ic x c e)
   exact{_,q,hd}
  ·exact{o,keep c o (I.Mn x c e) hc nch ho (I.ic x c e),hd}
 refine{I.ok,I.os,hg,{λb o e n hb hx=>?_,λb o e n hb hx=>?_,λb o e n hx=>?_,λb o e hx=>?_,λb xs e=>lB b xs (I.base.lB b xs e),λb o xs e=>kA b o xs (I.base.kA b o xs e),λb ps e=>?_},?_,λx c e=>?_,?_,λx c e=>?_,λp hp=>?_,cB,I.len}
 ·exact keep b o (neL b o e) hb (neC b o e hx) (I.base.keep b o e n hb hx) (I.base.free b o e n hx)
 ·let⟨sl,e1⟩:=I.base.slot b o e n hb hx
  let⟨sl',e2⟩:=slot b _ (neL b o e) hb (neC b o e hx) e1 (I.base.free b o e n hx);exact{(sl'),e2}
 ·let⟨o',e1⟩:=I.base.there b o e hx
  exact free b o' (neC b o e hx) e1 (I.base.free b o e n hx)
 ·let⟨o',e1⟩:=I.base.there b o e hx
  exact there b o' (neC b o e hx) e1
 ·let⟨m1,e1⟩:=I.base.lC b ps e
  let⟨m2,e2⟩:=lC b _ e1;exact{m1++m2,by rw[e2,Array.append_assoc]}
 ·let⟨m,hn,hl⟩:=I.loc
  refine{m,ns m hn,λi x v e1 e2 e3=>?_};let⟨u,r,l⟩:=hl i x v e1 e2 e3;refine{u,r,?_};rcases l with l | ⟨k,c,e,z⟩
  ·exact .inl l
  ·exact .inr {k,c,e,cellK x c e _ z}
 ·let⟨v,z⟩:=I.cell x c e
  exact{v,cellK x c e v z}
 ·let⟨m,⟨o,_,_,ho,_⟩,_⟩:=I.loc
  exact free _ o (λz=>(hch _ z).2.1 rfl) ho I.free
 ·let⟨v,o,ho,hd⟩:=I.cell x c e
  exact free c o (λz=>(hch c z).2.2.1 x c e rfl) ho (I.ic x c e)
 ·let⟨e,n,ne,nf,d⟩:=I.pin p hp
  let nch:p.1∉ch:=λz=>(hch p.1 z).2.2.2 p hp rfl;exact{keep p.1 p.2 ne nf nch e n,free p.1 p.2 nch e n,ne,nf,d}
def Inv.un {t':Nat} (I:Inv X pins U H s) (u:Un X.fs [] H H' s.heap h') (cB:pB X.prog X.w H' h'):Inv X pins U H' {s with heap:=h',toks:=t'}:=by
 let⟨m,⟨o,es,ep,ho,r⟩,_⟩:=id I.loc;let⟨sl,hL⟩:=u.any ho I.free (by simp);exact I.step (g':=s.gens) (d':=s.drawn) (ch:=[]) (λ_ z=>nomatch z) (λb o _ hb _ e n=>u.keep b o e n hb (by simp)) (λb o _ hb _ e n=>u.slot b o e n hb (by simp)) (λb o _ e n=>u.free b o e n (by simp)) (λb o _ e=>u.there b o e (by simp)) u.lB u.kA u.lC (λm' hm=>by
  let⟨o',es',ep',ho',r'⟩:=hm;rw[ho] at ho';cases ho';exact{_,es',ep',hL,r'}) cB I.bare
def Inv.call {g':Array GenState} {t':Nat} {d':Drawn} {ch:List vD} (I:Inv X pins U H s) (u:Un (kB X.stack) ch H H' s.heap h') (cB:pB X.prog X.w H' h') (hg:AllBare g')
  (hch:∀b∈ch,(b∈X.ex\/X.s₀.heap.objs.size<=b)/\b≠X.env.locals/\(∀x c,X.env.cells.lookup x=some c->c≠b)/\∀p∈X.pn++pins,p.1≠b) :
  Inv X pins U H' {s with heap:=h',gens:=g',drawn:=d',toks:=t'}:=by
 let⟨m,⟨o,es,ep,ho,r⟩,_⟩:=id I.loc;let⟨sl,hL⟩:=u.any ho I.free λz=>(hch _ z).2.1 rfl;exact I.step (ch:=ch) hch (λb o hL hb hc e n=>u.keep b o e n (λz=>(zF.mp (I.Ft b z)).elim hL hb) hc) (λb o _ _ hc e n=>u.any e n hc) (λb o hc e n=>u.free b o e n hc) (λb o hc e=>u.there b o e hc) u.lB u.kA u.lC (λm' hm=>by
  let⟨o',es',ep',ho',r'⟩:=hm;rw[ho] at ho';cases ho';exact{_,es',ep',hL,r'}) cB hg
def Inv.turned {t':Nat} {it:vD} (I:Inv X pins U H s) (k:∀b o,b≠it->s.heap.get? b=some o->h'.get? b=some o) (hn:H it=none) (hL:it≠X.env.locals)
  (h1:it∈X.ex\/X.s₀.heap.objs.size<=it) (h2:∀x c,X.env.cells.lookup x=some c->c≠it) (h3:∀p∈X.pn++pins,p.1≠it):Inv X pins U H {s with heap:=h',toks:=t'}:=by
 let nit:∀b u,H b=some u->b≠it:=λb u e z=>by rw[z,hn] at e;cases e
 refine I.step (g':=s.gens) (d':=s.drawn) (ch:=[it]) (λb hb=>?_) (λb o _ _ hc e _=>k b o (λz=>hc (by simp[z])) e) (λb o _ _ hc e _=>{o.slots,k b o (λz=>hc (by simp[z])) e}) (λ_ _ _ _ n=>n)
  (λb o hc e=>{o,k b o (λz=>hc (by simp[z])) e}) (λ_ _ e=>e) (λ_ _ _ e=>e) (λb ps e=>{#[],by rw[e];simp}) (λm hm=>?_) (λb u e=>?_) I.bare
 ·let e:b=it:=by simpa using hb
  subst e;exact{(h1),hL,h2,h3}
 ·let⟨o,es,ep,ho,r⟩:=hm
  exact{o,es,ep,k _ o (Ne.symm hL) ho,r}
 ·refine(I.cB b u e).kg (λc v hc q=>k c v ?_ q) (λ_ q=>q) λ_ _ q=>q
  rcases hc with z | z
  ·rw[z];exact nit b u e
  ·exact nit c _ z
def Inv.tok (I:Inv X pins U H s) (t:Nat):Inv X pins U H {s with toks:=t}:=I.un (h':=s.heap) (t':=t) Un.refl I.cB
theorem Inv.kept (I:Inv X pins U H s) (k:∀b u,s.heap.get? b=some u->h'.get? b=some u):Inv X pins U H {s with heap:=h',toks:=t'}:=I.un (Un.kept k) (I.cB.kept k)
theorem Inv.laid (I:Inv X pins U H s) (k:∀b u,s.heap.get? b=some u->h'.get? b=some u) (hp:↑s<=a) (new:df X.prog X.w (upd H a o) h' a o) :
  Inv X pins U (upd H a o) {s with heap:=h',toks:=t'}:=I.un (Un.laid k hp (I.cB.fresh hp)) (I.cB.laid k hp new)
theorem Inv.write (I:Inv X pins U H s) (mu:VH (H x)) (he:e=x\/H e=some (.own x)) (k:∀b u,b≠e->s.heap.get? b=some u->h'.get? b=some u) (heo:∃u,h'.get? e=some u)
  (new:df X.prog X.w (upd H x o) h' x o):Inv X pins U (upd H x o) {s with heap:=h',toks:=t'}:=I.un (Un.write mu he k heo) (I.cB.write mu he k heo new)
def Inv.oI (I:Inv X pins U H s) (h:∀p∈pins',s.heap.get? p.1=some p.2/\H p.1=none/\p.1≠X.env.locals/\p.1∉X.fs/\∀v,p.2.data≠.cell v):Inv X pins' U H s:=
 {I.ok,I.os,I.bare,I.base,I.loc,I.cell,I.free,I.ic,λp hp=>(zI.mp hp).elim (λz=>I.pin p (zL _ z)) (h p),I.cB,I.len}
def BW {N:List Str} (hN:N.Nodup) {i j:Nat} {x:Str} (a:N[i]?=some x) (b:N[j]?=some x):i=j:=by
 let⟨h1,e1⟩:=zB.mp a;let⟨h2,e2⟩:=zB.mp b;exact(List.getElem_inj hN).mp (e1.trans e2.symm)
def ED {M:Model} {A:vB} {E:vv->vw->Prop} {i:Nat} {x:Str} {v:V} {u:vv} {Q:Unit->vw->Prop} (I:Inv X pins U H s) (hN:X.N.Nodup) (hi:X.N[i]?=some x) (hx:Loc X.env.scope x) (r:RelV v u)
  (h:∀s',Inv X pins (U.set i (some v)) H s'->(∃a,Heap.SameBut a s.heap s'.heap/\(a=X.env.locals\/X.env.cells.lookup x=some a))->Q .unit s') (hf:X.fn x=true\/X.env.scope.names.lookup x=some .local<|>qa_):wpAny M A (storeName X.env x u) Q E s:=by
 let⟨m,hn,hl⟩:=id I.loc;let hcls:(X.env.scope.kind == .class||(X.env.scope.kind == .module&&X.env.locals != X.env.globals))=false:=by rw[I.ok.kind];rfl
 let hiU:i<U.length:=by rw[I.len];exact(zB.mp hi).1
 let Mn:=I.Mn;let tracked:∀{a:vD} {h':vE},(∃o,s.heap.get? a=some o/\H a=none)->Heap.SameBut a s.heap h'->pB X.prog X.w H h':=λ{a h'} ha hs b ob e=>by
  let⟨_,_,hfree⟩:=ha;refine(I.cB b ob e).kg (λc w' hc q=>(hs.2 c ?_).trans q) (λ_ q=>q) λ_ _ q=>q;rintro rfl;rcases hc with rfl | hc
  ·rw[hfree] at e;cases e
  ·rw[hfree] at hc;cases hc
 rcases hx with hk | hk
 ·refine wpAny_storeName_local hk hn (λh' hn' hs=>?_) hcls
  let⟨oL,_,_,hoL,_⟩:=id hn;refine h _ {I.ok,I.os,I.bare,{λb o e n hb hx=>?_,λb o e n hb hx=>?_,I.base.free,λb o e hx=>?_,I.base.lB,I.base.kA,I.base.lC},{_,hn',λj y v' e1 e2 e3=>?_},λy c e=>?_,I.free,I.ic,λp hp=>?_,tracked {(oL),hoL,I.free} hs,by simpa using I.len} {_,hs,.inl rfl}
  ·exact(hs.2 b (yk (yd (yz e) I.ok.above))).trans (I.base.keep b o e n hb hx)
  ·let⟨sl,e1⟩:=I.base.slot b o e n hb hx
   exact{sl,(hs.2 b (yk (yd (yz e) I.ok.above))).trans e1}
  ·let⟨o',e1⟩:=I.base.there b o e hx
   exact{o',(hs.2 b (yk (yd (yz e) I.ok.above))).trans e1}
  ·by_cases hj:j=i
   ·subst hj
    rw[hi] at e1;cases e1;rw[List.getElem?_set_self hiU] at e2;cases e2;exact{u,r,.inl {hk,by simp}}
   ·rw[List.getElem?_set_ne (Ne.symm hj)] at e2
    let⟨u',r',q⟩:=hl j y v' e1 e2 e3;refine{u',r',?_};rcases q with⟨k,e⟩ | ⟨k,c,e,z⟩
    ·refine .inl {k,?_}
     have:y≠x:=λe=>hj (BW hN e1 (e▸hi));simp[this,e]
    ·exact .inr {k,c,e,z.sameBut hs (Mn y c e)}
  ·let⟨w',z⟩:=I.cell y c e
   exact{w',z.sameBut hs (Mn y c e)}
  ·let⟨e,n,ne,nf,d⟩:=I.pin p hp
   exact{(hs.2 p.1 ne).trans e,n,ne,nf,d}
 ·let hfn:X.fn x=true:=by
   rcases hf with z | z
   ·exact z
   ·rw[z] at hk;cases hk
  let⟨c,hc⟩:=I.ok.has x (.inl hk);let⟨w',z⟩:=I.cell x c hc;refine wpAny_storeName_cell I.ok.kind hk hc z (λh' hc' hs=>?_);let⟨oc,hoc,hocd⟩:=id z;refine h {s with heap:=h'} {I.ok,I.os,I.bare,{λb o e n hb hx=>?_,λb o e n hb hx=>?_,I.base.free,λb o e hx=>?_,I.base.lB,I.base.kA,I.base.lC},{m,hn.sameBut hs (Ne.symm (Mn x c hc)),λj y v' e1 e2 e3=>?_},λy c' e=>?_,I.free,I.ic,λp hp=>?_,tracked {oc,hoc,I.ic x c hc} hs,by simpa using I.len} {c,hs,.inr hc}
  ·exact(hs.2 b (yk (yd (yz e) (I.ok.RS x c hfn hc)))).trans (I.base.keep b o e n hb hx)
  ·let⟨sl,e1⟩:=I.base.slot b o e n hb hx
   exact{sl,(hs.2 b (yk (yd (yz e) (I.ok.RS x c hfn hc)))).trans e1}
  ·let⟨o',e1⟩:=I.base.there b o e hx
   exact{o',(hs.2 b (yk (yd (yz e) (I.ok.RS x c hfn hc)))).trans e1}
  ·by_cases hj:j=i
   ·subst hj
    rw[hi] at e1;cases e1;rw[List.getElem?_set_self hiU] at e2;cases e2;exact{u,r,.inr {.inl hk,c,hc,hc'}}
   ·rw[List.getElem?_set_ne (Ne.symm hj)] at e2
    let⟨u',r',q⟩:=hl j y v' e1 e2 e3;refine{u',r',?_};rcases q with q | ⟨k,c',e,z'⟩
    ·exact .inl q
    ·refine .inr {k,c',e,z'.sameBut hs ?_}
     rintro rfl;exact hj (BW hN e1 (I.ok.inj _ _ _ e hc▸hi))
  ·by_cases hcc:c'=c
   ·subst hcc;exact{_,hc'}
   ·let⟨w2,z2⟩:=I.cell y c' e
    exact{w2,z2.sameBut hs hcc}
  ·let⟨e,n,ne,nf,d⟩:=I.pin p hp
   refine{(hs.2 p.1 ?_).trans e,n,ne,nf,d};intro q;rw[q,hoc] at e;let q':oc=p.2:=ym e;exact d w' (by rw[<-q'];exact hocd)
def kO (I:Inv X pins U H s) (hN:X.N.Nodup) (hi:X.N[i]?=some x) (hx:Loc X.env.scope x) (r:RelV v u)
  (h:∀s',Inv X pins (U.set i (some v)) H s'->Q .unit s') (hf:X.fn x=true\/X.env.scope.names.lookup x=some .local<|>qa_):wpAny M A (storeName X.env x u) Q E s:=
 ED I hN hi hx r (λs' I' _=>h s' I') hf
def Inv.Mp (I:Inv X pins U H s) (ho:s'.os=s.os) (u:Un (kB X.stack) ch H H' s.heap s'.heap) (cB:pB X.prog X.w H' s'.heap) (hg:AllBare s'.gens)
  (hch:∀b∈ch,(b∈X.ex\/X.s₀.heap.objs.size<=b)/\b≠X.env.locals/\(∀x c,X.env.cells.lookup x=some c->c≠b)/\∀p∈X.pn++pins,p.1≠b):Inv X pins U H' s':=by
 let⟨h',g',d',t',o'⟩:=s';let e:o'=s.os:=ho;subst e;exact I.call (g':=g') (t':=t') (d':=d') u cB hg hch
end
abbrev XK:=vv->Option vD->Hp->Prop
abbrev St:=List (Option V)
abbrev VK:=V->Hp->Prop
abbrev TE:=St->Hp->VK->Prop
abbrev TT:=St->Hp->(Bool->Hp->Prop)->Prop
abbrev TA:=St->Hp->(List V->Hp->Prop)->Prop
structure Ends where
 nx:St->Hp->Prop
 rt:VK
 bk:St->Hp->Prop:=λ_ _=>False
 ct:St->Hp->Prop:=λ_ _=>False
abbrev TS:=Ends->St->Hp->Prop
def EP (X:Cx) (pins:List (vD×Obj)) (U:St) (Q:VK) (u:vv) (s':vw):Prop:=∃v H',Inv X pins U H' s'/\RelV v u/\Q v H'
def TP (X:Cx) (pins:List (vD×Obj)) (U:St) (Q:Bool->Hp->Prop) (b:Bool) (s':vw):Prop:=∃H',Inv X pins U H' s'/\Q b H'
def AP (X:Cx) (pins:List (vD×Obj)) (U:St) (Q:List V->Hp->Prop) (us:List vv) (s':vw):Prop:=∃vs H',Inv X pins U H' s'/\Vals vs us/\Q vs H'
def SP (X:Cx) (pins:List (vD×Obj)) (D:Ends) (f:Flow) (s':vw):Prop:=
 match f with
 | .next=>∃U' H',Inv X pins U' H' s'/\D.nx U' H'
 | .brk=>∃U' H',Inv X pins U' H' s'/\D.bk U' H'
 | .cont=>∃U' H',Inv X pins U' H' s'/\D.ct U' H'
 | .ret u=>∃v U' H',Inv X pins U' H' s'/\RelV v u/\D.rt v H'
def PE (X:Cx) (e:Expr) (t:TE):Prop:=
 ∀⦃pins:List (vD×Obj)⦄ (s:vw) (U:St) (H:Hp) (Q:VK),Inv X pins U H s->t U H Q->wpAny (model X.prog X.w) X.A (eval e X.env) (EP X pins U Q) X.xe s
def PT (X:Cx) (e:Expr) (t:TT):Prop:=
 ∀⦃pins:List (vD×Obj)⦄ (s:vw) (U:St) (H:Hp) (Q:Bool->Hp->Prop),Inv X pins U H s->t U H Q->wpAny (model X.prog X.w) X.A (isTrue e X.env (eval e X.env)) (TP X pins U Q) X.xe s
def PW (X:Cx) (e:Expr) (t:TT):Prop:=
 ∀(whole:Sem vv) (pins:List (vD×Obj)) (s:vw) (U:St) (H:Hp) (Q:Bool->Hp->Prop),Inv X pins U H s->t U H Q->wpAny (model X.prog X.w) X.A (isTrue e X.env whole) (TP X pins U Q) X.xe s
def PW.pt (h:PW X e t):PT X e t:=h _
def PA (X:Cx) (es:List Expr) (t:TA):Prop:=
 ∀⦃pos:Pos⦄ ⦃pins:List (vD×Obj)⦄ (s:vw) (U:St) (H:Hp) (Q:List V->Hp->Prop),Inv X pins U H s->t U H Q->wpAny (model X.prog X.w) X.A (spliced (backTo pos (starEach es X.env))) (AP X pins U Q) X.xe s
def PS (X:Cx) (st:Stmt) (t:TS):Prop:=
 ∀⦃pins:List (vD×Obj)⦄ (s:vw) (U:St) (H:Hp) (D:Ends),Inv X pins U H s->t D U H->wpAny (model X.prog X.w) X.A (exec st X.env) (SP X pins D) X.xe s
def C5 (X:Cx) (st:List Stmt) (t:TS):Prop:=
 ∀⦃pins:List (vD×Obj)⦄ (s:vw) (U:St) (H:Hp) (D:Ends),Inv X pins U H s->t D U H->wpAny (model X.prog X.w) X.A (execs st X.env) (SP X pins D) X.xe s
def dk (h:wpAny M A t Q E s) (hQ:∀a s,Q a s->Q' a s):wpAny M A t Q' E s:=xg h hQ λ_ _ x=>x
end L2
namespace L2
open PySem PySem.Spec PyProof.Rows
section
variable {X:Cx}
def bj (i:Nat):TE:=λU H Q=>∃v,U[i]?=some (some v)/\Q v H
def tC (v:V):TE:=λ_ H Q=>Q v H
def Ts (hN:X.N[i]?=some x) (hv:Sw X.env.scope x) (hd:(x == ("__debug__": Str))=false<|>qb_) (hcd:(x == ("__classdict__": Str))=false<|>qb_):PE X (.Name x pos) (bj i):=by
 intro pins s U H Q I h;let⟨v,e,h⟩:=h;let⟨m,hn,hl⟩:=I.loc;let⟨u,r,l⟩:=hl i x v hN e hv;let fin:EP X pins U Q u s:={(v),H,I,r,h}
 rcases l with⟨hk,hm⟩ | ⟨hk,c,hc,hcell⟩
 ·exact wpAny_Name (wpAny_loadName_local I.ok.kind hk hn hm fin) hd
 ·rcases hk with hk | hk
  ·exact wpAny_Name (wpAny_loadName_cell I.ok.kind hk hc hcell fin) hd
  ·exact wpAny_Name (wpAny_loadName_free I.ok.kind hk hc hcell fin hcd) hd
def ae:PE X (.Constant (.int i) j pos) (tC (.int i)):=λ_ _ _ H _ I h=>wpAny_Constant_int {.int i,H,I.tok _,{_,rfl},h}
def jz:PE X (.Constant (.bool b) j pos) (tC (.bl b)):=λ_ _ _ H _ I h=>Constant_bool {.bl b,H,I,rfl,h}
def aW:PE X (.Constant .none j pos) (tC .bT):=λ_ _ _ H _ I h=>Constant_none {.bT,H,I,rfl,h}
def aK:PE X (.Constant (.str x) j pos) (tC (.str x)):=λ_ _ _ H _ I h=>Calls.Constant_str {.str x,H,I.tok _,{_,rfl},h}
def Gl (X:Cx) (x:Str):Prop:=X.env.kindOf x=some .globalImplicit
def iU (I:Inv X pins U H s) (hg:Gl X x) (hm:X.mg x=some u) (h:Q u s)
  (hd:(x == ("__debug__": Str))=false<|>qb_):wpAny (model X.prog X.w) X.A (eval (.Name x pos) X.env) Q E s:=
 Calls.Name_function_global I.ok.kind hg (Calls.loadGlobal_global (by rw[I.ok.glob];exact I.mod.glob.keeps I.bk) hm h) hd
def lV (I:Inv X pins U H s) (hg:Gl X x) (hm:X.mg x=none) (hv:bootBuiltins x=some u) (h:Q u s)
  (hn:x≠ "__name__"<|>qb_) (hd:(x == ("__debug__": Str))=false<|>qb_):wpAny (model X.prog X.w) X.A (eval (.Name x pos) X.env) Q E s:=by
 let⟨mb,h1,h2⟩:=I.mod.blt;exact Calls.Name_function_global I.ok.kind hg (Calls.loadGlobal_builtin (by rw[I.ok.glob];exact I.mod.glob.keeps I.bk) hm (by rw[I.ok.blt];exact h1.keeps I.bk) ((h2 x hn).trans hv) h) hd
def bK (hg:Gl X x) (hm:X.mg x=some u) (r:RelV v u) (hd:(x == ("__debug__": Str))=false<|>qb_):PE X (.Name x pos) (tC v):=
 λ_ _ _ H _ I h=>iU I hg hm {(v),H,I,r,h} hd
def Ri (hg:Gl X x) (hm:X.mg x=none) (hv:bootBuiltins x=some u) (r:RelV v u) (hn:x≠ "__name__"<|>qb_) (hd:(x == ("__debug__": Str))=false<|>qb_):PE X (.Name x pos) (tC v):=
 λ_ _ _ H _ I h=>lV I hg hm hv {(v),H,I,r,h} hn hd
variable {a b:Expr} {ta tb:TE} {pos:Pos}
def PC (X:Cx) (op:CmpOp) (a b:Expr) (t:TE):Prop:=
 ∀⦃pins:List (vD×Obj)⦄ (s:vw) (U:St) (H:Hp) (Q:VK),Inv X pins U H s->t U H Q->
  wpAny (model X.prog X.w) X.A (eval a X.env) (λv s₁=>wpAny (model X.prog X.w) X.A (eval b X.env) (λu s₂=>wpAny (model X.prog X.w) X.A (compareOp op v u) (EP X pins U Q) X.xe s₂) X.xe s₁) X.xe s
def BX (b:Expr) (h:op≠.In) (h2:op≠.NotIn):behindInMarks op b=false:=by
 let e1:(op == CmpOp.In)=false:=by cases op <;> first | rfl | exact absurd rfl h
 let e2:(op == CmpOp.NotIn)=false:=by cases op <;> first | rfl | exact absurd rfl h2
 cases b <;> first | rfl | (rename_i a k c;show(k == 0&&(op == .In||op == .NotIn)&&a.all (constantsAlone 8))=false;rw[e1,e2];cases k == 0 <;> rfl)
def Ou (ta:TE):TE:=λU H Q=>ta U H λx H1=>Q (.bl (decide (x=.bT))) H1
def Ot (ta:TE):TE:=λU H Q=>ta U H λx H1=>Q (.bl (!decide (x=.bT))) H1
def RelV.IH (r:RelV x v):(v == Value.none)=decide (x=.bT):=by
 cases x with
 | bT=>cases r;rfl
 | bl _=>cases r;rfl
 | int _=>let⟨t,rfl⟩:=r;rfl
 | str _=>let⟨t,rfl⟩:=r;rfl
 | NK _=>let⟨t,rfl⟩:=r;rfl
 | Vs _=>let⟨t,rfl⟩:=r;rfl
 | ref _=>cases r;rfl
 | ty _=>cases r;rfl
def cJ (ha:PE X a ta):PC X .Is a (.Constant .none j pos') (Ou ta):=by
 intro pins s U H Q I h;refine dk (ha s U H _ I h) λv s1 z0=>?_;let⟨x,H1,I1,r1,q1⟩:=z0;exact Constant_none (is_none_gen {.bl _,H1,I1,by rw[r1.IH];rfl,q1})
def fh (ha:PE X a ta):PC X .IsNot a (.Constant .none j pos') (Ot ta):=by
 intro pins s U H Q I h;refine dk (ha s U H _ I h) λv s1 z0=>?_;let⟨x,H1,I1,r1,q1⟩:=z0;exact Constant_none (isnot_none_gen {.bl _,H1,I1,by rw[r1.IH];rfl,q1})
def tB (t:TE):TT:=λU H Q=>t U H λx H1=>∃c,x=.bl c/\Q c H1
def tN (h:PC X op a b t) (h1:behindInMarks op b=false<|>qc_):PE X (.Compare a [op] [b] pos) t:=λpins s U H Q I hw=>wpAny_Compare1 (h s U H Q I hw) h1
def bH (h:PC X op a b t) (h1:behindInMarks op b=false<|>qc_):PT X (.Compare a [op] [b] pos) (tB t):=by
 intro pins s U H Q I hw;refine wpAny_isTrue_Compare1 (dk (h s U H _ I hw) λv s1 h1=>dk h1 λu s2 h2=>dk h2 λc s3 z0=>?_) h1;let⟨x,H1,I1,r1,q1⟩:=z0;let⟨d,rfl,q⟩:=q1;cases r1;exact xi {(H1),I1,q}
def cP (h:PE X e t) (he:(∀whole,isTrue e X.env whole=(do let v <-whole;standAt e.pos;holding [v] (truthy v)))<|>qd_):PT X e (tB t):=by
 intro pins s U H Q I hw;refine isTrue_plain (dk (h s U H _ I hw) λv s1 z0=>?_) (he _);let⟨x,H1,I1,r1,q1⟩:=z0;let⟨d,rfl,q⟩:=q1;cases r1;exact xi {(H1),I1,q}
variable {tA tB':TT} {rest:List Expr}
def S8 (t u:TT):TT:=λU H Q=>t U H λc H1=>if c=true then u U H1 Q else Q false H1
def Wv (t u:TT):TT:=λU H Q=>t U H λc H1=>if c=true then Q true H1 else u U H1 Q
def QN (t:TT):TT:=λU H Q=>t U H λc H1=>Q (!c) H1
def cZ (ha:PT X a tA):PW X (.BoolOp .And [a] pos) tA:=by
 intro wh pins s U H Q I h;refine isTrue_and (dk (ha s U H Q I h) λc s1 e=>?_);cases c with
 | true=>exact isTrue_and_nil e
 | false=>exact e
def dq (ha:PT X a tA):PW X (.BoolOp .Or [a] pos) tA:=by
 intro wh pins s U H Q I h;refine isTrue_or (dk (ha s U H Q I h) λc s1 e=>?_);cases c with
 | false=>exact isTrue_or_nil e
 | true=>exact e
def dF (ha:PT X a tA) (hb:PW X (.BoolOp .And (b::rest) pos) tB'):PW X (.BoolOp .And (a::b::rest) pos) (S8 tA tB'):=by
 intro wh pins s U H Q I h;refine isTrue_and (dk (ha s U H _ I h) λc s1 z0=>?_);let⟨H1,I1,q1⟩:=z0;cases c with
 | true=>exact hb wh pins s1 U H1 Q I1 q1
 | false=>exact{(H1),I1,q1}
def d4 (ha:PT X a tA) (hb:PW X (.BoolOp .Or (b::rest) pos) tB'):PW X (.BoolOp .Or (a::b::rest) pos) (Wv tA tB'):=by
 intro wh pins s U H Q I h;refine isTrue_or (dk (ha s U H _ I h) λc s1 z0=>?_);let⟨H1,I1,q1⟩:=z0;cases c with
 | true=>exact{(H1),I1,q1}
 | false=>exact hb wh pins s1 U H1 Q I1 q1
def fq (ha:PT X a tA):PT X (.UnaryOp .Not a pos) (QN tA):=by
 intro pins s U H Q I h;exact isTrue_not (ha s U H (λc H1=>Q (!c) H1) I h)
def R9 (ta tb:TE):TE:=λU H Q=>ta U H λx H1=>∃c,x=.bl c/\if c=true then tb U H1 Q else Q (.bl false) H1
def UY (ta tb:TE):TE:=λU H Q=>ta U H λx H1=>∃c,x=.bl c/\if c=true then Q (.bl true) H1 else tb U H1 Q
def UZ (ta:TE):TE:=λU H Q=>ta U H λx H1=>∃c,x=.bl c/\Q (.bl (!c)) H1
def nT (h:PE X a t):PE X (.BoolOp op [a] pos) t:=λpins s U H Q I hw=>BoolOp_one (h s U H Q I hw)
def qg (ha:PE X a ta) (hb:PE X (.BoolOp .And (b::rest) pos) tb):PE X (.BoolOp .And (a::b::rest) pos) (R9 ta tb):=by
 intro pins s U H Q I h;refine BoolOp_and (dk (ha s U H _ I h) λv s1 z0=>?_);let⟨x,H1,I1,r1,q1⟩:=z0;let⟨c,rfl,q1⟩:=q1;cases r1;refine xi ?_;cases c with
 | true=>exact hb s1 U H1 Q I1 q1
 | false=>exact{.bl false,H1,I1,rfl,q1}
def O9 (ha:PE X a ta) (hb:PE X (.BoolOp .Or (b::rest) pos) tb):PE X (.BoolOp .Or (a::b::rest) pos) (UY ta tb):=by
 intro pins s U H Q I h;refine BoolOp_or (dk (ha s U H _ I h) λv s1 z0=>?_);let⟨x,H1,I1,r1,q1⟩:=z0;let⟨c,rfl,q1⟩:=q1;cases r1;refine xi ?_;cases c with
 | false=>exact hb s1 U H1 Q I1 q1
 | true=>exact{.bl true,H1,I1,rfl,q1}
def Xw (t:TT) (ta tb:TE):TE:=λU H Q=>t U H λc H1=>if c=true then ta U H1 Q else tb U H1 Q
def Iq (hc:PT X c tA) (ha:PE X a ta) (hb:PE X b tb):PE X (.IfExp c a b pos) (Xw tA ta tb):=by
 intro pins s U H Q I h;refine wpAny_IfExp (dk (hc s U H _ I h) λd s1 z0=>?_);let⟨H1,I1,q1⟩:=z0;cases d with
 | true=>exact ha s1 U H1 Q I1 q1
 | false=>exact hb s1 U H1 Q I1 q1
end
end L2
namespace L2
open PySem PySem.Spec PyProof.Rows
def gx (K:yB) (H:Hp) (a:vD) (xs:List V):Prop:=
 Rd H a (.lst xs)\/
  ∃(o:Obj) (its:Array vv) (n:Nat),K.lookup a=some o/\o.cls=.type "list"/\o.dict=none/\o.data=.seq its n/\its.size<=sizeLine/\Vals xs its.toList
def qM (K:yB) (H:Hp) (a:vD) (xs:List V):Prop:=
 Rd H a (.tup xs)\/
  ∃(o:Obj) (its:Array vv) (n:Nat),K.lookup a=some o/\o.cls=.type "tuple"/\o.data=.seq its n/\its.size<=sizeLine/\Vals xs its.toList
noncomputable def W8:vv->Option V
 | .none=>some .bT
 | .bool b=>some (.bl b)
 | .int i _=>some (.int i)
 | .str x _=>some (.str x)
 | .bytes b _=>some (.NK b)
 | .float b _=>some (.Vs b)
 | .ref a=>some (.ref a)
 | .type n=>some (.ty n)
 | _=>none
def RelV.abs (r:RelV x u):W8 u=some x:=by
 cases x with
 | bT=>cases r;rfl
 | bl _=>cases r;rfl
 | int _=>let⟨t,rfl⟩:=r;rfl
 | str _=>let⟨t,rfl⟩:=r;rfl
 | NK _=>let⟨t,rfl⟩:=r;rfl
 | Vs _=>let⟨t,rfl⟩:=r;rfl
 | ref _=>cases r;rfl
 | ty _=>cases r;rfl
def RelV.inj (r:RelV x u) (q:RelV y u):x=y:=ym (r.abs.symm.trans q.abs)
theorem Vals.inj:∀{xs ys:List V} {us:List vv},Vals xs us->Vals ys us->xs=ys
 | _,_,_,.nil,k=>by cases k;rfl
 | _,_,_,.cons r t,k=>by
  cases k with
  | cons r' t'=>rw[r.inj r',Vals.inj t t']
section
variable {X:Cx} {pins:List (vD×Obj)} {U:St} {H:Hp} {s:vw} {a:vD} {xs ys:List V}
def ao {K:yB} (h:H a=some (.lst xs)):gx K H a xs:=.inl (.inl h)
def bC {K:yB} (h:H a=some (.tup xs)):qM K H a xs:=.inl (.inl h)
def Inv.list (I:Inv X pins U H s) (h:gx X.K H a xs):∃its:List vv,Vals xs its/\PlainL s.heap a its.toArray/\⇑xs<=sizeLine:=by
 rcases h with h | ⟨o,its,n,hk,hc,hd,hs,hz,r⟩
 ·let⟨z,its,n,r,e⟩:=h.ok I.cB
  exact{its,r,{_,n,e,rfl,rfl,rfl},z}
 ·refine{its.toList,r,{o,n,I.DR a o hk,hc,hd,by simpa using hs},?_}
  let e:=⇑r;simp only[yQ] at e;ext
def Inv.tuple (I:Inv X pins U H s) (h:qM X.K H a xs):∃its:List vv,Vals xs its/\IsTup s.heap a its.toArray/\⇑xs<=sizeLine:=by
 rcases h with h | ⟨o,its,n,hk,hc,hs,hz,r⟩
 ·let⟨z,its,r,p⟩:=h.ok I.cB
  exact{(its),r,p,z}
 ·refine{its.toList,r,{o,I.DR a o hk,hc,n,by simpa using hs},?_}
  let e:=⇑r;simp only[yQ] at e;ext
def Inv.B0 (I:Inv X pins U H s) (h:gx X.K H a xs) (h':gx X.K H a ys):xs=ys:=by
 let⟨its,r,⟨o,n,e,_,_,d⟩,_⟩:=I.list h;let⟨its',r',⟨o',n',e',_,_,d'⟩,_⟩:=I.list h';rw[e] at e';cases e';rw[d] at d';injection d' with d1 _;have:its=its':=by simpa using y6 Array.toList d1
 subst this;exact r.inj r'
def Inv.EB (I:Inv X pins U H s) (h:qM X.K H a xs) (h':qM X.K H a ys):xs=ys:=by
 let⟨its,r,⟨o,e,_,n,d⟩,_⟩:=I.tuple h;let⟨its',r',⟨o',e',_,n',d'⟩,_⟩:=I.tuple h';rw[e] at e';cases e';rw[d] at d';injection d' with d1 _;have:its=its':=by simpa using y6 Array.toList d1
 subst this;exact r.inj r'
end
abbrev Cx.pE (X:Cx) (E:vv->vw->Prop):Cx:={X with xe:=E}
abbrev Cx.JY (X:Cx):Cx:=X.pE λ_ _=>False
theorem Cx.Ok.pE {X:Cx} (ok:X.Ok) (E:vv->vw->Prop):(X.pE E).Ok:=
 {(ok.mod),ok.kind,ok.glob,ok.blt,ok.above,ok.inj,ok.has,ok.RS,ok.hd,ok.frames,ok.Sa,ok.UH,ok.bs,ok.Mq,ok.jN,ok.Gs,ok.l6,ok.DS}
def Cx.Ok.gB {X:Cx} {E:vv->vw->Prop} (ok:(X.pE E).Ok):X.Ok:=
 {(ok.mod),ok.kind,ok.glob,ok.blt,ok.above,ok.inj,ok.has,ok.RS,ok.hd,ok.frames,ok.Sa,ok.UH,ok.bs,ok.Mq,ok.jN,ok.Gs,ok.l6,ok.DS}
section
variable {X:Cx} {pins:List (vD×Obj)} {U:St} {H:Hp} {s:vw} {E:vv->vw->Prop}
theorem Inv.pE (I:Inv X pins U H s) (E:vv->vw->Prop):Inv (X.pE E) pins U H s:={I.ok.pE E,I.os,I.bare,I.base,I.loc,I.cell,I.free,I.ic,I.pin,I.cB,I.len}
theorem Inv.gB (I:Inv (X.pE E) pins U H s):Inv X pins U H s:={(I.ok.gB),I.os,I.bare,I.base,I.loc,I.cell,I.free,I.ic,I.pin,I.cB,I.len}
theorem SP.gB (h:SP (X.pE E) pins D f s'):SP X pins D f s':=by
 cases f with
 | next=>let⟨U',H',I,q⟩:=h;exact{U',H',I.gB,q}
 | brk=>let⟨U',H',I,q⟩:=h;exact{U',H',I.gB,q}
 | cont=>let⟨U',H',I,q⟩:=h;exact{U',H',I.gB,q}
 | ret u=>let⟨v,U',H',I,r,q⟩:=h;exact{v,U',H',I.gB,r,q}
theorem C5.JY {st:List Stmt} {t:TS} (h:C5 X.JY st t):C5 X st t:=λpins s U H D I hw=>
 xg (h s U H D (I.pE _) hw) (λ_ _ q=>q.gB) λ_ _ z=>False.elim z
end
section
variable {X:Cx} {st:Stmt} {rest:List Stmt} {t u:TS} {e:Expr} {te:TE} {pos:Pos}
def R7:TS:=λD U H=>D.nx U H
def Oo (t u:TS):TS:=λD U H=>t {D with nx:=u D} U H
def aC:C5 X [] R7:=λ_ _ U H _ I h=>wx {U,H,I,h}
def ag (h1:PS X st t) (h2:C5 X rest u):C5 X (st::rest) (Oo t u):=by
 intro pins s U H D I h;refine wpAny_execs_cons (dk (h1 s U H {D with nx:=u D} I h) λf s1 q=>?_);cases f with
 | next=>
  let⟨U',H',I',q⟩:=q;exact h2 s1 U' H' D I' q
 | ret v=>exact q
 | brk=>exact q
 | cont=>exact q
def ak (h1:PS X st t):C5 X [st] t:=by
 intro pins s U H D I h;refine wpAny_execs_cons (dk (h1 s U H D I h) λf s1 q=>?_);cases f with
 | next=>exact wx q
 | ret v=>exact q
 | brk=>exact q
 | cont=>exact q
def Inv.quiet (I:Inv X pins U H s):interactive X.env=false:=by simp[interactive,I.ok.kind]
def R8 (te:TE):TS:=λD U H=>te U H λ_ H1=>D.nx U H1
def bu (he:PE X e te) (hs:swapsWith e none pos.line X.env=pure false<|>qe_):PS X (.Expr e pos) (R8 te):=by
 intro pins s U H D I h;refine wpAny_Expr_any (dk (he s U H _ I h) λv s1 z0=>?_) I.quiet hs;let⟨x,H1,I1,r1,q1⟩:=z0;exact{U,H1,I1,q1}
def SU (te:TE):TS:=λD U H=>te U H D.rt
def au (he:PE X e te):PS X (.Return (some e) pos) (SU te):=by
 intro pins s U H D I h;refine wpAny_Return_some (dk (he s U H _ I h) λv s1 z0=>?_);let⟨x,H1,I1,r1,q1⟩:=z0;exact{x,U,H1,I1,r1,q1}
def QO (c:TT) (t u:TS):TS:=λD U H=>c U H λb H1=>if b=true then t D U H1 else u D U H1
def aM (hc:PT X c tc) (ha:C5 X a t) (hb:C5 X b u):PS X (.If c a b pos) (QO tc t u):=by
 intro pins s U H D I h;refine wpAny_If (dk (hc s U H _ I h) λd s1 z0=>?_);let⟨H1,I1,q1⟩:=z0;cases d with
 | true=>exact ha s1 U H1 D I1 q1
 | false=>exact hb s1 U H1 D I1 q1
def SW:TS:=λ_ _ _=>False
def O4:PS X st SW:=λ_ _ _ _ _ _ h=>h.elim
end
abbrev TG:=V->St->Hp->(St->Hp->Prop)->Prop
abbrev VF:=List V->St->Hp->(St->Hp->Prop)->Prop
def PG (X:Cx) (target:Expr) (t:TG):Prop:=
 ∀(pins:List (vD×Obj)) (s:vw) (U:St) (H:Hp) (v:V) (u:vv) (Q:St->Hp->Prop),Inv X pins U H s->RelV v u->t v U H Q->
  wpAny (model X.prog X.w) X.A (assign target X.env u) (λ_ s'=>∃U' H',Inv X pins U' H' s'/\Q U' H') X.xe s
def VY (X:Cx) (ts:List Expr) (t:VF):Prop:=
 ∀(pins:List (vD×Obj)) (s:vw) (U:St) (H:Hp) (vs:List V) (us:List vv) (Q:St->Hp->Prop),Inv X pins U H s->Vals vs us->t vs U H Q->
  wpAny (model X.prog X.w) X.A (assignInOrder ((assignEach ts X.env).map (·.2)) us) (λ_ s'=>∃U' H',Inv X pins U' H' s'/\Q U' H') X.xe s
section
variable {X:Cx} {pos:Pos}
def cw (i:Nat):TG:=λv U H Q=>Q (U.set i (some v)) H
def LX (hN:X.N.Nodup) (hi:X.N[i]?=some x) (hx:Loc X.env.scope x) (hf:X.fn x=true\/X.env.scope.names.lookup x=some .local<|>qa_):PG X (.Name x pos) (cw i):=by
 intro pins s U H v u Q I r h;exact wpAny_assign_Name (kO I hN hi hx r (λs' I'=>{_,H,I',h}) hf)
def I0:VF:=λvs U H Q=>vs=[]/\Q U H
def gj (t:TG) (u:VF):VF:=λvs U H Q=>∃v r,vs=v::r/\t v U H λU' H'=>u r U' H' Q
def dr:VY X [] I0:=by
 intro pins s U H vs us Q I r h;let⟨e,h⟩:=h;subst e;cases r;exact assignInOrder_nil {U,H,I,h}
def aQ (h1:PG X e t) (h2:VY X es u)
  (hs:(assignEach (e::es) X.env).map (·.2)=assign e X.env::(assignEach es X.env).map (·.2)<|>qe_):VY X (e::es) (gj t u):=by
 intro pins s U H vs us Q I r h;let⟨v,vr,e1,h⟩:=h;subst e1;cases r with
 | cons r rr=>
  rw[hs];refine assignInOrder_cons (dk (h1 pins s U H _ _ _ I r h) λ_ s1 z0=>?_);let⟨σ1,H1,I1,q1⟩:=z0;exact h2 pins s1 σ1 H1 _ _ Q I1 rr q1
def IZ (K:yB) (n:Nat) (t:VF):TG:=λv U H Q=>∃a xs,v=.ref a/\qM K H a xs/\⇑xs=n/\t xs U H Q
def d6 (hc:X.calm=true) (h:VY X es t)
  (hn:⇑(assignEach es X.env)=n<|>qe_) (hst:(assignEach es X.env).findIdx? (·.1)=none<|>qe_):PG X (.Tuple es k pos) (IZ X.K n t):=by
 intro pins s U H v u Q I r hw;let⟨a,xs,e1,hq,hl,hw⟩:=hw;subst e1;cases r;let⟨its,rv,ht,hz⟩:=I.tuple hq;refine assign_Tuple_tuple (I.ok.hd hc) ht (by simp[hn,<-hl,⇑rv]) hst λh' hx=>?_;let I1:Inv X pins U H {s with heap:=h'}:=I.kept (t':=s.toks) λb o e=>hx b o (yk (yz e)) e;exact h pins _ U H xs _ Q I1 (by simpa using rv) hw
def Fq (te:TE) (g:TG):TS:=λD U H=>te U H λx H1=>g x U H1 D.nx
def O2 (hN:X.N.Nodup) (hi:X.N[i]?=some x) (hx:Loc X.env.scope x) (he:PE X e te) (hs:swapsWith e (some (.Name x pos')) pos.line X.env=pure false<|>qe_) (hf:X.fn x=true\/X.env.scope.names.lookup x=some .local<|>qa_) :
  PS X (.Assign [.Name x pos'] e pos) (Fq te (cw i)):=by
 intro pins s U H D I h;refine wpAny_Assign_Name (dk (he s U H _ I h) λv s1 z0=>?_) hs;let⟨y,H1,I1,r1,q1⟩:=z0;exact kO I1 hN hi hx r1 (λs2 I2=>{_,H1,I2,q1}) hf
def Wu (i j:Nat) (ta:TA):TS:=λD U H=>ta U H λvs H1=>∃v w,vs=[v,w]/\D.nx ((U.set i (some v)).set j (some w)) H1
def O3 (hc:X.calm=true) (hN:X.N.Nodup) (hi:X.N[i]?=some x) (hj:X.N[j]?=some y) (hij:i≠j)
  (hx:X.env.scope.names.lookup x=some .local) (hy:X.env.scope.names.lookup y=some .local) (ha:PA X [a,b] ta)
  (hw:swappedStores [.Tuple [.Name x px,.Name y py] kt pt] (.Tuple [a,b] k2 pt2) X.env=pure (some [x,y]))
  (hs:swapsWithSole [.Tuple [.Name x px,.Name y py] kt pt] (.Tuple [a,b] k2 pt2) pos.line X.env=pure false<|>qe_) :
  PS X (.Assign [.Tuple [.Name x px,.Name y py] kt pt] (.Tuple [a,b] k2 pt2) pos) (Wu i j ta):=by
 intro pins s U H D I h;rw[exec_Assign_arm];refine yv (wpAny_standAt ?_);rw[hs];refine yv (yx ?_);rw[yN ∅];refine yv (Tuple_ (dk (ha s U H _ I h) λus s1 z0=>?_));let⟨vs,H1,I1,r1,q1⟩:=z0;let⟨v,w,e1,q1⟩:=q1;subst e1;obtain⟨u1,u2,rfl,rv,rw'⟩:∃u1 u2,us=[u1,u2]/\RelV v u1/\RelV w u2:=by
  cases r1 with
  | cons p q=>
   cases q with
   | cons p' q'=>
    cases q';exact{_,_,rfl,p,p'}
 refine xf ?_ (by show 2<=sizeLine;decide);let I2:Inv X pins U H1 {s1 with heap:=s1.heap.push {cls:=.type "tuple",data:=.seq [u1,u2].toArray}}:=I1.kept (t':=s1.toks) λb o e=>yw _ e;rw[hw];refine yv (yx ?_);show wpAny (model X.prog X.w) X.A (do rule "assign.swapped-stores";let items <-unpackItems (.ref ↑s1) 2 none;assignInOrder [λv=>bindName X.env y v,λv=>bindName X.env x v] items.reverse;pure Flow.next) _ _ _;refine yv (wpAny_rule (yv (unpackItems_tuple (items:=#[u1,u2]) (I.ok.hd hc) (IsTup.new s1.heap _) λh' hx'=>?_)));let I3:=I2.kept (h':=h') (t':=s1.toks) λb o e=>hx' b o (yk (yz e)) e;show wpAny _ _ (assignInOrder [λv=>bindName X.env y v,λv=>bindName X.env x v] [u2,u1] >>= λ_=>pure Flow.next) _ _ _;refine yv (assignInOrder_cons (wpAny_bindName (kO I3 hN hj (.inl hy) rw' (λs2 I4=>?_) (.inr hy))));refine assignInOrder_cons (wpAny_bindName (kO I4 hN hi (.inl hx) rv (λs3 I5=>assignInOrder_nil (yx ?_)) (.inr hx)));rw[List.set_comm _ _ (Ne.symm hij)] at I5;exact{_,H1,I5,q1}
end
section
variable {X:Cx} {pos:Pos}
def Om (c:TT) (tb:TS):TS:=λD U H=>∃W:Nat->St->Hp->Prop,(∃m,W m U H)/\∀m U H,W m U H->
 c U H λb H1=>if b=true then∃N:St->Hp->Prop,(∀U' H',N U' H'->∃m',m'<m/\W m' U' H')/\tb {D with nx:=N,ct:=N,bk:=D.nx} U H1 else D.nx U H1
def nS (hp:PassesOwn (model X.prog X.w) X.A X.env X.xe) (hc:PT X c tc) (hb:C5 X body tb):PS X (.While c body [] pos) (Om tc tb):=by
 intro pins s U H D I h;let⟨W,⟨m0,w0⟩,turn⟩:=h;refine wpAny_While (codeAny_whileLoop (λn s'=>∃U' H',Inv X pins U' H' s'/\W n U' H') ?_ m0 {U,H,I,w0});rintro n s1 ⟨σ1,H1,I1,w1⟩;refine xU hp (dk (hc s1 σ1 H1 _ I1 (turn n σ1 H1 w1)) λb s2 z0=>?_);let⟨H2,I2,q2⟩:=z0;cases b with
 | true=>
  let⟨N,hN,q2⟩:=q2;rw[yO rfl];refine xU hp (dk (hb s2 σ1 H2 _ I2 q2) λf s3 q3=>?_);cases f with
  | next=>
   let⟨σ3,H3,I3,n3⟩:=q3;let⟨m',hm,w3⟩:=hN σ3 H3 n3;exact{m',hm,σ3,H3,I3,w3}
  | cont=>
   let⟨σ3,H3,I3,n3⟩:=q3;let⟨m',hm,w3⟩:=hN σ3 H3 n3;exact{m',hm,σ3,H3,I3,w3}
  | brk=>exact q3
  | ret v=>exact q3
 | false=>
  rw[yN zN];exact wx {σ1,H2,I2,q2}
end
structure It where
 go:Nat->Hp->Prop
 LH:Nat->Hp->V->Hp->Prop
 stop:Nat->Hp->Prop
def Eu (X:Cx) (pins:List (vD×Obj)) (H:Hp) (b:vD):Prop:=
 H b=none/\b≠X.env.locals/\b∉X.fs/\(b∈X.ex\/X.s₀.heap.objs.size<=b)/\(∀x c,X.env.cells.lookup x=some c->c≠b)/\∀p∈X.pn++pins,p.1≠b
def Inv.DT (I:Inv X pins U H s) (hb:↑s<=b) (hn:H' b=none):Eu X pins H' b:=by
 refine{hn,yj (yd I.lt hb),I.Vg hb,.inr (zO I.sz hb),λx c e z=>?_,λp hp z=>?_}
 ·let⟨v,q⟩:=I.cell x c e
  exact absurd (yd q.lt (by rw[z];exact hb)) (yg _)
 ·exact absurd (yd (yz (I.pin p hp).1) (by rw[z];exact hb)) (yg _)
structure Turn (P:vz) (w:vA) (K:yB) (tg:Expr) (J:It) (fp:List vD) (it:vD) (tn:Nat->vE->Prop):Prop where
 mem:it∈fp
 obj:∀i h,tn i h->∀b∈fp,∃o,h.get? b=some o/\∀v,o.data≠.cell v
 keep:∀i h h',tn i h->(∀b∈fp,∀o,h.get? b=some o->h'.get? b=some o)->tn i h'
 item:∀(X:Cx),X.prog=P->X.w=w->X.K=K->X.calm=true->∀(i:Nat) (pins:List (vD×Obj)) (s:vw) (U:St) (H:Hp) (E:vv->vw->Prop),Inv X pins U H s->(∀b∈fp,Eu X pins H b)->tn i s.heap->J.go i H->
  wpAny (model P w) X.A (pyNext (.ref it)) (λr s1=>∃u,r=some u/\
   wpAny (model P w) X.A (letOwnedTupleGo tg (.ref it) u) (λ_ s2=>∃x H',Inv X pins U H' s2/\RelV x u/\J.LH i H x H'/\tn (i+1) s2.heap/\∀b∈fp,H' b=none) E s1) E s
 done:∀(X:Cx),X.prog=P->X.w=w->X.K=K->X.calm=true->∀(i:Nat) (pins:List (vD×Obj)) (s:vw) (U:St) (H:Hp) (E:vv->vw->Prop),Inv X pins U H s->(∀b∈fp,Eu X pins H b)->tn i s.heap->J.stop i H->
  wpAny (model P w) X.A (pyNext (.ref it)) (λr s1=>r=none/\Inv X pins U H s1) E s
 self:∀(A:vB) (i:Nat) (s:vw) (Q:vv->vw->Prop) (E:vv->vw->Prop),tn i s.heap->Q (.ref it) s->wpAny (model P w) A (pyIter (.ref it)) Q E s
abbrev TI:=St->Hp->(It->Hp->Prop)->Prop
def Xm (X:Cx) (pins:List (vD×Obj)) (U:St) (tg:Expr) (R:It->Hp->Prop) (itv:vv) (s2:vw):Prop:=
 ∃(it:vD) (fp:List vD) (tn:Nat->vE->Prop) (J:It) (H':Hp),itv=.ref it/\Inv X pins U H' s2/\Turn X.prog X.w X.K tg J fp it tn/\tn 0 s2.heap/\(∀b∈fp,Eu X pins H' b)/\R J H'
def PI (X:Cx) (tg iter:Expr) (wi:TI):Prop:=
 ∀⦃pins:List (vD×Obj)⦄ (s:vw) (U:St) (H:Hp) (R:It->Hp->Prop),Inv X pins U H s->wi U H R->
  wpAny (model X.prog X.w) X.A (eval iter X.env) (λv s1=>wpAny (model X.prog X.w) X.A (pyIter v) (Xm X pins U tg R) X.xe s1) X.xe s
def E2 (ho:s.heap.get? it=some o) (hc:o.cls=.type n) (hd:o.data=.fields vs)
    (hn:["enumerate","zip","dict_itemiterator","dict_reverseitemiterator","odict_iterator","itertools.zip_longest","itertools.pairwise"].contains n=false) (hQ:Q .unit s):wpAny M A (letOwnedTupleGo tg (.ref it) u) Q E s:=by
  unfold letOwnedTupleGo;cases tg <;> first
    | exact yx hQ
    | (cases u <;> first
        | exact yx hQ
        | (refine yv (wpAny_load ho ?_)
           rw[hc,hd];show wpAny M A (if(["enumerate","zip","dict_itemiterator","dict_reverseitemiterator","odict_iterator","itertools.zip_longest","itertools.pairwise"].contains n&&vs[0]? == some (rawInt _))=true then _ else _) Q E s;rw[yN (by intro h;rw[hn,yU] at h;cases h)];exact yx hQ))
noncomputable def N3 (K:yB) (a:vD):It:=
 {λi H=>∃xs x,gx K H a xs/\xs[i]?=some x,λi H x H'=>H'=H/\∀xs,gx K H a xs->xs[i]?=some x,λi H=>∃xs,gx K H a xs/\⇑xs<=i}
noncomputable def SF (K:yB) (a:vD):It:=
 {λi H=>∃xs x,qM K H a xs/\xs[i]?=some x,λi H x H'=>H'=H/\∀xs,qM K H a xs->xs[i]?=some x,λi H=>∃xs,qM K H a xs/\⇑xs<=i}
noncomputable def Qy (lo:Int) (n:Nat):It:={λi _=>i<n,λi H x H'=>H'=H/\x=.int (lo+i),λi _=>n<=i}
def MA {P:vz} {w:vA} {K:yB} {tg:Expr} (a it:vD):Turn P w K tg (N3 K a) [it] it (λi h=>h.IsListIter it a i) where
 mem:=by simp
 obj:=λi h st b hb=>by
  let e:b=it:=by simpa using hb
  subst e;let⟨o,e,c,d⟩:=st;exact{o,e,λv z=>by rw[d] at z;cases z}
 keep:=λi h h' st k=>st.at λo e=>k it (by simp) o e
 item:=by
  intro X hP hw hK hc i pins s U H E I hf st hg;subst hP hw hK;let⟨xs,x,hq,hx⟩:=hg;let⟨its,rv,p,hz⟩:=I.list hq;let⟨u,hu,ru⟩:=rv.get hx;let⟨f0,f1,f2,f3,f4,f5⟩:=hf it (by simp);refine wpAny_pyNext_list_item st p.isList (x:=u) (by simpa using hu) λh' st' sb=>?_;let I1:Inv X pins U H {s with heap:=h'}:=I.turned (t':=s.toks) (λb o hb e=>(sb.2 b hb).trans e) f0 f1 f3 f4 f5;let⟨o,e,c,d⟩:=id st';exact{u,rfl,E2 (s:={s with heap:=h'}) e c d ∅ {x,H,I1,ru,{rfl,λys hy=>by rw[I.B0 hy hq];exact hx},st',λb hb=>(hf b hb).1}}
 done:=by
  intro X hP hw hK hc i pins s U H E I hf st hg;subst hP hw hK;let⟨xs,hq,hx⟩:=hg;let⟨its,rv,p,hz⟩:=I.list hq;let⟨f0,f1,f2,f3,f4,f5⟩:=hf it (by simp);let hl:=⇑rv;exact wpAny_pyNext_list_end (I.ok.hd hc) st p.isList (by simp;ext) λh' eb=>{rfl,I.turned (t':=s.toks) (λb o hb e=>eb b o hb e) f0 f1 f3 f4 f5}
 self:=λ_ _ _ _ _ st h=>wpAny_pyIter_listiter st h
def J9 {P:vz} {w:vA} {K:yB} {tg:Expr} (a it:vD):Turn P w K tg (SF K a) [it] it (λi h=>h.IsTupleIter it a i) where
 mem:=by simp
 obj:=λi h st b hb=>by
  let e:b=it:=by simpa using hb
  subst e;let⟨o,e,c,d⟩:=st;exact{o,e,λv z=>by rw[d] at z;cases z}
 keep:=λi h h' st k=>st.at λo e=>k it (by simp) o e
 item:=by
  intro X hP hw hK hc i pins s U H E I hf st hg;subst hP hw hK;let⟨xs,x,hq,hx⟩:=hg;let⟨its,rv,p,hz⟩:=I.tuple hq;let⟨u,hu,ru⟩:=rv.get hx;let⟨f0,f1,f2,f3,f4,f5⟩:=hf it (by simp);refine wpAny_pyNext_tuple_item st (show s.heap.IsTuple a its.toArray from p) (x:=u) (by simpa using hu) λh' st' sb=>?_;let I1:Inv X pins U H {s with heap:=h'}:=I.turned (t':=s.toks) (λb o hb e=>(sb.2 b hb).trans e) f0 f1 f3 f4 f5;let⟨o,e,c,d⟩:=id st';exact{u,rfl,E2 (s:={s with heap:=h'}) e c d ∅ {x,H,I1,ru,{rfl,λys hy=>by rw[I.EB hy hq];exact hx},st',λb hb=>(hf b hb).1}}
 done:=by
  intro X hP hw hK hc i pins s U H E I hf st hg;subst hP hw hK;let⟨xs,hq,hx⟩:=hg;let⟨its,rv,p,hz⟩:=I.tuple hq;let⟨f0,f1,f2,f3,f4,f5⟩:=hf it (by simp);let hl:=⇑rv;exact wpAny_pyNext_tuple_end (I.ok.hd hc) st (show s.heap.IsTuple a its.toArray from p) (by simp;ext) λh' eb=>{rfl,I.turned (t':=s.toks) (λb o hb e=>eb b o hb e) f0 f1 f3 f4 f5}
 self:=λ_ _ _ _ _ st h=>wpAny_pyIter_tupleiter st h
def Ka {P:vz} {w:vA} {K:yB} {tg:Expr} (it:vD) (lo:Int) (n:Nat):Turn P w K tg (Qy lo n) [it] it (λi h=>IsRangeIter h it (lo+(i:Nat)*1) ((n:Int)-(i:Nat)) 1) where
 mem:=by simp
 obj:=λi h st b hb=>by
  let e:b=it:=by simpa using hb
  subst e;exact{_,st,λv z=>by
   let z':Data.fields _=Data.cell v:=z;cases z'}
 keep:=λi h h' st k=>k it (by simp) _ st
 item:=by
  intro X hP hw hK hc i pins s U H E I hf st hg;subst hP hw hK;let⟨f0,f1,f2,f3,f4,f5⟩:=hf it (by simp);let W:=Walks.range (prog:=X.prog) (w:=X.w) (I.ok.hd hc) it lo 1 n;refine W.item i s _ _ hg st λv h' tk hv st' kk=>?_;let⟨t,rfl⟩:=hv;let I1:Inv X pins U H {s with heap:=h',toks:=tk}:=I.turned (λb o hb e=>kk b o (by simpa using hb) e) f0 f1 f3 f4 f5;refine{_,rfl,E2 (s:={s with heap:=h',toks:=tk}) (n:="range_iterator") st' rfl rfl ∅ {.int (lo+i),H,I1,{t,?_},{(rfl),rfl},st',λb hb=>(hf b hb).1}};rw[Int.mul_one]
 done:=by
  intro X hP hw hK hc i pins s U H E I hf st hg;subst hP hw hK;let⟨f0,f1,f2,f3,f4,f5⟩:=hf it (by simp);exact wpAny_pyNext_range_end (I.ok.hd hc) st (by have:n<=i:=hg;ext) λh' eb=>{rfl,I.turned (t':=s.toks) (λb o hb e=>eb b o hb e) f0 f1 f3 f4 f5}
 self:=λ_ _ _ _ _ st h=>wpAny_pyIter_rangeiter st h
end L2
namespace L2
open PySem PySem.Spec PyProof.Rows
section
variable {X:Cx} {tg:Expr}
def Mc (K:yB) (tl:TE):TI:=λU H R=>tl U H λx H1=>∃a,x=.ref a/\(∃xs,gx K H1 a xs)/\R (N3 K a) H1
def WW (K:yB) (tl:TE):TI:=λU H R=>tl U H λx H1=>∃a,x=.ref a/\(∃xs,qM K H1 a xs)/\R (SF K a) H1
def bB {l:Expr} {tl:TE} (hl:PE X l tl):PI X tg l (Mc X.K tl):=by
 intro pins s U H R I h;refine dk (hl s U H _ I h) λv s1 z0=>?_;let⟨x,H1,I1,r1,q1⟩:=z0;let⟨a,e,⟨xs,hq⟩,q⟩:=q1;subst e;cases r1;let⟨its,rv,p,hz⟩:=I1.list hq;refine wJ p.isList ?_;refine{↑s1,[↑s1],_,_,H1,rfl,I1.kept (t':=s1.toks) λb o e=>yw _ e,MA a _,{_,yy _ rfl,rfl,rfl},λb hb=>?_,q};let e:b=↑s1:=by simpa using hb
 subst e;exact I1.DT (zm _) (I1.cB.fresh (zm _))
def ko {l:Expr} {tl:TE} (hl:PE X l tl):PI X tg l (WW X.K tl):=by
 intro pins s U H R I h;refine dk (hl s U H _ I h) λv s1 z0=>?_;let⟨x,H1,I1,r1,q1⟩:=z0;let⟨a,e,⟨xs,hq⟩,q⟩:=q1;subst e;cases r1;let⟨its,rv,p,hz⟩:=I1.tuple hq;refine wpAny_pyIter_tuple (show s1.heap.IsTuple a its.toArray from p) ?_;refine{↑s1,[↑s1],_,_,H1,rfl,I1.kept (t':=s1.toks) λb o e=>yw _ e,J9 a _,{_,yy _ rfl,rfl,rfl},λb hb=>?_,q};let e:b=↑s1:=by simpa using hb
 subst e;exact I1.DT (zm _) (I1.cB.fresh (zm _))
def Il {pins:List (vD×Obj)} {U:St} {H:Hp} {s:vw} {R:It->Hp->Prop} {E:vv->vw->Prop} {lo hi:Int} {t u v:Tok} {tk:Nat} (I:Inv X pins U H s) (h1:-(2^62)<=lo) (h2:lo<2^62) (h3:-(2^62)<=hi) (h4:hi<2^62)
  (q:R (Qy lo (hi-lo).toNat) H):wpAny (model X.prog X.w) X.A (pyIter (.ref ↑s)) (Xm X pins U tg R) E {s with heap:=s.heap.push {cls:=.type "range",data:=.fields #[.int lo t,.int hi u,.int 1 v]},toks:=tk}:=by
 refine wpAny_pyIter_range (IsRange.new ..) (small_one h1 h2 h3 h4) ?_;let I1:Inv X pins U H {s with heap:=s.heap.push {cls:=.type "range",data:=.fields #[.int lo t,.int hi u,.int 1 v]},toks:=tk}:=I.kept λb o e=>yw _ e;refine{(s.heap.push {cls:=.type "range",data:=.fields #[.int lo t,.int hi u,.int 1 v]}).objs.size,[(s.heap.push {cls:=.type "range",data:=.fields #[.int lo t,.int hi u,.int 1 v]}).objs.size],_,_,H,rfl,
  I1.kept (t':=tk) λb o e=>yw _ e,Ka _ lo (hi-lo).toNat,?_,λb hb=>?_,q}
 ·let e1:lo+((0:Nat):Int)*1=lo:=by simp
  let e2:(((hi-lo).toNat:Nat):Int)-((0:Nat):Int)=Builtin.Range.rangeSize lo hi 1:=by rw[rangeSize_one];split <;> ext
  show IsRangeIter _ _ (lo+((0:Nat):Int)*1) ((((hi-lo).toNat:Nat):Int)-((0:Nat):Int)) 1;rw[e1,e2];exact yy _ rfl
 ·let e:b=(s.heap.push {cls:=.type "range",data:=.fields #[.int lo t,.int hi u,.int 1 v]}).objs.size:=by simpa using hb
  subst e;exact I1.DT (zm _) (I1.cB.fresh (zm _))
def PM (ta:TA):TI:=λU H R=>ta U H λvs H1=>∃j:Int,vs=[.int j]/\-(2^62)<=j/\j<2^62/\R (Qy 0 j.toNat) H1
def Vq (ta:TA):TI:=λU H R=>ta U H λvs H1=>∃i j:Int,vs=[.int i,.int j]/\(-(2^62)<=i/\i<2^62/\-(2^62)<=j/\j<2^62)/\R (Qy i (j-i).toNat) H1
def dC {a:Expr} {ta:TA} {p pos:Pos} (hg:Gl X "range") (hm:X.mg "range"= none) (ha:PA X [a] ta) (hs:starEach [a] X.env=[(false,eval a X.env)]<|>qe_):PI X tg (.Call (.Name "range" p) [a] [] pos) (PM ta):=by
 intro pins s U H R I h;refine Call_ (lV I hg hm boot_range (yM (dk (ha s U H _ I h) λus s1 z0=>?_) hs rfl));let⟨vs,H1,I1,r1,q1⟩:=z0;let⟨j,e,q1,q2,q⟩:=q1;subst e;cases r1 with
 | cons r rr=>
  cases rr;let⟨t,rfl⟩:=r;exact call_range_1 (Il I1 () () q1 q2 (by simpa using q))
def tM (hg:Gl X "range") (hm:X.mg "range"= none) (ha:PA X [a,b] ta) (hs:starEach [a,b] X.env=[(false,eval a X.env),(false,eval b X.env)]<|>qe_) (hs2:starEach [b] X.env=[(false,eval b X.env)]<|>qe_) :
  PI X tg (.Call (.Name "range" p) [a,b] [] pos) (Vq ta):=by
 intro pins s U H R I h;refine Call_ (lV I hg hm boot_range (yM (dk (ha s U H _ I h) λus s1 z0=>?_) (by rw[hs,hs2]) (by rw[hs2];rfl)));let⟨vs,H1,I1,r1,q1⟩:=z0;let⟨i,j,e,⟨q1,q2,q3,q4⟩,q⟩:=q1;subst e;cases r1 with
 | cons r rr=>
  cases rr with
  | cons r' rr=>
   cases rr;let⟨t,rfl⟩:=r;let⟨t',rfl⟩:=r';exact call_range_2 (Il I1 q1 q2 q3 q4 q)
def SY (wi:TI) (g:TG) (tb:TS):TS:=λD U H=>wi U H λJ H1=>∃W:Nat->Nat->St->Hp->Prop,(∃m,W 0 m U H1)/\∀i m U H,W i m U H->
 (J.stop i H/\D.nx U H)\/(J.go i H/\∃N:St->Hp->Prop,(∀U' H',N U' H'->∃m',m'<m/\W (i+1) m' U' H')/\∀x H',J.LH i H x H'->g x U H' λσ2 H2=>tb {D with nx:=N,ct:=N,bk:=D.nx} σ2 H2)
noncomputable def tL (fp:List vD) (h:vE):List (vD×Obj):=fp.filterMap λb=>(h.get? b).map λo=>(b,o)
def gF (hb:b∈fp) (e:h.get? b=some o):(b,o)∈tL fp h:=vm.mpr {b,hb,by rw[e];rfl}
def M3 (hp:p∈tL fp h):p.1∈fp/\h.get? p.1=some p.2:=by
 let⟨b,hb,e⟩:=vm.mp hp;cases q:h.get? b with
 | none=>rw[q] at e;cases e
 | some o=>
  rw[q] at e;let e':(b,o)=p:=ym e;subst e';exact{(hb),q}
def Inv.pinned (I:Inv X pins U H s) (hf:∀b∈fp,Eu X pins H b) (ho:∀b∈fp,∃o,s.heap.get? b=some o/\∀v,o.data≠.cell v):Inv X (pins++tL fp s.heap) U H s:=
 I.oI λp hp=>(zI.mp hp).elim (λz=>I.pin p (zK _ z)) λz=>by
  let⟨hb,e⟩:=M3 z;let⟨f0,f1,f2,_⟩:=hf p.1 hb;let⟨o,e',d⟩:=ho p.1 hb;rw[e] at e';cases e';exact{(e),f0,f1,f2,d}
def Inv.A3 (I:Inv X (pins++pl) U H s):Inv X pins U H s:=I.oI λp hp=>I.pin p (zK _ (zL _ hp))
def cy (hp:PassesOwn (model X.prog X.w) X.A X.env X.xe) (hc:X.calm=true) (hi:PI X tg iter wi) (hg:PG X tg g) (hb:C5 X body tb)
  (hs:(∀x,foldedSetIterable iter X.env x=pure x)<|>qd_):PS X (.For tg iter body [] pos) (SY wi g tb):=by
 intro pins s U H D I h;refine wpAny_For (dk (hi s U H _ I h) λv s1 h1=>dk h1 λitv s2 h2=>?_) hs;let⟨it,fp,tn,J,H2,e,I2,T,st2,f2,W,⟨m0,w0⟩,turn⟩:=h2;subst e;let stat:∀{H':Hp},(∀b∈fp,H' b=none)->∀b∈fp,Eu X pins H' b:=λhn b hb=>{hn b hb,(f2 b hb).2}
 refine codeAny_forLoop_any (λn s'=>∃i U' H',Inv X pins U' H' s'/\tn i s'.heap/\(∀b∈fp,H' b=none)/\W i n U' H') ?_ m0 {0,U,H2,I2,st2,λb hb=>(f2 b hb).1,w0};rintro n s3 ⟨i,σ3,H3,I3,st3,fr3,w3⟩;rcases turn i n σ3 H3 w3 with⟨stop,qn⟩ | ⟨go,N,hN,step⟩
 ·refine xU hp (dk (T.done X rfl rfl rfl hc i pins s3 σ3 H3 X.xe I3 (stat fr3) st3 stop) λr s4 ⟨hr,I4⟩=>?_)
  subst hr;exact wx {σ3,H3,I4,qn}
 ·refine xU hp (dk (T.item X rfl rfl rfl hc i pins s3 σ3 H3 X.xe I3 (stat fr3) st3 go) λr s4 ⟨u,hr,h4⟩=>?_)
  subst hr;refine xU hp (dk h4 λ_ s5 z0=>?_);let⟨x,H5,I5,r5,y5,st5,fr5⟩:=z0;let I5':=I5.pinned (stat fr5) (T.obj _ _ st5);refine xU hp (dk (hg _ s5 σ3 H5 x u _ I5' r5 (step x H5 y5)) λ_ s6 z0=>?_);let⟨σ6,H6,I6,q6⟩:=z0;refine xU hp (dk (hb s6 σ6 H6 _ I6 q6) λf s7 q7=>?_);let again:∀{σ7:St} {H7:Hp},Inv X (pins++tL fp s5.heap) σ7 H7 s7->N σ7 H7->∃m,m<n/\∃i U' H',Inv X pins U' H' s7/\tn i s7.heap/\(∀b∈fp,H' b=none)/\W i m U' H':=λ{σ7 H7} I7 n7=>by
   let⟨m',hm,w7⟩:=hN σ7 H7 n7;refine{m',hm,i+1,σ7,H7,I7.A3,T.keep _ _ _ st5 λb hb o e=>(I7.pin (b,o) (zK _ (zK _ (gF hb e)))).1,λb hb=>?_,w7};let⟨o,e,d⟩:=T.obj _ _ st5 b hb;exact(I7.pin (b,o) (zK _ (zK _ (gF hb e)))).2.1
  cases f with
  | next=>let⟨σ7,H7,I7,n7⟩:=q7;exact again I7 n7
  | cont=>let⟨σ7,H7,I7,n7⟩:=q7;exact again I7 n7
  | brk=>let⟨σ7,H7,I7,q7⟩:=q7;exact{σ7,H7,I7.A3,q7}
  | ret v=>let⟨x7,σ7,H7,I7,r7,q7⟩:=q7;exact{x7,σ7,H7,I7.A3,r7,q7}
end
def dG {K:yB} {a:vD} {xs:List V} {g:TG} {tb:TS} {D:Ends} {U:St} {H:Hp} (Pv:Nat->St->Hp->Prop) (h0:Pv 0 U H) (hl:∀i U H,i<=⇑xs->Pv i U H->gx K H a xs)
  (hs:∀i x U H,xs[i]?=some x->Pv i U H->g x U H λσ2 H2=>tb {D with nx:=Pv (i+1),ct:=Pv (i+1),bk:=D.nx} σ2 H2) (hd:∀U H,Pv ⇑xs U H->D.nx U H) :
  ∃W:Nat->Nat->St->Hp->Prop,(∃m,W 0 m U H)/\∀i m U H,W i m U H->
   ((N3 K a).stop i H/\D.nx U H)\/((N3 K a).go i H/\∃N:St->Hp->Prop,(∀U' H',N U' H'->∃m',m'<m/\W (i+1) m' U' H')/\∀x H',(N3 K a).LH i H x H'->g x U H' λσ2 H2=>tb {D with nx:=N,ct:=N,bk:=D.nx} σ2 H2):=by
 refine{λi m U H=>m=⇑xs-i/\i<=⇑xs/\Pv i U H,{⇑xs,by simp,yh _,h0},?_};rintro i m U H ⟨rfl,hi,p⟩;let q:=hl i U H hi p
 by_cases hlt:i<⇑xs
 ·refine .inr {{xs,xs[i],q,by simp[hlt]},Pv (i+1),λU' H' p'=>{⇑xs-(i+1),(),rfl,hlt,p'},λx H' y=>?_}
  let⟨e,y⟩:=y;subst e;exact hs i x U _ (y xs q) p
 ·let e:i=⇑xs:=()
  subst e;exact .inl {{xs,q,zm _},hd U H p}
def Me {K:yB} {a:vD} {xs:List V} {g:TG} {tb:TS} {D:Ends} {U:St} {H:Hp} (Pv:Nat->St->Hp->Prop) (h0:Pv 0 U H) (hl:∀i U H,i<=⇑xs->Pv i U H->qM K H a xs)
  (hs:∀i x U H,xs[i]?=some x->Pv i U H->g x U H λσ2 H2=>tb {D with nx:=Pv (i+1),ct:=Pv (i+1),bk:=D.nx} σ2 H2) (hd:∀U H,Pv ⇑xs U H->D.nx U H) :
  ∃W:Nat->Nat->St->Hp->Prop,(∃m,W 0 m U H)/\∀i m U H,W i m U H->
   ((SF K a).stop i H/\D.nx U H)\/((SF K a).go i H/\∃N:St->Hp->Prop,(∀U' H',N U' H'->∃m',m'<m/\W (i+1) m' U' H')/\∀x H',(SF K a).LH i H x H'->g x U H' λσ2 H2=>tb {D with nx:=N,ct:=N,bk:=D.nx} σ2 H2):=by
 refine{λi m U H=>m=⇑xs-i/\i<=⇑xs/\Pv i U H,{⇑xs,by simp,yh _,h0},?_};rintro i m U H ⟨rfl,hi,p⟩;let q:=hl i U H hi p
 by_cases hlt:i<⇑xs
 ·refine .inr {{xs,xs[i],q,by simp[hlt]},Pv (i+1),λU' H' p'=>{⇑xs-(i+1),(),rfl,hlt,p'},λx H' y=>?_}
  let⟨e,y⟩:=y;subst e;exact hs i x U _ (y xs q) p
 ·let e:i=⇑xs:=()
  subst e;exact .inl {{xs,q,zm _},hd U H p}
def gH {lo:Int} {n:Nat} {g:TG} {tb:TS} {D:Ends} {U:St} {H:Hp} (Pv:Nat->St->Hp->Prop) (h0:Pv 0 U H)
  (hs:∀i U H,i<n->Pv i U H->g (.int (lo+i)) U H λσ2 H2=>tb {D with nx:=Pv (i+1),ct:=Pv (i+1),bk:=D.nx} σ2 H2) (hd:∀U H,Pv n U H->D.nx U H) :
  ∃W:Nat->Nat->St->Hp->Prop,(∃m,W 0 m U H)/\∀i m U H,W i m U H->
   ((Qy lo n).stop i H/\D.nx U H)\/((Qy lo n).go i H/\∃N:St->Hp->Prop,(∀U' H',N U' H'->∃m',m'<m/\W (i+1) m' U' H')/\∀x H',(Qy lo n).LH i H x H'->g x U H' λσ2 H2=>tb {D with nx:=N,ct:=N,bk:=D.nx} σ2 H2):=by
 refine{λi m U H=>m=n-i/\i<=n/\Pv i U H,{n,by simp,yh _,h0},?_};rintro i m U H ⟨rfl,hi,p⟩
 by_cases hlt:i<n
 ·refine .inr {hlt,Pv (i+1),λU' H' p'=>{n-(i+1),(),rfl,hlt,p'},λx H' y=>?_}
  let⟨e,y⟩:=y;subst e y;exact hs i U _ hlt p
 ·let e:i=n:=()
  subst e;exact .inl {zm _,hd U H p}
end L2
namespace L2
open PySem PySem.Spec PyProof.Rows
abbrev R2:=V->V->Hp->VK->Prop
def oy (X:Cx) (f:vv->vv->Sem vv) (r:R2):Prop:=
 ∀(pins:List (vD×Obj)) (s:vw) (U:St) (H:Hp) (x y:V) (v u:vv) (Q:VK),Inv X pins U H s->RelV x v->RelV y u->r x y H Q->
  wpAny (model X.prog X.w) X.A (f v u) (EP X pins U Q) X.xe s
def Xa (X:Cx) (f:vv->Sem vv) (r:V->Hp->VK->Prop):Prop:=
 ∀(pins:List (vD×Obj)) (s:vw) (U:St) (H:Hp) (x:V) (v:vv) (Q:VK),Inv X pins U H s->RelV x v->r x H Q->
  wpAny (model X.prog X.w) X.A (f v) (EP X pins U Q) X.xe s
def fo (X:Cx) (f:vv) (r:List V->Hp->VK->Prop):Prop:=
 ∀(pins:List (vD×Obj)) (s:vw) (U:St) (H:Hp) (xs:List V) (us:List vv) (Q:VK),Inv X pins U H s->Vals xs us->r xs H Q->
  wpAny (model X.prog X.w) X.A (call f us) (EP X pins U Q) X.xe s
def fW (r:R2) (ta tb:TE):TE:=λU H Q=>ta U H λx H1=>tb U H1 λy H2=>r x y H2 Q
def Xv (r:V->Hp->VK->Prop) (ta:TE):TE:=λU H Q=>ta U H λx H1=>r x H1 Q
def rI (C:Int->Int->Prop) (g:Int->Int->V):R2:=λx y H Q=>∃i j,x=.int i/\y=.int j/\C i j/\Q (g i j) H
def qP (g:Int->Int->V):R2:=λx y H Q=>∃i j,x=.int i/\y=.int j/\Q (g i j) H
def rU (g:Int->V):V->Hp->VK->Prop:=λx H Q=>∃i,x=.int i/\Q (g i) H
section
variable {X:Cx} {a b c:Expr} {ta tb tc:TE} {pos:Pos}
def Us (ha:PE X a ta) (hb:PE X b tb) {pins:List (vD×Obj)} {s:vw} {U:St} {H:Hp} {R:V->V->Hp->Prop} (I:Inv X pins U H s)
  (h:ta U H λx H1=>tb U H1 λy H2=>R x y H2) {Q:vv->vw->Prop} {f:vv->vv->Sem vv}
  (hf:∀v u s2 x y H2,Inv X pins U H2 s2->RelV x v->RelV y u->R x y H2->wpAny (model X.prog X.w) X.A (f v u) Q X.xe s2) :
  wpAny (model X.prog X.w) X.A (eval a X.env) (λv s₁=>wpAny (model X.prog X.w) X.A (eval b X.env) (λu s₂=>wpAny (model X.prog X.w) X.A (f v u) Q X.xe s₂) X.xe s₁) X.xe s:=by
 refine dk (ha s U H _ I h) λv s1 z0=>?_;let⟨x,H1,I1,r1,q1⟩:=z0;refine dk (hb s1 U H1 _ I1 q1) λu s2 z0=>?_;let⟨y,H2,I2,r2,q2⟩:=z0;exact hf v u s2 x y H2 I2 r1 r2 q2
def aB {op:Operator} {r:R2} (ho:oy X (binaryOp op) r) (ha:PE X a ta) (hb:PE X b tb):PE X (.BinOp a op b pos) (fW r ta tb):=by
 intro pins s U H Q I h;exact wpAny_BinOp (Us ha hb I h λv u s2 x y H2 I2 rx ry q=>ho pins s2 U H2 x y v u Q I2 rx ry q)
def mI (ho:Xa X (unaryOp op) r) (ha:PE X a ta):PE X (.UnaryOp op a pos) (Xv r ta):=by
 intro pins s U H Q I h;refine UnaryOp_ (dk (ha s U H _ I h) λv s1 z0=>?_);let⟨x,H1,I1,r1,q1⟩:=z0;exact ho pins s1 U H1 x v Q I1 r1 q1
def TH {f:vv->vv->Sem vv} {C:Int->Int->Prop} {g:Int->Int->Int}
  (rule:∀(i j:Int) (t u:Tok) (s:vw) (Q:vv->vw->Prop) (E:vv->vw->Prop),C i j->Q (.int (g i j) s.toks) {s with toks:=s.toks+1}->wpAny (model X.prog X.w) X.A (f (.int i t) (.int j u)) Q E s) :
  oy X f (rI C λi j=>.int (g i j)):=by
 intro pins s U H x y v u Q I rx ry h;let⟨i,j,rfl,rfl,hc,q⟩:=h;let⟨t,rfl⟩:=rx;let⟨t',rfl⟩:=ry;exact rule i j t t' s _ _ hc {.int (g i j),H,I.tok _,{_,rfl},q}
def TF {f:vv->vv->Sem vv} {g:Int->Int->Int}
  (rule:∀(i j:Int) (t u:Tok) (s:vw) (Q:vv->vw->Prop) (E:vv->vw->Prop),Q (.int (g i j) s.toks) {s with toks:=s.toks+1}->wpAny (model X.prog X.w) X.A (f (.int i t) (.int j u)) Q E s) :
  oy X f (qP λi j=>.int (g i j)):=by
 intro pins s U H x y v u Q I rx ry h;let⟨i,j,rfl,rfl,q⟩:=h;let⟨t,rfl⟩:=rx;let⟨t',rfl⟩:=ry;exact rule i j t t' s _ _ {.int (g i j),H,I.tok _,{_,rfl},q}
def Ro {f:vv->vv->Sem vv} {g:Int->Int->Bool}
  (rule:∀(i j:Int) (t u:Tok) (s:vw) (Q:vv->vw->Prop) (E:vv->vw->Prop),Q (.bool (g i j)) s->wpAny (model X.prog X.w) X.A (f (.int i t) (.int j u)) Q E s) :
  oy X f (qP λi j=>.bl (g i j)):=by
 intro pins s U H x y v u Q I rx ry h;let⟨i,j,rfl,rfl,q⟩:=h;let⟨t,rfl⟩:=rx;let⟨t',rfl⟩:=ry;exact rule i j t t' s _ _ {.bl (g i j),H,I,rfl,q}
def UC (i j:Int):Prop:=0<j/\j<1073741824
def Xh (i j:Int):Prop:=0<=j/\j<=1000000/\i.natAbs<2^64
def NY (i j:Int):Prop:=(-(2^64)<i/\i<2^64)\/(-(2^64)<j/\j<2^64)
def NY.ok (h:NY i j):IntMulOk i j:=by
 rcases h with⟨h1,h2⟩ | ⟨h1,h2⟩
 ·exact .of_left (intBits_le_64 h1 h2)
 ·exact .of_right (intBits_le_64 h1 h2)
def J8 (k:Nat):(0:Int)<=2^k:=by
 rw[two_pow_cast];exact Int.natCast_nonneg _
def bf:oy X (binaryOp .Add) (qP λi j=>.int (i+j)):=TF λ_ _ _ _ _ _ _ q=>add_int q
def iC:oy X (binaryOp .Sub) (qP λi j=>.int (i-j)):=TF λ_ _ _ _ _ _ _ q=>sub_int q
def d9:oy X (binaryOp .Mult) (rI NY λi j=>.int (i*j)):=TH λ_ _ _ _ _ _ _ hc q=>mul_int q hc.ok
def aZ:oy X (binaryOp .FloorDiv) (rI UC λi j=>.int (i/j)):=TH λi j _ _ _ _ _ hc q=>by
 let h1:(0:Int)<j:=hc.1;let h2:j<1073741824:=hc.2;exact floordiv_int () (by rw[vn i ()];exact q) (.inl (PyProof.noPylong_small ()))
def aX:oy X (binaryOp .Mod) (rI (λ_ j=>0<j) λi j=>.int (i%j)):=TH λi j _ _ _ _ _ hc q=>by
 let h1:(0:Int)<j:=hc;exact mod_int' () (by rw[Int.fmod_eq_emod_of_nonneg i ()];exact q)
def Pg:oy X (binaryOp .Pow) (rI Xh λi j=>.int (i^j.toNat)):=TH λ_ _ _ _ _ _ _ hc q=>pow_int_small hc.1 hc.2.1 hc.2.2 q
def TB:oy X (binaryOp .RShift) (rI (λ_ j=>0<=j) λi j=>.int (i/2^j.toNat)):=TH λi j _ _ _ _ _ hc q=>
 rshift_int hc (by rw[vn i (J8 _)];exact q)
def TC:oy X (binaryOp .BitAnd) (qP λi j=>.int (Builtin.bitAnd i j)):=TF λ_ _ _ _ _ _ _ q=>and_int q
def Xu {f:vv->Sem vv} {g:Int->Int}
  (rule:∀(i:Int) (t:Tok) (s:vw) (Q:vv->vw->Prop) (E:vv->vw->Prop),Q (.int (g i) s.toks) {s with toks:=s.toks+1}->wpAny (model X.prog X.w) X.A (f (.int i t)) Q E s) :
  Xa X f (rU λi=>.int (g i)):=by
 intro pins s U H x v Q I rx h;let⟨i,rfl,q⟩:=h;let⟨t,rfl⟩:=rx;exact rule i t s _ _ {.int (g i),H,I.tok _,{_,rfl},q}
def iw:Xa X (unaryOp .USub) (rU λi=>.int (-i)):=Xu λ_ _ _ _ _ q=>neg_int q
end
noncomputable def QX:V->V->Bool
 | .bT,.bT=>true | .bT,.int _=>true | .int _,.bT=>true | .bT,.bl _=>true | .bl _,.bT=>true | .bT,.str _=>true | .str _,.bT=>true
 | .int _,.int _=>true | .bl _,.bl _=>true | .str _,.str _=>true | .NK _,.NK _=>true
 | .int _,.str _=>true | .str _,.int _=>true | .bl _,.str _=>true | .str _,.bl _=>true
 | _,_=>false
def WH:R2:=λx y H Q=>QX x y=true/\Q (.bl (decide (x=y))) H
def WE:R2:=λx y H Q=>QX x y=true/\Q (.bl (!decide (x=y))) H
def Gy:decide (V.int i=V.int j)=(i == j):=by
 rw[xM];simp
def Qd:decide (V.bl i=V.bl j)=(i == j):=by
 rw[xM];simp
def Gw:decide (V.str i=V.str j)=(i == j):=by
 rw[xM];simp
def Mi:decide (V.NK i=V.NK j)=(i.toList == j.toList):=by
 rw[xM];cases i;cases j;simp
section
variable {X:Cx} {a b c:Expr} {ta tb tc:TE} {pos:Pos}
def cz (I:Inv X pins U H s) (q:Q (.bl k) H) (e:k=k'):EP X pins U Q (.bool k') s:=by
 subst e;exact{.bl k,H,I,rfl,q}
def c9:oy X (compareOp .Eq) WH:=by
 intro pins s U H x y v u Q I rx ry h;let⟨hs,q⟩:=h;cases x with
 | bT=>
  cases rx;cases y with
  | bT=>cases ry;exact PySem.EqNone.eq_none_none (cz I q (by simp))
  | bl j=>cases ry;exact PySem.EqNone.eq_none_bool (cz I q (by simp))
  | int j=>let⟨t',rfl⟩:=ry;exact PySem.EqNone.eq_none_int (cz I q (by simp))
  | str j=>let⟨t',rfl⟩:=ry;exact PySem.EqNone.eq_none_str (cz I q (by simp))
  | _=>exact absurd (show false=true from hs) zN
 | bl i=>
  cases rx;cases y with
  | bT=>cases ry;exact PySem.EqNone.eq_bool_none (cz I q (by simp))
  | bl j=>cases ry;exact eq_bool (cz I q Qd)
  | str j=>let⟨t',rfl⟩:=ry;exact PySem.EqMixed.eq_bool_str (cz I q (by simp))
  | _=>exact absurd (show false=true from hs) zN
 | int i=>
  let⟨t,rfl⟩:=rx;cases y with
  | bT=>cases ry;exact PySem.EqNone.eq_int_none (cz I q (by simp))
  | int j=>let⟨t',rfl⟩:=ry;exact eq_int (cz I q Gy)
  | str j=>let⟨t',rfl⟩:=ry;exact PySem.EqMixed.eq_int_str (cz I q (by simp))
  | _=>exact absurd (show false=true from hs) zN
 | str i=>
  let⟨t,rfl⟩:=rx;cases y with
  | bT=>cases ry;exact PySem.EqNone.eq_str_none (cz I q (by simp))
  | bl j=>cases ry;exact PySem.EqMixed.eq_str_bool (cz I q (by simp))
  | int j=>let⟨t',rfl⟩:=ry;exact PySem.EqMixed.eq_str_int (cz I q (by simp))
  | str j=>let⟨t',rfl⟩:=ry;exact eq_str (cz I q Gw)
  | _=>exact absurd (show false=true from hs) zN
 | NK i=>
  let⟨t,rfl⟩:=rx;cases y with
  | NK j=>let⟨t',rfl⟩:=ry;exact PySem.W.eq_bytes (cz I q Mi)
  | _=>exact absurd (show false=true from hs) zN
 | _=>cases y <;> exact absurd (show false=true from hs) zN
def fP:oy X (compareOp .NotEq) WE:=by
 intro pins s U H x y v u Q I rx ry h;let⟨hs,q⟩:=h;cases x with
 | bT=>
  cases rx;cases y with
  | bT=>cases ry;exact PySem.EqNone.ne_none_none (cz I q (by simp))
  | bl j=>cases ry;exact PySem.EqNone.ne_none_bool (cz I q (by simp))
  | int j=>let⟨t',rfl⟩:=ry;exact PySem.EqNone.ne_none_int (cz I q (by simp))
  | str j=>let⟨t',rfl⟩:=ry;exact PySem.EqNone.ne_none_str (cz I q (by simp))
  | _=>exact absurd (show false=true from hs) zN
 | bl i=>
  cases rx;cases y with
  | bT=>cases ry;exact PySem.EqNone.ne_bool_none (cz I q (by simp))
  | bl j=>cases ry;exact ne_bool (cz I q (y6 not Qd))
  | str j=>let⟨t',rfl⟩:=ry;exact PySem.EqMixed.ne_bool_str (cz I q (by simp))
  | _=>exact absurd (show false=true from hs) zN
 | int i=>
  let⟨t,rfl⟩:=rx;cases y with
  | bT=>cases ry;exact PySem.EqNone.ne_int_none (cz I q (by simp))
  | int j=>let⟨t',rfl⟩:=ry;exact ne_int (cz I q (y6 not Gy))
  | str j=>let⟨t',rfl⟩:=ry;exact PySem.EqMixed.ne_int_str (cz I q (by simp))
  | _=>exact absurd (show false=true from hs) zN
 | str i=>
  let⟨t,rfl⟩:=rx;cases y with
  | bT=>cases ry;exact PySem.EqNone.ne_str_none (cz I q (by simp))
  | bl j=>cases ry;exact PySem.EqMixed.ne_str_bool (cz I q (by simp))
  | int j=>let⟨t',rfl⟩:=ry;exact PySem.EqMixed.ne_str_int (cz I q (by simp))
  | str j=>let⟨t',rfl⟩:=ry;exact ne_str (cz I q (y6 not Gw))
  | _=>exact absurd (show false=true from hs) zN
 | NK i=>
  let⟨t,rfl⟩:=rx;cases y with
  | NK j=>let⟨t',rfl⟩:=ry;exact PySem.W.ne_bytes (cz I q (y6 not Mi))
  | _=>exact absurd (show false=true from hs) zN
 | _=>cases y <;> exact absurd (show false=true from hs) zN
def eX:oy X (compareOp .Lt) (qP λi j=>.bl (decide (i<j))):=Ro λ_ _ _ _ _ _ _ q=>lt_int q
def fQ:oy X (compareOp .LtE) (qP λi j=>.bl (decide (i<=j))):=Ro λ_ _ _ _ _ _ _ q=>le_int q
def fE:oy X (compareOp .Gt) (qP λi j=>.bl (decide (j<i))):=Ro λ_ _ _ _ _ _ _ q=>gt_int q
def EO:oy X (compareOp .GtE) (qP λi j=>.bl (decide (j<=i))):=Ro λ_ _ _ _ _ _ _ q=>ge_int q
def EN:oy X (compareOp .In) (λx y H Q=>∃i j,x=.str i/\y=.str j/\Q (.bl (!(Builtin.Str.occurrences j i 0 ⇑j 1).isEmpty)) H):=by
 intro pins s U H x y v u Q I rx ry h;let⟨i,j,rfl,rfl,q⟩:=h;let⟨t,rfl⟩:=rx;let⟨t',rfl⟩:=ry;exact in_str (cz I q rfl)
def gE (b:Expr) (h:op≠.In<|>qb_) (h2:op≠.NotIn<|>qb_):behindInMarks op b=false:=BX b h h2
def dM (ho:oy X (compareOp op) r) (ha:PE X a ta) (hb:PE X b tb) (hm:behindInMarks op b=false):PE X (.Compare a [op] [b] pos) (fW r ta tb):=by
 intro pins s U H Q I h;exact wpAny_Compare1 (Us ha hb I h λv u s2 x y H2 I2 rx ry q=>ho pins s2 U H2 x y v u Q I2 rx ry q) hm
def o6 (t:TE):TT:=λU H Q=>t U H λx H'=>∃k,x=.bl k/\Q k H'
def gd (ho:oy X (compareOp op) r) (ha:PE X a ta) (hb:PE X b tb) (hm:behindInMarks op b=false):PT X (.Compare a [op] [b] pos) (o6 (fW r ta tb)):=by
 intro pins s U H Q I h;refine wpAny_isTrue_Compare1 (dk (ha s U H _ I h) λv s1 z0=>?_) hm;let⟨x,H1,I1,r1,q1⟩:=z0;refine dk (hb s1 U H1 _ I1 q1) λu s2 z1=>?_;let⟨y,H2,I2,r2,q2⟩:=z1;refine dk (ho pins s2 U H2 x y v u _ I2 r1 r2 q2) λc s3 z2=>?_;let⟨z,H3,I3,r3,k,e,q3⟩:=z2;subst e;cases r3;exact xi {(H3),I3,q3}
def pH (r r':R2) (ta tb tc:TE):TE:=λU H Q=>ta U H λx H1=>tb U H1 λy H2=>r x y H2 λz H3=>∃k,z=.bl k/\
 (if k=true then tc U H3 λw' H4=>r' y w' H4 Q else Q (.bl false) H3)
def BI (ho:oy X (compareOp op) r) (ho':oy X (compareOp op') r') (ha:PE X a ta) (hb:PE X b tb) (hc:PE X c tc)
  (hm:lastMarks [op,op'] [b,c]=false<|>qf_):PE X (.Compare a [op,op'] [b,c] pos) (pH r r' ta tb tc):=by
 intro pins s U H Q I h;refine Compare_chain (dk (ha s U H _ I h) λv s1 z0=>?_) hm;let⟨x,H1,I1,r1,q1⟩:=z0;refine chain_link (dk (hb s1 U H1 _ I1 q1) λu s2 z1=>?_);let⟨y,H2,I2,r2,q2⟩:=z1;refine dk (ho pins s2 U H2 x y v u _ I2 r1 r2 q2) λd s3 z2=>?_;let⟨z,H3,I3,r3,k,e,q3⟩:=z2;subst e;cases r3;refine xi ?_;cases k with
 | false=>exact ite_ff {.bl false,H3,I3,rfl,q3}
 | true=>exact ite_tt (chain_last (dk (hc s3 U H3 _ I3 q3) λw' s4 ⟨z',H4,I4,r4,q4⟩=>ho' pins s4 U H4 y z' u w' Q I4 r2 r4 q4))
def O1 (ho:oy X (compareOp op) r) (ho':oy X (compareOp op') r') (ha:PE X a ta) (hb:PE X b tb) (hc:PE X c tc)
  (hm:lastMarks [op,op'] [b,c]=false<|>qf_):PT X (.Compare a [op,op'] [b,c] pos) (o6 (pH r r' ta tb tc)):=by
 intro pins s U H Q I h;refine isTrue_chain (dk (ha s U H _ I h) λv s1 z0=>?_) hm;let⟨x,H1,I1,r1,q1⟩:=z0;refine test_link (dk (hb s1 U H1 _ I1 q1) λu s2 z1=>?_);let⟨y,H2,I2,r2,q2⟩:=z1;refine dk (ho pins s2 U H2 x y v u _ I2 r1 r2 q2) λd s3 z2=>?_;let⟨z,H3,I3,r3,k,e,q3⟩:=z2;subst e;cases r3;refine xi ?_;cases k with
 | false=>
  let⟨k',e',q'⟩:=q3;cases e';exact ite_ff {(H3),I3,q'}
 | true=>
  refine ite_tt (test_last (dk (hc s3 U H3 _ I3 q3) λw' s4 z0=>?_));let⟨z',H4,I4,r4,q4⟩:=z0;refine dk (ho' pins s4 U H4 y z' u w' _ I4 r2 r4 q4) λd' s5 z1=>?_;let⟨z2,H5,I5,r5,k2,e2,q5⟩:=z1;subst e2;cases r5;exact xi {(H5),I5,q5}
def B1:(sizeLine:Nat)<2^63:=by rw[yC];decide
def b8:oy X (binaryOp .Add) (λx y H Q=>∃i j,x=.str i/\y=.str j/\⇑i+⇑j<=sizeLine/\Q (.str (i++j)) H):=by
 intro pins s U H x y v u Q I rx ry h;let⟨i,j,rfl,rfl,hz,q⟩:=h;let⟨t,rfl⟩:=rx;let⟨t',rfl⟩:=ry;exact add_str (λt' tk=>{.str (i++j),H,I.tok _,{_,rfl},q}) hz
def vals1 (r:Vals [x] us):∃u,us=[u]/\RelV x u:=by
 cases r with
 | cons r1 r2=>cases r2;exact{_,rfl,r1}
def vals2 (r:Vals [x,y] us):∃u w',us=[u,w']/\RelV x u/\RelV y w':=by
 cases r with
 | cons r1 r2=>
  cases r2 with
  | cons r3 r4=>cases r4;exact{_,_,rfl,r1,r3}
def JE:fo X (.builtin "abs") (λxs H Q=>∃i,xs=[.int i]/\Q (.int (if i<0 then -i else i)) H):=by
 intro pins s U H xs us Q I r h;let⟨i,rfl,q⟩:=h;let⟨u,rfl,t,rfl⟩:=vals1 r;exact call_abs_int λu tk=>{.int (if i<0 then -i else i),H,I.tok _,{_,rfl},q}
def NG (hc:X.calm=true):fo X (.builtin "min") (λxs H Q=>∃i j,xs=[.int i,.int j]/\Q (.int (if j<i then j else i)) H):=by
 intro pins s U H xs us Q I r h;let⟨i,j,rfl,q⟩:=h;let⟨u,w',rfl,⟨t,rfl⟩,⟨t',rfl⟩⟩:=vals2 r;refine min_two_ints (I.ok.hd hc) λh' tk k=>{_,H,I.kept k,?_,q}
 by_cases hj:j<i
 ·rw[yO hj,yO hj];exact{_,rfl}
 ·rw[yN hj,yN hj];exact{_,rfl}
def Fb:fo X (.type "int") (λxs H Q=>(∃i,xs=[.int i]/\Q (.int i) H)\/∃k,xs=[.bl k]/\Q (.int (if k then 1 else 0)) H):=by
 intro pins s U H xs us Q I r h;rcases h with⟨i,rfl,q⟩ | ⟨k,rfl,q⟩
 ·let⟨u,rfl,t,rfl⟩:=vals1 r
  exact call_int_int {.int i,H,I,{_,rfl},q}
 ·let⟨u,rfl,r1⟩:=vals1 r
  cases r1;exact call_int_bool {.int (if k then 1 else 0),H,I.tok _,{_,rfl},q}
def aY:fo X (.type "str") (λxs H Q=>∃i,xs=[.int i]/\i.natAbs.log2<1920/\Q (.str (toString i)) H):=by
 intro pins s U H xs us Q I r h;let⟨i,rfl,hz,q⟩:=h;let⟨u,rfl,t,rfl⟩:=vals1 r;exact PySem.P.str_of_int hz {.str _,H,I.tok _,{_,rfl},q}
end
end L2
namespace L2
open PySem PySem.Spec PyProof.Rows
structure NU (h:vE) (x dx C:vD) (mA:Str->Option vv):Prop where
 obj:h.get? x=some (PySem.W.instObj C dx)
 ns:h.Ns1 dx mA
 ne:dx≠x
def Na {h:vE} {dx:vD} {mA:Str->Option vv} (n:h.Ns1 dx mA):∃od,h.get? dx=some od/\∀name,PySem.W.lookIn name od=some (mA name):=by
 let⟨o,es,ep,ho,hd,hk,_,hm⟩:=n;refine{o,ho,λname=>?_};let e:=hm name;unfold nsFind findBy at e;rw[<-Array.find?_toList] at e;unfold PySem.W.lookIn;rw[hd];dsimp only;split
 ·rename_i y q
  rw[q] at e;exact y6 some e
 ·rename_i q
  rw[q] at e;let a:es.toList.any (·.refKey)=false:=by
   rw[vo];intro y hy;let⟨z,t,hkey⟩:=hk y (Array.mem_toList_iff.mp hy);simp[DictEntry.refKey,hkey]
  let a':¬es.toList.any (·.refKey)=true:=by rw[a];exact zN
  rw[yN a'];exact y6 some e
def NU.look (I:NU h x dx C mA):∃od,PySem.W.InstAt h x (PySem.W.instObj C dx) C (some od)/\∀name,PySem.W.lookIn name od=some (mA name):=
 let ⟨od,ho,hl⟩:=Na I.ns
 {od,{(I.obj),rfl,rfl,ho},hl}
section
variable {prog:vz} {w:vA} {A:vB} {E:vv->vw->Prop} {s:vw} {K:yB} {x dx C f:vD} {mA:Str->Option vv} {name:Str} {v:vv}
def get_map (X:K.In s.heap) (I:NU s.heap x dx C mA) (hg:PySem.W.plainGet K C name=true) (hh:PySem.W.hasDictIn K C=true)
  (ha:PySem.W.findIn K (.ref C) name=some none) (hv:mA name=some v) (hv':PySem.W.handedIn v=true) (h:Q v {s with toks:=s.toks+1}) :
  wpAny (model prog w) A (getAttr (.ref x) name expr) Q E s:=by
 let⟨od,J,hl⟩:=I.look;exact PySem.W.get_value X J (PySem.W.plainGet_of hg).1 (PySem.W.findObj_own hh ha rfl (by rw[hl,hv])) hv' h
def QW (X:K.In s.heap) (I:NU s.heap x dx C mA)
  (hs:PySem.W.findIn K (.ref C) "__setattr__"= some (some (.builtin "object.__setattr__"))) (hp:PySem.W.plainOver K C=true) (ht:PySem.W.takerIn K C name=some none) (hh:PySem.W.hasDictIn K C=true)
  (hw:PySem.Within mA ns) (hsz:⇑ns<=sizeLine)
  (h:∀h',NU h' x dx C (λy=>if y=name then some v else mA y)->Heap.SameBut dx s.heap h'->Q .unit {s with heap:=h',toks:=s.toks+2}) :
  wpAny (model prog w) A (setAttr (.ref x) name v) Q E s:=by
 let⟨od,J,hl⟩:=I.look;refine PySem.W.set_plain X J hs (PySem.W.osa_open (s:={s with toks:=s.toks+1}) (r:=none) X J hp ht λb=>?_);let⟨cd,hc,hd'⟩:=PySem.W.any_some hh;let hx:s.heap.get? x=some ⟨.ref C,some dx,.plain,#[]⟩:=I.obj;refine yv (yx (yv (yv (wpAny_loadPart hx (yv (PySem.W.Looks.here (s:={s with toks:=s.toks+1}) (PySem.W.looks_clsIn X hc) ?_))))));rw[hd'];refine yx (a:=some dx) (yv (yx (yv ?_)));refine wpAny_nsSet1 (s:={s with toks:=s.toks+1}) I.ns λh' hn2 hs2=>?_;let⟨oD,esD,epD,hoD,hdD,hcD⟩:=hn2.count (PySem.Within.cons name v hw);refine yv (wpAny_lookBehind hoD (by rw[hdD];exact pastItsLine_dict (zO hcD (by rw[zy];ext))) ?_);exact yx (h _ {(hs2.2 _ (Ne.symm I.ne)).trans I.obj,hn2,I.ne} hs2)
def Pp (X:K.In s.heap) (hm:PySem.W.makesIn K C=true)
  (hi:PySem.W.findIn K (.ref C) "__init__"= some (some (.ref f))) (hf:PySem.W.typeIn K (.ref f)=some (.type "function"))
  (h:codeAny (model prog w) (A.under (.builtin "type.__call__" {.ref C::vs,kw})) (.call (.ref f) {.ref (↑s+1)::vs,kw}) (PySem.W.InitBack (↑s+1) R)
   {s with heap:=(s.heap.push PySem.W.emptyDict).push (PySem.W.instObj C ↑s)}) :
  codeAny (model prog w) A (.call (.ref C) {(vs),kw}) R s:=by
 let⟨hh,g,d,t,os⟩:=s;exact PySem.W.make_core (PySem.W.makes_of X hm) (PySem.W.looks_findIn X hi) (λself=>PySem.W.bind_fn X self hf) (.inl rfl) h
end
noncomputable def bc (f:Str) (v:V):List (Str×V)->List (Str×V)
 | []=>[(f,v)]
 | (g,x)::r=>if g=f then(g,v)::r else(g,x)::bc f v r
theorem uU (f g:Str) (v:V):∀fs:List (Str×V),(bc f v fs).lookup g=if g=f then some v else fs.lookup g
 | []=>by
  show List.lookup g [(f,v)]=_
  by_cases h:g=f
  ·let hb:(g == f)=true:=vh.mpr h
   simp only[List.lookup,hb,yO h]
  ·let hb:(g == f)=false:=xF.mpr h
   simp only[List.lookup,hb,yN h]
 | (k,x)::r=>by
  let ih:=uU f g v r;rw[show bc f v ((k,x)::r)=(if k=f then(k,v)::r else(k,x)::bc f v r) from rfl]
  by_cases hk:k=f
  ·rw[yO hk]
   by_cases h:g=k
   ·let hb:(g == k)=true:=vh.mpr h
    simp only[List.lookup,hb,yO (h.trans hk)]
   ·let hb:(g == k)=false:=xF.mpr h
    simp only[List.lookup,hb,yN (λe:g=f=>h (e.trans hk.symm))]
  ·rw[yN hk]
   by_cases h:g=k
   ·let hb:(g == k)=true:=vh.mpr h
    simp only[List.lookup,hb,yN (λe:g=f=>hk (h.symm.trans e))]
   ·let hb:(g == k)=false:=xF.mpr h
    simp only[List.lookup,hb];exact ih
theorem uc (f:Str) (v:V):∀fs:List (Str×V),f∈(bc f v fs).map (·.1)/\∀g,g∈fs.map (·.1)->g∈(bc f v fs).map (·.1)
 | []=>{by simp[bc],λg h=>by simp at h}
 | (k,x)::r=>by
  let⟨i1,i2⟩:=uc f v r;rw[show bc f v ((k,x)::r)=(if k=f then(k,v)::r else(k,x)::bc f v r) from rfl]
  by_cases hk:k=f
  ·rw[yO hk]
   subst hk;exact{by simp,λg h=>by simpa using h}
  ·rw[yN hk]
   refine{?_,λg h=>?_}
   ·rw[zj]
    exact zp _ i1
   ·rw[zj] at h ⊢
    rcases zF.mp h with e | e
    ·exact zF.mpr (.inl e)
    ·exact zp _ (i2 g e)
theorem uV (f:Str) (v:V):∀fs:List (Str×V),⇑(bc f v fs)<=⇑fs+1
 | []=>by simp[bc]
 | (k,x)::r=>by
  let ih:=uV f v r;rw[show bc f v ((k,x)::r)=(if k=f then(k,v)::r else(k,x)::bc f v r) from rfl]
  by_cases hk:k=f
  ·rw[yO hk,zy,zy];ext
  ·rw[yN hk,zy,zy];ext
def mw.some_of (r:mw (some v) o):∃u,o=some u/\RelV v u:=by
 cases o with
 | none=>exact(show False from r).elim
 | some u=>exact{(u),rfl,r}
def Nk (r:RelV v u):PySem.W.handedIn u=true:=by
 cases v with
 | bT=>cases(show u=Value.none from r);rfl
 | bl b=>cases(show u=Value.bool b from r);rfl
 | int i=>let⟨t,e⟩:=(show∃t,u=Value.int i t from r);cases e;rfl
 | str x=>let⟨t,e⟩:=(show∃t,u=Value.str x t from r);cases e;rfl
 | NK b=>let⟨t,e⟩:=(show∃t,u=Value.bytes b t from r);cases e;rfl
 | Vs b=>let⟨t,e⟩:=(show∃t,u=Value.float b t from r);cases e;rfl
 | ref a=>cases(show u=Value.ref a from r);rfl
 | ty n=>cases(show u=Value.type n from r);rfl
section
variable {P:vz} {w:vA} {H H':Hp} {h h':vE} {a C dx:vD} {fs fs':List (Str×V)}
def Mb (cB:pB P w H h) (e:H a=some (.ins C dx fs)):∃mA,NU h a dx C mA/\(∀f,mw (fs.lookup f) (mA f))/\PySem.Within mA (fs.map (·.1))/\⇑fs<=1000/\H dx=some (.own a):=by
 let⟨d,z,ne,ob,mA,n,r,q⟩:=(show df P w H h a (.ins C dx fs) from cB a _ e)
 exact{mA,{(ob),n,ne},r,q,z,d}
end
structure SH (K:yB) (C:vD):Prop where
 pg:PySem.W.plainGet K C Str.empty=true
 hd:PySem.W.hasDictIn K C=true
 po:PySem.W.plainOver K C=true
 sa:PySem.W.findIn K (.ref C) "__setattr__"= some (some (.builtin "object.__setattr__"))
def SH.get {K:yB} {C:vD} (c:SH K C) (f:Str):PySem.W.plainGet K C f=true:=c.pg
def e9 (K:yB) (C:vD) (f:Str):Prop:=PySem.W.findIn K (.ref C) f=some none
def e9.UU {K:yB} {C:vD} {f:Str} (n:e9 K C f):PySem.W.takerIn K C f=some none:=by
 unfold PySem.W.takerIn;rw[show PySem.W.findIn K (.ref C) f=some none from n];rfl
section
variable {X:Cx} {pins:List (vD×Obj)} {U:St} {H:Hp} {s:vw} {a C dx:vD} {fs:List (Str×V)} {f:Str} {v:V} {A:vB} {E:vv->vw->Prop}
def KZ (I:Inv X pins U H s) (e:H a=some (.ins C dx fs)) (c:SH X.K C) (n:e9 X.K C f) (l:fs.lookup f=some v)
  (h:∀u s',Inv X pins U H s'->RelV v u->Q u s'):wpAny (model X.prog X.w) A (getAttr (.ref a) f b) Q E s:=by
 let⟨mA,O,r,_,_,_⟩:=Mb I.cB e;let⟨u,hu,ru⟩:=mw.some_of (v:=v) (o:=mA f) (by rw[<-l];exact r f);exact get_map I.DR O (c.get f) c.hd n hu (Nk ru) (h u _ (I.tok _) ru)
def Kk (I:Inv X pins U H s) (e:H a=some (.ins C dx fs)) (c:SH X.K C) (n:e9 X.K C f) (hl:⇑fs<1000) (ry:RelV y u)
  (h:∀s',Inv X pins U (upd H a (.ins C dx (bc f y fs))) s'->Q .unit s'):wpAny (model X.prog X.w) A (setAttr (.ref a) f u) Q E s:=by
 let⟨mA,O,r,wi,_,ho⟩:=Mb I.cB e;let hz:⇑(fs.map (·.1))<=sizeLine:=by rw[za,yC];ext
 refine QW I.DR O c.sa c.po n.UU c.hd wi hz λh' O' sb=>h _ ?_;let hd:∃o,h'.get? dx=some o:=let ⟨o,_,_,e',_⟩:=O'.ns;{(o),e'};refine I.write (x:=a) (e:=dx) (by rw[e];exact True.intro) (.inr ho) (λb q hb z=>(sb.2 b hb).trans z) hd ?_;refine{by rw[aE O.ne];exact ho,?_,O.ne,O'.obj,_,O'.ns,λg=>?_,λg hg=>?_}
 ·have:=uV f y fs;ext
 ·show mw ((bc f y fs).lookup g) (if g=f then some u else mA g)
  rw[uU]
  by_cases q:g=f
  ·rw[yO q,yO q];exact ry
  ·rw[yN q,yN q];exact r g
 ·by_cases q:g=f
  ·rw[q];exact(uc f y fs).1
  ·refine(uc f y fs).2 g (wi g λz=>hg ?_)
   show(if g=f then some u else mA g)=none;rw[yN q];exact z
def Inv.made (I:Inv X pins U H s):Inv X pins U (upd (upd H ↑s (.own (↑s+1))) (↑s+1) (.ins C ↑s []))
  {s with heap:=(s.heap.push PySem.W.emptyDict).push (PySem.W.instObj C ↑s)}:=by
 let e1:(s.heap.push PySem.W.emptyDict).get? ↑s=some PySem.W.emptyDict:=yy s.heap rfl;let e2:((s.heap.push PySem.W.emptyDict).push (PySem.W.instObj C ↑s)).get? (↑s+1)=some (PySem.W.instObj C ↑s):=by
  have:=yy (s.heap.push PySem.W.emptyDict) (o:=PySem.W.instObj C ↑s) rfl
  rwa [xm] at this
 let e3:(s.heap.push PySem.W.emptyDict).Ns ↑s (λ_=>none):={PySem.W.emptyDict,#[],_,e1,rfl,(λe he=>absurd he (by simp)),λ_=>rfl}
 let I1:=I.laid (a:=↑s) (o:=.own (↑s+1)) (h':=s.heap.push PySem.W.emptyDict) (t':=s.toks) (λb u q=>yw _ q) (zm _) {_,e1};refine I1.laid (a:=↑s+1) (o:=.ins C ↑s []) (t':=s.toks) (λb u q=>yw _ q) (Nat.le_of_eq (xm _ _)) ?_;let ne:↑s≠↑s+1:=yk (xP _);refine{by rw[aE ne,aF],yh _,ne,e2,λ_=>none,(Heap.Ns1.of_empty e3).at λo q=>yw _ q,λ_=>True.intro,λy hy=>absurd rfl hy}
def RU (hb:attributeBase e f env (eval e env)=eval e env)
  (h:wpAny (model prog w) A (eval e env) (λo s₁=>wpAny (model prog w) A (getAttr o f true) Q E s₁) E s):wpAny (model prog w) A (eval (.Attribute e f pos) env) Q E s:=
 Attribute_any_ h (by rw[arm_eval_Attribute,hb])
end
def QP (K:yB) (ta:TE) (f:Str):TE:=λU H Q=>ta U H λx H1=>∃a C dx fs v,x=.ref a/\H1 a=some (.ins C dx fs)/\SH K C/\e9 K C f/\fs.lookup f=some v/\Q v H1
def WB (K:yB) (ta tv:TE) (f:Str):TS:=λD U H=>tv U H λy H1=>ta U H1 λx H2=>∃a C dx fs,x=.ref a/\H2 a=some (.ins C dx fs)/\SH K C/\e9 K C f/\⇑fs<1000/\
 D.nx U (upd H2 a (.ins C dx (bc f y fs)))
section
variable {X:Cx} {o e value:Expr} {f:Str} {pos pos' tpos:Pos} {ta tv:TE}
def bI (he:PE X e ta) (hb:attributeBase e f X.env (eval e X.env)=eval e X.env):PE X (.Attribute e f pos) (QP X.K ta f):=by
 intro pins s U H Q I h;refine RU hb (dk (he s U H _ I h) λu s1 z0=>?_);let⟨x,H1,I1,rx,a,C,dx,fs,v,ex,ea,c,n,l,q⟩:=z0;subst ex;obtain rfl:u=Value.ref a:=rx;exact KZ I1 ea c n l λu' s2 I2 ru=>{(v),H1,I2,ru,q}
def jw (ha:PE X o ta) (hv:PE X value tv) (hs:swapsWith value (some (.Attribute o f pos')) pos.line X.env=pure false):PS X (.Assign [.Attribute o f pos'] value pos) (WB X.K ta tv f):=by
 intro pins s U H D I h;refine plainObj_wpAny_Assign_Attribute (dk (hv s U H _ I h) λu s1 z0=>?_) hs;let⟨y,H1,I1,ry,q⟩:=z0;refine dk (ha s1 U H1 _ I1 q) λov s2 z1=>?_;let⟨x,H2,I2,rx,a,C,dx,fs,ex,ea,c,n,l,q2⟩:=z1;subst ex;obtain rfl:ov=Value.ref a:=rx;exact Kk I2 ea c n l ry λs3 I3=>{U,_,I3,q2}
end
section
variable {X:Cx} {pins:List (vD×Obj)} {U:St} {H:Hp} {s:vw} {A:vB} {E:vv->vw->Prop} {Q:vv->vw->Prop} {c:vv} {b:Bool}
end
end L2
namespace L2
open PySem PySem.Spec PyProof.Rows
structure fM (k:Nat) (A:vB):Prop where
 hd:A.handled=none
 dp:A.depth+3*k+5<recursionLimit
 un:A.units+16*k+200<cLine
def fM.mono (r:fM k A) (h:j<=k):fM j A:={r.hd,by have:=r.dp;ext,by have:=r.un;ext}
theorem fM.deeper (r:fM (k+1) A) (env:Env):fM k (A.deeper env):=
 {r.hd,by have:=r.dp;show A.depth+1+3*k+5<_;ext,by have:=r.un;show A.units+3+16*k+200<_;ext}
def KR {A:vB} {C:vD} {us:List vv} {kw:List (Str×vv)}:(A.under (.builtin "type.__call__" {.ref C::us,kw})).depth=A.depth+1:=by
 first | rfl | simp[Around.under,Code.weight,Code.isCreation,Code.isGuard,Code.isCaller,Code.frames,Code.isFrame,guardIds]
def KQ {A:vB} {C:vD} {us:List vv} {kw:List (Str×vv)}:(A.under (.builtin "type.__call__" {.ref C::us,kw})).units=A.units+1:=by
 first | rfl | simp[Around.under,Code.cUnits,Code.frames,Code.isFrame]
def fM.make (r:fM (k+1) A) (C:vD) (us:List vv) (kw:List (Str×vv)):fM k (A.under (.builtin "type.__call__" {.ref C::us,kw})):=
 {r.hd,by have:=r.dp;rw[KR];ext,by have:=r.un;rw[KQ];ext}
theorem fM.depth (r:fM k A):A.depth<recursionLimit:=by have:=r.dp;ext
theorem fM.units (r:fM k A):A.units+64<cLine:=by have:=r.un;ext
def fc:TA:=λ_ H Q=>Q [] H
def cj (ta:TE) (tr:TA):TA:=λU H Q=>ta U H λx H1=>tr U H1 λxs H2=>Q (x::xs) H2
section
variable {X:Cx} {e:Expr} {es:List Expr} {te:TE} {t:TA} {pos:Pos}
def af:PA X [] fc:=λ_ _ _ _ H Q I h=>vq {[],H,I,.nil,h}
def ah (ha:PE X e te) (hr:PA X es t) (hs:starEach (e::es) X.env=(false,eval e X.env)::starEach es X.env<|>qe_):PA X (e::es) (cj te t):=by
 intro pos pins s U H Q I h;rw[hs];show wpAny _ _ (spliced ((false,eval e X.env)::backTo pos (starEach es X.env))) _ _ s;refine wD (dk (ha s U H _ I h) λu s1 z0=>?_);let⟨x,H1,I1,r1,q1⟩:=z0;refine dk (hr s1 U H1 _ I1 q1) λus s2 z0=>?_;let⟨xs,H2,I2,r2,q2⟩:=z0;exact{x::xs,H2,I2,.cons r1 r2,q2}
def MG (t:TA):TE:=λU H Q=>t U H λxs H1=>⇑xs<=sizeLine/\∀p,H1 p=none->Q (.ref p) (upd H1 p (.tup xs))
def HC (t:TA):TE:=λU H Q=>t U H λxs H1=>⇑xs<=sizeLine/\∀p,H1 p=none->Q (.ref p) (upd H1 p (.lst xs))
def bM {x1} (h:PA X es t):PE X (.Tuple es x1 pos) (MG t):=by
 intro pins s U H Q I hq;refine wpAny_Tuple_spliced (dk (h s U H _ I hq) λus s1 z0=>?_);let⟨xs,H1,I1,r,z,q⟩:=z0;refine{by rw[<-⇑r];exact z,?_};let hf:H1 ↑s1=none:=I1.cB.fresh (zm _);refine{.ref ↑s1,upd H1 ↑s1 (.tup xs),I1.laid (t':=s1.toks) (λb u e=>yw _ e) (zm _) ?_,rfl,q _ hf};exact{z,us,r,{_,yy _ rfl,rfl,_,rfl}}
def bq (h:PA X es t):PE X (.List es pos) (HC t):=by
 intro pins s U H Q I hq;refine wpAny_List_spliced (dk (h s U H _ I hq) λus s1 z0=>?_);let⟨xs,H1,I1,r,z,q⟩:=z0;refine{by rw[<-⇑r];exact z,?_};let hf:H1 ↑s1=none:=I1.cB.fresh (zm _);refine{.ref ↑s1,upd H1 ↑s1 (.lst xs),I1.laid (t':=s1.toks) (λb u e=>yw _ e) (zm _) ?_,rfl,q _ hf};exact{z,us,0,r,yy _ rfl}
end
abbrev Sp:=List V->Hp->VK->XK->Prop
abbrev JZ:=List Env->Hp->vw->XK->vv->vw->Prop
structure JW (P:vz) (w:vA) (K:yB) (mg:Str->Option vv) (base:vE) (A:vB) (outer:List Env) (s:vw) (H:Hp):Prop where
 frames:A.frames=some outer
 mod:Mod K mg base
 bs:∀b o,base.get? b=some o->s.heap.get? b=some o/\H b=none
 Mq:base.objs.size<=↑s
 l6:s.heap.FunFrames base outer
 DS:∀b∈kB outer,H b=none
 cB:pB P w H s.heap
 bare:AllBare s.gens
def CE (outer:List Env) (P:vz) (w:vA) (H:Hp) (s:vw) (Q:VK) (u:vv) (s':vw):Prop:=
 ∃v H',s'.os=s.os/\AllBare s'.gens/\Un (kB outer) [] H H' s.heap s'.heap/\pB P w H' s'.heap/\RelV v u/\Q v H'
def CR (CX:JZ) (outer:List Env) (P:vz) (w:vA) (H:Hp) (s:vw) (Q:VK) (E:XK) (r:Result) (s':vw):Prop:=
 match r with
 | .ok (.ret u)=>CE outer P w H s Q u s'
 | .ok _=>False
 | .error e=>CX outer H s E e s'
structure dy (P:vz) (w:vA) (K:yB) (mg:Str->Option vv) (base:vE) (CX:JZ) (k:Nat) (f:vD) (fd:vC) (ps:List Str) (sp:Sp):Prop where
 len:∀vs H Q E,sp vs H Q E->⇑vs=⇑ps
 run:∀(A:vB) (outer:List Env) (s:vw) (H:Hp) (args:Args) (us:List vv) (vs:List V) (Q:VK) (E:XK),fM k A->JW P w K mg base A outer s H->BindsTo s fd args (ps.zip us)->Vals vs us->sp vs H Q E->
  codeAny (model P w) A (.call (.ref f) args) (CR CX outer P w H s Q E) s
theorem dy.mono {P:vz} {w:vA} {K:yB} {mg:Str->Option vv} {base:vE} {CX:JZ} {j k:Nat} {f:vD} {fd:vC} {ps:List Str} {sp:Sp} (F:dy P w K mg base CX j f fd ps sp) (h:j<=k) :
  dy P w K mg base CX k f fd ps sp:={F.len,λA outer s H args us vs Q E hr=>F.run A outer s H args us vs Q E (hr.mono h)}
def JW.make {P:vz} {w:vA} {K:yB} {mg:Str->Option vv} {base:vE} {A:vB} {outer:List Env} {s:vw} {H:Hp} (e:JW P w K mg base A outer s H) (C:vD) (us:List vv) (kw:List (Str×vv)) :
  JW P w K mg base (A.under (.builtin "type.__call__" {.ref C::us,kw})) outer s H:={by first | exact e.frames | (simpa[Around.under,Code.envs,Code.isFrame,pushEnvs] using e.frames),e.mod,e.bs,e.Mq,e.l6,e.DS,e.cB,e.bare}
section
variable {X:Cx} {pins:List (vD×Obj)} {U:St} {H:Hp} {s s':vw}
def Inv.RG (I:Inv X pins U H s):JW X.prog X.w X.K X.mg X.base X.A X.stack s H:=
 {I.ok.frames,I.ok.mod,I.bs,zO I.ok.Mq I.sz,I.stack,I.oA,I.cB,I.bare}
def Inv.after (I:Inv X pins U H s) (h:CE X.stack X.prog X.w H s Q u s'):EP X pins U Q u s':=by
 let⟨v,H',os,bare,un,cB,r,q⟩:=h;let⟨hh,g,d,t,os'⟩:=s';obtain rfl:os'=s.os:=os;exact{v,H',I.call (h':=hh) (g':=g) (d':=d) (t':=t) (ch:=[]) un cB bare (λb z=>absurd z (by simp)),r,q}
end
def gz (sp:Sp) (dvs:List V) (E:XK) (t:TA):TE:=λU H Q=>t U H λvs H1=>sp (vs++dvs) H1 Q E
def U0 (C:vD) (sp:Sp) (dvs:List V) (E:XK) (t:TA):TE:=λU H Q=>t U H λvs H1=>∀x dx,H1 x=none->H1 dx=none->dx≠x->
 sp (.ref x::(vs++dvs)) (upd (upd H1 dx (.own x)) x (.ins C dx [])) (λv H2=>v=.bT/\Q (.ref x) H2) E
def Binds (K:yB) (fd:vC) (ps:List Str) (ds:List vv):Prop:=
 ∀(s:vw) (us:List vv),K.In s.heap->⇑(us++ds)=⇑ps->BindsTo s fd {us,[]} (ps.zip (us++ds))
def Binds.all {K:yB} {fd:vC} {ps:List Str} (h:∀us:List vv,⇑us=⇑ps->bindArgs fd {us,[]}=pure (ps.zip us)):Binds K fd ps []:=λs us _ hl=>by
 rw[zX] at hl ⊢;exact .of_eq (h us hl)
def Passes (CX:JZ) (X:Cx) (E:XK):Prop:=∀(pins:List (vD×Obj)) (U:St) (H:Hp) (s:vw) (e:vv) (s':vw),Inv X pins U H s->CX X.stack H s E e s'->X.xe e s'
section
variable {X:Cx} {CX:JZ} {k:Nat} {f C:vD} {fd:vC} {ps:List Str} {sp:Sp} {dvs:List V} {ds:List vv} {E:XK} {x m:Str} {p pos apos:Pos} {e o:Expr} {es:List Expr} {ta:TE} {t:TA}
def OO (F:dy X.prog X.w X.K X.mg X.base CX k f fd ps sp) (hr:fM k X.A) (hb:Binds X.K fd ps ds) (hd:Vals dvs ds) (hx:Passes CX X E)
  (I:Inv X pins U H s) (r:Vals vs us) (h:sp (vs++dvs) H Q E):wpAny (model X.prog X.w) X.A (call (.ref f) us) (EP X pins U Q) X.xe s:=by
 let r2:Vals (vs++dvs) (us++ds):=r.append hd;let hl:⇑(us++ds)=⇑ps:=by rw[<-⇑r2];exact F.len _ _ _ _ h
 refine wpAny_call (xS (F.run X.A X.stack s H {us,[]} (us++ds) (vs++dvs) Q E hr I.RG (hb s us I.DR hl) r2 h) λr s' hq=>?_);cases r with
 | error e=>exact hx pins U H s e s' I hq
 | ok fl=>
  cases fl with
  | ret u=>exact I.after hq
  | next=>exact False.elim hq
  | brk=>exact False.elim hq
  | cont=>exact False.elim hq
def LY (F:dy X.prog X.w X.K X.mg X.base CX k f fd ps sp) (hr:fM k X.A) (hg:Gl X x) (hm:X.mg x=some (.ref f)) (hk:PySem.W.keepIn X.K (.ref f)=true) (hb:Binds X.K fd ps ds) (hd:Vals dvs ds) (hx:Passes CX X E)
  (ha:PA X (e::es) t) (hdb:(x == ("__debug__": Str))=false<|>qb_) (he:starEach (e::es) X.env=(false,eval e X.env)::starEach es X.env<|>qe_) (hpl:(backTo pos (starEach es X.env)).any (·.1)=false<|>qe_) :
  PE X (.Call (.Name x p) (e::es) [] pos) (gz sp dvs E t):=by
 intro pins s U H Q I h;refine xq (iU I hg hm ?_ hdb);refine vj (h₀:=X.base) I.ok.mod.TV hk (dk (ha s U H _ I h) λus s1 z0=>?_) he hpl;let⟨vs,H1,I1,r,q⟩:=z0;refine{I1.DR,?_};exact OO F hr hb hd hx I1 r q
structure Mk (K:yB) (C f:vD):Prop where
 makes:PySem.W.makesIn K C=true
 init:PySem.W.findIn K (.ref C) "__init__"= some (some (.ref f))
 fn:PySem.W.isFn K (.ref f)=true
 kp:PySem.W.keepIn K (.ref C)=true
def ON (M:Mk X.K C f) (F:dy X.prog X.w X.K X.mg X.base CX k f fd ps sp) (hr:fM (k+1) X.A) (hb:Binds X.K fd ps ds) (hd:Vals dvs ds)
  (hx:Passes CX X E) (I:Inv X pins U H s) (r:Vals vs us)
  (h:∀x dx,H x=none->H dx=none->dx≠x->sp (.ref x::(vs++dvs)) (upd (upd H dx (.own x)) x (.ins C dx [])) (λv H2=>v=.bT/\Q (.ref x) H2) E) :
  wpAny (model X.prog X.w) X.A (call (.ref C) us) (EP X pins U Q) X.xe s:=by
 let hq:=h (↑s+1) ↑s (I.cB.fresh (x6 _)) (I.cB.fresh (zm _)) (yk (xP _));let I2:=Inv.made (C:=C) I;let r2:Vals (V.ref (↑s+1)::(vs++dvs)) (Value.ref (↑s+1)::(us++ds)):=.cons rfl (r.append hd);let hl:⇑(Value.ref (↑s+1)::us++ds)=⇑ps:=by
  let e:=⇑r2;rw[F.len _ _ _ _ hq] at e;exact e.symm
 refine wpAny_call (Pp (f:=f) I.DR M.makes M.init (vh.mp M.fn) (xS (F.run _ X.stack _ _ {Value.ref (↑s+1)::us,[]} (Value.ref (↑s+1)::(us++ds)) _ _ E (hr.make C us [])
  (I2.RG.make C us []) (hb _ (Value.ref (↑s+1)::us) I2.DR hl) r2 hq) λr s' hq'=>?_))
 cases r with
 | error e=>exact hx pins U _ _ e s' I2 hq'
 | ok fl=>
  cases fl with
  | ret u=>
   let⟨v,H',I3,rv,ev,q3⟩:=I2.after hq';subst ev;exact{rv,{V.ref (↑s+1),H',I3,rfl,q3}}
  | next=>exact False.elim hq'
  | brk=>exact False.elim hq'
  | cont=>exact False.elim hq'
def Pa (M:Mk X.K C f) (F:dy X.prog X.w X.K X.mg X.base CX k f fd ps sp) (hr:fM (k+1) X.A) (hg:Gl X x) (hm:X.mg x=some (.ref C)) (hb:Binds X.K fd ps ds) (hd:Vals dvs ds) (hx:Passes CX X E)
  (hdb:(x == ("__debug__": Str))=false<|>qb_):PE X (.Call (.Name x p) [] [] pos) (U0 C sp dvs E fc):=by
 intro pins s U H Q I h;refine xq (iU I hg hm ?_ hdb);exact PySem.W.callWith_K0 I.DR M.kp (ON (us:=[]) M F hr hb hd hx I .nil h)
end
section
variable {X:Cx} {CX:JZ} {k:Nat} {f C:vD} {fd:vC} {ps ks:List Str} {sp:Sp} {E:XK} {x m:Str} {p pos apos kpos:Pos} {e o:Expr} {es:List Expr} {kws:List Keyword} {te ta:TE} {t tk:TA} {nm:Option Str}
variable {g:List vv->List vv->List vv} {gV:List V->List V->List V}
end
structure dY (N P:List Str) (sc:Scope):Prop where
 kind:sc.kind=.function
 co:sc.isCoroutine=false
 gen:sc.isGenerator=false
 nd:N.Nodup
 pre:N.take P.length=P
 par:∀x∈P,sc.names.lookup x=some .local\/sc.names.lookup x=some .cell
 TL:∀y∈sc.names,y.2≠.free
theorem Fd {kindOf:Str->Option NameKind} {x:Str}:∀{binds:List (Str×vv)} {m:Str->Option vv},(∀v,(x,v)∉binds)->bindL kindOf binds m x=m x
 | [],_,_=>rfl
 | (n,v)::r,m,h=>by
  unfold bindL;rw[Fd λw hw=>h w (zp _ hw)];split
  ·have:x≠n:=by rintro rfl;exact h v zv
   simp[this]
  ·rfl
theorem Ff {kindOf:Str->Option NameKind} {x:Str}:∀{binds:List (Str×vv)} {m:Str->Option vv},(∀v,(x,v)∉binds)->bindC kindOf binds m x=m x
 | [],_,_=>rfl
 | (n,v)::r,m,h=>by
  unfold bindC;rw[Ff λw hw=>h w (zp _ hw)];split
  ·rfl
  ·have:x≠n:=by rintro rfl;exact h v zv
   simp[this]
theorem Fe {kindOf:Str->Option NameKind} {x:Str} {v:vv}:∀{P:List Str} {vs:List vv} {i:Nat} {m:Str->Option vv},P.Nodup->P[i]?=some x->vs[i]?=some v->kindOf x=some .local->
  bindL kindOf (P.zip vs) m x=some v
 | [],_,_,_,_,h,_,_=>by simp at h
 | _::_,[],_,_,_,_,h,_=>by simp at h
 | p::P,w::vs,0,m,nd,h1,h2,hk=>by
  simp at h1 h2;subst h1;subst h2;show bindL kindOf ((p,w)::P.zip vs) m p=_;unfold bindL;rw[Fd λv hv=>(ye.mp nd).1 (wy hv).1,yO hk];simp
 | p::P,w::vs,i+1,m,nd,h1,h2,hk=>by
  show bindL kindOf ((p,w)::P.zip vs) m x=_;unfold bindL;exact Fe (i:=i) (ye.mp nd).2 (by simpa using h1) (by simpa using h2) hk
theorem Fg {kindOf:Str->Option NameKind} {x:Str} {v:vv}:∀{P:List Str} {vs:List vv} {i:Nat} {m:Str->Option vv},P.Nodup->P[i]?=some x->vs[i]?=some v->kindOf x≠some .local->
  bindC kindOf (P.zip vs) m x=some v
 | [],_,_,_,_,h,_,_=>by simp at h
 | _::_,[],_,_,_,_,h,_=>by simp at h
 | p::P,w::vs,0,m,nd,h1,h2,hk=>by
  simp at h1 h2;subst h1;subst h2;show bindC kindOf ((p,w)::P.zip vs) m p=_;unfold bindC;rw[Ff λv hv=>(ye.mp nd).1 (wy hv).1,yN hk];simp
 | p::P,w::vs,i+1,m,nd,h1,h2,hk=>by
  show bindC kindOf ((p,w)::P.zip vs) m x=_;unfold bindC;exact Fg (i:=i) (ye.mp nd).2 (by simpa using h1) (by simpa using h2) hk
noncomputable def start (N:List Str) (vs:List V):St:=vs.map some++List.replicate (N.length-⇑vs) none
noncomputable def jF (CX:JZ) (P:vz) (w:vA) (K:yB) (mg:Str->Option vv) (base:vE) (N:List Str) (qual:Str) (scope:Scope) (f:vD) (cd:vv) (A:vB) (outer:List Env) (s:vw) (H:Hp) (E:XK):Cx where
 prog:=P
 w:=w
 K:=K
 mg:=mg
 base:=base
 A:=A.deeper (envOfC qual scope ↑s f cd)
 N:=N
 s₀:=s
 H₀:=H
 env:=envOfC qual scope ↑s f cd
 outer:=outer
 stack:=envOfC qual scope ↑s f cd::outer
 ex:=[]
 calm:=true
 fn:=λ_=>true
 pn:=[]
 xe:=λe s'=>wpAny (model P w) (A.deeper (envOfC qual scope ↑s f cd)) (leaving (envOfC qual scope ↑s f cd) e) (λ_ s''=>CX outer H s E e s'') (λe' s''=>CX outer H s E e' s'') s'
def JD {sc:Scope} {n:Nat} {x:Str} (h:sc.names.lookup x=some .cell):∃c,(cellsFrom n sc.names []).lookup x=some c:=by
 let q:=PySem.W.cellsFrom_some sc.names n [] (.inl h);exact Option.isSome_iff_exists.mp q
def Nh {CX:JZ} {P:vz} {w:vA} {K:yB} {mg:Str->Option vv} {base:vE} {N ps:List Str} {qual:Str} {scope:Scope} {f:vD} {cd:vv} {A:vB} {outer:List Env} {s s1:vw} {H:Hp} {E:XK} {us:List vv} {vs:List V}
  (S:dY N ps scope) (hd:A.handled=none) (e0:JW P w K mg base A outer s H) (hl:⇑vs=⇑ps) (r:Vals vs us)
  (x:InCallC s ↑s (bindL (envOfC qual scope ↑s f cd).kindOf (ps.zip us) λ_=>none) (cellsFrom (↑s+1) scope.names []) (bindC (envOfC qual scope ↑s f cd).kindOf (ps.zip us) λ_=>none) s1) :
  Inv (jF CX P w K mg base N qual scope f cd A outer s H E) [] (start N vs) H s1:=by
 let hpl:⇑ps<=N.length:=by have:=y6 List.length S.pre;rw[zT] at this;ext
 let⟨h1,tk,rfl,hk⟩:=x.done;let noA:∀b:vD,b∉(jF CX P w K mg base N qual scope f cd A outer s H E).ex:=λb z=>absurd (show b∈([]:List vD) from z) (by simp);refine{{e0.mod,S.kind,rfl,rfl,zm _,λy z c h1 h2=>?_,λy hy=>?_,λy c _ h=>?_,λ_=>hd,Around.frames_deeper e0.frames,.inr {(rfl),rfl},λb z=>absurd z (noA b),e0.bs,e0.Mq,λb _ _=>noA b,λb z=>absurd z (noA b),e0.l6,e0.DS},
  rfl,e0.bare,Un.kept hk,{_,x.toInCall.ns,λi y v h1 h2 h3=>?_},λy c h=>{_,x.cell y c h},e0.cB.fresh (zm _),λy c h=>?_,λp hp=>absurd (show p∈([]:List (vD×Obj)) from hp) (by simp),e0.cB.kept hk,?_}
 ·exact name_of_addr x.apart (wq h1) (wq h2)
 ·let hy:scope.names.lookup y=some .cell\/scope.names.lookup y=some .free:=hy
  rcases hy with hy | hy
  ·exact JD hy
  ·exact absurd rfl (S.TL _ (wq hy))
 ·exact yi (x.above y c (wq h))
 ·let hi:i<⇑vs:=by
   unfold start at h2
   by_cases hi:i<⇑vs
   ·exact hi
   ·rw[ya (by simpa using hi)] at h2
    rw[List.getElem?_replicate] at h2;split at h2 <;> cases h2
  let ha:vs[i]?=some v:=by
   unfold start at h2;rw[wm (by simpa using hi),zM] at h2;cases e:vs[i]? with
   | none=>rw[e] at h2;cases h2
   | some a=>rw[e] at h2;cases h2;rfl
  let⟨u,hu,rv⟩:=r.get ha;let hp:ps[i]?=some y:=by
   rw[<-S.pre,List.getElem?_take_of_lt ()];exact h1
  let ndP:ps.Nodup:=by rw[<-S.pre];exact S.nd.sublist (List.take_sublist _ _)
  refine{u,rv,?_};rcases S.par y (zE hp) with k | k
  ·exact .inl {k,Fe ndP hp hu k}
  ·let⟨c,e⟩:=JD (n:=↑s+1) k
   refine .inr {.inl k,c,e,?_};let q:=x.cell y c e;rw[Fg ndP hp hu (by show scope.names.lookup y≠_;rw[k];decide)] at q;exact q
 ·exact e0.cB.fresh (yi (x.above y c (wq h)))
 ·unfold start
  show _=N.length;rw[zh,za,List.length_replicate];ext
def Su {CX:JZ} {P:vz} {w:vA} {K:yB} {mg:Str->Option vv} {base:vE} {k:Nat} {f:vD} {name qual:Str} {params:Arguments} {body:List Stmt} {scope:Scope} {dV kV doc pm cdv ct oc:vv} {an od:Option vD}
  {osl:Array (Option vv)} {N ps:List Str} {sp:Sp} (lk:K.lookup f=some {oc,od,.func (PySem.W.fnOf name qual params body scope dV kV doc pm an cdv ct),osl}) (hcd:PySem.W.codeIn K cdv qual=true) (S:dY N ps scope)
  (len:∀vs H Q E,sp vs H Q E->⇑vs=⇑ps)
  (hbody:∀(A:vB) (outer:List Env) (s:vw) (H:Hp) (vs:List V) (Q:VK) (E:XK),fM k (A.deeper (envOfC qual scope ↑s f cdv))->sp vs H Q E->
   ∃t,C5 (jF CX P w K mg base N qual scope f cdv A outer s H E) body t/\t {nx:=λ_ H'=>Q .bT H',rt:=Q} (start N vs) H) :
  dy P w K mg base CX (k+1) f (PySem.W.fnOf name qual params body scope dV kV doc pm an cdv ct) ps sp:=by
 refine{len,λA outer s H args us vs Q E hr e0 hb r hsp=>?_};let hl:=len _ _ _ _ hsp;let KX:K.In s.heap:=e0.mod.TV.keeps λb o e=>(e0.bs b o e).1;let lim:s.heap.NoLimit:=e0.mod.nolimit.keeps λb o e=>(e0.bs b o e).1;let hkind:∀y∈ps.zip us,scope.names.lookup y.1=some .local\/(scope.names.lookup y.1=some .cell/\((cellsFrom (↑s+1) scope.names []).lookup y.1).isSome=true):=λ⟨n,v⟩ hy=>by
  rcases S.par n (wy hy).1 with q | q
  ·exact .inl q
  ·exact .inr {q,PySem.W.cellsFrom_some _ _ _ (.inl q)}
 refine codeAny_call_function hr.depth (KX _ _ lk) rfl S.co S.gen rfl (PySem.W.codeRec_of KX hcd) (hb _ _ _ _ ?_);refine wpAny_newFunctionEnv_cells S.kind hkind λenv he s1 x=>?_;subst he;refine{lim.keeps x.toInCall.keep,codeAny_func ?_};let⟨t,ht,hq⟩:=hbody A outer s H vs Q E (hr.deeper _) hsp;let I:Inv (jF CX P w K mg base N qual scope f cdv A outer s H E) [] (start N vs) H s1:=Nh S hr.hd e0 hl r x;refine xg (ht s1 (start N vs) H _ I hq) (λfl s' hs=>?_) λe s' hs=>hs;let fin:∀{U':St} {H':Hp} {v:V} {u:vv},Inv (jF CX P w K mg base N qual scope f cdv A outer s H E) [] U' H' s'->RelV v u->Q v H'->CE outer P w H s Q u s':=
  λ{U' H' v u} J rv q=>{(v),H',J.os,J.bare,J.base,J.cB,rv,q}
 cases fl with
 | ret u=>
  let⟨v,U',H',J,rv,q⟩:=hs;exact fin J rv q
 | next=>
  let⟨U',H',J,q⟩:=hs;exact fin (v:=V.bT) (u:=Value.none) J rfl q
 | brk=>
  let⟨_,_,_,q⟩:=hs;exact False.elim q
 | cont=>
  let⟨_,_,_,q⟩:=hs;exact False.elim q
end L2
namespace L2
open PySem PySem.Spec PyProof.Rows
section
variable {X:Cx} {x:Str} {p pos:Pos} {e:Expr} {es:List Expr} {t:TA} {id T:String} {r:List V->Hp->VK->Prop}
def LM (r:List V->Hp->VK->Prop) (t:TA):TE:=λU H Q=>t U H λvs H1=>r vs H1 Q
def Pd (hc:fo X (.builtin id) r) (hg:Gl X x) (hm:X.mg x=none) (hv:bootBuiltins x=some (.builtin id)) (ha:PA X (e::es) t) (hn:x≠ "__name__"<|>qb_) (hdb:(x == ("__debug__": Str))=false<|>qb_)
  (he:starEach (e::es) X.env=(false,eval e X.env)::starEach es X.env<|>qe_) (hpl:(backTo pos (starEach es X.env)).any (·.1)=false<|>qe_):PE X (.Call (.Name x p) (e::es) [] pos) (LM r t):=by
 intro pins s U H Q I h;refine xq (lV I hg hm hv ?_ hn hdb);refine PyProof.Rows.callWith_builtin1 (dk (ha s U H _ I h) λus s1 z0=>?_) he hpl;let⟨vs,H1,I1,r1,q1⟩:=z0;exact hc pins s1 U H1 vs us Q I1 r1 q1
def M0 (hc:fo X (.type T) r) (hg:Gl X x) (hm:X.mg x=none) (hv:bootBuiltins x=some (.type T)) (ha:PA X (e::es) t) (hn:x≠ "__name__"<|>qb_) (hdb:(x == ("__debug__": Str))=false<|>qb_)
  (he:starEach (e::es) X.env=(false,eval e X.env)::starEach es X.env<|>qe_) (hpl:(backTo pos (starEach es X.env)).any (·.1)=false<|>qe_):PE X (.Call (.Name x p) (e::es) [] pos) (LM r t):=by
 intro pins s U H Q I h;refine xq (lV I hg hm hv ?_ hn hdb);refine yM (dk (ha s U H _ I h) λus s1 z0=>?_) he hpl;let⟨vs,H1,I1,r1,q1⟩:=z0;exact hc pins s1 U H1 vs us Q I1 r1 q1
end
end L2
namespace HT
open PySem PyProof.Rows
section
open PySem.SeqAt
open PySem.AutoSeq1 (wpAny_loadPart')
open PySem.MeetsSeq PySem.MeetsSeq2 PySem.MeetsSeq3
end
section
variable {prog:vz} {w:vA} {A:vB} {E:vv->vw->Prop} {s:vw}
noncomputable def fA (n d:Nat):Option Int->Nat
 | none=>d
 | some v=>if v<0 then(v+(n:Int)).toNat else min v.toNat n
def Ie (n d:Nat):fA n d none=d:=rfl
def Tf (n d:Nat) (hd:d<=n) (o:Option Int):fA n d o<=n:=by
 cases o with
 | none=>exact hd
 | some v=>
  show(if v<0 then(v+(n:Int)).toNat else min v.toNat n)<=n
  by_cases hv:v<0
  ·rw[yO hv];ext
  ·rw[yN hv];exact Nat.min_le_right _ _
def Mo (v:Int) (n d:Nat):(if v<0 then max (v+(n:Int)) 0 else min v (n:Int))=((fA n d (some v):Nat):Int):=by
 show(if v<0 then max (v+(n:Int)) 0 else min v (n:Int))=(((if v<0 then(v+(n:Int)).toNat else min v.toNat n):Nat):Int)
 by_cases hv:v<0
 ·simp only[yO hv];ext
 ·simp only[yN hv];ext
def Ln (lo hi:Option Int) (n:Nat):Builtin.Slice.sliceAdjust lo hi 1 (n:Int)=(((fA n 0 lo:Nat):Int),((fA n n hi:Nat):Int)):=by
 let h1:¬((1:Int)<0):=()
 unfold Builtin.Slice.sliceAdjust;simp only[h1,wt];refine Prod.ext ?_ ?_
 ·cases lo with
  | none=>rfl
  | some v=>exact Mo v n 0
 ·cases hi with
  | none=>rfl
  | some v=>exact Mo v n n
def KG (i j:Nat):Builtin.Slice.slicePlaces (i:Int) (j:Int) 1=j-i:=by
 unfold Builtin.Slice.slicePlaces;let h1:(1:Int)>0:=()
 simp only[h1,vf,Int.ediv_one];split <;> ext
def Bf (p:IsPart v o) (h:Q o s):wpAny (model prog w) A (Builtin.Slice.slicePartIndex v) Q E s:=by
 cases p with
 | none=>exact slicePart_none h
 | int i t=>exact slicePart_int h
def kP {sl:vD} {vl vu:vv} {lo hi:Option Int} {n:Nat} {Q:Int×Int×Nat->vw->Prop} (hs:s.heap.IsSliceOf sl vl vu .none) (pl:IsPart vl lo) (pu:IsPart vu hi)
  (h:Q (((fA n 0 lo:Nat):Int),1,fA n n hi-fA n 0 lo) s):wpAny (model prog w) A (Builtin.Slice.sliceApplied (.ref sl) (pure (n:Int))) Q E s:=by
 let⟨os,hos,hcs,hds⟩:=id hs;unfold Builtin.Slice.sliceApplied Builtin.Slice.sliceFields;refine yv (yv (y7 hos hds (x:=vl) rfl (yv (y7 hos hds (x:=vu) rfl (yv (y7 hos hds (x:=.none) rfl (yx ?_)))))));refine yv (slicePart_none ?_);show wpAny _ _ (if((1:Int) == 0)=true then _ else _) _ _ s;rw[yN ∅];refine yv (Bf pl (yv (Bf pu (yv (yx ?_)))));show wpAny _ _ (match Builtin.Slice.sliceAdjust lo hi 1 (n:Int) with | (lo,hi)=>pure (lo,(1:Int),Builtin.Slice.slicePlaces lo hi 1)) _ _ s;rw[Ln lo hi n];show wpAny _ _ (pure (((fA n 0 lo:Nat):Int),(1:Int),Builtin.Slice.slicePlaces ((fA n 0 lo:Nat):Int) ((fA n n hi:Nat):Int) 1)) _ _ s;rw[KG];exact yx h
def O7 (xs:Array vv) (i k:Nat):((List.range k).filterMap λ(m:Nat)=>xs[((i:Int)+(m:Int)*1).toNat]?).toArray=((xs.toList.drop i).take k).toArray:=by
 let e:(λ(m:Nat)=>xs[((i:Int)+(m:Int)*1).toNat]?)=λm=>xs[i+m]?:=by
  funext m
  have:((i:Int)+(m:Int)*1).toNat=i+m:=()
  rw[this]
 rw[e];have:=pick_run xs i k;rw[List.filterMap_map] at this;let e2:((λx=>xs[x]?)∘λx=>i+x)=λm=>xs[i+m]?:=rfl;rw[e2] at this;rw[this]
def si {t sl:vD} {items:Array vv} {vl vu:vv} {lo hi:Option Int} {Q:vv->vw->Prop} (ht:IsTup s.heap t items) (hs:s.heap.IsSliceOf sl vl vu .none) (pl:IsPart vl lo) (pu:IsPart vu hi)
  (hw:¬(fA items.size 0 lo=0/\fA items.size items.size hi=items.size))
  (h:Q (.ref ↑s) {s with heap:=s.heap.push {cls:=.type "tuple",data:=.seq ((items.toList.drop (fA items.size 0 lo)).take (fA items.size items.size hi-fA items.size 0 lo)).toArray}})
  (hsz:items.size<=sizeLine):wpAny (model prog w) A (getItem (.ref t) (.ref sl)) Q E s:=by
 let htake:sizeOk (.seq ((items.toList.drop (fA items.size 0 lo)).take (fA items.size items.size hi-fA items.size 0 lo)).toArray):=by
  show((items.toList.drop (fA items.size 0 lo)).take (fA items.size items.size hi-fA items.size 0 lo)).toArray.size<=sizeLine;rw[yc,zT,xC,yQ];ext
 let hj:fA items.size items.size hi<=items.size:=Tf _ _ (zm _) hi;let⟨os,hos,hcs,hds⟩:=id hs;let hTs:s.TypeIs (.ref sl) "slice":={(os),hos,hcs}
 unfold getItem
 try with_reducible refine xI ?_
 first | refine yv (yx ?_) | skip
 refine yv (wpAny_sequenceKey ht.typeIs ∅ ?_);refine yv (yZ (name:=Str.ofString "__getitem__") ht.typeIs xO
  (xb xO ht.typeIs entry_tuple_getitem ?_ (args_tuple_getitem _ _)))
 show wpAny _ _ (Builtin.Tuple.tupleItemsOf (.ref t) >>= _) _ _ s;refine yv (tupleItemsOf_ ht ?_);refine yv (vg hTs ?_);rw[yO ∅];refine yv (kP hs pl pu ?_);let hno:¬((((fA items.size 0 lo:Nat):Int) == 0&&(1:Int) == 1&&(fA items.size items.size hi-fA items.size 0 lo) == items.size)=true):=by
  intro q;rw[zQ,zQ] at q;let q1:((fA items.size 0 lo:Nat):Int)=0:=eq_of_beq q.1.1;let q2:fA items.size items.size hi-fA items.size 0 lo=items.size:=eq_of_beq q.2;exact hw {(()),()}
 show wpAny _ _ (if(((fA items.size 0 lo:Nat):Int) == 0&&(1:Int) == 1&&(fA items.size items.size hi-fA items.size 0 lo) == items.size)=true then _ else _) _ _ s;rw[yN hno,O7]
 first
  | exact yv (m:=Builtin.Tuple.tupleExact _) (xf (yx {_,rfl,yx h}) htake)
  | exact yv (m:=Builtin.Tuple.tupleExact _) (xf (yv (yx (yx {_,rfl,yx h}))) htake)
  | exact yv (yv (m:=Builtin.Tuple.tupleExact _) (xf (yx (yx {_,rfl,yx h})) htake))
  | exact yv (yv (m:=Builtin.Tuple.tupleExact _) (xf (yx {_,rfl,yx h}) htake))
end
end HT
namespace L2
open PySem PySem.Spec PyProof.Rows
abbrev TO:=St->Hp->(Option Int->Hp->Prop)->Prop
def PO (X:Cx) (e:Option Expr) (t:TO):Prop:=
 ∀(pins:List (vD×Obj)) (s:vw) (U:St) (H:Hp) (Q:Option Int->Hp->Prop),Inv X pins U H s->t U H Q->
  wpAny (model X.prog X.w) X.A (evalPart e X.env) (λu s'=>∃o H',Inv X pins U H' s'/\IsPart u o/\Q o H') X.xe s
def Fp:TO:=λ_ H Q=>Q none H
def Oq (t:TE):TO:=λU H Q=>t U H λx H1=>∃i,x=.int i/\Q (some i) H1
def intsAre_of:∀{us:List vv},Vals (ns.map V.int) us->IntsAre us ns:=by
 induction ns with
 | nil=>intro us r;rw[yo] at r;cases r;exact .nil
 | cons n ns ih=>
  intro us r;rw[zj] at r;cases r with
  | cons r1 r2=>
   let⟨t,e⟩:=r1;subst e;exact .cons n t (ih r2)
section
variable {X:Cx} {e:Expr} {te:TE} {lo hi:Option Expr} {tl th:TO} {pos p2:Pos}
def gg:PO X none Fp:=by
 intro pins s U H Q I h;rw[evalPart_none];exact yx {none,H,I,.none,h}
def gf (h:PE X e te):PO X (some e) (Oq te):=by
 intro pins s U H Q I hw;rw[evalPart_some];refine dk (h s U H _ I hw) λu s1 z0=>?_;let⟨x,H1,I1,r1,q1⟩:=z0;let⟨i,rfl,q⟩:=q1;let⟨t,rfl⟩:=r1;exact{some i,H1,I1,.int i t,q}
def Qt (X:Cx) (r:V->Option Int->Option Int->Hp->VK->Prop):Prop:=
 ∀(pins:List (vD×Obj)) (s:vw) (U:St) (H:Hp) (x:V) (v vl vu:vv) (lo hi:Option Int) (sl:vD) (Q:VK),Inv X pins U H s->RelV x v->s.heap.IsSliceOf sl vl vu .none->IsPart vl lo->IsPart vu hi->r x lo hi H Q->
  ∃T id,typeLookup (.type T) "__getitem__"= pure (some (.builtin id))/\s.TypeIs v T/\wpAny (model X.prog X.w) X.A (getItem v (.ref sl)) (EP X pins U Q) X.xe s
def Qt.or (h:Qt X r) (h':Qt X r'):Qt X (λx lo hi H Q=>r x lo hi H Q\/r' x lo hi H Q):=by
 intro pins s U H x v vl vu lo hi sl Q I rx hs pl pu q;rcases q with q | q
 ·exact h pins s U H x v vl vu lo hi sl Q I rx hs pl pu q
 ·exact h' pins s U H x v vl vu lo hi sl Q I rx hs pl pu q
def Wt (r:V->Option Int->Option Int->Hp->VK->Prop) (te:TE) (tl th:TO):TE:=λU H Q=>te U H λx H1=>tl U H1 λl H2=>th U H2 λu H3=>r x l u H3 Q
def eW (hr:Qt X r) (he:PE X e te) (hl:PO X lo tl) (hu:PO X hi th):PE X (.Subscript e (.Slice lo hi none p2) pos) (Wt r te tl th):=by
 intro pins s U H Q I h;refine Subscript_ (dk (he s U H _ I h) λv s1 z0=>?_);let⟨x,H1,I1,r1,q1⟩:=z0;refine wpAny_Slice (dk (hl pins s1 U H1 _ I1 q1) λvl s2 z0=>?_);let⟨l,H2,I2,pl,q2⟩:=z0;refine dk (hu pins s2 U H2 _ I2 q2) λvu s3 z1=>?_;let⟨u,H3,I3,pu,q3⟩:=z1;rw[evalPart_none];refine yx ?_;let I4:Inv X pins U H3 {s3 with heap:=s3.heap.push {cls:=.type "slice",data:=.fields #[vl,vu,.none]}}:=I3.kept (t':=s3.toks) λb ob q=>yw _ q;let⟨T,id,hT,ht,hg⟩:=hr pins {s3 with heap:=s3.heap.push {cls:=.type "slice",data:=.fields #[vl,vu,.none]}} U H3 x v vl vu l u ↑s3 Q I4 r1 (Heap.IsSliceOf.new ..) pl pu q3;show wpAny (model X.prog X.w) X.A (subscriptTail e (.Slice lo hi none p2) v (.ref ↑s3)) (EP X pins U Q) X.xe {s3 with heap:=s3.heap.push {cls:=.type "slice",data:=.fields #[vl,vu,.none]}};exact tail_any (ops:=[.ref ↑s3,v]) ht hT hg (by with_unfolding_all rfl)
noncomputable def kD (xs:List V) (lo hi:Option Int):List V:=(xs.drop (HT.fA ⇑xs 0 lo)).take (HT.fA ⇑xs ⇑xs hi-HT.fA ⇑xs 0 lo)
def vF (xs:List V) (lo hi:Option Int):⇑(kD xs lo hi)<=⇑xs:=by
 unfold kD;rw[zT,xC];ext
def U9 (K:yB):V->Option Int->Option Int->Hp->VK->Prop:=λx lo hi H Q=>∃a xs,x=.ref a/\qM K H a xs/\
 ¬(HT.fA ⇑xs 0 lo=0/\HT.fA ⇑xs ⇑xs hi=⇑xs)/\∀p,H p=none->Q (.ref p) (upd H p (.tup (kD xs lo hi)))
def Tc:Qt X (U9 X.K):=by
 intro pins s U H x v vl vu lo hi sl Q I rx hs pl pu h;let⟨a,xs,rfl,hx,hw,q⟩:=h;cases rx;let⟨its,r,ht,hz⟩:=I.tuple hx;let hlen:its.toArray.size=⇑xs:=by rw[yc];exact r.length.symm
 refine{"tuple",_,xO.lookup,ht.typeIs,?_};refine HT.si ht hs pl pu (by rw[hlen];exact hw) ?_ (by rw[hlen];exact hz);rw[hlen];refine{.ref ↑s,_,I.laid (t':=s.toks) (o:=.tup (kD xs lo hi)) (λb ob q=>yw _ q) (zm _) ?_,rfl,q _ (I.cB.fresh (zm _))};exact{zO (vF xs lo hi) hz,_,(r.drop (HT.fA ⇑xs 0 lo)).take (HT.fA ⇑xs ⇑xs hi-HT.fA ⇑xs 0 lo),IsTup.new _ _}
end
end L2
namespace L2
open PySem PySem.Spec PyProof.Rows
noncomputable def Sn (n:Nat) (i:Int):Option Nat:=if 0<=i then(if i<n then some i.toNat else none) else if -(n:Int)<=i then some (i+n).toNat else none
noncomputable def Ek (xs:List α) (i:Int):Option α:=(Sn ⇑xs i).bind λj=>xs[j]?
def Rx (h:Sn n i=some j):seqIndex? i n=some j/\j<n/\-(n:Int)<=i/\i<n:=by
 unfold Sn at h
 by_cases h0:0<=i
 ·rw[yO h0] at h
  by_cases h1:i<n
  ·rw[yO h1] at h
   let e:i.toNat=j:=ym h;exact{by rw[seqIndex_of h0 h1,e],(),(),h1}
  ·rw[yN h1] at h;cases h
 ·rw[yN h0] at h
  by_cases h1:-(n:Int)<=i
  ·rw[yO h1] at h
   let e:(i+n).toNat=j:=ym h;exact{by rw[seqIndex_neg () h1,e],(),h1,()}
  ·rw[yN h1] at h;cases h
def GX (h:Ek xs i=some v):∃j,seqIndex? i ⇑xs=some j/\xs[j]?=some v/\j<⇑xs/\-(⇑xs:Int)<=i/\i<⇑xs:=by
 unfold Ek at h;cases e:Sn ⇑xs i with
 | none=>rw[e] at h;cases h
 | some j=>
  rw[e] at h;let⟨h1,h2,h3,h4⟩:=Rx e;exact{(j),h1,h,h2,h3,h4}
def bx {α:Type} {xs:List α} {j:Nat} {v:α} (h:xs[j]?=some v):Ek xs (j:Int)=some v:=by
 let hj:j<⇑xs:=(zB.mp h).1;let e:Sn ⇑xs (j:Int)=some j:=by
  unfold Sn;rw[yO (),yO ()];simp
 unfold Ek;rw[e];exact h
def CL (xs:List α) (v:α):Ek (xs++[v]) (-1)=some v:=by
 let hl:⇑(xs++[v])=⇑xs+1:=by simp
 let e:Sn ⇑(xs++[v]) (-1)=some ⇑xs:=by
  unfold Sn;rw[hl,yN ∅,yO ()]
  congr 1
  ext
 unfold Ek;rw[e];show(xs++[v])[⇑xs]?=some v;simp
def sM (b:Expr):Prop:=∀o i,subscripted b false o i=operate [o,i] (getItem o i)
def V0 (X:Cx) (r:R2):Prop:=
 ∀(value slice:Expr) (pins:List (vD×Obj)) (s:vw) (U:St) (H:Hp) (x y:V) (v u:vv) (Q:VK),Inv X pins U H s->RelV x v->RelV y u->r x y H Q->
  subscripted slice false v u=operate [v,u] (getItem v u)->wpAny (model X.prog X.w) X.A (subscriptTail value slice v u) (EP X pins U Q) X.xe s
def XD (X:Cx) (id:String) (r:V->List V->Hp->VK->Prop):Prop:=
 ∀(pins:List (vD×Obj)) (s:vw) (U:St) (H:Hp) (x:V) (xs:List V) (v:vv) (us:List vv) (Q:VK),Inv X pins U H s->RelV x v->Vals xs us->r x xs H Q->
  wpAny (model X.prog X.w) X.A (call (.builtin id) (v::us)) (EP X pins U Q) X.xe s
section
variable {X:Cx} {a b:Expr} {ta tb:TE} {pos:Pos}
def BH (hr:V0 X r) (ha:PE X a ta) (hb:PE X b tb) (hs:sM b):PE X (.Subscript a b pos) (fW r ta tb):=by
 intro pins s U H Q I h;exact Subscript_ (Us ha hb I h λv u s2 x y H2 I2 rx ry q=>hr a b pins s2 U H2 x y v u Q I2 rx ry q (hs _ _))
inductive Q7 (K:yB) (x y:V) (H:Hp) (Q:VK):Prop
 | mk (p:vD) (xs:List V) (i:Int) (v:V) (_:x=.ref p) (_:y=.int i) (_:gx K H p xs) (_:Ek xs i=some v) (_:Q v H)
inductive qd (K:yB) (x y:V) (H:Hp) (Q:VK):Prop
 | mk (p:vD) (xs:List V) (i:Int) (v:V) (_:x=.ref p) (_:y=.int i) (_:qM K H p xs) (_:Ek xs i=some v) (_:Q v H)
def Q6:R2:=λx y H Q=>∃z i c,x=.str z/\y=.int i/\⇑z<=sizeLine/\Ek z.cps.toList i=some c/\Q (.str {#[c]}) H
def Ma:V0 X (Q7 X.K):=by
 intro value slice pins s U H x y v u Q I rx ry h hs;let⟨p,xs,i,z,rfl,rfl,hq,he,q⟩:=h;cases rx;let⟨t,rfl⟩:=ry;let⟨its,r,pl,hz⟩:=I.list hq;let⟨j,h1,h2,h3,h4,h5⟩:=GX he;let⟨w,ew,rw'⟩:=r.get h2;let hl:=⇑r;let hn:=B1;let fin:EP X pins U Q w s:={(z),H,I,rw',q}
 by_cases h0:0<=i
 ·let hj:i.toNat=j:=by
   rw[seqIndex_of h0 h5] at h1;exact ym h1
  exact item_listR pl.isList h0 () (by rw[hj];simpa using ew) fin hs
 ·let hj:(i+(its.toArray.size:Int)).toNat=j:=by
   rw[seqIndex_neg () h4] at h1;rw[yc,<-hl];exact ym h1
  exact subscriptTail_builtinR (x:=w) pl.isList.typeIs slot_list_getitem.lookup
   (wpAny_getItem_list_neg (Q:=λr s'=>r=w/\EP X pins U Q r s') pl.isList () (by rw[yc] <;> ext) () (by rw[hj];simpa using ew) {(rfl),fin}) hs
def T5:V0 X (qd X.K):=by
 intro value slice pins s U H x y v u Q I rx ry h hs;let⟨p,xs,i,z,rfl,rfl,hq,he,q⟩:=h;cases rx;let⟨t,rfl⟩:=ry;let⟨its,r,pl,hz⟩:=I.tuple hq;let⟨j,h1,h2,h3,h4,h5⟩:=GX he;let⟨w,ew,rw'⟩:=r.get h2;let hl:=⇑r;let hn:=B1;let fin:EP X pins U Q w s:={(z),H,I,rw',q}
 exact subscriptTail_builtinR (x:=w) pl.typeIs slot_tuple_getitem.lookup
  (getItem_tuple (j:=j) (Q:=λr s'=>r=w/\EP X pins U Q r s') pl () () (by rw[yc,<-hl];exact h1) (by simpa using ew) {(rfl),fin}) hs
def Gn:V0 X Q6:=by
 intro value slice pins s U H x y v u Q I rx ry h hs;let⟨z,i,c,rfl,rfl,hz,he,q⟩:=h;let⟨t,rfl⟩:=rx;let⟨t',rfl⟩:=ry;let⟨j,h1,h2,h3,h4,h5⟩:=GX he;let hl:⇑z.cps.toList=⇑z:=by simp[Str.length]
 rw[hl] at h1 h4 h5;let hn:=B1;exact tail_any (wO s z t) slot_str_getitem.lookup (getItem_str (c:=c) (by
  let e1:decide (i < -(2^63:Int))=false:=ze ();let e2:decide (i≥2^63)=false:=ze ();rw[e1,e2,Bool.or_false]) (by rw[h1];simpa using h2) {.str {#[c]},H,I.tok _,{_,rfl},q}) hs
def FG (lo hi:Option Int) (n:Nat):(sliceBounds lo hi none n).1=((HT.fA n 0 lo:Nat):Int)/\(sliceBounds lo hi none n).2.1=((HT.fA n n hi:Nat):Int)/\(sliceBounds lo hi none n).2.2=1:=by
 refine{?_,?_,rfl}
 ·cases lo with
  | none=>simp[sliceBounds,HT.fA]
  | some i=>
   simp only[sliceBounds,HT.fA,Option.getD_none,show(1:Int)>0 by decide,vf]
   by_cases h:i<0
   ·simp only[h,vf] <;> ext
   ·simp only[h,wt] <;> ext
 ·cases hi with
  | none=>simp[sliceBounds,HT.fA]
  | some i=>
   simp only[sliceBounds,HT.fA,Option.getD_none,show(1:Int)>0 by decide,vf]
   by_cases h:i<0
   ·simp only[h,vf] <;> ext
   ·simp only[h,wt] <;> ext
def Dm (its:List vv) (lo hi:Option Int):slicePick its.toArray lo hi none=((its.drop (HT.fA ⇑its 0 lo)).take (HT.fA ⇑its ⇑its hi-HT.fA ⇑its 0 lo)).toArray:=by
 let⟨h1,h2,h3⟩:=FG lo hi its.toArray.size;unfold slicePick;rw[h1,h2,h3];simp only[sliceRange_one,pick_run,yc] <;> rfl
def WC (K:yB):V->Option Int->Option Int->Hp->VK->Prop:=λx lo hi H Q=>∃a xs,x=.ref a/\gx K H a xs/\∀p,H p=none->Q (.ref p) (upd H p (.lst (kD xs lo hi)))
def lG:Qt X (WC X.K):=by
 intro pins s U H x v vl vu lo hi sl Q I rx hs pl pu h;let⟨a,xs,rfl,hx,q⟩:=h;cases rx;let⟨its,r,ht,hz⟩:=I.list hx;let hlen:=⇑r;refine{"list",_,slot_list_getitem.lookup,ht.isList.typeIs,?_};refine wpAny_getItem_list_slice ht.isList hs pl pu .none (by simp) ?_ (by rw[yc] <;> ext);rw[Dm,<-hlen];refine{.ref ↑s,_,I.laid (t':=s.toks) (o:=.lst (kD xs lo hi)) (λb ob q=>yw _ q) (zm _) ?_,rfl,q _ (I.cB.fresh (zm _))};exact{zO (vF xs lo hi) hz,_,0,(r.drop (HT.fA ⇑xs 0 lo)).take (HT.fA ⇑xs ⇑xs hi-HT.fA ⇑xs 0 lo),yy _ rfl}
noncomputable def mV:V->Bool
 | .bT=>true
 | .bl _=>true
 | .int _=>true
 | .str _=>true
 | _=>false
noncomputable def RF:V->V->Bool
 | .bT,.bT=>true
 | .bl a,.bl b=>a == b
 | .bl a,.int b=>(if a then 1 else 0) == b
 | .int a,.bl b=>a == (if b then 1 else 0)
 | .int a,.int b=>a == b
 | .str a,.str b=>a == b
 | _,_=>false
def P6 (ry:RelV y u) (rx:RelV x v) (fy:mV y=true) (fx:mV x=true):SeqAt.EqAt A s u v (RF y x):=by
 cases y with
 | bT=>
  cases ry;cases x with
  | bT=>cases rx;exact SeqAt.EqAt.same _
  | bl b=>cases rx;exact SeqAt.EqAt.none_bool b
  | int b=>let⟨t,rfl⟩:=rx;exact SeqAt.EqAt.none_int b t
  | str b=>let⟨t,rfl⟩:=rx;exact SeqAt.EqAt.none_str b t
  | _=>exact absurd (show false=true from fx) zN
 | bl a=>
  cases ry;cases x with
  | bT=>cases rx;exact SeqAt.EqAt.bool_none a
  | bl b=>cases rx;exact SeqAt.EqAt.bool_bool a b
  | int b=>let⟨t,rfl⟩:=rx;exact SeqAt.EqAt.bool_int a b t
  | str b=>let⟨t,rfl⟩:=rx;exact SeqAt.EqAt.bool_str a b t
  | _=>exact absurd (show false=true from fx) zN
 | int a=>
  let⟨t',rfl⟩:=ry;cases x with
  | bT=>cases rx;exact SeqAt.EqAt.int_none a t'
  | bl b=>cases rx;exact SeqAt.EqAt.int_bool a t' b
  | int b=>let⟨t,rfl⟩:=rx;exact SeqAt.EqAt.int_int a t' b t
  | str b=>let⟨t,rfl⟩:=rx;exact SeqAt.EqAt.int_str a t' b t
  | _=>exact absurd (show false=true from fx) zN
 | str a=>
  let⟨t',rfl⟩:=ry;cases x with
  | bT=>cases rx;exact SeqAt.EqAt.str_none a t'
  | bl b=>cases rx;exact SeqAt.EqAt.str_bool a t' b
  | int b=>let⟨t,rfl⟩:=rx;exact SeqAt.EqAt.str_int a t' b t
  | str b=>let⟨t,rfl⟩:=rx;exact SeqAt.EqAt.str_str a t' b t
  | _=>exact absurd (show false=true from fx) zN
 | _=>exact absurd (show false=true from fy) zN
noncomputable def K1 (x:V) (u:vv):Bool:=match u with
 | .none=>RF .bT x
 | .bool b=>RF (.bl b) x
 | .int i _=>RF (.int i) x
 | .str z _=>RF (.str z) x
 | _=>false
def P5 (r:RelV y u) (f:mV y=true):K1 x u=RF y x:=by
 cases y with
 | bT=>cases r;rfl
 | bl b=>cases r;rfl
 | int i=>let⟨t,rfl⟩:=r;rfl
 | str z=>let⟨t,rfl⟩:=r;rfl
 | _=>exact absurd (show false=true from f) zN
theorem sG:∀{xs:List V} {us:List vv},Vals xs us->xs.all mV=true->us.any (K1 x)=xs.any λy=>RF y x
 | _,_,.nil,_=>rfl
 | y::xs,u::us,.cons r t,f=>by
  rw[wW,zQ] at f;rw[xt,xt,P5 r f.1,sG t f.2]
theorem oa (rx:RelV x v) (fx:mV x=true):∀{xs:List V} {us:List vv},Vals xs us->xs.all mV=true->∀u∈us,SeqAt.EqAt A s u v (K1 x u)
 | _,_,.nil,_=>λu hu=>by cases hu
 | y::xs,u::us,.cons r t,f=>λu' hu=>by
  rw[wW,zQ] at f;rcases zF.mp hu with rfl | hu
  ·rw[P5 r f.1];exact P6 r rx f.1 fx
  ·exact oa rx fx t f.2 u' hu
noncomputable def Gp (x:V) (xs:List V):Bool:=xs.any λy=>RF y x
inductive UE (K:yB) (neg:Bool) (x y:V) (H:Hp) (Q:VK):Prop
 | mk (p:vD) (xs:List V) (_:y=.ref p) (_:gx K H p xs\/qM K H p xs) (_:mV x=true) (_:xs.all mV=true) (_:Q (.bl (if neg then !Gp x xs else Gp x xs)) H)
def jh:oy X (compareOp .In) (UE X.K false):=by
 intro pins s U H x y v u Q I rx ry h;let⟨p,xs,rfl,hq,fx,fs,q⟩:=h;cases ry;rcases hq with hq | hq
 ·let⟨its,r,pl,hz⟩:=I.list hq
  refine SeqAt.in_listAt (K1 x) pl.isList (λw hw=>oa rx fx r fs w (by simpa using hw)) {.bl _,H,I,rfl,?_};rw[show its.toArray.any (K1 x)=its.any (K1 x) by simp,sG r fs];exact q
 ·let⟨its,r,pl,hz⟩:=I.tuple hq
  refine SeqAt.in_tupleAt (K1 x) pl (λw hw=>oa rx fx r fs w (by simpa using hw)) {.bl _,H,I,rfl,?_};rw[show its.toArray.any (K1 x)=its.any (K1 x) by simp,sG r fs];exact q
def d8:oy X (compareOp .NotIn) (UE X.K true):=by
 intro pins s U H x y v u Q I rx ry h;let⟨p,xs,rfl,hq,fx,fs,q⟩:=h;cases ry;rcases hq with hq | hq
 ·let⟨its,r,pl,hz⟩:=I.list hq
  refine SeqAt.notIn_listAt (K1 x) pl.isList (λw hw=>oa rx fx r fs w (by simpa using hw)) {.bl _,H,I,rfl,?_};rw[show its.toArray.any (K1 x)=its.any (K1 x) by simp,sG r fs];exact q
 ·let⟨its,r,pl,hz⟩:=I.tuple hq
  refine SeqAt.notIn_tupleAt (K1 x) pl (λw hw=>oa rx fx r fs w (by simpa using hw)) {.bl _,H,I,rfl,?_};rw[show its.toArray.any (K1 x)=its.any (K1 x) by simp,sG r fs];exact q
def aH:fo X (.builtin "len") (λxs H Q=>∃p ys,xs=[.ref p]/\(gx X.K H p ys\/qM X.K H p ys)/\Q (.int ⇑ys) H):=by
 intro pins s U H xs us Q I r h;let⟨p,ys,rfl,hq,q⟩:=h;let⟨u,rfl,rx⟩:=vals1 r;cases rx;let hn:=B1;rcases hq with hq | hq
 ·let⟨its,r',pl,hz⟩:=I.list hq
  let hlen:=⇑r';exact Calls.call_len_list pl.isList (by simp only[yc] <;> ext) {.int ⇑ys,H,I.tok _,{s.toks+1,by rw[yc,hlen]},q}
 ·let⟨its,r',pl,hz⟩:=I.tuple hq
  let hlen:=⇑r';exact len_tuple pl (by simp only[yc] <;> ext) {.int ⇑ys,H,I.tok _,{s.toks+1,by rw[yc,hlen]},q}
def gq:fo X (.builtin "len") (λxs H Q=>∃z,xs=[.str z]/\⇑z<=sizeLine/\Q (.int ⇑z) H):=by
 intro pins s U H xs us Q I r h;let⟨z,rfl,hz,q⟩:=h;let⟨u,rfl,t,rfl⟩:=vals1 r;let hn:=B1;exact len_str () {.int ⇑z,H,I.tok _,{_,rfl},q}
def mf:fo X (.type "list") (λxs H Q=>∃p ys,xs=[.ref p]/\(gx X.K H p ys\/qM X.K H p ys)/\∀l,H l=none->Q (.ref l) (upd H l (.lst ys))):=by
 intro pins s U H xs us Q I r h;let⟨p,ys,rfl,hq,q⟩:=h;let⟨u,rfl,rx⟩:=vals1 r;cases rx;let fin:∀(its:List vv),Vals ys its->⇑ys<=sizeLine->∀(h':vE) (c':Nat),(∀b o',s.heap.get? b=some o'->h'.get? b=some o')->
   h'.get? ↑s=some {cls:=.type "list",dict:=none,data:=.seq its.toArray c',slots:=#[]}->EP X pins U Q (.ref ↑s) {s with heap:=h'}:=λits r' hz h' c' kp e=>
  {.ref ↑s,_,I.laid (t':=s.toks) kp (zm _) (show df X.prog X.w _ h' _ (.lst ys) from{(hz),its,c',r',e}),rfl,q _ (I.cB.fresh (zm _))}
 rcases hq with hq | hq
 ·let⟨its,r',pl,hz⟩:=I.list hq
  let hlen:=⇑r';let⟨o,ho,hc,n,hd⟩:=pl.isList;exact call_list_seq p (.inl rfl) ho hc hd (λh' c' kp e=>fin its r' hz h' c' kp e) (by simp only[yc] <;> ext)
 ·let⟨its,r',pl,hz⟩:=I.tuple hq
  let hlen:=⇑r';let⟨o,ho,hc,n,hd⟩:=pl;exact call_list_seq p (.inr rfl) ho hc hd (λh' c' kp e=>fin its r' hz h' c' kp e) (by simp only[yc] <;> ext)
def dR:fo X (.type "tuple") (λxs H Q=>∃p ys,xs=[.ref p]/\((gx X.K H p ys/\∀l,H l=none->Q (.ref l) (upd H l (.tup ys)))\/(qM X.K H p ys/\Q (.ref p) H))):=by
 intro pins s U H xs us Q I r h;let⟨p,ys,rfl,h⟩:=h;let⟨u,rfl,rx⟩:=vals1 r;cases rx;rcases h with⟨hq,q⟩ | ⟨hq,q⟩
 ·let⟨its,r',pl,hz⟩:=I.list hq
  let hlen:=⇑r';refine call_tuple_list pl.isList (λh' kp=>?_) (by simp only[yc] <;> ext);let I1:Inv X pins U H {s with heap:=h'}:=I.kept (t':=s.toks) kp;let I2:Inv X pins U (upd H h'.objs.size (.tup ys)) {s with heap:=h'.push {cls:=.type "tuple",data:=.seq its.toArray}}:=
   I1.laid (t':=s.toks) (λb o e=>yw _ e) (zm _) (show df X.prog X.w _ _ _ (.tup ys) from{hz,its,r',IsTup.new _ _})
  exact{.ref h'.objs.size,_,I2,rfl,q _ (I1.cB.fresh (zm _))}
 ·let⟨its,r',pl,hz⟩:=I.tuple hq
  exact call_tuple_same pl {.ref p,H,I,rfl,q}
def Wr (K:yB) (T:String) (x:V) (H:Hp):Prop:=match x with
 | .str _=>T ="str"
 | .int _=>T ="int"
 | .ref p=>(T ="list"/\∃xs,gx K H p xs)\/(T ="tuple"/\∃o,K.lookup p=some o/\o.cls=.type "tuple"/\o.dict=none)\/
   (T ="dict"/\((∃kvs,H p=some (.dK kvs))\/∃kvs,H p=some (.dT kvs)))\/(T ="set"/\∃S n,H p=some (.set S n))
 | _=>False
def SQ (I:Inv X pins U H s) (r:RelV x v) (ty:Wr X.K T x H) :
  s.TypeIs v T/\∀a,v=.ref a->∃ob,s.heap.get? a=some ob/\ob.dict=none:=by
 cases x with
 | str z=>
  let⟨t,rfl⟩:=r;cases(show T ="str" from ty);exact{wO s z t,λ_ e=>nomatch e}
 | int i=>
  let⟨t,rfl⟩:=r;cases(show T ="int" from ty);exact{typeIs_int s i t,λ_ e=>nomatch e}
 | ref p=>
  cases r;rcases ty with⟨rfl,xs,hq⟩ | ⟨rfl,o,hk,hc,hd⟩ | ⟨rfl,hk⟩ | ⟨rfl,S,n,hk⟩
  ·let⟨its,_,pl,_⟩:=I.list hq
   refine{pl.isList.typeIs,λa e=>?_};cases e;let⟨o,n,e,c,hd,_⟩:=pl;exact{(o),e,hd}
  ·refine{{o,I.DR p o hk,hc},λa e=>?_}
   cases e;exact{o,I.DR _ o hk,hd}
  ·let z:∃o,s.heap.get? p=some o/\o.ExactDict:=by
    rcases hk with⟨kvs,hk⟩ | ⟨kvs,hk⟩
    ·let⟨_,_,_,_,o,_,_,e,ex,_⟩:=I.cB p _ hk
     exact{(o),e,ex}
    ·let⟨_,_,_,_,o,_,_,e,ex,_⟩:=I.cB p _ hk
     exact{(o),e,ex}
   let⟨o,e,ex⟩:=z;refine{{(o),e,ex.1},λa e2=>?_};cases e2;exact{(o),e,ex.2.1}
  ·let⟨o,_,_,_,e,ex,_⟩:=I.cB p _ hk
   refine{{(o),e,ex.1},λa e2=>?_};cases e2;exact{(o),e,ex.2.1}
 | _=>exact False.elim ty
def VW (K:yB) (T:String) (r:V->List V->Hp->VK->Prop) (to:TE) (t:TA):TE:=λU H Q=>to U H λx H1=>Wr K T x H1/\t U H1 λxs H2=>r x xs H2 Q
variable {o e:Expr} {es:List Expr} {to:TE} {t:TA} {name:Str} {apos cpos:Pos} {T id:String} {r:V->List V->Hp->VK->Prop}
def bZ (pa:PlainAttrs T) (slot:Slot T name id) (hty:typeOf (.builtin id)=pure (.type "method_descriptor")) (hm:XD X id r) (ho:PE X o to) (ha:PA X (e::es) t)
  (hbase:attributeBase o name X.env (eval o X.env)=eval o X.env<|>qe_)
  (hfew:((backTo cpos (starEach (e::es) X.env)).all (λx=>!x.1)&&(backToKw cpos (keywordEach [] X.env)).all (λx=>x.1.isSome)
   &&decide (⇑(e::es)+⇑([]:List Keyword)+(if([]:List Keyword).isEmpty then 0 else 1)<30))=true<|>qe_)
  (hline:(apos.endLine == cpos.line)=true<|>qe_) (hs:starEach (e::es) X.env=(false,eval e X.env)::starEach es X.env<|>qe_) (hplain:(backTo cpos (starEach es X.env)).any (·.1)=false<|>qe_) :
  PE X (.Call (.Attribute o name apos) (e::es) [] cpos) (VW X.K T r to t):=by
 intro pins s U H Q I h;refine wpAny_Call_method_late hbase hfew hline rfl (dk (ho s U H _ I h) λv s1 z0=>?_);let⟨x,H1,I1,r1,ty,q1⟩:=z0;let⟨h1,h2⟩:=SQ I1 r1 ty;refine{T,id,pa,slot,hty,h1,h2,?_};let hA:=ha (pos:=cpos) s1 U H1 _ I1 q1;rw[hs] at hA ⊢;refine wM (by show(false||(backTo cpos (starEach es X.env)).any (·.1))=false;rw[hplain] <;> rfl) (Calls.evalArgs_plain ?_);refine dk hA λus s2 z0=>?_;let⟨vs,H2,I2,r2,q2⟩:=z0;exact hm pins s2 U H2 x vs v us Q I2 r1 r2 q2
end
end L2
namespace L2
open PySem PySem.Spec PyProof.Rows
def SD (X:Cx) (id:String) (r:V->List V->Hp->VK->Prop):Prop:=
 ∀(pins:List (vD×Obj)) (s:vw) (U:St) (H:Hp) (x:V) (xs:List V) (v:vv) (us:List vv) (Q:VK),Inv X pins U H s->RelV x v->Vals xs us->r x xs H Q->
  wpAny (model X.prog X.w) X.A (call (.builtin id) (v::us)) (EP X pins U Q) X.xe s
def Vals.one {x:V} {us:List vv} (h:Vals [x] us):∃u,us=[u]/\RelV x u:=by
 cases h with
 | cons r t=>cases t;exact{_,rfl,r}
section
variable {X:Cx} {pins:List (vD×Obj)} {U:St} {H:Hp} {s:vw} {l b:vD} {xs ys zs:List V}
def Inv.TN {its its':List vv} {n:Nat} {f:Array vv->Array vv} {t':Nat} (I:Inv X pins U H s) (hH:H l=some (.lst xs))
  (e:s.heap.get? l=some {cls:=.type "list",data:=.seq its.toArray n}) (hf:f its.toArray=its'.toArray) (hv:Vals ys its') (hz:⇑ys<=sizeLine) :
  Inv X pins U (upd H l (.lst ys)) {s with heap:=s.heap.update l (Obj.mapSeq f),toks:=t'}:=by
 let q:=PySem.IsL.update e f;rw[hf] at q;refine I.write (x:=l) (e:=l) (by rw[hH];exact trivial) (.inl rfl) (λb' u hb hu=>(yA s.heap (Obj.mapSeq f) (Ne.symm hb)).trans hu) {_,q} ?_;exact{hz,its',_,hv,q}
def Inv.Vj (I:Inv X pins U H s) (hv:Vals ys its) (hz:⇑ys<=sizeLine) :
  Inv X pins U (upd H ↑s (.lst ys)) {s with heap:=s.heap.push {cls:=.type "list",data:=.seq its.toArray},toks:=t'}:=
 I.laid (λ_ _ q=>yw _ q) (zm _) {hz,its,0,hv,yy _ rfl}
theorem Inv.fresh (I:Inv X pins U H s):H ↑s=none:=I.cB.fresh (zm _)
def Inv.Pq (I:Inv X pins U H s) (hH:H l=some (.lst xs)):⇑xs<=sizeLine/\∃(its:List vv) (n:Nat),Vals xs its/\⇑xs=⇑its/\s.heap.get? l=some {cls:=.type "list",data:=.seq its.toArray n}:=by
 let⟨z,its,n,r,e⟩:=I.cB l _ hH;exact{(z),its,n,r,⇑r,e}
def IG (h:n<=sizeLine):Builtin.List.listTooLong n=false:=by
 unfold Builtin.List.listTooLong;exact ze ()
end
section
variable {X:Cx}
inductive Q9 (x:V) (vs:List V) (H:Hp) (Q:VK):Prop
 | mk (l:vD) (xs:List V) (y:V) (_:x=.ref l) (_:vs=[y]) (_:H l=some (.lst xs)) (_:⇑xs<sizeLine) (_:Q .bT (upd H l (.lst (xs++[y]))))
def bF:SD X "list.append" Q9:=by
 intro pins s U H x vs v us Q I rx rv h;let⟨l,xs,y,rfl,rfl,hH,hz,q⟩:=h;cases rx;let⟨u,rfl,ru⟩:=rv.one;let⟨z,its,n,r,hl,e⟩:=I.Pq hH;refine wA F.slot_list_append {_,e,rfl} F.entry_list_append (F.args_list_append_2 _ _) (PySem.list_append l its.toArray n u (by rw[yc];ext)) {e,?_};refine{.bT,_,I.TN (its':=its++[u]) hH e (by simp) (r.append (.cons ru .nil)) ?_,rfl,q};rw[zh,List.length_singleton];ext
inductive LW (x:V) (vs:List V) (H:Hp) (Q:VK):Prop
 | mk (l b:vD) (xs zs:List V) (_:x=.ref l) (_:vs=[.ref b]) (_:H l=some (.lst xs)) (_:H b=some (.lst zs)) (_:⇑xs+⇑zs<=sizeLine) (_:Q .bT (upd H l (.lst (xs++zs))))
def M7:SD X "list.extend" LW:=by
 intro pins s U H x vs v us Q I rx rv h;let⟨l,b,xs,zs,rfl,rfl,hH,hB,hz,q⟩:=h;cases rx;let⟨u,rfl,ru⟩:=rv.one;cases ru;let⟨z,its,n,r,hl,e⟩:=I.Pq hH;let⟨z2,its2,n2,r2,hl2,e2⟩:=I.Pq hB;let hsz:its.toArray.size+its2.toArray.size<=sizeLine:=by rw[yc,yc];ext
 let hlong:¬(!its.toArray.isEmpty&&Builtin.List.listTooLong (its.toArray.size+its2.toArray.size))=true:=by
  rw[IG hsz,wI];exact zN
 refine wA F.slot_list_extend {_,e,rfl} F.entry_list_extend (F.args_list_extend_2 _ _)
  (AutoSeq1.list_extend_list_list_0 l its.toArray n b its2.toArray n2 hlong (by rw[yc];ext) ()) {e,e2,?_}
 refine{.bT,_,I.TN (its':=its++its2) hH e (by simp) (r.append r2) ?_,rfl,q};rw[zh];ext
end
section
variable {prog:vz} {w:vA} {A:vB} {E:vv->vw->Prop} {s:vw}
end
section
variable {X:Cx}
end
end L2
namespace Xr
open PySem PySem.W PySem.Calls PyProof.Rows
def As:∀(ns:List Int) (vs:List vv),WellAll P h vs (ns.map WData.int)->IntsAre vs ns:=by
 intro ns
 induction ns with
 | nil=>
  intro vs w;rw[yo] at w;cases w;exact .nil
 | cons n ns ih=>
  intro vs w;rw[zj] at w;cases w with
  | cons a b=>
   cases a;exact .cons _ _ (ih _ b)
def MM {l:OpenLaw} {n:Nat} (hn:l.most=some n) {P:Params} {h:vE} {args:List WData} {vals:List vv}
  (hpre:l.row.toRowW.claim.pre args=true) (hwl:WellAll P h vals args) :
  ∃a vs ns,vals=[Value.ref a]/\args=[WData.list (ns.map WData.int)]/\h.get? a=some {cls:=.type "list",data:=.seq vs.toArray}/\IntsAre vs ns/\⇑ns<=n:=by
 let hsh:WShape.hasAll [] args [.list .int]=true:=(pre_splitW hpre).1;let hc:l.pre.holds [] {args:=args}=true:=(pre_splitW hpre).2;let⟨d,r,rfl,h1,h2⟩:=hasAllW_cons hsh;obtain rfl:=hasAllW_nil h2;let⟨xs,rfl,h3⟩:=hasW_list h1;let⟨ns,rfl⟩:=items_int h3;let hlen:⇑ns<=n:=by
  unfold OpenLaw.pre at hc;let h4:(WTm.not (.lt (.lit (.int (n:Int))) (.len (.arg 0)))).holds [] {args:=[.list (ns.map .int)]}=true:=by
   let h4:=(holds_andW hc).1;rw[hn] at h4;exact h4
  let h5:=condW_of h4 (w_not (w_lt w_lit (w_len_list (w_arg rfl))));rw[za] at h5;refine Nat.le_of_not_lt λq=>?_;let q':(n:Int)<((⇑ns:Nat):Int):=()
  first
   | (rw[zg q'] at h5;exact absurd h5 ∅)
   | (simp at h5;ext)
 cases hwl with
 | cons w1 w2=>
  cases w2;cases w1 with
  | list ho hall=>exact{_,_,ns,rfl,rfl,ho,As ns _ hall,hlen}
def MW (l:OpenLaw) (args:List WData):l.row.toRowW.claim.post args (.bool true) args=true:=
 postW_of (r:=l.row.toRowW) (X:=(true == true))
  (show WShape.has [] (.bool true) .bool=true by first | rfl | decide | simp[WShape.has,WShape.arms,WShape.armsAll])
  (show(WTm.eq .res (.lit (.bool true))).value [] {args:=args,res:=some (.bool true),after:=args}=some (.bool (true == true)) from w_eq_bool (w_res rfl) w_lit) rfl
def JG {l:OpenLaw} {n:Nat} {q:vz} {loose:List Str} {XP:(Str->Option vv)->vE->Prop} {YP:vA->vE->Prop} {d:DefRec}
  (hn:l.most=some n) (hdf:d.params.defaults=[])
  (call:∀(w:vA) (s₀ s₁:vw) (mg mb:Str->Option vv) (fa:vD) (o:Obj) (pm cd doc:vv) (a:vD) (vs:List vv) (ns:List Int),
   Ground q loose [] XP w s₀ mg mb s₁.heap->YP w s₁.heap->
   s₁.heap.get? fa=some o->o.data=.func (docDef d.name d.params d.body d.scope pm cd doc)->s₁.heap.CodeRec cd d.name->mg d.name=some (.ref fa)->
   s₁.heap.get? a=some {cls:=.type "list",data:=.seq vs.toArray}->IntsAre vs ns->⇑ns<=n->s₁.gens=#[]->
   codeAny (model l.prog w) callerA (.call (.ref fa) {[.ref a],[]}) (λr s'=>r=.ok (.ret (.bool true))/\OldK s₁.heap s'.heap/\s'.os=s₁.os/\AllBare s'.gens) s₁) :
  WalkO q loose XP YP l.row.toRowW d [] (λf vs=>PySem.call f vs):=by
 intro w s₀ s₁ mg mb G Y fa o pm cd doc dV kV ho hd hcd hD hmg hg args vals as hpre hlay hrd hwl hlo;obtain rfl:dV=.none:=Dflts.none hD hdf;obtain rfl:kV=.none:=Dflts.noKw hD;let⟨a,vs,ns,rfl,rfl,hobj,hints,hlen⟩:=MM hn hpre hwl;refine enter_call (xS (call w s₀ s₁ mg mb fa o pm cd doc a vs ns G Y ho (fd_plain hd) hcd hmg hobj hints hlen hg) λr s' hq=>?_);let⟨rfl,h2,h3,h4⟩:=hq;exact{.inl {.bool true,.bool true,[],rfl,λ_=>rfl,.bool true,MW l _,λ_=>{List.Pairwise.nil,λ_ hm=>(nomatch hm)}},h2,h3,h4}
section
variable {prog:vz} {w:vA} {A:vB} {E:vv->vw->Prop} {s:vw} {K:Frag}
end
end Xr
namespace L2
open PySem PySem.Spec PyProof.Rows
theorem Ez:∀{vs:List vv} {ns:List Int},IntsAre vs ns->Vals (ns.map V.int) vs
 | _,_,.nil=>.nil
 | _,_,.cons n t h=>.cons {(t),rfl} (Ez h)
def Ux (H:Hp):Prop:=∀b,H b=none\/∃o xs,H b=some (.qS o (.lst xs))
def Pz {P:vz} {w:vA} {K:yB} {mg mb:Str->Option vv} {CX:JZ} {k:Nat} {fa a:vD} {fd:vC} {x:Str} {sp:Sp} {s₁:vw} {vs:List vv} {ns:List Int}
  (KX:K.In s₁.heap) (hns:s₁.heap.Ns mainGlobals mg) (hb:s₁.heap.Ns builtinsNs mb) (hbb:∀x:Str,x≠ "__name__"->mb x=bootBuiltins x) (hlim:s₁.heap.NoLimit) (hg:s₁.gens=#[])
  (ha:s₁.heap.get? a=some {cls:=.type "list",data:=.seq vs.toArray}) (hi:IntsAre vs ns) (hl:⇑ns<=sizeLine) (hr:fM k callerA)
  (F:∀base:vE,K.In base->base.Ns mainGlobals mg->dy P w K mg base CX k fa fd [x] sp) (hbind:∀(s:vw) (u:vv),BindsTo s fd {[u],[]} [(x,u)])
  (hsp:∀H:Hp,Ux H->gx K H a (ns.map V.int)->sp [.ref a] H (λv _=>v=.bl true) λ_ _ _=>False)
  (hCX:∀H e s',CX [] H s₁ (λ_ _ _=>False) e s'->False) :
  codeAny (model P w) callerA (.call (.ref fa) {[.ref a],[]}) (λr s'=>r=.ok (.ret (.bool true))/\OldK s₁.heap s'.heap/\s'.os=s₁.os/\AllBare s'.gens) s₁:=by
 let rv:=Ez hi;let lenV:=⇑hi;let core:∀H:Hp,Ux H->gx K H a (ns.map V.int)->pB P w H s₁.heap->(∀b,H b≠none->b=a)->(H a≠none->K.lookup a=none)->
   codeAny (model P w) callerA (.call (.ref fa) {[.ref a],[]}) (λr s'=>r=.ok (.ret (.bool true))/\OldK s₁.heap s'.heap/\s'.os=s₁.os/\AllBare s'.gens) s₁:=by
  intro H hO hS cB hA hK;let base_of:∀{b:vD} {o:Obj},s₁.heap.get? b=some o->H b=none->(Gr s₁.heap H).get? b=some o:=λe n=>PN e n;let noA:∀{b:vD} {o:Obj} {es:Array DictEntry} {ep:Nat},s₁.heap.get? b=some o->o.data=.dict es ep->H b=none:=λ{b o es ep} e d=>by
   cases q:H b with
   | none=>rfl
   | some u=>
    let e':b=a:=hA b (by rw[q];simp);subst e';rw[ha] at e;cases e;let d':Data.seq vs.toArray _=Data.dict es ep:=d;cases d'
  let nsK:∀{b:vD} {m:Str->Option vv},s₁.heap.Ns b m->(Gr s₁.heap H).Ns b m:=λ{b m} ⟨o,es,ep,e,d,r⟩=>{o,es,ep,base_of e (noA e d),d,r}
  let hKb:K.In (Gr s₁.heap H):=λb o e=>base_of (KX b o e) (by
   cases q:H b with
   | none=>rfl
   | some u=>
    let e':b=a:=hA b (by rw[q];simp);subst e';rw[hK (by rw[q];simp)] at e;cases e)
  let hM:Mod K mg (Gr s₁.heap H):={hKb,nsK hns,{mb,nsK hb,hbb},let ⟨mc,h1,h2⟩:=hlim;{mc,nsK h1,h2}}
  let e0:JW P w K mg (Gr s₁.heap H) callerA [] s₁ H:={rfl,hM,λb o e=>Rq e,Nat.le_of_eq (Nj _ _),trivial,λb hb=>absurd (show b∈([]:List vD) from hb) (by simp),cB,.of_eq hg}
  refine xS ((F _ hKb (nsK hns)).run callerA [] s₁ H {[.ref a],[]} [.ref a] [.ref a] _ _ hr e0 (hbind s₁ (.ref a)) (.cons rfl .nil) (hsp H hO hS)) λr s' h=>?_;cases r with
  | error e=>exact(hCX H e s' h).elim
  | ok fl=>
   cases fl with
   | next=>exact False.elim h
   | brk=>exact False.elim h
   | cont=>exact False.elim h
   | ret u=>
    let⟨v,H',os,bare,un,hok',r',q⟩:=h;let q':v=.bl true:=q;subst q';obtain rfl:u=Value.bool true:=r';refine{rfl,OldK.of_keep λb o e=>?_,os,bare};cases q:H b with
    | none=>exact un.keep b o e q (by intro z;exact absurd (show b∈([]:List vD) from z) (by simp)) (by simp)
    | some u=>
     rcases hO b with z | ⟨ob,xs,z⟩
     ·rw[q] at z;cases z
     ·let z2:=un.kA b ob _ z
      let⟨e1,_⟩:=cB b _ z;let⟨e2,_⟩:=hok' b _ z2;rw[e] at e1;cases e1;exact e2
 cases hk:K.lookup a with
 | some o=>
  let e:=KX a o hk;rw[ha] at e;cases e;refine core (λ_=>none) (λ_=>.inl rfl) (.inr {_,vs.toArray,_,hk,rfl,rfl,rfl,by rw[yc,lenV];exact hl,by simpa using rv}) (λb u z=>by let z':(none:Option HO)=some u:=z;cases z') (λb z=>absurd rfl z) λz=>absurd rfl z
 | none=>
  refine core (λb=>if b=a then some (.qS {cls:=.type "list",data:=.seq vs.toArray} (.lst (ns.map V.int))) else none) (λb=>?_) (.inl (.inr {{cls:=.type "list",data:=.seq vs.toArray},yO rfl})) (λb u z=>?_) (λb z=>?_) λ_=>hk
  ·by_cases hb:b=a
   ·exact .inr {_,_,yO hb}
   ·exact .inl (yN hb)
  ·by_cases hb:b=a
   ·let z':=(yO hb).symm.trans z
    cases z';subst hb;exact{ha,by rw[za];exact hl,vs,_,rv,ha}
   ·let z':=(yN hb).symm.trans z
    cases z'
  ·by_cases hb:b=a
   ·exact hb
   ·exact absurd (yN hb) z
end L2
namespace L2
open PySem PySem.Spec PyProof.Rows
def QI {l:PySem.W.OpenLaw} {n k:Nat} {q:vz} {loose:List Str} {XP:(Str->Option vv)->vE->Prop} {YP:vA->vE->Prop} {d:DefRec} {K:Params->yB} {CX:vA->JZ} {sp:vA->Sp} {x:Str}
  (hn:l.most=some n) (hn2:n<=sizeLine) (hdf:d.params.defaults=[]) (hr:fM k callerA)
  (hY:∀(w:vA) (h:vE),YP w h->(K w.params).In h)
  (F:∀(w:vA) (mg:Str->Option vv) (fa:vD) (h:vE),(K w.params).In h->h.Ns mainGlobals mg->mg d.name=some (.ref fa)->
   ∃fd:vC,(∀(s:vw) (u:vv),BindsTo s fd {[u],[]} [(x,u)])/\
    ∀base:vE,(K w.params).In base->base.Ns mainGlobals mg->dy l.prog w (K w.params) mg base (CX w) k fa fd [x] (sp w))
  (hsp:∀(w:vA) (H:Hp) (a:vD) (ns:List Int),⇑ns<=n->Ux H->gx (K w.params) H a (ns.map V.int)->sp w [.ref a] H (λv _=>v=.bl true) λ_ _ _=>False)
  (hCX:∀(w:vA) (H:Hp) (s:vw) (e:vv) (s':vw),CX w [] H s (λ_ _ _=>False) e s'->False) :
  PySem.W.WalkO q loose XP YP l.row.toRowW d [] (λf vs=>PySem.call f vs):=by
 refine Xr.JG hn hdf λw s₀ s₁ mg mb fa o pm cd doc a vs ns G Y ho hd hcd hmg hobj hints hlen hg=>?_;let KX:=hY w _ Y;let⟨fd,hb,hF⟩:=F w mg fa _ KX G.T.g hmg;exact Pz KX G.T.g G.T.b G.T.builtins G.T.nolimit hg hobj hints (zO hlen hn2) hr hF hb (λH hO hS=>hsp w H a ns hlen hO hS) λH e s'=>hCX w H s₁ e s'
end L2
namespace L2
open PySem PySem.Spec PyProof.Rows
def inClass (s:Stmt) (j:Nat):Stmt:=match s with
 | .ClassDef _ _ _ body _ _ _ _ _ _ _=>body.getD j (.Pass {0,0,0,0})
 | _=>.Pass {0,0,0,0}
noncomputable def dw (s:Stmt):Arguments:=match s with
 | .FunctionDef _ a _ _ _ _ _ _ _ _=>a
 | _=>{posonlyargs:=[],args:=[],vararg:=none,kwonlyargs:=[],kw_defaults:=[],kwarg:=none,defaults:=[]}
noncomputable def cF (s:Stmt):List Stmt:=match s with
 | .FunctionDef _ _ b _ _ _ _ _ _ _=>b
 | _=>[]
noncomputable def aT (s:Stmt):Scope:=match s with
 | .FunctionDef _ _ _ _ _ _ sc _ _ _=>sc
 | _=>{kind:=.function,names:=[],isGenerator:=false,isCoroutine:=false}
abbrev JX:JZ:=λ_ _ _ _ _ _=>False
abbrev E0:XK:=λ_ _ _=>False
def L3:Passes JX X E0:=λ_ _ _ _ _ _ _ h=>h.elim
structure QB (K:yB) (x qual:Str) (st:Stmt) (f:vD) (fd:vC):Prop where
 ex:∃(oc:vv) (od:Option vD) (kV doc pm:vv) (an:Option vD) (cdv ct:vv) (osl:Array (Option vv)),
  fd=PySem.W.fnOf x qual (dw st) (cF st) (aT st) .none kV doc pm an cdv ct/\K.lookup f=some {oc,od,.func fd,osl}/\PySem.W.codeIn K cdv qual=true
 kp:PySem.W.keepIn K (.ref f)=true
section
variable {P:vz} {w:vA} {K:yB} {mg:Str->Option vv} {base:vE}
def QB.ok {x qual:Str} {st:Stmt} {f:vD} {fd:vC} {N ps:List Str} {k:Nat} {sp:Sp} (F:QB K x qual st f fd) (S:dY N ps (aT st)) (len:∀vs H Q E,sp vs H Q E->⇑vs=⇑ps)
  (hbody:∀(cdv:vv) (A:vB) (outer:List Env) (s:vw) (H:Hp) (vs:List V) (Q:VK) (E:XK),fM k (A.deeper (envOfC qual (aT st) ↑s f cdv))->sp vs H Q E->
   ∃t,C5 (jF JX P w K mg base N qual (aT st) f cdv A outer s H E).JY (cF st) t/\t {nx:=λ_ H'=>Q .bT H',rt:=Q} (start N vs) H):dy P w K mg base JX (k+1) f fd ps sp:=by
 let⟨oc,od,kV,doc,pm,an,cdv,ct,osl,rfl,lk,hcd⟩:=F.ex;refine Su lk hcd S len λA outer s H vs Q E hr hsp=>?_;let⟨t,h,q⟩:=hbody cdv A outer s H vs Q E hr hsp;exact{(t),h.JY,q}
def QB.binds {x qual:Str} {st:Stmt} {f:vD} {fd:vC} {ps:List Str} (F:QB K x qual st f fd)
  (h:∀(kV doc pm:vv) (an:Option vD) (cdv ct:vv) (us:List vv),⇑us=⇑ps->bindArgs (PySem.W.fnOf x qual (dw st) (cF st) (aT st) .none kV doc pm an cdv ct) {us,[]}=pure (ps.zip us)):Binds K fd ps []:=by
 let⟨oc,od,kV,doc,pm,an,cdv,ct,osl,rfl,lk,hcd⟩:=F.ex;exact .all (h kV doc pm an cdv ct)
def kz {x qual:Str} {st:Stmt} {f:vD} {oc:vv} {od an:Option vD} {osl:Array (Option vv)} {kV doc pm cdv ct:vv} (l:K.lookup f=some {oc,od,.func (PySem.W.fnOf x qual (dw st) (cF st) (aT st) .none kV doc pm an cdv ct),osl})
  (c:PySem.W.codeIn K cdv qual=true) (k:PySem.W.keepIn K (.ref f)=true):QB K x qual st f (PySem.W.fnOf x qual (dw st) (cF st) (aT st) .none kV doc pm an cdv ct):={{(oc),od,kV,doc,pm,an,cdv,ct,osl,rfl,l,c},k}
end
def fR (hr:fM k A):A.units+1<cLine:=Nat.lt_of_le_of_lt (Nat.add_le_add_left (by decide:1<=64) _) hr.units
section
variable {X:Cx}
def pv (i:Nat) (hN:X.N[i]?=some x<|>qe_) (hv:Sw X.env.scope x<|>qg_) (hd:(x == ("__debug__": Str))=false<|>qb_)
  (hcd:(x == ("__classdict__": Str))=false<|>qb_):PE X (.Name x pos) (bj i):=Ts hN hv hd hcd
end
def Vm {A B:Prop} (h:B):if false=true then A else B:=by
 rw[yN zN];exact h
def WU {A B:Prop} (h:A):if true=true then A else B:=by
 rw[yO rfl];exact h
def Ar {c A B:Prop} [Decidable c] (h1:c->A) (h2:¬c->B):if c then A else B:=by
 by_cases h:c
 ·rw[yO h]
  exact h1 h
 ·rw[yN h]
  exact h2 h
def PJ {c A B:Prop} [Decidable c] (hc:c) (h:B):if(!decide c)=true then A else B:=by
 rw[zg hc];exact Vm h
def aG (H H':Hp):Prop:=∀b o,H b=some o->H' b=some o
def aI (H:Hp):aG H H:=λ_ _ h=>h
def aG.trans (a:aG H H1) (b:aG H1 H2):aG H H2:=λc o h=>b c o (a c o h)
def aG.seq {K:yB} {H H':Hp} {a:vD} {xs:List V} (e:aG H H') (h:gx K H a xs):gx K H' a xs:=by
 rcases h with(h | ⟨o,h⟩) | h
 ·exact .inl (.inl (e _ _ h))
 ·exact .inl (.inr {o,e _ _ h})
 ·exact .inr h
end L2
namespace Lm
def red (t b:Int):Int×Int:=(t/(Int.gcd t b:Int),b/(Int.gcd t b:Int))
def AW {t b:Int} (hb:0<b):0<(Int.gcd t b:Int):=by
 have:0<Int.gcd t b:=Int.gcd_pos_of_ne_zero_right t ();ext
def lK {t b k:Int} (hk:0<k) (hb:0<b):red (k*t) (k*b)=red t b:=by
 let g0:=AW (t:=t) hb;let e:(Int.gcd (k*t) (k*b):Int)=k*(Int.gcd t b:Int):=by
  rw[Int.gcd_mul_left];simp only[Int.natCast_mul];rw[Int.natAbs_of_nonneg ()]
 unfold red;rw[e,Int.mul_ediv_mul_of_pos _ _ hk,Int.mul_ediv_mul_of_pos _ _ hk]
def jr {t b:Int} (hb:0<b):∃g,0<g/\t=g*(red t b).1/\b=g*(red t b).2/\0<(red t b).2/\(red t b).2<=b:=by
 let g0:=AW (t:=t) hb;let d1:(Int.gcd t b:Int) ∣ t:=Int.gcd_dvd_left ..;let d2:(Int.gcd t b:Int) ∣ b:=Int.gcd_dvd_right ..;let e1:(Int.gcd t b:Int)*(t/(Int.gcd t b:Int))=t:=Int.mul_ediv_cancel' d1;let e2:(Int.gcd t b:Int)*(b/(Int.gcd t b:Int))=b:=Int.mul_ediv_cancel' d2;refine{_,g0,e1.symm,e2.symm,?_,?_}
 ·exact Int.ediv_pos_of_pos_of_dvd hb () d2
 ·exact zZ _ ()
def BA {t b:Int} (ht:0<=t):0<=(red t b).1:=zY ht (Int.natCast_nonneg _)
def BB {t b:Int} (ht:0<=t):(red t b).1<=t:=zZ _ ht
def Q3 {t b:Int} (hb:0<b):red (red t b).1 (red t b).2=red t b:=by
 let⟨g,g0,e1,e2,p,_⟩:=jr (t:=t) hb;let h:=lK (t:=(red t b).1) (b:=(red t b).2) g0 p;rw[<-e1,<-e2] at h;exact h.symm
def Ti {t b s c:Int} (hb:0<b) (hc:0<c) (h:t*c=s*b):red t b=red s c:=by
 let h1:red (c*t) (c*b)=red t b:=lK hc hb;let h2:red (b*s) (b*c)=red s c:=lK hb hc;rw[<-h1,<-h2,xD c t,h,xD s b,xD c b]
def add (x y:Int×Int):Int×Int:=red (x.1*y.2+y.1*x.2) (x.2*y.2)
def RW {t b s c:Int} (hb:0<b) (hc:0<c):add (red t b) (red s c)=red (t*c+s*b) (b*c):=by
 let⟨g,g0,e1,e2,p,_⟩:=jr (t:=t) hb;let⟨k,k0,f1,f2,q,_⟩:=jr (t:=s) hc;unfold add;generalize hx:red t b=x at *;generalize hy:red s c=y at *;let h:=lK (t:=x.1*y.2+y.1*x.2) (b:=x.2*y.2) (xA g0 k0) (xA p q);rw[<-h]
 congr 1
 ·rw[e1,e2,f1,f2,Int.mul_add]
  congr 1 <;> simp only[wX,wL,xD]
 ·rw[e2,f2];simp only[wX,wL,xD]
end Lm
namespace Lm
def Rd (x:Int×Int):Prop:=∃t b,0<=t/\0<b/\x=red t b
def Rd.of {t b:Int} (ht:0<=t) (hb:0<b):Rd (red t b):={(t),b,ht,hb,rfl}
def Rd.pos {x:Int×Int} (h:Rd x):0<=x.1/\0<x.2/\red x.1 x.2=x:=by
 let⟨t,b,ht,hb,rfl⟩:=h;let⟨g,g0,e1,e2,p,_⟩:=jr (t:=t) hb;exact{BA ht,p,Q3 hb}
def Rd.zero:Rd (0,1):={0,1,∅,∅,∅}
theorem Rd.add {x y:Int×Int} (h:Rd x) (k:Rd y):Rd (add x y):=by
 let⟨a,b,_⟩:=h.pos;let⟨c,d,_⟩:=k.pos;refine{_,_,?_,xA b d,rfl};exact Int.add_nonneg (x9 a ()) (x9 c ())
def IY {x y:Int} (hx:0<=x) (hy:0<y):Int.gcd y (x%y)=Int.gcd x y:=by
 let e:(x%y).natAbs=x.natAbs%y.natAbs:=by
  let⟨a,rfl⟩:=yL hx;let⟨b,rfl⟩:=yL (xa hy);rfl
 show Nat.gcd y.natAbs (x%y).natAbs=Nat.gcd x.natAbs y.natAbs;rw[e,Nat.gcd_comm x.natAbs,Nat.gcd_rec y.natAbs x.natAbs,Nat.gcd_comm]
def PU {t b:Int} (hb:0<b):(Int.gcd t b:Int)<=b:=by
 let h:Int.gcd t b<=b.natAbs:=Nat.gcd_le_right _ ();ext
end Lm
namespace Lm
end Lm
namespace Lm
theorem Mm {c:Nat}:∀{p q A B:List Nat},c∉p->c∉q->p++c::A=q++c::B->p=q/\A=B
 | [],[],A,B,_,_,h=>{rfl,by simpa using h}
 | [],y::q,A,B,_,hq,h=>by
  simp at h;exact absurd (by rw[h.1];exact zv) hq
 | x::p,[],A,B,hp,_,h=>by
  simp at h;exact absurd (by rw[<-h.1];exact zv) hp
 | x::p,y::q,A,B,hp,hq,h=>by
  simp only[wQ,List.cons.injEq] at h;let⟨e,h⟩:=h;let⟨e1,e2⟩:=Mm (λz=>hp (zp _ z)) (λz=>hq (zp _ z)) h;exact{by rw[e,e1],e2}
def PQ:∀(n:Nat),0<n->∃c r,Nat.toDigits 10 n=c::r/\c≠'0':=by
 intro n
 induction n using Nat.strongRecOn with
 | _ n ih=>
  intro hn
  by_cases h:n<10
  ·rw[Nat.toDigits_of_lt_base h]
   refine{_,[],rfl,?_};exact(by decide:∀n<10,0<n->Nat.digitChar n≠'0') n h hn
  ·let hd:n%10<10:=vi _ ∅
   let⟨c,r,e,hc⟩:=ih (n/10) () ();let t:=Nat.toDigits_append_toDigits (b:=10) (n:=n/10) (d:=n%10) ∅ () hd;rw[Nat.div_add_mod,e] at t;exact{c,r++Nat.toDigits 10 (n%10),by rw[<-t];rfl,hc}
def TR {n k:Nat} (hk:0<k):n<10^k->⇑(Nat.toDigits 10 n)<=k:=by
 intro h
 induction k generalizing n with
 | zero=>ext
 | succ k ih=>
  by_cases h10:n<10
  ·rw[Nat.toDigits_of_lt_base h10];simp
  ·let hd:n%10<10:=vi _ ∅
   let hk0:0<k:=by
    rcases Nat.eq_zero_or_pos k with rfl | z
    ·simp at h;ext
    ·exact z
   have:=ih hk0 (n:=n/10) (by rw[Nat.div_lt_iff_lt_mul ∅];rw[Nat.pow_succ] at h;exact h);let t:=Nat.toDigits_append_toDigits (b:=10) (n:=n/10) (d:=n%10) ∅ () hd;rw[Nat.div_add_mod] at t;rw[<-t,zh,Nat.toDigits_of_lt_base hd];simp;ext
end Lm
namespace L2
open PySem
def ik (t:Bool) (h:vE) (a:vD) (items:Array vv):Prop:=match t with
 | true=>h.IsTuple a items
 | false=>h.IsList a items
def dS (t:Bool) (h:vE) (it a:vD) (k:Nat):Prop:=match t with
 | true=>h.IsTupleIter it a k
 | false=>h.IsListIter it a k
noncomputable def rY (t:Bool) (a:vD):Obj:=match t with
 | true=>{cls:=.type "tuple_iterator",data:=.fields #[.ref a,.int 0 0]}
 | false=>{cls:=.type "list_iterator",data:=.fields #[.ref a,.int 0 0]}
theorem ik.at {t:Bool} {h h':vE} {a:vD} {items:Array vv} (x:ik t h a items) (e:∀o,h.get? a=some o->h'.get? a=some o):ik t h' a items:=by
 cases t
 ·exact Heap.IsList.at x e
 ·let⟨o,ho,r⟩:=x;exact{o,e o ho,r}
theorem dS.at {t:Bool} {h h':vE} {it a:vD} {k:Nat} (x:dS t h it a k) (e:∀o,h.get? it=some o->h'.get? it=some o):dS t h' it a k:=by
 cases t
 ·exact Heap.IsListIter.at x e
 ·exact Heap.IsTupleIter.at x e
def ik.but {t:Bool} {h h':vE} {a b:vD} {items:Array vv} (x:ik t h a items) (hs:Heap.SameBut b h h') (n:a≠b):ik t h' a items:=x.at λo e=>hs.extBut a o n e
def dS.but {t:Bool} {h h':vE} {it a b:vD} {k:Nat} (x:dS t h it a k) (hs:Heap.SameBut b h h') (n:it≠b):dS t h' it a k:=x.at λo e=>hs.extBut it o n e
theorem dS.get {t:Bool} {h:vE} {it a:vD} {k:Nat} (x:dS t h it a k):∃o,h.get? it=some o/\∀v,o.data≠.cell v:=by
 cases t
 ·let⟨o,e,_,d⟩:=x;exact{o,e,λv z=>by rw[d] at z;cases z}
 ·let⟨o,e,_,d⟩:=x;exact{o,e,λv z=>by rw[d] at z;cases z}
def dS.new (t:Bool) (h:vE) (a:vD):dS t (h.push (rY t a)) h.objs.size a 0:=by
 cases t
 ·exact{_,yy _ rfl,rfl,rfl}
 ·exact{_,yy _ rfl,rfl,rfl}
section
variable {prog:vz} {w:vA} {A:vB} {E:vv->vw->Prop} {s:vw}
def LR {t:Bool} {a:vD} {items:Array vv} {Q:vv->vw->Prop} (hl:ik t s.heap a items) (hQ:Q (.ref ↑s) {s with heap:=s.heap.push (rY t a)}) :
  wpAny (model prog w) A (pyIter (.ref a)) Q E s:=by
 cases t
 ·exact wJ hl hQ
 ·exact wpAny_pyIter_tuple hl hQ
def Fv {t:Bool} {it a:vD} {i:Nat} {items:Array vv} {x:vv} {Q:vv->vw->Prop} (hit:dS t s.heap it a i) (hl:ik t s.heap a items) (hx:items[i]?=some x)
  (hQ:∀h',dS t h' it a (i+1)->Heap.SameBut it s.heap h'->Q x {s with heap:=h'}):wpAny (model prog w) A (Builtin.SmallTypes.nextOf (.ref it)) Q E s:=by
 cases t
 ·exact wpAny_nextOf_list_item hit hl hx hQ
 ·let hit':s.heap.IsTupleIter it a i:=hit
  let⟨o,ho,hc,hd⟩:=id hit';let⟨ol,hol,_,nl,hdl⟩:=(show s.heap.IsTuple a items from hl)
  unfold Builtin.SmallTypes.nextOf;refine yv (yZ (name:=Str.ofString "__next__") hit'.typeIs wc (xb wc hit'.typeIs F.entry_tuple_iterator_next ?_ (F.args_tuple_iterator_next_1 _)));show wpAny _ _ (field (.ref it) 0 >>= _) _ _ s;refine yv (y7 ho hd (x:=.ref a) rfl ?_);show wpAny _ _ (if(Value.ref a == Value.none)=true then _ else _) _ _ s;rw[yN (show¬((Value.ref a == Value.none)=true) from zN)];show wpAny _ _ (field (.ref it) 1 >>= _) _ _ s;refine yv (y7 ho hd (x:=.int i 0) rfl ?_);show wpAny _ _ (seqItems? (.ref a) >>= _) _ _ s;refine yv (xu hol hdl ?_);simp only[xZ,hx];refine yv (wpAny_setField ho hd (by simp) (yx {x,rfl,yx (hQ _ ?_ (vd ..))}));exact{_,Heap.get?_update_self _ ho (Obj.isFreed_of_fields (vk hd _)),(Obj.cls_mapFields ..).trans hc,by rw[vk hd];simp[rawInt]}
def LQ {t:Bool} {it a:vD} {i:Nat} {items:Array vv} {Q:vv->vw->Prop} (hh:A.handled=none) (hit:dS t s.heap it a i) (hl:ik t s.heap a items) (hx:items[i]?=none)
  (hE:∀h' e,Heap.ExtBut it s.heap h'->(∃o,h'.get? e=some o/\o.cls=.type "StopIteration")->E (.ref e) {s with heap:=h'}):wpAny (model prog w) A (Builtin.SmallTypes.nextOf (.ref it)) Q E s:=by
 cases t
 ·exact wpAny_nextOf_list_end hh hit hl hx hE
 ·let hit':s.heap.IsTupleIter it a i:=hit
  let⟨o,ho,hc,hd⟩:=id hit';let⟨ol,hol,_,nl,hdl⟩:=(show s.heap.IsTuple a items from hl)
  unfold Builtin.SmallTypes.nextOf;refine yv (yZ (name:=Str.ofString "__next__") hit'.typeIs wc (xb wc hit'.typeIs F.entry_tuple_iterator_next ?_ (F.args_tuple_iterator_next_1 _)));show wpAny _ _ (field (.ref it) 0 >>= _) _ _ s;refine yv (y7 ho hd (x:=.ref a) rfl ?_);show wpAny _ _ (if(Value.ref a == Value.none)=true then _ else _) _ _ s;rw[yN (show¬((Value.ref a == Value.none)=true) from zN)];show wpAny _ _ (field (.ref it) 1 >>= _) _ _ s;refine yv (y7 ho hd (x:=.int i 0) rfl ?_);show wpAny _ _ (seqItems? (.ref a) >>= _) _ _ s;refine yv (xu hol hdl ?_);simp only[xZ,hx];refine yv (wpAny_rule (yv (wpAny_setField ho hd (by simp) ?_)));show wpAny _ _ (newExc (.type "StopIteration") [] >>= _) _ _ _;refine yv ?_;simp only[newExc,newTuple];refine yv (xf ?_ (by size_fits));refine yv (m:=firstArgMember _ _) (wpAny_of_eq (a:=Value.none) (by first | rfl | (simp only[firstArgMember];rfl)) (xf ?_ (by size_fits)));simp only[raiseNew];refine yv (wpAny_handled ?_)
  first | rw[show A.in1.handled=none from hh] | rw[hh]
  exact yv (yx (wpAny_throw (hE _ _ (((vd ..).extBut.push _).push _) {_,yy _ rfl,rfl})))
structure UI (z TI TO i1 i2:vD):Prop where
 a1:TI≠z
 a2:TO≠z
 a3:i1≠z
 a4:i2≠z
 a5:TI≠TO
 a6:TI≠i1
 a7:TI≠i2
 a8:TO≠i1
 a9:TO≠i2
 b1:i1≠i2
structure Qx (l z TO i1 i2:vD):Prop where
 a1:l≠z
 a2:l≠TO
 a3:l≠i1
 a4:l≠i2
def JS (z TO i1 i2:vD) (h h':vE):Prop:=∀c o,c≠z->c≠TO->c≠i1->c≠i2->h.get? c=some o->h'.get? c=some o
structure Sv (t1 t2:Bool) (h:vE) (z TI TO i1 i2 l1 l2:vD) (k:Nat) (f0:vv):Prop where
 z:IsZip h z TI TO f0
 ti:IsPair h TI (.ref i1) (.ref i2)
 to:∃a b,IsPair h TO a b
 i1:dS t1 h i1 l1 k
 i2:dS t2 h i2 l2 k
def N7 {t1 t2:Bool} {z TI TO i1 i2 l1 l2:vD} {k:Nat} {xs ys:Array vv} {x y:vv} {Q:vv->vw->Prop} (D:UI z TI TO i1 i2) (L1:Qx l1 z TO i1 i2) (L2:Qx l2 z TO i1 i2)
  (S:Sv t1 t2 s.heap z TI TO i1 i2 l1 l2 k .none) (hl1:ik t1 s.heap l1 xs) (hl2:ik t2 s.heap l2 ys) (hx:xs[k]?=some x) (hy:ys[k]?=some y)
  (hQ:∀h',Sv t1 t2 h' z TI TO i1 i2 l1 l2 (k+1) (rawInt ↑s)->IsPair h' ↑s x y->JS z TO i1 i2 s.heap h'->Q (.ref ↑s) {s with heap:=h'}) :
  wpAny (model prog w) A (Builtin.«zip.__next__» {[.ref z],[]}) (λfin s'=>∃v,fin=.done (.ret v)/\Q v s') E s:=by
 let⟨hz,hTI,⟨a,b,hTO⟩,h1,h2⟩:=S;show wpAny _ _ (field (.ref z) 2 >>= _) _ _ _;refine yv (y7 hz rfl (x:=.bool false) rfl ?_);show wpAny _ _ (field (.ref z) 3 >>= _) _ _ _;refine yv (y7 hz rfl (x:=.ref TI) rfl (yv (xu hTI rfl ?_)));show wpAny _ _ (Builtin.SmallTypes.ownedTupleIsFree (.ref z) >>= _) _ _ _;refine yv ?_;unfold Builtin.SmallTypes.ownedTupleIsFree;refine yv (y7 hz rfl (x:=.none) rfl (yx ?_));simp only[vf];refine yv (wpAny_rule (yv (y7 hz rfl (x:=.ref TO) rfl (yv (xJ hz (by simp) λg1 z1 q1=>?_)))));replace z1:IsZip g1 z TI TO .ellipsis:=z1;refine yv ?_;simp only[List.zipIdx_cons,List.zipIdx_nil,List.forIn_cons,List.forIn_nil];refine yv (yv (wpAny_onRaise ?_));show wpAny _ _ (Builtin.SmallTypes.nextOf (.ref i1) >>= _) _ _ _;refine yv (Fv (h1.but q1 D.a3) (hl1.but q1 L1.a1) hx λg2 p2 q2=>yx ?_);let o2:IsPair g2 TO a b:=q2.extBut _ _ D.a8 (q1.extBut _ _ D.a2 hTO);refine yv (xu o2 rfl (yv (wpAny_updateSeq_pair o2 λg3 o3 q3=>yv (wpAny_letGo (yx (yv (yv (wpAny_onRaise ?_))))))));replace o3:IsPair g3 TO x b:=o3;show wpAny _ _ (Builtin.SmallTypes.nextOf (.ref i2) >>= _) _ _ _;refine yv (Fv (((h2.but q1 D.a4).but q2 D.b1.symm).but q3 D.a9.symm) (((hl2.but q1 L2.a1).but q2 L2.a3).but q3 L2.a2) hy λg4 p4 q4=>yx ?_);let o4:IsPair g4 TO x b:=q4.extBut _ _ D.a9 o3;refine yv (xu o4 rfl (yv (wpAny_updateSeq_pair o4 λg5 o5 q5=>yv (wpAny_letGo (yx (yx ?_))))));replace o5:IsPair g5 TO x y:=o5;refine yv (xu o5 rfl (yv (wpAny_newTuple ?_)));let sz:g5.objs.size=↑s:=by rw[q5.1,q4.1,q3.1,q2.1,q1.1]
 let z5:IsZip g5 z TI TO .ellipsis:=q5.extBut _ _ D.a2.symm (q4.extBut _ _ D.a4.symm (q3.extBut _ _ D.a2.symm (q2.extBut _ _ D.a3.symm z1)));let k5:JS z TO i1 i2 s.heap g5:=λc o c1 c2 c3 c4 e=>q5.extBut _ _ c2 (q4.extBut _ _ c4 (q3.extBut _ _ c2 (q2.extBut _ _ c3 (q1.extBut _ _ c1 e))));let r1:dS t1 g5 i1 l1 (k+1):=((p2.but q3 D.a8.symm).but q4 D.b1).but q5 D.a8.symm;let r2:dS t2 g5 i2 l2 (k+1):=p4.but q5 D.a9.symm;let zl:z<g5.objs.size:=yz z5;show wpAny _ _ (Builtin.SmallTypes.ownedTupleHandOut (.ref z) (.ref g5.objs.size) >>= _) _ _ _;refine yv ?_;unfold Builtin.SmallTypes.ownedTupleHandOut;let z6:IsZip (g5.push {cls:=.type "tuple",data:=.seq #[x,y]}) z TI TO .ellipsis:=yw _ z5;refine yv (xJ z6 (by simp) λg7 z7 q7=>?_);replace z7:IsZip g7 z TI TO (rawInt g5.objs.size):=z7;refine xJ z7 (by simp) λg8 z8 q8=>?_;replace z8:IsZip g8 z TI TO (rawInt g5.objs.size):=z8;let up:∀c o,c≠z->g5.get? c=some o->g8.get? c=some o:=λc o c1 e=>q8.extBut _ _ c1 (q7.extBut _ _ c1 (yw _ e));let t8:IsPair g8 g5.objs.size x y:=q8.extBut _ _ (yj zl) (q7.extBut _ _ (yj zl) (yy _ rfl));rw[sz] at z8 t8;refine yx {_,rfl,?_};show Q (.ref g5.objs.size) _;rw[sz];exact hQ g8 {z8,up _ _ D.a1 (k5 _ _ D.a1 D.a5 D.a6 D.a7 hTI),{_,_,up _ _ D.a2 o5},r1.at λo e=>up _ o D.a3 e,r2.at λo e=>up _ o D.a4 e} t8 λc o c1 c2 c3 c4 e=>up c o c1 (k5 c o c1 c2 c3 c4 e)
def N6 {t1 t2:Bool} {z TI TO i1 i2 l1 l2:vD} {k:Nat} {xs ys:Array vv} {Q:Fin->vw->Prop} (hh:A.handled=none) (D:UI z TI TO i1 i2) (L1:Qx l1 z TO i1 i2) (L2:Qx l2 z TO i1 i2)
  (S:Sv t1 t2 s.heap z TI TO i1 i2 l1 l2 k .none) (hl1:ik t1 s.heap l1 xs) (hl2:ik t2 s.heap l2 ys) (hend:xs[k]?=none\/ys[k]?=none)
  (hE:∀h' e,JS z TO i1 i2 s.heap h'->(∃o,h'.get? e=some o/\o.cls=.type "StopIteration")->E (.ref e) {s with heap:=h'}) :
  wpAny (model prog w) A (Builtin.«zip.__next__» {[.ref z],[]}) Q E s:=by
 let⟨hz,hTI,⟨a,b,hTO⟩,h1,h2⟩:=S;show wpAny _ _ (field (.ref z) 2 >>= _) _ _ _;refine yv (y7 hz rfl (x:=.bool false) rfl ?_);show wpAny _ _ (field (.ref z) 3 >>= _) _ _ _;refine yv (y7 hz rfl (x:=.ref TI) rfl (yv (xu hTI rfl ?_)));show wpAny _ _ (Builtin.SmallTypes.ownedTupleIsFree (.ref z) >>= _) _ _ _;refine yv ?_;unfold Builtin.SmallTypes.ownedTupleIsFree;refine yv (y7 hz rfl (x:=.none) rfl (yx ?_));simp only[vf];refine yv (wpAny_rule (yv (y7 hz rfl (x:=.ref TO) rfl (yv (xJ hz (by simp) λg1 z1 q1=>?_)))));replace z1:IsZip g1 z TI TO .ellipsis:=z1;refine yv ?_;simp only[List.zipIdx_cons,List.zipIdx_nil,List.forIn_cons,List.forIn_nil];refine yv (yv (wpAny_onRaise ?_));show wpAny _ _ (Builtin.SmallTypes.nextOf (.ref i1) >>= _) _ _ _;cases hx:xs[k]? with
 | none=>
  refine yv (LQ hh (h1.but q1 D.a3) (hl1.but q1 L1.a1) hx λg2 e q2 he=>?_);let⟨oe,hoe,hce⟩:=he;let z2:IsZip g2 z TI TO .ellipsis:=q2 _ _ D.a3.symm z1;let hez:e≠z:=λx=>by subst x;rw[z2] at hoe;cases hoe;simp at hce
  exact xJ z2 (by simp) λg3 _ q3=>hE g3 e (λc o c1 _ c3 _ x=>q3.extBut _ _ c1 (q2 _ _ c3 (q1.extBut _ _ c1 x))) {oe,q3.extBut _ _ hez hoe,hce}
 | some x=>
  let hy:ys[k]?=none:=by rcases hend with h | h;rw[hx] at h;cases h;exact h
  refine yv (Fv (h1.but q1 D.a3) (hl1.but q1 L1.a1) hx λg2 p2 q2=>yx ?_);let o2:IsPair g2 TO a b:=q2.extBut _ _ D.a8 (q1.extBut _ _ D.a2 hTO);refine yv (xu o2 rfl (yv (wpAny_updateSeq_pair o2 λg3 o3 q3=>yv (wpAny_letGo (yx (yv (yv (wpAny_onRaise ?_))))))));show wpAny _ _ (Builtin.SmallTypes.nextOf (.ref i2) >>= _) _ _ _;refine yv (LQ hh (((h2.but q1 D.a4).but q2 D.b1.symm).but q3 D.a9.symm) (((hl2.but q1 L2.a1).but q2 L2.a3).but q3 L2.a2) hy λg4 e q4 he=>?_);let⟨oe,hoe,hce⟩:=he;let z4:IsZip g4 z TI TO .ellipsis:=q4 _ _ D.a4.symm (q3.extBut _ _ D.a2.symm (q2.extBut _ _ D.a3.symm z1));let hez:e≠z:=λx=>by subst x;rw[z4] at hoe;cases hoe;simp at hce
  exact xJ z4 (by simp) λg5 _ q5=>hE g5 e (λc o c1 c2 c3 c4 x=>q5.extBut _ _ c1 (q4 _ _ c4 (q3.extBut _ _ c2 (q2.extBut _ _ c3 (q1.extBut _ _ c1 x))))) {oe,q5.extBut _ _ hez hoe,hce}
def Oa {t1 t2:Bool} {z TI TO i1 i2 l1 l2:vD} {k:Nat} {xs ys:Array vv} {x y:vv} {Q:Option vv->vw->Prop} (D:UI z TI TO i1 i2) (L1:Qx l1 z TO i1 i2) (L2:Qx l2 z TO i1 i2)
  (S:Sv t1 t2 s.heap z TI TO i1 i2 l1 l2 k .none) (hl1:ik t1 s.heap l1 xs) (hl2:ik t2 s.heap l2 ys) (hx:xs[k]?=some x) (hy:ys[k]?=some y)
  (hQ:∀h',Sv t1 t2 h' z TI TO i1 i2 l1 l2 (k+1) (rawInt ↑s)->IsPair h' ↑s x y->JS z TO i1 i2 s.heap h'->Q (some (.ref ↑s)) {s with heap:=h'}) :
  wpAny (model prog w) A (pyNext (.ref z)) Q E s:=by
 let hT:s.TypeIs (.ref z) "zip":={_,S.z,rfl}
 unfold pyNext;exact yv (wU (yZ (name:=Str.ofString "__next__") hT xK (xb xK hT F.entry_zip_next (N7 D L1 L2 S hl1 hl2 hx hy λh' a1 a2 a3=>yx (hQ h' a1 a2 a3)) (F.args_zip_next_1 _))))
def N9 {t1 t2:Bool} {z TI TO i1 i2 l1 l2:vD} {k:Nat} {xs ys:Array vv} {Q:Option vv->vw->Prop} (hh:A.handled=none) (D:UI z TI TO i1 i2) (L1:Qx l1 z TO i1 i2) (L2:Qx l2 z TO i1 i2)
  (S:Sv t1 t2 s.heap z TI TO i1 i2 l1 l2 k .none) (hl1:ik t1 s.heap l1 xs) (hl2:ik t2 s.heap l2 ys) (hend:xs[k]?=none\/ys[k]?=none)
  (hQ:∀h',JS z TO i1 i2 s.heap h'->Q none {s with heap:=h'}):wpAny (model prog w) A (pyNext (.ref z)) Q E s:=by
 let hT:s.TypeIs (.ref z) "zip":={_,S.z,rfl}
 unfold pyNext;refine yv (wU (yZ (name:=Str.ofString "__next__") hT xK (xb xK hT F.entry_zip_next (N6 hh D L1 L2 S hl1 hl2 hend λh' e hk he=>?_) (F.args_zip_next_1 _))));let⟨o,ho,hc⟩:=he;exact yv (wpAny_isInstance (T:="StopIteration") (b:=true) {(o),ho,hc} isSubtype_stop (yx (hQ _ hk)))
end
noncomputable abbrev VS (t1:Bool) (h:vE) (l1:vD):vE:=h.push (rY t1 l1)
noncomputable abbrev UK (t1 t2:Bool) (h:vE) (l1 l2:vD):vE:=(VS t1 h l1).push (rY t2 l2)
noncomputable abbrev VR (t1 t2:Bool) (h:vE) (l1 l2:vD):vE:=(UK t1 t2 h l1 l2).push {cls:=.type "tuple",data:=.seq #[.ref h.objs.size,.ref (VS t1 h l1).objs.size]}
noncomputable abbrev VQ (t1 t2:Bool) (h:vE) (l1 l2:vD):vE:=(VR t1 t2 h l1 l2).push {cls:=.type "tuple",data:=.seq #[.none,.none]}
noncomputable abbrev SI (t1 t2:Bool) (h:vE) (l1 l2:vD):vE:=(VQ t1 t2 h l1 l2).push {cls:=.type "zip",data:=.fields #[.none,.bool false,.bool false,.ref (UK t1 t2 h l1 l2).objs.size,.ref (VR t1 t2 h l1 l2).objs.size]}
def Ob (t1 t2:Bool) (l1 l2:vD) (xs ys:Array vv) :
  Meets (Builtin.«zip.__new__» {[.type "zip",.ref l1,.ref l2],[]}) (λ_ R s=>ik t1 s.heap l1 xs/\ik t2 s.heap l2 ys/\R (.ok (.ret (.ref (VQ t1 t2 s.heap l1 l2).objs.size))) {s with heap:=SI t1 t2 s.heap l1 l2}):=
 .of_wp λprog w A R s h=>by
  let⟨hp,g,d,tk,os⟩:=s;let⟨a1,a2,h⟩:=h;let hsub:=sub_zip;let b1:ik t1 (Shared.heap {(hp),g,d,tk,os}) l1 xs:=a1;let b2:ik t2 (Shared.heap {hp.push (rY t1 l1),g,d,tk,os}) l2 ys:=a2.at λo e=>yw _ e;wp_walk using LR b1,LR b2;exact{_,rfl,h}
def Oc {prog:vz} {w:vA} {A:vB} {E:vv->vw->Prop} {s:vw} {t1 t2:Bool} {l1 l2:vD} {xs ys:Array vv} {Q:vv->vw->Prop} (hl1:ik t1 s.heap l1 xs) (hl2:ik t2 s.heap l2 ys)
  (h:∀h',Sv t1 t2 h' (↑s+4) (↑s+2) (↑s+3) ↑s (↑s+1) l1 l2 0 .none->(∀c o,s.heap.get? c=some o->h'.get? c=some o)->Q (.ref (↑s+4)) {s with heap:=h'}) :
  wpAny (model prog w) A (call (.type "zip") [.ref l1,.ref l2]) Q E s:=by
 refine callType_new F.called_zip ∅ (F.typeCall_zip_2 _ _) (F.newCall_zip_2 _ _) (λobj=>F.args_object_init_3 obj _ _) F.entry_zip_new (Ob t1 t2 l1 l2 xs ys) {hl1,hl2,?_};let z1:(VS t1 s.heap l1).objs.size=↑s+1:=xm ..;let z2:(UK t1 t2 s.heap l1 l2).objs.size=↑s+2:=by rw[xm,z1]
 let z3:(VR t1 t2 s.heap l1 l2).objs.size=↑s+3:=by rw[xm,z2]
 let z4:(VQ t1 t2 s.heap l1 l2).objs.size=↑s+4:=by rw[xm,z3]
 let up:∀c o,(UK t1 t2 s.heap l1 l2).get? c=some o->(SI t1 t2 s.heap l1 l2).get? c=some o:=λc o e=>yw _ (yw _ (yw _ e));let g5:(SI t1 t2 s.heap l1 l2).get? (VQ t1 t2 s.heap l1 l2).objs.size=some _:=yy _ rfl;let g4:(SI t1 t2 s.heap l1 l2).get? (VR t1 t2 s.heap l1 l2).objs.size=some _:=yw _ (yy _ rfl);let g3:(SI t1 t2 s.heap l1 l2).get? (UK t1 t2 s.heap l1 l2).objs.size=some _:=yw _ (yw _ (yy _ rfl));let g2:dS t2 (SI t1 t2 s.heap l1 l2) (VS t1 s.heap l1).objs.size l2 0:=(dS.new t2 _ l2).at (up _);let g1:dS t1 (SI t1 t2 s.heap l1 l2) ↑s l1 0:=((dS.new t1 _ l1).at λo e=>yw _ e).at (up _);show _/\_;rw[z2,z3,z4] at g5;rw[z1,z2] at g3;rw[z3] at g4;rw[z1] at g2;rw[z4];exact{{_,g5,rfl},h _ {g5,g3,{_,_,g4},g1,g2} λc o x=>up c o (yw _ (yw _ x))}
end L2
namespace L2
open PySem PySem.Spec PyProof.Rows
def bz (h:H p=none):aG H (upd H p o):=λb u e=>by rw[aE (bD e h)];exact e
def laid {H:Hp} {o:HO} {Q:VK} (k:∀p H',aG H H'->H' p=some o->Q (.ref p) H'):∀p,H p=none->Q (.ref p) (upd H p o):=λp hp=>k p _ (bz hp) aF
def aG.tup {K:yB} {H H':Hp} {a:vD} {xs:List V} (e:aG H H') (h:qM K H a xs):qM K H' a xs:=by
 rcases h with(h | ⟨o,h⟩) | h
 ·exact .inl (.inl (e _ _ h))
 ·exact .inl (.inr {o,e _ _ h})
 ·exact .inr h
section
variable {X:Cx} {pins:List (vD×Obj)} {U:St} {H:Hp} {s:vw} {h':vE}
def Inv.Hw {T:vD} {o:HO} {ch:List vD} {t':Nat} (I:Inv X pins U H s) (hf:∀b∈ch,Eu X pins H b) (hT:↑s<=T) (k:∀b u,b∉ch->s.heap.get? b=some u->h'.get? b=some u)
  (new:df X.prog X.w (upd H T o) h' T o):Inv X pins U (upd H T o) {s with heap:=h',toks:=t'}:=by
 let hn:H T=none:=I.cB.fresh hT;let neT:∀b u,s.heap.get? b=some u->b≠T:=λb u e=>yk (yd (yz e) hT);let nch:∀b u,H b=some u->b∉ch:=λb u e hb=>by rw[(hf b hb).1] at e;cases e
 refine I.step (g':=s.gens) (d':=s.drawn) (ch:=ch) (λb hb=>?_) (λb u _ _ hc e _=>k b u hc e) (λb u _ _ hc e _=>{u.slots,k b u hc e}) (λb u hc e n=>by rw[aE (neT b u e)];exact n) (λb u hc e=>{u,k b u hc e})
  (λb xs e=>by rw[aE (bD e hn)];exact e) (λb ob u e=>by rw[aE (bD e hn)];exact e) (λb ps e=>{#[],by rw[aE (bD e hn),e];simp}) (λm hm=>?_) (λb u e=>?_) I.bare
 ·let⟨f0,f1,f2,f3,f4,f5⟩:=hf b hb
  exact{(f3),f1,f4,f5}
 ·let⟨ob,es,ep,ho,r⟩:=hm
  exact{ob,es,ep,k _ _ (λz=>(hf _ z).2.1 rfl) ho,r}
 ·by_cases hb:b=T
  ·subst hb;rw[aF] at e;cases e;exact new
  ·rw[aE hb] at e
   refine(I.cB b u e).kg (λc v hc q=>k c v ?_ q) (λc q=>by rw[aE (bD q hn)];exact q) λc xs q=>by rw[aE (bD q hn)];exact q
   rcases hc with z | z
   ·rw[z];exact nch b u e
   ·exact nch c _ z
def Inv.turns {ch:List vD} {t':Nat} (I:Inv X pins U H s) (hf:∀b∈ch,Eu X pins H b) (k:∀b u,b∉ch->s.heap.get? b=some u->h'.get? b=some u):Inv X pins U H {s with heap:=h',toks:=t'}:=by
 let nch:∀b u,H b=some u->b∉ch:=λb u e hb=>by rw[(hf b hb).1] at e;cases e
 refine I.step (g':=s.gens) (d':=s.drawn) (ch:=ch) (λb hb=>?_) (λb u _ _ hc e _=>k b u hc e) (λb u _ _ hc e _=>{u.slots,k b u hc e}) (λb u hc e n=>n) (λb u hc e=>{u,k b u hc e})
  (λb xs e=>e) (λb ob u e=>e) (λb ps e=>{#[],by rw[e];simp}) (λm hm=>?_) (λb u e=>?_) I.bare
 ·let⟨f0,f1,f2,f3,f4,f5⟩:=hf b hb
  exact{(f3),f1,f4,f5}
 ·let⟨ob,es,ep,ho,r⟩:=hm
  exact{ob,es,ep,k _ _ (λz=>(hf _ z).2.1 rfl) ho,r}
 ·refine(I.cB b u e).kg (λc v hc q=>k c v ?_ q) (λc q=>q) λc xs q=>q
  rcases hc with z | z
  ·rw[z];exact nch b u e
  ·exact nch c _ z
def GV:bootBuiltins "enumerate"= some (.type "enumerate"):=by decide +kernel
def Ur:bootBuiltins "zip"= some (.type "zip"):=by decide +kernel
noncomputable def UA (K:yB) (a:vD):It:=
 {λi H=>∃xs x,gx K H a xs/\xs[i]?=some x,λi H x H'=>∃p v,H p=none/\x=.ref p/\H'=upd H p (.tup [.int (i:Int),v])/\∀xs,gx K H a xs->xs[i]?=some v,λi H=>∃xs,gx K H a xs/\⇑xs<=i}
def MC {P:vz} {w:vA} {K:yB} {es:List Expr} {kt:Nat} {tp:Pos} (a it e:vD) (hne:e≠it) :
  Turn P w K (.Tuple es kt tp) (UA K a) [e,it] e (λi h=>(∃old,IsEnum h e it (i:Int) old)/\h.IsListIter it a i) where
 mem:=by simp
 obj:=λi h st b hb=>by
  let⟨⟨old,he⟩,o,e1,c,d⟩:=st;rcases zF.mp hb with z | z
  ·subst z;exact{_,he,λv z=>by cases z}
  ·let z':b=it:=by simpa using z
   subst z';exact{o,e1,λv z=>by rw[d] at z;cases z}
 keep:=λi h h' st k=>{let ⟨old,he⟩:=st.1;{old,k e (by simp) _ he},st.2.at λo e=>k it (by simp) o e}
 item:=by
  intro X hP hw hK hc i pins s U H E I hf st hg;subst hP hw hK;let⟨xs,x,hq,hx⟩:=hg;let⟨its,rv,p,hz⟩:=I.list hq;let⟨u,hu,ru⟩:=rv.get hx;let⟨⟨old,he⟩,hit⟩:=st;refine wpAny_pyNext_enum_item he hit p.isList (x:=u) (by simpa using hu) hne λg1 ho hit1 hT hsz hk=>?_;refine{_,rfl,wpAny_letOwnedTupleGo_enum (s:={s with heap:=g1,toks:=s.toks+1}) ho λg2 he2 hs2=>?_};let hel:e<↑s:=yz he;let gT:g2.get? ↑s=some {cls:=.type "tuple",data:=.seq #[.int i s.toks,u]}:=hs2.extBut _ _ (yj hel) hT;let I1:Inv X pins U (upd H ↑s (.tup [.int (i:Int),x])) {s with heap:=g2,toks:=s.toks+1}:=
   I.Hw hf (zm _) (λb ob hb q=>hs2.extBut _ _ (λz=>hb (by simp[z])) (hk b ob (λz=>hb (by simp[z])) (λz=>hb (by simp[z])) q))
    {by show 2<=sizeLine;decide,[.int i s.toks,u],.cons {_,rfl} (.cons ru .nil),{_,gT,rfl,_,rfl}}
  refine{.ref ↑s,_,I1,rfl,{_,x,I.cB.fresh (zm _),rfl,rfl,λys hy=>by rw[I.B0 hy hq];exact hx},{{_,by simpa using he2},hit1.at λo q=>hs2.extBut _ _ hne.symm q},λb hb=>?_};let hb':=(hf b hb).1;obtain⟨o,ho',_⟩:∃o,s.heap.get? b=some o/\True:=by
   rcases zF.mp hb with z | z
   ·subst z;exact{_,he,trivial}
   ·let z':b=it:=by simpa using z
    subst z';let⟨o,e1,_⟩:=hit;exact{(o),e1,trivial}
  rw[aE (yk (yz ho'))];exact hb'
 done:=by
  intro X hP hw hK hc i pins s U H E I hf st hg;subst hP hw hK;let⟨xs,hq,hx⟩:=hg;let⟨its,rv,p,hz⟩:=I.list hq;let⟨⟨old,he⟩,hit⟩:=st;let hl:=⇑rv;exact wpAny_pyNext_enum_end (I.ok.hd hc) he hit p.isList (by simp;ext) λg1 eb=>{rfl,I.turns (t':=s.toks) hf λb o hb q=>eb b o (λz=>hb (by simp[z])) q}
 self:=λ_ _ _ _ _ st h=>let ⟨_,he⟩:=st.1;wpAny_pyIter_enum he h
def So (K:yB) (ta:TA):TI:=λU H R=>ta U H λvs H1=>∃a xs,vs=[.ref a]/\gx K H1 a xs/\R (UA K a) H1
def rH {a:Expr} {ta:TA} {es:List Expr} {kt:Nat} {tp p pos:Pos} (hg:Gl X "enumerate") (hm:X.mg "enumerate"= none) (ha:PA X [a] ta) (hs:starEach [a] X.env=[(false,eval a X.env)]<|>qe_) :
  PI X (.Tuple es kt tp) (.Call (.Name "enumerate" p) [a] [] pos) (So X.K ta):=by
 intro pins s U H R I h;refine Call_ (lV I hg hm GV (yM (dk (ha s U H _ I h) λus s1 z0=>?_) hs rfl));let⟨vs,H1,I1,r1,q1⟩:=z0;let⟨l,xs,e,hq,q⟩:=q1;subst e;cases r1 with
 | cons r rr=>
  cases rr;cases r;let⟨its,rv,pl,hz⟩:=I1.list hq;refine call_enumerate_list pl.isList λg he hit hsz hk=>?_;refine wpAny_pyIter_enum (s:={s1 with heap:=g}) he ?_;let I2:Inv X pins U H1 {s1 with heap:=g}:=I1.kept (t':=s1.toks) hk;refine{↑s1+1,[↑s1+1,↑s1],_,UA X.K l,H1,rfl,I2,MC l ↑s1 (↑s1+1) (yj (xP _)),{{_,by simpa using he},hit},λb hb=>?_,q};let hb':↑s1<=b:=by
   rcases zF.mp hb with z | z
   ·subst z;exact x6 _
   ·let z':b=↑s1:=by simpa using z
    subst z';exact zm _
  exact I1.DT hb' (I1.cB.fresh hb')
def JT (t:Bool) (K:yB) (H:Hp) (a:vD) (xs:List V):Prop:=match t with
 | true=>qM K H a xs
 | false=>gx K H a xs
def Inv.sq (I:Inv X pins U H s) (h:JT t X.K H a xs):∃its:List vv,Vals xs its/\ik t s.heap a its.toArray/\⇑xs<=sizeLine:=by
 cases t
 ·let⟨its,r,p,z⟩:=I.list h;exact{(its),r,p.isList,z}
 ·let⟨its,r,p,z⟩:=I.tuple h;exact{(its),r,p,z}
def Inv.OD (I:Inv X pins U H s) (h:JT t X.K H a xs) (h':JT t X.K H a ys):xs=ys:=by
 cases t
 ·exact I.B0 h h'
 ·exact I.EB h h'
def ik.lt (x:ik t h a items):a<h.objs.size:=by
 cases t
 ·let⟨o,e,_⟩:=x;exact yz e
 ·let⟨o,e,_⟩:=x;exact yz e
noncomputable def Uz (t1 t2:Bool) (K:yB) (a b:vD):It:=
  {λi H=>∃xs ys x y,JT t1 K H a xs/\JT t2 K H b ys/\xs[i]?=some x/\ys[i]?=some y,
   λi H x H'=>∃p u v,H p=none/\x=.ref p/\H'=upd H p (.tup [u,v])/\(∀xs,JT t1 K H a xs->xs[i]?=some u)/\∀ys,JT t2 K H b ys->ys[i]?=some v,
   λi H=>∃xs ys,JT t1 K H a xs/\JT t2 K H b ys/\(⇑xs<=i\/⇑ys<=i)}
def Og {P:vz} {w:vA} {K:yB} {es:List Expr} {kt:Nat} {tp:Pos} (t1 t2:Bool) (a b z TI TO i1 i2:vD) (D:UI z TI TO i1 i2) (L1:Qx a z TO i1 i2) (L2:Qx b z TO i1 i2) :
  Turn P w K (.Tuple es kt tp) (Uz t1 t2 K a b) [z,TI,TO,i1,i2] z (λi h=>Sv t1 t2 h z TI TO i1 i2 a b i .none) where
 mem:=by simp
 obj:=λi h st c hc=>by
  let⟨hz,hi,⟨_,_,ho⟩,h1,h2⟩:=st;simp only[zF,zG,yV] at hc;rcases hc with e | e | e | e | e
  ·subst e;exact{_,hz,λv q=>by cases q}
  ·subst e;exact{_,hi,λv q=>by cases q}
  ·subst e;exact{_,ho,λv q=>by cases q}
  ·subst e;exact h1.get
  ·subst e;exact h2.get
 keep:=λi h h' st k=>{k z (by simp) _ st.z,k TI (by simp) _ st.ti,let ⟨x,y,e⟩:=st.to;{x,y,k TO (by simp) _ e},st.i1.at λo e=>k i1 (by simp) o e,st.i2.at λo e=>k i2 (by simp) o e}
 item:=by
  intro X hP hw hK hc i pins s U H E I hf st hg;subst hP hw hK;let⟨xs,ys,x,y,hq,hq',hx,hy⟩:=hg;let⟨its,rv,p,hz⟩:=I.sq hq;let⟨jts,rw',p',hz'⟩:=I.sq hq';let⟨u,hu,ru⟩:=rv.get hx;let⟨u',hu',ru'⟩:=rw'.get hy;refine Oa D L1 L2 st p p' (x:=u) (y:=u') (by simpa using hu) (by simpa using hu') λg1 S1 hT hk=>?_;refine{_,rfl,wpAny_letOwnedTupleGo_zip (s:={s with heap:=g1}) S1.z λg2 z2 hs2=>?_};let zl:z<↑s:=yz st.z;let gT:g2.get? ↑s=some {cls:=.type "tuple",data:=.seq #[u,u']}:=hs2.extBut _ _ (yj zl) hT;let I1:Inv X pins U (upd H ↑s (.tup [x,y])) {s with heap:=g2}:=
   I.Hw (t':=s.toks) hf (zm _) (λc ob hb q=>hs2.extBut _ _ (λe=>hb (by simp[e])) (hk c ob (λe=>hb (by simp[e])) (λe=>hb (by simp[e])) (λe=>hb (by simp[e])) (λe=>hb (by simp[e])) q))
    {by show 2<=sizeLine;decide,[u,u'],.cons ru (.cons ru' .nil),{_,gT,rfl,_,rfl}}
  refine{.ref ↑s,_,I1,rfl,{_,x,y,I.cB.fresh (zm _),rfl,rfl,λzs h=>by rw[I.OD h hq];exact hx,λzs h=>by rw[I.OD h hq'];exact hy},{z2,hs2.extBut _ _ D.a1 S1.ti,let ⟨x,y,e⟩:=S1.to;{x,y,hs2.extBut _ _ D.a2 e},S1.i1.but hs2 D.a3,S1.i2.but hs2 D.a4},λc hc=>?_};let hb':=(hf c hc).1;obtain⟨o,ho',_⟩:∃o,s.heap.get? c=some o/\True:=by
   obtain⟨hz,hi,⟨_,_,ho⟩,⟨q1,e1,_⟩,⟨q2,e2,_⟩⟩:_/\_/\_/\_/\_:={(st.z),st.ti,st.to,st.i1.get,st.i2.get}
   simp only[zF,zG,yV] at hc;rcases hc with e | e | e | e | e
   ·subst e;exact{_,hz,trivial}
   ·subst e;exact{_,hi,trivial}
   ·subst e;exact{_,ho,trivial}
   ·subst e;exact{_,e1,trivial}
   ·subst e;exact{_,e2,trivial}
  rw[aE (yk (yz ho'))];exact hb'
 done:=by
  intro X hP hw hK hc i pins s U H E I hf st hg;subst hP hw hK;let⟨xs,ys,hq,hq',hx⟩:=hg;let⟨its,rv,p,hz⟩:=I.sq hq;let⟨jts,rw',p',hz'⟩:=I.sq hq';let hl:=⇑rv;let hl':=⇑rw';refine N9 (I.ok.hd hc) D L1 L2 st p p' ?_ λg1 eb=>{rfl,I.turns (t':=s.toks) hf λc o hb q=>eb c o (λe=>hb (by simp[e])) (λe=>hb (by simp[e])) (λe=>hb (by simp[e])) (λe=>hb (by simp[e])) q}
  rcases hx with h | h
  ·exact .inl (by simp;ext)
  ·exact .inr (by simp;ext)
 self:=λ_ _ _ _ _ st h=>wpAny_pyIter_zip st.z h
def WV (K:yB) (ta:TA):TI:=λU H R=>ta U H λvs H1=>∃t1 t2 a b xs ys,vs=[.ref a,.ref b]/\JT t1 K H1 a xs/\JT t2 K H1 b ys/\R (Uz t1 t2 K a b) H1
def KH {a b:Expr} {ta:TA} {es:List Expr} {kt:Nat} {tp p pos:Pos} (hg:Gl X "zip") (hm:X.mg "zip"= none) (ha:PA X [a,b] ta)
  (hs:starEach [a,b] X.env=[(false,eval a X.env),(false,eval b X.env)]<|>qe_) (hs2:starEach [b] X.env=[(false,eval b X.env)]<|>qe_) :
  PI X (.Tuple es kt tp) (.Call (.Name "zip" p) [a,b] [] pos) (WV X.K ta):=by
 intro pins s U H R I h;refine Call_ (lV I hg hm Ur (yM (dk (ha s U H _ I h) λus s1 z0=>?_) (by rw[hs,hs2]) (by rw[hs2];rfl)));let⟨vs,H1,I1,r1,q1⟩:=z0;let⟨t1,t2,a,b,xs,ys,e,hq,hq',q⟩:=q1;subst e;cases r1 with
 | cons r rr=>
  cases rr with
  | cons r' rr=>
   cases rr;cases r;cases r';let⟨its,rv,pl,hz⟩:=I1.sq hq;let⟨jts,rv',pl',hz'⟩:=I1.sq hq';let la:=pl.lt;let lb:=pl'.lt;refine Oc pl pl' λg S hk=>?_;refine wpAny_pyIter_zip (s:={s1 with heap:=g}) S.z ?_;let I2:Inv X pins U H1 {s1 with heap:=g}:=I1.kept (t':=s1.toks) hk;let D:UI (↑s1+4) (↑s1+2) (↑s1+3) ↑s1 (↑s1+1):=by
    constructor <;> (show _≠(_:Nat)) <;> ext
   let L:∀c,c<↑s1->Qx c (↑s1+4) (↑s1+3) ↑s1 (↑s1+1):=λc hc=>by
    constructor <;> (show _≠(_:Nat)) <;> ext
   refine{↑s1+4,[_,_,_,_,_],_,Uz t1 t2 X.K a b,H1,rfl,I2,Og t1 t2 a b _ _ _ _ _ D (L a la) (L b lb),S,λc hc=>?_,q};let hb':↑s1<=c:=by
    simp only[zF,zG,yV] at hc;rcases hc with e | e | e | e | e <;> (subst e;first | exact Nat.le_add_right _ _ | exact zm _)
   exact I1.DT hb' (I1.cB.fresh hb')
def FY (bs:List Bool):((List.range ⇑bs).all λi=>(bs[i]?).getD true)=bs.all id:=by
 rw[xM,yq,yq];constructor
 ·intro h b hb
  let⟨i,hi,e⟩:=List.mem_iff_getElem.mp hb;have:=h i (yS.mpr hi);rw[zd hi,e] at this;exact this
 ·intro h i hi
  let hi':=yS.mp hi;rw[zd hi'];exact h _ (yn hi')
def oR (hc:X.calm=true):fo X (.builtin "all") (λxs H Q=>∃(a:vD) (bs:List Bool),xs=[.ref a]/\gx X.K H a (bs.map V.bl)/\Q (.bl (bs.all id)) H):=by
 intro pins s U H xs us Q I r h;let⟨a,bs,e,hq,q⟩:=h;subst e;cases r with
 | cons r rr=>
  cases rr;cases r;let⟨its,rv,p,hz⟩:=I.list hq;let hlt:a<↑s:=by let⟨o,n,e,_⟩:=p;exact yz e
  let hlen:⇑bs=⇑its:=by have:=⇑rv;rw[za] at this;exact this
  refine call_all_walk (wJ p.isList ?_);refine{↑s,[↑s,a],[↑s],its.toArray.size,_,_,λi=>(bs[i]?).getD true,rfl,Walks.list (A:=X.A.in1) (I.ok.hd hc) _ a (yk hlt) its.toArray,
   {{_,yy _ rfl,rfl,rfl},p.isList.push _},λi v s' Q' E' hP hQ=>?_,λh' tk hk=>?_}
  ·let hP':its[i]?=some v:=by simpa using hP
   let hi:i<⇑bs:=by rw[hlen];exact(zB.mp hP').1
   let hm:(bs.map V.bl)[i]?=some (.bl bs[i]):=by rw[zM,zd hi];rfl
   let⟨u,hu,ru⟩:=rv.get hm;rw[hP'] at hu;cases hu;cases ru;dsimp only at hQ;rw[zd hi] at hQ;exact xi hQ
  ·let e:((List.range its.toArray.size).all λi=>(bs[i]?).getD true)=bs.all id:=by rw[yc,<-hlen];exact FY bs
   rw[e];exact{.bl _,H,I.kept λb o x=>hk b o (λhm=>by rw[zC.mp hm] at x;exact yg _ (yz x)) (yw _ x),rfl,q}
end
section
variable {X:Cx} {pos:Pos}
end
section
variable {X:Cx}
end
inductive Dt where
 | bT | bl (b:Bool) | int (i:Int) | str (x:Str) | tup (l:List Dt)
mutual
def Is (H:Hp):Dt->V->Prop
 | .bT,v=>v=.bT
 | .bl b,v=>v=.bl b
 | .int i,v=>v=.int i
 | .str x,v=>v=.str x
 | .tup l,v=>∃a vs,v=.ref a/\H a=some (.tup vs)/\aD H l vs
def aD (H:Hp):List Dt->List V->Prop
 | [],vs=>vs=[]
 | d::l,vs=>∃v r,vs=v::r/\Is H d v/\aD H l r
end
mutual
theorem Is.mono (s:aG H H'):∀{d:Dt} {v:V},Is H d v->Is H' d v
 | .bT,_,h=>by unfold Is at h ⊢;exact h
 | .bl _,_,h=>by unfold Is at h ⊢;exact h
 | .int _,_,h=>by unfold Is at h ⊢;exact h
 | .str _,_,h=>by unfold Is at h ⊢;exact h
 | .tup l,_,h=>by
  unfold Is at h ⊢;let⟨a,vs,e,ha,hl⟩:=h;exact{a,vs,e,s _ _ ha,aD.mono s hl}
theorem aD.mono (s:aG H H'):∀{l:List Dt} {vs:List V},aD H l vs->aD H' l vs
 | [],_,h=>by unfold aD at h ⊢;exact h
 | d::l,_,h=>by
  unfold aD at h ⊢;let⟨v,r,e,hv,hr⟩:=h;exact{v,r,e,Is.mono s hv,aD.mono s hr}
end
theorem aD.len:∀{l:List Dt} {vs:List V},aD H l vs->⇑vs=⇑l
 | [],_,h=>by unfold aD at h;rw[h];rfl
 | d::l,_,h=>by
  unfold aD at h;let⟨v,r,e,_,hr⟩:=h;rw[e,zy,zy,aD.len hr]
theorem aD.get:∀{l:List Dt} {vs:List V} {i:Nat} {v:V},aD H l vs->vs[i]?=some v->∃d,l[i]?=some d/\Is H d v
 | [],_,i,v,h,e=>by unfold aD at h;rw[h] at e;simp at e
 | d::l,_,i,v,h,e=>by
  unfold aD at h;let⟨u,r,e1,hv,hr⟩:=h;subst e1;cases i with
  | zero=>simp at e;subst e;exact{(d),rfl,hv}
  | succ i=>
   let⟨d',h1,h2⟩:=aD.get (i:=i) hr (by simpa using e);exact{d',by simpa using h1,h2}
def aG.BV (e:upd H p o=H') (h:H p=none):aG H H':=e▸bz h
def CK (e:upd H p o=H'):H' p=some o:=e▸aF
def bW {c:Bool} {A B:Prop} (h:c=true) (q:A):if c=true then A else B:=by rw[yO h];exact q
def bX {c:Bool} {A B:Prop} (h:c=false) (q:B):if c=true then A else B:=by rw[yN (by rw[h];decide)];exact q
def cO:⇑[a,b]<=sizeLine:=by show 2<=sizeLine;decide
def km:⇑[a,b,c]<=sizeLine:=by show 3<=sizeLine;decide
def iV (h:H p=some (.tup [.int a,.int b])):Is H (.tup [.int a,.int b]) (.ref p):=by
 unfold Is;exact{p,_,rfl,h,by simp only[aD,Is];exact{_,_,rfl,rfl,_,_,rfl,rfl,rfl}}
def oh {K:yB} {a:vD} {xs:List V} {g:TG} {tb:TS} {D:Ends} {U:St} {H:Hp} (Pv:Nat->St->Hp->Prop) (h0:Pv 0 U H) (hl:∀i U H,i<=⇑xs->Pv i U H->gx K H a xs)
  (hs:∀i x U H p H',xs[i]?=some x->Pv i U H->aG H H'->H' p=some (.tup [.int (i:Int),x])->g (.ref p) U H' λσ2 H2=>tb {D with nx:=Pv (i+1),ct:=Pv (i+1),bk:=D.nx} σ2 H2) (hd:∀U H,Pv ⇑xs U H->D.nx U H) :
  ∃W:Nat->Nat->St->Hp->Prop,(∃m,W 0 m U H)/\∀i m U H,W i m U H->
   ((UA K a).stop i H/\D.nx U H)\/((UA K a).go i H/\∃N:St->Hp->Prop,(∀U' H',N U' H'->∃m',m'<m/\W (i+1) m' U' H')/\∀x H',(UA K a).LH i H x H'->g x U H' λσ2 H2=>tb {D with nx:=N,ct:=N,bk:=D.nx} σ2 H2):=by
 refine{λi m U H=>m=⇑xs-i/\i<=⇑xs/\Pv i U H,{⇑xs,by simp,yh _,h0},?_};rintro i m U H ⟨rfl,hi,p⟩;let q:=hl i U H hi p
 by_cases hlt:i<⇑xs
 ·refine .inr {{xs,xs[i],q,by simp[hlt]},Pv (i+1),λU' H' p'=>{⇑xs-(i+1),(),rfl,hlt,p'},λx H' y=>?_}
  let⟨pp,v,hp,e1,e2,y⟩:=y;subst e1 e2;exact hs i v U H pp _ (y xs q) p (bz hp) aF
 ·let e:i=⇑xs:=()
  subst e;exact .inl {{xs,q,zm _},hd U H p}
section
variable {X:Cx} {pos:Pos}
def Inv.Vk (I2:Inv X pins σ2 H2 s2) (hC:↑s2<=C) (I:Inv X pins U H s) (hn:H C=none) (hs:Heap.SameBut C s.heap h'):Inv X pins U H {s with heap:=h'}:=by
 let⟨f0,f1,f2,f3,f4,f5⟩:=I2.DT hC hn;exact I.turned (t':=s.toks) (λb o hb e=>hs.extBut b o hb e) f0 f1 f3 f4 f5
end
section
variable {X:Cx} {pins:List (vD×Obj)} {U:St} {H:Hp} {s:vw}
def Sz (n:Nat) (i:Int):Prop:=i.natAbs<2^n
def Sz.mono (h:Sz n i) (k:n<=m):Sz m i:=yd h (Nat.pow_le_pow_right ∅ k)
def Sz.mul (h:Sz n i) (k:Sz m j):Sz (n+m) (i*j):=by
 unfold Sz at *;rw[Int.natAbs_mul,Nat.pow_add];exact Nat.mul_lt_mul'' h k
def Sz.add (h:Sz n i) (k:Sz n j):Sz (n+1) (i+j):=by
 unfold Sz at *;have:=Int.natAbs_add_le i j;rw[Nat.pow_succ];ext
def Sz.sub {n:Nat} {i j:Int} (h:Sz n i) (k:Sz n j):Sz (n+1) (i-j):=by
 unfold Sz at *;have:=Int.natAbs_sub_le i j;rw[Nat.pow_succ];ext
def Sz.le (h:Sz n j) (h0:0<=i) (hl:i<=j):Sz n i:=by
 unfold Sz at *;have:i.natAbs<=j.natAbs:=()
 ext
def Sz.bits (h:Sz n i):Builtin.Int.intBits i<=n:=by
 unfold Builtin.Int.intBits;split
 ·exact yh _
 ·rename_i hz
  have:i.natAbs≠0:=by
   intro e;have:i=0:=Int.natAbs_eq_zero.mp e;subst this;exact hz rfl
  have:=(Nat.log2_lt this).mpr h;ext
def VO (i j:Int):Prop:=Sz 20000 i/\Sz 20000 j
def VP (_ j:Int):Prop:=0<j/\Sz 8999 j
def jV:oy X (binaryOp .Mult) (rI VO λi j=>.int (i*j)):=TH λ_ _ _ _ _ _ _ hc q=>mul_int q (.of_bits (zO hc.1.bits ∅) (zO hc.2.bits ∅))
def kQ:oy X (binaryOp .FloorDiv) (rI VP λi j=>.int (i/j)):=TH λi j _ _ _ _ _ hc q=>by
 let h1:(0:Int)<j:=hc.1;refine floordiv_int () (by rw[vn i ()];exact q) (.inl (PyProof.noPylong_of_log2 ?_));let h2:j.natAbs<2^8999:=hc.2;let h3:j.natAbs≠0:=()
 exact xG ((Nat.log2_lt h3).mpr h2) ∅
def Ql {ns:List Int} {j:Int} (h0:0<=j) (h1:j<⇑ns):Ek (ns.map V.int) j=some (.int (ns.getD j.toNat 0)):=by
 let⟨k,rfl⟩:=yL h0;refine bx ?_;let hk:k<⇑ns:=()
 rw[zM,zd hk];simp[List.getD,hk]
end
section
variable {X:Cx} {pos:Pos}
def Sh (K:yB):R2:=λx y H Q=>∃l b xs zs,x=.ref l/\y=.ref b/\gx K H l xs/\gx K H b zs/\⇑xs+⇑zs<=sizeLine/\∀p,H p=none->Q (.ref p) (upd H p (.lst (xs++zs)))
def gh:oy X (binaryOp .Add) (Sh X.K):=by
 intro pins s U H x y v u Q I rx ry h;let⟨l,b,xs,zs,rfl,rfl,hH,hB,hz,q⟩:=h;cases rx;cases ry;let⟨its,r,p,z⟩:=I.list hH;let⟨jts,r',p',z'⟩:=I.list hB;let l1:=⇑r;let l2:=⇑r';let⟨⟨cls,dd,data,sl⟩,ho,hc,n,hd⟩:=id p.isList;let⟨⟨cls2,dd2,data2,sl2⟩,ho2,hc2,n2,hd2⟩:=id p'.isList;simp only at hc hd hc2 hd2;subst hc hd hc2 hd2;refine concat_meets {_,ho,rfl} {_,ho2,rfl} noFill_list_add seq_list_add PySem.F.slot_list_add PySem.F.entry_list_add (PySem.F.args_list_add_2 _ _) (list_addW l b its.toArray jts.toArray n n2 dd dd2 sl sl2 (by rw[yc,yc];ext)) {ho,ho2,?_};let ea:its.toArray++jts.toArray=(its++jts).toArray:=by simp
 rw[ea];exact{.ref _,_,I.Vj (t':=s.toks) (r.append r') (by rw[zh];ext),rfl,q _ I.fresh}
end
def oZ (n:Nat) (x:Int×Int):Prop:=Sz n x.1/\Sz n x.2
theorem oZ.red (ht:0<=t) (hb:0<b) (h1:Sz n t) (h2:Sz n b):oZ n (Lm.red t b):=by
 let⟨g,g0,_,_,p,l⟩:=Lm.jr (t:=t) hb;exact{h1.le (Lm.BA ht) (Lm.BB ht),h2.le (xa p) l}
theorem oZ.add (hx:Lm.Rd x) (hy:Lm.Rd y) (h:oZ n x) (k:oZ m y):oZ (n+m+1) (Lm.add x y):=by
 let⟨a,b,_⟩:=hx.pos;let⟨c,d,_⟩:=hy.pos;refine oZ.red (Int.add_nonneg (x9 a ()) (x9 c ())) (xA b d) ?_ ((h.2.mul k.2).mono ());refine Sz.add (h.1.mul k.2) ?_;have:=k.1.mul h.2;rw[Nat.add_comm] at this;exact this
noncomputable def dec (n:Int):Str:=Str.ofString (toString n)
def lD {x y:Str} (h:x.cps.toList=y.cps.toList):x=y:=by
 cases x;cases y;simp only[Str.mk.injEq];exact Array.toList_inj.mp h
def cL (x y:Str):(x++y).cps.toList=x.cps.toList++y.cps.toList:=Array.toList_append ..
def bV (x y:Str):⇑(x++y)=⇑x+⇑y:=Array.size_append ..
def NL (x y z:Str):x++y++z=x++(y++z):=lD (by rw[cL,cL,cL,cL,zH])
def AZ (m:Nat):(dec (m:Int)).cps.toList=(Nat.toDigits 10 m).map Char.toNat:=PySem.W.KIN.signs_num m
def Gx (m:Nat):⇑(dec (m:Int))=⇑(Nat.toDigits 10 m):=by
 let h:=y6 List.length (AZ m);rw[za,yQ] at h;exact h
def RM (h:c∈(Nat.toDigits 10 m).map Char.toNat):48<=c/\c<=57:=by
 let⟨ch,hc,e⟩:=zJ.mp h;let r:=Nat.isDigit_of_mem_toDigits ∅ ∅ hc;rw[<-e];simp only[Char.isDigit,zQ,xE] at r;exact{(r.1),r.2}
section
variable {X:Cx}
end
section
variable {X:Cx}
def Tn:V->Option Int->Option Int->Hp->VK->Prop:=λx lo hi H Q=>∃t:Str,x=.str t/\⇑t<=sizeLine/\Q (.str (PySem.Txt.slice t lo hi)) H
def Kj:Qt X Tn:=by
 intro pins s U H x v vl vu lo hi sl Q I rx hs pl pu h;let⟨t,rfl,hz,q⟩:=h;let⟨tk,rfl⟩:=rx;let⟨o,ho,hc,hd⟩:=hs;let fin:∀(l u:Option (Int×Tok)),l.map (·.1)=lo->u.map (·.1)=hi->partValue l=vl->partValue u=vu->
   ∃T id,typeLookup (.type T) "__getitem__"= pure (some (.builtin id))/\s.TypeIs (.str t tk) T/\wpAny (model X.prog X.w) X.A (getItem (.str t tk) (.ref sl)) (EP X pins U Q) X.xe s:=by
  intro l u e1 e2 e3 e4;subst e1 e2 e3 e4;exact{"str",_,F.slot_str_getitem.lookup,wO _ _ _,wpAny_getItem_str_slice (l:=l) (u:=u) (st:=none) {(o),ho,hc,hd} rfl
   (post_val_or_str {zO (PySem.Txt.slice_le t _ _) hz,λt' k=>{.str _,H,I.tok _,{_,rfl},q}})}
 cases pl with
 | none=>
  cases pu with
  | none=>exact fin none none rfl rfl rfl rfl
  | int j tj=>exact fin none (some (j,tj)) rfl rfl rfl rfl
 | int i ti=>
  cases pu with
  | none=>exact fin (some (i,ti)) none rfl rfl rfl rfl
  | int j tj=>exact fin (some (i,ti)) (some (j,tj)) rfl rfl rfl rfl
noncomputable def VL (x:Str):It:={λi _=>i<⇑x,λi H v H'=>H'=H/\∃c,x.cps[i]?=some c/\v=.str {#[c]},λi _=>⇑x<=i}
def Oh {P:vz} {w:vA} {K:yB} {tg:Expr} (x:Str) (t:Tok) (it:vD) (ty:String) (hty:ty ="str_ascii_iterator"\/ty ="str_iterator"):Turn P w K tg (VL x) [it] it (λi h=>i<=⇑x/\h.IsStrIter it ty x t i) where
 mem:=by simp
 obj:=λi h st b hb=>by
  let e:b=it:=by simpa using hb
  subst e;let⟨_,o,e,c,d⟩:=st;exact{o,e,λv z=>by rw[d] at z;cases z}
 keep:=λi h h' st k=>{st.1,let ⟨o,ho,r⟩:=st.2;{o,k it (by simp) o ho,r}}
 item:=by
  intro X hP hw hK hc i pins s U H E I hf st hg;subst hP hw hK;let W:Walks X.prog X.w X.A it [it] [it] x.cps.size (SignAt x) (λi h=>h.IsStrIter it ty x t i):=by
   rcases hty with rfl | rfl
   ·exact Walks.strAscii (I.ok.hd hc) it x t
   ·exact Walks.strWide (I.ok.hd hc) it x t
  refine W.item i s _ _ hg st.2 λv h' tk hv z' kk=>?_;let⟨c,u,hcx,rfl⟩:=hv;let I1:Inv X pins U H {s with heap:=h',toks:=tk}:=I.turns hf λb o hb e=>kk b o (by simpa using hb) e;let⟨o,e,cc,d⟩:=id z';let hgl:i<⇑x:=hg;refine{_,rfl,E2 (s:={s with heap:=h',toks:=tk}) (n:=ty) e cc d ?_ {.str {#[c]},H,I1,{(u),rfl},{(rfl),c,hcx,rfl},{(hgl),z'},λb hb=>(hf b hb).1}};rcases hty with rfl | rfl <;> decide
 done:=by
  intro X hP hw hK hc i pins s U H E I hf st hg;subst hP hw hK;let hi:i=x.cps.size:=Nat.le_antisymm st.1 hg;subst hi;let W:Walks X.prog X.w X.A it [it] [it] x.cps.size (SignAt x) (λi h=>h.IsStrIter it ty x t i):=by
   rcases hty with rfl | rfl
   ·exact Walks.strAscii (I.ok.hd hc) it x t
   ·exact Walks.strWide (I.ok.hd hc) it x t
  exact W.done s _ _ st.2 λh' tk eb=>{rfl,I.turns hf λb o hb e=>eb b o (by simpa using hb) e}
 self:=λA i s Q E z h=>by
  rcases hty with rfl | rfl
  ·exact wpAny_pyIter_striter_ascii z.2 h
  ·exact wpAny_pyIter_striter_wide z.2 h
def WX (tl:TE):TI:=λU H R=>tl U H λx H1=>∃t,x=.str t/\R (VL t) H1
def O8 {tg l:Expr} {tl:TE} (hl:PE X l tl):PI X tg l (WX tl):=by
 intro pins s U H R I h;refine dk (hl s U H _ I h) λv s1 z0=>?_;let⟨x,H1,I1,r1,q1⟩:=z0;let⟨t,e,q⟩:=q1;subst e;let⟨tk,rfl⟩:=r1;refine wpAny_pyIter_strU ?_;refine{↑s1,[↑s1],_,_,H1,rfl,I1.kept (t':=s1.toks) λb o e=>yw _ e,Oh t tk _ (strIterType t) ?_,{yh _,_,yy _ rfl,rfl,rfl},λb hb=>?_,q}
 ·unfold strIterType
  split
  ·exact .inl rfl
  ·exact .inr rfl
 ·let e:b=↑s1:=by simpa using hb
  subst e;exact I1.DT (zm _) (I1.cB.fresh (zm _))
theorem Ey:∀(l:List (Str×Tok)),Vals ((l.map (·.1)).map V.str) (strValues l)
 | []=>.nil
 | (x,t)::r=>.cons {(t),rfl} (Ey r)
def Tj:V->List V->Hp->VK->Prop:=λx vs H Q=>∃(t y:Str),x=.str t/\vs=[.str y]/\⇑y=1/\⇑t+2<=sizeLine/\∀l,H l=none->Q (.ref l) (upd H l (.lst ((PySem.Txt.split t y).map V.str)))
def jC:SD X "str.split" Tj:=by
 intro pins s U H x vs v us Q I rx rv h;let⟨t,y,rfl,rfl,hy,hz,q⟩:=h;let⟨tk,rfl⟩:=rx;let⟨u,rfl,tk',rfl⟩:=rv.one;let hy':(⇑y == 0)=false:=by rw[hy];rfl
 let hle:=split_le t y;let fin:∀(l:List (Str×Tok)) (k:Nat),l.map (·.1)=PySem.Txt.split t y->
   EP X pins U Q (.ref ↑s) {s with heap:=s.heap.push {cls:=.type "list",data:=.seq (strValues l).toArray},toks:=k}:=λl k e=>
  {.ref _,_,I.Vj (t':=k) (by rw[<-e];exact Ey l) (by rw[za];ext),rfl,q _ I.fresh}
 cases h1:(decide (⇑t<⇑y)||decide (Builtin.Str.strKind t<Builtin.Str.strKind y))
 ·cases hf:(Builtin.Str.occurrences t y 0 ⇑t (⇑t+1)).isEmpty
  ·let es:PySem.Txt.split t y=Builtin.Str.partsBetween t (Builtin.Str.occurrences t y 0 ⇑t (⇑t+1)) ⇑y:=by
    unfold PySem.Txt.split;rw[h1,hf];rfl
   refine wA F.slot_str_split (wO s t tk) F.entry_str_split (F.args_str_split_2 _ _) (meets_str_split_sep t y tk tk' h1 hy' hf () (by rw[<-es];ext)) ?_;rw[strsFrom_eq];exact fin (numbered s.toks _) _ ((numbered_texts _ _).trans es.symm)
  ·let es:PySem.Txt.split t y=[t]:=by
    unfold PySem.Txt.split;rw[h1,hf];rfl
   refine wA F.slot_str_split (wO s t tk) F.entry_str_split (F.args_str_split_2 _ _) (meets_str_split_not_found t y tk tk' h1 hy' hf) ?_;exact fin [(t,tk)] _ es.symm
 ·let es:PySem.Txt.split t y=[t]:=by
   unfold PySem.Txt.split;rw[h1];rfl
  refine wA F.slot_str_split (wO s t tk) F.entry_str_split (F.args_str_split_2 _ _) (meets_str_split_cannot_occur t y tk tk' h1) ?_;exact fin [(t,tk)] _ es.symm
def Q5:V->List V->Hp->VK->Prop:=λx vs H Q=>∃(t y:Str),x=.str t/\vs=[.str y]/\Q (.bl (decide (0+⇑y<=⇑t)&&Builtin.Str.subAt t y 0)) H
def DP:SD X "str.startswith" Q5:=by
 intro pins s U H x vs v us Q I rx rv h;let⟨t,y,rfl,rfl,q⟩:=h;let⟨tk,rfl⟩:=rx;let⟨u,rfl,tk',rfl⟩:=rv.one;exact wA F.slot_str_startswith (wO s t tk) F.entry_str_startswith (F.args_str_startswith_2 _ _) (gives_str_startswith t y tk tk').meets {.bl _,H,I,rfl,q}
def GP:fo X (.type "int") (λxs H Q=>∃(t:Str) (n:Int),xs=[.str t]/\PySem.intText? t=some n/\⇑t<=640/\Q (.int n) H):=by
 intro pins s U H xs us Q I r h;let⟨t,n,rfl,hn,hl,q⟩:=h;let⟨u,rfl,tk,rfl⟩:=vals1 r;exact PySem.W.KIN.call_text hn hl {.int n,H,I.tok _,{_,rfl},q}
end
def join_one (sep x:Str):Str.join sep [x]=x:=rfl
def fi (sep x y:Str) (r:List Str):Str.join sep (x::y::r)=x++sep++Str.join sep (y::r):=rfl
theorem IT:∀{ps qs:List Str},ps≠[]->qs≠[]->(∀p∈ps,c∉p.cps.toList)->(∀q∈qs,c∉q.cps.toList)->Str.join {#[c]} ps=Str.join {#[c]} qs->ps=qs
 | [],_,h,_,_,_,_=>absurd rfl h
 | _,[],_,h,_,_,_=>absurd rfl h
 | [p],[q],_,_,_,_,h=>by rw[join_one,join_one] at h;rw[h]
 | [p],q::q2::r,_,_,hp,_,h=>by
  rw[join_one,fi] at h;let e:=y6 (λz:Str=>z.cps.toList) h;simp only[cL] at e;exact absurd (show c∈p.cps.toList by rw[e];simp) (hp p zv)
 | p::p2::r,[q],_,_,_,hq,h=>by
  rw[join_one,fi] at h;let e:=y6 (λz:Str=>z.cps.toList) h;simp only[cL] at e;exact absurd (show c∈q.cps.toList by rw[<-e];simp) (hq q zv)
 | p::p2::r,q::q2::r',_,_,hp,hq,h=>by
  rw[fi,fi] at h;let e:=y6 (λz:Str=>z.cps.toList) h;simp only[cL,zH] at e;let⟨e1,e2⟩:=Lm.Mm (hp p zv) (hq q zv) (show p.cps.toList++c::(Str.join {#[c]} (p2::r)).cps.toList=q.cps.toList++c::(Str.join {#[c]} (q2::r')).cps.toList from e);let ih:=IT (ps:=p2::r) (qs:=q2::r') (by simp) (by simp) (λz hz=>hp z (zp _ hz)) (λz hz=>hq z (zp _ hz)) (lD e2);rw[ih,lD e1]
def gC (ne:ps≠[]) (fr:∀p∈ps,c∉p.cps.toList):PySem.Txt.split (Str.join {#[c]} ps) {#[c]}=ps:=by
 refine IT ?_ ne (PySem.StrLaws.split_free _ c) fr (PySem.StrLaws.join_split _ _);intro z;have:=split_pos (Str.join {#[c]} ps) {#[c]};rw[z] at this;exact absurd this ∅
def Fw (ha:c∉a.cps.toList) (hb:c∉b.cps.toList):PySem.Txt.split (a++{#[c]}++b) {#[c]}=[a,b]:=by
 refine gC (ps:=[a,b]) (by simp) λp hp=>?_;rcases zF.mp hp with rfl | hp
 ·exact ha
 ·rw[zC.mp hp];exact hb
def split1 (ha:c∉a.cps.toList):PySem.Txt.split a {#[c]}=[a]:=by
 refine gC (ps:=[a]) (by simp) λp hp=>?_;rw[zC.mp hp];exact ha
def S9 (ha:c∉a.cps.toList) (hb:c∉b.cps.toList) (hd:c∉d.cps.toList):PySem.Txt.split (a++{#[c]}++b++{#[c]}++d) {#[c]}=[a,b,d]:=by
 let e:a++({#[c]}:Str)++b++⟨#[c]⟩++d=Str.join ⟨#[c]⟩ [a,b,d]:=by
  rw[fi,fi,join_one];simp only[NL]
 rw[e];refine gC (ps:=[a,b,d]) (by simp) λp hp=>?_;rcases zF.mp hp with rfl | hp
 ·exact ha
 rcases zF.mp hp with rfl | hp
 ·exact hb
 ·rw[zC.mp hp];exact hd
def AY (h:n<0):dec n ="-" ++ dec (-n):=by
 obtain⟨m,rfl⟩:∃m:Nat,n=Int.negSucc m:={(-n-1).toNat,()}
 refine lD ?_;rw[cL];let e1:(dec (Int.negSucc m)).cps.toList=("-" ++ toString (m+1)).toList.map Char.toNat:=PyProof.Rows.signs_ofString _;let e2:(dec (-(Int.negSucc m))).cps.toList=(toString (m+1)).toList.map Char.toNat:=PyProof.Rows.signs_ofString _;rw[e1,e2,String.toList_append,zk];rfl
def lg {n:Nat} {c:Nat} (h:c∈(dec (n:Int)).cps.toList):48<=c/\c<=57:=by
 rw[AZ] at h;exact RM h
def Nw {n:Nat} (h:(dec (n:Int)).cps[0]?=some 48):⇑(dec (n:Int))=1:=by
 rcases Nat.eq_zero_or_pos n with rfl | hn
 ·rw[Gx];decide
 ·let⟨c,r,e,hc⟩:=Lm.PQ n hn
  rw[<-xk,AZ,e] at h;simp only[zj,List.getElem?_cons_zero,xN] at h;exact absurd (Char.toNat_inj.mp (by rw[h];rfl)) hc
def Jn {n:Nat}:1<=⇑(dec (n:Int)):=by
 rw[Gx];exact PySem.toDigits_len_ge 10 n
def E7 {n k:Nat} (hk:0<k) (h:n<10^k):⇑(dec (n:Int))<=k:=by rw[Gx];exact Lm.TR hk h
def T9 (a:Option Int) (n:Nat):Builtin.Str.strSliceIndices a none 1 n=Builtin.Str.strSliceIndices a (some (n:Int)) 1 n:=by
 let h:¬((n:Int)<0):=()
 let e:max (0:Int) (min (n:Int) (n:Int))=n:=()
 simp only[Builtin.Str.strSliceIndices,h,wt,e,show((1:Int)>0)=True from by simp,vf]
def T8 (b:Option Int) (n:Nat):Builtin.Str.strSliceIndices none b 1 n=Builtin.Str.strSliceIndices (some ((0:Nat):Int)) b 1 n:=by
 let h:¬(((0:Nat):Int)<0):=()
 let e:max (0:Int) (min ((0:Nat):Int) (n:Int))=0:=()
 simp only[Builtin.Str.strSliceIndices,h,wt,e,show((1:Int)>0)=True from by simp,vf]
def EG (x:Str) (hab:a<=b) (hb:b<=⇑x):(PySem.Txt.slice x (some (a:Int)) (some (b:Int))).cps.toList=(x.cps.toList.drop a).take (b-a):=by
 unfold PySem.Txt.slice;split
 ·rename_i h
  rw[PySem.StrLaws.strSliceIndices_plain hab hb] at h;simp only[wg,yW,vh,za,zU] at h;let hl:⇑x.cps.toList=⇑x:=yQ;let ea:a=0:=()
  let eb:b-a=⇑x.cps.toList:=()
  rw[eb,ea,List.drop_zero,zP]
 ·exact PySem.StrLaws.sliced_plain x hab hb
def pN (x:Str) (h:a<=⇑x):(PySem.Txt.slice x (some (a:Int)) none).cps.toList=x.cps.toList.drop a:=by
 let e:PySem.Txt.slice x (some (a:Int)) none=PySem.Txt.slice x (some (a:Int)) (some ((⇑x:Nat):Int)):=by
  unfold PySem.Txt.slice;rw[T9]
 let hl:⇑x.cps.toList=⇑x:=yQ;rw[e,EG x h (zm _),xx (by rw[xC];ext)]
def HP (x:Str) (h:b<=⇑x):(PySem.Txt.slice x none (some (b:Int))).cps.toList=x.cps.toList.take b:=by
 let e:PySem.Txt.slice x none (some (b:Int))=PySem.Txt.slice x (some ((0:Nat):Int)) (some (b:Int)):=by
  unfold PySem.Txt.slice;rw[T8]
 rw[e,EG x (yh _) h,List.drop_zero,Nat.sub_zero]
def lR {K:yB} {mg:Str->Option vv} {base:vE} {x:Str} {C:vD} {bm:List vv} {newId:String} (P:vz) (m:Mod K mg base) (e:PySem.W.nsIn K mainGlobals x=some (some (.ref C)))
  (q:PySem.W.excIn K C bm newId=true):OwnCls x C bm newId mg base:=by
 let⟨mb,hb,hbb⟩:=m.blt;let⟨o0,es0,ep0,hg0,hd0,sk0,look⟩:=m.glob;let fr:∀y,y∉(es0.toList.filterMap λ(d:DictEntry)=>match d.key with | .str z _=>some z | _=>none)->mg y=none:=λy hy=>by
  rw[<-look y];show(es0.find? λd=>d.key.isStr y).map (·.val)=none;cases hf:es0.find? λd=>d.key.isStr y with
  | none=>rfl
  | some d=>
   exfalso;let hm:=Array.mem_of_find?_eq_some hf;let hk:=Array.find?_some hf;let⟨z,t,ez⟩:=sk0 d hm;let ezy:z=y:=by rw[ez] at hk;exact eq_of_beq (show(z == y)=true from hk)
   exact hy (vm.mpr {d,by simpa using hm,by rw[ez,ezy]})
 exact PySem.W.own_of_in (p:=P) (loose:=es0.toList.filterMap λ(d:DictEntry)=>match d.key with | .str z _=>some z | _=>none) m.TV {m.glob,hb,m.nolimit,hbb,λy _ hl _ _ _=>fr y hl} e q
structure LD (P:vz) (w:vA) (fs:List vD) (H H':Hp) (h B h':vE):Prop where
 keep:∀b o,h.get? b=some o->H b=none->b∉fs->B.get? b=some o
 slot:∀b o,h.get? b=some o->H b=none->b∈fs->∃sl,h'.get? b=some {o with slots:=sl}
 free:∀b o,h.get? b=some o->H b=none->H' b=none
 there:∀b o,h.get? b=some o->b∉fs->∃o',B.get? b=some o'
 lB:∀b xs,H b=some (.tup xs)->H' b=some (.tup xs)
 kA:∀b o u,H b=some (.qS o u)->H' b=some (.qS o u)
 lC:∀b ps,H b=some (.Ol ps)->∃more,H' b=some (.Ol (ps++more))
 cB:pB P w H' B
 kg:B.StaysIn h'
section
variable {P:vz} {w:vA} {fs:List vD} {H H':Hp} {h B h' h2:vE}
def LD.un (f:LD P w fs H H' h B h') (DS:∀b∈fs,H b=none):Un fs [] H H' h h' where
 keep:=λb o e n hb _=>f.kg b o (f.keep b o e n hb)
 slot:=λb o e n hb _=>f.slot b o e n hb
 free:=λb o e n _=>f.free b o e n
 there:=λb o e _=>by
  by_cases hb:b∈fs
  ·let⟨sl,q⟩:=f.slot b o e (DS b hb) hb
   exact{_,q}
  ·let⟨o',q⟩:=f.there b o e hb
   exact{o',f.kg b o' q}
 lB:=f.lB
 kA:=f.kA
 lC:=f.lC
def LD.on (f:LD P w fs H H' h B h') (u:h'.UpToSlots h2) (st:B.StaysIn h2) (nf:∀b∈fs,∃o,h'.get? b=some o/\∀vs,o.data≠.fields vs):LD P w fs H H' h B h2:=
 {f.keep,λb o e n hb=>by
  let⟨sl,q⟩:=f.slot b o e n hb;let⟨o1,q1,nd⟩:=nf b hb;rw[q] at q1;cases q1;let⟨sl2,q2⟩:=u b _ q nd;exact{(sl2),q2},f.free,f.there,f.lB,f.kA,f.lC,f.cB,st}
end
def qT (P:vz) (w:vA):JZ:=λouter H s E e s'=>∃(a:vD) (cls a0:vv) (B:vE) (H':Hp),e=.ref a/\s'.os=s.os/\AllBare s'.gens/\Heap.FlyingW B outer a cls a0 s'.heap/\LD P w (kB outer) H H' s.heap B s'.heap/\E cls none H'
def B8 (hf:env.frame=some L):kB (env::outer)=L::kB outer:=by
 unfold kB;rw[vc,hf]
def SV (C:vD) (te:TA) (E:XK):TS:=λ_ U H=>te U H λvs H1=>⇑vs<=sizeLine/\E (.ref C) none H1
section
variable {P:vz} {w:vA} {K:yB} {mg:Str->Option vv} {base:vE} {N:List Str} {qual:Str} {scope:Scope} {f:vD} {cdv:vv} {A:vB} {outer:List Env} {s₀:vw} {H₀:Hp} {E:XK}
def rF
  (hC0:PySem.W.nsIn K mainGlobals x=some (some (.ref C))) (hQ0:PySem.W.excIn K C bm newId=true) (FB:ExcBaseFacts Bn newId initId bm) (hg:Gl (jF (qT P w) P w K mg base N qual scope f cdv A outer s₀ H₀ E) x)
  (ha:PA (jF (qT P w) P w K mg base N qual scope f cdv A outer s₀ H₀ E) (e₀::es) ta) (hd:(x == ("__debug__": Str))=false<|>qb_)
  (hs:starEach (e₀::es) (jF (qT P w) P w K mg base N qual scope f cdv A outer s₀ H₀ E).env=(false,eval e₀ (jF (qT P w) P w K mg base N qual scope f cdv A outer s₀ H₀ E).env)::starEach es (jF (qT P w) P w K mg base N qual scope f cdv A outer s₀ H₀ E).env<|>qe_)
  (hpl:(backTo cpos (starEach es (jF (qT P w) P w K mg base N qual scope f cdv A outer s₀ H₀ E).env)).any (·.1)=false<|>qe_) :
  PS (jF (qT P w) P w K mg base N qual scope f cdv A outer s₀ H₀ E) (.Raise (some (.Call (.Name x np) (e₀::es) [] cpos)) none pos) (SV C ta E):=by
 intro pins s U H D I h;let O:OwnCls x C bm newId mg base:=lR P I.ok.mod hC0 hQ0;let⟨tl,Nn,nm,q,bs,hdct,sn,sub,ab,col,dd,k0,k1,k2,k3,k5,mN,hC,hN,hni,T⟩:=O.obj;refine wpAny_Raise_call_subT (C:=C) (nm:=nm) (q:=q) (N:=Nn) (bs:=bs) (bm:=tl) (hdct:=hdct) (sn:=sn) (sub:=sub) (ab:=ab) (col:=col) (dd:=dd) (k0:=k0) (k1:=k1) (k2:=k2) (k3:=k3) (k5:=k5)
  FB (mN:=mN) (T.hasType FB.hasBase) (I.ok.hd rfl) (by rw[hs];show(false||(backTo cpos (starEach es (jF (qT P w) P w K mg base N qual scope f cdv A outer s₀ H₀ E).env)).any (·.1))=false;rw[hpl];rfl) hni (iU I hg O.bound {rfl,?_} hd)
 let hA:=ha (pos:=cpos) s U H _ I h;rw[hs] at hA ⊢;refine Calls.evalArgs_plain (xg hA (λus s2 z0=>?_) λ_ _ y=>y);let⟨vs,H2,I2,r2,hl,q2⟩:=z0;refine{rfl,?_,I2.bk _ _ hC,hN.keeps I2.bk,T.keeps I2.bk,λh' e mk=>?_}
 ·show ⇑us<=sizeLine
  rw[<-⇑r2];exact hl
 show wpAny (model P w) (A.deeper (envOfC qual scope ↑s₀ f cdv)) (leaving (envOfC qual scope ↑s₀ f cdv) (.ref e)) (λ_ s''=>qT P w outer H₀ s₀ E (.ref e) s'') (λe' s''=>qT P w outer H₀ s₀ E e' s'') {s2 with heap:=h'};let hfr:kB (envOfC qual scope ↑s₀ f cdv::outer)=↑s₀::kB outer:=B8 rfl;let hst:s2.heap.FunFrames base (envOfC qual scope ↑s₀ f cdv::outer):=I2.stack;let hin:∀env∈(envOfC qual scope ↑s₀ f cdv::outer),∀a,env.frame=some a->a∈kB (envOfC qual scope ↑s₀ f cdv::outer):=λenv he a hf=>vm.mpr {(env),he,hf};let hl:=PySem.W.funFrames_hide (as:=kB (envOfC qual scope ↑s₀ f cdv::outer)) hst hin;refine wpAny_leaves_madeW (base:=PySem.W.hideAll s2.heap (kB (envOfC qual scope ↑s₀ f cdv::outer))) (h:=s2.heap) I2.ok.frames rfl (λb o q=>PySem.W.of_hideAll _ q) hl mk (λh'' t fl _ _ ups=>?_);let low:∀b o,s₀.heap.get? b=some o->b≠↑s₀:=λb o e z=>absurd (yz e) (by rw[z];exact yg _);let nin:∀b o,s₀.heap.get? b=some o->b∉kB outer->b∉kB (envOfC qual scope ↑s₀ f cdv::outer):=λb o e n z=>by
  rw[hfr] at z;rcases zF.mp z with z | z
  ·exact low b o e z
  ·exact n z
 let jN:∀b:vD,b∉(jF (qT P w) P w K mg base N qual scope f cdv A outer s₀ H₀ E).ex:=λb z=>absurd (show b∈([]:List vD) from z) (by simp);refine{e,.ref C,.ref t,_,H2,rfl,I2.os,I2.bare,fl,{λb o q n hb=>w6 _ (I2.base.keep b o q n hb (jN b)) (nin b o q hb),λb o q n hb=>?_,λb o q n=>I2.base.free b o q n (jN b),λb o q hb=>?_,I2.base.lB,I2.base.kA,I2.base.lC,λa o q=>?_,fl.1},q2}
 ·let⟨sl,e1⟩:=I2.base.slot b o q n hb (jN b)
  let⟨_,o1,e2,nd⟩:=I2.ok.l6.mem hb;let e3:=mk.keeps _ _ e1;let e2':s₀.heap.get? b=some o1:=e2;rw[q] at e2';cases e2';let⟨sl2,e4⟩:=ups b _ e3 nd;exact{(sl2),e4}
 ·let⟨o',e1⟩:=I2.base.there b o q (jN b)
  exact{o',w6 _ e1 (nin b o q hb)}
 ·refine(I2.cB a o q).kg (λb u hb e1=>w6 _ e1 λz=>?_) (λ_ z=>z) λ_ _ z=>z
  let n:=I2.oA b z;rcases hb with rfl | hb
  ·rw[q] at n;cases n
  ·rw[hb] at n;cases n
def QB.UG {x:Str} {st:Stmt} {fd:vC} {ps:List Str} {k:Nat} {sp:Sp} (F:QB K x qual st f fd) (S:dY N ps (aT st)) (len:∀vs H Q E,sp vs H Q E->⇑vs=⇑ps)
  (hbody:∀(cdv:vv) (A:vB) (outer:List Env) (s:vw) (H:Hp) (vs:List V) (Q:VK) (E:XK),fM k (A.deeper (envOfC qual (aT st) ↑s f cdv))->sp vs H Q E->
   ∃t,C5 (jF (qT P w) P w K mg base N qual (aT st) f cdv A outer s H E) (cF st) t/\t {nx:=λ_ H'=>Q .bT H',rt:=Q} (start N vs) H):dy P w K mg base (qT P w) (k+1) f fd ps sp:=by
 let⟨oc,od,kV,doc,pm,an,cdv,ct,osl,rfl,lk,hcd⟩:=F.ex;exact Su lk hcd S len λA outer s H vs Q E hr hsp=>hbody cdv A outer s H vs Q E hr hsp
end
abbrev Cx.held (X:Cx) (e:vv):Cx:={X with A:=X.A.mark (some e),calm:=false}
theorem Cx.Ok.held {X:Cx} (ok:X.Ok) (e:vv):(X.held e).Ok:=
 {ok.mod,ok.kind,ok.glob,ok.blt,ok.above,ok.inj,ok.has,ok.RS,λz=>(nomatch (show false=true from z)),ok.frames,ok.Sa,ok.UH,ok.bs,ok.Mq,ok.jN,ok.Gs,ok.l6,ok.DS}
def Cx.Ok.ke {X:Cx} {e:vv} (ok:(X.held e).Ok) (hd:X.calm=true->X.A.handled=none):X.Ok:=
 {(ok.mod),ok.kind,ok.glob,ok.blt,ok.above,ok.inj,ok.has,ok.RS,hd,ok.frames,ok.Sa,ok.UH,ok.bs,ok.Mq,ok.jN,ok.Gs,ok.l6,ok.DS}
section
variable {X:Cx} {pins:List (vD×Obj)} {U:St} {H:Hp} {s:vw} {e:vv}
theorem Inv.held (I:Inv X pins U H s) (e:vv):Inv (X.held e) pins U H s:={I.ok.held e,I.os,I.bare,I.base,I.loc,I.cell,I.free,I.ic,I.pin,I.cB,I.len}
theorem Inv.ke (I:Inv (X.held e) pins U H s) (hd:X.calm=true->X.A.handled=none):Inv X pins U H s:={I.ok.ke hd,I.os,I.bare,I.base,I.loc,I.cell,I.free,I.ic,I.pin,I.cB,I.len}
theorem SP.ke (hd:X.calm=true->X.A.handled=none) (h:SP (X.held e) pins D f s'):SP X pins D f s':=by
 cases f with
 | next=>let⟨U',H',I,q⟩:=h;exact{U',H',I.ke hd,q}
 | brk=>let⟨U',H',I,q⟩:=h;exact{U',H',I.ke hd,q}
 | cont=>let⟨U',H',I,q⟩:=h;exact{U',H',I.ke hd,q}
 | ret u=>let⟨v,U',H',I,r,q⟩:=h;exact{v,U',H',I.ke hd,r,q}
end
def UX (i:Nat) (sp:Sp) (t:TA) (C:vD) (th:TS):TS:=λD U H=>t U H λvs H1=>sp vs H1 (λv H2=>cw i v U H2 D.nx) λcls _ H2=>cls=.ref C/\th D U H2
section
variable {X:Cx} {k:Nat} {f:vD} {fd:vC} {ps:List Str} {sp:Sp} {fx cn x:Str} {p pos cpos pa tpos np hpos:Pos} {e₀:Expr} {es:List Expr} {t:TA} {i:Nat} {C:vD} {bm:List vv} {newId:String} {b₀:Stmt} {suite:List Stmt} {th:TS}
def Rc (F:dy X.prog X.w X.K X.mg X.base (qT X.prog X.w) k f fd ps sp) (hr:fM k X.A) (hg:Gl X fx) (hm:X.mg fx=some (.ref f)) (hk:PySem.W.keepIn X.K (.ref f)=true) (hb:Binds X.K fd ps []) (ha:PA X.JY (e₀::es) t)
  (hc:X.calm=true) (hN:X.N.Nodup) (hi:X.N[i]?=some x) (hx:Loc X.env.scope x) (hgc:Gl X cn) (hC0:PySem.W.nsIn X.K mainGlobals cn=some (some (.ref C))) (hQ0:PySem.W.excIn X.K C bm newId=true) (hbase:bm.contains (.type "BaseException")=true) (hstk:X.stack=X.env::X.outer) (hfrm:X.env.frame=some X.env.locals)
  (hsu:∀e,C5 (X.held e).JY (b₀::suite) th)
  (hdb:(fx == ("__debug__": Str))=false<|>qb_) (hdc:(cn == ("__debug__": Str))=false<|>qb_) (he:starEach (e₀::es) X.env=(false,eval e₀ X.env)::starEach es X.env<|>qe_) (hpl:(backTo cpos (starEach es X.env)).any (·.1)=false<|>qe_)
  (hs:swapsWith (.Call (.Name fx p) (e₀::es) [] cpos) (some (.Name x tpos)) pa.line X.env=pure false<|>qe_) (hf:X.fn x=true\/X.env.scope.names.lookup x=some .local<|>qa_) :
  PS X (.Try [.Assign [.Name x tpos] (.Call (.Name fx p) (e₀::es) [] cpos) pa] [.ExceptHandler (some (.Name cn np)) none (b₀::suite) hpos] [] [] pos) (UX i sp t C th):=by
 intro pins s U H D I h;let O:OwnCls cn C bm newId X.mg X.base:=lR X.prog I.ok.mod hC0 hQ0;refine wpAny_Try_except (wpAny_execs_cons ?_);refine wpAny_Assign_Name ?_ hs;refine xq (iU I hg hm ?_ hdb);let hA:wpAny (model X.prog X.w) X.A (spliced (backTo cpos (starEach (e₀::es) X.env))) (AP X.JY pins U _) (λ_ _=>False) s:=ha s U H _ (I.pE _) h;refine vj (h₀:=X.base) I.ok.mod.TV hk (xg hA (λus s1 z0=>?_) λ_ _ z=>z.elim) he hpl;let⟨vs,H1,I1',r,q⟩:=z0;refine{I1'.DR,?_};let I1:Inv X pins U H1 s1:=I1'.gB;let hl:⇑us=⇑ps:=by rw[<-⇑r];exact F.len _ _ _ _ q
 refine wpAny_call (xS (F.run X.A X.stack s1 H1 {us,[]} us vs _ _ hr I1.RG (by have:=hb s1 us I1.DR (by rw[zX];exact hl);rw[zX] at this;exact this) r q) λrr s' hq=>?_);cases rr with
 | ok fl=>
  cases fl with
  | ret u=>
   let⟨v,H2,I2,r2,q2⟩:=I1.after hq;refine kO I2 hN hi hx r2 (λs2 I3=>?_) hf;exact wx (wx {_,H2,I3,q2})
  | next=>exact False.elim hq
  | brk=>exact False.elim hq
  | cont=>exact False.elim hq
 | error ev=>
  let⟨a,cls,a0,B,H',rfl,os,bare,fl,fly,⟨rfl,q2⟩⟩:=hq;let DS:∀b∈kB X.stack,H1 b=none:=I1.oA;let nf:∀{hh:vE},Heap.FunFrames hh B X.stack->∀b∈kB X.stack,∃o,hh.get? b=some o/\∀vs,o.data≠.fields vs:=λhF b hb=>(hF.mem hb).2;let back:∀(hh:vE),LD X.prog X.w (kB X.stack) H1 H' s1.heap B hh->Inv X pins U H' {s' with heap:=hh}:=λhh fy=>
   I1.Mp (s':={s' with heap:=hh}) (ch:=[]) os (fy.un DS) (fy.cB.kept fy.kg) bare λb z=>absurd z (by simp)
  let hfr:X.A.frames=some (X.env::X.outer):=by rw[<-hstk];exact I1.ok.frames
  refine wpAny_looks_onW hfr hfrm (by rw[<-hstk];exact fl) λh4 held4 up4=>?_;refine wpAny_landsW held4 λh5 fl5 up5=>?_;let fl5':Heap.FlyingW B X.stack a (.ref C) a0 h5:=by rw[hstk];exact fl5
  let fy5:LD X.prog X.w (kB X.stack) H1 H' s1.heap B h5:=fly.on (up4.trans up5) fl5.1 (nf fl.2.2.1);let I5:=back h5 fy5;let⟨ob,hob,hobc⟩:=fl5'.there;let⟨tl,Nn,nm,qn,bs,hdct,sn,sub,ab,col,dd,k0,k1,k2,k3,k5,mN,hC,hN',hni,T⟩:=O.obj;refine wpAny_handleBy_cons (codeAny_handlers_test (iU (X:=X.held (.ref a)) (I5.held _) hgc O.bound ?_ hdc)) (by intro q;cases q);refine wpAny_excMatches_sub_self (I5.bk _ _ hC) hob hobc (T.hasType hbase) (codeAny_handlers_suite ?_);refine lands_againW fl5' λh6 fl6 up6=>?_;let fy6:LD X.prog X.w (kB X.stack) H1 H' s1.heap B h6:=fy5.on up6 fl6.1 (nf fl5'.2.2.1);let I6:=back h6 fy6;refine xg (hsu (.ref a) _ U H' D ((I6.held _).pE _) q2) (λfl s7 z=>?_) λ_ _ z=>z.elim;exact SP.ke I.ok.hd (SP.gB z)
end
section
variable {X:Cx}
def Oz {zs:List Str} {its:List vv} (r:Vals (zs.map V.str) its) {j:Nat} (h:j<⇑its):∃z t,zs[j]?=some z/\its[j]=.str z t:=by
 let hl:⇑zs=⇑its:=by have:=⇑r;rw[za] at this;exact this
 let⟨u,hu,ru⟩:=r.get (i:=j) (x:=.str (zs[j]'())) (by rw[zM,zd ()];rfl);let⟨t,rfl⟩:=ru;rw[zd h] at hu;exact{_,t,zd (),ym hu}
end
structure oz (K:yB) (D:vD):Prop where
 ga:PySem.W.findIn K (.ref D) "__getattribute__"= some (some (.builtin "BaseException.__getattribute__"))
 Xx:PySem.W.findIn K (.ref D) "__getattr__"= some none
 ca:PySem.W.findIn K (.ref D) "__class__"= some (some (.builtin "object.__class__"))
 mB:PySem.W.mroIn K D (.type "BaseException")=some true
 mO:PySem.W.mroIn K D (.type "object")=some true
def qH {K:yB} {D:vD} {b:vv} {r:Bool} (h:PySem.W.mroIn K D b=some r):(PySem.W.clsIn K D).isSome=true:=by
 unfold PySem.W.mroIn at h;let⟨cd,e,_⟩:=Option.bind_eq_some_iff.mp h;rw[e];rfl
def oz.cl {K:yB} {D:vD} (Z:oz K D):(PySem.W.clsIn K D).isSome=true:=qH Z.mO
def PD {K:yB} {D:vD} {n:String} {b:Bool} (h:PySem.W.subIn K (.ref D) (.type n)=some b) (hm:PySem.W.kitMeta n=true):PySem.W.kitOne K (.ref D) (.type n)=some b:=by
 unfold PySem.W.kitOne;rw[yN (by simp)];unfold PySem.W.kitCls;dsimp only;rw[yO hm];exact h
def L9 {K:yB} {D C:vD} {b:Bool} (h:PySem.W.subIn K (.ref D) (.ref C)=some b) (ne:D≠C) (hm:PySem.W.mroIn K C (.type "object")=some true) (ht:PySem.W.typeIn K (.ref C)=some (.type "type")):PySem.W.kitOne K (.ref D) (.ref C)=some b:=by
 unfold PySem.W.kitOne;rw[yN (by simp[ne])];unfold PySem.W.kitCls;dsimp only;rw[yO (by rw[qH hm,ht];rfl)];exact h
def B3 {K:yB} {D:vD}:PySem.W.kitOne K (.ref D) (.ref D)=some true:=by unfold PySem.W.kitOne;rw[yO (by simp)]
structure m8 (K:yB) (D C:vD):Prop where
 sub:PySem.W.subIn K (.ref D) (.ref C)=some false
 ob:PySem.W.mroIn K C (.type "object")=some true
 ty:PySem.W.typeIn K (.ref C)=some (.type "type")
def m8.QE {K:yB} {D C:vD} (n:m8 K D C) (self:PySem.W.subIn K (.ref D) (.ref D)=some true):PySem.W.kitOne K (.ref D) (.ref C)=some false:=
 L9 n.sub (λe=>by subst e;have:=n.sub;rw[self] at this;cases this) n.ob n.ty
section
variable {K:yB} {D x:vD} {prog:vz} {w:vA} {A:vB} {E:vv->vw->Prop} {h:vE} {g:Array GenState} {d:Drawn} {t:Nat} {os:OsState}
def Jh {M:Model} {o:Obj} (hx:h.get? x=some o) (hc:o.cls=.ref D):PySem.W.Looks M h (typeOf (.ref x)) (.ref D):=hc▸(PySem.W.Looks.ld hx).andThen .now
open Builtin Builtin.ObjectAttr Builtin.Getset_descriptor in
def Ud {o:Obj} {R:Result->vw->Prop} {tp:vv} (X:K.In h) (Z:oz K D) (hx:h.get? x=some o) (hc:o.cls=.ref D) (hq:R (.ok (.ret (.ref D))) {(h),g,d,t,os}) :
  codeAny (model prog w) A (.call (.builtin "getset_descriptor.__get__") {[.builtin "object.__class__",.ref x,tp],[]}) R {(h),g,d,t,os}:=by
 let L0:=Jh (M:=model prog w) hx hc;let L1:=PySem.W.looks_mroIn (M:=model prog w) X Z.mO;refine codeAny_call_builtin PySem.W.KF.slot_gs.plain PySem.W.KF.entry_gs (PySem.W.KF.slot_gs.check _ _ _ _ _ _ _ _ PySem.W.KF.type_class (PySem.W.KF.args_gs _ _ _) ?_);unfold Builtin.«getset_descriptor.__get__» descrGet;rw[PySem.W.dga_obj];refine yv (yx ?_);unfold descrGetter descrCheckInstance descrNameAndClass isInstance;simp only[PySem.W.KF.owner_class]
 repeat (open PySem.W in lk)
 refine{Code.quiet_builtin _ (by decide +kernel),xV PySem.W.KF.entry_class ?_};unfold Builtin.«object.__class__» shownTypeOf
 repeat (open PySem.W in lk)
 exact hq
def P1 {o:Obj} {tk:Tok} {Q:Fin->vw->Prop} (X:K.In h) (Z:oz K D) (hx:h.get? x=some o) (hc:o.cls=.ref D) (hq:Q (.done (.ret (.ref D))) {(h),g,d,t,os}) :
  wpAny (model prog w) A (Builtin.«object.__getattribute__» {[.ref x,.str "__class__" tk],[]}) Q E {(h),g,d,t,os}:=by
 let hT5:({(h),g,d,t,os}:vw).TypeIs (.builtin "object.__class__") "getset_descriptor":=F.typeOf_object_class;let f5:=F.typeOf_object_class;let f6:=F.slot_gs_get.lookup;let f7:=F.slot_gs_set.lookup;let L1:=PySem.W.looks_findIn (M:=model prog w) X Z.ca
 repeat (any_goals (first | assumption | (with_reducible refine wpAny_loadPart_at hx ?_;rw[hc]) | (with_reducible refine L1.at ?_) | wp_step))
 refine Ud X Z hx hc ?_
 repeat (any_goals (first | assumption | wp_step))
def P4 {M:Model} {o:Obj} {nameV:vv} {Q:Unit->vw->Prop} (X:K.In h) (Z:oz K D) (hx:h.get? x=some o) (hc:o.cls=.ref D) (hq:Q .unit {(h),g,d,t,os}) :
  wpAny M A (checkBuiltinCall "BaseException.__getattribute__" {[.ref x,nameV],[]}) Q E {(h),g,d,t,os}:=by
 let hk:builtinKind "BaseException.__getattribute__"= some .slot:=by decide +kernel
 let hsplit:splitId "BaseException.__getattribute__"= some ("BaseException","__getattribute__"):=by decide +kernel
 let L1:=PySem.W.looks_mroIn (M:=M) X Z.mB;let ha:=F.args_bexc_ga (.ref x) nameV;simp only[checkBuiltinCall,hk,hsplit];refine yv ?_
 ·unfold isInstance
  repeat (first | (with_reducible refine wpAny_loadPart_at hx ?_;rw[hc]) | (with_reducible refine L1.at ?_) | wp_step)
  exact hq
def Vt {o:Obj} {tk:Tok} {fill expr:Bool} {Q:vv->vw->Prop} (X:K.In h) (Z:oz K D) (hx:h.get? x=some o) (hc:o.cls=.ref D) (hq:Q (.ref D) {(h),g,d,t,os}) :
  wpAny (model prog w) A (getAttrBy (.ref x) (.str "__class__" tk) fill expr) Q E {(h),g,d,t,os}:=by
 let f3:=F.attr_ValueError.ga.bind (.ref x);let hx0:(expr&&onTheHeap (Value.builtin "BaseException.__getattribute__"))=false:=by cases expr <;> rfl
 let hx2:(Value.builtin "BaseException.__getattribute__"== Value.builtin "object.__getattribute__")=false:=by decide +kernel
 let hx1:(onTheHeap (Value.ref D)&&Value.builtin "BaseException.__getattribute__"== Value.builtin "object.__getattribute__")=false:=by rw[hx2];rfl
 let L1:=PySem.W.looks_findIn (M:=model prog w) X Z.ga;let L2:=PySem.W.looks_findIn (M:=model prog w) X Z.Xx
 repeat (any_goals (first | assumption | (with_reducible refine wpAny_loadPart_at hx ?_;rw[hc]) | (with_reducible refine L1.at ?_) | (with_reducible refine L2.at ?_) | wp_step))
 refine codeAny_call_builtin F.attr_ValueError.ga.plain F.entry_bexc_ga (P4 X Z hx hc (P1 X Z hx hc ?_))
 repeat (any_goals (first | assumption | wp_step))
def P2 {o:Obj} {Q:Option vv->vw->Prop} {s:vw} (X:K.In s.heap) (Z:oz K D) (hx:s.heap.get? x=some o) (hc:o.cls=.ref D) (hq:Q (some (.ref D)) {s with toks:=s.toks+1}) :
  wpAny (model prog w) A (getAttr? (.ref x) "__class__") Q E s:=by
 let⟨h,g,d,t,os⟩:=s;unfold getAttr? getAttrBy?;refine yv (wpAny_mkText (yv (wU ?_)));refine Vt X Z hx hc ?_;exact yx hq
def RC {M:Model} {S:vD} {o:Obj} {ddS:Option vD} {cdS:ClassData} {slS:Array (Option vv)} {Q:Bool->vw->Prop} (X:K.In h) (hx:h.get? x=some o) (hc:o.cls=.ref D) (hS:K.lookup S=some {.type "type",ddS,.cls cdS,slS}) (hSB:PySem.W.mroIn K S (.type "BaseException")=some true)
  (hup:PySem.W.mroIn K D (.ref S)=some true) (hq:Q true {(h),g,d,t,os}):wpAny M A (excMatches (.ref x) (.ref S)) Q E {(h),g,d,t,os}:=by
 let L1:=PySem.W.looks_mroIn (M:=M) X hSB;let L2:=PySem.W.looks_mroIn (M:=M) X hup;let hS':=X _ _ hS;let noTuple:=tc_notTuple;unfold excMatches
 repeat (first
  | (with_reducible refine wpAny_loadPart_at hx ?_;rw[hc])
  | (with_reducible refine wpAny_loadPart_at hS' ?_)
  | (with_reducible refine L1.at ?_)
  | (with_reducible refine L2.at ?_)
  | wp_step)
 exact hq
def Rw (Z:oz K D):PySem.W.KitX K (.ref x) (.ref D) (λh=>∃o,h.get? x=some o/\o.cls=.ref D) where
 ty:=λ_ _ _ ⟨o,hx,hc⟩=>Jh hx hc
 it:=λ_ _ X _=>by
  let hcD:=Z.cl;unfold PySem.W.clsIn at hcD;split at hcD
  ·rename_i c' d' cd' sl' ho
   intro A' Q' E' s' k q;unfold isType loadHead;exact yv (wpAny_loadPart (k _ _ (X _ _ ho)) (yx q))
  ·cases hcD
 ne:=λh tp dd its n sl X htp=>by
  let hcD:=Z.cl;refine Bool.eq_false_iff.mpr λq=>?_;let e:D=tp:=Value.ref.inj (vh.mp q);subst e;unfold PySem.W.clsIn at hcD;split at hcD
  ·rename_i c' d' cd' sl' ho
   let z:=(X _ _ ho).symm.trans htp;cases z
  ·cases hcD
 ca:=λX ⟨o,hx,hc⟩ k=>P2 X Z hx hc k
end
def N4 (D x:vD):HO:=.ext λh=>∃o,h.get? x=some o/\o.cls=.ref D
def N4.at' {P:vz} {w:vA} {H:Hp} {h:vE} {D x:vD} (ok:pB P w H h) (e:H x=some (N4 D x)):∃o,h.get? x=some o/\o.cls=.ref D:=by
 let⟨p,_⟩:=(show df P w H h x (N4 D x) from ok x _ e)
 exact p
section
variable {X:Cx}
def NI:fo X (.builtin "isinstance") (λxs H Q=>∃(x D:vD) (c:V) (u:vv) (b:Bool),xs=[.ref x,c]/\H x=some (N4 D x)/\oz X.K D/\((∃C,c=.ref C/\u=.ref C)\/∃n,c=.ty n/\u=.type n)/\PySem.W.kitOne X.K (.ref D) u=some b/\Q (.bl b) H):=by
 intro pins s U H xs us Q I r h;let⟨x,D,c,u,b,rfl,hx,Z,hc,e,q⟩:=h;cases r with
 | cons r rr=>
  cases rr with
  | cons r' rr=>
   cases rr;cases r;let hu:∀v,RelV c v->v=u:=by
    rintro v rv;rcases hc with⟨C,rfl,rfl⟩ | ⟨n,rfl,rfl⟩
    ·exact rv
    ·exact rv
   cases hu _ r';exact PySem.W.kia_one (Rw Z) I.DR (N4.at' I.cB hx) e (λz=>nomatch z) λtk=>{.bl _,H,I.tok tk,rfl,q}
end
def df.here (x:df P w H h a o):∃ob,h.get? a=some ob:=by
 cases o with
 | lst xs=>let⟨_,_,_,_,e⟩:=x;exact{_,e}
 | tup xs=>let⟨_,_,_,o,e,_⟩:=x;exact{_,e}
 | dK kvs=>let⟨_,_,_,_,o,_,_,e,_⟩:=x;exact{_,e}
 | dT kvs=>let⟨_,_,_,_,o,_,_,e,_⟩:=x;exact{_,e}
 | set S n=>let⟨o,_,_,_,e,_⟩:=x;exact{_,e}
 | ins C dx fs=>let⟨_,_,_,e,_⟩:=x;exact{_,e}
 | own y=>exact x
 | xd fs=>let⟨_,⟨_,_,_,e,_⟩,_⟩:=x;exact{_,e}
 | MT lo hi=>let⟨_,_,_,e⟩:=x;exact{_,e}
 | qS ob u=>let⟨e,_⟩:=x;exact{_,e}
 | Ol ps=>exact{_,x}
 | met f y=>exact{_,x}
 | ext φ=>exact x.2.1
section
variable {X:Cx} {pins:List (vD×Obj)} {U:St} {H:Hp} {s:vw}
def Inv.UT (I:Inv X pins U H s) (hn:H a=none) (h0:X.s₀.heap.get? a=none) (hl:a≠X.env.locals) (hc:∀x c,X.env.cells.lookup x=some c->c≠a) (hp:∀p∈X.pn++pins,p.1≠a)
  (new:df X.prog X.w (upd H a o) s.heap a o):Inv X pins U (upd H a o) s where
 ok:=I.ok
 os:=I.os
 bare:=I.bare
 base:={I.base.keep,I.base.slot,λb ob e n hx=>by rw[aE (λz=>by rw[z,h0] at e;cases e)];exact I.base.free b ob e n hx,I.base.there,
  λb xs e=>by have:=I.base.lB b xs e;rw[aE (bD this hn)];exact this,λb ob u e=>by have:=I.base.kA b ob u e;rw[aE (bD this hn)];exact this,
  λb ps e=>by let⟨m,e1⟩:=I.base.lC b ps e;exact{m,by rw[aE (bD e1 hn)];exact e1}}
 loc:=I.loc
 cell:=I.cell
 free:=by rw[aE (Ne.symm hl)];exact I.free
 ic:=λx c e=>by rw[aE (hc x c e)];exact I.ic x c e
 pin:=λp hpp=>by let⟨e,n,ne,nf,d⟩:=I.pin p hpp;exact{e,by rw[aE (hp p hpp)];exact n,ne,nf,d}
 cB:=λb u e=>by
  by_cases hb:b=a
  ·subst hb
   rw[aF] at e;cases e;exact new
  ·rw[aE hb] at e
   refine(I.cB b u e).kg (λ_ _ _ q=>q) (λc q=>?_) λc xs q=>?_
   ·rw[aE (bD q hn)];exact q
   ·rw[aE (bD q hn)];exact q
 len:=I.len
def Inv.QJ {h':vE} {n:Str} {j:Nat} {v:Option vv} {m:Str->Option vv} {t':Nat} (I:Inv X pins U H s) (hN:X.N.Nodup) (hj:X.N[j]?=some n) (hl:∀(i:Nat) (x:Str) (v:V),X.N[i]?=some x->U[i]?=some (some v)->Sw X.env.scope x->∃u,RelV v u/\Look X.env s.heap m x u) (hn:h'.Ns X.env.locals (λx=>if x=n then v else m x)) (hs:Heap.SameBut X.env.locals s.heap h') :
  Inv X pins (U.set j none) H {s with heap:=h',toks:=t'}:=by
 let Mn:=I.Mn;refine{I.ok,I.os,I.bare,{λb o e n hb hx=>?_,λb o e n hb hx=>?_,I.base.free,λb o e hx=>?_,I.base.lB,I.base.kA,I.base.lC},{_,hn,λi y v' e1 e2 e3=>?_},λy c e=>?_,I.free,I.ic,λp hp=>?_,λb ob e=>?_,by simpa using I.len}
 ·exact(hs.2 b (yk (yd (yz e) I.ok.above))).trans (I.base.keep b o e n hb hx)
 ·let⟨sl,e1⟩:=I.base.slot b o e n hb hx
  exact{sl,(hs.2 b (yk (yd (yz e) I.ok.above))).trans e1}
 ·let⟨o',e1⟩:=I.base.there b o e hx
  exact{o',(hs.2 b (yk (yd (yz e) I.ok.above))).trans e1}
 ·by_cases hi:i=j
  ·subst hi
   rw[List.getElem?_set] at e2;split at e2
   ·split at e2 <;> cases e2
   ·rename_i z;exact absurd rfl z
  ·rw[List.getElem?_set_ne (Ne.symm hi)] at e2
   let⟨u',r',q⟩:=hl i y v' e1 e2 e3;refine{u',r',?_};rcases q with⟨k,e⟩ | ⟨k,c,e,z⟩
   ·refine .inl {k,?_}
    have:y≠n:=λe=>hi (BW hN e1 (e▸hj));simp[this,e]
   ·exact .inr {k,c,e,z.sameBut hs (Mn y c e)}
 ·let⟨w',z⟩:=I.cell y c e
  exact{w',z.sameBut hs (Mn y c e)}
 ·let⟨e,n,ne,nf,d⟩:=I.pin p hp
  exact{(hs.2 p.1 ne).trans e,n,ne,nf,d}
 ·refine(I.cB b ob e).kg (λc w' hc q=>(hs.2 c ?_).trans q) (λ_ q=>q) λ_ _ q=>q
  rintro rfl;rcases hc with rfl | hc
  ·rw[I.free] at e;cases e
  ·rw[I.free] at hc;cases hc
end
def VT (j:Nat) (D:Ends):Ends:={nx:=λU H=>D.nx (U.set j none) H,rt:=D.rt,bk:=λU H=>D.bk (U.set j none) H,ct:=λU H=>D.ct (U.set j none) H}
section
variable {X:Cx} {k:Nat} {f:vD} {fd:vC} {ps:List Str} {sp:Sp} {fx cn n x:Str} {p pos cpos pa tpos np hpos:Pos} {e₀:Expr} {es:List Expr} {t:TA} {i j:Nat} {C S:vD} {bm bmS:List vv} {newId newIdS:String} {b₀:Stmt} {suite:List Stmt} {th:TS}
end
end L2
namespace L2
open PySem PySem.Spec PyProof.Rows
section
variable {κ:Type} [DecidableEq κ]
noncomputable def cI (kvs:List (κ×V)) (k:κ):Option V:=(kvs.find? λkv=>decide (kv.1=k)).map (·.2)
noncomputable def putK (kvs:List (κ×V)) (k:κ) (v:V):List (κ×V):=
 if(kvs.any λkv=>decide (kv.1=k))=true then kvs.map (λkv=>if kv.1=k then(kv.1,v) else kv) else kvs++[(k,v)]
def Hr {k:κ}:cI ([]:List (κ×V)) k=none:=rfl
def eF {p:κ×V} {r:List (κ×V)} {k:κ} (e:p.1=k):cI (p::r) k=some p.2:=by simp[cI,yT,e]
def eG {p:κ×V} {r:List (κ×V)} {k:κ} (e:¬p.1=k):cI (p::r) k=cI r k:=by simp[cI,yT,e]
theorem kM (k:κ):∀kvs:List (κ×V),(kvs.any λkv=>decide (kv.1=k))=(cI kvs k).isSome
 | []=>rfl
 | p::r=>by
  rw[xt]
  by_cases e:p.1=k
  ·simp only[eF e,zg e,Bool.true_or,Option.isSome_some]
  ·rw[eG e,ze e,Bool.false_or];exact kM k r
theorem Hs (k j:κ) (y:V):∀kvs:List (κ×V),cI (kvs.map λkv=>if kv.1=k then(kv.1,y) else kv) j=(cI kvs j).map λx=>if j=k then y else x
 | []=>rfl
 | p::r=>by
  let ih:=Hs k j y r;rw[zj]
  by_cases h:p.1=k
  ·rw[yO h]
   by_cases e:p.1=j
   ·rw[eF (p:=(p.1,y)) e,eF e,xn,yO (e.symm.trans h)]
   ·rw[eG (p:=(p.1,y)) e,eG e,ih]
  ·rw[yN h]
   by_cases e:p.1=j
   ·rw[eF (p:=p) e,eF e,xn,yN (λz=>h (e.trans z))]
   ·rw[eG (p:=p) e,eG e,ih]
theorem EA (k j:κ) (y:V):∀kvs:List (κ×V),cI kvs k=none->cI (kvs++[(k,y)]) j=if j=k then some y else cI kvs j
 | [],_=>by
  by_cases e:k=j
  ·rw[yO e.symm];exact eF (p:=(k,y)) e
  ·rw[yN (λz=>e z.symm)];exact eG (p:=(k,y)) e
 | p::r,hn=>by
  rw[wQ];let hk:¬p.1=k:=λz=>by rw[eF z] at hn;cases hn
  rw[eG hk] at hn;let ih:=EA k j y r hn
  by_cases e:p.1=j
  ·rw[eF e,eF e,yN (λz=>hk (e.trans z))]
  ·rw[eG e,eG e,ih]
def A2 (kvs:List (κ×V)) (k j:κ) (y:V):cI (putK kvs k y) j=if j=k then some y else cI kvs j:=by
 unfold putK
 by_cases a:(kvs.any λkv=>decide (kv.1=k))=true
 ·rw[yO a,Hs]
  rw[kM] at a
  by_cases e:j=k
  ·let⟨x,hx⟩:=Option.isSome_iff_exists.mp a
   rw[yO e,e,hx,xn,yO rfl]
  ·rw[yN e]
   cases cI kvs j with
   | none=>rfl
   | some x=>rw[xn,yN e]
 ·rw[yN a]
  refine EA k j y kvs ?_;rw[kM] at a;cases q:cI kvs k with
  | none=>rfl
  | some x=>rw[q] at a;exact(a rfl).elim
def jZ (kvs:List (κ×V)) (k:κ) (v:V):⇑(putK kvs k v)<=⇑kvs+1:=by
 unfold putK;split
 ·rw[za];ext
 ·rw[zh,zy,xo];ext
def O0 {kvs:List (κ×V)} {k:κ} (v:V) (h:cI kvs k=none):putK kvs k v=kvs++[(k,v)]:=by
 unfold putK;rw[kM,h];exact yN ∅
def mw.kW (r:mw o u):o.isSome=u.isSome:=by
 cases o with
 | none=>cases u with
  | none=>rfl
  | some _=>exact(show False from r).elim
 | some _=>cases u with
  | none=>exact(show False from r).elim
  | some _=>rfl
theorem mw.getD (r:mw o u) (rd:RelV d d'):RelV (o.getD d) (u.getD d'):=by
 cases o with
 | none=>cases u with
  | none=>exact rd
  | some _=>exact(show False from r).elim
 | some _=>cases u with
  | none=>exact(show False from r).elim
  | some _=>exact r
def KV.val {kvs:List (κ×V)} {vs:List (κ×vv)} (r:KV kvs vs) (k:κ):mw (cI kvs k) (valueAt vs k):=by
 unfold KV at r
 induction r with
 | nil=>exact True.intro
 | @cons p q ps qs h t ih=>
  let⟨h1,h2⟩:=h
  by_cases e:p.1=k
  ·let e':q.1=k:=h1.symm.trans e
   let b:valueAt (q::qs) k=some q.2:=by simp[valueAt,yT,e']
   rw[eF e,b];exact h2
  ·let e':¬q.1=k:=λz=>e (h1.trans z)
   let b:valueAt (q::qs) k=valueAt qs k:=by simp[valueAt,yT,e']
   rw[eG e,b];exact ih
theorem KV.any (r:KV kvs vs) (k:κ):(kvs.any λkv=>decide (kv.1=k))=vs.any λkv=>decide (kv.1=k):=by
 unfold KV at r
 induction r with
 | nil=>rfl
 | cons h t ih=>rw[xt,xt,ih,h.1]
def KV.Th (r:KV kvs vs) (k:κ) (ry:RelV y u) :
  KV (kvs.map λkv=>if kv.1=k then(kv.1,y) else kv) (vs.map λkv=>if kv.1=k then(kv.1,u) else kv):=by
 unfold KV at r ⊢
 induction r with
 | nil=>exact .nil
 | @cons p q ps qs h t ih=>
  rw[zj,zj];refine .cons ?_ ih;let⟨h1,h2⟩:=h
  by_cases e:p.1=k
  ·rw[yO e,yO (h1.symm.trans e)];exact{(h1),ry}
  ·rw[yN e,yN (λz=>e (h1.trans z))];exact{(h1),h2}
def KV.put (r:KV kvs vs) (k:κ) (ry:RelV y u):KV (putK kvs k y) (stored vs k u):=by
 unfold putK stored;rw[r.any k]
 by_cases e:(vs.any λkv=>decide (kv.1=k))=true
 ·rw[yO e,yO e];exact r.Th k ry
 ·rw[yN e,yN e];exact Paired.snoc r {(rfl),ry}
theorem KV.length (r:KV kvs vs):⇑kvs=⇑vs:=xY r
end
def EU (r:RelV (kV k) u):(dt P w).is k u=true:=by
 cases k with
 | inl i=>let⟨t,e⟩:=(show∃t,u=Value.int i t from r);subst e;exact IK P w i t
 | inr x=>let⟨t,e⟩:=(show∃t,u=Value.str x t from r);subst e;exact uS P w x t
theorem EV:∀{ks:List Key} {us:List vv},Vals (ks.map kV) us->ItemsAre (dt P w) ks us
 | [],_,r=>by rw[yo] at r;cases r;exact .nil
 | k::ks,_,r=>by
  rw[zj] at r;cases r with
  | cons h t=>exact .cons (EU h) (EV t)
abbrev KT (H:Hp):List (List Key×V)->List (List Key×vD×vv)->Prop:=Paired λp q=>p.1=q.1/\H q.2.1=some (.tup (p.1.map kV))/\RelV p.2 q.2.2
def KT.val {H:Hp} {kvs:List (List Key×V)} {xs:List (List Key×vD×vv)} (r:KT H kvs xs) (k:List Key):mw (cI kvs k) ((atKey xs k).map (·.2)):=by
 induction r with
 | nil=>exact True.intro
 | @cons p q ps qs h t ih=>
  let⟨h1,_,h2⟩:=h
  by_cases e:p.1=k
  ·let e':q.1=k:=h1.symm.trans e
   let b:atKey (q::qs) k=some q.2:=by simp[atKey,yT,e']
   rw[eF e,b];exact h2
  ·let e':¬q.1=k:=λz=>e (h1.trans z)
   let b:atKey (q::qs) k=atKey qs k:=by simp[atKey,yT,e']
   rw[eG e,b];exact ih
def KT.Th (r:KT H kvs xs) (k:List Key) (ry:RelV y u) :
  KT H (kvs.map λkv=>if kv.1=k then(kv.1,y) else kv) (xs.map (putAt k u)):=by
 induction r with
 | nil=>exact .nil
 | @cons p q ps qs h t ih=>
  rw[zj,zj];refine .cons ?_ ih;let⟨h1,h2,h3⟩:=h;unfold putAt
  by_cases e:p.1=k
  ·rw[yO e,yO (h1.symm.trans e)];exact{(h1),h2,ry}
  ·rw[yN e,yN (λz=>e (h1.trans z))];exact{(h1),h2,h3}
def KT.put (r:KT H kvs xs) (k:List Key) (hb:H b=some (.tup (k.map kV))) (ry:RelV y u) :
  KT H (putK kvs k y) (storedH xs k b u):=by
 let e:(kvs.any λkv=>decide (kv.1=k))=(atKey xs k).isSome:=by
  rw[kM,(r.val k).kW,Option.isSome_map]
 unfold putK storedH;rw[e]
 by_cases q:(atKey xs k).isSome=true
 ·rw[yO q,yO q];exact r.Th k ry
 ·rw[yN q,yN q];exact Paired.snoc r {(rfl),hb,ry}
def KT.keeps (r:KT H kvs xs) (ht:∀b ys,H b=some (.tup ys)->H' b=some (.tup ys)):KT H' kvs xs:=
 Paired.TM r λ_ _ z=>{z.1,ht _ _ z.2.1,z.2.2}
section
variable {P:vz} {w:vA} {H:Hp} {h:vE} {a:vD}
def Sd (ok:pB P w H h) (e:Rd H a u):df P w H h a u:=e.ok ok
def uY (ok:pB P w H h) (e:Rd H a (.dK kvs)):⇑kvs<=sizeLine/\(a == sysModules)=false/\∃vs,KV kvs vs/\h.DictOf (dt P w) a vs:=
 show df P w H h a (.dK kvs) from Sd ok e
def VB (ok:pB P w H h) (e:H a=some (.dK kvs)):⇑kvs<=sizeLine/\(a == sysModules)=false/\∃vs,KV kvs vs/\h.DictOf (dt P w) a vs:=uY ok (.inl e)
def ud (ok:pB P w H h) (e:H a=some (.tup (ks.map kV))):(tupleKind (dt P w)).is h ks a:=by
 let⟨_,its,r,o,h1,h2,n,h3⟩:=(show df P w H h a (.tup (ks.map kV)) from ok a _ e)
 exact{o,its.toArray,n,h1,h2,h3,by simpa using EV r}
def Cg (ok:pB P w H h) (e:Rd H a (.dT kvs)):⇑kvs<=sizeLine/\(a == sysModules)=false/\
  ∃xs,KT H kvs xs/\h.DictOfH (tupleKind (dt P w)) a xs:=by
 let⟨z,y,xs,r,o,es,ep,h1,h2,h3,h4,h5⟩:=(show df P w H h a (.dT kvs) from Sd ok e)
 refine{z,y,xs,r,o,es,ep,h1,h2,h3,h4,λx hx=>?_,h5};let all:∀{l:List (List Key×V)} {m:List (List Key×vD×vv)},KT H l m->∀x∈m,(tupleKind (dt P w)).is h x.1 x.2.1:=by
  intro l m q
  induction q with
  | nil=>intro x hx;exact nomatch hx
  | @cons p q ps qs hq t ih=>
   intro x hx;rcases zF.mp hx with e | hx
   ·subst e
    exact ud ok (by rw[<-hq.1];exact hq.2.1)
   ·exact ih x hx
 exact all r x hx
def VA (ok:pB P w H h) (e:H a=some (.dT kvs)):⇑kvs<=sizeLine/\(a == sysModules)=false/\
  ∃xs,KT H kvs xs/\h.DictOfH (tupleKind (dt P w)) a xs:=Cg ok (.inl e)
end
def Hk (H:Hp) (a:vD) (y:V) (r:Option V):Prop:=
 (∃kvs k,Rd H a (.dK kvs)/\y=kV k/\r=cI kvs k)\/∃kvs k b,Rd H a (.dT kvs)/\y=.ref b/\H b=some (.tup (k.map kV))/\r=cI kvs k
def VN (H:Hp) (a:vD) (y v:V) (H':Hp):Prop:=
 (∃kvs k,H a=some (.dK kvs)/\y=kV k/\⇑kvs<sizeLine/\H'=upd H a (.dK (putK kvs k v)))\/
 ∃kvs k b,H a=some (.dT kvs)/\y=.ref b/\H b=some (.tup (k.map kV))/\⇑kvs<sizeLine/\H'=upd H a (.dT (putK kvs k v))
section
variable {X:Cx} {pins:List (vD×Obj)} {U:St} {H:Hp} {s:vw} {a:vD} {y v:V} {u r:vv} {o:Option V} {A:vB} {E:vv->vw->Prop}
def Inv.big (I:Inv X pins U H s):sysModules<↑s:=by
 let h:mainGlobals<↑s:=(I.mod.glob.keeps I.bk).lt;exact xG ∅ h
def Nz (hu:A.units+1<cLine) (I:Inv X pins U H s) (g:Hk H a y (some v)) (ry:RelV y u) (h:∀w' s',Inv X pins U H s'->RelV v w'->Q w' s') :
  wpAny (model X.prog X.w) A (getItem (.ref a) u) Q E s:=by
 rcases g with⟨kvs,k,e,ey,l⟩ | ⟨kvs,k,b,e,ey,eb,l⟩
 ·subst ey
  let⟨z,hd,vs,rel,dd⟩:=uY I.cB e;let⟨w',hw,rw'⟩:=mw.some_of (v:=v) (o:=valueAt vs k) (by rw[l];exact rel.val k);exact wpAny_getItem_of (EU ry) dd.mapOf hw (h w' _ (I.tok _) rw')
 ·subst ey
  cases(show u=Value.ref b from ry);let⟨z,hd,xs,rel,dd⟩:=Cg I.cB e;let⟨w',hw,rw'⟩:=mw.some_of (v:=v) (o:=(atKey xs k).map (·.2)) (by rw[l];exact rel.val k);let⟨p,hp,hp2⟩:=Option.map_eq_some_iff.mp hw;refine wpAny_getItem_heap (wB hu) (ud I.cB eb) dd hp ?_;rw[hp2];exact h w' _ (I.tok _) rw'
def W6 (hu:A.units+1<cLine) (I:Inv X pins U H s) (g:Hk H a y o) (ry:RelV y u) (h:∀s',Inv X pins U H s'->Q (.bool o.isSome) s') :
  wpAny (model X.prog X.w) A (compareOp .In u (.ref a)) Q E s:=by
 rcases g with⟨kvs,k,e,ey,l⟩ | ⟨kvs,k,b,e,ey,eb,l⟩
 ·subst ey
  let⟨z,hd,vs,rel,dd⟩:=uY I.cB e;refine wpAny_in_of (EU ry) hd dd.mapOf ?_;rw[<-(rel.val k).kW,<-l];exact h _ (I.tok _)
 ·subst ey
  cases(show u=Value.ref b from ry);let⟨z,hd,xs,rel,dd⟩:=Cg I.cB e;refine wpAny_in_heap (wB hu) (ud I.cB eb) hd dd ?_;let q:=(rel.val k).kW;rw[Option.isSome_map] at q;rw[<-q,<-l];exact h _ (I.tok _)
def RN (hu:A.units+1<cLine) (I:Inv X pins U H s) (g:Hk H a y o) (ry:RelV y u) (h:∀s',Inv X pins U H s'->Q (.bool (!o.isSome)) s') :
  wpAny (model X.prog X.w) A (compareOp .NotIn u (.ref a)) Q E s:=by
 rcases g with⟨kvs,k,e,ey,l⟩ | ⟨kvs,k,b,e,ey,eb,l⟩
 ·subst ey
  let⟨z,hd,vs,rel,dd⟩:=uY I.cB e;refine wpAny_notIn_of (EU ry) hd dd.mapOf ?_;rw[<-(rel.val k).kW,<-l];exact h _ (I.tok _)
 ·subst ey
  cases(show u=Value.ref b from ry);let⟨z,hd,xs,rel,dd⟩:=Cg I.cB e;refine wpAny_notIn_heap (wB hu) (ud I.cB eb) hd dd ?_;let q:=(rel.val k).kW;rw[Option.isSome_map] at q;rw[<-q,<-l];exact h _ (I.tok _)
def Ml (I:Inv X pins U H s) (mu:VH (H a)) (hs:Heap.SameBut a s.heap h') (he:∃q,h'.get? a=some q) (new:df X.prog X.w (upd H a ob) h' a ob) :
  Inv X pins U (upd H a ob) {s with heap:=h',toks:=t'}:=
 I.write (x:=a) (e:=a) mu (.inl rfl) (λb q hb z=>(hs.2 b hb).trans z) he new
def Um (z:⇑kvs<=sizeLine) (hd:(a == sysModules)=false) (rel:KV kvs vs) (dd:h'.DictOf (dt P w) a vs) :
  df P w H' h' a (.dK kvs):={(z),hd,vs,rel,dd}
def Ny (hu:A.units+1<cLine) (I:Inv X pins U H s) (g:VN H a y v H') (ry:RelV y u) (rv:RelV v r) (h:∀s',Inv X pins U H' s'->Q .unit s') :
  wpAny (model X.prog X.w) A (setItem (.ref a) u r) Q E s:=by
 rcases g with⟨kvs,k,e,ey,l,eH⟩ | ⟨kvs,k,b,e,ey,eb,l,eH⟩
 ·subst ey eH
  let⟨z,hd,vs,rel,dd⟩:=VB I.cB e;let hz:⇑vs<=sizeLine:=by rw[<-⇑rel];exact z
  let hl:⇑(putK kvs k v)<=sizeLine:=by have:=jZ kvs k v;ext
  refine wpAny_setItem_pairs (hsz:=hz) (EU ry) dd λh' dd' hs=>h _ ?_;let he:∃q,h'.get? a=some q:=let ⟨q,_,_,hq,_⟩:=dd';{(q),hq};exact Ml I (by rw[e];exact True.intro) hs he (Um hl hd (rel.put k rv) dd')
 ·subst ey eH
  cases(show u=Value.ref b from ry);let⟨z,hd,xs,rel,dd⟩:=VA I.cB e;let hz:⇑xs<=sizeLine:=by rw[<-xY rel];exact z
  let hl:⇑(putK kvs k v)<=sizeLine:=by have:=jZ kvs k v;ext
  refine wpAny_setItem_heap (hsz:=hz) (wB hu) (ud I.cB eb) dd λh' dd' hs=>h _ ?_;let⟨q,es,ep,hq,h2,h3,h4,_,h5⟩:=dd';refine Ml I (by rw[e];exact True.intro) hs ⟨q,hq⟩ ⟨hl,hd,_,(rel.put k eb rv).keeps λc ys ec=>?_,q,es,ep,hq,h2,h3,h4,h5⟩;rw[aE (bw ec e (λz=>nomatch z))];exact ec
end
section
variable {X:Cx} {pins:List (vD×Obj)} {U:St} {H:Hp} {s:vw} {a:vD} {kvs:List (Key×V)} {k:Key} {u:vv} {A:vB} {E:vv->vw->Prop}
def VD (I:Inv X pins U H s) (e:Rd H a (.dK kvs)) (h:∀t s',Inv X pins U H s'->Q (.int ⇑kvs t) s'):wpAny (model X.prog X.w) A (call (.builtin "len") [.ref a]) Q E s:=by
 let⟨z,hd,vs,rel,dd⟩:=uY I.cB e;refine call_len_dict hd dd (by rw[<-⇑rel];rw[yC] at z;ext) ?_;rw[<-⇑rel];exact h _ _ (I.tok _)
end
def Uy (i:Expr):Prop:=∀ov iv,subscripted i false ov iv=operate [ov,iv] (getItem ov iv)
def LO {prog:vz} {w:vA} {A:vB} {E:vv->vw->Prop} {s:vw} {env:Env} {value slice:Expr} {pos:Pos} {T id:String} {Q:vv->vw->Prop}
  (hl:typeLookup (.type T) "__getitem__"= pure (some (.builtin id))) (hs:Uy slice)
  (h:wpAny (model prog w) A (eval value env) (λo s₁=>wpAny (model prog w) A (eval slice env) (λi s₂=>s₂.TypeIs o T/\wpAny (model prog w) A (getItem o i) Q E s₂) E s₁) E s) :
  wpAny (model prog w) A (eval (.Subscript value slice pos) env) Q E s:=by
 refine Subscript_ (xg h (λo s₁ h₁=>xg h₁ (λi s₂ h₂=>?_) λ_ _ x=>x) λ_ _ x=>x);let⟨hT,h₂⟩:=h₂;unfold subscriptTail;refine yv ?_;rw[getitemInPython_of_ne hT.not_modules];refine yv (wpAny_specialOf hT hl ?_);let fin:wpAny (model prog w) A (subscripted slice false o i) (λr s₃=>wpAny (model prog w) A (letTemporaryGo value o r >>= λ_=>pure r) Q E s₃) E s₂:=by
  rw[hs o i];exact wpAny_operating (xg h₂ (λr s₃ h₃=>yv (wpAny_letTemporaryGo (yx h₃))) λ_ _ x=>x)
 first
  | exact yx (yv fin)
  | exact yv (yx (yv fin))
  | exact yv fin
def Jl (I:Inv X pins U H s) (g:Hk H a y o):s.TypeIs (.ref a) "dict":=by
 rcases g with⟨kvs,k,e,_,_⟩ | ⟨kvs,k,b,e,_,_,_⟩
 ·let⟨_,_,vs,_,dd⟩:=uY I.cB e
  exact dd.typeIs
 ·let⟨_,_,xs,_,dd⟩:=Cg I.cB e
  exact dd.typeIs
def U2 (td ty:TE):TE:=λU H Q=>td U H λx H1=>ty U H1 λy H2=>∃a v,x=.ref a/\Hk H2 a y (some v)/\Q v H2
def Ww (ty td:TE):TE:=λU H Q=>ty U H λy H1=>td U H1 λx H2=>∃a o,x=.ref a/\Hk H2 a y o/\Q (.bl o.isSome) H2
def QQ (ty td:TE):TE:=λU H Q=>ty U H λy H1=>td U H1 λx H2=>∃a o,x=.ref a/\Hk H2 a y o/\Q (.bl (!o.isSome)) H2
def U8 (td ty tv:TE):TS:=λD U H=>tv U H λv H1=>td U H1 λx H2=>ty U H2 λy H3=>∃a H4,x=.ref a/\VN H3 a y v H4/\D.nx U H4
section
variable {X:Cx} {o i e value:Expr} {pos pos' tpos:Pos} {td ty tv:TE}
def AR (hu:X.A.units+1<cLine) (ho:PE X o td) (hi:PE X i ty) (hs:Uy i):PE X (.Subscript o i pos) (U2 td ty):=by
 intro pins s U H Q I h;refine LO PySem.F.slot_dict_getitem.lookup hs (dk (ho s U H _ I h) λu s1 z0=>?_);let⟨x,H1,I1,rx,q1⟩:=z0;refine dk (hi s1 U H1 _ I1 q1) λiv s2 z1=>?_;let⟨y,H2,I2,ry,a,v,ex,g,q2⟩:=z1;subst ex;obtain rfl:u=Value.ref a:=rx;exact{Jl I2 g,Nz hu I2 g ry λw' s3 I3 rw'=>{(v),H2,I3,rw',q2}}
def F2 (hu:X.A.units+1<cLine) (hi:PE X i ty) (ho:PE X o td):PC X .In i o (Ww ty td):=by
 intro pins s U H Q I h;refine dk (hi s U H _ I h) λiv s1 z0=>?_;let⟨y,H1,I1,ry,q1⟩:=z0;refine dk (ho s1 U H1 _ I1 q1) λu s2 z1=>?_;let⟨x,H2,I2,rx,a,ov,ex,g,q2⟩:=z1;subst ex;obtain rfl:u=Value.ref a:=rx;exact W6 hu I2 g ry λs3 I3=>{.bl ov.isSome,H2,I3,rfl,q2}
def EK (hu:X.A.units+1<cLine) (hi:PE X i ty) (ho:PE X o td):PC X .NotIn i o (QQ ty td):=by
 intro pins s U H Q I h;refine dk (hi s U H _ I h) λiv s1 z0=>?_;let⟨y,H1,I1,ry,q1⟩:=z0;refine dk (ho s1 U H1 _ I1 q1) λu s2 z1=>?_;let⟨x,H2,I2,rx,a,ov,ex,g,q2⟩:=z1;subst ex;obtain rfl:u=Value.ref a:=rx;exact RN hu I2 g ry λs3 I3=>{.bl (!ov.isSome),H2,I3,rfl,q2}
def oH (hu:X.A.units+1<cLine) (ho:PE X o td) (hi:PE X i ty) (hv:PE X value tv) (hs:swapsWith value (some (.Subscript o i pos')) pos.line X.env=pure false) :
  PS X (.Assign [.Subscript o i pos'] value pos) (U8 td ty tv):=by
 intro pins s U H D I h;refine wpAny_Assign_Subscript (dk (hv s U H _ I h) λr s1 z0=>?_) hs;let⟨v,H1,I1,rv,q1⟩:=z0;refine dk (ho s1 U H1 _ I1 q1) λu s2 z1=>?_;let⟨x,H2,I2,rx,q2⟩:=z1;refine dk (hi s2 U H2 _ I2 q2) λiv s3 z2=>?_;let⟨y,H3,I3,ry,a,H4,ex,g,q3⟩:=z2;subst ex;obtain rfl:u=Value.ref a:=rx;exact Ny hu I3 g ry rv λs4 I4=>{U,H4,I4,q3}
end
def Qc (h:vE) (hb:sysModules<h.objs.size):df P w H (h.push {cls:=.type "dict",data:=.dict #[]}) h.objs.size (.dK []):=
 {yh _,xF.mpr (Ne.symm (yk hb)),[],.nil,Heap.DictOf.new h}
def P9 (h:vE) (hb:sysModules<h.objs.size):df P w H (h.push {cls:=.type "dict",data:=.dict #[]}) h.objs.size (.dT []):=
 {yh _,xF.mpr (Ne.symm (yk hb)),[],.nil,_,#[],0,yy _ rfl,{(rfl),rfl,rfl},rfl,rfl,x8}
def S4:TE:=λ_ H Q=>∀p,H p=none->Q (.ref p) (upd H p (.dK []))
def S0:TE:=λ_ H Q=>∀p,H p=none->Q (.ref p) (upd H p (.dT []))
section
variable {X:Cx} {pos:Pos}
def nU:PE X (.Dict [] [] pos) S4:=λpins s U H Q I h=>
 wpAny_Dict_empty {.ref ↑s,_,I.laid (a:=↑s) (o:=.dK []) (t':=s.toks) (λ_ _ q=>yw _ q) (zm _) (Qc s.heap I.big),rfl,h _ (I.cB.fresh (zm _))}
def Pb:PE X (.Dict [] [] pos) S0:=λpins s U H Q I h=>
 wpAny_Dict_empty {.ref ↑s,_,I.laid (a:=↑s) (o:=.dT []) (t':=s.toks) (λ_ _ q=>yw _ q) (zm _) (P9 s.heap I.big),rfl,h _ (I.cB.fresh (zm _))}
end
structure M2 (X:Cx) (o:Expr) (m:Str) (apos:Pos) (e f:Expr) (cpos:Pos):Prop where
 base:attributeBase o m X.env (eval o X.env)=eval o X.env
 XA:((backTo cpos (starEach [e,f] X.env)).all (λx=>!x.1)&&(backToKw cpos (keywordEach [] X.env)).all (λx=>x.1.isSome)
  &&decide (⇑([e,f]:List Expr)+⇑([]:List Keyword)+(if([]:List Keyword).isEmpty then 0 else 1)<30))=true
 line:(apos.endLine == cpos.line)=true
 trees:backTo cpos (starEach [e,f] X.env)=[(false,eval e X.env),(false,eval f X.env)]
def Xp (H:Hp) (a:vD):Prop:=(∃kvs,Rd H a (.dK kvs))\/∃kvs,Rd H a (.dT kvs)
def T7 (I:Inv X pins U H s) (d:Xp H a) :
  s.TypeIs (.ref a) "dict"/\(∀b,Value.ref a=.ref b->∃ob,s.heap.get? b=some ob/\ob.dict=none)/\(a == sysModules)=false:=by
 rcases d with⟨kvs,e⟩ | ⟨kvs,e⟩
 ·let⟨_,hd,vs,_,dd⟩:=uY I.cB e
  refine{dd.typeIs,λb q=>?_,hd};cases q;let⟨ob,_,_,h1,h2,_⟩:=dd;exact{(ob),h1,h2.2.1}
 ·let⟨_,hd,xs,_,dd⟩:=Cg I.cB e
  refine{dd.typeIs,λb q=>?_,hd};cases q;let⟨ob,_,_,h1,h2,_⟩:=dd;exact{(ob),h1,h2.2.1}
section
variable {X:Cx} {pins:List (vD×Obj)} {U:St} {H:Hp} {s:vw} {a:vD} {y d:V} {u r:vv} {o:Option V} {A:vB} {E:vv->vw->Prop}
def Uq (hu:A.units+1<cLine) (I:Inv X pins U H s) (g:Hk H a y o) (ry:RelV y u) (rd:RelV d r) (h:∀w' s',Inv X pins U H s'->RelV (o.getD d) w'->Q w' s') :
  wpAny (model X.prog X.w) A (call (.builtin "dict.get") [.ref a,u,r]) Q E s:=by
 rcases g with⟨kvs,k,e,ey,l⟩ | ⟨kvs,k,b,e,ey,eb,l⟩
 ·subst ey
  let⟨z,hd,vs,rel,dd⟩:=uY I.cB e;refine call_meetsIn PySem.F.slot_dict_get dd.typeIs PySem.F.entry_dict_get (PySem.F.args_dict_get_3 _ _ _) (meets_dict_get_default (dt X.prog X.w) a (EU ry) hd r) {_,dd.mapOf,h _ _ (I.tok _) ?_};rw[l];exact(rel.val k).getD rd
 ·subst ey
  cases(show u=Value.ref b from ry);let⟨z,hd,xs,rel,dd⟩:=Cg I.cB e;refine call_meetsIn PySem.F.slot_dict_get dd.typeIs PySem.F.entry_dict_get (PySem.F.args_dict_get_3 _ _ _) (meetsH_dict_get_default (tupleKind (dt X.prog X.w)) a b hd r) {wB hu,k,xs,ud I.cB eb,dd,h _ _ (I.tok _) ?_};rw[l];exact(rel.val k).getD rd
end
def S6 (td ty tx:TE):TE:=λU H Q=>td U H λx H1=>∃a,x=.ref a/\Xp H1 a/\ty U H1 λy H2=>tx U H2 λz H3=>∃o,Hk H3 a y o/\Q (o.getD z) H3
section
variable {X:Cx} {o e f:Expr} {apos cpos:Pos} {td ty tx:TE}
def rK (hu:X.A.units+1<cLine) (ho:PE X o td) (he:PE X e ty) (hf:PE X f tx) (m:M2 X o "get" apos e f cpos):PE X (.Call (.Attribute o "get" apos) [e,f] [] cpos) (S6 td ty tx):=by
 intro pins s U H Q I h;refine wpAny_Call_method m.base m.XA m.line PySem.F.plainAttrs_dict PySem.F.slot_dict_get PySem.F.type_dict_get (dk (ho s U H _ I h) λu s1 z0=>?_);let⟨x,H1,I1,rx,a,ex,d,q1⟩:=z0;subst ex;obtain rfl:u=Value.ref a:=rx;let⟨t1,t2,_⟩:=T7 I1 d;refine{t1,t2,?_};rw[m.trees];refine wM rfl (Calls.evalArgs_plain (wD (dk (he s1 U H1 _ I1 q1) λiv s2 z0=>?_)));let⟨y,H2,I2,ry,q2⟩:=z0;refine wD (dk (hf s2 U H2 _ I2 q2) λfv s3 z1=>?_);let⟨z,H3,I3,rz,ov,g,q3⟩:=z1;refine vq ?_;exact Uq hu I3 g ry rz λw' s4 I4 rw'=>{_,H3,I4,rw',q3}
end
section
variable {X:Cx} {pins:List (vD×Obj)} {U:St} {H:Hp} {s:vw} {a:vD} {kvs:List (Key×V)} {A:vB} {E:vv->vw->Prop}
end
section
variable {X:Cx} {pins:List (vD×Obj)} {U:St} {H:Hp} {s:vw} {a:vD} {y:V} {u:vv} {A:vB} {E:vv->vw->Prop}
end
end L2
namespace L2
open PySem PySem.Spec PyProof.Rows
section
variable {κ:Type} [DecidableEq κ]
def Oe {kvs:List (κ×V)} {k:κ} (h:cI kvs k=none):¬k∈kvs.map (·.1):=by
 intro m;let⟨p,hp,e⟩:=zJ.mp m;let q:(kvs.any λkv=>decide (kv.1=k))=true:=yp.mpr {p,hp,zg e};rw[kM,h] at q;exact absurd q (by simp)
end
end L2
namespace L2
open PySem PySem.Spec PyProof.Rows
def dQ (U₀:St) (g:TG) (tc:TT) (te:TE) (Q:VK) (J:It) (H1:Hp):Prop:=∃W:Nat->Nat->List V->St->Hp->Prop,(∃m,W 0 m [] U₀ H1)/\∀i m xs U' H',W i m xs U' H'->
 (J.stop i H'/\⇑xs<=sizeLine/\∀D,H' D=none->Q (.ref D) (upd H' D (.lst xs)))\/
 (J.go i H'/\⇑xs<sizeLine/\∀x H2,J.LH i H' x H2->g x U' H2 λσ3 H3=>tc σ3 H3 λb H4=>if b=true then te σ3 H4 λy H5=>∃m',m'<m/\W (i+1) m' (xs++[y]) σ3 H5 else∃m',m'<m/\W (i+1) m' xs σ3 H4)
noncomputable def cY (X:Cx) (N:List Str) (scope:Scope) (cl:List (Str×vD)) (C:vD) (s₀:vw) (H₀:Hp) (ex:List vD):Cx:=
 {X with N:=N,s₀:=s₀,H₀:=H₀,env:=compEnvC scope (cellsFrom (C+1) scope.names cl) C X.env,outer:=X.stack,stack:=X.stack,ex:=ex,fn:=λx=>((cellsFrom (C+1) scope.names []).lookup x).isSome,pn:=[],xe:=λ_ _=>False}
def nA (fr:List (Option Nat)) (wi:TI) (g:TG) (tc:TT) (te:TE):TE:=λU H Q=>wi U H λJ H1=>dQ (fr.map λo=>o.bind λj=>(U[j]?).join) g tc te Q J H1
def RZ (X:Cx) (ifs:List Expr) (tc:TT):Prop:=∀(pins:List (vD×Obj)) (s:vw) (U:St) (H:Hp) (Q:Bool->Hp->Prop),Inv X pins U H s->tc U H Q->
 wpAny (model X.prog X.w) X.A (forIn ifs true λc r=>if r=true then do let ok <-isTrue c X.env (eval c X.env);pure (ForInStep.yield ok) else pure (ForInStep.yield r)) (TP X pins U Q) X.xe s
def vJ:TT:=λ_ H Q=>Q true H
def bE:RZ X [] vJ:=λ_ _ _ H _ I h=>wpAny_tests_nil {(H),I,h}
def iQ (h:PT X c tc):RZ X [c] tc:=λpins s U H Q I q=>wpAny_tests_one (h s U H Q I q)
theorem dB:∀(names:List (Str×NameKind)) (n:Nat) (acc:List (Str×vD)),cellsFrom n names acc=cellsFrom n names []++acc
 | [],_,_=>rfl
 | (x,k)::r,n,acc=>by
  unfold cellsFrom;split
  ·rw[dB r (n+1) ((x,n)::acc),dB r (n+1) [(x,n)],zH];rfl
  ·exact dB r n acc
def Rm {h:vE} {lo:Nat} {cs:List (Str×vD)} (ok:CellsOk h lo cs) {x y:Str} {c:vD} (e:cs.lookup x=some c) (e':cs.lookup y=some c):x=y:=by
 let key:∀(l:List (Str×vD)),l.Pairwise (λx y=>x.2≠y.2)->(x,c)∈l->(y,c)∈l->x=y:=by
  intro l
  induction l with
  | nil=>intro _ h;cases h
  | cons p r ih=>
   intro hp h1 h2;rw[xc] at hp;rcases zF.mp h1 with h1 | h1
   ·rcases zF.mp h2 with h2 | h2
    ·rw[<-h1] at h2;exact(Prod.mk.inj h2).1.symm
    ·exact absurd rfl (by have:=hp.1 _ h2;rw[<-h1] at this;exact this)
   ·rcases zF.mp h2 with h2 | h2
    ·exact absurd rfl (by have:=hp.1 _ h1;rw[<-h2] at this;exact this)
    ·exact ih hp.2 h1 h2
 exact key cs ok.apart (mem_of_lookup e) (mem_of_lookup e')
def Gg
  (hQ:∀g1:vE,g1.Ns ↑s (λ_=>none)->(∀b o,s.heap.get? b=some o->g1.get? b=some o)->CellsOk g1 (↑s+1) (cellsFrom (↑s+1) scope.names [])->
   Q (newEnv scope ↑s globals (cellsFrom (↑s+1) scope.names cl) qual none .none (some outer) builtinsNs) {s with heap:=g1}) :
  wpAny M A (newFunctionEnv scope globals cl [] qual none .none (some outer)) Q E s:=by
 simp only[newFunctionEnv,Option.isSome_some,vf];refine yv (wpAny_alloc ?_);refine yv (wpAny_layCells _ (λname kind cells=>by cases hkc:kind == NameKind.cell <;> simp[hkc]) _ _ _ _ ?_);let ok:=cellsFrom_ok scope.names (s.heap.push {cls:=.type "dict",data:=.dict #[]}) (↑s+1) [] {λ_ _ hm=>(nomatch hm),List.Pairwise.nil} (by rw[xm];exact zm _);rw[xm] at ok;rw[show({s with heap:=s.heap.push {cls:=.type "dict",data:=.dict #[]}}:vw).heap.objs.size=↑s+1 from xm ..];exact yv (yx (yx (hQ _ ((Heap.Ns.new s.heap (.type "dict")).keeps (pushCells_keeps _ _)) (λb o e=>pushCells_keeps _ _ b o (yw _ e)) ok)))
def Lf (I:Nat->vw->Prop)
  (turn:∀n s,I n s->wpAny (model prog w) A (pyNext it) (λr s1=>match r with
   | none=>R (.ok .next) s1
   | some v=>wpAny (model prog w) A (letOwnedTupleGo target it v) (λ_ s2=>wpAny (model prog w) A (assign target env v) (λ_ s3=>
     wpAny (model prog w) A (forIn ifs true λc r=>if r=true then do let ok <-isTrue c env (eval c env);pure (ForInStep.yield ok) else pure (ForInStep.yield r)) (λok s3'=>if ok=true then wpAny (model prog w) A (eval elt env) (λx s4=>
     wpAny (model prog w) A (call (.builtin "list.append") [acc,x]) (λ_ s5=>∃m,m<n/\I m s5) (λ_ _=>False) s4) (λ_ _=>False) s3' else∃m,m<n/\I m s3') (λ_ _=>False) s3) (λ_ _=>False) s2) (λ_ _=>False) s1) (λ_ _=>False) s)
  (n:Nat) (h:I n s):codeAny (model prog w) A (.compLoop (.ListComp elt [{target,iter,ifs,0}] scope pos) 0 it acc env) R s:=by
 refine codeAny_loop rfl I (λn s hI=>?_) n h;show wpAny _ _ ((compTurn (.ListComp elt [{target,iter,ifs,0}] scope pos) 0 it acc env).onRaise (λx=>do noteFrame x env;theTreesLotGoes x)) _ _ s;refine wpAny_noted ?_;rw[compTurn_list];let no:∀(E:vv->vw->Prop) (x:vv) (s':vw),False->E x s':=λ_ _ _ f=>f.elim;refine yv (wpAny_standAt (yv (xg (turn n s hI) (λr s1 h1=>?_) (no _))));cases r with
 | none=>exact yx h1
 | some v=>
  refine yv (xg h1 (λ_ s2 h2=>yv (xg h2 (λ_ s3 h3=>yv (xg h3 (λok s3' h3'=>?_) (no _))) (no _))) (no _));cases ok with
  | false=>
   rw[yN ∅] at h3';exact yx {(rfl),h3'}
  | true=>
   rw[yO rfl] at h3';exact yv (yv (xg h3' (λx s4 h4=>yv (xg h4 (λ_ s5 h5=>yx (yx {(rfl),h5})) (no _))) (no _)))
section
variable {X:Cx} {pos:Pos}
def CB {elt target iter:Expr} {scope:Scope} {N:List Str} {fr:List (Option Nat)} {cl:List (Str×vD)} {g:TG} {tc:TT} {te:TE} {ifs:List Expr} (hc:X.calm=true) (hsub:∀x c,cl.lookup x=some c->X.env.cells.lookup x=some c) (hhas:∀C x,((compEnvC scope cl C X.env).kindOf x=some .cell\/(compEnvC scope cl C X.env).kindOf x=some .free)->(∃c,cl.lookup x=some c)\/∃c,(cellsFrom (C+1) scope.names []).lookup x=some c)
  (hlen:⇑fr=N.length) (hfr:∀(i:Nat) x j,N[i]?=some x->fr[i]?=some (some j)->X.N[j]?=some x/\Sw X.env.scope x/\X.env.kindOf x≠some .local/\(∀C,(compEnvC scope cl C X.env).kindOf x=some .cell\/(compEnvC scope cl C X.env).kindOf x=some .free)/\(∀c,X.env.cells.lookup x=some c->cl.lookup x=some c)/\∀C,(cellsFrom (C+1) scope.names []).lookup x=none) (hkind:scope.kind=.function)
  (hg:∀C s₀ H₀ ex,PG (cY X N scope cl C s₀ H₀ ex) target g) (hif:∀C s₀ H₀ ex,RZ (cY X N scope cl C s₀ H₀ ex) ifs tc) (he:∀C s₀ H₀ ex,PE (cY X N scope cl C s₀ H₀ ex) elt te)
  {pins:List (vD×Obj)} {U:St} {s2:vw} {it:vD} {fp:List vD} {tn:Nat->vE->Prop} {J:It} {H2:Hp} {Q:VK} {RR:vv->vD->Result->vw->Prop} (I2:Inv X pins U H2 s2) (T:Turn X.prog X.w X.K target J fp it tn) (st2:tn 0 s2.heap) (f2:∀b∈fp,Eu X pins H2 b)
  (ok:dQ (fr.map λo=>o.bind λj=>(U[j]?).join) g tc te Q J H2)
  (fin:∀D C s4 H' xs,↑s2<=D->↑s2<=C->C≠D->Inv X pins U (upd H' D (.lst xs)) s4->H' D=none->H' C=none->(∃m,s4.heap.Ns C m)->(∀D,H' D=none->Q (.ref D) (upd H' D (.lst xs)))->RR (.ref D) C (.ok .next) s4) :
  wpAny (model X.prog X.w) X.A (newList []) (λacc s3=>wpAny (model X.prog X.w) X.A (newFunctionEnv scope X.env.globals cl [] X.env.qual none .none (some X.env)) (λcenv s4=>
   codeAny (model X.prog X.w) X.A (.compStart (.ListComp elt [{target,iter,ifs,0}] scope pos) 0 (.ref it) acc {cenv with scope:=relabel scope X.env}) (RR acc cenv.locals) s4) X.xe s3) X.xe s2:=by
 let⟨W,⟨m0,w0⟩,turn⟩:=ok;refine xf (Gg λg1 hns hold hown=>?_);dsimp only at hns hold hown ⊢;generalize hG:s2.heap.push {cls:=.type "list",dict:=none,data:=.seq ([]:List vv).toArray}=G2 at hns hold hown ⊢;let hC:G2.objs.size=↑s2+1:=by rw[<-hG,xm]
 let below:∀b,b<↑s2->b≠G2.objs.size/\b≠↑s2:=λb hb=>{by rw[hC];exact yk (wK hb),yk hb}
 let hDC:↑s2≠G2.objs.size:=by rw[hC];exact yk (xP _)
 let old:∀b o,s2.heap.get? b=some o->g1.get? b=some o:=λb o e=>hold b o (hG▸yw _ e);let hacc:g1.get? ↑s2=some {cls:=.type "list",data:=.seq ([]:List vv).toArray 0}:=hold _ _ (hG▸yy _ rfl);let hsC:↑s2<G2.objs.size:=by rw[hC];exact xP _
 let csl:∀x c,(cellsFrom (G2.objs.size+1) scope.names cl).lookup x=some c->((cellsFrom (G2.objs.size+1) scope.names []).lookup x=some c/\G2.objs.size<c/\g1.IsCell c none)\/((cellsFrom (G2.objs.size+1) scope.names []).lookup x=none/\cl.lookup x=some c/\X.env.cells.lookup x=some c/\c<↑s2):=λx c e=>by
  rw[dB,wC] at e;cases q:(cellsFrom (G2.objs.size+1) scope.names []).lookup x with
  | some d=>
   rw[q] at e;cases e;let⟨z1,z2⟩:=hown.empty x _ (mem_of_lookup q);exact .inl {(rfl),z2,z1}
  | none=>
   rw[q] at e;let⟨v,z⟩:=I2.cell x c (hsub x c e);exact .inr {rfl,e,hsub x c e,z.lt}
 let fplt:∀b∈fp,b<↑s2:=λb hb=>let ⟨o,e,_⟩:=T.obj _ _ st2 b hb;yz e;let Mn:∀b∈fp,∀x c,(cellsFrom (G2.objs.size+1) scope.names cl).lookup x=some c->c≠b:=λb hb x c e=>by
  rcases csl x c e with⟨_,l,_⟩ | ⟨_,_,z,_⟩
  ·exact yj (xG (fplt b hb) (xG hsC l))
  ·exact(f2 b hb).2.2.2.2.1 x c z
 letI Y:Cx:=cY X N scope cl G2.objs.size s2 H2 fp
 let okY:Y.Ok:=by
  refine{I2.ok.mod,hkind,I2.ok.glob,I2.ok.blt,?_,λx y c e e'=>?_,λx hx=>?_,λx c hf e=>?_,I2.ok.hd,I2.ok.frames,.inl rfl,λb hb=>{(below b (fplt b hb)).1,λx c e=>Mn b hb x c e},I2.bs,zO I2.ok.Mq I2.sz,λb o e hb=>?_,λb hb hf=>?_,I2.stack,I2.oA}
  ·show ↑s2<=G2.objs.size
   rw[hC];exact x6 _
  ·rcases csl x c e with⟨q,l,_⟩ | ⟨_,q,z,l⟩
   ·rcases csl y c e' with⟨q',l',_⟩ | ⟨_,q',z',l'⟩
    ·exact Rm hown q q'
    ·exact absurd (xG (xG hsC l) l') (yg _)
   ·rcases csl y c e' with⟨q',l',_⟩ | ⟨_,q',z',l'⟩
    ·exact absurd (xG (xG hsC l') l) (yg _)
    ·exact I2.ok.inj x y c z z'
  ·show∃c,(cellsFrom (G2.objs.size+1) scope.names cl).lookup x=some c
   rw[dB,wC];rcases hhas G2.objs.size x hx with⟨c,e⟩ | ⟨c,e⟩
   ·rw[e];cases(cellsFrom (G2.objs.size+1) scope.names []).lookup x with
    | none=>exact{(c),rfl}
    | some d=>exact{(d),rfl}
   ·rw[e];exact{(c),rfl}
  ·let hf':((cellsFrom (G2.objs.size+1) scope.names []).lookup x).isSome=true:=hf
   rcases csl x c e with⟨q,l,_⟩ | ⟨q,_⟩
   ·exact yi (xG hsC l)
   ·rw[q] at hf';cases hf'
  ·rcases(f2 b hb).2.2.2.1 with z | z
   ·exact I2.ok.jN b o e z
   ·exact absurd (yd (yz e) (zO I2.ok.Mq z)) (yg _)
  ·rcases zF.mp (I2.Ft b hf) with z | z
   ·exact(f2 b hb).2.1 z
   ·exact(f2 b hb).2.2.1 z
 let cl2:∀x c,(cellsFrom (G2.objs.size+1) scope.names cl).lookup x=some c->(∃v,g1.IsCell c v)/\H2 c=none/\c≠↑s2:=λx c e=>by
  rcases csl x c e with⟨_,l,z⟩ | ⟨_,_,z,l⟩
  ·exact{{_,z},I2.cB.fresh (yi (xG hsC l)),yj (xG hsC l)}
  ·let⟨v,oc,hoc,hd⟩:=I2.cell x c z
   exact{{v,oc,old _ _ hoc,hd},I2.ic x c z,yk l}
 let Dfs:↑s2∉Y.fs:=λhb=>by
  rcases zF.mp (I2.Ft _ hb) with z | z
  ·exact absurd (z▸I2.lt) (yg _)
  ·exact I2.Vg (zm _) z
 let hCf:H2 G2.objs.size=none:=I2.cB.fresh (by rw[hC];exact x6 _);let start:∀tk,Inv Y [(↑s2,{cls:=.type "list",data:=.seq ([]:List vv).toArray 0})] (fr.map λo=>o.bind λj=>(U[j]?).join) H2 {s2 with heap:=g1,toks:=tk}:=λtk=>
  {okY,rfl,I2.bare,Un.kept old,{_,hns,λi x v e1 e2 _=>by
    rw[zM] at e2;cases ef:fr[i]? with
    | none=>rw[ef] at e2;cases e2
    | some o=>
     cases o with
     | none=>rw[ef] at e2;cases e2
     | some j=>
      rw[ef] at e2;let e2':(U[j]?).join=some v:=by simpa using e2
      let ej:U[j]?=some (some v):=by
       cases q:U[j]? with
       | none=>rw[q] at e2';cases e2'
       | some w=>rw[q] at e2';cases w with
        | none=>cases e2'
        | some w=>cases e2';rfl
      let⟨k1,k2,k3,k4,k5,k6⟩:=hfr i x j e1 ef;let⟨m,_,hl⟩:=I2.loc;let⟨u,r,l⟩:=hl j x v k1 ej k2;refine{u,r,?_};rcases l with l | ⟨_,c,ec,z⟩
      ·exact absurd l.1 k3
      ·let⟨oc,hoc,hd⟩:=z
       exact .inr {k4 G2.objs.size,c,by show(cellsFrom (G2.objs.size+1) scope.names cl).lookup x=some c;rw[dB,wC,k6];exact k5 c ec,oc,old _ _ hoc,hd}},
   λx c e=>(cl2 x c e).1,hCf,λx c e=>(cl2 x c e).2.1,
   λp hp=>by
    let e:p=(↑s2,{cls:=.type "list",data:=.seq ([]:List vv).toArray 0}):=by simpa using (show p∈[]++[_] from hp)
    subst e;exact{hacc,I2.cB.fresh (zm _),hDC,Dfs,λv z=>by cases z},I2.cB.kept old,by rw[za,hlen];rfl}
 let stat:∀{H':Hp} {ob:Obj},(∀b∈fp,H' b=none)->∀b∈fp,Eu Y [(↑s2,ob)] H' b:=λ{H' ob} hn b hb=>by
  refine{hn b hb,(below b (fplt b hb)).1,λz=>okY.Gs b hb z,.inl hb,Mn b hb,λp hp=>?_};let e:p=(↑s2,ob):=by simpa using (show p∈[]++[_] from hp)
  subst e;exact(below b (fplt b hb)).2.symm
 let loop:∀tk,codeAny (model X.prog X.w) X.A (.compLoop (.ListComp elt [{target,iter,ifs,0}] scope pos) 0 (.ref it) (.ref ↑s2) (compEnvC scope (cellsFrom (G2.objs.size+1) scope.names cl) G2.objs.size X.env))
   (RR (.ref ↑s2) G2.objs.size) {s2 with heap:=g1,toks:=tk}:=by
  intro tk;refine Lf (λn s'=>∃i U' H' xs its k,Inv Y [(↑s2,{cls:=.type "list",data:=.seq its.toArray k})] U' H' s'/\tn i s'.heap/\(∀b∈fp,H' b=none)/\Vals xs its/\W i n xs U' H') ?_ m0
   {0,_,H2,[],[],0,start tk,T.keep _ _ _ st2 λb _ o e=>old b o e,λb hb=>(f2 b hb).1,.nil,w0}
  rintro n s3 ⟨i,σ3,H3,xs,its,k,I3,st3,fr3,rv3,w3⟩;rcases turn i n xs σ3 H3 w3 with⟨stop,hz,qn⟩ | ⟨go,hz,step⟩
  ·refine dk (T.done Y rfl rfl rfl hc i _ s3 σ3 H3 _ I3 (stat fr3) st3 stop) λr s4 ⟨hr,I4⟩=>?_
   subst hr;let⟨m,hm,_⟩:=id I4.loc;let⟨pD,nD,neD,fD,_⟩:=I4.pin (↑s2,{cls:=.type "list",data:=.seq its.toArray k}) (by show _∈[]++[_];simp);refine fin ↑s2 G2.objs.size s4 H3 xs (zm _) (by rw[hC];exact x6 _) hDC.symm (I2.Mp (s':=s4) (ch:=fp) I4.os ?_ ?_ I4.bare (λb hb=>{(f2 b hb).2.2.2.1,(f2 b hb).2.1,(f2 b hb).2.2.2.2.1,(f2 b hb).2.2.2.2.2})) nD I4.free {(m),hm} qn
   ·let ub:Un Y.fs Y.ex H2 H3 s2.heap s4.heap:=I4.base
    let lt:∀b o,s2.heap.get? b=some o->b≠G2.objs.size/\b≠↑s2:=λb o e=>below b (yz e);refine{λb o e n hb hx=>ub.keep b o e n hb hx,λb o e n hb hx=>ub.slot b o e n hb hx,λb o e n hx=>?_,λb o e hx=>ub.there b o e hx,λb ys e=>?_,λb o u e=>?_,λb ps e=>?_}
    ·rw[aE (lt b o e).2];exact ub.free b o e n hx
    ·let q:=ub.lB b ys e
     rw[aE (bD q nD)];exact q
    ·let q:=ub.kA b o u e
     rw[aE (bD q nD)];exact q
    ·let⟨more,q⟩:=ub.lC b ps e
     exact{more,by rw[aE (bD q nD)];exact q}
   ·intro b u e
    by_cases hb:b=↑s2
    ·subst hb;rw[aF] at e;cases e
     exact{(hz),its,k,rv3,pD}
    ·rw[aE hb] at e
     exact(I4.cB b u e).kg (λc v hc' q=>q) (λc q=>by rw[aE (bD q nD)];exact q) λc ys q=>by rw[aE (bD q nD)];exact q
  ·refine dk (T.item Y rfl rfl rfl hc i _ s3 σ3 H3 _ I3 (stat fr3) st3 go) λr s4 ⟨u,hr,h4⟩=>?_
   subst hr;refine dk h4 λ_ s5 z0=>?_;let⟨x,H5,I5,r5,y5,st5,fr5⟩:=z0;let I5':=I5.pinned (stat fr5) (T.obj _ _ st5);refine dk (hg G2.objs.size s2 H2 fp _ s5 σ3 H5 x u _ I5' r5 (step x H5 y5)) λ_ s6 z0=>?_;let⟨σ6,H6,I6,q6⟩:=z0;refine dk (hif G2.objs.size s2 H2 fp _ s6 σ6 H6 _ I6 q6) λb s6' z0=>?_;let⟨H6',I6',q6'⟩:=z0;cases b with
   | false=>
    rw[yN ∅] at q6' ⊢;let⟨m',hm,w7⟩:=q6';let inD:(↑s2,({cls:=.type "list",data:=.seq its.toArray k}:Obj))∈Y.pn++([(↑s2,({cls:=.type "list",data:=.seq its.toArray k}:Obj))]++tL fp s5.heap):=by show _∈[]++_;simp
    let⟨pD,nD,neD,fD,dD⟩:=I6'.pin _ inD;let I7':Inv Y [] σ6 H6' s6':=I6'.oI λp hp=>nomatch hp;refine{m',hm,i+1,σ6,H6',xs,its,k,I7'.oI λp hp=>?_,T.keep _ _ _ st5 (λb hb o e=>(I6'.pin (b,o) (zK _ (zK _ (gF hb e)))).1),λb hb=>?_,rv3,w7}
    ·let e:p=(↑s2,{cls:=.type "list",data:=.seq its.toArray k}):=by simpa using hp
     subst e;exact{(pD),nD,neD,fD,dD}
    ·let⟨o,e,d⟩:=T.obj _ _ st5 b hb
     exact(I6'.pin (b,o) (zK _ (zK _ (gF hb e)))).2.1
   | true=>
   rw[yO rfl] at q6' ⊢;refine dk (he G2.objs.size s2 H2 fp s6' σ6 H6' _ I6' q6') λv s7 z0=>?_;let⟨y,H7,I7,r7,m',hm,w7⟩:=z0;let inD:(↑s2,({cls:=.type "list",data:=.seq its.toArray k}:Obj))∈Y.pn++([(↑s2,({cls:=.type "list",data:=.seq its.toArray k}:Obj))]++tL fp s5.heap):=by show _∈[]++_;simp
   let⟨pD,nD,neD,fD,dD⟩:=I7.pin _ inD;let hlen:=⇑rv3;refine wpAny_list_append_plain (items:=its.toArray) (hsz:=by rw[yc];ext) {(k),pD} λg8 pl8 sb8=>?_;let⟨k8,e8⟩:=pl8;let I7':Inv Y [] σ6 H7 s7:=I7.oI λp hp=>nomatch hp;let I8:Inv Y [] σ6 H7 {s7 with heap:=g8}:=I7'.turned (t':=s7.toks) (λb o hb e=>sb8.extBut b o hb e) nD neD (.inr (zm _)) (λx c e=>(cl2 x c e).2.2) (λp hp=>(nomatch (show p∈([]:List (vD×Obj)) from hp)));let e8':g8.get? ↑s2=some {cls:=.type "list",data:=.seq (its++[v]).toArray k8}:=by rw[e8];simp
   let fpD:∀b∈fp,∀o,s5.heap.get? b=some o->g8.get? b=some o:=λb hb o e=>sb8.extBut b o (below b (fplt b hb)).2 (I7.pin (b,o) (zK _ (zK _ (gF hb e)))).1;refine{m',hm,i+1,σ6,H7,xs++[y],its++[v],k8,I8.oI λp hp=>?_,T.keep _ _ _ st5 fpD,λb hb=>?_,rv3.append (.cons r7 .nil),w7}
   ·let e:p=(↑s2,{cls:=.type "list",data:=.seq (its++[v]).toArray k8}):=by simpa using hp
    subst e;exact{e8',nD,neD,fD,λv z=>by cases z}
   ·let⟨o,e,d⟩:=T.obj _ _ st5 b hb
    exact(I7.pin (b,o) (zK _ (zK _ (gF hb e)))).2.1
 exact codeAny_compStart_list (loop _) (T.self _ _ _ _ _ (T.keep _ _ _ st2 λb _ o e=>old b o e) (loop _))
def MZ {elt target iter:Expr} {scope:Scope} {N:List Str} {fr:List (Option Nat)} {cl:List (Str×vD)} {wi:TI} {g:TG} {tc:TT} {te:TE} {ifs:List Expr} (hc:X.calm=true) (hclos:closureFor scope X.env=pure cl) (hsub:∀x c,cl.lookup x=some c->X.env.cells.lookup x=some c) (hhas:∀C x,((compEnvC scope cl C X.env).kindOf x=some .cell\/(compEnvC scope cl C X.env).kindOf x=some .free)->(∃c,cl.lookup x=some c)\/∃c,(cellsFrom (C+1) scope.names []).lookup x=some c)
  (hlen:⇑fr=N.length) (hfr:∀(i:Nat) x j,N[i]?=some x->fr[i]?=some (some j)->X.N[j]?=some x/\Sw X.env.scope x/\X.env.kindOf x≠some .local/\(∀C,(compEnvC scope cl C X.env).kindOf x=some .cell\/(compEnvC scope cl C X.env).kindOf x=some .free)/\(∀c,X.env.cells.lookup x=some c->cl.lookup x=some c)/\∀C,(cellsFrom (C+1) scope.names []).lookup x=none) (hkind:scope.kind=.function)
  (hnames:∀y∈scope.names,y.2=.local->scope.names.lookup y.1=some .local) (hi:PI X target iter wi)
  (hg:∀C s₀ H₀ ex,PG (cY X N scope cl C s₀ H₀ ex) target g) (hif:∀C s₀ H₀ ex,RZ (cY X N scope cl C s₀ H₀ ex) ifs tc) (he:∀C s₀ H₀ ex,PE (cY X N scope cl C s₀ H₀ ex) elt te) (hs:(∀x,foldedSetIterable iter X.env x=pure x)<|>qd_) :
  PE X (.ListComp elt [{target,iter,ifs,0}] scope pos) (nA fr wi g tc te):=by
 intro pins s U H Q I h;rw[eval_ListComp];refine wpAny_comprehension_free (use:=none) (cl:=cl) rfl hs hclos hkind hnames (dk (hi s U H _ I h) λxv s1 h1=>dk h1 λitv s2 h2=>?_);let⟨it,fp,tn,J,H2,e,I2,T,st2,f2,ok⟩:=h2;subst e;refine CB (RR:=λacc C=>compPost (model X.prog X.w) X.A X.xe none (EP X pins U Q) acc C) hc hsub hhas hlen hfr hkind hg hif he I2 T st2 f2 ok ?_;intro D C s4 H' xs hD hC hne I4 nD nC ⟨m,hm⟩ qn;refine{m,hm,λg5 hs5=>{.ref D,upd H' D (.lst xs),I2.Vk hC I4 (by rw[aE hne];exact nC) hs5,rfl,qn D nD}}
def MV {elt target iter:Expr} {scope:Scope} {N:List Str} {fr:List (Option Nat)} {cl:List (Str×vD)} {wi:TI} {g:TG} {tc:TT} {te:TE} {ifs:List Expr} (hc:X.calm=true) (hclos:closureFor scope X.env=pure cl) (hsub:∀x c,cl.lookup x=some c->X.env.cells.lookup x=some c) (hhas:∀C x,((compEnvC scope cl C X.env).kindOf x=some .cell\/(compEnvC scope cl C X.env).kindOf x=some .free)->(∃c,cl.lookup x=some c)\/∃c,(cellsFrom (C+1) scope.names []).lookup x=some c)
  (hlen:⇑fr=N.length) (hfr:∀(i:Nat) x j,N[i]?=some x->fr[i]?=some (some j)->X.N[j]?=some x/\Sw X.env.scope x/\X.env.kindOf x≠some .local/\(∀C,(compEnvC scope cl C X.env).kindOf x=some .cell\/(compEnvC scope cl C X.env).kindOf x=some .free)/\(∀c,X.env.cells.lookup x=some c->cl.lookup x=some c)/\∀C,(cellsFrom (C+1) scope.names []).lookup x=none) (hkind:scope.kind=.function)
  (hnames:∀y∈scope.names,y.2=.local->scope.names.lookup y.1=some .local) (hi:PI X target iter wi)
  (hg:∀C s₀ H₀ ex,PG (cY X N scope cl C s₀ H₀ ex) target g) (hif:∀C s₀ H₀ ex,RZ (cY X N scope cl C s₀ H₀ ex) ifs tc) (he:∀C s₀ H₀ ex,PE (cY X N scope cl C s₀ H₀ ex) elt te) (hs:(∀x,foldedSetIterable iter X.env x=pure x)<|>qd_)  {i:Nat} {x:Str} {ps pa:Pos} (hN:X.N.Nodup) (hx1:X.N[i]?=some x) (hx2:Loc X.env.scope x) (hsw:swapsWith (.ListComp elt [{target,iter,ifs,0}] scope pos) (some (.Name x ps)) pa.line X.env=pure true<|>qe_)
  (hf:X.fn x=true\/X.env.scope.names.lookup x=some .local<|>qa_) :
  PS X (.Assign [.Name x ps] (.ListComp elt [{target,iter,ifs,0}] scope pos) pa) (Fq (nA fr wi g tc te) (cw i)):=by
 intro pins s U H D I h;rw[exec_Assign_Name_used _ _ _ _ hsw];refine yv (wpAny_standAt (yv ?_));show wpAny _ X.A (do let _ <-comprehension (.ListComp elt [{target,iter,ifs,0}] scope pos) scope X.env _ (newList []) false (eval iter X.env) (some (assign (.Name x ps) X.env))) _ _ s;refine yv (xg (wpAny_comprehension_free (use:=some (assign (.Name x ps) X.env)) (cl:=cl) (Q:=λ_ s'=>SP X pins D .next s') rfl hs hclos hkind hnames (dk (hi s U H _ I h) λxv s1 h1=>dk h1 λitv s2 h2=>?_)) (λ_ s' hq=>yx (yx hq)) λ_ _ e=>e);let⟨it,fp,tn,J,H2,e,I2,T,st2,f2,ok⟩:=h2;subst e;refine CB (RR:=λacc C=>compPost (model X.prog X.w) X.A X.xe (some (assign (.Name x ps) X.env)) (λ_ s'=>SP X pins D .next s') acc C) hc hsub hhas hlen hfr hkind hg hif he I2 T st2 f2 ok ?_;intro E C s4 H' xs hE hC hne I4 nE nC ⟨m,hm⟩ qn;show wpAny _ X.A (assign (.Name x ps) X.env (.ref E)) _ _ s4;refine wpAny_assign_Name (ED I4 hN hx1 hx2 (v:=.ref E) rfl (λs5 I5 hw=>?_) hf);let⟨aw,sb,ha⟩:=hw;let hCn:(upd H' E (.lst xs)) C=none:=by rw[aE hne];exact nC
 let⟨f0,f1,f2',f3,f4,f5⟩:=I2.DT hC hCn;let neC:C≠aw:=by
  rcases ha with z | z
  ·rw[z];exact f1
  ·exact λq=>f4 x aw z q.symm
 refine{m,hm.sameBut sb neC,λg6 hs6=>?_};exact{_,_,I2.Vk hC I5 hCn hs6,qn E nE}
end
def Hf (cells:List (Str×vD)):List (Str×vD)->Prop
 | []=>True
 | p::r=>cells.lookup p.1=some p.2/\Hf cells r
theorem Hf.sub:∀{cl:List (Str×vD)},Hf cells cl->∀x c,cl.lookup x=some c->cells.lookup x=some c
 | [],_,x,c,e=>by cases e
 | (y,d)::r,h,x,c,e=>by
  rw[yr] at e;split at e
  ·rename_i q
   cases e;rw[eq_of_beq q];exact h.1
  ·exact Hf.sub h.2 x c e
def NW (X:Cx) (scope:Scope) (cl:List (Str×vD)):List Str->List Nat->Prop
 | [],[]=>True
 | y::ys,j::js=>(X.N[j]?=some y/\(X.env.kindOf y=some .cell\/X.env.kindOf y=some .free)/\((relabel scope X.env).names.lookup y=some .cell\/(relabel scope X.env).names.lookup y=some .free)/\∃c,X.env.cells.lookup y=some c/\cl.lookup y=some c)/\NW X scope cl ys js
 | _,_=>False
theorem NW.len:∀{ys:List Str} {js:List Nat},NW X scope cl ys js->⇑js=⇑ys
 | [],[],_=>rfl
 | _::_,_::_,h=>by rw[zy,zy,NW.len h.2]
 | [],_::_,h=>h.elim
 | _::_,[],h=>h.elim
theorem NW.get:∀{ys:List Str} {js:List Nat} {i:Nat} {y:Str} {j:Nat},NW X scope cl ys js->ys[i]?=some y->js[i]?=some j->
  X.N[j]?=some y/\(X.env.kindOf y=some .cell\/X.env.kindOf y=some .free)/\((relabel scope X.env).names.lookup y=some .cell\/(relabel scope X.env).names.lookup y=some .free)/\∃c,X.env.cells.lookup y=some c/\cl.lookup y=some c
 | [],_,_,_,_,_,e,_=>by simp at e
 | _::_,[],_,_,_,h,_,_=>h.elim
 | y::ys,j::js,0,_,_,h,e,e'=>by simp at e e';subst e e';exact h.1
 | y::ys,j::js,i+1,_,_,h,e,e'=>NW.get (i:=i) h.2 (by simpa using e) (by simpa using e')
theorem Li:∀{names:List (Str×NameKind)} {n:Nat} {x:Str} {c:vD},(cellsFrom n names []).lookup x=some c->(x,NameKind.cell)∈names
 | [],_,_,_,e=>by cases e
 | (y,k)::r,n,x,c,e=>by
  unfold cellsFrom at e;split at e
  ·rename_i hk
   rw[dB,wC] at e;cases q:(cellsFrom (n+1) r []).lookup x with
   | some d=>exact zp _ (Li q)
   | none=>
    rw[q] at e;let e':([(y,n)]:List (Str×vD)).lookup x=some c:=e;rw[yr] at e';split at e'
    ·rename_i z
     rw[eq_of_beq z,eq_of_beq hk];exact zv
    ·cases e'
  ·exact zp _ (Li e)
theorem Lj:∀{names:List (Str×NameKind)} {n:Nat} {x:Str},(x,NameKind.cell)∈names->∃c,(cellsFrom n names []).lookup x=some c
 | [],_,_,h=>by cases h
 | (y,k)::r,n,x,h=>by
  unfold cellsFrom;split
  ·rw[dB,wC]
   cases q:(cellsFrom (n+1) r []).lookup x with
   | some d=>exact{(d),rfl}
   | none=>
    rcases zF.mp h with h | h
    ·let⟨e1,_⟩:=Prod.mk.inj h
     exact{n,by show([(y,n)]:List (Str×vD)).lookup x=some n;rw[e1,yr,wg]}
    ·let⟨c,e⟩:=Lj (n:=n+1) h
     rw[q] at e;cases e
  ·rename_i hk
   rcases zF.mp h with h | h
   ·cases h;exact absurd rfl hk
   ·exact Lj h
theorem uT:∀{L:List (Str×NameKind)} {x:Str} {k:NameKind},L.lookup x=some k->(x,k)∈L
 | [],_,_,h=>by cases h
 | (y,j)::r,x,k,h=>by
  rw[yr] at h;split at h
  ·rename_i q;cases h;rw[eq_of_beq q];exact zv
  ·exact zp _ (uT h)
section
variable {X:Cx} {pos:Pos} {elt target iter:Expr} {ifs:List Expr} {scope:Scope} {ts ys:List Str} {js:List Nat} {cl:List (Str×vD)} {wi:TI} {g:TG} {tc:TT} {te:TE}
def E8 (hcl:Hf X.env.cells cl) (hLo:((relabel scope X.env).names.all λp=>(p.2 != .cell&&p.2 != .free)||ys.contains p.1||scope.names.contains (p.1,.cell))=true) (hno:∀p∈scope.names,p.2=.cell->p.1∉ys) (hfr:NW X scope cl ys js) :
  (∀(C:vD) x,((compEnvC scope cl C X.env).kindOf x=some .cell\/(compEnvC scope cl C X.env).kindOf x=some .free)->(∃c,cl.lookup x=some c)\/∃c,(cellsFrom (C+1) scope.names []).lookup x=some c)/\
  ⇑(ts.map (λ_=>(none:Option Nat))++js.map some)=⇑(ts++ys)/\
  (∀(i:Nat) x j,(ts++ys)[i]?=some x->(ts.map (λ_=>(none:Option Nat))++js.map some)[i]?=some (some j)->X.N[j]?=some x/\Sw X.env.scope x/\X.env.kindOf x≠some .local/\(∀C,(compEnvC scope cl C X.env).kindOf x=some .cell\/(compEnvC scope cl C X.env).kindOf x=some .free)/\(∀c,X.env.cells.lookup x=some c->cl.lookup x=some c)/\∀C,(cellsFrom (C+1) scope.names []).lookup x=none):=by
 refine{λC x hx=>?_,by simp[NW.len hfr],λi x j h1 h2=>?_}
 ·let key:∀k,(relabel scope X.env).names.lookup x=some k->(k=.cell\/k=.free)->(∃c,cl.lookup x=some c)\/∃c,(cellsFrom (C+1) scope.names []).lookup x=some c:=λk hk hk'=>by
   have:=(yq.mp hLo) _ (uT hk);rw[Bool.or_eq_true,Bool.or_eq_true] at this;rcases this with(z | z) | z
   ·rcases hk' with rfl | rfl <;> simp at z
   ·let hm:x∈ys:=List.contains_iff_mem.mp z
    let⟨n,hn⟩:=List.getElem?_of_mem hm;let hl:n<⇑js:=by rw[hfr.len];exact(zB.mp hn).1
    let⟨_,_,_,c,_,e⟩:=hfr.get hn (zd hl);exact .inl {(c),e}
   ·exact .inr (Lj (List.contains_iff_mem.mp z))
  rcases hx with hx | hx
  ·exact key _ hx (.inl rfl)
  ·exact key _ hx (.inr rfl)
 ·let hi:⇑ts<=i:=by
   rcases xH i ⇑ts with h | h
   ·rw[wm (by simpa using h),zM] at h2
    cases q:ts[i]? with
    | none=>rw[q] at h2;cases h2
    | some z=>rw[q] at h2;cases h2
   ·exact h
  rw[ya hi] at h1;rw[ya (by simpa using hi),za,zM] at h2;let h2':js[i-⇑ts]?=some j:=by
   cases q:js[i-⇑ts]? with
   | none=>rw[q] at h2;cases h2
   | some z=>rw[q] at h2;cases h2;rfl
  let⟨k1,k2,k3,c,k4,k5⟩:=hfr.get h1 h2';refine{k1,.inr k2,λz=>?_,λC=>k3,λd hd=>?_,λC=>?_}
  ·rcases k2 with k2 | k2 <;> (rw[z] at k2;cases k2)
  ·rw[k4] at hd;cases hd;exact k5
  ·cases q:(cellsFrom (C+1) scope.names []).lookup x with
   | none=>rfl
   | some d=>exact absurd (zE h1) (hno _ (Li q) rfl)
def Pc (hc:X.calm=true) (hclos:closureFor scope X.env=pure cl) (hcl:Hf X.env.cells cl) (hLo:((relabel scope X.env).names.all λp=>(p.2 != .cell&&p.2 != .free)||ys.contains p.1||scope.names.contains (p.1,.cell))=true) (hno:∀p∈scope.names,p.2=.cell->p.1∉ys) (hfr:NW X scope cl ys js) (hkind:scope.kind=.function)
  (hnames:∀y∈scope.names,y.2=.local->scope.names.lookup y.1=some .local) (hi:PI X target iter wi)
  (hg:∀C s₀ H₀ ex,PG (cY X (ts++ys) scope cl C s₀ H₀ ex) target g) (hif:∀C s₀ H₀ ex,RZ (cY X (ts++ys) scope cl C s₀ H₀ ex) ifs tc) (he:∀C s₀ H₀ ex,PE (cY X (ts++ys) scope cl C s₀ H₀ ex) elt te) (hs:(∀x,foldedSetIterable iter X.env x=pure x)<|>qd_) :
  PE X (.ListComp elt [{target,iter,ifs,0}] scope pos) (nA (ts.map (λ_=>none)++js.map some) wi g tc te):=by
 let⟨a,b,c⟩:=E8 (ts:=ts) hcl hLo hno hfr;exact MZ hc hclos hcl.sub a b c hkind hnames hi hg hif he hs
def O5 (hc:X.calm=true) (hclos:closureFor scope X.env=pure cl) (hcl:Hf X.env.cells cl) (hLo:((relabel scope X.env).names.all λp=>(p.2 != .cell&&p.2 != .free)||ys.contains p.1||scope.names.contains (p.1,.cell))=true) (hno:∀p∈scope.names,p.2=.cell->p.1∉ys) (hfr:NW X scope cl ys js) (hkind:scope.kind=.function)
  (hnames:∀y∈scope.names,y.2=.local->scope.names.lookup y.1=some .local) (hi:PI X target iter wi)
  (hg:∀C s₀ H₀ ex,PG (cY X (ts++ys) scope cl C s₀ H₀ ex) target g) (hif:∀C s₀ H₀ ex,RZ (cY X (ts++ys) scope cl C s₀ H₀ ex) ifs tc) (he:∀C s₀ H₀ ex,PE (cY X (ts++ys) scope cl C s₀ H₀ ex) elt te) (hN:X.N.Nodup) (hx1:X.N[i]?=some x) (hx2:Loc X.env.scope x) (hs:(∀x,foldedSetIterable iter X.env x=pure x)<|>qd_) (hsw:swapsWith (.ListComp elt [{target,iter,ifs,0}] scope pos) (some (.Name x ps)) pa.line X.env=pure true<|>qe_)
  (hf:X.fn x=true\/X.env.scope.names.lookup x=some .local<|>qa_) :
  PS X (.Assign [.Name x ps] (.ListComp elt [{target,iter,ifs,0}] scope pos) pa) (Fq (nA (ts.map (λ_=>none)++js.map some) wi g tc te) (cw i)):=by
 let⟨a,b,c⟩:=E8 (ts:=ts) hcl hLo hno hfr;exact MV hc hclos hcl.sub a b c hkind hnames hi hg hif he hs hN hx1 hx2 hsw hf
end
def NX (n:Nat) (f:Nat->List V) (Pv:Nat->St->Hp->Prop) (i m:Nat) (xs:List V) (U:St) (H:Hp):Prop:=m=n-i/\i<=n/\xs=f i/\Pv i U H
def NX.push (hi:i<n) (e:f (i+1)=f i++[y]) (p:Pv (i+1) U H):∃m',m'<n-i/\NX n f Pv (i+1) m' (f i++[y]) U H:={n-(i+1),(),rfl,hi,e.symm,p}
def NX.skip (hi:i<n) (e:f (i+1)=f i) (p:Pv (i+1) U H):∃m',m'<n-i/\NX n f Pv (i+1) m' (f i) U H:={n-(i+1),(),rfl,hi,e.symm,p}
def sD (n:Nat) (f:Nat->List V) (Pv:Nat->St->Hp->Prop) (hz:∀i,i<=n->⇑(f i)<=i) (hn:n<=sizeLine) (f0:f 0=[]) (h0:Pv 0 U₀ H1)
  (go:∀i U H,i<n->Pv i U H->J.go i H) (stop:∀U H,Pv n U H->J.stop n H)
  (turn:∀i x U H H2,i<n->Pv i U H->J.LH i H x H2->g x U H2 λσ3 H3=>tc σ3 H3 λb H4=>if b=true then te σ3 H4 λy H5=>∃m',m'<n-i/\NX n f Pv (i+1) m' (f i++[y]) σ3 H5 else∃m',m'<n-i/\NX n f Pv (i+1) m' (f i) σ3 H4)
  (fin:∀U H,Pv n U H->∀D,H D=none->Q (.ref D) (upd H D (.lst (f n)))):dQ U₀ g tc te Q J H1:=by
 refine{NX n f Pv,{n,by simp,yh _,f0.symm,h0},?_};rintro i m xs U H ⟨rfl,hi,rfl,p⟩;have:=hz i hi;rcases xH i n with hlt | hge
 ·exact .inr {go i U H hlt p,(),λx H2 y=>turn i x U H H2 hlt p y}
 ·let e:i=n:=()
  subst e;exact .inl {stop U H p,(),fin U H p}
section
variable {X:Cx}
def FX (bs:List Bool):((List.range ⇑bs).any λi=>(bs[i]?).getD false)=bs.any id:=by
 rw[xM,yp,yp];constructor
 ·rintro⟨i,hi,e⟩
  let hi':=yS.mp hi;rw[zd hi'] at e;exact{_,yn hi',e}
 ·rintro⟨b,hb,e⟩
  let⟨i,hi,e'⟩:=List.mem_iff_getElem.mp hb;exact{i,yS.mpr hi,by rw[zd hi,e'];exact e}
def gL (hc:X.calm=true):fo X (.builtin "any") (λxs H Q=>∃(a:vD) (bs:List Bool),xs=[.ref a]/\gx X.K H a (bs.map V.bl)/\Q (.bl (bs.any id)) H):=by
 intro pins s U H xs us Q I r h;let⟨a,bs,e,hq,q⟩:=h;subst e;cases r with
 | cons r rr=>
  cases rr;cases r;let⟨its,rv,p,hz⟩:=I.list hq;let hlt:a<↑s:=by let⟨o,n,e,_⟩:=p;exact yz e
  let hlen:⇑bs=⇑its:=by have:=⇑rv;rw[za] at this;exact this
  refine call_any_walk (wJ p.isList ?_);refine{↑s,[↑s,a],[↑s],its.toArray.size,_,_,λi=>(bs[i]?).getD false,rfl,Walks.list (A:=X.A.in1) (I.ok.hd hc) _ a (yk hlt) its.toArray,
   {{_,yy _ rfl,rfl,rfl},p.isList.push _},λi v s' Q' E' hP hQ=>?_,λh' tk hk=>?_}
  ·let hP':its[i]?=some v:=by simpa using hP
   let hi:i<⇑bs:=by rw[hlen];exact(zB.mp hP').1
   let hm:(bs.map V.bl)[i]?=some (.bl bs[i]):=by rw[zM,zd hi];rfl
   let⟨u,hu,ru⟩:=rv.get hm;rw[hP'] at hu;cases hu;cases ru;dsimp only at hQ;rw[zd hi] at hQ;exact xi hQ
  ·let e:((List.range its.toArray.size).any λi=>(bs[i]?).getD false)=bs.any id:=by rw[yc,<-hlen];exact FX bs
   rw[e];exact{.bl _,H,I.kept λb o x=>hk b o (λhm=>by rw[zC.mp hm] at x;exact yg _ (yz x)) (yw _ x),rfl,q}
def uR (ns:List Int):∀k,k<=⇑ns->preSum (λi=>(ns[i]?).getD 0) k=(ns.take k).sum:=by
 intro k
 induction k with
 | zero=>intro _;simp[preSum]
 | succ k ih=>
  intro hk;let hk':k<⇑ns:=hk;let e:=ih (yi hk');rw[List.take_succ,List.sum_append,<-e,zd hk'];simp[preSum,zd hk']
def E9 (hc:X.calm=true):fo X (.builtin "sum") (λxs H Q=>∃(a:vD) (ns:List Int),xs=[.ref a]/\gx X.K H a (ns.map V.int)/\(∀n∈ns,0<=n/\n<1000000)/\⇑ns<=1000/\Q (.int ns.sum) H):=by
 intro pins s U H xs us Q I r h;let⟨a,ns,e,hq,hb,hl,q⟩:=h;subst e;cases r with
 | cons r rr=>
  cases rr;cases r;let⟨its,rv,p,hz⟩:=I.list hq;let hlt:a<↑s:=by let⟨o,n,e,_⟩:=p;exact yz e
  let hlen:⇑ns=⇑its:=by have:=⇑rv;rw[za] at this;exact this
  let bnd:∀k,k<=⇑ns->0<=(ns.take k).sum/\(ns.take k).sum<=1000000*k:=by
   intro k
   induction k with
   | zero=>intro _;simp
   | succ k ih=>
    intro hk;let hk':k<⇑ns:=hk;have:=ih (yi hk');rw[List.take_succ,List.sum_append,zd hk'];let hb':=hb _ (yn hk');simp only[Option.toList_some,wV,List.sum_nil];ext
  refine call_sum_walk (wJ p.isList ?_);refine{↑s,[↑s,a],[↑s],its.toArray.size,_,_,λi=>(ns[i]?).getD 0,rfl,Walks.list (A:=X.A.in1) (I.ok.hd hc) _ a (yk hlt) its.toArray,
   {{_,yy _ rfl,rfl,rfl},p.isList.push _},λb hb'=>?_,λi v hP=>?_,λj hj=>?_,λh' tk t' hk=>?_}
  ·rw[xm]
   rcases zF.mp hb' with e | e
   ·rw[e];exact xP _
   ·rw[zC.mp e];exact wK hlt
  ·let hP':its[i]?=some v:=by simpa using hP
   let hi:i<⇑ns:=by rw[hlen];exact(zB.mp hP').1
   let hm:(ns.map V.int)[i]?=some (.int ns[i]):=by rw[zM,zd hi];rfl
   let⟨u,hu,ru⟩:=rv.get hm;rw[hP'] at hu;cases hu;dsimp only;rw[zd hi];exact ru
  ·let hj':j<⇑ns:=by rw[hlen];simpa using hj
   let b1:=hb _ (yn hj');let b2:=bnd (j+1) hj';rw[uR ns (j+1) hj'];dsimp only;rw[zd hj'];simp only[Option.getD_some];constructor <;> (unfold InLong;ext)
  ·let e:preSum (λi=>(ns[i]?).getD 0) its.toArray.size=ns.sum:=by rw[yc,<-hlen,uR ns _ (zm _),zP]
   rw[e];exact{.int _,H,I.kept λb o x=>hk b o (λhm=>by rw[zC.mp hm] at x;exact yg _ (yz x)) (yw _ x),{_,rfl},q}
end
section
variable {prog:vz} {w:vA} {A:vB} {E:vv->vw->Prop} {s:vw}
def Eg (hl:IsTup s.heap l vs.toArray)
  (h:Q vs {s with heap:=(s.heap.push (seqObj "list" #[] 0)).update ↑s (Obj.mapSeq (·++vs.toArray))}) (hsz:⇑vs<=sizeLine) :
  wpAny (model prog w) A (collect (.ref l)) Q E s:=by
 let⟨o,ho,hc,n,hd⟩:=id hl;unfold collect;refine yv (wpAny_runValue (xV entry_proto_collect' ?_));show wpAny _ _ (do again (.builtin "list.__iadd__" {[<-newList [],.ref l],[]})) _ _ s;refine yv (wpAny_newList (yx {Code.quiet_builtin _ (by decide +kernel),xV entry_list_iadd' ?_}));show wpAny _ _ (Builtin.List.listExtendWith (.ref ↑s) (.ref l) (.ref ↑s)) _ _ {s with heap:=s.heap.push (seqObj "list" #[] 0)};unfold Builtin.List.listExtendWith;let ho':(s.heap.push (seqObj "list" #[] 0)).get? l=some o:=yw _ ho;refine yv (vg (T:="tuple") {(o),ho',hc} ?_);let ht:(Value.type "tuple"== Value.type "tuple")=true:=by rfl
 rw[yO (by rw[ht];simp)];refine yv (listItems_at ho' hd ?_);refine yv (listItems_at (xs:=#[]) (n:=0) (yy _ rfl) rfl ?_);rw[yN (by simp)];refine yv (listUpdate_at (xs:=#[]) (n:=0) (yy _ rfl) rfl ?_ (yh _) (by show(#[]++vs.toArray).size<=sizeLine+1;simp only[Array.size_append,yc,xo];ext));refine yx ?_;show wpAny (model prog w) A (do
   let o <-load ↑s
   match o.data with
   | .seq xs _=>pure xs.toList
   | _=>unsupported "internal:collect") Q E {s with heap:=(s.heap.push (seqObj "list" #[] 0)).update ↑s (Obj.mapSeq (·++vs.toArray))}
 refine yv (wpAny_load (get?_update_seq (yy _ rfl) _) ?_);show wpAny _ _ (pure ((#[]:Array vv)++vs.toArray).toList) Q E _;rw[show((#[]:Array vv)++vs.toArray).toList=vs by simp];exact yx h
def Ki (hl:IsTup s.heap l vs.toArray) (hI:IntsAre vs ns) (h64:⇑vs<64)
  (h:∀(out:Array vv) (ns':List Int),IntsAre out.toList ns'->ns'.Perm ns->ns'.Pairwise (·<=·)->Q (.ref (↑s+1)) {s with heap:=sortedAll s.heap vs out}) :
  wpAny (model prog w) A (call (.builtin "sorted") [.ref l]) Q E s:=by
 refine Calls.call_function_entry kind_sorted plain_sorted entry_sorted (args_sorted1 _) ?_;unfold Builtin.«sorted»;refine yv (m:=checkCount "sorted" 1 1 _) (yx ?_);refine yv (Eg hl ?_ (by rw[yC];ext));refine yv (wpAny_newList ?_);let hsz:((s.heap.push (seqObj "list" #[] 0)).update ↑s (Obj.mapSeq (·++vs.toArray))).objs.size=↑s+1:=by
  rw[Heap.size_update,size_push']
 let hoL:(((s.heap.push (seqObj "list" #[] 0)).update ↑s (Obj.mapSeq (·++vs.toArray))).push (seqObj "list" vs.toArray 0)).get? (↑s+1)=some (seqObj "list" vs.toArray 0):=by
  rw[<-hsz];exact yy _ rfl
 show wpAny _ _ _ _ _ {s with heap:=((s.heap.push (seqObj "list" #[] 0)).update ↑s (Obj.mapSeq (·++vs.toArray))).push (seqObj "list" vs.toArray 0)};rw[hsz];refine yv (xI (xb slot_list_sort {_,hoL,rfl} entry_list_sort (list_sort_tree hoL hI h64 λout ns' a1 a2 a3=>{_,rfl,?_}) (args_list_sort _)));exact yx {_,rfl,h out ns' a1 a2 a3}
def Dl (h:vE) (vs:List vv) (out:Array vv):∃n,(sortedAll h vs out).get? (h.objs.size+1)=some {cls:=.type "list",data:=.seq out n}:=by
 let hsz:((h.push (seqObj "list" #[] 0)).update h.objs.size (Obj.mapSeq (·++vs.toArray))).objs.size=h.objs.size+1:=by rw[Heap.size_update,size_push']
 let h1:(((h.push (seqObj "list" #[] 0)).update h.objs.size (Obj.mapSeq (·++vs.toArray))).push (seqObj "list" vs.toArray 0)).get? (h.objs.size+1)=some (seqObj "list" vs.toArray 0):=by
  rw[<-hsz];exact yy _ rfl
 unfold sortedAll sortedHeap;let h2:=get?_update_seq h1 (λ_=>#[]);let h3:=yw (seqObj "list" #[] 0) (yw (seqObj "tuple" vs.toArray 0) h2);exact{_,get?_update_seq h3 (λ_=>out)}
def vW (h:vE) (vs:List vv) (out:Array vv) (b:vD) (o:Obj) (e:h.get? b=some o):(sortedAll h vs out).get? b=some o:=by
 let hb:b<h.objs.size:=yz e;unfold sortedAll sortedHeap;let n1:h.objs.size≠b:=yj hb;let n2:h.objs.size+1≠b:=yj (wK hb);rw[yA _ _ n2];refine yw _ (yw _ ?_);rw[yA _ _ n2];refine yw _ ?_;rw[yA _ _ n1];exact yw _ e
end
theorem qU:∀{us:List vv} {ns:List Int},IntsAre us ns->Vals (ns.map V.int) us
 | _,_,.nil=>.nil
 | _,_,.cons r t h=>.cons {_,rfl} (qU h)
section
variable {X:Cx}
def sE:fo X (.builtin "sorted") (λxs H Q=>∃(a:vD) (ns:List Int),xs=[.ref a]/\(gx X.K H a (ns.map V.int)\/qM X.K H a (ns.map V.int))/\⇑ns<64/\∀ns':List Int,ns'.Perm ns->ns'.Pairwise (·<=·)->∀l,H l=none->Q (.ref l) (upd H l (.lst (ns'.map V.int)))):=by
 intro pins s U H xs us Q I r h;let⟨a,ns,rfl,hq,h64,q⟩:=h;let⟨u,rfl,rx⟩:=vals1 r;cases rx;let fin:∀(its:List vv),⇑ns=⇑its->∀(out:Array vv) (ns':List Int),IntsAre out.toList ns'->ns'.Perm ns->ns'.Pairwise (·<=·)->EP X pins U Q (.ref (↑s+1)) {s with heap:=sortedAll s.heap its out}:=λits hl out ns' a1 a2 a3=>by
  let⟨n,hn⟩:=Dl s.heap its out;refine{.ref _,_,I.laid (t':=s.toks) (a:=↑s+1) (o:=.lst (ns'.map V.int)) (vW s.heap its out) (x6 _) ?_,rfl,q ns' a2 a3 _ (I.cB.fresh (x6 _))};refine{by rw[za,a2.length_eq,yC];ext,out.toList,n,qU a1,by simpa using hn}
 rcases hq with hq | hq
 ·let⟨its,rv,p,_⟩:=I.list hq
  let hl:⇑ns=⇑its:=by have:=⇑rv;rw[za] at this;exact this
  exact sorted_ints p.isList (intsAre_of rv) () (fin its hl)
 ·let⟨its,rv,p,_⟩:=I.tuple hq
  let hl:⇑ns=⇑its:=by have:=⇑rv;rw[za] at this;exact this
  exact Ki p (intsAre_of rv) () (fin its hl)
theorem LP:∀{zs:List Str} {us:List vv},Vals (zs.map V.str) us->∃l:List (Str×Tok),us=strValues l/\l.map (·.1)=zs
 | [],_,.nil=>{[],rfl,rfl}
 | z::zs,_,.cons ⟨t,e⟩ r=>by
  let⟨l,e1,e2⟩:=LP r;subst e e1 e2;exact{(z,t)::l,rfl,rfl}
def rJoin (K:yB):V->List V->Hp->VK->Prop:=λx vs H Q=>∃(sep:Str) (a:vD) (zs:List Str),x=.str sep/\vs=[.ref a]/\gx K H a (zs.map V.str)/\(zs.map (λz:Str=>⇑z+⇑sep)).sum<=sizeLine/\Q (.str (Str.join sep zs)) H
theorem Ja (sep:Str):∀(zs:List Str) (k:Nat),zs.foldl (λn z=>n+⇑z+⇑sep) k=k+(zs.map (λz:Str=>⇑z+⇑sep)).sum
 | [],k=>by simp
 | z::zs,k=>by
  rw[List.foldl_cons,Ja sep zs,zj,wV];ext
theorem LN (sep:Str):∀zs:List Str,(zs.map (·.length)).sum+⇑zs*⇑sep=(zs.map (λz:Str=>⇑z+⇑sep)).sum
 | []=>by simp
 | z::zs=>by
  let ih:=LN sep zs;simp only[zj,wV,zy,Nat.succ_mul] at ih ⊢;ext
def gP:SD X "str.join" (rJoin X.K):=by
 intro pins s U H x vs v us Q I rx rv h;let⟨sep,a,zs,rfl,rfl,hq,hz,q⟩:=h;let⟨tk,rfl⟩:=rx;let⟨u,rfl,ru⟩:=rv.one;cases ru;let⟨its,ri,p,_⟩:=I.list hq;let⟨l,e1,e2⟩:=LP ri;subst e1;let hl:Builtin.Str.tooLong ((l.map (·.1)).toArray.foldl (·+·.length+⇑sep) 0)=false:=by
  rw[e2,List.foldl_toArray,Ja,Nat.zero_add];exact ze ()
 let hj:Builtin.Str.glued sep (l.map (·.1))=Str.join sep zs:=by rw[e2];exact StrLaws.glued_eq_join sep zs
 let jl:⇑(Str.join sep zs)<=sizeLine:=by
  exact zO (StrLaws.join_length_le sep zs) (zO (Nat.le_of_eq (LN sep zs)) hz)
 refine wA F.slot_str_join (wO s sep tk) F.entry_str_join (F.args_str_join_2 _ _) (meets_str_join_list sep tk a l hl) {p.isList,?_}
 match l,e2,hj with
 | [],e2,hj=>
  subst e2;exact{by rw[hj];exact jl,.str _,H,I.tok _,{_,rfl},by rw[hj];exact q}
 | [z],e2,hj=>
  subst e2;exact{.str _,H,I,{_,rfl},q}
 | z::z'::r,e2,hj=>
  subst e2;exact{by rw[hj];exact jl,.str _,H,I.tok _,{_,rfl},by rw[hj];exact q}
noncomputable def pW (x:Str) (n:Nat):Str:={(List.replicate n x.cps).foldl (·++·) #[]}
def Sg:R2:=λx y H Q=>∃(t:Str) (n:Int),x=.str t/\y=.int n/\0<=n/\n<=1000/\⇑t<=1000/\Q (.str (pW t n.toNat)) H
def rB (x:Str) (n:Nat):(pW x n).cps.toList=(List.replicate n x.cps.toList).flatten:=by
 let key:∀(n:Nat) (a:Array Nat),((List.replicate n x.cps).foldl (·++·) a).toList=a.toList++(List.replicate n x.cps.toList).flatten:=by
  intro n
  induction n with
  | zero=>intro a;simp
  | succ n ih=>intro a;rw[List.replicate_succ,List.foldl_cons,ih,List.replicate_succ,yb];simp
 have:=key n #[];show((List.replicate n x.cps).foldl (·++·) #[]).toList=_;rw[this];rfl
def Ik (x:Str) (n:Nat):⇑(pW x n)=n*⇑x:=by
 let e:⇑(pW x n)=⇑(pW x n).cps.toList:=yQ.symm;rw[e,rB];let e2:⇑x.cps.toList=⇑x:=yQ;simp[e2]
def OT (x:Str):pW x 1=x:=lD (by rw[rB];simp)
def Rn:oy X (binaryOp .Mult) Sg:=by
 intro pins s U H x y v u Q I rx ry h;let⟨t,n,rfl,rfl,h0,h1,hl,q⟩:=h;let⟨tk,rfl⟩:=rx;let⟨tk',rfl⟩:=ry;let sl:=yC;let hm:⇑t*n.toNat<=1000000:=by
  have:⇑t*n.toNat<=1000*1000:=wG hl ();ext
 refine P.mul_str (by rw[ze (),ze ()];rfl) (λh2 _=>?_) (λ_ _=>ze ()) ?_
 ·have:(2^63-1)/1000<=((2:Int)^63-1)/n:=by
   rw[Int.le_ediv_iff_mul_le ()];have:n*9223372036854775<=1000*9223372036854775:=wR h1 ∅;ext
  ext
 ·by_cases c1:n<1
  ·let e:n.toNat=0:=()
   rw[yO c1];rw[e] at q;exact{∅,.str _,H,I.tok _,{_,rfl},q}
  ·rw[yN c1]
   refine post_val_or_str {?_,λt' k=>{.str _,H,I.tok _,{_,rfl},?_}}
   ·split
    ·ext
    ·have:=Ik t n.toNat
     let e:n.toNat*⇑t=⇑t*n.toNat:=Nat.mul_comm _ _;show(pW t n.toNat).length<=sizeLine;ext
   ·let ee:(if(n == 1||⇑t == 0)=true then t else pW t n.toNat)=pW t n.toNat:=by
     split
     ·rename_i c2
      rw[Bool.or_eq_true,vh,vh] at c2;rcases c2 with rfl | c2
      ·exact(OT t).symm
      ·refine lD ?_
       let e2:t.cps.toList=[]:=yu.mp (by rw[yQ];exact c2);rw[rB,e2];simp
     ·rfl
    show Q (.str (if(n == 1||⇑t == 0)=true then t else pW t n.toNat)) H;rw[ee];exact q
end
def KD (P:vz) (w:vA) (K:yB) (a:vD) (kvs:List (Str×V)):Prop:=
 (a == sysModules)=false/\(kvs.map (·.1)).Nodup/\∀h:vE,K.In h->∃vs:List (Key×vv),KV (kvs.map λp=>((Sum.inr p.1:Key),p.2)) vs/\h.DictOf (dt P w) a vs
noncomputable def Jj (Pm:Params) (l:List (Str×Tok×vD)):List DictEntry:=l.map λp=>{PyData.keyHash Pm p.1,.str p.1 p.2.1,.ref p.2.2}
theorem Pk:∀{l:List Str},l.Nodup->(l.map (Sum.inr:Str->Key)).Nodup
 | [],_=>x8
 | x::r,h=>by
  rw[ye] at h;rw[zj,ye];exact{λz=>by let⟨y,hy,e⟩:=zJ.mp z;exact h.1 (wY e▸hy),Pk h.2}
def Vl {P:vz} {w:vA} {K:yB} {a:vD} {l:List (Str×Tok×vD)} {n:Nat} (hl:K.lookup a=some {cls:=.type "dict",data:=.dict (Jj w.params l).toArray n}) (hs:(a == sysModules)=false) (nd:(l.map (·.1)).Nodup) :
  KD P w K a (l.map λp=>(p.1,V.ref p.2.2)):=by
 let e1:(l.map λp=>(p.1,V.ref p.2.2)).map (·.1)=l.map (·.1):=by rw[zD];rfl
 refine{hs,by rw[e1];exact nd,λh X=>{l.map λp=>(Sum.inr p.1,.ref p.2.2),?_,_,_,_,X _ _ hl,{(rfl),rfl,rfl},rfl,?_,?_,?_}}
 ·clear hl nd e1
  induction l with
  | nil=>exact .nil
  | cons p r ih=>exact .cons {(rfl),rfl} ih
 ·intro e he
  rw[List.mem_toArray] at he;let⟨p,_,rfl⟩:=zJ.mp he;exact{Sum.inr p.1,oO p.1 p.2.1,rfl}
 ·show PySem.Pairs _ (Jj w.params l) _
  clear hl nd e1
  induction l with
  | nil=>exact .nil
  | cons p r ih=>exact .cons (oO p.1 p.2.1) rfl ih
 ·let e2:(l.map λp=>((Sum.inr p.1:Key),(Value.ref p.2.2))).map (·.1)=(l.map (·.1)).map Sum.inr:=by rw[zD,zD];rfl
  rw[e2];exact Pk nd
noncomputable def sP (kvs:List (Str×V)) (k:Str):Option V:=(kvs.find? λp=>decide (p.1=k)).map (·.2)
theorem KU:∀{kvs:List (Str×V)} {vs:List (Key×vv)} (k:Str),KV (kvs.map λp=>((Sum.inr p.1:Key),p.2)) vs->mw (sP kvs k) (valueAt vs (Sum.inr k))
 | [],_,_,.nil=>trivial
 | (x,v)::r,_,k,.cons (b:=b) h t=>by
  let⟨h1,h2⟩:=h;let⟨bk,bv⟩:=b;dsimp only at h1 h2;subst h1
  by_cases e:x=k
  ·subst e
   simp only[sP,valueAt,yT,decide_true];exact h2
  ·let ih:=KU k t
   let e':¬((Sum.inr x:Key)=Sum.inr k):=λz=>e (wY z);simp only[sP,valueAt,yT,e,e',decide_false] at ih ⊢;exact ih
def S5 (P:vz) (w:vA) (K:yB) (td ty:TE):TE:=λU H Q=>td U H λx H1=>ty U H1 λy H2=>∃a kvs k v,x=.ref a/\KD P w K a kvs/\y=.str k/\sP kvs k=some v/\Q v H2
def U1 (P:vz) (w:vA) (K:yB) (b:Bool) (ty td:TE):TE:=λU H Q=>ty U H λy H1=>td U H1 λx H2=>∃a kvs k,x=.ref a/\KD P w K a kvs/\y=.str k/\Q (.bl (b ^^ (sP kvs k).isSome)) H2
section
variable {X:Cx} {pos:Pos} {o i:Expr} {td ty:TE}
theorem mw.KW:∀{a:Option V} {b:Option vv},mw a b->a.isSome=b.isSome
 | some _,some _,_=>rfl
 | none,none,_=>rfl
 | some _,none,h=>h.elim
 | none,some _,h=>h.elim
def Ir (ho:PE X o td) (hi:PE X i ty) (hs:Uy i):PE X (.Subscript o i pos) (S5 X.prog X.w X.K td ty):=by
 intro pins s U H Q I h;refine LO PySem.F.slot_dict_getitem.lookup hs (dk (ho s U H _ I h) λu s1 z0=>?_);let⟨x,H1,I1,rx,q1⟩:=z0;refine dk (hi s1 U H1 _ I1 q1) λiv s2 z1=>?_;let⟨y,H2,I2,ry,a,kvs,k,v,ex,kd,ey,hv,q2⟩:=z1;subst ex ey;obtain rfl:u=Value.ref a:=rx;let⟨tk,rfl⟩:=ry;let⟨hd,_,hk⟩:=kd;let⟨vs,rel,dd⟩:=hk _ I2.DR;let rv:=KU k rel;rw[hv] at rv;cases hw:valueAt vs (Sum.inr k) with
 | none=>rw[hw] at rv;exact rv.elim
 | some w'=>
  rw[hw] at rv;exact{dd.typeIs,wpAny_getItem_of (oO k tk) dd.mapOf hw {v,H2,I2.tok _,rv,q2}}
def Rk (hi:PE X i ty) (ho:PE X o td):PC X .In i o (U1 X.prog X.w X.K false ty td):=by
 intro pins s U H Q I h;refine dk (hi s U H _ I h) λiv s1 z0=>?_;let⟨y,H1,I1,ry,q1⟩:=z0;refine dk (ho s1 U H1 _ I1 q1) λu s2 z1=>?_;let⟨x,H2,I2,rx,a,kvs,k,ex,kd,ey,q2⟩:=z1;subst ex ey;obtain rfl:u=Value.ref a:=rx;let⟨tk,rfl⟩:=ry;let⟨hd,_,hk⟩:=kd;let⟨vs,rel,dd⟩:=hk _ I2.DR;refine wpAny_in_of (uS _ _ k tk) hd dd.mapOf ?_;let e:=mw.KW (KU k rel);exact{.bl _,H2,I2.tok _,rfl,by rw[e,Bool.false_xor] at q2;exact q2}
end
structure UB (X:Cx) (CX:JZ) (k:Nat) (f:vD) (sp:Sp):Prop where
 ok:∃fd ps,dy X.prog X.w X.K X.mg X.base CX k f fd ps sp/\PySem.W.keepIn X.K (.ref f)=true/\Binds X.K fd ps []
def S7 (Tb:vD->Sp->Prop) (E:XK) (i:Nat) (t:TA):TE:=λU H Q=>∃f sp,U[i]?=some (some (.ref f))/\Tb f sp/\t U H λvs H1=>sp vs H1 Q E
section
variable {X:Cx} {CX:JZ} {k:Nat} {x:Str} {i:Nat} {p pos:Pos} {e:Expr} {es:List Expr} {t:TA} {E:XK}
def Iu (Tb:vD->Sp->Prop) (hT:∀f sp,Tb f sp->UB X CX k f sp) (hr:fM k X.A) (hv:PE X (.Name x p) (bj i)) (hx:Passes CX X E)
  (ha:PA X (e::es) t) (he:starEach (e::es) X.env=(false,eval e X.env)::starEach es X.env<|>qe_) (hpl:(backTo pos (starEach es X.env)).any (·.1)=false<|>qe_) :
  PE X (.Call (.Name x p) (e::es) [] pos) (S7 Tb E i t):=by
 intro pins s U H Q I h;let⟨f,sp,hf,hTb,h⟩:=h;let⟨fd,ps,F,hk,hb⟩:=(hT f sp hTb).ok;refine xq (dk (hv s U H (λv H1=>v=.ref f/\H1=H) I {_,hf,rfl,rfl}) λu s1 z0=>?_);let⟨v,H1,I1,rv,ev,eH⟩:=z0;subst ev eH;obtain rfl:u=Value.ref f:=rv;refine vj (h₀:=X.base) I1.ok.mod.TV hk (dk (ha s1 U _ _ I1 h) λus s2 z0=>?_) he hpl;let⟨vs,H2,I2,r,q⟩:=z0;refine{I2.DR,?_};exact OO F hr hb .nil hx I2 r (by rw[zX];exact q)
end
def UW (sp:Sp) (t:TA) (C:vD) (th:TS):TS:=λD U H=>t U H λvs H1=>sp vs H1 (λv H2=>D.rt v H2) λcls _ H2=>cls=.ref C/\th D U H2
section
variable {X:Cx} {k:Nat} {f:vD} {fd:vC} {ps:List Str} {sp:Sp} {fx cn:Str} {p pos cpos pa np hpos:Pos} {e₀:Expr} {es:List Expr} {t:TA} {C:vD} {bm:List vv} {newId:String} {b₀:Stmt} {suite:List Stmt} {th:TS}
def Rb (F:dy X.prog X.w X.K X.mg X.base (qT X.prog X.w) k f fd ps sp) (hr:fM k X.A) (hg:Gl X fx) (hm:X.mg fx=some (.ref f)) (hk:PySem.W.keepIn X.K (.ref f)=true) (hb:Binds X.K fd ps []) (ha:PA X.JY (e₀::es) t)
  (hc:X.calm=true) (hgc:Gl X cn) (hC0:PySem.W.nsIn X.K mainGlobals cn=some (some (.ref C))) (hQ0:PySem.W.excIn X.K C bm newId=true) (hbase:bm.contains (.type "BaseException")=true) (hstk:X.stack=X.env::X.outer) (hfrm:X.env.frame=some X.env.locals)
  (hsu:∀e,C5 (X.held e).JY (b₀::suite) th)
  (hdb:(fx == ("__debug__": Str))=false<|>qb_) (hdc:(cn == ("__debug__": Str))=false<|>qb_) (he:starEach (e₀::es) X.env=(false,eval e₀ X.env)::starEach es X.env<|>qe_) (hpl:(backTo cpos (starEach es X.env)).any (·.1)=false<|>qe_) :
  PS X (.Try [.Return (some (.Call (.Name fx p) (e₀::es) [] cpos)) pa] [.ExceptHandler (some (.Name cn np)) none (b₀::suite) hpos] [] [] pos) (UW sp t C th):=by
 intro pins s U H D I h;let O:OwnCls cn C bm newId X.mg X.base:=lR X.prog I.ok.mod hC0 hQ0;refine wpAny_Try_except (wpAny_execs_cons ?_);refine wpAny_Return_some ?_;refine xq (iU I hg hm ?_ hdb);let hA:wpAny (model X.prog X.w) X.A (spliced (backTo cpos (starEach (e₀::es) X.env))) (AP X.JY pins U _) (λ_ _=>False) s:=ha s U H _ (I.pE _) h;refine vj (h₀:=X.base) I.ok.mod.TV hk (xg hA (λus s1 z0=>?_) λ_ _ z=>z.elim) he hpl;let⟨vs,H1,I1',r,q⟩:=z0;refine{I1'.DR,?_};let I1:Inv X pins U H1 s1:=I1'.gB;let hl:⇑us=⇑ps:=by rw[<-⇑r];exact F.len _ _ _ _ q
 refine wpAny_call (xS (F.run X.A X.stack s1 H1 {us,[]} us vs _ _ hr I1.RG (by have:=hb s1 us I1.DR (by rw[zX];exact hl);rw[zX] at this;exact this) r q) λrr s' hq=>?_);cases rr with
 | ok fl=>
  cases fl with
  | ret u=>
   let⟨v,H2,I2,r2,q2⟩:=I1.after hq;exact{v,U,H2,I2,r2,q2}
  | next=>exact False.elim hq
  | brk=>exact False.elim hq
  | cont=>exact False.elim hq
 | error ev=>
  let⟨a,cls,a0,B,H',rfl,os,bare,fl,fly,⟨rfl,q2⟩⟩:=hq;let DS:∀b∈kB X.stack,H1 b=none:=I1.oA;let nf:∀{hh:vE},Heap.FunFrames hh B X.stack->∀b∈kB X.stack,∃o,hh.get? b=some o/\∀vs,o.data≠.fields vs:=λhF b hb=>(hF.mem hb).2;let back:∀(hh:vE),LD X.prog X.w (kB X.stack) H1 H' s1.heap B hh->Inv X pins U H' {s' with heap:=hh}:=λhh fy=>
   I1.Mp (s':={s' with heap:=hh}) (ch:=[]) os (fy.un DS) (fy.cB.kept fy.kg) bare λb z=>absurd z (by simp)
  let hfr:X.A.frames=some (X.env::X.outer):=by rw[<-hstk];exact I1.ok.frames
  refine wpAny_looks_onW hfr hfrm (by rw[<-hstk];exact fl) λh4 held4 up4=>?_;refine wpAny_landsW held4 λh5 fl5 up5=>?_;let fl5':Heap.FlyingW B X.stack a (.ref C) a0 h5:=by rw[hstk];exact fl5
  let fy5:LD X.prog X.w (kB X.stack) H1 H' s1.heap B h5:=fly.on (up4.trans up5) fl5.1 (nf fl.2.2.1);let I5:=back h5 fy5;let⟨ob,hob,hobc⟩:=fl5'.there;let⟨tl,Nn,nm,qn,bs,hdct,sn,sub,ab,col,dd,k0,k1,k2,k3,k5,mN,hC,hN',hni,T⟩:=O.obj;refine wpAny_handleBy_cons (codeAny_handlers_test (iU (X:=X.held (.ref a)) (I5.held _) hgc O.bound ?_ hdc)) (by intro q;cases q);refine wpAny_excMatches_sub_self (I5.bk _ _ hC) hob hobc (T.hasType hbase) (codeAny_handlers_suite ?_);refine lands_againW fl5' λh6 fl6 up6=>?_;let fy6:LD X.prog X.w (kB X.stack) H1 H' s1.heap B h6:=fy5.on up6 fl6.1 (nf fl5'.2.2.1);let I6:=back h6 fy6;refine xg (hsu (.ref a) _ U H' D ((I6.held _).pE _) q2) (λfl s7 z=>?_) λ_ _ z=>z.elim;exact SP.ke I.ok.hd (SP.gB z)
end
section
variable {prog:vz} {w:vA} {A:vB} {E:vv->vw->Prop} {s:vw}
def OX (hd:(d == sysModules)=false) (ho:s.heap.get? d=some o) (hx:o.ExactDict) (hdat:o.data=.dict es ep)
  (hQ:Q (.ref ↑s) {s with heap:=s.heap.push {cls:=.type "dict_keyiterator",data:=.fields #[.ref d,.int 0 0,.int es.size 0,.int ep 0]}}) :
  wpAny (model prog w) A (pyIter (.ref d)) Q E s:=by
 let hT:s.TypeIs (.ref d) "dict":={(o),ho,hx.1}
 refine wpAny_pyIter_slot hT F.slot_dict_iter (xb F.slot_dict_iter hT F.entry_dict_iter ?_ (F.args_dict_iter_1 _));unfold Builtin.«dict.__iter__»;refine yv ?_;unfold Builtin.Dict.dictSlotNone;refine yv (wpAny_notOrdered_dict hT ?_);show wpAny _ _ (pure (Value.ref d)) _ _ s;refine yx ?_;show wpAny _ _ (Builtin.Dict.showsAll d >>= _) _ _ s;unfold Builtin.Dict.showsAll;rw[yN (by rw[hd];exact zN)];refine yv (yx ?_);refine yv (wpAny_dictEntries ho hdat ?_);refine yv (wpAny_dictEpoch ho hdat ?_);refine yv (xf (yx {_,rfl,"dict_keyiterator",_,{_,yy _ rfl,rfl},xX.lookup,?_}))
 simpa[rawInt] using hQ
def OY (hit:s.heap.IsKeyIter it d i es.size ep)
  (hod:s.heap.get? d=some od) (hdd:od.data=.dict es ep) (hx:es[i]?=some e)
  (hQ:∀h',h'.IsKeyIter it d (i+1) es.size ep->Heap.SameBut it s.heap h'->Q (some e.key) {s with heap:=h'}) :
  wpAny (model prog w) A (pyNext (.ref it)) Q E s:=by
 let⟨o,ho,hc,hd⟩:=id hit;unfold pyNext;refine yv (wU (yZ (name:=Str.ofString "__next__") hit.typeIs xX
  (xb xX hit.typeIs F.entry_dict_keyiterator_next ?_ (F.args_dict_keyiterator_next_1 _))))
 refine yv (yx ?_);refine yv ?_;refine yv ?_
 first | refine yv (xR hit.typeIs (yx ?_)) | refine yv (wu hit.typeIs (yx ?_))
 refine yv (wpAny_fieldsOf ho hd ?_);let hown:Builtin.Dict_items.ownsTuple "dict_keyiterator"= false:=by decide
 rw[hown,yN zN];show wpAny _ _ (if(Value.ref d == Value.none)=true then _ else _) _ _ s;rw[yN (show¬((Value.ref d == Value.none)=true) from zN)];refine yv (yx ?_);refine yv (wpAny_dictEntries hod hdd ?_);rw[yN (by simp)];refine yv (yx ?_);refine yv (wpAny_dictEpoch hod hdd ?_);rw[yN (by simp)];refine yx ?_;dsimp only;rw[yN (show¬((i:Int)<0) from by ext),xZ,hx];dsimp only;refine yv ?_
 first | refine yv (xR hit.typeIs (yx ?_)) | refine yv (wu hit.typeIs (yx ?_))
 refine yv (wpAny_isOneOf_keyiter hit.typeIs ?_);show wpAny _ _ (setField (.ref it) 1 (rawInt ((i:Int)+1)) >>= _) _ _ s;refine yv (wpAny_setField ho hd (by simp) ?_);let hit':(s.heap.update it (Obj.mapFields (·.setIfInBounds 1 (rawInt ((i:Int)+1))))).IsKeyIter it d (i+1) es.size ep:=
  {_,Heap.get?_update_self _ ho (Obj.isFreed_of_fields (vk hd _)),(Obj.cls_mapFields ..).trans hc,by rw[vk hd];simp[rawInt]}
 refine yv (xI ?_);refine yv (wpAny_isOneOf_keyiter (s:={s with heap:=s.heap.update it (Obj.mapFields (·.setIfInBounds 1 (rawInt ((i:Int)+1))))}) hit'.typeIs ?_);show wpAny _ _ (pure e.key) _ _ _;exact yx (yx {_,rfl,yx (hQ _ hit' (vd ..))})
def Q4 (hh:A.handled=none) (hit:s.heap.IsKeyIter it d i es.size ep)
  (hod:s.heap.get? d=some od) (hdd:od.data=.dict es ep) (hx:es.size<=i)
  (hQ:∀h',Heap.ExtBut it s.heap h'->Q none {s with heap:=h'}):wpAny (model prog w) A (pyNext (.ref it)) Q E s:=by
 let⟨o,ho,hc,hd⟩:=id hit;unfold pyNext;refine yv (wU (yZ (name:=Str.ofString "__next__") hit.typeIs xX
  (xb xX hit.typeIs F.entry_dict_keyiterator_next ?_ (F.args_dict_keyiterator_next_1 _))))
 refine yv (yx ?_);refine yv ?_;refine yv ?_
 first | refine yv (xR hit.typeIs (yx ?_)) | refine yv (wu hit.typeIs (yx ?_))
 refine yv (wpAny_fieldsOf ho hd ?_);let hown:Builtin.Dict_items.ownsTuple "dict_keyiterator"= false:=by decide
 rw[hown,yN zN];show wpAny _ _ (if(Value.ref d == Value.none)=true then _ else _) _ _ s;rw[yN (show¬((Value.ref d == Value.none)=true) from zN)];refine yv (yx ?_);refine yv (wpAny_dictEntries hod hdd ?_);rw[yN (by simp)];refine yv (yx ?_);refine yv (wpAny_dictEpoch hod hdd ?_);rw[yN (by simp)];refine yx ?_;dsimp only;rw[yN (show¬((i:Int)<0) from by ext),xZ,Array.getElem?_eq_none hx];dsimp only;refine yv ?_
 first | refine yv (xR hit.typeIs (yx ?_)) | refine yv (wu hit.typeIs (yx ?_))
 show wpAny _ _ (setField (.ref it) 0 .none >>= _) _ _ s;refine yv (wpAny_setField ho hd (by simp) ?_);show wpAny _ _ (newExc (.type "StopIteration") [] >>= _) _ _ _;refine yv ?_;simp only[newExc,newTuple];refine yv (xf ?_ (by size_fits));refine yv (m:=firstArgMember _ _) (wpAny_of_eq (a:=Value.none) (by first | rfl | (simp only[firstArgMember];rfl)) ?_);refine xf ?_ (by size_fits);simp only[raiseNew];refine yv (wpAny_handled ?_);rw[show A.in1.handled=none from hh];refine yv (yx (wpAny_throw ?_));refine yv (wpAny_isInstance (T:="StopIteration") (b:=true) {_,yy _ rfl,rfl} isSubtype_stop ?_);exact yx (hQ _ (((vd ..).extBut.push _).push _))
end
def QC (H:Hp) (d:vD) (o:Obj) (n:Nat) (kat:Hp->Nat->V->Prop):Prop:=∃u,H d=some (.qS o u)/\((∃kvs:List (Key×V),u=.dK kvs/\n=⇑kvs/\kat=λ_ i x=>∃p,kvs[i]?=some p/\x=kV p.1)\/
 ∃kvs:List (List Key×V),u=.dT kvs/\n=⇑kvs/\kat=λH i x=>∃p b,kvs[i]?=some p/\H b=some (.tup (p.1.map kV))/\x=.ref b)
theorem EM {K:Type} [DecidableEq K] {prog:vz} {w:vA} {knd:KeyKind prog w K}:∀{es:List DictEntry} {kvs:List (K×vv)} {i:Nat} {e:DictEntry},PySem.Pairs knd es kvs->es[i]?=some e->∃kv,kvs[i]?=some kv/\knd.is kv.1 e.key=true/\e.val=kv.2
 | _,_,_,_,.nil,h=>by simp at h
 | _,_,0,_,.cons a b _,h=>by simp at h;subst h;exact{_,rfl,a,b}
 | _,_,i+1,_,.cons _ _ t,h=>by
  let⟨kv,h1,h2⟩:=EM (i:=i) t (by simpa using h);exact{kv,by simpa using h1,h2}
theorem lQ:∀{l:List α} {m:List β} {i:Nat} {b:β},Paired F l m->m[i]?=some b->∃a,l[i]?=some a/\F a b
 | _,_,_,_,.nil,h=>by simp at h
 | _,_,0,_,.cons r _,h=>by simp at h;subst h;exact{_,rfl,r}
 | _,_,i+1,_,.cons _ t,h=>by
  let⟨a,h1,h2⟩:=lQ (i:=i) t (by simpa using h);exact{a,by simpa using h1,h2}
section
variable {X:Cx} {pins:List (vD×Obj)} {U:St} {H:Hp} {s:vw} {d:vD} {o:Obj} {n:Nat} {kat:Hp->Nat->V->Prop}
def QC.raw (f:QC H d o n kat) (I:Inv X pins U H s):(d == sysModules)=false/\∃es ep,s.heap.get? d=some o/\o.ExactDict/\o.data=.dict es ep/\es.size=n/\∀i e,es[i]?=some e->∃x,RelV x e.key/\kat H i x:=by
 let⟨u,hH,hu⟩:=f;let⟨ho,ok⟩:=(show df X.prog X.w H s.heap d (.qS o u) from I.cB d _ hH)
 rcases hu with⟨kvs,rfl,rfl,rfl⟩ | ⟨kvs,rfl,rfl,rfl⟩
 ·let⟨_,hd,vs,rel,o',es,ep,ho',hx,hdat,_,hp,_⟩:=ok
  let hl:es.size=⇑kvs:=by
   let h1:=⇑hp;let h2:⇑kvs=⇑vs:=xY rel;let h3:⇑es.toList=es.size:=yQ;ext
  rw[ho] at ho';cases ho';refine{hd,es,ep,ho,hx,hdat,hl,λi e he=>?_};let⟨kv,h1,h2,_⟩:=EM hp (i:=i) (e:=e) (by rw[xk];exact he);let⟨p,h3,h4,_⟩:=lQ rel h1;refine{kV p.1,?_,p,h3,rfl};rw[<-h4] at h2;rcases dA h2 with⟨j,t,e1,e2⟩ | ⟨y,t,e1,e2⟩
  ·rw[e1,e2];exact{(t),rfl}
  ·rw[e1,e2];exact{(t),rfl}
 ·let⟨_,hd,xs,rel,o',es,ep,ho',hx,hdat,he,_⟩:=ok
  let h3:⇑es.toList=es.size:=yQ;let hl:es.size=⇑kvs:=by
   let h2:⇑kvs=⇑xs:=xY rel;rw[he,za] at h3;ext
  rw[ho] at ho';cases ho';refine{hd,es,ep,ho,hx,hdat,hl,λi e hi=>?_};rw[<-xk,he,zM] at hi;cases q:xs[i]? with
  | none=>rw[q] at hi;cases hi
  | some y=>
   rw[q] at hi;cases hi;let⟨p,h4,h5,h6,_⟩:=lQ rel q;exact{.ref y.2.1,rfl,p,y.2.1,h4,h6,rfl}
end
noncomputable def Xo (d:vD) (o:Obj) (n:Nat) (kat:Hp->Nat->V->Prop):It:={λi H=>QC H d o n kat/\i<n,λi H x H'=>H'=H/\kat H i x,λi H=>QC H d o n kat/\n<=i}
def MB {P:vz} {w:vA} {K:yB} {tg:Expr} (d it:vD) (n:Nat) (kat:Hp->Nat->V->Prop) (o:Obj) (es:Array DictEntry) (ep:Nat) (hdat:o.data=.dict es ep) (hn:es.size=n) :
  Turn P w K tg (Xo d o n kat) [it] it (λi h=>h.IsKeyIter it d i n ep) where
 mem:=by simp
 obj:=λi h st b hb=>by
  let e:b=it:=by simpa using hb
  subst e;let⟨o,e,c,d⟩:=st;exact{o,e,λv z=>by rw[d] at z;cases z}
 keep:=λi h h' st k=>st.at λo e=>k it (by simp) o e
 item:=by
  intro X hP hw hK hc i pins s U H E I hf st hg;subst hP hw hK hn;let⟨fz,hlt⟩:=hg;let⟨hd,es',ep',ho,hx,hdat',hsz,hk⟩:=fz.raw I;rw[hdat] at hdat';cases hdat';let⟨f0,f1,f2,f3,f4,f5⟩:=hf it (by simp);let he:es[i]?=some es[i]:=Array.getElem?_eq_getElem hlt;let⟨x,rx,kx⟩:=hk i _ he;refine OY st ho hdat he λh' st' sb=>?_;let I1:Inv X pins U H {s with heap:=h'}:=I.turned (t':=s.toks) (λb o hb e=>(sb.2 b hb).trans e) f0 f1 f3 f4 f5;let⟨oi,e,c,dd⟩:=id st';exact{_,rfl,E2 (s:={s with heap:=h'}) e c dd ∅ {x,H,I1,rx,{(rfl),kx},st',λb hb=>(hf b hb).1}}
 done:=by
  intro X hP hw hK hc i pins s U H E I hf st hg;subst hP hw hK hn;let⟨fz,hge⟩:=hg;let⟨hd,es',ep',ho,hx,hdat',hsz,hk⟩:=fz.raw I;rw[hdat] at hdat';cases hdat';let⟨f0,f1,f2,f3,f4,f5⟩:=hf it (by simp);exact Q4 (I.ok.hd hc) st ho hdat hge λh' eb=>{rfl,I.turned (t':=s.toks) (λb o hb e=>eb b o hb e) f0 f1 f3 f4 f5}
 self:=λ_ _ _ _ _ st h=>wpAny_pyIter_keyiter st h
def Vr (td:TE):TI:=λU H R=>td U H λx H1=>∃d o n kat,x=.ref d/\QC H1 d o n kat/\R (Xo d o n kat) H1
section
variable {X:Cx} {tg l:Expr} {tl:TE}
def Rg (hl:PE X l tl):PI X tg l (Vr tl):=by
 intro pins s U H R I h;refine dk (hl s U H _ I h) λv s1 z0=>?_;let⟨x,H1,I1,r1,q1⟩:=z0;let⟨d,o,n,kat,e,fz,q⟩:=q1;subst e;cases r1;let⟨hd,es,ep,ho,hx,hdat,hsz,hk⟩:=fz.raw I1;refine OX hd ho hx hdat ?_;refine{↑s1,[↑s1],_,_,H1,rfl,I1.kept (t':=s1.toks) λb o e=>yw _ e,MB d _ n kat o es ep hdat hsz,{_,yy _ rfl,rfl,by rw[hsz];rfl},λb hb=>?_,q};let e:b=↑s1:=by simpa using hb
 subst e;exact I1.DT (zm _) (I1.cB.fresh (zm _))
end
def LC (H:Hp) (d:vD) (o:Obj) (kvs:List (Key×V)):Prop:=H d=some (.qS o (.dK kvs))
noncomputable def Qz (d:vD) (o:Obj) (kvs:List (Key×V)):It:={λi H=>LC H d o kvs/\i<⇑kvs,λi H x H'=>H'=H/\∃p,kvs[i]?=some p/\x=p.2,λi H=>LC H d o kvs/\⇑kvs<=i}
section
variable {X:Cx} {pins:List (vD×Obj)} {U:St} {H:Hp} {s:vw} {d:vD} {o:Obj} {kvs:List (Key×V)}
def LC.at' (f:LC H d o kvs) (I:Inv X pins U H s):(d == sysModules)=false/\∃vs es ep,KV kvs vs/\o.data=.dict es ep/\s.heap.DictAt (dt X.prog X.w) d vs ep:=by
 let⟨ho,ok⟩:=(show df X.prog X.w H s.heap d (.qS o (.dK kvs)) from I.cB d _ f)
 let⟨_,hd,vs,rel,o',es,ep,ho',hx,hdat,hk,hp,nd⟩:=ok;rw[ho] at ho';cases ho';exact{(hd),vs,es,ep,rel,hdat,o,es,ho,hx,hdat,hk,hp,nd}
end
def Hv {P:vz} {w:vA} {K:yB} {tg:Expr} (d it:vD) (o:Obj) (kvs:List (Key×V)) (es:Array DictEntry) (ep:Nat) (hdat:o.data=.dict es ep) :
  Turn P w K tg (Qz d o kvs) [it] it (λi h=>h.IsValIter it d i ⇑kvs ep) where
 mem:=by simp
 obj:=λi h st b hb=>by
  let e:b=it:=by simpa using hb
  subst e;let⟨o,e,c,d⟩:=st;exact{o,e,λv z=>by rw[d] at z;cases z}
 keep:=λi h h' st k=>st.at λo e=>k it (by simp) o e
 item:=by
  intro X hP hw hK hc i pins s U H E I hf st hg;subst hP hw hK;let⟨fz,hlt⟩:=hg;let⟨hd,vs,es',ep',rel,hdat',da⟩:=fz.at' I;rw[hdat] at hdat';cases hdat';let⟨f0,f1,f2,f3,f4,f5⟩:=hf it (by simp);let hl:⇑kvs=⇑vs:=xY rel;let hi:vs[i]?=some (vs[i]'()):=zd ();let⟨p,h3,h4,h5⟩:=lQ rel hi;refine wpAny_pyNext_values_item (by rw[<-hl];exact st) da hi λh' st' sb=>?_;let I1:Inv X pins U H {s with heap:=h'}:=I.turned (t':=s.toks) (λb o hb e=>(sb.2 b hb).trans e) f0 f1 f3 f4 f5;let⟨oi,e,c,dd⟩:=id st';exact{_,rfl,E2 (s:={s with heap:=h'}) e c dd ∅ {p.2,H,I1,h5,{(rfl),p,h3,rfl},by rw[hl];exact st',λb hb=>(hf b hb).1}}
 done:=by
  intro X hP hw hK hc i pins s U H E I hf st hg;subst hP hw hK;let⟨fz,hge⟩:=hg;let⟨hd,vs,es',ep',rel,hdat',da⟩:=fz.at' I;rw[hdat] at hdat';cases hdat';let⟨f0,f1,f2,f3,f4,f5⟩:=hf it (by simp);let hl:⇑kvs=⇑vs:=xY rel;exact wpAny_pyNext_values_end (I.ok.hd hc) (by rw[<-hl];exact st) da (by simp;ext) λh' eb=>{rfl,I.turned (t':=s.toks) (λb o hb e=>eb b o hb e) f0 f1 f3 f4 f5}
 self:=λ_ _ _ _ _ st h=>wpAny_pyIter_valiter st h
def RA (td:TE):TI:=λU H R=>td U H λx H1=>∃d o kvs,x=.ref d/\LC H1 d o kvs/\R (Qz d o kvs) H1
section
variable {X:Cx} {tg l:Expr} {tl:TE} {apos cpos:Pos}
def MY (hl:PE X l tl) (hbase:attributeBase l "values" X.env (eval l X.env)=eval l X.env<|>qe_) (hline:(apos.endLine == cpos.line)=true<|>qe_):PI X tg (.Call (.Attribute l "values" apos) [] [] cpos) (RA tl):=by
 intro pins s U H R I h;refine wpAny_Call_method0_late hbase hline (dk (hl s U H _ I h) λv s1 z0=>?_);let⟨x,H1,I1,r1,q1⟩:=z0;let⟨d,o,kvs,e,fz,q⟩:=q1;subst e;cases r1;let⟨hd,vs,es,ep,rel,hdat,da⟩:=fz.at' I1;refine{"dict","dict.values",F.plainAttrs_dict,F.slot_dict_values,F.type_dict_values,da.dictOf.typeIs,da.dictOf.mapOf.noDict,wM rfl (PySem.evalArgs_none ?_)};refine call_meetsIn F.slot_dict_values da.dictOf.typeIs F.entry_dict_values (F.args_dict_values_1 _) (meets_dict_values (dt X.prog X.w) d hd) {{(vs),da.dictOf},?_};let I2:Inv X pins U H1 {s1 with heap:=s1.heap.push {cls:=.type "dict_values",data:=.fields #[.ref d]}}:=I1.kept (t':=s1.toks) λb o e=>yw _ e;let⟨_,vs2,es2,ep2,rel2,hdat2,da2⟩:=fz.at' I2;rw[hdat] at hdat2;cases hdat2;let hl2:⇑kvs=⇑vs2:=xY rel2;refine wpAny_pyIter_values (knd:=dt X.prog X.w) {_,yy _ rfl,rfl,rfl} da2 ?_;refine{_,[_],_,_,H1,rfl,I2.kept (t':=s1.toks) λb o e=>yw _ e,Hv d _ o kvs es ep hdat,{_,yy _ rfl,rfl,by rw[hl2];rfl},λb hb=>?_,q};rw[zC.mp hb];exact I2.DT (zm _) (I2.cB.fresh (zm _))
end
def K0 {d:vD} {o:Obj} {kvs:List (Key×V)} {g:TG} {tb:TS} {D:Ends} {U:St} {H:Hp} (Pv:Nat->St->Hp->Prop) (h0:Pv 0 U H) (hf:∀i U H,i<=⇑kvs->Pv i U H->LC H d o kvs)
  (hs:∀i p U H,kvs[i]?=some p->Pv i U H->g p.2 U H λσ2 H2=>tb {D with nx:=Pv (i+1),ct:=Pv (i+1),bk:=D.nx} σ2 H2) (hd:∀U H,Pv ⇑kvs U H->D.nx U H) :
  ∃W:Nat->Nat->St->Hp->Prop,(∃m,W 0 m U H)/\∀i m U H,W i m U H->
   ((Qz d o kvs).stop i H/\D.nx U H)\/((Qz d o kvs).go i H/\∃Nn:St->Hp->Prop,(∀U' H',Nn U' H'->∃m',m'<m/\W (i+1) m' U' H')/\∀v H',(Qz d o kvs).LH i H v H'->g v U H' λσ2 H2=>tb {D with nx:=Nn,ct:=Nn,bk:=D.nx} σ2 H2):=by
 refine{λi m U H=>m=⇑kvs-i/\i<=⇑kvs/\Pv i U H,{⇑kvs,by simp,yh _,h0},?_};rintro i m U H ⟨rfl,hi,pv'⟩;rcases xH i ⇑kvs with hlt | hge
 ·refine .inr {{hf i U H hi pv',hlt},Pv (i+1),λU' H' p'=>{⇑kvs-(i+1),(),rfl,hlt,p'},λv H' y=>?_}
  let⟨e1,p,hp,e2⟩:=y;rw[e1,e2];exact hs i p U H hp pv'
 ·let e:i=⇑kvs:=()
  subst e;exact .inl {{hf _ U H hi pv',zm _},hd U H pv'}
noncomputable def Vp:HO->Bool
 | .dK _=>true
 | .dT _=>true
 | _=>false
def dy.Sb {P:vz} {w:vA} {K:yB} {mg:Str->Option vv} {base:vE} {k:Nat} {f:vD} {fd:vC} {ps:List Str} {sp sp':Sp} (F:dy P w K mg base JX k f fd ps sp) (len:∀vs H Q E,sp' vs H Q E->⇑vs=⇑ps)
  (h:∀vs H Q E,sp' vs H Q E->∃d u,H d=some u/\Vp u=true/\∀o,sp vs (upd H d (.qS o u)) (λv H'=>Q v (upd H' d u)) E):dy P w K mg base JX k f fd ps sp':=by
 refine{len,λA outer s H args us vs Q E hr e hb hv hs=>?_};let⟨d,u,hd,hu,hsp⟩:=h vs H Q E hs;let okd:=e.cB d u hd;let⟨o,ho⟩:=okd.here;let nt:∀xs,u≠.tup xs:=λxs z=>by rw[z] at hu;cases hu
 let no:∀x,u≠.own x:=λx z=>by rw[z] at hu;cases hu
 let nf:∀a b,u≠.qS a b:=λa b z=>by rw[z] at hu;cases hu
 let nb:∀a,u≠.Ol a:=λa z=>by rw[z] at hu;cases hu
 let off:∀b,H b=none->b≠d:=λb n z=>by rw[z,hd] at n;cases n
 let tup1:∀b xs,H b=some (.tup xs)->upd H d (.qS o u) b=some (.tup xs):=λb xs q=>by rw[aE (λz=>by rw[z,hd] at q;exact nt xs (ym q))];exact q
 let own1:∀b x,H b=some (.own x)->upd H d (.qS o u) b=some (.own x):=λb x q=>by rw[aE (λz=>by rw[z,hd] at q;exact no x (ym q))];exact q
 let e1:JW P w K mg base A outer s (upd H d (.qS o u)):=by
  refine{e.frames,e.mod,λb ob q=>{(e.bs b ob q).1,by rw[aE (off b (e.bs b ob q).2)];exact(e.bs b ob q).2},e.Mq,e.l6,λb hb=>by rw[aE (off b (e.DS b hb))];exact e.DS b hb,λb ub q=>?_,e.bare}
  by_cases hbd:b=d
  ·subst hbd
   rw[aF] at q;cases q;exact{ho,okd.kg (λ_ _ _ z=>z) (λc z=>own1 c _ z) tup1}
  ·rw[aE hbd] at q
   exact(e.cB b ub q).kg (λ_ _ _ z=>z) (λc z=>own1 c _ z) tup1
 refine xS (F.run A outer s _ args us vs _ E hr e1 hb hv (hsp o)) λr s' hq=>?_;cases r with
 | error x=>exact hq
 | ok fl=>
  cases fl with
  | next=>exact hq
  | brk=>exact hq
  | cont=>exact hq
  | ret uv=>
   let⟨v,H',os,bare,un,cB,rv,q⟩:=hq;let hd':H' d=some (.qS o u):=un.kA d o u aF;let off1:∀b,H b=none->upd H d (.qS o u) b=none:=λb n=>by rw[aE (off b n)];exact n
   let back:∀b z,H b=some z->b≠d->upd H d (.qS o u) b=some z:=λb z q n=>by rw[aE n];exact q
   refine{v,upd H' d u,os,bare,{λb ob q n hb hx=>un.keep b ob q (off1 b n) hb hx,λb ob q n hb hx=>un.slot b ob q (off1 b n) hb hx,λb ob q n hx=>by rw[aE (off b n)];exact un.free b ob q (off1 b n) hx,un.there,
    λb xs q=>?_,λb ob uu q=>?_,λb ps' q=>?_},λb ub q=>?_,rv,q}
   ·let n:b≠d:=λz=>by rw[z,hd] at q;exact nt xs (ym q)
    rw[aE n];exact un.lB b xs (back b _ q n)
   ·let n:b≠d:=λz=>by rw[z,hd] at q;exact nf ob uu (ym q)
    rw[aE n];exact un.kA b ob uu (back b _ q n)
   ·let n:b≠d:=λz=>by rw[z,hd] at q;exact nb ps' (ym q)
    let⟨m,z⟩:=un.lC b ps' (back b _ q n);exact{m,by rw[aE n];exact z}
   ·let own2:∀c x,H' c=some (.own x)->upd H' d u c=some (.own x):=λc x z=>by rw[aE (λy=>by rw[y,hd'] at z;cases z)];exact z
    let tup2:∀c xs,H' c=some (.tup xs)->upd H' d u c=some (.tup xs):=λc xs z=>by rw[aE (λy=>by rw[y,hd'] at z;cases z)];exact z
    by_cases hbd:b=d
    ·subst hbd
     rw[aF] at q;cases q;let⟨_,ok'⟩:=(show df P w H' s'.heap b (.qS o u) from cB b _ hd')
     exact ok'.kg (λ_ _ _ z=>z) (λc z=>own2 c _ z) tup2
    ·rw[aE hbd] at q
     exact(cB b ub q).kg (λ_ _ _ z=>z) (λc z=>own2 c _ z) tup2
noncomputable def Io (U:List Str) (x:Str):List Str:=if x∈U then U else U++[x]
noncomputable def gI (l:List Str):List Str:=l.foldl Io []
def Jm (l:List Str):⇑(gI l)<=⇑l/\(⇑(gI l)=⇑l↔l.Nodup):=by
 let key:∀(l U:List Str),U.Nodup->⇑(l.foldl Io U)<=U.length+⇑l/\(⇑(l.foldl Io U)=U.length+⇑l↔(U++l).Nodup):=by
  intro l
  induction l with
  | nil=>intro U h;simp[h]
  | cons x l ih=>
   intro U h;rw[List.foldl_cons,zy]
   by_cases hx:x∈U
   ·rw[show Io U x=U from yO hx]
    have:=ih U h;refine{(),{λe=>(),λe=>?_}};exact absurd hx (λz=>(zV.mp e).2.2 x z x zv rfl)
   ·rw[show Io U x=U++[x] from yN hx]
    let hn:(U++[x]).Nodup:=zV.mpr {h,by simp,λa ha b hb e=>by rw[zC.mp hb] at e;exact hx (e▸ha)};have:=ih (U++[x]) hn;rw[zh,List.length_singleton,zH,List.singleton_append] at this;exact{(),{λe=>this.2.mp (),λe=>by have:=this.2.mpr e;ext}}
 have:=key l [] x8
 simpa[gI] using this
def sub_tuple_set:isSubtype (.type "tuple") (.type "set")=pure false:=by rw[isSubtype_type];kernel_rfl
def sub_tuple_frozenset:isSubtype (.type "tuple") (.type "frozenset")=pure false:=by rw[isSubtype_type];kernel_rfl
section
variable {prog:vz} {w:vA}
def OJ {A:vB} {R:Result->vw->Prop} {I:vD} {fp wr:List vD} {G:Array GenState->Array GenState->Prop} {n:Nat} {P:Nat->vv->Prop} {St:Nat->vw->Prop} (W:WalksS prog w A.in1 I fp wr G n P St) (S:vD) (hSf:S∉fp)
  (zs:List Str) (hn:n=⇑zs) (hval:∀i v,P i v->∃z t,zs[i]?=some z/\v=.str z t) (hb:n+1<scanBound) :
  ∀(k i:Nat) (s:vw),n-i=k->i<=n->St i s->s.heap.SetOf (PySem.strKind prog w) S (λx=>decide (x∈gI (zs.take i))) ⇑(gI (zs.take i))->
   (∀s',Moved (S::wr) G s s'->s'.heap.SetOf (PySem.strKind prog w) S (λx=>decide (x∈gI zs)) ⇑(gI zs)->R (.ok (.ret .none)) s')->
   codeAny (model prog w) A (.builtin "set.update.loop" {[.ref S,.ref I],[]}) R s:=by
 let hSw:S∉wr:=λh=>hSf (W.sub _ h);let hsub:∀b∈wr,b∈S::wr:=λb hb=>zp _ hb;intro k
 induction k with
 | zero=>
  intro i s hk hi hst hS hR;let hin:i=n:=()
  subst hin;rw[hn,zP] at hS;refine xV F.entry_set_update_loop ?_;rw[Around.under_plainId F.plain_set_update_loop _];show wpAny _ A.in1 (pyNext (.ref I) >>= _) _ _ s;refine yv (W.done s _ _ hst λs' hm=>?_);let⟨o,es,ep,t,ho,rest⟩:=hS;exact yx (hR s' (hm.mono hsub) {o,es,ep,t,hm.heap S _ hSw ho,rest})
 | succ k ih=>
  intro i s hk hi hst hS hR;let hlt:i<n:=()
  refine xV F.entry_set_update_loop ?_;rw[Around.under_plainId F.plain_set_update_loop _];show wpAny _ A.in1 (pyNext (.ref I) >>= _) _ _ s;refine yv (W.item i s _ _ hlt hst λv s' hP hst' hm=>?_);let⟨z,t,hz,rfl⟩:=hval i v hP;let⟨o,es,ep,tb,ho,rest⟩:=hS;let hS':s'.heap.SetOf (PySem.strKind prog w) S (λx=>decide (x∈gI (zs.take i))) ⇑(gI (zs.take i)):={o,es,ep,tb,hm.heap S _ hSw ho,rest}
  show wpAny _ A.in1 (holding [Value.str z t] (setAdd S (.str z t)) >>= _) _ _ s';refine yv (xI ?_);unfold setAdd;refine xI ?_;refine yv ((PySem.strKind prog w).pyHash (k:=z) (strKind_is _ _ _ _) ?_);let hl:=(Jm (zs.take i)).1;rw[zT] at hl;refine wpAny_setAddHashed_of (knd:=PySem.strKind prog w) (s:={s' with toks:=s'.toks+1}) (strKind_is _ _ _ _) rfl hS' () λh' hsb hS2=>?_;let et:zs.take (i+1)=zs.take i++[z]:=by rw[List.take_succ,hz];rfl
  let ed:gI (zs.take (i+1))=Io (gI (zs.take i)) z:=by rw[et];unfold gI;rw[z9];rfl
  let hSi:h'.SetOf (PySem.strKind prog w) S (λx=>decide (x∈gI (zs.take (i+1)))) ⇑(gI (zs.take (i+1))):=by
   refine SetOf_congr hS2 (λx=>?_) ?_
   ·rw[ed]
    unfold Io
    by_cases hx:z∈gI (zs.take i)
    ·rw[yO hx]
     by_cases e:x=z
     ·subst e;simp[hx]
     ·simp[e]
    ·rw[yN hx];simp[zI]
   ·rw[ed]
    unfold Io
    by_cases hx:z∈gI (zs.take i) <;> simp[hx]
  refine yx {plainId_quiet F.plain_set_update_loop _,ih (i+1) _ () hlt (W.frame _ s' _ _ hst' (x6 _) λb hb o e=>?_) hSi λs'' hm'' hS''=>?_}
  ·rw[hsb.2 b (λh:b=S=>hSf (by rw[<-h];exact hb))];exact e
  ·refine hR s'' (Moved.trans W.gtrans ((hm.mono hsub).then_heap (x6 _) λb o hb e=>?_) hm'') hS''
   rw[hsb.2 b (λh:b=S=>hb (by rw[h];exact zv))];exact e
variable {A:vB} {E:vv->vw->Prop} {s:vw}
def Kl {l:vD} {items:Array vv} {zs:List Str} {Q:vv->vw->Prop} (hh:A.handled=none) (hl:IsTup s.heap l items) (hi:∀(i:Nat) (v:vv),items[i]?=some v->∃z t,zs[i]?=some z/\v=.str z t) (hn:items.size=⇑zs) (hb:items.size+1<scanBound)
  (h:∀(h':vE) (tk:Nat),h'.SetOf (PySem.strKind prog w) ↑s (λx=>decide (x∈gI zs)) ⇑(gI zs)->(∀b o,b<↑s->s.heap.get? b=some o->h'.get? b=some o)->Q (.ref ↑s) {s with heap:=h',toks:=tk}) :
  wpAny (model prog w) A (call (.type "set") [.ref l]) Q E s:=by
 let⟨c,tl,hmro⟩:=F.called_set.mro;let hmade:=F.called_set.made;let hsub:=F.called_set.sub;refine wpAny_call (codeAny_of_tree ?_);show wpAny _ _ (callAny (.type "set") _) _ _ _;refine yx {Code.quiet_builtin _ (by decide +kernel),xV F.entry_type_call ?_};rw[Around.under_plain (weight_type_call_type "set" [.ref l] []) rfl];let h1:=F.called_set.notType;let h2:=F.called_set.canCreate;let hct:=F.typeCall_set_1 (.ref l)
 repeat (any_goals (first | assumption | wp_step))
 letI fresh:Bool->Obj:=λled=>{cls:=.type "set",dict:=none,data:=.set #[] 0 (.fresh 0 0 led)}
 refine xS (code_set_new_1 (.ref l) (E:=E) (Q₁:=λobj s₁=>∃led:Bool,obj=.ref ↑s/\s₁={s with heap:=s.heap.push (fresh led)}) λled=>{(led),rfl,rfl}) λr s₁ hr=>?_;cases r with
 | error e=>exact hr
 | ok fl=>
  cases fl with
  | next=>exact hr.elim
  | brk=>exact hr.elim
  | cont=>exact hr.elim
  | ret obj=>
   let⟨led,rfl,rfl⟩:=hr;let hS:(s.heap.push (fresh led)).get? ↑s=some (fresh led):=yy _ rfl;let hT:Shared.TypeIs {s with heap:=s.heap.push (fresh led)} (.ref ↑s) "set":={_,hS,rfl}
   let hli:=F.called_set.init.lookup;let hbi:=F.called_set.init.bind (.ref ↑s)
   repeat (any_goals (first | assumption | wp_step))
   refine xS (codeAny_call_builtin (R:=wants (λr s₂=>r=.none/\∃h' tk,s₂={s with heap:=h',toks:=tk}/\h'.SetOf (PySem.strKind prog w) ↑s (λx=>decide (x∈gI zs)) ⇑(gI zs)/\
     (∀b o,b<↑s->s.heap.get? b=some o->h'.get? b=some o)) E) F.called_set.init.plain F.entry_set_init (check_set_init_1 hT ?_)) λr₂ s₂ hr₂=>?_
   ·let⟨⟨ocls,odict,odata,oslots⟩,hol,hcl,nl,hdl⟩:=hl
    simp only at hcl hdl;subst hcl hdl;let hol':(s.heap.push (fresh led)).get? l=some {cls:=.type "tuple",dict:=odict,data:=.seq items nl,slots:=oslots}:=yw _ hol;let hsls:=sub_tuple_set;let hslf:=sub_tuple_frozenset;let hne:(Value.type "tuple"== Value.type "dict")=false:=by decide
    let hl1:(s.heap.push (fresh led)).IsTuple l items:={_,hol',rfl,nl,rfl}
    unfold Builtin.«set.__init__» noKeywords Builtin.Frozenset.updateFrom;generalize hPI:pyIter=PI;wp_walk;subst hPI;refine wpAny_pyIter_tuple hl1 ?_;refine yv (wpAny_runValue ?_);let hlS:l<↑s:=yz hol;let hh3:A.in1.in1.in1.handled=none:=by simp[hh]
    let hz:(s.heap.push (fresh led)).objs.size=↑s+1:=xm ..;let hSf:↑s∉[(s.heap.push (fresh led)).objs.size,l]:=by
     rw[hz];simp only[zF,zG,yV,not_or];exact{yk (xP _),yj hlS}
    refine OJ ((Walks.tuple hh3 _ l (by rw[hz];exact yk (wK hlS)) items).toS) ↑s hSf zs hn hi hb (items.size-0) 0 _ () (yh _)
     {{_,yy _ rfl,rfl,rfl},(hl1.push _)} ?hS0 ?hR
    case hS0=>
     exact SetOf_congr ((setObjOf_fresh (knd:=PySem.strKind prog w) led).setOf (yw _ hS) (by unfold scanBound;ext)) (λ_=>rfl) rfl
    case hR=>
     intro s' hm hS';let⟨h',g',d',tk',os'⟩:=s';let eg:g'=s.gens:=hm.gens;let ed:d'=s.drawn:=hm.drawn;let eo:os'=s.os:=hm.os;subst eg ed eo;refine yx (yx {rfl,h',tk',rfl,hS',λb o hb e=>?_});refine hm.heap b o ?_ (yw _ (yw _ e));simp only[zF,zG,yV,not_or];exact{yk hb,by rw[hz];exact yk (wK hb)}
   ·cases r₂ with
    | error e=>exact hr₂
    | ok fl₂=>
     cases fl₂ with
     | next=>exact hr₂.elim
     | brk=>exact hr₂.elim
     | cont=>exact hr₂.elim
     | ret r=>
      let⟨rfl,h',tk,rfl,hS',hk'⟩:=hr₂
      repeat (any_goals (first | assumption | wp_step))
      exact h _ _ hS' hk'
end
noncomputable def JU (a:vD) (n:Nat):HO:=.ext λh=>∃o es ep t,h.get? a=some o/\o.ExactSet/\o.data=.set es ep t/\t.fits es.size=true/\es.size=n
section
variable {X:Cx}
def NF (hc:X.calm=true):fo X (.type "set") (λxs H Q=>∃(a:vD) (zs:List Str),xs=[.ref a]/\qM X.K H a (zs.map V.str)/\⇑zs<=1000/\∀p,H p=none->Q (.ref p) (upd H p (JU p ⇑(gI zs)))):=by
 intro pins s U H xs us Q I r h;let⟨a,zs,rfl,hq,hz,q⟩:=h;let⟨u,rfl,rx⟩:=vals1 r;cases rx;let⟨its,rv,p,_⟩:=I.tuple hq;let hl:⇑zs=⇑its:=by have:=⇑rv;rw[za] at this;exact this
 refine Kl (zs:=zs) (I.ok.hd hc) p (λi v hv=>?_) (by rw[yc,hl]) (by rw[yc];unfold scanBound;ext) λh' tk hS hk=>?_
 ·let hv':its[i]?=some v:=by simpa using hv
  let hi:i<⇑its:=(zB.mp hv').1;let⟨z,t,e1,e2⟩:=Oz rv hi;have:=(zB.mp hv').2;exact{z,t,e1,by rw[<-this,e2]}
 ·let⟨o,es,ep,t,ho,hex,hd,hel,hmem,hb,hf,hn⟩:=hS
  refine{.ref _,_,I.laid (t':=tk) (a:=↑s) (o:=JU ↑s ⇑(gI zs)) (λb ob e=>hk b ob (yz e) e) (zm _) ?_,rfl,q _ (I.cB.fresh (zm _))};exact{{(o),es,ep,t,ho,hex,hd,hf,hn},{(o),ho},λh1 h2 ⟨o,es,ep,t,e1,r⟩ kk=>{o,es,ep,t,kk o e1,r}}
def NH:fo X (.builtin "len") (λxs H Q=>∃(p:vD) (n:Nat),xs=[.ref p]/\H p=some (JU p n)/\n<=1000/\Q (.int n) H):=by
 intro pins s U H xs us Q I r h;let⟨p,n,rfl,hp,hn,q⟩:=h;let⟨u,rfl,rx⟩:=vals1 r;cases rx;let⟨⟨o,es,ep,t,ho,hex,hd,hf,rfl⟩,_⟩:=(show df X.prog X.w H s.heap p (JU p n) from I.cB p _ hp)
 exact call_len_set ho hex hd hf () {.int _,H,I.tok _,{_,rfl},q}
end
noncomputable def Si:V->Bool
 | .bT=>true
 | .int _=>true
 | .str _=>true
 | _=>false
def Ip (h:Si x=true):mV x=true:=by cases x <;> first | rfl | cases h
def Tq {x y:V} (a:Si x=true) (b:Si y=true):RF x y=decide (x=y):=by
 cases x <;> first | cases a;done | skip
 all_goals (cases y <;> first | rfl | exact Gy.symm | exact Gw.symm | cases b)
def Xk (K:yB) (H:Hp) (a b:vD) (xs ys:List V):Prop:=(gx K H a xs/\gx K H b ys)\/(qM K H a xs/\qM K H b ys)
def Xc (xs ys:List V):Prop:=xs=[]\/ys=[]\/(xs.all Si=true/\ys.all Si=true)
inductive WG (K:yB) (x y:V) (H:Hp) (Q:VK):Prop
 | mk (a b:vD) (xs ys:List V) (_:x=.ref a) (_:y=.ref b) (_:Xk K H a b xs ys) (_:Xc xs ys) (_:Q (.bl (decide (xs=ys))) H)
inductive WD (K:yB) (x y:V) (H:Hp) (Q:VK):Prop
 | mk (a b:vD) (xs ys:List V) (_:x=.ref a) (_:y=.ref b) (_:Xk K H a b xs ys) (_:Xc xs ys) (_:Q (.bl (!decide (xs=ys))) H)
def LK (r:Vals xs its) (h:j<⇑its):∃x,xs[j]?=some x/\RelV x its[j]:=by
 let hl:=⇑r;let⟨u,hu,ru⟩:=r.get (i:=j) (x:=xs[j]'()) (zd ());rw[zd h] at hu;cases hu;exact{_,zd (),ru}
section
variable {X:Cx}
def Gu (r:Vals xs its) (r':Vals ys jts) (p:Xc xs ys):∀j (h1:j<its.toArray.size) (h2:j<jts.toArray.size),SeqAt.EqAt A s its.toArray[j] jts.toArray[j] (decide (xs[j]?=ys[j]?)):=by
 intro j h1 h2;let h1':j<⇑its:=by simpa using h1
 let h2':j<⇑jts:=by simpa using h2
 let⟨x,ex,rx⟩:=LK r h1';let⟨y,ey,ry⟩:=LK r' h2';let l1:=⇑r;let l2:=⇑r';let hp:Si x=true/\Si y=true:=by
  rcases p with e | e | ⟨q1,q2⟩
  ·rw[e] at ex;simp at ex
  ·rw[e] at ey;simp at ey
  ·exact{yq.mp q1 x (zE ex),yq.mp q2 y (zE ey)}
 let g1:its.toArray[j]=its[j]:=by simp
 let g2:jts.toArray[j]=jts[j]:=by simp
 let z:=P6 (A:=A) (s:=s) rx ry (Ip hp.1) (Ip hp.2);rw[Tq hp.1 hp.2] at z;let e:decide (xs[j]?=ys[j]?)=decide (x=y):=by rw[ex,ey,xM];simp
 rw[g1,g2,e];exact z
def all_eq {xs ys:List V} (h:⇑xs=⇑ys):((List.range ⇑xs).all λj=>decide (xs[j]?=ys[j]?))=decide (xs=ys):=by
 rw[xM,yq,xE];constructor
 ·intro hh
  refine List.ext_getElem? λj=>?_;rcases xH j ⇑xs with hj | hj
  ·exact yf (hh j (yS.mpr hj))
  ·rw[wN hj,wN ()]
 ·intro hh j _
  rw[hh];exact zg rfl
def Gh {xs ys:List V} (h:⇑xs≠⇑ys):decide (xs=ys)=false:=ze λe=>h (by rw[e])
def F4 (hu:X.A.units+64<cLine):oy X (compareOp .Eq) (WG X.K):=by
 intro pins s U H x y v u Q I rx ry h;let⟨a,b,xs,ys,rfl,rfl,hs,pl,q⟩:=h;cases rx;cases ry;rcases hs with⟨ha,hb⟩ | ⟨ha,hb⟩
 ·let⟨its,r,p,_⟩:=I.list ha
  let⟨jts,r',p',_⟩:=I.list hb;let l1:=⇑r;let l2:=⇑r'
  by_cases hl:⇑xs=⇑ys
  ·let z:=SeqAt.RcAt.lists (A:=X.A) (s:=s) p.isList p'.isList (by rw[yc,yc];ext) () (Gu r r' pl)
   rw[yc,<-l1,all_eq hl] at z;exact z _ _ _ _ {.bl _,H,I,rfl,q}
  ·let z:=SeqAt.RcAt.lists_lengths (A:=X.A) (s:=s) p.isList p'.isList (by rw[yc,yc];simp;ext) ()
   rw[Gh hl] at q;exact z _ _ _ _ {.bl false,H,I,rfl,q}
 ·let⟨its,r,p,_⟩:=I.tuple ha
  let⟨jts,r',p',_⟩:=I.tuple hb;let l1:=⇑r;let l2:=⇑r';let z:=SeqAt.RcAt.tuples (A:=X.A) (s:=s) p p' () (Gu r r' pl);rw[yc,yc,<-l1,<-l2] at z
  by_cases hl:⇑xs=⇑ys
  ·let em:min ⇑xs ⇑ys=⇑xs:=()
   rw[em,all_eq hl,hl,wg,Bool.and_true] at z;exact z _ _ _ _ {.bl _,H,I,rfl,q}
  ·rw[show(⇑xs == ⇑ys)=false by simpa using hl,wI] at z
   rw[Gh hl] at q;exact z _ _ _ _ {.bl false,H,I,rfl,q}
def KI (hu:X.A.units+64<cLine):oy X (compareOp .NotEq) (WD X.K):=by
 intro pins s U H x y v u Q I rx ry h;let⟨a,b,xs,ys,rfl,rfl,hs,pl,q⟩:=h;cases rx;cases ry;rcases hs with⟨ha,hb⟩ | ⟨ha,hb⟩
 ·let⟨its,r,p,_⟩:=I.list ha
  let⟨jts,r',p',_⟩:=I.list hb;let l1:=⇑r;let l2:=⇑r'
  by_cases hl:⇑xs=⇑ys
  ·let z:=SeqAt.RcNeAt.lists (A:=X.A) (s:=s) p.isList p'.isList (by rw[yc,yc];ext) () (Gu r r' pl)
   rw[yc,<-l1,all_eq hl] at z;exact z _ _ _ _ {.bl _,H,I,rfl,q}
  ·let z:=SeqAt.RcNeAt.lists_lengths (A:=X.A) (s:=s) p.isList p'.isList (by rw[yc,yc];simp;ext) ()
   rw[Gh hl] at q;exact z _ _ _ _ {.bl true,H,I,rfl,q}
 ·let⟨its,r,p,_⟩:=I.tuple ha
  let⟨jts,r',p',_⟩:=I.tuple hb;let l1:=⇑r;let l2:=⇑r';let z:=SeqAt.RcNeAt.tuples (A:=X.A) (s:=s) p p' () (Gu r r' pl);rw[yc,yc,<-l1,<-l2] at z
  by_cases hl:⇑xs=⇑ys
  ·let em:min ⇑xs ⇑ys=⇑xs:=()
   rw[em,all_eq hl,hl,wg,Bool.and_true] at z;exact z _ _ _ _ {.bl _,H,I,rfl,q}
  ·rw[show(⇑xs == ⇑ys)=false by simpa using hl,wI] at z
   rw[Gh hl] at q;exact z _ _ _ _ {.bl true,H,I,rfl,q}
def Se (K:yB):V->Option Int->Option Int->Hp->VK->Prop:=λx lo hi H Q=>∃a xs,x=.ref a/\qM K H a xs/\(HT.fA ⇑xs 0 lo=0/\HT.fA ⇑xs ⇑xs hi=⇑xs)/\Q (.ref a) H
def QS:Qt X (Se X.K):=by
 intro pins s U H x v vl vu lo hi sl Q I rx hs pl pu h;let⟨a,xs,rfl,hx,hw,q⟩:=h;cases rx;let⟨its,r,ht,hz⟩:=I.tuple hx;let hlen:its.toArray.size=⇑xs:=by rw[yc];exact r.length.symm
 refine{"tuple",_,xO.lookup,ht.typeIs,?_};rw[<-hlen] at hw;let⟨os,hos,hcs,hds⟩:=id hs;let hTs:s.TypeIs (.ref sl) "slice":={(os),hos,hcs}
 unfold getItem
 try with_reducible refine xI ?_
 first | refine yv (yx ?_) | skip
 refine yv (wpAny_sequenceKey ht.typeIs ∅ ?_);refine yv (yZ (name:=Str.ofString "__getitem__") ht.typeIs xO
  (xb xO ht.typeIs entry_tuple_getitem ?_ (args_tuple_getitem _ _)))
 show wpAny _ _ (Builtin.Tuple.tupleItemsOf (.ref a) >>= _) _ _ s;refine yv (tupleItemsOf_ ht ?_);refine yv (vg hTs ?_);rw[yO ∅];refine yv (HT.kP hs pl pu ?_);show wpAny _ _ (if(((HT.fA its.toArray.size 0 lo:Nat):Int) == 0&&(1:Int) == 1&&(HT.fA its.toArray.size its.toArray.size hi-HT.fA its.toArray.size 0 lo) == its.toArray.size)=true then _ else _) _ _ s;rw[yO (by rw[hw.1,hw.2];simp)];unfold Builtin.Tuple.tupleIsExact;refine yv ?_
 repeat (any_goals (first | assumption | exact⟨_,rfl,yx ⟨.ref a,H,I,rfl,q⟩⟩ | refine yv (vg ht.typeIs ?_) | wp_step))
def Sf (K:yB):V->Option Int->Option Int->Hp->VK->Prop:=λx lo hi H Q=>U9 K x lo hi H Q\/Se K x lo hi H Q
def QT:Qt X (Sf X.K):=Qt.or Tc QS
def Im (K:yB):V->List V->Hp->VK->Prop:=λx vs H Q=>∃l b xs zs,x=.ref l/\vs=[.ref b]/\H l=some (.lst xs)/\H b=some (.tup zs)/\⇑xs+⇑zs<=sizeLine/\Q .bT (upd H l (.lst (xs++zs)))
def OZ (K:yB):V->List V->Hp->VK->Prop:=λx vs H Q=>LW x vs H Q\/Im K x vs H Q
def KN:SD X "list.extend" (Im X.K):=by
 intro pins s U H x vs v us Q I rx rv h;let⟨l,b,xs,zs,rfl,rfl,hH,hB,hz,q⟩:=h;cases rx;let⟨u,rfl,ru⟩:=rv.one;cases ru;let⟨z,its,n,r,hl,e⟩:=I.Pq hH;let⟨_,its2,r2,⟨oc,od,oda,osl⟩,ho,hoc,n2,hod⟩:=(show df X.prog X.w H s.heap b (.tup zs) from I.cB b _ hB)
 let l1:=⇑r;let l2:=⇑r2;let hsz:its.toArray.size+its2.toArray.size<=sizeLine:=by rw[yc,yc];ext
 let hlong:¬(!its.toArray.isEmpty&&Builtin.List.listTooLong (its.toArray.size+its2.toArray.size))=true:=by
  rw[IG hsz,wI];exact zN
 dsimp only at hoc hod;subst hoc hod;refine xb F.slot_list_extend {_,e,rfl} F.entry_list_extend ?_ (F.args_list_extend_2 _ _);show wpAny _ _ (Builtin.List.listExtendWith (.ref l) (.ref b) .none) _ _ s;unfold Builtin.List.listExtendWith;refine yv (vg (T:="tuple") {_,ho,rfl} ?_);let ht:(Value.type "tuple"== Value.type "tuple")=true:=by rfl
 rw[yO (by rw[ht];simp)];refine yv (listItems_at ho rfl ?_);refine yv (listItems_at e rfl ?_);rw[yN hlong];refine yv (listUpdate_at e rfl ?_ (by rw[yc];ext) (by show(its.toArray++its2.toArray).size<=sizeLine+1;rw[Array.size_append];ext));refine yx {_,rfl,?_};refine{.bT,_,I.TN (its':=its++its2) hH e (by simp) (r.append r2) ?_,rfl,q};rw[zh];ext
def jD:SD X "list.extend" (OZ X.K):=by
 intro pins s U H x vs v us Q I rx rv h;rcases h with h | h
 ·exact M7 pins s U H x vs v us Q I rx rv h
 ·exact KN pins s U H x vs v us Q I rx rv h
def Lk:fo X (.builtin "len") (λxs H Q=>∃p kvs,xs=[.ref p]/\H p=some (.dK kvs)/\Q (.int (⇑kvs:Nat)) H):=by
 intro pins s U H xs us Q I r h;let⟨p,kvs,rfl,hp,q⟩:=h;let⟨u,rfl,rx⟩:=vals1 r;cases rx;exact VD I (.inl hp) λt s' I'=>{.int _,H,I',{_,rfl},q}
end
abbrev WI (K:yB):List V->Hp->VK->Prop:=λxs H Q=>∃p ys,xs=[.ref p]/\(gx K H p ys\/qM K H p ys)/\Q (.int ⇑ys) H
abbrev WJ (K:yB):List V->Hp->VK->Prop:=λxs H Q=>∃(a:vD) (bs:List Bool),xs=[.ref a]/\gx K H a (bs.map V.bl)/\Q (.bl (bs.any id)) H
abbrev Va:List V->Hp->VK->Prop:=λxs H Q=>∃i,xs=[.int i]/\i.natAbs.log2<1920/\Q (.str (toString i)) H
abbrev To (K:yB):List V->Hp->VK->Prop:=λxs H Q=>∃p ys,xs=[.ref p]/\((gx K H p ys/\∀l,H l=none->Q (.ref l) (upd H l (.tup ys)))\/(qM K H p ys/\Q (.ref p) H))
abbrev Vb (K:yB):List V->Hp->VK->Prop:=λxs H Q=>∃p ys,xs=[.ref p]/\(gx K H p ys\/qM K H p ys)/\∀l,H l=none->Q (.ref l) (upd H l (.lst ys))
noncomputable def pV (lo:Int) (n:Nat):List Int:=(List.range n).map λi=>lo+(i:Nat)
def SX (ta:TA):TE:=λU H Q=>ta U H λvs H1=>∃i j:Int,vs=[.int i,.int j]/\(-(2^62)<=i/\i<2^62/\-(2^62)<=j/\j<2^62)/\(j-i).toNat<=1000000/\∀l,H1 l=none->Q (.ref l) (upd H1 l (.lst ((pV i (j-i).toNat).map V.int)))
theorem LJ:∀{xs:List V} {us:List vv},⇑xs=⇑us->(∀(i:Nat) (x:V) (u:vv),xs[i]?=some x->us[i]?=some u->RelV x u)->Vals xs us
 | [],[],_,_=>.nil
 | x::xs,u::us,h,k=>.cons (k 0 x u rfl rfl) (LJ (by simpa using h) λi y v e e'=>k (i+1) y v (by simpa using e) (by simpa using e'))
 | [],_::_,h,_=>by simp at h
 | _::_,[],h,_=>by simp at h
section
variable {X:Cx}
def rJ (hc:X.calm=true) (hg0:Gl X "list") (hm0:X.mg "list"= none) (hg:Gl X "range") (hm:X.mg "range"= none) (ha:PA X [a,b] ta)
  (hs:starEach [a,b] X.env=[(false,eval a X.env),(false,eval b X.env)]<|>qe_) (hs2:starEach [b] X.env=[(false,eval b X.env)]<|>qe_)
  (hs1:starEach [.Call (.Name "range" p2) [a,b] [] pos2] X.env=[(false,eval (.Call (.Name "range" p2) [a,b] [] pos2) X.env)]<|>qe_) :
  PE X (.Call (.Name "list" p1) [.Call (.Name "range" p2) [a,b] [] pos2] [] pos1) (SX ta):=by
 intro pins s U H Q I h;refine xq (lV I hg0 hm0 (by decide +kernel:bootBuiltins "list"= some (.type "list")) ?_ ∅ ∅);refine yM (Q:=_) ?_ hs1 rfl;rw[hs1];refine wD ?_;refine Call_ (lV I hg hm boot_range (yM (dk (ha s U H _ I h) λus s1 z0=>?_) (by rw[hs,hs2]) (by rw[hs2];rfl)));let⟨vs,H1,I1,r1,q1⟩:=z0;let⟨i,j,e,⟨q1,q2,q3,q4⟩,hz,q⟩:=q1;subst e;cases r1 with
 | cons r rr=>
  cases rr with
  | cons r' rr=>
   cases rr;let⟨t,rfl⟩:=r;let⟨t',rfl⟩:=r';refine call_range_2 ?_;refine vq ?_;let I2:Inv X pins U H1 {s1 with heap:=s1.heap.push {cls:=.type "range",data:=.fields #[.int i t,.int j t',.int 1 s1.toks]},toks:=s1.toks+1}:=I1.kept λb o e=>yw _ e;let hn:Builtin.Range.rangeSize i j 1=(((j-i).toNat:Nat):Int):=by rw[rangeSize_one];split <;> ext
   refine call_list_range (I2.ok.hd hc) (IsRange.new ..) (small_one q1 q2 q3 q4) hn (zO hz ∅) λh' tk acc c hk hS hit=>?_;let rv:Vals ((pV i (j-i).toNat).map V.int) acc.toList:=by
    refine LJ ?_ ?_
    ·let e1:⇑acc.toList=(j-i).toNat:=by rw[yQ];exact hit.1
     rw[za,e1];unfold pV;simp
    ·intro k x u hx hu
     rw[xk] at hu;let⟨tk',rfl⟩:=hit.2 k u hu;let hk':k<(j-i).toNat:=by
      have:=(Array.getElem?_eq_some_iff.mp hu).1;rw[hit.1] at this;exact this
     unfold pV at hx;rw[zD,zM,List.getElem?_range hk'] at hx;cases hx;exact{tk',by simp}
   let hl:H1 (s1.heap.push {cls:=.type "range",data:=.fields #[.int i t,.int j t',.int 1 s1.toks]}).objs.size=none:=I2.cB.fresh (zm _);refine{.ref _,_,I2.laid (t':=tk) hk (zm _) (show df X.prog X.w _ h' _ (.lst ((pV i (j-i).toNat).map V.int)) from{?_,acc.toList,c,rv,?_}),rfl,q _ hl}
   ·rw[za]
    let sl:=yC;unfold pV;simp;ext
   ·simpa using hS
end
section
variable {prog:vz} {w:vA} {A:vB} {E:vv->vw->Prop} {s:vw}
end
def aG.UD {t:Bool} {K:yB} {H H':Hp} {a:vD} {xs:List V} (e:aG H H') (h:JT t K H a xs):JT t K H' a xs:=by
 cases t
 ·exact e.seq h
 ·exact e.tup h
section
variable {X:Cx} {pins:List (vD×Obj)} {U:St}
end
end L2
namespace Sc
open PySem L2 Lm
noncomputable def mixed (c k:Int):Int:=(c%2305843009213693951+1)*(k*k+48271)*40692%2147483399
def bR (h0:0<=i) (h1:i<2^n):Sz n i:=by
 unfold Sz;let e:((2^n:Nat):Int)=(2:Int)^n:=by simp
 rw[<-e] at h1;ext
def Ub (h1:48<=c) (h2:c<=57):c∈("0123456789": Str).cps.toList:=by
 have:c=48\/c=49\/c=50\/c=51\/c=52\/c=53\/c=54\/c=55\/c=56\/c=57:=()
 rcases this with rfl | rfl | rfl | rfl | rfl | rfl | rfl | rfl | rfl | rfl <;> decide
noncomputable def iT (x:Int×Int):Str:=if x.2=1 then dec x.1 else dec x.1 ++"/" ++ dec x.2
abbrev Item:=Option (Int×Int)×(Int×Int)
noncomputable def qB:Item->Str
 | (none,x)=> "r:" ++ iT x
 | (some q,x)=>dec q.1 ++":" ++ dec q.2 ++":" ++ iT x
def N2 (x:Int×Int):Prop:=Rd x/\0<x.1/\x.1<10000/\x.2<10000
def Qv (q:Int×Int):Prop:=-100<q.1/\q.1<100/\-100<q.2/\q.2<100/\(q.2-7*q.1)%12=0
def NV (it:Item):Prop:=N2 it.2/\∀q,it.1=some q->Qv q
def gp (h1:c≠45) (h2:¬(48<=c/\c<=57)):c∉(dec n).cps.toList:=by
 intro z
 by_cases h0:0<=n
 ·let⟨m,rfl⟩:=yL h0
  exact h2 (lg z)
 ·obtain⟨m,em⟩:∃m:Nat,-n=(m:Int):={(-n).toNat,()}
  rw[AY (),em,cL] at z;rcases zI.mp z with z | z
  ·let e:("-": Str).cps.toList=[45]:=rfl
   rw[e] at z;exact h1 (zC.mp z)
  ·exact h2 (lg z)
def ES (h:N2 x):58∉(iT x).cps.toList:=by
 unfold iT;split
 ·exact gp ∅ ∅
 ·rw[cL,cL]
  intro z;rcases zI.mp z with z | z
  ·rcases zI.mp z with z | z
   ·exact gp ∅ ∅ z
   ·let e:("/": Str).cps.toList=[47]:=rfl
    rw[e] at z;exact absurd (zC.mp z) ∅
  ·exact gp ∅ ∅ z
def Jo (h0:0<=n) (h:n<10000):⇑(dec n)<=4:=by
 let⟨m,rfl⟩:=yL h0;exact E7 ∅ ()
abbrev fY (x:Int×Int):HO:=.tup [.int x.1,.int x.2]
inductive LA (H:Hp):V->Option (Int×Int)->Prop where
 | bT:LA H .bT none
 | ref {b:vD} {q:Int×Int}:H b=some (fY q)->LA H (.ref b) (some q)
def LA.mono (s:aG H H') (h:LA H v o):LA H' v o:=by
 cases h with
 | bT=>exact .bT
 | ref h=>exact .ref (s _ _ h)
def Xd (H:Hp) (v:V) (it:Item):Prop:=∃p pv a,v=.ref p/\H p=some (.tup [pv,.ref a])/\H a=some (fY it.2)/\LA H pv it.1
noncomputable def Au:List Nat:=("0123456789": Str).cps.toList
noncomputable def rn (most:Int) (cs:List Nat):Option Int:=
 if(⇑cs:Int)<1 then none else if most<⇑cs then none else if cs.all (λc=>decide (c∈Au))=true then(if cs[0]?=some 48/\1<⇑cs then none else some ((NumText.digitsVal cs:Nat):Int)) else none
noncomputable def ov:Option Int->V
 | none=>.bT
 | some n=>.int n
noncomputable def rs (most:Int) (t:Str):Option Int:=if t.cps.toList[0]?=some 45 then(match rn most (t.cps.toList.drop 1) with | some n=>if n=0 then none else some (-n) | none=>none) else rn most t.cps.toList
noncomputable def rp (a b:Str):Option (Int×Int):=match rs 2 a,rs 2 b with
 | some f,some h=>if(h-7*f)%12=0 then some (f,h) else none
 | _,_=>none
noncomputable def QD (t:Str):Option (Int×Int):=match Txt.split t "/" with
 | [a]=>(match rn 4 a.cps.toList with | some n=>some (red n 1) | none=>none)
 | [a,b]=>(match rn 4 a.cps.toList,rn 4 b.cps.toList with | some n,some m=>if m=0 then none else some (red n m) | _,_=>none)
 | _=>none
noncomputable def lr (t:Str):Option (Int×Int):=match QD t with
 | some x=>if x.1=0 then none else some x
 | none=>none
noncomputable def ir (t:Str):Option Item:=match lr ((Txt.split t ":").getLast?.getD "") with
 | none=>none
 | some x=>if(Txt.split t ":").dropLast=[("r": Str)] then some (none,x) else match (Txt.split t ":").dropLast with
  | [a,b]=>(match rp a b with | some q=>some (some q,x) | none=>none)
  | _=>none
def R3 (H:Hp) (v:V):Option Item->Prop
 | none=>v=.bT
 | some it=>Xd H v it
def Jg (h:c∈Au):48<=c/\c<=57:=by
 let e:Au=[48,49,50,51,52,53,54,55,56,57]:=rfl;rw[e] at h;simp at h;ext
def OR (h:rn most cs=some n) (hm:most<=4):0<=n/\n<10000/\(cs.all (λc=>decide (c∈Au))=true):=by
 unfold rn at h;split at h
 ·cases h
 ·split at h
  ·cases h
  ·split at h
   ·rename_i h1 h2 h3
    split at h
    ·cases h
    ·cases h
     refine{Int.natCast_nonneg _,?_,h3};let hl:⇑cs<=4:=()
     let key:∀(l:List Nat) (a:Nat),l.all (λc=>decide (c∈Au))=true->l.foldl (λacc c=>acc*10+(c-48)) a<(a+1)*10^⇑l:=by
      intro l
      induction l with
      | nil=>intro a _;simp
      | cons c l ih=>
       intro a ha;rw[wW,zQ] at ha;let i3:=Jg (yf ha.1);let i1:=ih (a*10+(c-48)) ha.2;let i2:(a*10+(c-48)+1)*10^⇑l<=((a+1)*10)*10^⇑l:=Nat.mul_le_mul_right _ ();rw[List.foldl_cons,zy,Nat.pow_succ,Nat.mul_comm (10^⇑l) 10,<-Nat.mul_assoc];exact yd i1 i2
     let k1:NumText.digitsVal cs<10^⇑cs:=by have:=key cs 0 h3;rw[Nat.zero_add,Nat.one_mul] at this;exact this
     let k2:10^⇑cs<=10^4:=Nat.pow_le_pow_right ∅ hl;ext
   ·cases h
def Ll (h:cs.all (λc=>decide (c∈Au))=true):NumText.AllDigits cs:=λc hc=>by
 have:=(yq.mp h) c hc;exact Jg (yf this)
inductive jP (vs:List V) (H:Hp) (Q:VK) (E:XK):Prop
 | mk (a b:Int) (_:vs=[.int a,.int b]) (_:0<=a) (_:0<=b) (_:Q (.int (Int.gcd a b:Nat)) H)
inductive gc (vs:List V) (H:Hp) (Q:VK) (E:XK):Prop
 | mk (t b:Int) (_:vs=[.int t,.int b]) (_:0<=t) (_:0<b) (_:Sz 8999 b) (_:∀p H',aG H H'->H' p=some (fY (red t b))->Q (.ref p) H')
inductive OH (vs:List V) (H:Hp) (Q:VK) (E:XK):Prop
 | mk (x y:Int×Int) (p q:vD) (n m:Nat) (_:vs=[.ref p,.ref q]) (_:H p=some (fY x)) (_:H q=some (fY y)) (_:Rd x) (_:Rd y) (_:oZ n x) (_:oZ m y) (_:n+m<=8999) (_:∀r H',aG H H'->H' r=some (fY (add x y))->Q (.ref r) H')
inductive Kf (vs:List V) (H:Hp) (Q:VK) (E:XK):Prop
 | mk (x y:Int×Int) (p q:vD) (_:vs=[.ref p,.ref q]) (_:H p=some (fY x)) (_:H q=some (fY y)) (_:oZ 8999 x) (_:oZ 8999 y) (_:Q (.bl (decide (x.1*y.2<y.1*x.2))) H)
inductive Dh (vs:List V) (H:Hp) (Q:VK) (E:XK):Prop
 | mk (c k:Int) (_:vs=[.int c,.int k]) (_:0<=k) (_:k<1000000) (_:Q (.int (mixed c k)) H)
abbrev Be:Sp:=gc
inductive iA (vs:List V) (H:Hp) (Q:VK) (E:XK):Prop
 | mk (t:Str) (most:Int) (_:vs=[.str t,.int most]) (_:⇑t<=600) (_:∀H',aG H H'->Q (ov (rn most t.cps.toList)) H')
inductive mC (vs:List V) (H:Hp) (Q:VK) (E:XK):Prop
 | mk (t:Str) (most:Int) (_:vs=[.str t,.int most]) (_:⇑t<=600) (_:∀H',aG H H'->Q (ov (rs most t)) H')
inductive nG (vs:List V) (H:Hp) (Q:VK) (E:XK):Prop
 | mk (a b:Str) (_:vs=[.str a,.str b]) (_:⇑a<=600) (_:⇑b<=600) (_:∀v H',aG H H'->LA H' v (rp a b)->Q v H')
def mz (C:vD):Sp:=λvs H Q E=>∃(t:Str),vs=[.str t]/\⇑t<=600/\(∀x,QD t=some x->∀p H',aG H H'->H' p=some (fY x)->Q (.ref p) H')/\(QD t=none->∀H',aG H H'->E (.ref C) none H')
def gZ:Sp:=λvs H Q _=>∃(t:Str),vs=[.str t]/\⇑t<=600/\∀v H',aG H H'->LA H' v (lr t)->Q v H'
def o7:Sp:=λvs H Q _=>∃(t:Str),vs=[.str t]/\⇑t<=600/\∀v H',aG H H'->R3 H' v (ir t)->Q v H'
noncomputable def dL (x:Int×Int):Dt:=.tup [.int x.1,.int x.2]
noncomputable def dO (f:α->Dt):Option α->Dt
 | none=>.bT
 | some x=>f x
noncomputable def d5 (it:Item):Dt:=.tup [dO dL it.1,dL it.2]
noncomputable def u7 (l:List Int):Dt:=.tup (l.map .int)
noncomputable def mZ (l:List Str):Dt:=.tup (l.map .str)
abbrev End:=Int×List Int
noncomputable def nh (e:End):Dt:=.tup [.int e.1,u7 e.2]
structure Rep where
 first:Int
 last:Int
 times:Int
 ends:List End
noncomputable def ig (r:Rep):Dt:=.tup [.int r.first,.int r.last,.int r.times,.tup (r.ends.map nh)]
structure N5 where
 aV:Int×Int
 key:Int
 marks:List Str
noncomputable def lh (b:N5):Dt:=.tup [dL b.aV,.int b.key,mZ b.marks]
structure Jump where
 qR:Int
 sN:Int
 cK:Int
 fL:Option Int
noncomputable def j9 (j:Jump):Dt:=.tup [.int j.qR,.int j.sN,.int j.cK,dO .int j.fL]
noncomputable def words (t:Str):List Str:=(Txt.split t " ").filter λw=>decide (w≠ "")
noncomputable def sgn:List Nat:=("abcdefghijklmnopqrstuvwxyz0123456789": Str).cps.toList
noncomputable def cM (t:Str):Option Str:=if(⇑t:Int)<1 then none else if(12:Int)<⇑t then none else if t.cps.toList.all (λc=>decide (c∈sgn))=true then some t else none
noncomputable def os:Option Str->V
 | none=>.bT
 | some x=>.str x
noncomputable def fN (t:Str):Option Int:=rn 3 t.cps.toList
noncomputable def mH (t:Str) (lo hi:Int):Option Int:=match fN t with
 | some n=>if n<lo then none else if hi<n then none else some n
 | none=>none
noncomputable def By (a b:Str):Option (Int×Int):=match rp a b with
 | some q=>if 12<(if q.1<0 then -q.1 else q.1) then none else some q
 | none=>none
noncomputable def Ej:List Int:=[1,2,4,8,16,32]
noncomputable def jq (t:Str):Option (Int×Int):=match Txt.split t "/" with
 | [a,b]=>(match mH a 1 32,fN b with | some m,some n=>if n∈Ej then some (m,n) else none | _,_=>none)
 | _=>none
noncomputable def Ii (t:Str):Option Int:=match rs 3 t with
 | some k=>if 7<(if k<0 then -k else k) then none else some k
 | none=>none
noncomputable def ot:List (Option α)->Option (List α)
 | []=>some []
 | none::_=>none
 | some x::r=>match ot r with
  | some l=>some (x::l)
  | none=>none
noncomputable def Bz (t:Str):Option End:=match Txt.split t ":" with
 | [a,b]=>(match fN a,ot ((Txt.split b ",").map fN) with | some n,some ps=>some (n,ps) | _,_=>none)
 | _=>none
noncomputable def nQ:List Str->Option (Str×(Int×Int)×(Int×Int))
 | [a,b,c,d]=>(match cM a,By b c,QD d with | some n,some t,some l=>some (n,t,l) | _,_,_=>none)
 | _=>none
noncomputable def tK (ws:List Str):Option (Str×List Str):=match ws with
 | a::b::r=>(match ot ((a::b::r).map cM) with | some (n::ps)=>some (n,ps) | _=>none)
 | _=>none
noncomputable def FZ:List Str->Option N5
 | m::k::ms=>(match ot (ms.map cM) with | some l=>(match jq m,Ii k with | some x,some y=>some {(x),y,l} | _,_=>none) | none=>none)
 | _=>none
noncomputable def uQ:List Str->Option (Str×Int×Str)
 | [a,b,c]=>(match cM a,fN b,cM c with | some x,some y,some z=>some (x,y,z) | _,_,_=>none)
 | _=>none
noncomputable def lO:List Str->Option (Int×Str×List Item)
 | b::p::i::r=>(match ot ((i::r).map ir) with | some l=>if l.all (λit=>it.1.isNone)=true then none else(match fN b,cM p with | some x,some y=>some (x,y,l) | _,_=>none) | none=>none)
 | _=>none
noncomputable def lN:List Str->Option Rep
 | a::b::c::r=>(match ot (r.map Bz) with | some l=>(match fN a,fN b,mH c 2 9 with | some x,some y,some z=>some {(x),y,z,l} | _,_,_=>none) | none=>none)
 | _=>none
noncomputable def BG:List Str->Option Jump
 | [a,b,c,d]=>(match fN a,fN b,fN c with | some x,some y,some z=>(match fN d with | some n=>some {x,y,z,some n} | none=>if d ="end" then some {(x),y,z,none} else none) | _,_,_=>none)
 | _=>none
noncomputable def one (f:Str->Option α):List Str->Option α
 | [w]=>f w
 | _=>none
inductive Told where
 | bS (n:Str)
 | cR (n:Str) (t l:Int×Int)
 | cD (n:Str) (ps:List Str)
 | bar (b:N5)
 | aL (l:Int×Int)
 | holds (p:Str) (b:Int) (i:Str)
 | aN (b:Int) (p:Str) (its:List Item)
 | rep (r:Rep)
 | cm (j:Jump)
noncomputable def oG:List Str->Option Told
 | []=>none
 | w::r=>
  if w ="player" then(one cM r).map .bS
  else if w ="instrument" then(nQ r).map λx=>.cR x.1 x.2.1 x.2.2
  else if w ="staff" then(tK r).map λx=>.cD x.1 x.2
  else if w ="bar" then(FZ r).map .bar
  else if w ="upbeat" then(one lr r).map .aL
  else if w ="holds" then(uQ r).map λx=>.holds x.1 x.2.1 x.2.2
  else if w ="notes" then(lO r).map λx=>.aN x.1 x.2.1 x.2.2
  else if w ="repeat" then(lN r).map .rep
  else if w ="jump" then(BG r).map .cm
  else none
noncomputable def fK (r:Rep):List (Int×Int×List Int):=(r.ends.zip ((r.ends.drop 1).map (·.1)++[r.last+1])).map λp=>(p.1.1,p.2-1,p.1.2)
noncomputable def sortI (l:List Int):List Int:=l.mergeSort
noncomputable def gk:List End->Int->List Int->Option (Int×List Int)
 | [],a,ps=>some (a,ps)
 | e::r,a,ps=>if e.1<=a then none else if e.2≠sortI e.2 then none else gk r e.1 (ps++e.2)
noncomputable def MT (lo:Int) (n:Nat):List Int:=(List.range n).map λi=>lo+(i:Nat)
noncomputable def gn (r:Rep):Bool:=match r.ends with
 | []=>true
 | _=>(match gk r.ends (r.first-1) [] with | none=>false | some (a,ps)=>decide (a<=r.last)&&decide (sortI ps=MT 1 (r.times+1-1).toNat))
noncomputable def lJ (rs:List Rep) (r:Rep):Bool:=match rs.getLast? with
 | some q=>if r.first<=q.last then false else decide (r.first<=r.last)&&gn r
 | none=>decide (r.first<=r.last)&&gn r
noncomputable def dU (rs:List Rep) (b:Int):Option Rep:=rs.find? λr=>decide (r.first<=b)&&decide (b<=r.last)
noncomputable def hV (rs:List Rep) (b:Int):Bool:=match dU rs b with
 | none=>true
 | some r=>decide (b=r.last)
noncomputable def eJ (rs:List Rep) (b:Int):Bool:=match dU rs b with
 | none=>true
 | some r=>decide (b=r.first)
noncomputable def lY (rs:List Rep) (b:Int):Bool:=rs.all λr=>(fK r).all λe=>!(decide (e.1<=b)&&decide (b<=e.2.1)&&!decide (r.times∈e.2.2))
noncomputable def hZ (rs:List Rep) (j:Jump):Bool:=
 if j.cK<j.sN then false else if j.qR<j.cK then false else
 match j.fL with
 | some c=>(decide (j.qR<c)&&eJ rs c&&lY rs c)&&(hV rs j.qR&&eJ rs j.sN&&lY rs j.cK)
 | none=>hV rs j.qR&&eJ rs j.sN&&lY rs j.cK
structure cq where
 az:List Str:=[]
 aq:List (Str×(Int×Int)×(Int×Int)):=[]
 aP:List (Str×List Str):=[]
 aO:List N5:=[]
 aL:Option (Int×Int):=none
 holds:List (Str×List (Int×Str)):=[]
 aN:List ((Int×Str)×List Item):=[]
 aJ:List Rep:=[]
 cm:Option Jump:=none
noncomputable def cq.aV (S:cq) (b:Nat):Int×Int:=match S.aO[b]? with
 | some x=>red x.aV.1 x.aV.2
 | none=>(0,1)
noncomputable def cq.len (S:cq) (b:Nat):Int×Int:=match S.aL with
 | some u=>if b=0 then u else S.aV b
 | none=>S.aV b
noncomputable def kf (l:List Item):Int×Int:=l.foldl (λt it=>add t it.2) (0,1)
noncomputable def cq.has (S:cq) (bs:List Int):Bool:=bs.all λb=>decide (b<⇑S.aO)
noncomputable def b9 (S:cq):Told->Option Str
 | .bS n=>if n∈S.az then some "twice" else if 12<=⇑S.az then some "many" else none
 | .cR n _ _=>if n∈S.aq.map (·.1) then some "twice" else if 12<=⇑S.aq then some "many" else none
 | .cD n ps=>if n∈S.aP.map (·.1) then some "twice" else if¬ps.Nodup then some "twice" else if S.aP.any (λq=>ps.any λp=>decide (p∈q.2))=true then some "twice" else if ps.any (λp=>!decide (p∈S.az))=true then some "name" else none
 | .bar _=>if 200<=⇑S.aO then some "many" else none
 | .aL l=>if S.aL.isSome=true then some "twice" else if ⇑S.aO=0 then some "bar" else if¬l.1*(S.aV 0).2<(S.aV 0).1*l.2 then some "length" else if S.aN.any (λp=>decide (p.1.1=0))=true then some "length" else none
 | .holds p b i=>
  let hs:=(S.holds.lookup p).getD []
  if(match hs.getLast? with | some q=>decide (b<=q.1) | none=>false)=true then some "twice" else if p∉S.az then some "name" else if i∉S.aq.map (·.1) then some "name" else if¬S.has [b]=true then some "bar" else if 20<=⇑hs then some "many" else none
 | .aN b p its=>if(b,p)∈S.aN.map (·.1) then some "twice" else if p∉S.az then some "name" else if¬S.has [b]=true then some "bar" else if kf its≠S.len b.toNat then some "length" else if 40<⇑its then some "many" else none
 | .rep r=>if¬S.has ([r.first,r.last]++r.ends.map (·.1))=true then some "bar" else if S.cm.isSome=true then some "form" else if¬lJ S.aJ r=true then some "form" else if 20<=⇑S.aJ then some "many" else none
 | .cm j=>if S.cm.isSome=true then some "twice" else if¬S.has ([j.qR,j.sN,j.cK]++j.fL.toList)=true then some "bar" else if¬hZ S.aJ j=true then some "form" else none
noncomputable def fm (hs:List (Str×List (Int×Str))) (p:Str) (h:Int×Str):List (Str×List (Int×Str)):=
 if p∈hs.map (·.1) then hs.map λq=>if q.1=p then(q.1,q.2++[h]) else q else hs++[(p,[h])]
noncomputable def bU (S:cq):Told->cq
 | .bS n=>{S with az:=S.az++[n]}
 | .cR n t l=>{S with aq:=S.aq++[(n,t,l)]}
 | .cD n ps=>{S with aP:=S.aP++[(n,ps)]}
 | .bar b=>{S with aO:=S.aO++[b]}
 | .aL l=>{S with aL:=some l}
 | .holds p b i=>{S with holds:=fm S.holds p (b,i)}
 | .aN b p its=>{S with aN:=S.aN++[((b,p),its)]}
 | .rep r=>{S with aJ:=S.aJ++[r]}
 | .cm j=>{S with cm:=some j}
theorem dj (h:Is H d v):∀{ds:List Dt} {vs:List V},aD H ds vs->aD H (ds++[d]) (vs++[v])
 | [],_,q=>by unfold aD at q;subst q;show aD H [d] [v];unfold aD;exact{v,[],rfl,h,by unfold aD;rfl}
 | c::ds,_,q=>by
  unfold aD at q;let⟨u,r,rfl,h1,h2⟩:=q;show aD H (c::(ds++[d])) (u::(r++[v]));unfold aD;exact{u,_,rfl,h1,dj h h2}
def IX (h:gx K H p xs) (hi:i<⇑xs):(N3 K p).go i H:={xs,xs[i],h,zd hi}
def KY (h:qM K H p xs) (hi:i<⇑xs):(SF K p).go i H:={xs,xs[i],h,zd hi}
def je (e:aG H H') (h:H a=some (.tup xs)):qM K H' a xs:=bC (e _ _ h)
theorem _root_.L2.aG.back (s:aG H H') (h:H' a=none):H a=none:=by
 cases q:H a with
 | none=>rfl
 | some u=>rw[s _ _ q] at h;cases h
def oo {α:Type} {J:It} {ws:List α} {enc:α->V} {U₀:St} {g:TG} {te:TE} {Q:VK} {H1:Hp} (F:α->Dt) (Pσ:St->Prop) (hn:⇑ws<=sizeLine) (h0:Pσ U₀)
  (go:∀i H,i<⇑ws->aG H1 H->J.go i H) (stop:∀H,aG H1 H->J.stop ⇑ws H) (yl:∀(i:Nat) x H H2 (hi:i<⇑ws),aG H1 H->J.LH i H x H2->H2=H/\x=enc ws[i])
  (turn:∀(a:α) (U:St) (H:Hp) (R:St->V->Hp->Prop),a∈ws->aG H1 H->Pσ U->(∀σ3 y H5,aG H H5->Is H5 (F a) y->Pσ σ3->R σ3 y H5)->g (enc a) U H λσ3 H3=>te σ3 H3 λy H5=>R σ3 y H5)
  (fin:∀D vs H,aG H1 H->H1 D=none->H D=some (.lst vs)->aD H (ws.map F) vs->Q (.ref D) H):dQ U₀ g vJ te Q J H1:=by
 refine{λi m xs U H=>m=⇑ws-i/\i<=⇑ws/\⇑xs=i/\aG H1 H/\aD H ((ws.take i).map F) xs/\Pσ U,{_,rfl,yh _,rfl,aI _,by simp[aD],h0},?_};rintro i m xs U H ⟨rfl,hi,hx,sm,il,pσ⟩;rcases xH i ⇑ws with hlt | hge
 ·refine .inr {go i H hlt sm,(),?_}
  intro x H2 hy;let⟨rfl,rfl⟩:=yl i x H H2 hlt sm hy;refine turn ws[i] U H2 (λσ3 y H5=>if true=true then∃m',m'<⇑ws-i/\(m'=⇑ws-(i+1)/\i+1<=⇑ws/\⇑(xs++[y])=i+1/\aG H1 H5/\aD H5 ((ws.take (i+1)).map F) (xs++[y])/\Pσ σ3) else False) (yn hlt) sm pσ ?_;rintro σ3 y H5 s5 iy p3;rw[yO rfl];refine{_,(),rfl,hlt,by simp[hx],sm.trans s5,?_,p3};rw[xw,zd hlt,zk];exact dj iy (il.mono s5)
 ·let e:i=⇑ws:=()
  subst e;refine .inl {stop H sm,(),λD hD=>?_};let il':aD H (ws.map F) xs:=by rw[zP] at il;exact il
  exact fin D xs _ (sm.trans (bz hD)) (sm.back hD) aF (il'.mono (bz hD))
def CA {α:Type} {J:It} {ws:List α} {enc:α->V} {U₀:St} {g:TG} {te:TE} {Q:VK} {H1:Hp} (F:α->Dt) (Pσ:St->Prop) (hn:⇑ws<=sizeLine) (h0:Pσ U₀)
  (go:∀i H,i<⇑ws->aG H1 H->J.go i H) (stop:∀H,aG H1 H->J.stop ⇑ws H) (yl:∀(i:Nat) x H H2 (hi:i<⇑ws),aG H1 H->J.LH i H x H2->H2=H/\x=enc ws[i])
  (turn:∀(a:α) (U:St) (H:Hp) (R:St->V->Hp->Prop),a∈ws->aG H1 H->Pσ U->(∀σ3 y H5,aG H H5->Is H5 (F a) y->Pσ σ3->R σ3 y H5)->g (enc a) U H λσ3 H3=>te σ3 H3 λy H5=>R σ3 y H5)
  (fin:∀D vs H,aG H1 H->H D=some (.lst vs)->aD H (ws.map F) vs->Q (.ref D) H):dQ U₀ g vJ te Q J H1:=oo F Pσ hn h0 go stop yl turn λD vs H s _=>fin D vs H s
def eC {K:yB} {α:Type} {p:vD} {ws:List α} {enc:α->V} {U₀:St} {g:TG} {te:TE} {Q:VK} {H1:Hp} (F:α->Dt) (Pσ:St->Prop) (hn:⇑ws<=sizeLine) (hp:gx K H1 p (ws.map enc)) (h0:Pσ U₀)
  (turn:∀(a:α) (U:St) (H:Hp) (R:St->V->Hp->Prop),a∈ws->aG H1 H->Pσ U->(∀σ3 y H5,aG H H5->Is H5 (F a) y->Pσ σ3->R σ3 y H5)->g (enc a) U H λσ3 H3=>te σ3 H3 λy H5=>R σ3 y H5)
  (fin:∀D vs H,aG H1 H->H1 D=none->H D=some (.lst vs)->aD H (ws.map F) vs->Q (.ref D) H):dQ U₀ g vJ te Q (N3 K p) H1:=by
 refine oo F Pσ hn h0 (λi H hi sm=>IX (sm.seq hp) (by rw[za];exact hi)) (λH sm=>{_,sm.seq hp,by rw[za];exact zm _}) ?_ turn fin;rintro i x H H2 hi sm ⟨rfl,hy⟩;let hx':=hy _ (sm.seq hp);rw[zM,zd hi] at hx';cases hx';exact{(rfl),rfl}
def fk {K:yB} {α:Type} {p:vD} {ws:List α} {enc:α->V} {U₀:St} {g:TG} {te:TE} {Q:VK} {H1:Hp} (F:α->Dt) (Pσ:St->Prop) (hn:⇑ws<=sizeLine) (hp:gx K H1 p (ws.map enc)) (h0:Pσ U₀)
  (turn:∀(a:α) (U:St) (H:Hp) (R:St->V->Hp->Prop),a∈ws->aG H1 H->Pσ U->(∀σ3 y H5,aG H H5->Is H5 (F a) y->Pσ σ3->R σ3 y H5)->g (enc a) U H λσ3 H3=>te σ3 H3 λy H5=>R σ3 y H5)
  (fin:∀D vs H,aG H1 H->H D=some (.lst vs)->aD H (ws.map F) vs->Q (.ref D) H):dQ U₀ g vJ te Q (N3 K p) H1:=by
 refine CA F Pσ hn h0 (λi H hi sm=>IX (sm.seq hp) (by rw[za];exact hi)) (λH sm=>{_,sm.seq hp,by rw[za];exact zm _}) ?_ turn fin;rintro i x H H2 hi sm ⟨rfl,hy⟩;let hx':=hy _ (sm.seq hp);rw[zM,zd hi] at hx';cases hx';exact{(rfl),rfl}
def gK {K:yB} {α:Type} {p:vD} {ws:List α} {enc:α->V} {U₀:St} {g:TG} {te:TE} {Q:VK} {H1:Hp} (F:α->Dt) (Pσ:St->Prop) (hn:⇑ws<=sizeLine) (hp:H1 p=some (.tup (ws.map enc))) (h0:Pσ U₀)
  (turn:∀(a:α) (U:St) (H:Hp) (R:St->V->Hp->Prop),a∈ws->aG H1 H->Pσ U->(∀σ3 y H5,aG H H5->Is H5 (F a) y->Pσ σ3->R σ3 y H5)->g (enc a) U H λσ3 H3=>te σ3 H3 λy H5=>R σ3 y H5)
  (fin:∀D vs H,aG H1 H->H D=some (.lst vs)->aD H (ws.map F) vs->Q (.ref D) H):dQ U₀ g vJ te Q (SF K p) H1:=by
 refine CA F Pσ hn h0 (λi H hi sm=>KY (je sm hp) (by rw[za];exact hi)) (λH sm=>{_,je sm hp,by rw[za];exact zm _}) ?_ turn fin;rintro i x H H2 hi sm ⟨rfl,hy⟩;let hx':=hy _ (je sm hp);rw[zM,zd hi] at hx';cases hx';exact{(rfl),rfl}
noncomputable def gA (v:V):Bool:=decide (v=.bT)
noncomputable def Dt.gA:Dt->Bool
 | .bT=>true
 | _=>false
def PK:∀{d:Dt} {v:V},Is H d v->gA v=Dt.gA d
 | .bT,_,h=>by unfold Is at h;subst h;rfl
 | .bl _,_,h=>by unfold Is at h;subst h;rfl
 | .int _,_,h=>by unfold Is at h;subst h;rfl
 | .str _,_,h=>by unfold Is at h;subst h;rfl
 | .tup _,_,h=>by unfold Is at h;let⟨a,vs,rfl,_⟩:=h;rfl
theorem j8:∀{ds:List Dt} {vs:List V},aD H ds vs->vs.any gA=ds.any Dt.gA
 | [],_,h=>by unfold aD at h;subst h;rfl
 | d::ds,_,h=>by
  unfold aD at h;let⟨v,r,rfl,h1,h2⟩:=h;rw[xt,xt,PK h1,j8 h2]
theorem kr:∀{bs:List Bool} {vs:List V},aD H (bs.map Dt.bl) vs->vs=bs.map V.bl
 | [],_,h=>by unfold aD at h;exact h
 | b::bs,_,h=>by
  rw[zj] at h;unfold aD at h;let⟨v,r,rfl,h1,h2⟩:=h;unfold Is at h1;rw[h1,kr h2];rfl
theorem dX:∀{bs:List Str} {vs:List V},aD H (bs.map Dt.str) vs->vs=bs.map V.str
 | [],_,h=>by unfold aD at h;exact h
 | b::bs,_,h=>by
  rw[zj] at h;unfold aD at h;let⟨v,r,rfl,h1,h2⟩:=h;unfold Is at h1;rw[h1,dX h2];rfl
theorem eQ:∀{bs:List Int} {vs:List V},aD H (bs.map Dt.int) vs->vs=bs.map V.int
 | [],_,h=>by unfold aD at h;exact h
 | b::bs,_,h=>by
  rw[zj] at h;unfold aD at h;let⟨v,r,rfl,h1,h2⟩:=h;unfold Is at h1;rw[h1,eQ h2];rfl
theorem Fs:∀{bs:List Str},aD H (bs.map Dt.str) (bs.map V.str)
 | []=>by simp[aD]
 | b::bs=>by rw[zj,zj];unfold aD;exact{_,_,rfl,by unfold Is;rfl,Fs}
theorem rZ:∀{bs:List Int},aD H (bs.map Dt.int) (bs.map V.int)
 | []=>by simp[aD]
 | b::bs=>by rw[zj,zj];unfold aD;exact{_,_,rfl,by unfold Is;rfl,rZ}
def LF (d:α->Dt):Prop:=∀a,Dt.gA (d a)=false
theorem jn {α:Type} {d:α->Dt} (f:LF d):∀{l:List (Option α)},(l.map (dO d)).any Dt.gA=true->ot l=none
 | [],h=>by cases h
 | none::_,_=>rfl
 | some x::r,h=>by
  rw[zj,xt] at h;let e:Dt.gA (dO d (some x))=false:=f x;rw[e,Bool.false_or] at h;show(match ot r with | some l=>some (x::l) | none=>none)=none;rw[jn f h]
theorem ji:∀{l:List (Option α)},(l.map (dO d)).any Dt.gA=false->∃xs,ot l=some xs/\l.map (dO d)=xs.map d/\⇑xs=⇑l
 | [],_=>{[],rfl,rfl,rfl}
 | none::_,h=>by cases h
 | some x::r,h=>by
  rw[zj,xt,Bool.or_eq_false_iff] at h;let⟨xs,e1,e2,e3⟩:=ji h.2;refine{x::xs,?_,?_,by simp[e3]}
  ·show(match ot r with | some l=>some (x::l) | none=>none)=_
   rw[e1]
  ·rw[zj,zj,e2];rfl
def Jd:LF Dt.str:=λ_=>rfl
def PY:LF Dt.int:=λ_=>rfl
def Ua:LF dL:=λ_=>rfl
def PZ:LF nh:=λ_=>rfl
def Nl:LF d5:=λ_=>rfl
def B5 (h:LA H v o):Is H (dO dL o) v:=by
 cases h with
 | bT=>unfold dO Is;rfl
 | ref h=>exact iV h
def eO (h:Is H (dO dL o) v):LA H v o:=by
 cases o with
 | none=>unfold dO Is at h;subst h;exact .bT
 | some q=>
  unfold dO dL Is at h;let⟨a,vs,rfl,ha,hl⟩:=h;let e:[Dt.int q.1,Dt.int q.2]=[q.1,q.2].map Dt.int:=rfl;rw[e] at hl;rw[eQ hl] at ha;exact .ref ha
def B6 (o:Option Int):Is H (dO .int o) (ov o):=by cases o <;> (unfold dO Is;rfl)
def EW (o:Option Str):Is H (dO .str o) (os o):=by cases o <;> (unfold dO Is;rfl)
def Vn (h:R3 H v o):Is H (dO d5 o) v:=by
 cases o with
 | none=>unfold dO Is;exact h
 | some it=>
  let⟨p,pv,a,rfl,h1,h2,h3⟩:=h;unfold dO d5;unfold Is;refine{p,_,rfl,h1,?_};unfold aD;refine{_,_,rfl,B5 h3,?_};unfold aD;exact{_,_,rfl,iV h2,by unfold aD;rfl}
def HG:Sp:=λvs H Q _=>∃(t:Str),vs=[.str t]/\⇑t<=1000000/\∀p H',aG H H'->H' p=some (.lst ((words t).map V.str))->Q (.ref p) H'
def lE:Sp:=λvs H Q _=>∃(t:Str),vs=[.str t]/\⇑t<=600/\∀H',aG H H'->Q (os (cM t)) H'
def kh:Sp:=λvs H Q _=>∃(t:Str),vs=[.str t]/\⇑t<=600/\∀H',aG H H'->Q (ov (fN t)) H'
inductive Bd (vs:List V) (H:Hp) (Q:VK) (E:XK):Prop
 | mk (t:Str) (lo hi:Int) (_:vs=[.str t,.int lo,.int hi]) (_:⇑t<=600) (_:∀H',aG H H'->Q (ov (mH t lo hi)) H')
def Fz:Sp:=λvs H Q _=>∃(t:Str),vs=[.str t]/\⇑t<=600/\∀v H',aG H H'->LA H' v (QD t)->Q v H'
inductive Fy (vs:List V) (H:Hp) (Q:VK) (E:XK):Prop
 | mk (a b:Str) (_:vs=[.str a,.str b]) (_:⇑a<=600) (_:⇑b<=600) (_:∀v H',aG H H'->LA H' v (By a b)->Q v H')
def Dc (K:yB):Sp:=λvs H Q _=>∃(t:Str),vs=[.str t]/\⇑t<=600/\∀v H',aG H H'->LA H' v (jq t)->Q v H'
def HK:Sp:=λvs H Q _=>∃(t:Str),vs=[.str t]/\⇑t<=600/\∀H',aG H H'->Q (ov (Ii t)) H'
inductive Dg (K:yB) (vs:List V) (H:Hp) (Q:VK) (E:XK):Prop
 | mk (a:vD) (us:List V) (_:vs=[.ref a]) (_:gx K H a us) (_:⇑us<=1000000) (_:∀H',aG H H'->Q (if us.any gA=true then .bT else .ref a) H')
inductive De (vs:List V) (H:Hp) (Q:VK) (E:XK):Prop
 | mk (a:vD) (us:List V) (_:vs=[.ref a]) (_:H a=some (.tup us)) (_:⇑us<=1000000) (_:∀H',aG H H'->Q (if us.any gA=true then .bT else .ref a) H')
def uK:Sp:=λvs H Q _=>∃(t:Str),vs=[.str t]/\⇑t<=600/\∀v H',aG H H'->Is H' (dO nh (Bz t)) v->Q v H'
inductive f9 (K:yB) (D:Hp->Hp->V->List Str->Prop) (vs:List V) (H:Hp) (Q:VK) (E:XK):Prop
 | mk (p:vD) (ws:List Str) (_:vs=[.ref p]) (_:gx K H p (ws.map V.str)) (_:⇑ws<=1000000) (_:(∀x∈ws,⇑x<=600)) (_:∀v H',aG H H'->D H H' v ws->Q v H')
noncomputable def eP (x:Str×(Int×Int)×(Int×Int)):Dt:=.tup [.str x.1,dL x.2.1,dL x.2.2]
noncomputable def jE (x:Str×List Str):Dt:=.tup [.str x.1,mZ x.2]
noncomputable def u9 (x:Str×Int×Str):Dt:=.tup [.str x.1,.int x.2.1,.str x.2.2]
def Mv (H:Hp) (v:V) (x:Int×Str×List Item):Prop:=∃a q vs,v=.ref a/\H a=some (.tup [.int x.1,.str x.2.1,.ref q])/\H q=some (.lst vs)/\aD H (x.2.2.map d5) vs
def jd (H0 H:Hp) (v:V) (x:Int×Str×List Item):Prop:=∃a q vs,v=.ref a/\H a=some (.tup [.int x.1,.str x.2.1,.ref q])/\H q=some (.lst vs)/\aD H (x.2.2.map d5) vs/\H0 q=none
def jd.at (h:jd H0 H v x):Mv H v x:=by
 let⟨a,q,vs,h1,h2,h3,h4,_⟩:=h;exact{(a),q,vs,h1,h2,h3,h4}
theorem jd.back (s:aG H00 H0) (h:jd H0 H v x):jd H00 H v x:=by
 let⟨a,q,vs,h1,h2,h3,h4,h5⟩:=h;exact{a,q,vs,h1,h2,h3,h4,s.back h5}
def pz (d:α->Dt) (f:List Str->Option α) (_ H:Hp) (v:V) (ws:List Str):Prop:=Is H (dO d (f ws)) v
def VG (H0 H:Hp) (v:V) (ws:List Str):Prop:=match lO ws with
 | none=>v=.bT
 | some x=>jd H0 H v x
def og (h:Is H d v):aD H [d] [v]:=by unfold aD;exact{_,_,rfl,h,by unfold aD;rfl}
def aU (h:Is H d v) (r:aD H ds vs):aD H (d::ds) (v::vs):=by unfold aD;exact{_,_,rfl,h,r}
def du:aD H [] []:=by unfold aD;rfl
def cW (h:H a=some (.tup vs)) (r:aD H ds vs):Is H (.tup ds) (.ref a):=by unfold Is;exact{_,_,rfl,h,r}
def fu:Is H (.str x) (.str x):=by unfold Is;rfl
def cX:Is H (.int x) (.int x):=by unfold Is;rfl
def eB:Is H .bT .bT:=by unfold Is;rfl
def gJ (xs:List V) (k:Nat):kD xs (some (k:Int)) none=xs.drop k:=by
 unfold kD;rw[HT.Ie];let e:HT.fA ⇑xs 0 (some (k:Int))=min k ⇑xs:=by unfold HT.fA;simp;ext
 rw[e];rcases Nat.le_total k ⇑xs with h | h
 ·rw[Nat.min_eq_left h]
  exact xx (by rw[xC];exact zm _)
 ·rw[Nat.min_eq_right h,List.drop_eq_nil_of_le (zm _),List.drop_eq_nil_of_le h,List.take_nil]
def RQ (xs:List V) (k:Nat):kD xs none (some (k:Int))=xs.take k:=by
 unfold kD;rw[HT.Ie,List.drop_zero,Nat.sub_zero];let e:HT.fA ⇑xs ⇑xs (some (k:Int))=min k ⇑xs:=by unfold HT.fA;simp;ext
 rw[e];rcases Nat.le_total k ⇑xs with h | h
 ·rw[Nat.min_eq_left h]
 ·rw[Nat.min_eq_right h,xx (zm _),xx h]
def pZ (a b:Str) (r:List Str):tK (a::b::r)=(match ot ((a::b::r).map cM) with | some (n::ps)=>some (n,ps) | _=>none):=rfl
def gN (H0 H:Hp) (v:V):Option Told->Prop
 | none=>v=.bT
 | some (.bS n)=>v=.str n
 | some (.cR n t l)=>Is H (eP (n,t,l)) v
 | some (.cD n ps)=>Is H (jE (n,ps)) v
 | some (.bar b)=>Is H (lh b) v
 | some (.aL l)=>Is H (dL l) v
 | some (.holds p b i)=>Is H (u9 (p,b,i)) v
 | some (.aN b p its)=>jd H0 H v (b,p,its)
 | some (.rep r)=>Is H (ig r) v
 | some (.cm j)=>Is H (j9 j) v
inductive HJ (K:yB) (vs:List V) (H:Hp) (Q:VK) (E:XK):Prop
 | mk (p:vD) (x:Str) (ws:List Str) (_:vs=[.ref p]) (_:gx K H p ((x::ws).map V.str)) (_:⇑ws<=999999) (_:(∀y∈x::ws,⇑y<=600)) (_:∀v H',aG H H'->gN H H' v (oG (x::ws))->Q v H')
def nu (h:Is H (dO d o) v) (hg:∀x,Is H (d x) v->gN H0 H v (some (g x))):gN H0 H v (o.map g):=by
 cases o with
 | none=>unfold dO Is at h;exact h
 | some x=>exact hg x h
theorem gN.back (s:aG H00 H0):∀{t:Option Told},gN H0 H v t->gN H00 H v t
 | none,h=>h
 | some (.bS _),h=>h
 | some (.cR _ _ _),h=>h
 | some (.cD _ _),h=>h
 | some (.bar _),h=>h
 | some (.aL _),h=>h
 | some (.holds _ _ _),h=>h
 | some (.aN _ _ _),h=>jd.back s h
 | some (.rep _),h=>h
 | some (.cm _),h=>h
def dm {α:Type} {l:List α} {i:Nat} {x:α} (h:l[i]?=some x):l.take (i+1)=l.take i++[x]:=by rw[xw,h];rfl
theorem Mg:∀{l:List α} {i:Nat} {x:α},l[i]?=some x->(l.take i).find? p=none->p x=true->l.find? p=some x
 | [],i,x,h,_,_=>by simp at h
 | y::l,0,x,h,_,hx=>by simp at h;subst h;rw[yT,hx]
 | y::l,i+1,x,h,hn,hx=>by
  rw[w9,yT] at hn;rw[yT];cases q:p y with
  | true=>rw[q] at hn;cases hn
  | false=>rw[q] at hn;exact Mg (by simpa using h) hn hx
def E3 {α:Type} {p:α->Bool} {l:List α} {i:Nat} {x:α} (h:l[i]?=some x) (hn:(l.take i).find? p=none) (hx:p x=false):(l.take (i+1)).find? p=none:=by
 rw[dm h,List.find?_append,hn];simp[hx]
def Et (K:yB) (H:Hp) (p:vD) (rs:List Rep):Prop:=∃vs,gx K H p vs/\aD H (rs.map ig) vs
theorem Et.mono {K:yB} {H H':Hp} (s:aG H H') {p:vD} {rs:List Rep} (h:Et K H p rs):Et K H' p rs:=by
 let⟨vs,h1,h2⟩:=h;exact{vs,s.seq h1,h2.mono s}
def eN (h:Is H (ig r) v):∃a e,v=.ref a/\H a=some (.tup [.int r.first,.int r.last,.int r.times,.ref e])/\Is H (.tup (r.ends.map nh)) (.ref e):=by
 unfold ig Is at h;let⟨a,vs,rfl,ha,hl⟩:=h;unfold aD at hl;let⟨v1,r1,rfl,h1,hl⟩:=hl;unfold aD at hl;let⟨v2,r2,rfl,h2,hl⟩:=hl;unfold aD at hl;let⟨v3,r3,rfl,h3,hl⟩:=hl;unfold aD at hl;let⟨v4,r4,rfl,h4,hl⟩:=hl;unfold aD at hl;subst hl;unfold Is at h1 h2 h3;subst h1 h2 h3;let h4':=h4;unfold Is at h4;let⟨e,us,rfl,he,hle⟩:=h4;exact{(a),e,rfl,ha,h4'}
def uk (h:Is H (nh e) v):∃a q,v=.ref a/\H a=some (.tup [.int e.1,.ref q])/\H q=some (.tup (e.2.map V.int)):=by
 unfold nh Is at h;let⟨a,vs,rfl,ha,hl⟩:=h;unfold aD at hl;let⟨v1,r1,rfl,h1,hl⟩:=hl;unfold aD at hl;let⟨v2,r2,rfl,h2,hl⟩:=hl;unfold aD at hl;subst hl;unfold Is at h1;subst h1;unfold u7 Is at h2;let⟨q,us,rfl,hq,hle⟩:=h2;rw[eQ hle] at hq;exact{(a),q,rfl,ha,hq}
def cV {H:Hp} {α:Type} {d:α->Dt} {xs:List α} {vs:List V} {i:Nat} {v:V} (h:aD H (xs.map d) vs) (e:vs[i]?=some v):∃x,xs[i]?=some x/\Is H (d x) v:=by
 let⟨c,h1,h2⟩:=h.get e;rw[zM] at h1;cases q:xs[i]? with
 | none=>rw[q] at h1;cases h1
 | some x=>rw[q] at h1;cases h1;exact{(x),rfl,h2}
def aS {H:Hp} {α:Type} {d:α->Dt} {xs:List α} {vs:List V} (h:aD H (xs.map d) vs):⇑vs=⇑xs:=by rw[h.len,za]
inductive vK (K:yB) (vs:List V) (H:Hp) (Q:VK) (E:XK):Prop
 | mk (p:vD) (rs:List Rep) (b:Int) (_:vs=[.ref p,.int b]) (_:Et K H p rs) (_:∀v,Is H (dO ig (dU rs b)) v->Q v H)
inductive FA (K:yB) (vs:List V) (H:Hp) (Q:VK) (E:XK):Prop
 | mk (p:vD) (rs:List Rep) (b:Int) (_:vs=[.ref p,.int b]) (_:Et K H p rs) (_:Q (.bl (hV rs b)) H)
inductive FC (K:yB) (vs:List V) (H:Hp) (Q:VK) (E:XK):Prop
 | mk (p:vD) (rs:List Rep) (b:Int) (_:vs=[.ref p,.int b]) (_:Et K H p rs) (_:Q (.bl (eJ rs b)) H)
noncomputable def ND (x:Int×Int×List Int):Dt:=.tup [.int x.1,.int x.2.1,u7 x.2.2]
inductive Kg (vs:List V) (H:Hp) (Q:VK) (E:XK):Prop
 | mk (v:V) (r:Rep) (_:vs=[v]) (_:Is H (ig r) v) (_:⇑r.ends<=1000000) (_:∀p us H',aG H H'->H' p=some (.lst us)->aD H' ((fK r).map ND) us->Q (.ref p) H')
inductive vP (K:yB) (vs:List V) (H:Hp) (Q:VK) (E:XK):Prop
 | mk (p:vD) (rs:List Rep) (b:Int) (_:vs=[.ref p,.int b]) (_:Et K H p rs) (_:(∀r∈rs,⇑r.ends<=1000000)) (_:∀H',aG H H'->Q (.bl (lY rs b)) H')
def Cz {α:Type} {J:It} {ws:List α} {U₀:St} {g:TG} {te:TE} {Q:VK} {H1:Hp} (Y:α->V->Hp->Prop) (F:α->Dt) (Pσ:St->Prop) (hn:⇑ws<=sizeLine) (h0:Pσ U₀)
  (go:∀i H,i<⇑ws->aG H1 H->J.go i H) (stop:∀H,aG H1 H->J.stop ⇑ws H) (yl:∀(i:Nat) x H H2 (hi:i<⇑ws),aG H1 H->J.LH i H x H2->aG H H2/\Y ws[i] x H2)
  (turn:∀(a:α) (x:V) (U:St) (H:Hp) (R:St->V->Hp->Prop),a∈ws->aG H1 H->Y a x H->Pσ U->(∀σ3 y H5,aG H H5->Is H5 (F a) y->Pσ σ3->R σ3 y H5)->g x U H λσ3 H3=>te σ3 H3 λy H5=>R σ3 y H5)
  (fin:∀D vs H,aG H1 H->H D=some (.lst vs)->aD H (ws.map F) vs->Q (.ref D) H):dQ U₀ g vJ te Q J H1:=by
 refine{λi m xs U H=>m=⇑ws-i/\i<=⇑ws/\⇑xs=i/\aG H1 H/\aD H ((ws.take i).map F) xs/\Pσ U,{_,rfl,yh _,rfl,aI _,by simp[aD],h0},?_};rintro i m xs U H ⟨rfl,hi,hx,sm,il,pσ⟩;rcases xH i ⇑ws with hlt | hge
 ·refine .inr {go i H hlt sm,(),?_}
  intro x H2 hy;let⟨s2,hY⟩:=yl i x H H2 hlt sm hy;refine turn ws[i] x U H2 (λσ3 y H5=>if true=true then∃m',m'<⇑ws-i/\(m'=⇑ws-(i+1)/\i+1<=⇑ws/\⇑(xs++[y])=i+1/\aG H1 H5/\aD H5 ((ws.take (i+1)).map F) (xs++[y])/\Pσ σ3) else False) (yn hlt) (sm.trans s2) hY pσ ?_;rintro σ3 y H5 s5 iy p3;rw[yO rfl];refine{_,(),rfl,hlt,by simp[hx],(sm.trans s2).trans s5,?_,p3};rw[xw,zd hlt,zk];exact dj iy (il.mono (s2.trans s5))
 ·let e:i=⇑ws:=()
  subst e;refine .inl {stop H sm,(),λD hD=>?_};let il':aD H (ws.map F) xs:=by rw[zP] at il;exact il
  exact fin D xs _ (sm.trans (bz hD)) aF (il'.mono (bz hD))
structure Ow where
 dx:vD
 pl:vD
 ins:vD
 st:vD
 ba:vD
 ho:vD
 no:vD
 re:vD
 hs:List vD
 ns:List vD
noncomputable def Ow.lists (o:Ow):List vD:=[o.pl,o.ba,o.re]++o.hs++o.ns
noncomputable def QY (o:Ow) (ub jm:V):List (Str×V):=[("players",.ref o.pl),("instruments",.ref o.ins),("staffs",.ref o.st),("bars",.ref o.ba),("upbeat",ub),("holds",.ref o.ho),("notes",.ref o.no),("repeats",.ref o.re),("jump",jm)]
noncomputable def kS (x:Str):Key:=Sum.inr x
noncomputable def kN (x:Int×Str):List Key:=[Sum.inl x.1,Sum.inr x.2]
noncomputable def JC (x:Str×(Int×Int)×(Int×Int)):Dt:=.tup [dL x.2.1,dL x.2.2]
noncomputable def RP (x:Str×List Str):Dt:=mZ x.2
noncomputable def Le (x:Int×Str):Dt:=.tup [.int x.1,.str x.2]
def ck (H:Hp) (d:α->Dt):List (List α)->List vD->Prop
 | [],as=>as=[]
 | l::r,as=>∃a t vs,as=a::t/\H a=some (.lst vs)/\aD H (l.map d) vs/\ck H d r t
inductive Xl (C:vD) (H:Hp) (a:vD) (o:Ow) (u:Option (Int×Int)) (j:Option Jump):Prop
 | mk (ub jm:V) (_:H a=some (.ins C o.dx (QY o ub jm))) (_:Is H (dO dL u) ub) (_:Is H (dO j9 j) jm)
inductive Qw {α:Type} (H:Hp) (d:α->Dt) (a:vD) (l:List α):Prop
 | mk (vs:List V) (_:H a=some (.lst vs)) (_:aD H (l.map d) vs)
inductive R4 {α:Type} (H:Hp) (d:Str×α->Dt) (a:vD) (l:List (Str×α)):Prop
 | mk (vs:List V) (_:H a=some (.dK ((l.map λx=>kS x.1).zip vs))) (_:aD H (l.map d) vs)
structure bY (C:vD) (H:Hp) (a:vD) (S:cq) (o:Ow):Prop where
 obj:Xl C H a o S.aL S.cm
 pl:H o.pl=some (.lst (S.az.map V.str))
 ins:R4 H JC o.ins S.aq
 st:R4 H RP o.st S.aP
 ba:Qw H lh o.ba S.aO
 ho:H o.ho=some (.dK ((S.holds.map λx=>kS x.1).zip (o.hs.map V.ref)))/\ck H Le (S.holds.map (·.2)) o.hs
 no:H o.no=some (.dT ((S.aN.map λx=>kN x.1).zip (o.ns.map V.ref)))/\ck H d5 (S.aN.map (·.2)) o.ns
 re:Qw H ig o.re S.aJ
 nd:o.lists.Nodup
 dd:[o.ins,o.st,o.ho].Nodup
theorem ck.mono (s:aG H H'):∀{ls:List (List α)} {as:List vD},ck H d ls as->ck H' d ls as
 | [],_,h=>h
 | l::r,_,⟨a,t,vs,e,h1,h2,h3⟩=>{a,t,vs,e,s _ _ h1,h2.mono s,ck.mono s h3}
theorem bY.mono (s:aG H H') (h:bY C H a S o):bY C H' a S o where
 obj:=by let⟨ub,jm,h1,h2,h3⟩:=h.obj;exact{ub,jm,s _ _ h1,h2.mono s,h3.mono s}
 pl:=s _ _ h.pl
 ins:=by let⟨vs,h1,h2⟩:=h.ins;exact{vs,s _ _ h1,h2.mono s}
 st:=by let⟨vs,h1,h2⟩:=h.st;exact{vs,s _ _ h1,h2.mono s}
 ba:=by let⟨vs,h1,h2⟩:=h.ba;exact{vs,s _ _ h1,h2.mono s}
 ho:={s _ _ h.ho.1,h.ho.2.mono s}
 no:={s _ _ h.no.1,h.no.2.mono s}
 re:=by let⟨vs,h1,h2⟩:=h.re;exact{vs,s _ _ h1,h2.mono s}
 nd:=h.nd
 dd:=h.dd
def cN (o:Option HO):Prop:=∀vs,o≠some (.tup vs)
mutual
theorem Is.upd (hx:cN (H x)):∀{d:Dt} {v:V},Is H d v->Is (upd H x o) d v
 | .bT,_,h=>by unfold Is at h ⊢;exact h
 | .bl _,_,h=>by unfold Is at h ⊢;exact h
 | .int _,_,h=>by unfold Is at h ⊢;exact h
 | .str _,_,h=>by unfold Is at h ⊢;exact h
 | .tup l,_,h=>by
  unfold Is at h ⊢;let⟨a,vs,e,ha,hl⟩:=h;let ne:a≠x:=λz=>hx vs (by rw[<-z];exact ha);exact{a,vs,e,by rw[aE ne];exact ha,aD.upd hx hl}
theorem aD.upd (hx:cN (H x)):∀{l:List Dt} {vs:List V},aD H l vs->aD (L2.upd H x o) l vs
 | [],_,h=>by unfold aD at h ⊢;exact h
 | d::l,_,h=>by
  unfold aD at h ⊢;let⟨v,r,e,hv,hr⟩:=h;exact{v,r,e,Is.upd hx hv,aD.upd hx hr}
end
theorem ck.upd (hx:cN (H x)):∀{ls:List (List α)} {as:List vD},x∉as->ck H d ls as->ck (L2.upd H x o) d ls as
 | [],_,_,h=>h
 | l::r,_,nx,⟨a,t,vs,e,h1,h2,h3⟩=>by
  subst e;let ne:a≠x:=λz=>nx (by rw[z];exact zv);exact{a,t,vs,rfl,by rw[aE ne];exact h1,aD.upd hx h2,ck.upd hx (λz=>nx (zp _ z)) h3}
structure Cf (K:yB) (C:vD):Prop where
 cls:SH K C
 az:e9 K C "players"
 aq:e9 K C "instruments"
 aP:e9 K C "staffs"
 aO:e9 K C "bars"
 aL:e9 K C "upbeat"
 holds:e9 K C "holds"
 aN:e9 K C "notes"
 aJ:e9 K C "repeats"
 cm:e9 K C "jump"
def RK (n:Nat):NumText.digitsVal (dec (n:Int)).cps.toList=n:=by rw[AZ];exact PySem.W.KIN.val_back n
def Tg {most:Int} {n k:Nat} (hk:0<k) (hm:(k:Int)<=most) (h:n<10^k):rn most (dec (n:Int)).cps.toList=some (n:Int):=by
 let l1:=Jn (n:=n);let l2:=E7 hk h;let el:⇑(dec (n:Int)).cps.toList=⇑(dec (n:Int)):=yQ;let ha:((dec (n:Int)).cps.toList.all λc=>decide (c∈Au))=true:=yq.mpr λc hc=>zg (Ub (lg hc).1 (lg hc).2);unfold rn;rw[yN (),yN (),yO ha,yN,RK];rintro⟨z1,z2⟩;have:=Nw (n:=n) (by rw[<-xk];exact z1);ext
def oC {most n:Int} {k:Nat} (hk:0<k) (hm:(k:Int)<=most) (h0:0<=n) (h:n<10^k):rn most (dec n).cps.toList=some n:=by
 let⟨m,rfl⟩:=yL h0;exact Tg hk hm (by exact_mod_cast h)
def fI {n:Int} (h0:0<=n) (h:n<1000):fN (dec n)=some n:=oC (k:=3) ∅ ∅ h0 ()
def EH (h0:0<=n) (h:n<1000) (h1:lo<=n) (h2:n<=hi):mH (dec n) lo hi=some n:=by
 unfold mH;rw[fI h0 h];dsimp only;rw[yN (),yN ()]
def Ku {most n:Int} {k:Nat} (hk:0<k) (hm:(k:Int)<=most) (h1:-(10^k)<n) (h2:n<10^k):rs most (dec n)=some n:=by
 unfold rs
 by_cases h0:0<=n
 ·rw[yN,oC hk hm h0 h2]
  intro z;let⟨m,rfl⟩:=yL h0;have:=lg (zE z);ext
 ·let e:(dec n).cps.toList=45::(dec (-n)).cps.toList:=by rw[AY (),cL];rfl
  rw[e,yO (show(45::(dec (-n)).cps.toList)[0]?=some 45 from rfl)];show(match rn most (dec (-n)).cps.toList with | some n=>if n=0 then none else some (-n) | none=>none)=_;rw[oC hk hm () ()];dsimp only;rw[yN (),Int.neg_neg]
def OP {q:Int×Int} (h:Qv q):rp (dec q.1) (dec q.2)=some q:=by
 let⟨h1,h2,h3,h4,h5⟩:=h;unfold rp;rw[Ku (k:=2) ∅ ∅ () (),Ku (k:=2) ∅ ∅ () ()];dsimp only;rw[yO h5]
def Jp (n:Int):47∉(dec n).cps.toList:=gp ∅ ∅
def Mj (n:Int):58∉(dec n).cps.toList:=gp ∅ ∅
def IM {x:Int×Int} (h:Rd x) (h1:x.1<10000) (h2:x.2<10000):QD (iT x)=some x:=by
 let⟨p1,p2,p3⟩:=h.pos;unfold iT QD
 by_cases c:x.2=1
 ·rw[yO c,show Txt.split (dec x.1) "/"= [dec x.1] from split1 (c:=47) (Jp _)]
  dsimp only;rw[oC (k:=4) ∅ ∅ p1 ()];dsimp only;rw[<-c,p3]
 ·rw[yN c,show Txt.split (dec x.1 ++"/" ++ dec x.2) "/"= [dec x.1,dec x.2] from Fw (c:=47) (Jp _) (Jp _)]
  dsimp only;rw[oC (k:=4) ∅ ∅ p1 (),oC (k:=4) ∅ ∅ () ()];dsimp only;rw[yN (),p3]
def Gk (h:N2 x):lr (iT x)=some x:=by
 let⟨h1,h2,h3,h4⟩:=h;unfold lr;rw[IM h1 h3 h4];dsimp only;rw[yN ()]
def Ry (h:NV it):ir (qB it)=some it:=by
 let⟨o,x⟩:=it;let⟨h1,h2⟩:=h;cases o with
 | none=>
  let e:Txt.split (qB (none,x)) ":"= [("r": Str),iT x]:=Fw (c:=58) (a:="r") ∅ (ES h1);unfold ir;rw[e];show(match lr (iT x) with | none=>none | some x=>_)=_;rw[Gk h1];exact yO rfl
 | some q=>
  let e:Txt.split (qB (some q,x)) ":"= [dec q.1,dec q.2,iT x]:=S9 (c:=58) (Mj _) (Mj _) (ES h1);unfold ir;rw[e];show(match lr (iT x) with | none=>none | some x=>_)=_;rw[Gk h1];dsimp only;rw[yN (by simp)];show(match rp (dec q.1) (dec q.2) with | some q=>some (some q,x) | none=>none)=_;rw[OP (h2 q rfl)]
def Kw (h1:1<=a) (h2:a<=32) (h3:b∈Ej):jq (dec a ++"/" ++ dec b)=some (a,b):=by
 let hb:0<=b/\b<1000:=by
  unfold Ej at h3;simp at h3;ext
 unfold jq;rw[show Txt.split (dec a ++"/" ++ dec b) "/"= [dec a,dec b] from Fw (c:=47) (Jp _) (Jp _)];dsimp only;rw[EH () () h1 h2,fI hb.1 hb.2];dsimp only;rw[yO h3]
def OS {k:Int} (h1:-7<=k) (h2:k<=7):Ii (dec k)=some k:=by
 unfold Ii;rw[Ku (k:=3) ∅ ∅ () ()];dsimp only;rw[yN (by split <;> ext)]
def MR (h:Qv q) (h1:-12<=q.1) (h2:q.1<=12):By (dec q.1) (dec q.2)=some q:=by
 unfold By;rw[OP h];dsimp only;rw[yN (by split <;> ext)]
theorem oq:∀{l:List α},(∀x∈l,f (g x)=some x)->ot ((l.map g).map f)=some l
 | [],_=>rfl
 | x::l,h=>by
  rw[zj,zj,h x zv];unfold ot;rw[oq λy hy=>h y (zp _ hy)]
noncomputable def oY (e:End):Str:=dec e.1 ++":" ++ Str.join "," (e.2.map dec)
def Xf (e:End):Prop:=0<=e.1/\e.1<1000/\e.2≠[]/\∀p∈e.2,0<=p/\p<1000
theorem oP (hs:c∉sep.cps.toList):∀{zs:List Str},(∀z∈zs,c∉z.cps.toList)->c∉(Str.join sep zs).cps.toList
 | [],_=>by show c∉("": Str).cps.toList;exact zG
 | [z],h=>h z zv
 | z::y::r,h=>by
  rw[fi,cL,cL];intro m;rcases zI.mp m with m | m
  ·rcases zI.mp m with m | m
   ·exact h z zv m
   ·exact hs m
  ·exact oP hs (λx hx=>h x (zp _ hx)) m
def OU (h:Xf e):Bz (oY e)=some e:=by
 let⟨h1,h2,h3,h4⟩:=h;let f:58∉(Str.join "," (e.2.map dec)).cps.toList:=oP ∅ λz hz=>by
  let⟨y,_,rfl⟩:=zJ.mp hz;exact Mj _
 unfold Bz oY;rw[show Txt.split (dec e.1 ++":" ++ Str.join "," (e.2.map dec)) ":"= [dec e.1,Str.join "," (e.2.map dec)] from Fw (c:=58) (Mj _) f];dsimp only;rw[show Txt.split (Str.join "," (e.2.map dec)) ","= e.2.map dec from gC (c:=44) (by simpa using h3) λz hz=>by
  let⟨y,_,rfl⟩:=zJ.mp hz;exact gp ∅ ∅]
 rw[fI h1 h2,oq λx hx=>fI (h4 x hx).1 (h4 x hx).2]
def NS (w:Str):Prop:=w≠ ""/\32∉w.cps.toList/\10∉w.cps.toList
def J2 (ne:ws≠[]) (h:∀w∈ws,NS w):words (Str.join " " ws)=ws:=by
 unfold words;rw[show Txt.split (Str.join " " ws) " "= ws from gC (c:=32) ne λw hw=>(h w hw).2.1];exact List.filter_eq_self.mpr λw hw=>zg (h w hw).1
def fT (n:Int):NS (dec n):=by
 refine{λz=>?_,gp ∅ ∅,gp ∅ ∅}
 by_cases h:0<=n
 ·let⟨m,rfl⟩:=yL h
  have:=Jn (n:=m);rw[z] at this;exact absurd this ∅
 ·let e:(dec n).cps.toList=45::(dec (-n)).cps.toList:=by rw[AY (),cL];rfl
  rw[z] at e;cases e
def JH (ha:NS a) (hb1:32∉b.cps.toList) (hb2:10∉b.cps.toList):NS (a++b):=by
 refine{λz=>ha.1 (lD ?_),λm=>?_,λm=>?_}
 ·let e:(a++b).cps.toList=("": Str).cps.toList:=by rw[z]
  rw[cL] at e;exact(List.append_eq_nil_iff.mp e).1
 ·rw[cL] at m
  rcases zI.mp m with m | m
  ·exact ha.2.1 m
  ·exact hb1 m
 ·rw[cL] at m
  rcases zI.mp m with m | m
  ·exact ha.2.2 m
  ·exact hb2 m
def GY (ha:NS a) (hb1:32∉b.cps.toList) (hb2:10∉b.cps.toList) (hc:NS c):NS (a++b++c):=JH (JH ha hb1 hb2) hc.2.1 hc.2.2
def BZ (x:Int×Int):NS (iT x):=by
 unfold iT;split
 ·exact fT _
 ·exact GY (fT _) ∅ ∅ (fT _)
def T6 (it:Item):NS (qB it):=by
 let⟨o,x⟩:=it;cases o with
 | none=>exact JH (a:="r:") {∅,∅,∅} (BZ x).2.1 (BZ x).2.2
 | some q=>exact GY (GY (fT _) ∅ ∅ (fT _)) ∅ ∅ (BZ x)
def Uj (e:End):NS (oY e):=by
 let f:∀c,c≠44->c≠45->¬(48<=c/\c<=57)->c∉(Str.join "," (e.2.map dec)).cps.toList:=λc h0 h1 h2=>oP (by show c∉[44];simpa using h0) λz hz=>by
  let⟨y,_,rfl⟩:=zJ.mp hz;exact gp h1 h2
 unfold oY;exact JH (JH (fT _) ∅ ∅) (f 32 ∅ ∅ ∅) (f 10 ∅ ∅ ∅)
def gy (n:Str):Prop:=cM n=some n
def gy.w (h:gy n):NS n:=by
 unfold gy cM at h;split at h
 ·cases h
 ·split at h
  ·cases h
  ·split at h
   ·rename_i h1 _ h3
    let hs:∀c,c∉sgn->c∉n.cps.toList:=λc hc m=>hc (yf (yq.mp h3 c m));refine{λz=>h1 (by rw[z];decide),hs 32 ∅,hs 10 ∅}
   ·cases h
noncomputable def ctxt:Option Int->Str
 | none=> "end"
 | some n=>dec n
noncomputable def aR:Told->List Str
 | .bS n=>["player",n]
 | .cR n t l=>["instrument",n,dec t.1,dec t.2,iT l]
 | .cD n ps=> "staff":: n::ps
 | .bar b=> "bar":: (dec b.aV.1 ++"/" ++ dec b.aV.2)::dec b.key::b.marks
 | .aL l=>["upbeat",iT l]
 | .holds p b i=>["holds",p,dec b,i]
 | .aN b p its=> "notes":: dec b::p::its.map qB
 | .rep r=> "repeat":: dec r.first::dec r.last::dec r.times::r.ends.map oY
 | .cm j=>["jump",dec j.qR,dec j.sN,dec j.cK,ctxt j.fL]
noncomputable def cE (t:Told):Str:=Str.join " " (aR t)
def NB (n:Int):Prop:=0<=n/\n<1000
def Sx:Told->Prop
 | .bS n=>gy n
 | .cR n t l=>gy n/\Qv t/\-12<=t.1/\t.1<=12/\Lm.Rd l/\l.1<10000/\l.2<10000
 | .cD n ps=>gy n/\ps≠[]/\∀p∈ps,gy p
 | .bar b=>1<=b.aV.1/\b.aV.1<=32/\b.aV.2∈Ej/\-7<=b.key/\b.key<=7/\∀m∈b.marks,gy m
 | .aL l=>N2 l
 | .holds p b i=>gy p/\NB b/\gy i
 | .aN b p its=>NB b/\gy p/\(∀it∈its,NV it)/\its.all (λit=>it.1.isNone)=false
 | .rep r=>NB r.first/\NB r.last/\2<=r.times/\r.times<=9/\∀e∈r.ends,Xf e
 | .cm j=>NB j.qR/\NB j.sN/\NB j.cK/\∀c,j.fL=some c->NB c
def Mt (h:∀p∈l,gy p):ot (l.map cM)=some l:=by
 have:=oq (f:=cM) (g:=λx:Str=>x) (l:=l) h
 rwa [List.map_id'] at this
def Ky (h:Sx t):oG (aR t)=some t:=by
 cases t with
 | bS n=>
  show(cM n).map Told.bS=_;rw[show cM n=some n from h];rfl
 | cR n t l=>
  let⟨h1,h2,h3,h4,h5,h6,h7⟩:=h;show(nQ [n,dec t.1,dec t.2,iT l]).map (λx=>Told.cR x.1 x.2.1 x.2.2)=_;unfold nQ;dsimp only;rw[show cM n=some n from h1,MR h2 h3 h4,IM h5 h6 h7];rfl
 | cD n ps=>
  let⟨h1,h2,h3⟩:=h;show(tK (n::ps)).map (λx=>Told.cD x.1 x.2)=_;let⟨b,r,rfl⟩:=List.exists_cons_of_ne_nil h2;rw[pZ,Mt (l:=n::b::r) λp hp=>by
   rcases zF.mp hp with e | e
   ·rw[e];exact h1
   ·exact h3 p e]
  rfl
 | bar b=>
  let⟨h1,h2,h3,h4,h5,h6⟩:=h;show(FZ ((dec b.aV.1 ++"/" ++ dec b.aV.2)::dec b.key::b.marks)).map Told.bar=_;unfold FZ;dsimp only;rw[Mt h6,Kw h1 h2 h3,OS h4 h5];rfl
 | aL l=>
  show(lr (iT l)).map Told.aL=_;rw[Gk h];rfl
 | holds p b i=>
  let⟨h1,h2,h3⟩:=h;show(uQ [p,dec b,i]).map (λx=>Told.holds x.1 x.2.1 x.2.2)=_;unfold uQ;dsimp only;rw[show cM p=some p from h1,fI h2.1 h2.2,show cM i=some i from h3];rfl
 | aN b p its=>
  let⟨h1,h2,h3,h4⟩:=h;show(lO (dec b::p::its.map qB)).map (λx=>Told.aN x.1 x.2.1 x.2.2)=_;cases its with
  | nil=>cases h4
  | cons i r=>
   show(lO (dec b::p::qB i::r.map qB)).map _=_;unfold lO;let e:=oq (f:=ir) (g:=qB) (l:=i::r) λx hx=>Ry (h3 x hx);rw[zj] at e;dsimp only;rw[e];dsimp only;rw[h4,fI h1.1 h1.2,show cM p=some p from h2];rfl
 | rep r=>
  let⟨h1,h2,h3,h4,h5⟩:=h;show(lN (dec r.first::dec r.last::dec r.times::r.ends.map oY)).map Told.rep=_;unfold lN;dsimp only;rw[oq λx hx=>OU (h5 x hx),fI h1.1 h1.2,fI h2.1 h2.2,EH () () h3 h4];rfl
 | cm j=>
  let⟨h1,h2,h3,h4⟩:=h;show(BG [dec j.qR,dec j.sN,dec j.cK,ctxt j.fL]).map Told.cm=_;unfold BG;dsimp only;rw[fI h1.1 h1.2,fI h2.1 h2.2,fI h3.1 h3.2];let⟨a,b,c,d⟩:=j;cases d with
  | none=>rfl
  | some n=>
   dsimp only[ctxt];rw[fI (h4 n rfl).1 (h4 n rfl).2];rfl
def LI (h:Sx t):∀w∈aR t,NS w:=by
 let lit:∀s:Str,s≠ ""->32∉s.cps.toList->10∉s.cps.toList->NS s:=λs a b c=>{(a),b,c}
 cases t with
 | bS n=>
  intro w hw;simp only[aR,zF,zG,yV] at hw;rcases hw with rfl | rfl
  ·exact lit _ ∅ ∅ ∅
  ·exact gy.w h
 | cR n t l=>
  intro w hw;simp only[aR,zF,zG,yV] at hw;rcases hw with rfl | rfl | rfl | rfl | rfl
  ·exact lit _ ∅ ∅ ∅
  ·exact gy.w h.1
  ·exact fT _
  ·exact fT _
  ·exact BZ _
 | cD n ps=>
  intro w hw;simp only[aR,zF] at hw;rcases hw with rfl | rfl | hw
  ·exact lit _ ∅ ∅ ∅
  ·exact gy.w h.1
  ·exact gy.w (h.2.2 _ hw)
 | bar b=>
  intro w hw;simp only[aR,zF] at hw;rcases hw with rfl | rfl | rfl | hw
  ·exact lit _ ∅ ∅ ∅
  ·exact GY (fT _) ∅ ∅ (fT _)
  ·exact fT _
  ·exact gy.w (h.2.2.2.2.2 _ hw)
 | aL l=>
  intro w hw;simp only[aR,zF,zG,yV] at hw;rcases hw with rfl | rfl
  ·exact lit _ ∅ ∅ ∅
  ·exact BZ _
 | holds p b i=>
  intro w hw;simp only[aR,zF,zG,yV] at hw;rcases hw with rfl | rfl | rfl | rfl
  ·exact lit _ ∅ ∅ ∅
  ·exact gy.w h.1
  ·exact fT _
  ·exact gy.w h.2.2
 | aN b p its=>
  intro w hw;simp only[aR,zF,zJ] at hw;rcases hw with rfl | rfl | rfl | ⟨x,_,rfl⟩
  ·exact lit _ ∅ ∅ ∅
  ·exact fT _
  ·exact gy.w h.2.1
  ·exact T6 _
 | rep r=>
  intro w hw;simp only[aR,zF,zJ] at hw;rcases hw with rfl | rfl | rfl | rfl | ⟨x,_,rfl⟩
  ·exact lit _ ∅ ∅ ∅
  ·exact fT _
  ·exact fT _
  ·exact fT _
  ·exact Uj _
 | cm j=>
  intro w hw;simp only[aR,zF,zG,yV] at hw;rcases hw with rfl | rfl | rfl | rfl | rfl
  ·exact lit _ ∅ ∅ ∅
  ·exact fT _
  ·exact fT _
  ·exact fT _
  ·unfold ctxt
   cases j.fL with
   | none=>exact lit _ ∅ ∅ ∅
   | some n=>exact fT _
def J3 (t:Told):aR t≠[]:=by cases t <;> simp[aR]
def MS (h:Sx t):words (cE t)=aR t:=J2 (J3 t) (LI h)
def OQ (h:Sx t):10∉(cE t).cps.toList:=oP ∅ λw hw=>(LI h w hw).2.2
noncomputable def kindOf:HO->Nat
 | .lst _=>0
 | .tup _=>1
 | .ins _ _ _=>2
 | .dK _=>3
 | .dT _=>4
 | _=>5
def fX {a b:Nat} (h:Nat.beq a b=false):a≠b:=λz=>by rw[z,Nat.beq_refl] at h;cases h
def bw {H:Hp} {a b:vD} {u v:HO} (h1:H a=some u) (h2:H b=some v) (k:kindOf u≠kindOf v):a≠b:=λz=>by
 rw[z,h2] at h1;cases h1;exact k rfl
noncomputable def own (a:vD) (o:Ow):List vD:=[a,o.pl,o.ins,o.st,o.ba,o.ho,o.no,o.re]++o.hs++o.ns
def AO (L:List vD) (H H':Hp):Prop:=∀b u,b∉L->H b=some u->H' b=some u
def AO.of (s:aG H H'):AO L H H':=λb u _ h=>s b u h
def AO.trans (s:AO L H H') (t:AO L H' H''):AO L H H'':=λb u n h=>t b u n (s b u n h)
theorem AO.upd (h:x∈L):AO L H (L2.upd H x o):=λb u n e=>by
 rw[aE (λz=>n (by rw[z];exact h))];exact e
structure Nd (o:Ow):Prop where
 pb:o.pl≠o.ba
 pr:o.pl≠o.re
 ph:o.pl∉o.hs
 pn:o.pl∉o.ns
 br:o.ba≠o.re
 bh:o.ba∉o.hs
 bn:o.ba∉o.ns
 rh:o.re∉o.hs
 rn:o.re∉o.ns
 hh:o.hs.Nodup
 nn:o.ns.Nodup
 hn:∀x∈o.hs,x∉o.ns
def Nd.of (h:o.lists.Nodup):Nd o:=by
 unfold Ow.lists at h;rw[zV] at h;let⟨h1,h2,h3⟩:=h;rw[zV] at h1;let⟨h4,h5,h6⟩:=h1;simp only[ye,zF,zG,yV,not_or] at h4;refine{h4.1.1,h4.1.2,λz=>?_,λz=>?_,h4.2.1,λz=>?_,λz=>?_,λz=>?_,λz=>?_,h5,h2,λx hx z=>?_}
 ·exact h6 o.pl (by simp) o.pl z rfl
 ·exact h3 o.pl (by simp) o.pl z rfl
 ·exact h6 o.ba (by simp) o.ba z rfl
 ·exact h3 o.ba (by simp) o.ba z rfl
 ·exact h6 o.re (by simp) o.re z rfl
 ·exact h3 o.re (by simp) o.re z rfl
 ·exact h3 x (by simp[hx]) x z rfl
def Nd.to (h:Nd o):o.lists.Nodup:=by
 unfold Ow.lists;rw[zV];refine{?_,h.nn,?_}
 ·rw[zV]
  refine{?_,h.hh,?_}
  ·simp only[ye,zF,zG,yV,not_or]
   exact{{(h.pb),h.pr},h.br,λz=>z,x8}
  ·intro x hx y hy e
   subst e;simp only[zF,zG,yV] at hx;rcases hx with rfl | rfl | rfl
   ·exact h.ph hy
   ·exact h.bh hy
   ·exact h.rh hy
 ·intro x hx y hy e
  subst e;rw[zI] at hx;rcases hx with hx | hx
  ·simp only[zF,zG,yV] at hx
   rcases hx with rfl | rfl | rfl
   ·exact h.pn hy
   ·exact h.bn hy
   ·exact h.rn hy
  ·exact h.hn x hx hy
section
variable {C a x:vD} {H:Hp} {S:cq} {o:Ow} {u:HO}
def bY.ER (h:bY C H a S o) (nx:cN (H x)) (n:a≠x):Xl C (L2.upd H x u) a o S.aL S.cm:=by
 let⟨ub,jm,h1,h2,h3⟩:=h.obj;exact{ub,jm,by rw[aE n];exact h1,Is.upd nx h2,Is.upd nx h3}
def bY.F1 (h:bY C H a S o) (n:o.pl≠x):L2.upd H x u o.pl=some (.lst (S.az.map V.str)):=by rw[aE n];exact h.pl
def bY.sg (h:bY C H a S o) (nx:cN (H x)) (n:o.ins≠x):R4 (L2.upd H x u) JC o.ins S.aq:=by
 let⟨vs,h1,h2⟩:=h.ins;exact{vs,by rw[aE n];exact h1,aD.upd nx h2}
def bY.Fu (h:bY C H a S o) (nx:cN (H x)) (n:o.st≠x):R4 (L2.upd H x u) RP o.st S.aP:=by
 let⟨vs,h1,h2⟩:=h.st;exact{vs,by rw[aE n];exact h1,aD.upd nx h2}
def bY.GW (h:bY C H a S o) (nx:cN (H x)) (n:o.ba≠x):Qw (L2.upd H x u) lh o.ba S.aO:=by
 let⟨vs,h1,h2⟩:=h.ba;exact{vs,by rw[aE n];exact h1,aD.upd nx h2}
def bY.FW (h:bY C H a S o) (nx:cN (H x)) (n:o.re≠x):Qw (L2.upd H x u) ig o.re S.aJ:=by
 let⟨vs,h1,h2⟩:=h.re;exact{vs,by rw[aE n];exact h1,aD.upd nx h2}
def bY.IW (h:bY C H a S o) (nx:cN (H x)) (n:o.ho≠x) (nn:x∉o.hs):L2.upd H x u o.ho=some (.dK ((S.holds.map λx=>kS x.1).zip (o.hs.map V.ref)))/\ck (L2.upd H x u) Le (S.holds.map (·.2)) o.hs:=
 {by rw[aE n];exact h.ho.1,ck.upd nx nn h.ho.2}
def bY.Gf (h:bY C H a S o) (nx:cN (H x)) (n:o.no≠x) (nn:x∉o.ns):L2.upd H x u o.no=some (.dT ((S.aN.map λx=>kN x.1).zip (o.ns.map V.ref)))/\ck (L2.upd H x u) d5 (S.aN.map (·.2)) o.ns:=
 {by rw[aE n];exact h.no.1,ck.upd nx nn h.no.2}
end
theorem cQ:∀{ls:List (List α)} {as:List vD},ck H d ls as->x∈as->∃vs,H x=some (.lst vs)
 | [],_,h,hx=>by unfold ck at h;subst h;simp at hx
 | l::r,_,⟨a,t,vs,e,h1,_,h3⟩,hx=>by
  subst e;rcases zF.mp hx with rfl | hx
  ·exact{(vs),h1}
  ·exact cQ h3 hx
theorem ck.snoc (hx:H x=some (.lst vs)) (im:aD H (m.map d) vs):∀{ls:List (List α)} {as:List vD},ck H d ls as->ck H d (ls++[m]) (as++[x])
 | [],_,h=>by unfold ck at h;subst h;exact{x,[],vs,rfl,hx,im,rfl}
 | l::r,_,⟨a,t,vs',e,h1,h2,h3⟩=>by
  subst e;exact{a,t++[x],vs',rfl,h1,h2,ck.snoc hx im h3}
def N8 (h:l.length=m.length) (x:α) (y:β):(l++[x]).zip (m++[y])=l.zip m++[(x,y)]:=by
 rw[List.zip_append h];rfl
def rE {κ:Type} [DecidableEq κ] {ks:List κ} {vs:List V} (hl:⇑ks=⇑vs) {k:κ} {v:V} (h:cI (ks.zip vs) k=none):putK (ks.zip vs) k v=(ks++[k]).zip (vs++[v]):=by
 rw[N8 hl];exact O0 v h
theorem EZ (p:Str):∀{hs:List (Str×List α)} {as:List vD},ck H d (hs.map (·.2)) as->as.Nodup->(hs.map (·.1)).Nodup->p∈hs.map (·.1)->
  ∃x vs,cI ((hs.map λx=>kS x.1).zip (as.map V.ref)) (kS p)=some (.ref x)/\x∈as/\H x=some (.lst vs)/\∀y e,Is (L2.upd H x (.lst (vs++[y]))) (d e) y->
   ck (L2.upd H x (.lst (vs++[y]))) d ((hs.map λq=>if q.1=p then(q.1,q.2++[e]) else q).map (·.2)) as
 | [],_,_,_,_,h=>by simp at h
 | (k,l)::r,_,hL,na,nk,hm=>by
  rw[zj] at hL;let⟨a,t,vs,rfl,h1,h2,h3⟩:=hL;rw[zj,ye] at nk;rw[ye] at na
  by_cases e:k=p
  ·subst e
   refine{a,vs,?_,zv,h1,λy e iy=>?_}
   ·rw[zj,zj,yX]
    unfold cI;rw[yT];simp
   ·let nx:cN (H a):=by rw[h1];exact λ_ z=>by cases z
    let er:(r.map λq=>if q.1=k then(q.1,q.2++[e]) else q)=r:=by
     conv=>rhs;rw[<-List.map_id r]
     refine xy λq hq=>?_;rw[yN (λz=>nk.1 (by rw[show(k,l).1=q.1 from z.symm];exact zR (f:=λx:Str×List α=>x.1) hq))];rfl
    rw[zj,zj,yO rfl,er];refine{a,t,vs++[y],rfl,aF,?_,ck.upd nx na.1 h3};rw[zk];exact dj iy (aD.upd nx h2)
  ·let hm':p∈r.map (·.1):=by
    rcases zF.mp hm with z | z
    ·exact absurd z.symm e
    ·exact z
   let⟨x,vs',e1,e2,e3,e4⟩:=EZ p h3 na.2 nk.2 hm';refine{x,vs',?_,zp _ e2,e3,λy e iy=>?_}
   ·let e':¬kS k=kS p:=λz=>e (wY z)
    rw[zj,zj,yX];unfold cI at e1 ⊢;rw[yT];simp only[e',decide_false];exact e1
   ·let nx:cN (H x):=by rw[e3];exact λ_ z=>by cases z
    rw[zj,zj,yN (by assumption)];refine{a,t,vs,rfl,?_,aD.upd nx h2,e4 y e iy};rw[aE (λz=>na.1 (by rw[z];exact e2))];exact h1
section
variable {C a:vD} {H:Hp} {S:cq} {o:Ow}
def bY.Lq (h:bY C H a S o) (n:Str):bY C (L2.upd H o.pl (.lst (S.az.map V.str++[.str n]))) a (bU S (.bS n)) o:=by
 let d:=Nd.of h.nd;let hp:=h.pl;let nx:cN (H o.pl):=by rw[hp];exact λ_ z=>by cases z
 let⟨_,_,ha,_⟩:=h.obj;let⟨_,hi,_⟩:=h.ins;let⟨_,hs,_⟩:=h.st;exact{h.ER nx (bw ha hp (fX rfl)),by rw[aF];show _=some (HO.lst ((S.az++[n]).map V.str));rw[zk];rfl,h.sg nx (bw hi hp (fX rfl)),h.Fu nx (bw hs hp (fX rfl)),h.GW nx d.pb.symm,
  h.IW nx (bw h.ho.1 hp (fX rfl)) d.ph,h.Gf nx (bw h.no.1 hp (fX rfl)) d.pn,h.FW nx d.pr.symm,h.nd,h.dd}
def bY.RX (h:bY C H a S o) {b:N5} {v:V} {vs:List V} (hb:H o.ba=some (.lst vs)) (il:aD H (S.aO.map lh) vs) (iv:Is H (lh b) v):bY C (L2.upd H o.ba (.lst (vs++[v]))) a (bU S (.bar b)) o:=by
 let d:=Nd.of h.nd;let nx:cN (H o.ba):=by rw[hb];exact λ_ z=>by cases z
 let⟨_,_,ha,_⟩:=h.obj;let⟨_,hi,_⟩:=h.ins;let⟨_,hs,_⟩:=h.st;refine{h.ER nx (bw ha hb (fX rfl)),h.F1 d.pb,h.sg nx (bw hi hb (fX rfl)),h.Fu nx (bw hs hb (fX rfl)),{_,aF,?_},
  h.IW nx (bw h.ho.1 hb (fX rfl)) d.bh,h.Gf nx (bw h.no.1 hb (fX rfl)) d.bn,h.FW nx d.br.symm,h.nd,h.dd}
 show aD _ ((S.aO++[b]).map lh) _;rw[zk];exact dj (Is.upd nx iv) (aD.upd nx il)
def bY.RV (h:bY C H a S o) {r:Rep} {v:V} {vs:List V} (hb:H o.re=some (.lst vs)) (il:aD H (S.aJ.map ig) vs) (iv:Is H (ig r) v):bY C (L2.upd H o.re (.lst (vs++[v]))) a (bU S (.rep r)) o:=by
 let d:=Nd.of h.nd;let nx:cN (H o.re):=by rw[hb];exact λ_ z=>by cases z
 let⟨_,_,ha,_⟩:=h.obj;let⟨_,hi,_⟩:=h.ins;let⟨_,hs,_⟩:=h.st;refine{h.ER nx (bw ha hb (fX rfl)),h.F1 d.pr,h.sg nx (bw hi hb (fX rfl)),h.Fu nx (bw hs hb (fX rfl)),h.GW nx d.br,
  h.IW nx (bw h.ho.1 hb (fX rfl)) d.rh,h.Gf nx (bw h.no.1 hb (fX rfl)) d.rn,{_,aF,?_},h.nd,h.dd}
 show aD _ ((S.aJ++[r]).map ig) _;rw[zk];exact dj (Is.upd nx iv) (aD.upd nx il)
def A1 {n:Str} {ks:List Str} {vs:List V} (h:n∉ks):cI ((ks.map kS).zip vs) (kS n)=none:=by
 unfold cI;rw[Option.map_eq_none_iff,xT];intro x hx z;let e:=yf z;let m:=(wy hx).1;let⟨k,hk,ek⟩:=zJ.mp m;rw[<-ek] at e;exact h ((wY e)▸hk)
def Qe (h:[o.ins,o.st,o.ho].Nodup):o.ins≠o.st/\o.ins≠o.ho/\o.st≠o.ho:=by
 simp only[ye,zF,zG,yV,not_or] at h;exact{(h.1.1),h.1.2,h.2.1}
def bY.NO (h:bY C H a S o) {n:Str} {t l:Int×Int} {p:vD} {vs:List V} (hb:H o.ins=some (.dK ((S.aq.map λx=>kS x.1).zip vs))) (il:aD H (S.aq.map JC) vs) (iv:Is H (JC (n,t,l)) (.ref p))
  (fr:n∉S.aq.map (·.1)):bY C (L2.upd H o.ins (.dK (putK ((S.aq.map λx=>kS x.1).zip vs) (kS n) (.ref p)))) a (bU S (.cR n t l)) o:=by
 let d:=Nd.of h.nd;let⟨d1,d2,d3⟩:=Qe h.dd;let nx:cN (H o.ins):=by rw[hb];exact λ_ z=>by cases z
 let⟨_,_,ha,_⟩:=h.obj;let⟨_,hba,_⟩:=h.ba;let⟨_,hre,_⟩:=h.re;let vl:=aS il;let em:(S.aq.map λx=>kS x.1)=(S.aq.map (·.1)).map kS:=by rw[zD];rfl
 let hns:o.ins∉o.ns:=λz=>by
  let⟨_,q⟩:=cQ h.no.2 z;rw[hb] at q;cases q
 let hhs:o.ins∉o.hs:=λz=>by
  let⟨_,q⟩:=cQ h.ho.2 z;rw[hb] at q;cases q
 refine{h.ER nx (bw ha hb (fX rfl)),h.F1 (bw h.pl hb (fX rfl)),{vs++[.ref p],?_,?_},h.Fu nx d1.symm,h.GW nx (bw hba hb (fX rfl)),
  h.IW nx d2.symm hhs,h.Gf nx (bw h.no.1 hb (fX rfl)) hns,h.FW nx (bw hre hb (fX rfl)),h.nd,h.dd}
 ·rw[aF,rE (by rw[za];exact vl.symm) (by rw[em];exact A1 fr)]
  show _=some (HO.dK (((S.aq++[(n,t,l)]).map λx=>kS x.1).zip (vs++[.ref p])));rw[zk];rfl
 ·show aD _ ((S.aq++[(n,t,l)]).map JC) _
  rw[zk];exact dj (Is.upd nx iv) (aD.upd nx il)
def bY.NM (h:bY C H a S o) {n:Str} {ps:List Str} {v:V} {vs:List V} (hb:H o.st=some (.dK ((S.aP.map λx=>kS x.1).zip vs))) (il:aD H (S.aP.map RP) vs) (iv:Is H (RP (n,ps)) v)
  (fr:n∉S.aP.map (·.1)):bY C (L2.upd H o.st (.dK (putK ((S.aP.map λx=>kS x.1).zip vs) (kS n) v))) a (bU S (.cD n ps)) o:=by
 let d:=Nd.of h.nd;let⟨d1,d2,d3⟩:=Qe h.dd;let nx:cN (H o.st):=by rw[hb];exact λ_ z=>by cases z
 let⟨_,_,ha,_⟩:=h.obj;let⟨_,hba,_⟩:=h.ba;let⟨_,hre,_⟩:=h.re;let vl:=aS il;let em:(S.aP.map λx=>kS x.1)=(S.aP.map (·.1)).map kS:=by rw[zD];rfl
 let hns:o.st∉o.ns:=λz=>by
  let⟨_,q⟩:=cQ h.no.2 z;rw[hb] at q;cases q
 let hhs:o.st∉o.hs:=λz=>by
  let⟨_,q⟩:=cQ h.ho.2 z;rw[hb] at q;cases q
 refine{h.ER nx (bw ha hb (fX rfl)),h.F1 (bw h.pl hb (fX rfl)),h.sg nx d1,{vs++[v],?_,?_},h.GW nx (bw hba hb (fX rfl)),
  h.IW nx d3.symm hhs,h.Gf nx (bw h.no.1 hb (fX rfl)) hns,h.FW nx (bw hre hb (fX rfl)),h.nd,h.dd}
 ·rw[aF,rE (by rw[za];exact vl.symm) (by rw[em];exact A1 fr)]
  show _=some (HO.dK (((S.aP++[(n,ps)]).map λx=>kS x.1).zip (vs++[v])));rw[zk];rfl
 ·show aD _ ((S.aP++[(n,ps)]).map RP) _
  rw[zk];exact dj (Is.upd nx iv) (aD.upd nx il)
def Mx {n:Int×Str} {ks:List (Int×Str)} {vs:List V} (h:n∉ks):cI ((ks.map kN).zip vs) (kN n)=none:=by
 unfold cI;rw[Option.map_eq_none_iff,xT];intro x hx z;let e:=yf z;let m:=(wy hx).1;let⟨k,hk,ek⟩:=zJ.mp m;rw[<-ek] at e;unfold kN at e;simp at e;have:k=n:=Prod.ext e.1 e.2;exact h (this▸hk)
def bY.NN (h:bY C H a S o) {b:Int} {pn:Str} {its:List Item} {q:vD} {us:List V} (hq:H q=some (.lst us)) (iq:aD H (its.map d5) us) (nq:q∉o.lists) (fr:(b,pn)∉S.aN.map (·.1)) :
  bY C (L2.upd H o.no (.dT (putK ((S.aN.map λx=>kN x.1).zip (o.ns.map V.ref)) (kN (b,pn)) (.ref q)))) a (bU S (.aN b pn its)) {o with ns:=o.ns++[q]}:=by
 let d:=Nd.of h.nd;let hb:=h.no.1;let nx:cN (H o.no):=by rw[hb];exact λ_ z=>by cases z
 let⟨ub,jm,ha,hub,hjm⟩:=h.obj;let⟨_,hi,_⟩:=h.ins;let⟨_,hs,_⟩:=h.st;let⟨_,hba,_⟩:=h.ba;let⟨_,hre,_⟩:=h.re;let em:(S.aN.map λx=>kN x.1)=(S.aN.map (·.1)).map kN:=by rw[zD];rfl
 let hns:o.no∉o.ns:=λz=>by
  let⟨_,q⟩:=cQ h.no.2 z;rw[hb] at q;cases q
 let hhs:o.no∉o.hs:=λz=>by
  let⟨_,q⟩:=cQ h.ho.2 z;rw[hb] at q;cases q
 let ll:⇑(o.ns.map V.ref)=⇑S.aN:=by
  have:∀{ls:List (List Item)} {as:List vD},ck H d5 ls as->⇑as=⇑ls:=by
   intro ls
   induction ls with
   | nil=>intro as z;unfold ck at z;rw[z];rfl
   | cons l r ih=>rintro _ ⟨a,t,vs,rfl,_,_,h3⟩;rw[zy,zy,ih h3]
  rw[za,this h.no.2,za]
 let nn:q∉[o.pl,o.ba,o.re]/\q∉o.hs/\q∉o.ns:=by
  unfold Ow.lists at nq;rw[zI,zI] at nq;exact{λz=>nq (.inl (.inl z)),λz=>nq (.inl (.inr z)),λz=>nq (.inr z)}
 let⟨n1,n2,n3⟩:=nn;simp only[zF,zG,yV,not_or] at n1;refine{{ub,jm,by rw[aE (bw ha hb (fX rfl))];exact ha,Is.upd nx hub,Is.upd nx hjm},h.F1 (bw h.pl hb (fX rfl)),h.sg nx (bw hi hb (fX rfl)),h.Fu nx (bw hs hb (fX rfl)),h.GW nx (bw hba hb (fX rfl)),
  h.IW nx (bw h.ho.1 hb (fX rfl)) hhs,{?_,?_},h.FW nx (bw hre hb (fX rfl)),?_,h.dd}
 ·show L2.upd H o.no _ o.no=some (HO.dT (((S.aN++[((b,pn),its)]).map λx=>kN x.1).zip ((o.ns++[q]).map V.ref)))
  rw[aF,rE (by rw[za];exact ll.symm) (by rw[em];exact Mx fr),zk,zk];rfl
 ·show ck _ d5 ((S.aN++[((b,pn),its)]).map (·.2)) (o.ns++[q])
  rw[zk];exact ck.snoc (by rw[aE (bw hq hb (fX rfl))];exact hq) (aD.upd nx iq) (ck.upd nx hns h.no.2)
 ·refine Nd.to {d.pb,d.pr,d.ph,?_,d.br,d.bh,?_,d.rh,?_,d.hh,?_,?_}
  ·show o.pl∉o.ns++[q]
   rw[zI,zC];rintro(z | z)
   ·exact d.pn z
   ·exact n1.1 z.symm
  ·show o.ba∉o.ns++[q]
   rw[zI,zC];rintro(z | z)
   ·exact d.bn z
   ·exact n1.2.1 z.symm
  ·show o.re∉o.ns++[q]
   rw[zI,zC];rintro(z | z)
   ·exact d.rn z
   ·exact n1.2.2 z.symm
  ·show(o.ns++[q]).Nodup
   rw[zV];exact{d.nn,by simp,λx hx y hy e=>by rw[zC] at hy;subst hy;subst e;exact n3 hx}
  ·intro x hx z
   let z':x∈o.ns++[q]:=z;rw[zI,zC] at z';rcases z' with z' | z'
   ·exact d.hn x hx z'
   ·subst z';exact n2 hx
def bY.Lp (h:bY C H a S o) {l:Int×Int} {v ub jm:V} (ha:H a=some (.ins C o.dx (QY o ub jm))) (ij:Is H (dO j9 S.cm) jm) (iv:Is H (dL l) v):bY C (L2.upd H a (.ins C o.dx (QY o v jm))) a (bU S (.aL l)) o:=by
 let nx:cN (H a):=by rw[ha];exact λ_ z=>by cases z
 let⟨_,hi,_⟩:=h.ins;let⟨_,hs,_⟩:=h.st;let⟨_,hba,_⟩:=h.ba;let⟨_,hre,_⟩:=h.re;let hns:a∉o.ns:=λz=>by
  let⟨_,q⟩:=cQ h.no.2 z;rw[ha] at q;cases q
 let hhs:a∉o.hs:=λz=>by
  let⟨_,q⟩:=cQ h.ho.2 z;rw[ha] at q;cases q
 exact{{v,jm,aF,Is.upd nx iv,Is.upd nx ij},h.F1 (bw h.pl ha (fX rfl)),h.sg nx (bw hi ha (fX rfl)),h.Fu nx (bw hs ha (fX rfl)),h.GW nx (bw hba ha (fX rfl)),
  h.IW nx (bw h.ho.1 ha (fX rfl)) hhs,h.Gf nx (bw h.no.1 ha (fX rfl)) hns,h.FW nx (bw hre ha (fX rfl)),h.nd,h.dd}
def bY.Qp (h:bY C H a S o) {j:Jump} {v ub jm:V} (ha:H a=some (.ins C o.dx (QY o ub jm))) (iu:Is H (dO dL S.aL) ub) (iv:Is H (j9 j) v):bY C (L2.upd H a (.ins C o.dx (QY o ub v))) a (bU S (.cm j)) o:=by
 let nx:cN (H a):=by rw[ha];exact λ_ z=>by cases z
 let⟨_,hi,_⟩:=h.ins;let⟨_,hs,_⟩:=h.st;let⟨_,hba,_⟩:=h.ba;let⟨_,hre,_⟩:=h.re;let hns:a∉o.ns:=λz=>by
  let⟨_,q⟩:=cQ h.no.2 z;rw[ha] at q;cases q
 let hhs:a∉o.hs:=λz=>by
  let⟨_,q⟩:=cQ h.ho.2 z;rw[ha] at q;cases q
 exact{{ub,v,aF,Is.upd nx iu,Is.upd nx iv},h.F1 (bw h.pl ha (fX rfl)),h.sg nx (bw hi ha (fX rfl)),h.Fu nx (bw hs ha (fX rfl)),h.GW nx (bw hba ha (fX rfl)),
  h.IW nx (bw h.ho.1 ha (fX rfl)) hhs,h.Gf nx (bw h.no.1 ha (fX rfl)) hns,h.FW nx (bw hre ha (fX rfl)),h.nd,h.dd}
def bY.Pj (h:bY C H a S o) {pn:Str} {q:vD} (hq:H q=some (.lst [])) (nq:q∉o.lists) (fr:pn∉S.holds.map (·.1)) :
  bY C (L2.upd H o.ho (.dK (putK ((S.holds.map λx=>kS x.1).zip (o.hs.map V.ref)) (kS pn) (.ref q)))) a {S with holds:=S.holds++[(pn,[])]} {o with hs:=o.hs++[q]}:=by
 let d:=Nd.of h.nd;let⟨d1,d2,d3⟩:=Qe h.dd;let hb:=h.ho.1;let nx:cN (H o.ho):=by rw[hb];exact λ_ z=>by cases z
 let⟨ub,jm,ha,hub,hjm⟩:=h.obj;let⟨_,hba,_⟩:=h.ba;let⟨_,hre,_⟩:=h.re;let em:(S.holds.map λx=>kS x.1)=(S.holds.map (·.1)).map kS:=by rw[zD];rfl
 let hns:o.ho∉o.ns:=λz=>by
  let⟨_,q⟩:=cQ h.no.2 z;rw[hb] at q;cases q
 let hhs:o.ho∉o.hs:=λz=>by
  let⟨_,q⟩:=cQ h.ho.2 z;rw[hb] at q;cases q
 let ll:⇑(o.hs.map V.ref)=⇑S.holds:=by
  have:∀{ls:List (List (Int×Str))} {as:List vD},ck H Le ls as->⇑as=⇑ls:=by
   intro ls
   induction ls with
   | nil=>intro as z;unfold ck at z;rw[z];rfl
   | cons l r ih=>rintro _ ⟨a,t,vs,rfl,_,_,h3⟩;rw[zy,zy,ih h3]
  rw[za,this h.ho.2,za]
 let nn:q∉[o.pl,o.ba,o.re]/\q∉o.hs/\q∉o.ns:=by
  unfold Ow.lists at nq;rw[zI,zI] at nq;exact{λz=>nq (.inl (.inl z)),λz=>nq (.inl (.inr z)),λz=>nq (.inr z)}
 let⟨n1,n2,n3⟩:=nn;simp only[zF,zG,yV,not_or] at n1;refine{{ub,jm,by rw[aE (bw ha hb (fX rfl))];exact ha,Is.upd nx hub,Is.upd nx hjm},h.F1 (bw h.pl hb (fX rfl)),h.sg nx d2,h.Fu nx d3,h.GW nx (bw hba hb (fX rfl)),
  {?_,?_},h.Gf nx (bw h.no.1 hb (fX rfl)) hns,h.FW nx (bw hre hb (fX rfl)),?_,h.dd}
 ·show L2.upd H o.ho _ o.ho=some (HO.dK (((S.holds++[((pn,[]):Str×List (Int×Str))]).map λx:Str×List (Int×Str)=>kS x.1).zip ((o.hs++[q]).map V.ref)))
  rw[aF,rE (by rw[za];exact ll.symm) (by rw[em];exact A1 fr),zk,zk];rfl
 ·show ck _ Le ((S.holds++[((pn,[]):Str×List (Int×Str))]).map λx:Str×List (Int×Str)=>x.2) (o.hs++[q])
  rw[zk];exact ck.snoc (vs:=[]) (by rw[aE (bw hq hb (fX rfl))];exact hq) (by show aD _ [] [];unfold aD;rfl) (ck.upd nx hhs h.ho.2)
 ·refine Nd.to {d.pb,d.pr,?_,d.pn,d.br,?_,d.bn,?_,d.rn,?_,d.nn,?_}
  ·show o.pl∉o.hs++[q]
   rw[zI,zC];rintro(z | z)
   ·exact d.ph z
   ·exact n1.1 z.symm
  ·show o.ba∉o.hs++[q]
   rw[zI,zC];rintro(z | z)
   ·exact d.bh z
   ·exact n1.2.1 z.symm
  ·show o.re∉o.hs++[q]
   rw[zI,zC];rintro(z | z)
   ·exact d.rh z
   ·exact n1.2.2 z.symm
  ·show(o.hs++[q]).Nodup
   rw[zV];exact{d.hh,by simp,λx hx y hy e=>by rw[zC] at hy;subst hy;subst e;exact n2 hx}
  ·intro x hx z
   let hx':x∈o.hs++[q]:=hx;rw[zI,zC] at hx';rcases hx' with hx' | hx'
   ·exact d.hn x hx' z
   ·subst hx';exact n3 z
def bY.oM (h:bY C H a S o) {pn:Str} (nk:(S.holds.map (·.1)).Nodup) (hm:pn∈S.holds.map (·.1)) :
  ∃x vs,cI ((S.holds.map λx=>kS x.1).zip (o.hs.map V.ref)) (kS pn)=some (.ref x)/\x∈o.hs/\H x=some (.lst vs)/\∀y b i,Is H (Le (b,i)) y->bY C (L2.upd H x (.lst (vs++[y]))) a (bU S (.holds pn b i)) o:=by
 let d:=Nd.of h.nd;let⟨x,vs,e1,e2,e3,e4⟩:=EZ pn h.ho.2 d.hh nk hm;refine{x,vs,e1,e2,e3,λy b i iy=>?_};let nx:cN (H x):=by rw[e3];exact λ_ z=>by cases z
 let⟨ub,jm,ha,hub,hjm⟩:=h.obj;let⟨_,hi,_⟩:=h.ins;let⟨_,hs,_⟩:=h.st;let ea:bU S (.holds pn b i)={S with holds:=S.holds.map λq:Str×List (Int×Str)=>if q.1=pn then(q.1,q.2++[(b,i)]) else q}:=by
  show({S with holds:=fm S.holds pn (b,i)}:cq)=_;unfold fm;rw[yO hm]
 rw[ea];refine{h.ER nx (bw ha e3 (fX rfl)),h.F1 (λz=>d.ph (by rw[z];exact e2)),h.sg nx (bw hi e3 (fX rfl)),h.Fu nx (bw hs e3 (fX rfl)),h.GW nx (λz=>d.bh (by rw[z];exact e2)),
  {?_,e4 y (b,i) (Is.upd nx iy)},h.Gf nx (bw h.no.1 e3 (fX rfl)) (d.hn x e2),h.FW nx (λz=>d.rh (by rw[z];exact e2)),h.nd,h.dd}
 rw[aE (bw h.ho.1 e3 (fX rfl)),h.ho.1];show _=some (HO.dK (((S.holds.map λq:Str×List (Int×Str)=>if q.1=pn then(q.1,q.2++[(b,i)]) else q).map λx:Str×List (Int×Str)=>kS x.1).zip _));rw[zD];have:(S.holds.map λx:Str×List (Int×Str)=>kS x.1)=S.holds.map ((λx:Str×List (Int×Str)=>kS x.1)∘λq:Str×List (Int×Str)=>if q.1=pn then(q.1,q.2++[(b,i)]) else q):=by
  refine xy λq _=>?_;show kS q.1=kS (if q.1=pn then((q.1,q.2++[(b,i)]):Str×List (Int×Str)) else q).1;split <;> rfl
 rw[this]
end
end Sc
namespace L2
open PySem PySem.Spec PyProof.Rows
noncomputable def noStar:Expr->Bool
 | .Starred ..=>false
 | _=>true
def oB (h:noStar e=true):starEach (e::es) env=(false,eval e env)::starEach es env:=by
 cases e <;> first | rfl | cases h
def aa (ha:PE X e te) (hr:PA X es t) (hs:noStar e=true<|>qe_):PA X (e::es) (cj te t):=ah ha hr (oB hs)
end L2
namespace Sc
open PySem L2 Lm
def ma (F:Nat->Dt) (Pσ:St->Prop) (hn:n<=sizeLine) (h0:Pσ U₀)
  (turn:∀(i:Nat) (U:St) (H:Hp) (R:St->V->Hp->Prop),i<n->aG H1 H->Pσ U->(∀σ3 y H5,aG H H5->Is H5 (F i) y->Pσ σ3->R σ3 y H5)->g (.int (lo+i)) U H λσ3 H3=>te σ3 H3 λy H5=>R σ3 y H5)
  (fin:∀D vs H,aG H1 H->H1 D=none->H D=some (.lst vs)->aD H ((List.range n).map F) vs->Q (.ref D) H):dQ U₀ g vJ te Q (Qy lo n) H1:=by
 refine oo (ws:=List.range n) (enc:=λi=>.int (lo+(i:Nat))) F Pσ (by rw[zU];exact hn) h0 (λi H hi _=>by rw[zU] at hi;exact hi) (λH _=>by rw[zU];exact zm _) ?_ ?_ fin
 ·rintro i x H H2 hi _ ⟨rfl,rfl⟩
  exact{rfl,by rw[List.getElem_range]}
 ·intro i U H R hi s p r
  exact turn i U H R (yS.mp hi) s p r
def eM {c:Bool} {T:(Bool->Hp->Prop)->Prop} {Z:Bool->Hp->Prop} {H:Hp} (v:Bool) (h1:c=true->∀Z,Z v H->T Z) (h2:c=false->v=false) (hz:Z v H):if c=true then T Z else Z false H:=by
 cases c with
 | true=>rw[yO rfl];exact h1 rfl Z hz
 | false=>rw[yN (by simp)];rw[<-h2 rfl];exact hz
def HB:List (Int×Int)->TA
 | []=>fc
 | p::r=>cj (MG (cj (tC (.int p.1)) (cj (tC (.int p.2)) fc))) (HB r)
theorem O6:∀{ps:List (Int×Int)} {H:Hp} {R:List V->Hp->Prop},(∀vs H',aG H H'->aD H' (ps.map dL) vs->R vs H')->HB ps U H R
 | [],H,R,h=>h [] H (aI _) du
 | p::r,H,R,h=>by
  let sl:=yC;refine{by show 2<=sizeLine;ext,λq hq=>?_};refine O6 λvs H' s' il=>?_;let s1:=bz (o:=HO.tup [.int p.1,.int p.2]) hq;exact h _ _ (s1.trans s') (aU (iV (s' _ _ aF)) il)
def VV (ps:List (Int×Int)):TE:=λ_ H Q=>∀D vs H',aG H H'->H' D=some (.lst vs)->aD H' (ps.map dL) vs->Q (.ref D) H'
def Rt (hl:⇑ps<=1000) (h:VV ps U H Q):HC (HB ps) U H Q:=by
 let sl:=yC;refine O6 λvs H' s' il=>{by have:=aS il;ext,λD hD=>?_}
 exact h D vs _ (s'.trans (bz hD)) aF (il.mono (bz hD))
def Tx:PA X [] (HB []):=af
def Ve (h:PA X es (HB r)):PA X (.Tuple [.Constant (.int a) x1 p1,.Constant (.int b) x2 p2] k pos::es) (HB ((a,b)::r)):=
 ah (bM (ah ae (ah ae af (oB rfl)) (oB rfl))) h (oB rfl)
def Tt (h:PA X es (HB ps)) (hl:⇑ps<=1000<|>qb_):PE X (.List es pos) (VV ps):=by
 intro pins s U H Q I hq;exact bq h s U H Q I (Rt hl hq)
def sF (h:xs[⇑xs-1]?=some x):Ek xs (-1)=some x:=by
 let hp:0<⇑xs:=by
  have:=(zB.mp h).1;ext
 let ne:xs≠[]:=yt.mp hp;let e:=xW ne;let e2:xs.getLast ne=x:=by
  have:=(zB.mp h).2;rw[List.getLast_eq_getElem];exact this
 rw[<-e,e2];exact L2.CL _ _
theorem IU:∀l:List Str,aD H (l.map Dt.str) (l.map V.str)
 | []=>du
 | x::r=>aU fu (IU r)
def AS (h:Is H (lh b) v):∃a m q,v=.ref a/\H a=some (.tup [m,.int b.key,.ref q])/\Is H (dL b.aV) m/\H q=some (.tup (b.marks.map V.str)):=by
 unfold lh Is at h;let⟨a,vs,rfl,ha,hl⟩:=h;unfold aD at hl;let⟨v1,r1,rfl,h1,hl⟩:=hl;unfold aD at hl;let⟨v2,r2,rfl,h2,hl⟩:=hl;unfold aD at hl;let⟨v3,r3,rfl,h3,hl⟩:=hl;unfold aD at hl;subst hl;unfold Is at h2;subst h2;unfold mZ Is at h3;let⟨q,us,rfl,hq,hle⟩:=h3;rw[dX hle] at hq;exact{(a),v1,q,rfl,ha,h1,hq}
noncomputable def lets:Str:="abcdefghijklmnopqrstuvwxyz"
def Pw:∀j:Fin 26,lets.cps.toList[j.val]?=some (97+j.val):=by decide
def L6 (h0:0<=i) (h:i<26):Ek lets.cps.toList i=some (97+i.toNat):=by
 let⟨j,rfl⟩:=yL h0;exact bx (Pw {(j),()})
def QU:∀j:Fin 36,(lets ++"0123456789").cps.toList[j.val]?=some (sgn.getD j.val 0)/\sgn.getD j.val 0∈sgn:=by decide
def Td (h0:0<=i) (h:i<36):∃c,c∈sgn/\Ek (lets ++"0123456789").cps.toList i=some c:=by
 let⟨j,rfl⟩:=yL h0;have:=QU {(j),()};exact{_,this.2,bx this.1}
noncomputable def QV (i:Int):Nat:=(Ek (lets ++"0123456789").cps.toList i).getD 0
def OI (h0:0<=i) (h:i<36):Ek (lets ++"0123456789").cps.toList i=some (QV i)/\QV i∈sgn:=by
 let⟨c,h1,h2⟩:=Td h0 h;unfold QV;rw[h2];exact{(rfl),h1}
def L7:∀j:Fin 26,97+j.val∈sgn:=by decide
def Px {i:Int} (h0:0<=i) (h:i<26):97+i.toNat∈sgn:=L7 {(i.toNat),()}
def Sk (h1:1<=⇑n) (h2:⇑n<=12) (h3:∀c∈n.cps.toList,c∈sgn):gy n:=by
 unfold gy cM;rw[yN (),yN (),yO (yq.mpr λc hc=>zg (h3 c hc))]
def JV (ns:List Str):Prop:=(∀n∈ns,gy n)/\ns.Nodup
theorem ua:∀{l:List α},l.Nodup->(∀x∈l,∀y∈l,f x=f y->x=y)->(l.map f).Nodup
 | [],_,_=>x8
 | x::r,h,k=>by
  rw[ye] at h;rw[zj,ye];refine{λz=>?_,ua h.2 λa ha b hb e=>k a (zp _ ha) b (zp _ hb) e};let⟨y,hy,e⟩:=zJ.mp z;have:=k y (zp _ hy) x zv e;subst this;exact h.1 hy
def M5 (hm:m<=12) (hc:c∈sgn):JV ((List.range m).map λk=>pW {#[c]} (m-k)):=by
 let el:∀k,⇑(pW {#[c]} k)=k:=λk=>by rw[Ik];exact Nat.mul_one k
 refine{λn hn=>?_,ua List.nodup_range λx hx y hy e=>?_}
 ·let⟨k,hk,rfl⟩:=zJ.mp hn
  have:=yS.mp hk;refine Sk (by rw[el];ext) (by rw[el];ext) λd hd=>?_;rw[rB] at hd;let⟨l,hl,hd⟩:=wj.mp hd;rw[List.mem_replicate] at hl;rw[hl.2] at hd;have:d=c:=by simpa using hd
  rw[this];exact hc
 ·have:=y6 Str.length e
  rw[el,el] at this;have:=yS.mp hx;have:=yS.mp hy;ext
def KL {stem:Str} {pl first m:Nat} (hs:⇑stem<=11) (hp:pl<=⇑stem) (hc:∀c∈stem.cps.toList,c∈sgn) (hm:m<=26) :
  JV ((List.range m).map λk=>Txt.slice stem none (some (pl:Int))++{#[97+(first+5*k)%26]}++Txt.slice stem (some (pl:Int)) none):=by
 let sl:⇑stem.cps.toList=⇑stem:=yQ;let cp:∀k,(Txt.slice stem none (some (pl:Int))++{#[97+(first+5*k)%26]}++Txt.slice stem (some (pl:Int)) none).cps.toList=stem.cps.toList.take pl++[97+(first+5*k)%26]++stem.cps.toList.drop pl:=λk=>by
  rw[cL,cL,HP stem hp,pN stem hp]
 refine{λn hn=>?_,ua List.nodup_range λx hx y hy e=>?_}
 ·let⟨k,hk,rfl⟩:=zJ.mp hn
  let el:⇑(Txt.slice stem none (some (pl:Int))++{#[97+(first+5*k)%26]}++Txt.slice stem (some (pl:Int)) none)=⇑stem+1:=by
   rw[<-show _=⇑(Txt.slice stem none (some (pl:Int))++{#[97+(first+5*k)%26]}++Txt.slice stem (some (pl:Int)) none) from yQ,cp,zh,zh,zT,xC,List.length_singleton];ext
  refine Sk () () λd hd=>?_;rw[cp,zI,zI,zC] at hd;rcases hd with(hd | hd) | hd
  ·exact hc d (List.mem_of_mem_take hd)
  ·rw[hd];exact L7 {(first+5*k)%26,vi _ ∅}
  ·exact hc d (List.mem_of_mem_drop hd)
 ·let q:(Txt.slice stem none (some (pl:Int))++{#[97+(first+5*x)%26]}++Txt.slice stem (some (pl:Int)) none).cps.toList=(Txt.slice stem none (some (pl:Int))++{#[97+(first+5*y)%26]}++Txt.slice stem (some (pl:Int)) none).cps.toList:=by rw[e]
  rw[cp,cp,zH,zH] at q;let q2:=List.append_cancel_left q;simp at q2;have:=yS.mp hx;have:=yS.mp hy;ext
theorem rX:∀zs:List Str,(Str.join "" zs).cps.toList=(zs.map λz:Str=>z.cps.toList).flatten
 | []=>rfl
 | [z]=>by rw[join_one];simp
 | z::y::r=>by
  rw[fi,cL,cL,rX (y::r)];show z.cps.toList++[]++_=_;rw[zX];rfl
noncomputable def nF (c:Int) (n:Nat):List Str:=(List.range n).map λk=>{#[QV ((c/16224+7*(0+(k:Nat)))%36)]}
theorem Jc (f:α->β):∀l:List α,((l.map f).map λx=>[x]).flatten=l.map f
 | []=>rfl
 | x::r=>by rw[zj,zj,yb,Jc f r];rfl
def HE (c:Int) (n:Nat):(Str.join "" (nF c n)).cps.toList=(List.range n).map λk:Nat=>QV ((c/16224+7*(0+(k:Nat)))%36):=by
 rw[rX];unfold nF;rw[zD];have:=Jc (λk:Nat=>QV ((c/16224+7*(0+(k:Nat)))%36)) (List.range n);rw[zD] at this;exact this
def OC (c:Int) (n:Nat):(Str.join "" (nF c n)).length=n:=by
 rw[<-show _=(Str.join "" (nF c n)).length from yQ,HE,za,zU]
def OB:∀d∈(Str.join "" (nF c n)).cps.toList,d∈sgn:=λd hd=>by
 rw[HE] at hd;let⟨k,_,rfl⟩:=zJ.mp hd;exact(OI (zA _ ∅) (zw _ ∅)).2
def OA (c:Int) (n:Nat):((nF c n).map (λz:Str=>⇑z+("": Str).length)).sum=n:=by
 unfold nF;rw[zD];have:((λz:Str=>⇑z+("": Str).length)∘λk:Nat=>({#[QV ((c/16224+7*(0+(k:Nat)))%36)]}:Str))=λ_=>1:=rfl;rw[this,List.map_const',List.sum_replicate_nat,zU,Nat.mul_one]
end Sc
namespace Sc
open PySem L2 Lm
def bN (n:H D=none) (s:aG H H2):aG H (L2.upd H2 D u):=λb v hb=>by
 rw[aE (λz=>by rw[z,n] at hb;cases hb)];exact s b v hb
def Hj (its:List Item) (x:Int×Int):Prop:=⇑its<=40/\(∀it∈its,NV it)/\kf its=x/\its.all (λit=>it.1.isNone)=false
def LB (x:Int×Int):Prop:=Lm.Rd x/\0<x.1/\x.1<=32/\x.2<=160
def Ke (l:List Item) (it:Item):kf (l++[it])=add (kf l) it.2:=by unfold kf;rw[z9];rfl
def Ov {x:Int×Int} (hx:0<x.2) {W:Int} (hW:0<W) {l:List Item} {t w:Int} {it:Item} (h:kf l=red (x.1*t) (x.2*W)) (e:it.2=red (x.1*w) (x.2*W)):kf (l++[it])=red (x.1*(t+w)) (x.2*W):=by
 let hb:0<x.2*W:=xA hx hW;rw[Ke,h,e,RW hb hb,<-lK hb hb (t:=x.1*(t+w))]
 congr 1
 rw[<-Int.add_mul,<-Int.mul_add,xD]
def Ox {x:Int×Int} (hx:0<x.2) {W:Int} (hW:0<W):kf []=red (x.1*0) (x.2*W):=by
 let hb:0<x.2*W:=xA hx hW;show((0,1):Int×Int)=_;rw[Int.mul_zero];have:=lK (t:=0) (b:=1) (k:=x.2*W) hb ∅;rw[Int.mul_zero,Int.mul_one] at this;rw[this];decide
def MH (hx:Lm.Rd x) (hW:0<W):red (x.1*W) (x.2*W)=x:=by
 let⟨_,p2,p3⟩:=hx.pos;rw[xD x.1,xD x.2,lK hW p2,p3]
def Pt (h:LB x) (w1:1<=w) (w2:w<=4) (W1:1<=W) (W2:W<=24):N2 (red (x.1*w) (x.2*W)):=by
 let⟨hr,h1,h2,h3⟩:=h;let⟨_,p2,_⟩:=hr.pos;let a1:0<x.1*w:=xA h1 ();let a2:x.1*w<=32*4:=wa h2 w2 () ∅;let b1:0<x.2*W:=xA p2 ();let b2:x.2*W<=160*24:=wa h3 W2 () ∅;let⟨g,g1,g2,g3,g4,g5⟩:=jr (t:=x.1*w) b1;let r1:=BB (t:=x.1*w) (b:=x.2*W) (xa a1);refine{Lm.Rd.of (xa a1) b1,?_,(),()};let r0:=BA (t:=x.1*w) (b:=x.2*W) (xa a1);rcases Int.lt_or_eq_of_le r0 with z | z
 ·exact z
 ·rw[<-z,Int.mul_zero] at g2;ext
noncomputable def sO (m:Int) (n:Nat):List Int:=(List.range n).map λj=>1+m/(7+5*(0+(j:Nat)))%4
def QH (m:Int) (n:Nat):⇑(sO m n)=n:=by unfold sO;rw[za,zU]
def J1 (h:w∈sO m n):1<=w/\w<=4:=by
 unfold sO at h;let⟨j,_,rfl⟩:=zJ.mp h;let a:=zA (m/(7+5*(0+(j:Int)))) (b:=4) ∅;let b:=zw (m/(7+5*(0+(j:Int)))) (b:=4) ∅;ext
theorem Oy:∀{l:List Int},(∀w∈l,1<=w/\w<=4)->(⇑l:Int)<=l.sum/\l.sum<=4*⇑l
 | [],_=>by simp
 | w::r,h=>by
  let ih:=Oy (l:=r) λz hz=>h z (zp _ hz);have:=h w zv;rw[wV,zy];ext
def MX (m:Int):Qv (m%41-20,7*(m%41-20)%12+(m/41%14-7)*12):=by
 let a:=zA m (b:=41) ∅;let b:=zw m (b:=41) ∅;let c:=zA (m/41) (b:=14) ∅;let d:=zw (m/41) (b:=14) ∅;unfold Qv;dsimp only;ext
def join {c:Bool} {t1 t2:TS} {D:Ends} {U:St} {H:Hp} (P:St->Hp->Prop) (ha:∀N:St->Hp->Prop,(∀U H,P U H->N U H)->c=true->t1 {D with nx:=N} U H)
  (hb:∀N:St->Hp->Prop,(∀U H,P U H->N U H)->c=false->t2 {D with nx:=N} U H) (hN:∀U H,P U H->D.nx U H):if c=true then t1 D U H else t2 D U H:=by
 cases c with
 | true=>rw[yO rfl];exact ha D.nx hN rfl
 | false=>rw[yN (by simp)];exact hb D.nx hN rfl
def RL (R:α->V->Prop):List α->List V->Prop
 | [],vs=>vs=[]
 | x::xs,vs=>∃v r,vs=v::r/\R x v/\RL R xs r
theorem RL.imp {α:Type} {R R':α->V->Prop} (h:∀x v,R x v->R' x v):∀{xs:List α} {vs:List V},RL R xs vs->RL R' xs vs
 | [],_,e=>e
 | _::_,_,⟨v,r,e,h1,h2⟩=>{v,r,e,h _ _ h1,RL.imp h h2}
theorem RL.snoc {α:Type} {R:α->V->Prop} {x:α} {v:V} (h:R x v):∀{xs:List α} {vs:List V},RL R xs vs->RL R (xs++[x]) (vs++[v])
 | [],_,e=>by unfold RL at e;subst e;exact{v,[],rfl,h,rfl}
 | _::_,_,⟨u,r,e,h1,h2⟩=>by subst e;exact{u,r++[v],rfl,h1,RL.snoc h h2}
theorem RL.len:∀{xs:List α} {vs:List V},RL R xs vs->⇑vs=⇑xs
 | [],_,e=>by unfold RL at e;rw[e];rfl
 | _::_,_,⟨u,r,e,_,h2⟩=>by rw[e,zy,zy,RL.len h2]
theorem RL.at:∀{xs:List α} {vs:List V} {i:Nat} {v:V},RL R xs vs->vs[i]?=some v->∃x,xs[i]?=some x/\R x v
 | [],_,_,_,e,h=>by unfold RL at e;subst e;simp at h
 | x::_,_,0,_,⟨u,r,e,h1,_⟩,h=>by subst e;simp at h;subst h;exact{(x),rfl,h1}
 | _::_,_,i+1,_,⟨u,r,e,_,h2⟩,h=>by subst e;simpa using RL.at (i:=i) h2 (by simpa using h)
inductive jM (D:vD) (H:Hp) (x:Str×List (Int×Str)) (v:V):Prop
 | mk (a r:vD) (us:List V) (_:v=.ref a) (_:H a=some (.tup [.str x.1,.ref r])) (_:H r=some (.lst us)) (_:aD H (x.2.map Le) us) (_:r≠D)
theorem jM.mono (s:aG H H') (h:jM D H x v):jM D H' x v:=by
 let⟨a,r,us,h1,h2,h3,h4,h5⟩:=h;exact{a,r,us,h1,s _ _ h2,s _ _ h3,h4.mono s,h5}
theorem jM.upd (hD:H D=some (.lst vs)) (h:jM D H x v):jM D (L2.upd H D o) x v:=by
 let⟨a,r,us,h1,h2,h3,h4,h5⟩:=h;let nt:cN (H D):=by rw[hD];exact λ_ z=>by cases z
 exact{a,r,us,h1,by rw[aE (Sc.bw h2 hD (fX rfl))];exact h2,by rw[aE h5];exact h3,aD.upd nt h4,h5}
inductive iH (D:vD) (H:Hp) (x:(Int×Str)×List Item) (v:V):Prop
 | mk (a q:vD) (us:List V) (_:v=.ref a) (_:H a=some (.tup [.int x.1.1,.str x.1.2,.ref q])) (_:H q=some (.lst us)) (_:aD H (x.2.map d5) us) (_:q≠D)
theorem iH.mono (s:aG H H') (h:iH D H x v):iH D H' x v:=by
 let⟨a,r,us,h1,h2,h3,h4,h5⟩:=h;exact{a,r,us,h1,s _ _ h2,s _ _ h3,h4.mono s,h5}
theorem iH.upd (hD:H D=some (.lst vs)) (h:iH D H x v):iH D (L2.upd H D o) x v:=by
 let⟨a,r,us,h1,h2,h3,h4,h5⟩:=h;let nt:cN (H D):=by rw[hD];exact λ_ z=>by cases z
 exact{a,r,us,h1,by rw[aE (Sc.bw h2 hD (fX rfl))];exact h2,by rw[aE h5];exact h3,aD.upd nt h4,h5}
def Mu (ins:List Str) (many:Int) (row:List (Int×Str)):Prop:=row≠[]/\⇑row<=4/\(row.map (·.1)).Pairwise (·<·)/\∀h∈row,0<=h.1/\h.1<many/\h.2∈ins
noncomputable def eT (S:cq):List Told:=
 S.az.map .bS++(S.aq.map λx=>.cR x.1 x.2.1 x.2.2)++(S.aP.map λx=>.cD x.1 x.2)++S.aO.map .bar++S.aL.toList.map .aL ++
 (S.holds.map λx=>x.2.map λh=>Told.holds x.1 h.1 h.2).flatten++(S.aN.map λx=>.aN x.1.1 x.1.2 x.2)++(S.aJ.map .rep++S.cm.toList.map .cm)
inductive pA (H:Hp) (p:vD) (S:cq):Prop
 | mk (pl il sl bl hl nl rl:vD) (ub jm:V) (iv sv bv hv nv rv:List V) (_:H p=some (.tup [.ref pl,.ref il,.ref sl,.ref bl,ub,.ref hl,.ref nl,.ref rl,jm])) (_:H pl=some (.lst (S.az.map V.str)))
  (_:H il=some (.lst iv)/\aD H (S.aq.map eP) iv) (_:H sl=some (.lst sv)/\aD H (S.aP.map jE) sv) (_:H bl=some (.lst bv)/\aD H (S.aO.map lh) bv) (_:Is H (dO dL S.aL) ub)
  (_:H hl=some (.lst hv)/\RL (jM hl H) S.holds hv) (_:H nl=some (.lst nv)/\RL (iH nl H) S.aN nv) (_:H rl=some (.lst rv)/\aD H (S.aJ.map ig) rv) (_:Is H (dO j9 S.cm) jm)
def pA.at' {H:Hp} {p:vD} {S:cq} (h:pA H p S):pA H p S:=h
theorem pA.mono (s:aG H H') (h:pA H p S):pA H' p S:=by
 let⟨pl,il,sl,bl,hl,nl,rl,ub,jm,iv,sv,bv,hv,nv,rv,h1,h2,h3,h4,h5,h6,h7,h8,h9,ha⟩:=h;exact{pl,il,sl,bl,hl,nl,rl,ub,jm,iv,sv,bv,hv,nv,rv,s _ _ h1,s _ _ h2,{s _ _ h3.1,h3.2.mono s},{s _ _ h4.1,h4.2.mono s},{s _ _ h5.1,h5.2.mono s},h6.mono s,{s _ _ h7.1,h7.2.imp λx v z=>z.mono s},{s _ _ h8.1,h8.2.imp λx v z=>z.mono s},{s _ _ h9.1,h9.2.mono s},ha.mono s}
def bG (h1:-10000<n) (h2:n<10000):⇑(dec n)<=5:=by
 by_cases h:0<=n
 ·have:=Jo h h2;ext
 ·rw[AY (),bV]
  have:=Jo (n:=-n) () ();have:("-": Str).length=1:=rfl;ext
def b7 (h1:-10000<n) (h2:n<10000):n.natAbs.log2<1920:=by
 by_cases z:n.natAbs=0
 ·rw[z];decide
 ·exact yd ((Nat.log2_lt z).mpr (show n.natAbs<2^14 by ext)) ∅
def kT (h1:-10000<x.1) (h2:x.1<10000) (h3:-10000<x.2) (h4:x.2<10000):⇑(iT x)<=11:=by
 unfold iT;let a:=bG h1 h2;let b:=bG h3 h4;split
 ·ext
 ·rw[bV,bV]
  have:("/": Str).length=1:=rfl;ext
def Ng (h:NV it):⇑(qB it)<=30:=by
 let⟨o,x⟩:=it;let⟨⟨hr,h1,h2,h3⟩,hq⟩:=h;let⟨_,p2,_⟩:=hr.pos;dsimp only at h1 h2 h3 p2 hq;let lx:=kT (x:=x) () h2 () h3;cases o with
 | none=>
  show("r:" ++ iT x).length<=30;rw[bV];have:("r:": Str).length=2:=rfl;ext
 | some q=>
  let⟨q1,q2,q3,q4,_⟩:=hq q rfl;let a:=bG (n:=q.1) () ();let b:=bG (n:=q.2) () ();show(dec q.1 ++":" ++ dec q.2 ++":" ++ iT x).length<=30;rw[bV,bV,bV,bV];have:(":": Str).length=1:=rfl;ext
theorem pI {sep:Str} {k:Nat}:∀{zs:List Str},(∀z∈zs,⇑z<=k)->(zs.map (λz:Str=>⇑z+⇑sep)).sum<=⇑zs*(k+⇑sep)
 | [],_=>by simp
 | z::r,h=>by
  let ih:=pI (sep:=sep) (zs:=r) λy hy=>h y (zp _ hy);have:=h z zv;rw[zj,wV,zy,Nat.succ_mul];ext
theorem join_le (sep:Str):∀zs:List Str,⇑(Str.join sep zs)<=(zs.map (λz:Str=>⇑z+⇑sep)).sum
 | []=>zm _
 | [z]=>by rw[join_one];simp
 | z::y::r=>by
  let ih:=join_le sep (y::r);rw[fi,bV,bV,zj,wV];ext
def B4 (h:∀z∈zs,⇑z<=k):⇑(Str.join sep zs)<=⇑zs*(k+⇑sep):=zO (join_le sep zs) (pI h)
def NT (r:Rep):Prop:=Sx (.rep r)/\⇑r.ends<=9/\∀e∈r.ends,⇑e.2<=9
def Ji (h:Xf e) (hl:⇑e.2<=9):⇑(oY e)<=60:=by
 let⟨h1,h2,h3,h4⟩:=h;let a:=bG (n:=e.1) () ();let b:(Str.join "," (e.2.map dec)).length<=⇑(e.2.map dec)*(5+(",": Str).length):=B4 λz hz=>by
  let⟨p,hp,rfl⟩:=zJ.mp hz;have:=h4 p hp;exact bG () ()
 let l1:(":": Str).length=1:=rfl;let l2:(",": Str).length=1:=rfl;rw[za,l2] at b;unfold oY;rw[bV,bV];ext
def LS (h1:ns.Perm l) (h2:ns.Pairwise (·<=·)):sortI l=ns:=by
 unfold sortI;refine(List.Perm.eq_of_pairwise (le:=λa b:Int=>a<=b) (λa b _ _ x y=>Int.le_antisymm x y) h2 ?_ (h1.trans (List.mergeSort_perm _ _).symm)).symm;have:=List.pairwise_mergeSort (le:=λa b:Int=>decide (a<=b)) (λa b c x y=>by simp at x y ⊢;ext) (λa b=>by simp;ext) l;exact this.imp λh=>yf h
theorem Cd:∀{es:List End} {a:Int} {ps:List Int},(es.map (·.1)).Pairwise (·<·)->(∀e∈es,a<e.1)->(∀e∈es,e.2.Pairwise (·<=·))->gk es a ps=some (((es.map (·.1)).getLast?).getD a,ps++(es.map (·.2)).flatten)
 | [],a,ps,_,_,_=>by simp[gk]
 | e::r,a,ps,h1,h2,h3=>by
  rw[zj,xc] at h1;let ih:=Cd (es:=r) (a:=e.1) (ps:=ps++e.2) h1.2 (λx hx=>h1.1 _ (zR (f:=λy:End=>y.1) hx)) (λx hx=>h3 x (zp _ hx));show(if e.1<=a then none else if e.2≠sortI e.2 then none else gk r e.1 (ps++e.2))=_;let c1:=h2 e zv;rw[yN (),yN (λz=>z (LS (List.Perm.refl _) (h3 e zv)).symm),ih,zj,zj,yb,zH]
  congr 2
  cases r with
  | nil=>rfl
  | cons x t=>rw[zj,List.getLast?_cons_cons,List.getLast?_cons];rfl
theorem Jb:∀{n:Nat},k<n->((List.range n).map λi=>if i=k then g i++[x] else g i).flatten.Perm (((List.range n).map g).flatten++[x])
 | 0,h=>()
 | n+1,h=>by
  rw[List.range_succ,zk,zk,xh,xh];simp only[zj,yo,yb,List.flatten_nil,zX]
  by_cases e:n=k
  ·rw[yO e,<-zH]
   have:((List.range n).map λi=>if i=k then g i++[x] else g i)=(List.range n).map g:=xy λi hi=>by
    have:=yS.mp hi;rw[yN ()]
   rw[this]
  ·rw[yN e]
   let ih:=Jb (g:=g) (x:=x) (k:=k) (n:=n) ();refine(ih.append_right _).trans ?_;rw[zH,zH];exact List.Perm.append_left _ (List.perm_append_comm)
noncomputable def cU (sp:Nat->Nat):Nat->Nat->List Int
 | 0,_=>[]
 | k+1,i=>if i=sp k then cU sp k i++[(k:Int)+1] else cU sp k i
theorem rL:∀{k:Nat},p∈cU sp k i->∃j,j<k/\p=(j:Int)+1/\i=sp j
 | 0,h=>by cases h
 | k+1,h=>by
  unfold cU at h;split at h
  ·rename_i e
   rcases zI.mp h with h | h
   ·let⟨j,h1,h2⟩:=rL h
    exact{(j),(),h2}
   ·exact{k,(),by simpa using h,e}
  ·let⟨j,h1,h2⟩:=rL h
   exact{(j),(),h2}
theorem BK:∀{k:Nat},(cU sp k i).Pairwise (·<=·)
 | 0=>List.Pairwise.nil
 | k+1=>by
  unfold cU;split
  ·rw[zW]
   refine{BK,by simp,λa ha b hb=>?_};let⟨j,h1,h2,_⟩:=rL ha;have:b=(k:Int)+1:=by simpa using hb
   ext
  ·exact BK
theorem Iv (e:i=sp j):∀{k:Nat},j<k->((j:Int)+1)∈cU sp k i
 | 0,h=>()
 | k+1,h=>by
  unfold cU
  by_cases c:j=k
  ·subst c
   rw[yO e];exact zK _ (zC.mpr rfl)
  ·let ih:=Iv e (k:=k) ()
   split
   ·exact zL _ ih
   ·exact ih
theorem BJ:∀{k:Nat},⇑(cU sp k i)<=k
 | 0=>zm _
 | k+1=>by
  let ih:=BJ (sp:=sp) (i:=i) (k:=k);unfold cU;split
  ·rw[zh];simp;ext
  ·ext
theorem EL:∀{k:Nat},(∀j,j<k->sp j<n)->((List.range n).map (cU sp k)).flatten.Perm (MT 1 k)
 | 0,_=>by
  have:((List.range n).map (cU sp 0)).flatten=[]:=by
   rw[List.flatten_eq_nil_iff];intro l hl;let⟨i,_,rfl⟩:=zJ.mp hl;rfl
  rw[this];exact List.Perm.refl _
 | k+1,h=>by
  let ih:=EL (sp:=sp) (n:=n) (k:=k) λj hj=>h j ();let e:(List.range n).map (cU sp (k+1))=(List.range n).map λi=>if i=sp k then cU sp k i++[(k:Int)+1] else cU sp k i:=xy λi _=>by rw[cU]
  rw[e];refine(Jb (h k ())).trans ?_;unfold MT at ih ⊢;rw[List.range_succ,zk];refine(ih.append_right _).trans ?_;rw[List.map_singleton,Int.add_comm]
def Q1 (k:Nat):(MT 1 k).Pairwise (·<=·):=by
 unfold MT;rw[List.pairwise_map];exact(List.pairwise_lt_range).imp λh=>()
noncomputable def sj (bs:List Int) (sp:Nat->Nat) (t:Nat):List End:=bs.zip ((List.range ⇑bs).map (cU sp t))
theorem Hn:∀{a:List α} {b:List β},⇑a=⇑b->(a.zip b).map (·.1)=a
 | [],[],_=>rfl
 | x::xs,y::ys,h=>by rw[yX,zj,Hn (by simpa using h)]
 | [],_::_,h=>by simp at h
 | _::_,[],h=>by simp at h
theorem Hm:∀{a:List α} {b:List β},⇑a=⇑b->(a.zip b).map (·.2)=b
 | [],[],_=>rfl
 | x::xs,y::ys,h=>by rw[yX,zj,Hm (by simpa using h)]
 | [],_::_,h=>by simp at h
 | _::_,[],h=>by simp at h
def kZ:(sj bs sp t).map (·.1)=bs:=Hn (by simp)
def ui:(sj bs sp t).map (·.2)=(List.range ⇑bs).map (cU sp t):=Hm (by simp)
def Nr:⇑(sj bs sp t)=⇑bs:=by
 have:=y6 List.length (kZ (bs:=bs) (sp:=sp) (t:=t))
 rwa [za] at this
def uj (h:e∈sj bs sp t):e.1∈bs/\∃i,i<⇑bs/\e.2=cU sp t i:=by
 let h1:=zR (f:=λx:End=>x.1) h;let h2:=zR (f:=λx:End=>x.2) h;rw[kZ] at h1;rw[ui] at h2;let⟨i,hi,e2⟩:=zJ.mp h2;exact{h1,i,yS.mp hi,e2.symm}
def Mw (first last times:Int) (es:List End):Prop:=gn {(first),last,times,es}=true/\⇑es<=9/\(∀e∈es,first<=e.1/\e.1<=last/\e.2≠[]/\⇑e.2<=9/\∀p∈e.2,0<=p/\p<1000)/\⇑((es.map (·.2)).flatten)<=9/\(es.map (·.1)).Pairwise (·<·)
def Np:Mw first last times []:={rfl,∅,by simp,by simp,by simp}
def K2 (t9:t<=9) (ne:bs≠[]) (asc:bs.Pairwise (·<·)) (hin:∀b∈bs,first<=b/\b<=last) (hsp:∀j,j<t->sp j<⇑bs) (hon:∀i,i<⇑bs->∃j,j<t/\sp j=i) (bt:⇑bs<=t):Mw first last t (sj bs sp t):=by
 let pm:=EL (k:=t) hsp;let pl:((List.range ⇑bs).map (cU sp t)).flatten.length=t:=by rw[pm.length_eq];unfold MT;simp
 refine{?_,by rw[Nr];ext,λe he=>?_,by rw[ui,pl];exact t9,by rw[kZ];exact asc}
 ·let e1:=Cd (es:=sj bs sp t) (a:=first-1) (ps:=[]) (by rw[kZ];exact asc) (λe he=>by have:=hin _ (uj he).1;ext) (λe he=>by let⟨_,i,_,e2⟩:=uj he;rw[e2];exact BK)
  let e2:sortI (([]:List Int)++((sj bs sp t).map (·.2)).flatten)=MT 1 t:=by rw[List.nil_append,ui];exact LS pm.symm (Q1 t)
  unfold gn;dsimp only;cases q:sj bs sp t with
  | nil=>rfl
  | cons x r=>
   rw[q] at e1 e2;dsimp only;rw[e1];dsimp only;rw[e2,show((t:Int)+1-1).toNat=t by ext,zg rfl,Bool.and_true,xE,<-q,kZ];cases q2:bs.getLast? with
   | none=>exact absurd (List.getLast?_eq_none_iff.mp q2) ne
   | some b=>exact(hin b (wZ q2)).2
 ·let⟨hb,i,hi,e2⟩:=uj he
  let⟨j,hj,ej⟩:=hon i hi;refine{(hin _ hb).1,(hin _ hb).2,?_,?_,λp hp=>?_}
  ·rw[e2];exact List.ne_nil_of_mem (Iv ej.symm hj)
  ·rw[e2];have:=BJ (sp:=sp) (i:=i) (k:=t);ext
  ·rw[e2] at hp
   let⟨j,h1,h2,_⟩:=rL hp;ext
def QR {n c:Nat} {i:Nat} (hi:i<n):∃j,j<n/\(j+c)%n=i:=by
 refine{(i+(n-c%n))%n,vi _ (),?_};let hc:c%n<n:=vi _ ();rw[Nat.add_mod,Nat.mod_mod,<-Nat.add_mod];let e:i+(n-c%n)+c=i+n+n*(c/n):=by
  have:=Nat.div_add_mod c n;ext
 rw[e,Nat.add_mul_mod_self_left,Nat.add_mod_right,Nat.mod_eq_of_lt hi]
def Ex (Pv:Nat->St->Hp->Prop) (Pe:St->Hp->Prop) (h0:∃m,Pv m U H)
  (turn:∀m U H,Pv m U H->∀N:St->Hp->Prop,(∀U H,Pe U H->N U H)->c U H λb H1=>if b=true then∃N':St->Hp->Prop,(∀U' H',N' U' H'->∃m',m'<m/\Pv m' U' H')/\tb {D with nx:=N',ct:=N',bk:=N} U H1 else N U H1)
  (hd:∀U H,Pe U H->D.nx U H):Om c tb D U H:={Pv,h0,λm U H p=>turn m U H p D.nx hd}
def L4 {c:Bool} {T:(Bool->Hp->Prop)->Prop} {Z:Bool->Hp->Prop} {H:Hp} (v:Bool) (h1:c=false->∀Z,Z v H->T Z) (h2:c=true->v=true) (hz:Z v H):if c=true then Z true H else T Z:=by
 cases c with
 | false=>rw[yN (by simp)];exact h1 rfl Z hz
 | true=>rw[yO rfl];rw[<-h2 rfl];exact hz
def Lh {K:yB} {α:Type} {t1 t2:Bool} {a b:vD} {ws:List α} {e1 e2:α->V} {U₀:St} {g:TG} {te:TE} {Q:VK} {H1:Hp} (F:α->Dt) (Pσ:St->Prop) (hn:⇑ws<=sizeLine) (ha:JT t1 K H1 a (ws.map e1)) (hb:JT t2 K H1 b (ws.map e2)) (h0:Pσ U₀)
  (turn:∀(x:α) (U:St) (H:Hp) (p:vD) (R:St->V->Hp->Prop),x∈ws->aG H1 H->H p=some (.tup [e1 x,e2 x])->Pσ U->(∀σ3 y H5,aG H H5->Is H5 (F x) y->Pσ σ3->R σ3 y H5)->g (.ref p) U H λσ3 H3=>te σ3 H3 λy H5=>R σ3 y H5)
  (fin:∀D vs H,aG H1 H->H1 D=none->H D=some (.lst vs)->aD H (ws.map F) vs->Q (.ref D) H):dQ U₀ g vJ te Q (Uz t1 t2 K a b) H1:=by
 refine{λi m xs U H=>m=⇑ws-i/\i<=⇑ws/\⇑xs=i/\aG H1 H/\aD H ((ws.take i).map F) xs/\Pσ U,{_,rfl,yh _,rfl,aI _,by simp[aD],h0},?_};rintro i m xs U H ⟨rfl,hi,hx,sm,il,pσ⟩;rcases xH i ⇑ws with hlt | hge
 ·let g1:(ws.map e1)[i]?=some (e1 ws[i]):=by rw[zM,zd hlt];rfl
  let g2:(ws.map e2)[i]?=some (e2 ws[i]):=by rw[zM,zd hlt];rfl
  refine .inr {{_,_,_,_,sm.UD ha,sm.UD hb,g1,g2},(),?_};rintro x H2 ⟨p,u,v,np,rfl,rfl,hu,hv⟩;let eu:=hu _ (sm.UD ha);let ev:=hv _ (sm.UD hb);rw[g1] at eu;rw[g2] at ev;cases eu;cases ev;let s2:aG H (upd H p (.tup [e1 ws[i],e2 ws[i]])):=bz np;refine turn ws[i] U _ p (λσ3 y H5=>if true=true then∃m',m'<⇑ws-i/\(m'=⇑ws-(i+1)/\i+1<=⇑ws/\⇑(xs++[y])=i+1/\aG H1 H5/\aD H5 ((ws.take (i+1)).map F) (xs++[y])/\Pσ σ3) else False) (yn hlt) (sm.trans s2) aF pσ ?_;rintro σ3 y H5 s5 iy p3;rw[yO rfl];refine{_,(),rfl,hlt,by simp[hx],(sm.trans s2).trans s5,?_,p3};rw[xw,zd hlt,zk];exact dj iy ((il.mono s2).mono s5)
 ·let e:i=⇑ws:=()
  subst e;refine .inl {{_,_,sm.UD ha,sm.UD hb,.inl (by rw[za];exact zm _)},(),λD hD=>?_};let il':aD H (ws.map F) xs:=by rw[zP] at il;exact il
  exact fin D xs _ (sm.trans (bz hD)) (sm.back hD) aF (il'.mono (bz hD))
def GO (hn:⇑xs<=sizeLine) (hp:gx K H1 p xs) (h0:∃v,U₀=[v])
  (fin:∀(D:vD) (qs:List vD) (H:Hp),aG H1 H->H1 D=none->H D=some (.lst (qs.map V.ref))->qs.Nodup->D∉qs->⇑qs=⇑xs->(∀q∈qs,H1 q=none/\H q=some (.lst []))->Q (.ref D) H):dQ U₀ (cw 0) vJ (HC fc) Q (N3 K p) H1:=by
 refine{λi m ys U H=>m=⇑xs-i/\i<=⇑xs/\⇑ys=i/\(∃v,U=[v])/\aG H1 H/\∃qs:List vD,ys=qs.map V.ref/\qs.Nodup/\∀q∈qs,H1 q=none/\H q=some (.lst []),{_,rfl,yh _,rfl,h0,aI _,[],rfl,x8,by simp},?_};rintro i m ys U H ⟨rfl,hi,hx,⟨v,rfl⟩,sm,qs,rfl,nd,hq⟩;rw[za] at hx;rcases xH i ⇑xs with hlt | hge
 ·refine .inr {IX (sm.seq hp) hlt,by rw[za];ext,?_}
  rintro x H2 ⟨rfl,_⟩;refine{yh _,λq n=>?_};refine{_,(),rfl,hlt,by rw[zh,za,hx];rfl,{_,rfl},sm.trans (bz n),qs++[q],by rw[zk];rfl,?_,λr hr=>?_}
  ·rw[zV]
   refine{nd,by simp,λa ha b hb e=>?_};have:b=q:=by simpa using hb
   subst this;subst e;rw[(hq a ha).2] at n;cases n
  ·rcases zI.mp hr with z | z
   ·exact{(hq r z).1,bz n _ _ (hq r z).2}
   ·rw[zC.mp z]
    exact{sm.back n,aF}
 ·let e:i=⇑xs:=()
  subst e;refine .inl {{_,sm.seq hp,zm _},by rw[za];ext,λD hD=>?_};exact fin D qs _ (sm.trans (bz hD)) (sm.back hD) aF nd (λz=>by rw[(hq D z).2] at hD;cases hD) hx λq z=>{(hq q z).1,bz hD _ _ (hq q z).2}
theorem tJ (f:α->β) (d:α):∀l:List α,(List.range ⇑l).map (λi=>f (l.getD i d))=l.map f
 | []=>rfl
 | x::r=>by
  rw[zy,List.range_succ_eq_map,zj,zD,zj]
  congr 1
  exact tJ f d r
theorem Ew (F:α->β->γ) (g:Nat->β) (d:α):∀(l:List α) (k:Nat),(List.range ⇑l).map (λi=>F (l.getD i d) (g (k+i)))=(l.zip ((List.range ⇑l).map λi=>g (k+i))).map λp=>F p.1 p.2
 | [],_=>rfl
 | x::r,k=>by
  rw[zy,List.range_succ_eq_map,zj,zD,zj,zD,yX,zj]
  congr 1
  have:=Ew F g d r (k+1);let e:∀i,k+1+i=k+(i+1):=λi=>()
  simp only[e] at this;exact this
theorem II:∀{l:List α} {i j:Nat},l.Nodup->l[i]?=some x->l[j]?=some x->i=j
 | [],_,_,_,h,_=>by simp at h
 | y::r,0,0,_,_,_=>rfl
 | y::r,0,j+1,n,h,k=>by
  simp at h k;subst h;exact absurd (zE k) (ye.mp n).1
 | y::r,i+1,0,n,h,k=>by
  simp at h k;subst k;exact absurd (zE h) (ye.mp n).1
 | y::r,i+1,j+1,n,h,k=>by
  simp at h k;rw[II (ye.mp n).2 h k]
def Nq (bs:List Int) (sp:Nat->Nat) (t:Nat):(List.range ⇑bs).map (λi=>nh (bs.getD i 0,cU sp t i))=(sj bs sp t).map nh:=by
 have:=Ew (λb p=>nh (b,p)) (cU sp t) 0 bs 0;simp only[Nat.zero_add] at this;rw[this];rfl
theorem AV (n:Int):∀ns:List Int,Gp (.int n) (ns.map V.int)=decide (n∈ns)
 | []=>rfl
 | m::ns=>by
  let ih:=AV n ns;unfold Gp at ih ⊢;rw[zj,xt,ih];show((m == n)||decide (n∈ns))=decide (n∈m::ns)
  by_cases e:n=m
  ·subst e
   simp
  ·simp[e,Ne.symm (a:=m) (b:=n) (λz=>e z.symm)]
   try ext
def qG {α:Type} {J:It} {ws:List α} {enc:α->V} {U₀:St} {g:TG} {tc:TT} {te:TE} {Q:VK} {H1:Hp} (f:α->Bool) (F:α->Dt) (Pσ:St->Prop) (hn:⇑ws<=sizeLine) (h0:Pσ U₀)
  (go:∀i H,i<⇑ws->aG H1 H->J.go i H) (stop:∀H,aG H1 H->J.stop ⇑ws H) (yl:∀(i:Nat) x H H2 (hi:i<⇑ws),aG H1 H->J.LH i H x H2->H2=H/\x=enc ws[i])
  (turn:∀(a:α) (U:St) (H:Hp) (R:St->V->Hp->Prop) (N:St->Hp->Prop),a∈ws->aG H1 H->Pσ U->(f a=true->∀σ3 y H5,aG H H5->Is H5 (F a) y->Pσ σ3->R σ3 y H5)->(f a=false->∀σ3 H5,aG H H5->Pσ σ3->N σ3 H5)->g (enc a) U H λσ3 H3=>tc σ3 H3 λb H4=>if b=true then te σ3 H4 λy H5=>R σ3 y H5 else N σ3 H4)
  (fin:∀D vs H,aG H1 H->H1 D=none->H D=some (.lst vs)->aD H ((ws.filter f).map F) vs->Q (.ref D) H):dQ U₀ g tc te Q J H1:=by
 refine{λi m xs U H=>m=⇑ws-i/\i<=⇑ws/\⇑xs<=i/\aG H1 H/\aD H (((ws.take i).filter f).map F) xs/\Pσ U,{_,rfl,yh _,zm _,aI _,by simp[aD],h0},?_};rintro i m xs U H ⟨rfl,hi,hx,sm,il,pσ⟩;rcases xH i ⇑ws with hlt | hge
 ·refine .inr {go i H hlt sm,(),?_}
  intro x H2 hy;let⟨rfl,rfl⟩:=yl i x H H2 hlt sm hy;let tk:ws.take (i+1)=ws.take i++[ws[i]]:=by rw[xw,zd hlt];rfl
  refine turn ws[i] U H2 _ _ (yn hlt) sm pσ ?_ ?_
  ·intro ff σ3 y H5 s5 iy p3
   refine{_,(),rfl,hlt,by rw[zh];show ⇑xs+1<=i+1;ext,sm.trans s5,?_,p3};rw[tk,yY,zk];have:[ws[i]].filter f=[ws[i]]:=by simp[ff]
   rw[this];exact dj iy (il.mono s5)
  ·intro ff σ3 H5 s5 p3
   refine{_,(),rfl,hlt,(),sm.trans s5,?_,p3};rw[tk,yY,zk];have:[ws[i]].filter f=[]:=by simp[ff]
   rw[this,yo,zX];exact il.mono s5
 ·let e:i=⇑ws:=()
  subst e;refine .inl {stop H sm,(),λD hD=>?_};let il':aD H ((ws.filter f).map F) xs:=by rw[zP] at il;exact il
  exact fin D xs _ (sm.trans (bz hD)) (sm.back hD) aF (il'.mono (bz hD))
noncomputable def mW (f:Int->Bool) (lo:Int) (n:Nat):List Int:=((List.range n).map λi=>lo+(i:Nat)).filter f
def oQ (h:x∈mW f lo n):lo<=x/\x<lo+n/\f x=true:=by
 unfold mW at h;rw[wz] at h;let⟨i,hi,rfl⟩:=zJ.mp h.1;have:=yS.mp hi;exact{(()),(),h.2}
def Nm:⇑(mW f lo n)<=n:=by
 unfold mW;refine zO (xj _ _) ?_;simp
def Jf {f:Int->Bool} {lo x:Int} {n:Nat} (h1:lo<=x) (h2:x<lo+n) (h3:f x=true):x∈mW f lo n:=by
 unfold mW;rw[wz];exact{zJ.mpr {(x-lo).toNat,yS.mpr (),()},h3}
def jG {lo:Int} {n:Nat} {U₀ rest:St} {tc:TT} {Q:VK} {H1:Hp} (f:Int->Bool) (hn:n<=sizeLine) (h0:∃v,U₀=v::rest)
  (turn:∀(i:Int) (H:Hp) (R:Bool->Hp->Prop),lo<=i->i<lo+n->aG H1 H->(∀H',aG H H'->R (f i) H')->tc (some (.int i)::rest) H R)
  (fin:∀D H,aG H1 H->H1 D=none->H D=some (.lst ((mW f lo n).map V.int))->Q (.ref D) H):dQ U₀ (cw 0) tc (bj 0) Q (Qy lo n) H1:=by
 refine qG (ws:=(List.range n).map λi=>lo+(i:Nat)) (enc:=V.int) f Dt.int (λU=>∃v,U=v::rest) (by simp;exact hn) h0 (λi H hi _=>by rw[za,zU] at hi;exact hi) (λH _=>by rw[za,zU];exact zm n) ?_ ?_ ?_
 ·rintro i x H H2 hi _ ⟨rfl,rfl⟩
  exact{rfl,by simp}
 ·rintro a U H R N ha s1 ⟨v,rfl⟩ hR hN
  let⟨i,hi,rfl⟩:=zJ.mp ha;have:=yS.mp hi;refine turn (lo+(i:Nat)) H _ () () s1 λH' s'=>?_;cases q:f (lo+(i:Nat)) with
  | true=>exact bW rfl {_,rfl,hR q _ _ _ s' cX {_,rfl}}
  | false=>exact bX rfl (hN q _ _ s' {_,rfl})
 ·intro D vs H s1 nD hD il
  rw[eQ il] at hD;exact fin D H s1 nD hD
noncomputable def j0 (rs:List Rep) (b:Int):Bool:=match dU rs b with
 | none=>true
 | some r=>match (r.ends.filter λe=>decide (e.1<=b)).getLast? with
  | none=>true
  | some e=>decide (r.times∈e.2)
noncomputable def eY (rs:List Rep) (b:Int):Bool:=rs.any λr=>decide (r.first<b)&&decide (b<=r.last)
noncomputable def Hl (r:Rep) (b:Int):Bool:=decide (r.first<=b)&&decide (b<=r.last)
theorem Ca:∀{l:List α} {i:Nat} {x:α},l[i]?=some x->p x=true->(∀y∈l.take i,p y=false)->l.find? p=some x
 | [],_,_,h,_,_=>by simp at h
 | y::r,0,x,h,hx,_=>by simp at h;subst h;rw[yT,hx]
 | y::r,i+1,x,h,hx,hn=>by
  rw[yT,hn y (by rw[w9];exact zv)];exact Ca (i:=i) (by simpa using h) hx λz hz=>hn z (by rw[w9];exact zp _ hz)
theorem E4:∀{es:List End},(es.map (·.1)).Pairwise (·<·)->x∈(es.zip ((es.drop 1).map (·.1)++[hi])).map (λp=>(p.1.1,p.2-1,p.1.2))->x.1<=b->b<=x.2.1->∃e,(es.filter λe=>decide (e.1<=b)).getLast?=some e/\e.2=x.2.2
 | [],_,h,_,_=>by simp at h
 | [e],_,h,h1,h2=>by
  simp at h;subst h;exact{e,by simp at h1 ⊢;exact h1,rfl}
 | e::e'::r,asc,h,h1,h2=>by
  rw[zj,xc] at asc;rw[List.drop_one,List.tail_cons,zj,wQ,yX,zj,zF] at h;rcases h with h | h
  ·subst h
   dsimp only at h1 h2;let no:(e'::r).filter (λe=>decide (e.1<=b))=[]:=by
    rw[List.filter_eq_nil_iff];intro y hy;let hm:y.1∈(e'::r).map (·.1):=zR (f:=λz:End=>z.1) hy;let a2:=asc.2;rw[zj,xc] at a2;rw[zj,zF] at hm;rcases hm with z | z
    ·simp;ext
    ·have:=a2.1 _ z
     simp;ext
   refine{e,?_,rfl};rw[List.filter_cons,yO (zg h1),no];rfl
  ·let⟨e2,f1,f2⟩:=E4 (es:=e'::r) asc.2 (by rw[List.drop_one,List.tail_cons];exact h) h1 h2
   refine{e2,?_,f2};rw[List.filter_cons];split
   ·cases q:(e'::r).filter (λe=>decide (e.1<=b)) with
    | nil=>rw[q] at f1;cases f1
    | cons y t=>rw[q] at f1;rw[List.getLast?_cons_cons];exact f1
   ·exact f1
theorem Mh:∀{es:List End},(∀e∈es,lo<=e.1/\e.1<hi)->x∈(es.zip ((es.drop 1).map (·.1)++[hi])).map (λp=>(p.1.1,p.2-1,p.1.2))->lo<=x.1/\x.2.1<hi
 | [],_,h=>by simp at h
 | [e],hx,h=>by
  simp at h;subst h;have:=hx e (by simp);exact{this.1,by show hi-1<hi;ext}
 | e::e'::r,hx,h=>by
  rw[List.drop_one,List.tail_cons,zj,wQ,yX,zj,zF] at h;rcases h with h | h
  ·subst h
   let a:=hx e (by simp);let c:=hx e' (by simp);exact{a.1,by show e'.1-1<hi;ext}
  ·exact Mh (es:=e'::r) (λy hy=>hx y (zp _ hy)) (by rw[List.drop_one,List.tail_cons];exact h)
def Apart (rs:List Rep):Prop:=(∀r∈rs,r.first<=r.last/\(r.ends.map (·.1)).Pairwise (·<·)/\∀e∈r.ends,r.first<=e.1/\e.1<=r.last)/\rs.Pairwise λa b=>a.last<b.first
theorem uC:∀{rs:List Rep} {r r':Rep} {b:Int},(∀r∈rs,r.first<=r.last)->rs.Pairwise (λa b=>a.last<b.first)->r∈rs->r'∈rs->r.first<=b->b<=r.last->r'.first<=b->b<=r'.last->r=r'
 | [],_,_,_,_,_,h,_,_,_,_,_=>by cases h
 | x::l,r,r',b,hf,hp,h,h',h1,h2,h3,h4=>by
  rw[xc] at hp;rcases zF.mp h with e | e <;> rcases zF.mp h' with e' | e'
  ·rw[e,e']
  ·subst e
   have:=hp.1 r' e';ext
  ·subst e'
   have:=hp.1 r e;ext
  ·exact uC (λy hy=>hf y (zp _ hy)) hp.2 e e' h1 h2 h3 h4
def pU {rs:List Rep} {b:Int} {r:Rep} (h:dU rs b=some r):r∈rs/\r.first<=b/\b<=r.last:=by
 unfold dU at h;let h1:=List.mem_of_find?_eq_some h;let h2:=List.find?_some h;simp at h2;exact{(h1),h2}
def L8 {rs:List Rep} {b:Int} (ap:Apart rs) (h:j0 rs b=true):lY rs b=true:=by
 unfold lY;rw[yq];intro r hr;rw[yq];intro x hx;let⟨a1,a2,a3⟩:=ap.1 r hr
 by_cases c1:x.1<=b
 ·by_cases c2:b<=x.2.1
  ·unfold fK at hx
   let ein:=Mh (lo:=r.first) (λe he=>{(a3 e he).1,by have:=(a3 e he).2;ext}) hx;let⟨e,f1,f2⟩:=E4 a2 hx c1 c2;unfold j0 at h;let hro:dU rs b=some r:=by
    cases q:dU rs b with
    | none=>
     unfold dU at q;have:=xT.mp q r hr;simp at this;ext
    | some r'=>
     let⟨g1,g2,g3⟩:=pU q;rw[uC (λy hy=>(ap.1 y hy).1) ap.2 g1 hr g2 g3 () ()]
   rw[hro] at h;dsimp only at h;rw[f1] at h;dsimp only at h;rw[f2] at h;rw[h];simp
  ·rw[ze c2];simp
 ·rw[ze c1];simp
def uX {rs:List Rep} {b:Int} (h:eY rs b=false):eJ rs b=true:=by
 unfold eJ;cases q:dU rs b with
 | none=>rfl
 | some r=>
  let⟨g1,g2,g3⟩:=pU q;dsimp only;unfold eY at h;rw[vo] at h;have:=h r g1;simp at this;exact zg ()
def Py {rs:List Rep} {b:Int} (ap:Apart rs) (h:(∃r∈rs,r.last=b)\/(rs.any λr=>Hl r b)=false):hV rs b=true:=by
 unfold hV;cases q:dU rs b with
 | none=>rfl
 | some r=>
  let⟨g1,g2,g3⟩:=pU q;dsimp only;rcases h with⟨r',hr',e⟩ | h
  ·have:=uC (b:=b) (λy hy=>(ap.1 y hy).1) ap.2 g1 hr' g2 g3 (by have:=(ap.1 r' hr').1;ext) ()
   rw[this,e];exact zg rfl
  ·rw[vo] at h
   have:=h r g1;unfold Hl at this;simp at this;ext
def R1 (many:Int) (rs:List Rep) (j:Jump):Prop:=hZ rs j=true/\(0<=j.qR/\j.qR<many)/\(0<=j.sN/\j.sN<many)/\(0<=j.cK/\j.cK<many)/\∀c,j.fL=some c->0<=c/\c<many
def T4 {many:Int} {rs:List Rep} (ap:Apart rs) {a t u:Int} {c:Option Int} (ha:0<=a) (ha2:a<many) (hl:(∃r∈rs,r.last=a)\/(rs.any λr=>Hl r a)=false) (ht:0<=t) (ht2:t<=a) (hti:eY rs t=false)
  (hu:t<=u) (hu2:u<=a) (hul:j0 rs u=true) (hc:∀x,c=some x->a<x/\x<many/\eY rs x=false/\j0 rs x=true):R1 many rs {(a),t,u,c}:=by
 refine{?_,{(ha),ha2},{ht,by show t<many;ext},{by show 0<=u;ext,by show u<many;ext},λx hx=>?_}
 ·unfold hZ
  dsimp only;rw[yN (),yN (),Py ap hl,uX hti,L8 ap hul];cases c with
  | none=>rfl
  | some x=>
   let⟨h1,h2,h3,h4⟩:=hc x rfl;dsimp only;rw[zg h1,uX h3,L8 ap h4];rfl
 ·let⟨h1,h2,_⟩:=hc x hx
  exact{(()),h2}
def KS (t1:0<t) (t2:t<=32) (b1:0<b) (b2:b<=160):LB (red t b):=by
 let⟨g,g1,g2,g3,g4,g5⟩:=jr (t:=t) b1;let r1:=BB (t:=t) (b:=b) (xa t1);let r0:=BA (t:=t) (b:=b) (xa t1);refine{Lm.Rd.of (xa t1) b1,?_,(),()};rcases Int.lt_or_eq_of_le r0 with z | z
 ·exact z
 ·rw[<-z,Int.mul_zero] at g2;ext
inductive Nb:List Expr->List (Int×Int)->Prop
 | n:Nb [] []
 | c {a b:Int} {x y u v m k r ps} (h:Nb r ps):Nb (.Tuple [.Constant (.int a) x y,.Constant (.int b) u v] m k::r) ((a,b)::ps)
def Tz {X:Cx} {es:List Expr} {ps:List (Int×Int)} (h:Nb es ps):PA X es (HB ps):=by
 induction h with
 | n=>exact Tx
 | c _ q=>exact Ve q
def Tv {X:Cx} {es:List Expr} {p1 pos:Pos} {b:Expr} {tb:TE} (ps:List (Int×Int)) (hb:PE X b tb) (hs:sM b) (h:Nb es ps<|>qh_) (hl:⇑ps<=1000<|>qb_):PE X (.Subscript (.List es p1) b pos) (fW (Q7 X.K) (VV ps) tb):=BH Ma (Tt (Tz h) hl) hb hs
@[irreducible] def SA (X:Cx) (s:Stmt) (t:TS):Prop:=PS X s t
@[irreducible] def VZ (X:Cx) (e:Expr) (t:TE):Prop:=PE X e t
def WK {X:Cx} {x:Str} {e:Expr} {te:TE} {pos pos':Pos} (i:Nat) (hN:X.N.Nodup) (he:VZ X e te) (hi:X.N[i]?=some x<|>qe_) (hx:Loc X.env.scope x<|>qi_) (hs:swapsWith e (some (.Name x pos')) pos.line X.env=pure false<|>qe_) (hf:X.fn x=true\/X.env.scope.names.lookup x=some .local<|>qa_) :
  SA X (.Assign [.Name x pos'] e pos) (Fq te (cw i)):=by
 unfold SA;unfold VZ at he;exact O2 hN hi hx he hs hf
def Rh {X:Cx} {es:List Expr} {p1 pos:Pos} {b:Expr} {tb:TE} (ps:List (Int×Int)) (hb:PE X b tb) (hs:sM b) (h:Nb es ps<|>qh_) (hl:⇑ps<=1000<|>qb_):VZ X (.Subscript (.List es p1) b pos) (fW (Q7 X.K) (VV ps) tb):=by
 unfold VZ;exact Tv ps hb hs h hl
@[irreducible] def Lz (X:Cx) (s:List Stmt) (t:TS):Prop:=C5 X s t
def zS {X:Cx} {s:Stmt} {t:TS} (h:PS X s t):SA X s t:=by unfold SA;exact h
def zo {X:Cx} {s:Stmt} {t:TS} (h:SA X s t):Lz X [s] t:=by unfold Lz;unfold SA at h;exact ak h
def zc {X:Cx} {s:Stmt} {r:List Stmt} {t u:TS} (h:SA X s t) (h2:Lz X r u):Lz X (s::r) (Oo t u):=by unfold Lz at h2 ⊢;unfold SA at h;exact ag h h2
def zf {X:Cx} {s:List Stmt} {t:TS} (h:Lz X s t):C5 X s t:=by unfold Lz at h;exact h
end Sc
namespace L2
open PySem PySem.Spec PyProof.Rows
def Tw {P:vz} {w:vA} {X:Cx}:Passes (qT P w) X E0:=by
 intro _ _ _ _ _ _ _ h;let⟨_,_,_,_,_,_,_,_,_,_,z⟩:=h;exact z.elim
section
variable {P:vz} {w:vA} {K:yB} {mg:Str->Option vv} {base:vE} {N:List Str} {qual:Str} {scope:Scope} {f:vD} {cdv:vv} {A:vB} {outer:List Env} {s₀:vw} {H₀:Hp} {E:XK}
def LZ:Passes (qT P w) (jF (qT P w) P w K mg base N qual scope f cdv A outer s₀ H₀ E) E:=by
 intro pins U H s e s' I h;let⟨a,cls,a0,B,H',rfl,os,bare,fl,fly,q⟩:=h;show wpAny (model P w) (A.deeper (envOfC qual scope ↑s₀ f cdv)) (leaving (envOfC qual scope ↑s₀ f cdv) (.ref a)) (λ_ s''=>qT P w outer H₀ s₀ E (.ref a) s'') (λe' s''=>qT P w outer H₀ s₀ E e' s'') s';let hfr:kB (envOfC qual scope ↑s₀ f cdv::outer)=↑s₀::kB outer:=B8 rfl;let low:∀b o,s₀.heap.get? b=some o->b≠↑s₀:=λb o e z=>absurd (yz e) (by rw[z];exact yg _);let nin:∀b o,s₀.heap.get? b=some o->b∉kB outer->b∉kB (envOfC qual scope ↑s₀ f cdv::outer):=λb o e n z=>by
  rw[hfr] at z;rcases zF.mp z with z | z
  ·exact low b o e z
  ·exact n z
 let jN:∀b:vD,b∉(jF (qT P w) P w K mg base N qual scope f cdv A outer s₀ H₀ E).ex:=λb z=>absurd (show b∈([]:List vD) from z) (by simp);refine wpAny_leaves_onW I.ok.frames rfl fl λh' fl' up=>?_;refine{a,cls,a0,B,H',rfl,os.trans I.os,bare,fl',{λb o q n hb=>fly.keep b o (I.base.keep b o q n hb (jN b)) (I.base.free b o q n (jN b)) (nin b o q hb),λb o q n hb=>?_,λb o q n=>?_,λb o q hb=>?_,λb xs e=>fly.lB b xs (I.base.lB b xs e),λb o u e=>fly.kA b o u (I.base.kA b o u e),λb ps e=>?_,fly.cB,fl'.1},q}
 ·let⟨sl,e1⟩:=I.base.slot b o q n hb (jN b)
  let⟨_,o1,e2,nd⟩:=I.ok.l6.mem hb;let e2':s₀.heap.get? b=some o1:=e2;rw[q] at e2';cases e2';let⟨sl2,e3⟩:=fly.slot b _ e1 (I.base.free b o q n (jN b)) (by show b∈kB (envOfC qual scope ↑s₀ f cdv::outer);rw[hfr];exact zp _ hb);let⟨sl3,e4⟩:=up b _ e3 nd;exact{(sl3),e4}
 ·let⟨o',e1⟩:=I.base.there b o q (jN b)
  exact fly.free b o' e1 (I.base.free b o q n (jN b))
 ·let⟨o',e1⟩:=I.base.there b o q (jN b)
  exact fly.there b o' e1 (nin b o q hb)
 ·let⟨m,e1⟩:=I.base.lC b ps e
  let⟨m2,e2⟩:=fly.lC b _ e1;exact{m++m2,by rw[e2,Array.append_assoc]}
end
abbrev Cx.MD (X:Cx) (pn:List (vD×Obj)) (xe:vv->vw->Prop):Cx:={X with pn:=pn,xe:=xe}
section
variable {X:Cx} {pins pins1:List (vD×Obj)} {U:St} {H:Hp} {s:vw} {xe:vv->vw->Prop}
theorem Inv.MD (I:Inv X pins U H s) (xe:vv->vw->Prop):Inv (X.MD (X.pn++pins) xe) [] U H s:=
 {{(I.ok.mod),I.ok.kind,I.ok.glob,I.ok.blt,I.ok.above,I.ok.inj,I.ok.has,I.ok.RS,I.ok.hd,I.ok.frames,I.ok.Sa,I.ok.UH,I.ok.bs,I.ok.Mq,I.ok.jN,I.ok.Gs,I.ok.l6,I.ok.DS},I.os,I.bare,I.base,I.loc,I.cell,I.free,I.ic,λp hp=>I.pin p (by rw[zX] at hp;exact hp),I.cB,I.len}
def Inv.Hu (I:Inv (X.MD (X.pn++pins) xe) pins1 U H s):Inv X pins U H s:=
 {{(I.ok.mod),I.ok.kind,I.ok.glob,I.ok.blt,I.ok.above,I.ok.inj,I.ok.has,I.ok.RS,I.ok.hd,I.ok.frames,I.ok.Sa,I.ok.UH,I.ok.bs,I.ok.Mq,I.ok.jN,I.ok.Gs,I.ok.l6,I.ok.DS},I.os,I.bare,I.base,I.loc,I.cell,I.free,I.ic,λp hp=>I.pin p (zL _ hp),I.cB,I.len}
end
def R6 (K:yB) (n j:Nat) (S:vD) (tb:XK->TS) (th:TS):TS:=λD U H=>tb (λcls _ H2=>∃C,cls=.ref C/\PySem.W.mroIn K C (.ref S)=some true/\∀(a:vD) (σ1:St),⇑σ1=n->H2 a=none->th (VT j D) (σ1.set j (some (.ref a))) (upd H2 a (N4 C a))) D U H
section
variable {X:Cx} {cn n:Str} {pos np hpos:Pos} {j m:Nat} {S:vD} {bmS:List vv} {newIdS:String} {b₀:Stmt} {body suite:List Stmt} {tb:XK->TS} {th:TS}
def Rf (hb:∀pn xe E,Passes (qT X.prog X.w) (X.MD pn xe) E->C5 (X.MD pn xe) body (tb E)) (hm:⇑X.N=m)
  (hc:X.calm=true) (hN:X.N.Nodup) (hj:X.N[j]?=some n) (hnl:X.env.scope.names.lookup n=some .local) (hgc:Gl X cn) (hS0:PySem.W.nsIn X.K mainGlobals cn=some (some (.ref S))) (hQS:PySem.W.excIn X.K S bmS newIdS=true) (hSl:∃dd cd sl,X.K.lookup S=some {.type "type",dd,.cls cd,sl})
  (hSB:PySem.W.mroIn X.K S (.type "BaseException")=some true) (hstk:X.stack=X.env::X.outer) (hfrm:X.env.frame=some X.env.locals) (hex:X.ex=[])
  (hsu:∀e,C5 (X.held e).JY (b₀::suite) th) (hdc:(cn == ("__debug__": Str))=false<|>qb_) :
  PS X (.Try body [.ExceptHandler (some (.Name cn np)) (some n) (b₀::suite) hpos] [] [] pos) (R6 X.K m j S tb th):=by
 intro pins s U H D I h;let O:OwnCls cn S bmS newIdS X.mg X.base:=lR X.prog I.ok.mod hS0 hQS;let⟨ddS,cdS,slS,hSl⟩:=hSl;refine wpAny_Try_except (xg (hb (X.pn++pins) (λe s'=>∃σ1 H1 s1,Inv X pins σ1 H1 s1/\qT X.prog X.w X.stack H1 s1 _ e s') _ (λpins1 σ1 H1 s1 e s' I1 c=>{σ1,H1,s1,I1.Hu,c}) s U H D (I.MD _) h) (λfl s' z=>?_) λev s' z=>?_)
 ·cases fl with
  | next=>let⟨U',H',I',q⟩:=z;exact wx {U',H',I'.Hu,q}
  | brk=>let⟨U',H',I',q⟩:=z;exact{U',H',I'.Hu,q}
  | cont=>let⟨U',H',I',q⟩:=z;exact{U',H',I'.Hu,q}
  | ret u=>let⟨v,U',H',I',r,q⟩:=z;exact{v,U',H',I'.Hu,r,q}
 ·let⟨σ1,H1,s1,I1,a,cls,a0,B,H',rfl,os,bare,fl,fly,⟨C,rfl,hup,q2⟩⟩:=z
  let DS:∀b∈kB X.stack,H1 b=none:=I1.oA;let nf:∀{hh:vE},Heap.FunFrames hh B X.stack->∀b∈kB X.stack,∃o,hh.get? b=some o/\∀vs,o.data≠.fields vs:=λhF b hb=>(hF.mem hb).2;let back:∀(hh:vE),LD X.prog X.w (kB X.stack) H1 H' s1.heap B hh->Inv X pins σ1 H' {s' with heap:=hh}:=λhh fy=>
   I1.Mp (s':={s' with heap:=hh}) (ch:=[]) os (fy.un DS) (fy.cB.kept fy.kg) bare λb z=>absurd z (by simp)
  let hfr:X.A.frames=some (X.env::X.outer):=by rw[<-hstk];exact I1.ok.frames
  refine wpAny_looks_onW hfr hfrm (by rw[<-hstk];exact fl) λh4 held4 up4=>?_;refine wpAny_landsW held4 λh5 fl5 up5=>?_;let fl5':Heap.FlyingW B X.stack a (.ref C) a0 h5:=by rw[hstk];exact fl5
  let fy5:LD X.prog X.w (kB X.stack) H1 H' s1.heap B h5:=fly.on (up4.trans up5) fl5.1 (nf fl.2.2.1);let I5:=back h5 fy5;let⟨ob,hob,hobc⟩:=fl5'.there;refine wpAny_handleBy_cons (codeAny_handlers_test (iU (X:=X.held (.ref a)) (I5.held _) hgc O.bound ?_ hdc)) (by intro q;cases q);refine RC I5.DR hob hobc hSl hSB hup (codeAny_handlers_suite_as ?_);refine lands_againW fl5' λh6 fl6 up6=>?_;let fy6:LD X.prog X.w (kB X.stack) H1 H' s1.heap B h6:=fy5.on up6 fl6.1 (nf fl5'.2.2.1);let I6:=back h6 fy6;let⟨oe,ws,hoe,hoec,hoed,_⟩:=fl6.first;let Bn:B.get? a=none:=fl6.2.1;let noFr:a∉kB X.stack:=λz=>by
   let⟨o,e1,e2⟩:=nf fl6.2.2.1 a z;rw[hoe] at e1;cases e1;exact e2 _ hoed
  let nL:a≠X.env.locals:=λz=>noFr (by rw[hstk,B8 hfrm,z];exact zv);let nH:H' a=none:=by
   cases e:H' a with
   | none=>rfl
   | some u=>let⟨o,e1⟩:=(fy6.cB a u e).here;rw[Bn] at e1;cases e1
  let n0:X.s₀.heap.get? a=none:=by
   cases e:X.s₀.heap.get? a with
   | none=>rfl
   | some o=>
    let⟨o',e1⟩:=I1.base.there a o e (by rw[hex];simp);let⟨o2,e2⟩:=fy6.there a o' e1 noFr;rw[Bn] at e2;cases e2
  let nC:∀y c,X.env.cells.lookup y=some c->c≠a:=λy c e z=>by
   let⟨v,o,ho,hd⟩:=I6.cell y c e;rw[z,hoe] at ho;cases ho;rw[hoed] at hd;cases hd
  let nP:∀p∈X.pn++pins,p.1≠a:=λp hp z=>by
   let⟨e,n,ne,nf',d⟩:=I1.pin p hp;have:=fy6.keep p.1 p.2 e n (by rw[z];exact noFr);rw[z,Bn] at this;cases this
  let I7:Inv X pins σ1 (upd H' a (N4 C a)) {s' with heap:=h6}:=I6.UT nH n0 nL nC nP {{(oe),hoe,hoec},{(oe),hoe},λh1 h2 ⟨o,e1,e2⟩ kk=>{o,kk o e1,e2}};refine kO (X:=X.held (.ref a)) (I7.held _) hN hj (.inl hnl) (v:=.ref a) rfl (λs8 I8=>?_) (.inr hnl);refine xg (hsu (.ref a) _ _ _ (VT j D) (I8.pE _) (q2 a σ1 (I1.len.trans hm) nH)) (λfl s9 z=>?_) λ_ _ z=>z.elim;let z':SP X pins (VT j D) fl s9:=SP.ke I.ok.hd (SP.gB z);let hp:(X.env.scope.kind == .class||(X.env.scope.kind == .module&&X.env.locals != X.env.globals))=false:=by rw[I.ok.kind];rfl
  let fin:∀U' H',Inv X pins U' H' s9->∀(Q:Unit->vw->Prop),(∀s10,Inv X pins (U'.set j none) H' s10->Q .unit s10)->wpAny (model X.prog X.w) X.A (do bindName X.env n .none;unbindBehindTheSuite X.env n hpos) Q X.xe s9:=λU' H' I9 Q hQ=>by
   let⟨m,hm,hml⟩:=id I9.loc;refine wpAny_nameGoes_keeps hnl hm hp λh' v hn hs=>hQ _ (I9.QJ hN hj hml hn hs)
  cases fl with
  | next=>let⟨U',H',I9,q⟩:=z';exact fin U' H' I9 _ λs10 I10=>{_,_,I10,q}
  | brk=>let⟨U',H',I9,q⟩:=z';exact fin U' H' I9 _ λs10 I10=>{_,_,I10,q}
  | cont=>let⟨U',H',I9,q⟩:=z';exact fin U' H' I9 _ λs10 I10=>{_,_,I10,q}
  | ret u=>let⟨v,U',H',I9,r,q⟩:=z';exact fin U' H' I9 _ λs10 I10=>{v,_,_,I10,r,q}
end
def TU {K:yB} {D C:vD} (h:PySem.W.mroIn K D (.ref C)=some true) (hm:PySem.W.mroIn K C (.type "object")=some true) (ht:PySem.W.typeIn K (.ref C)=some (.type "type")):PySem.W.kitOne K (.ref D) (.ref C)=some true:=by
 by_cases c:D=C
 ·subst c;exact B3
 ·exact L9 h c hm ht
def PF {K:yB} {C:vD} (hm:PySem.W.mroIn K C (.type "object")=some true) (ht:PySem.W.typeIn K (.ref C)=some (.type "type")):PySem.W.kitOne K (.type "NoneType") (.ref C)=some false:=by
 unfold PySem.W.kitOne;rw[yN (by simp)];unfold PySem.W.kitCls;dsimp only;rw[yO (by rw[qH hm,ht];rfl)];rfl
def Vc (K:yB):List V->Hp->VK->Prop:=λxs H Q=>(∃C,xs=[.bT,.ref C]/\PySem.W.kitOne K (.type "NoneType") (.ref C)=some false/\Q (.bl false) H)\/∃(x D:vD) (c:V) (u:vv) (b:Bool),xs=[.ref x,c]/\H x=some (N4 D x)/\oz K D/\((∃C,c=.ref C/\u=.ref C)\/∃n,c=.ty n/\u=.type n)/\PySem.W.kitOne K (.ref D) u=some b/\Q (.bl b) H
def fU {X:Cx}:fo X (.builtin "isinstance") (Vc X.K):=by
 intro pins s U H xs us Q I r h;rcases h with⟨C,rfl,e,q⟩ | h
 ·cases r with
  | cons r rr=>
   cases rr with
   | cons r' rr=>
    cases rr;cases r;cases r';exact PySem.W.kia_one PySem.W.kitx_none I.DR trivial e (λz=>nomatch z) λtk=>{.bl _,H,I.tok tk,rfl,q}
 ·exact NI pins s U H xs us Q I r h
inductive Q8 (x:V) (vs:List V) (H:Hp) (Q:VK):Prop
 | mk (l:vD) (bs:List Bool) (_:x=.ref l) (_:vs=[.bl true]) (_:H l=some (.lst (bs.map V.bl))) (_:true∈bs) (_:Q (.int (bs.idxOf true:Nat)) H)
theorem Ho:∀{bs:List Bool} {us:List vv},Vals (bs.map V.bl) us->us=bs.map Value.bool
 | [],_,r=>by cases r;rfl
 | b::bs,_,r=>by
  cases r with
  | cons r rr=>cases r;rw[Ho rr];rfl
def isTrue:vv->Bool
 | .bool b=>b
 | _=>false
def M6 {X:Cx}:SD X "list.index" Q8:=by
 intro pins s U H x vs v us Q I rx rv h;let⟨l,bs,rfl,rfl,hH,hk,q⟩:=h;cases rx;let⟨u,rfl,ru⟩:=rv.one;cases ru;let⟨z,its,n,r,hl,e⟩:=I.Pq hH;let sl:=yC;cases Ho r;let hj:bs.idxOf true<⇑bs:=List.idxOf_lt_length_iff.mpr hk;rw[za] at z hl;refine wA PySem.F.slot_list_index {_,e,rfl} PySem.F.entry_list_index (PySem.F.args_list_index_2 _ _)
  (PySem.SeqAt.list_indexAt l (bs.map Value.bool).toArray n none #[] (.bool true) isTrue (bs.idxOf true) (by rw[yc,za];ext) () ?_ ?_) {e,λy hy=>?_,.int _,H,I.tok _,{_,rfl},q}
 ·show isTrue (bs.map Value.bool)[bs.idxOf true]=true
  rw[List.getElem_map];show bs[bs.idxOf true]=true
  simpa using List.getElem_idxOf hj
 ·intro j hjs hlt
  show isTrue (bs.map Value.bool)[j]=false;rw[List.getElem_map];show bs[j]'_=false;have:=List.not_of_lt_findIdx (p:=(· == true)) (xs:=bs) (i:=j) hlt
  simpa using this
 ·let⟨b,_,rfl⟩:=zJ.mp (List.mem_toArray.mp hy)
  have:=PySem.SeqAt.EqAt.bool_bool (A:=X.A.in1) (s:=s) b true
  simpa[isTrue] using this
def Vd:List V->Hp->VK->Prop:=λxs H Q=>(∃i,xs=[.int i]/\Q (.int i) H)\/∃k,xs=[.bl k]/\Q (.int (if k then 1 else 0)) H
structure Xg (K:yB) (C:vD):Prop where
 ob:PySem.W.mroIn K C (.type "object")=some true
 ty:PySem.W.typeIn K (.ref C)=some (.type "type")
structure Xe (K:yB) (D S:vD):Prop where
 cls:oz K D
 up:PySem.W.mroIn K D (.ref S)=some true
 self:PySem.W.subIn K (.ref D) (.ref D)=some true
 ve:PySem.W.subIn K (.ref D) (.type "ValueError")=some true
def RB {t1 t2:Bool} {K:yB} {a b:vD} {xs ys:List V} {g:TG} {tb:TS} {D:Ends} {U:St} {H:Hp} (Pv:Nat->St->Hp->Prop) (hn:⇑ys<=⇑xs) (h0:Pv 0 U H) (hl:∀i U H,i<=⇑ys->Pv i U H->JT t1 K H a xs/\JT t2 K H b ys)
  (hs:∀i x y U H p H',xs[i]?=some x->ys[i]?=some y->Pv i U H->aG H H'->H' p=some (.tup [x,y])->g (.ref p) U H' λσ2 H2=>tb {D with nx:=Pv (i+1),ct:=Pv (i+1),bk:=D.nx} σ2 H2) (hd:∀U H,Pv ⇑ys U H->D.nx U H) :
  ∃W:Nat->Nat->St->Hp->Prop,(∃m,W 0 m U H)/\∀i m U H,W i m U H->
   ((Uz t1 t2 K a b).stop i H/\D.nx U H)\/((Uz t1 t2 K a b).go i H/\∃N:St->Hp->Prop,(∀U' H',N U' H'->∃m',m'<m/\W (i+1) m' U' H')/\∀x H',(Uz t1 t2 K a b).LH i H x H'->g x U H' λσ2 H2=>tb {D with nx:=N,ct:=N,bk:=D.nx} σ2 H2):=by
 refine{λi m U H=>m=⇑ys-i/\i<=⇑ys/\Pv i U H,{⇑ys,by simp,yh _,h0},?_};rintro i m U H ⟨rfl,hi,p⟩;let⟨q1,q2⟩:=hl i U H hi p
 by_cases hlt:i<⇑ys
 ·let hx:xs[i]?=some (xs[i]'()):=zd ()
  let hy:ys[i]?=some ys[i]:=zd hlt;refine .inr {{xs,ys,_,_,q1,q2,hx,hy},Pv (i+1),λU' H' p'=>{⇑ys-(i+1),(),rfl,hlt,p'},λx H' y=>?_};let⟨pp,u,v,hp,e1,e2,y1,y2⟩:=y;subst e1 e2;exact hs i u v U H pp _ (y1 xs q1) (y2 ys q2) p (bz hp) aF
 ·let e:i=⇑ys:=()
  subst e;exact .inl {{xs,ys,q1,q2,.inr (zm _)},hd U H p}
def Ws {K:yB} {n j:Nat} {S:vD} {tb:XK->TS} {th:TS} {D:Ends} {U:St} {H:Hp} (h:∀E:XK,(∀(C:vD) (H2:Hp),PySem.W.mroIn K C (.ref S)=some true->(∀(a:vD) (σ1:St),⇑σ1=n->H2 a=none->th (VT j D) (σ1.set j (some (.ref a))) (upd H2 a (N4 C a)))->E (.ref C) none H2)->tb E D U H):R6 K n j S tb th D U H:=
 h _ λC H2 up q=>{(C),rfl,up,q}
theorem six {α:Type} {P:List α->Prop} (h:∀a b c d e f,P [a,b,c,d,e,f]):∀l:List α,⇑l=6->P l
 | [a,b,c,d,e,f],_=>h a b c d e f
def Wx {v:V} {j:Nat} {T R:TS} {D:Ends} {U:St} {H:Hp} (h:T {D with nx:=R D} (U.set j (some v)) H):Oo (Fq (tC v) (cw j)) (Oo T R) D U H:=h
def XC {a b:Nat} {j k:Int} {U:St} {H:Hp} {Q:VK} (h1:U[a]?=some (some (.int j))) (h2:U[b]?=some (some (.int k))) (q:Q (.bl (decide (0<=j)&&decide (j<k))) H) :
  pH (qP λi j=>V.bl (decide (i<=j))) (qP λi j=>V.bl (decide (i<j))) (tC (.int 0)) (bj a) (bj b) U H Q:=by
 refine{_,h1,{_,_,rfl,rfl,_,rfl,?_}};cases c:decide (0<=j) with
 | true=>
  rw[c,yW] at q;rw[yO rfl];exact{_,h2,_,_,rfl,rfl,q}
 | false=>
  rw[c,yU] at q;rw[yN ∅];exact q
def W7 {a b:Nat} {j k:Int} {U:St} {H:Hp} {Q:VK} {q':List V->Hp->VK->Prop} (h1:U[a]?=some (some (.int j))) (h2:U[b]?=some (some (.int k))) (q:q' [.bl (decide (0<=j)&&decide (j<k))] H Q) :
  LM q' (cj (pH (qP λi j=>V.bl (decide (i<=j))) (qP λi j=>V.bl (decide (i<j))) (tC (.int 0)) (bj a) (bj b)) fc) U H Q:=XC h1 h2 q
end L2
namespace Sc
open PySem L2 Lm
def Lg {K:yB} {a:vD} {ns:List Int} {U₀ rest:St} {tc:TT} {Q:VK} {H1:Hp} (f:Int->Bool) (hn:⇑ns<=sizeLine) (ha:gx K H1 a (ns.map V.int)) (h0:∃v,U₀=v::rest)
  (turn:∀(n:Int) (H:Hp) (R:Bool->Hp->Prop),aG H1 H->(∀H',aG H H'->R (f n) H')->tc (some (.int n)::rest) H R)
  (fin:∀D H,aG H1 H->H1 D=none->H D=some (.lst ((ns.filter f).map V.int))->Q (.ref D) H):dQ U₀ (cw 0) tc (bj 0) Q (N3 K a) H1:=by
 refine qG (ws:=ns) (enc:=V.int) f Dt.int (λU=>∃v,U=v::rest) hn h0 (λi H hi sm=>IX (sm.seq ha) (by rw[za];exact hi)) (λH sm=>{_,sm.seq ha,by rw[za];exact zm _}) ?_ ?_ ?_
 ·rintro i x H H2 hi sm ⟨rfl,hy⟩
  let hx':=hy _ (sm.seq ha);rw[zM,zd hi] at hx';cases hx';exact{(rfl),rfl}
 ·rintro n U H R N hn s1 ⟨v,rfl⟩ hR hN
  refine turn n H _ s1 λH' s'=>?_;cases q:f n with
  | true=>exact bW rfl {_,rfl,hR q _ _ _ s' cX {_,rfl}}
  | false=>exact bX rfl (hN q _ _ s' {_,rfl})
 ·intro D vs H s1 nD hD il
  rw[eQ il] at hD;exact fin D H s1 nD hD
def Uw (r:Rep):Prop:=0<=r.first/\r.first<=r.last/\r.last<24/\2<=r.times/\r.times<=9/\⇑r.ends<=9/\∀e∈r.ends,r.first<=e.1/\e.1<=r.last
def lA (lo hi:Int) (n:Nat) (bs:List Int):Prop:=⇑bs<=n/\∀b∈bs,lo<=b/\b<=hi
def lA.app {lo hi:Int} {n m:Nat} {a b:List Int} (h:lA lo hi n a) (k:lA lo hi m b):lA lo hi (n+m) (a++b):=
 {by rw[zh];exact Nat.add_le_add h.1 k.1,λx hx=>(zI.mp hx).elim (h.2 x) (k.2 x)}
def lA.mono {lo hi lo' hi':Int} {n m:Nat} {a:List Int} (h:lA lo hi n a) (l:lo'<=lo) (u:hi<=hi') (k:n<=m):lA lo' hi' m a:=
 {zO h.1 k,λx hx=>{Int.le_trans l (h.2 x hx).1,Int.le_trans (h.2 x hx).2 u}}
def Kv {i j lo hi:Int} (a:lo<=i) (b:j-1<=hi) {n:Nat} (k:(j-i).toNat<=n):lA lo hi n (pV i (j-i).toNat):=by
 unfold pV;refine{by rw[za,zU];exact k,λx hx=>?_};let⟨t,ht,rfl⟩:=zJ.mp hx;have:=yS.mp ht;ext
def P7 {r:Rep} (h:Uw r):⇑(fK r)<=9/\∀x∈fK r,(r.first<=x.1/\x.1<=r.last)/\r.first-1<=x.2.1/\x.2.1<=r.last:=by
 let⟨_,h2,_,_,_,h6,h7⟩:=h;unfold fK;refine{by rw[za,xB];ext,λx hx=>?_};let⟨⟨e,b⟩,hz,rfl⟩:=zJ.mp hx;let⟨z1,z2⟩:=wy hz;refine{h7 e z1,?_};rcases zI.mp z2 with z | z
 ·let⟨e',he,rfl⟩:=zJ.mp z
  have:=h7 e' (List.mem_of_mem_drop he);show r.first-1<=e'.1-1/\e'.1-1<=r.last;ext
 ·cases zC.mp z
  show r.first-1<=r.last+1-1/\r.last+1-1<=r.last;ext
def VI (x:Int×Int):Prop:=LB x/\x.2 ∣ 960
def Qs (j:Nat) (t:Int×Int):Prop:=Lm.Rd t/\t.2 ∣ 960/\t.1<=32*j*t.2
def QM:Qs 0 (0,1):={.zero,{960,rfl},∅}
def Uk {t b s M:Int} (hb:0<b) (hM:0<M) (h:t*M=s*b):(red t b).2 ∣ M:=by
 rw[Ti hb hM h];let⟨g,_,_,e,_⟩:=jr (t:=s) hM;exact{g,by rw[xD];exact e}
def SS {j:Nat} {t y:Int×Int} (h:Qs j t) (hy:VI y):Qs (j+1) (Lm.add t y):=by
 let⟨h1,⟨p,ep⟩,h3⟩:=h;let⟨⟨y1,y2,y3,y4⟩,⟨q,eq⟩⟩:=hy;let⟨t0,t1,_⟩:=h1.pos;let⟨_,w1,_⟩:=y1.pos;let hb:0<t.2*y.2:=xA t1 w1;refine{h1.add y1,Uk (s:=t.1*p+y.1*q) hb ∅ ?_,?_}
 ·rw[Int.add_mul,Int.add_mul]
  congr 1
  ·rw[ep];simp only[wX,xD,wL]
  ·rw[eq];simp only[wX,xD,wL]
 ·let⟨g,g0,e1,e2,_⟩:=jr (t:=t.1*y.2+y.1*t.2) hb
  let a:t.1*y.2<=32*j*t.2*y.2:=wR h3 (xa w1);let b:y.1*t.2<=32*y.2*t.2:=wR () (xa t1);let c:t.1*y.2+y.1*t.2<=32*((j+1:Nat):Int)*(t.2*y.2):=by
   let e:32*((j+1:Nat):Int)*(t.2*y.2)=32*j*t.2*y.2+32*y.2*t.2:=by
    rw[Int.natCast_add,Int.mul_add,Int.add_mul]
    congr 1
    ·simp only[wX]
    ·show 32*1*(t.2*y.2)=_
     simp only[Int.mul_one,wX,xD t.2 y.2]
   rw[e];ext
  unfold Lm.add;generalize red (t.1*y.2+y.1*t.2) (t.2*y.2)=r at e1 e2;rw[e1,e2] at c;refine Int.le_of_mul_le_mul_left (a:=g) ?_ g0;rw[wL];exact c
def R5 {j:Nat} {t:Int×Int} (h:Qs j t) (hj:j<=16777216):(0<=t.1/\t.1<=515396075520)/\0<t.2/\t.2<=960:=by
 let⟨h1,h2,h3⟩:=h;let⟨t0,t1,_⟩:=h1.pos;let d:=Int.le_of_dvd ∅ h2;refine{{t0,?_},t1,d};let a:32*(j:Int)*t.2<=32*16777216*960:=wa () d (xa t1) ∅;exact Int.le_trans h3 a
noncomputable def HD (S:cq) (l:List Nat):Int×Int:=l.foldl (λt b=>Lm.add t (S.len b)) (0,1)
def EC (S:cq) (l:List Nat) (b:Nat):HD S (l++[b])=Lm.add (HD S l) (S.len b):=by unfold HD;rw[z9];rfl
def LL {S:cq} {n:Nat} (h:∀b,b<n->VI (S.len b)):∀{l:List Nat},(∀b∈l,b<n)->∀i,Qs (min i ⇑l) (HD S (l.take i)):=by
 intro l hl i
 induction i with
 | zero=>rw[wH,Nat.zero_min];exact QM
 | succ i ih=>
  by_cases c:i<⇑l
  ·rw[dm (zd c),EC,show min (i+1) ⇑l=min i ⇑l+1 from by ext]
   exact SS ih (h _ (hl _ (yn c)))
  ·rw[xx (),show min (i+1) ⇑l=min i ⇑l from by ext]
   rw[xx ()] at ih;exact ih
def C2 (S:cq) (l:List Nat) (H:Hp) (i:Nat) (v:V):Prop:=∃a q c b,v=.ref a/\H a=some (.tup [.int (b:Nat),.ref q,.int c])/\H q=some (fY (HD S (l.take i)))/\l[i]?=some b
def C2.mono {S:cq} {l:List Nat} {H H':Hp} (s:aG H H') {i:Nat} {v:V} (h:C2 S l H i v):C2 S l H' i v:=by
 let⟨a,q,c,b,h1,h2,h3,h4⟩:=h;exact{a,q,c,b,h1,s _ _ h2,s _ _ h3,h4}
theorem C2.upd {S:cq} {l:List Nat} {H:Hp} {D:vD} {o:HO} (hD:cN (H D)) {i:Nat} {v:V} (h:C2 S l H i v):C2 S l (L2.upd H D o) i v:=by
 let⟨a,q,c,b,h1,h2,h3,h4⟩:=h;exact{a,q,c,b,h1,by rw[aE λe=>hD _ (e▸h2)];exact h2,by rw[aE λe=>hD _ (e▸h3)];exact h3,h4}
end Sc
namespace K22
open PySem L2 Lm Sc
def top (i:Nat):Stmt:=PySem.Challenge.pw_partsmith_k25_playing_refused.main.body.getD i (.Pass {0,0,0,0})
abbrev DB:=top 10
abbrev Dw:=top 11
abbrev tq:=top 14
abbrev DD:=top 15
abbrev QZ:=top 16
abbrev Te:=top 17
abbrev MN:=top 18
abbrev pj:=top 19
abbrev FN:=top 25
abbrev pP:=top 26
abbrev HW:=top 27
abbrev Km:=top 37
abbrev Ks:=top 38
abbrev HU:=top 39
abbrev FL:=top 40
abbrev Du:=top 41
abbrev HS:=top 42
abbrev HR:=top 43
abbrev FP:=top 44
abbrev Kn:=top 45
abbrev Ko:=top 46
abbrev DA:=top 47
abbrev q9:=top 48
abbrev FJ:=top 49
abbrev Kp:=top 50
abbrev Dv:=top 51
abbrev HX:=top 52
abbrev FO:=top 53
abbrev Dy:=top 54
abbrev HV:=top 55
abbrev vY:=top 57
abbrev pO:=top 58
abbrev MO:=top 59
abbrev Kr:=top 60
abbrev Ds:=top 61
abbrev Bh:=top 62
abbrev HY:=top 63
abbrev HZ:=top 64
abbrev Bo:=top 65
abbrev Ib:=top 66
abbrev Ia:=top 67
abbrev Bl:=top 76
abbrev Dq:=top 77
abbrev Bm:=top 78
abbrev Kq:=top 79
abbrev Bj:=top 80
abbrev pQ:=top 81
abbrev Dr:=top 82
abbrev Ic:=top 83
abbrev Bg:=top 84
abbrev FR:=top 85
abbrev DC:=top 86
abbrev Bi:=top 87
abbrev FQ:=top 88
abbrev pR:=top 90
abbrev Kt:=top 91
abbrev MP:=top 92
abbrev FK:=top 93
abbrev nN:=top 95
abbrev uO:=top 96
abbrev ra:=top 97
abbrev Bp:=top 98
abbrev tw:=top 99
abbrev OK:=top 100
abbrev FI:=top 101
abbrev OL:=top 102
abbrev mG:=top 103
abbrev Bk:=top 104
abbrev nK:=top 105
abbrev Bt:=top 107
abbrev FT:=top 108
abbrev Ab:=top 109
abbrev DE:=top 110
abbrev v8:=top 111
abbrev Ac:=top 112
abbrev Bu:=top 113
abbrev tD:=top 114
abbrev Ad:=top 115
abbrev Aa:=top 116
abbrev Bs:=top 117
abbrev rk:=top 118
abbrev Bq:=top 119
abbrev FU:=top 120
abbrev Br:=top 121
abbrev nc:=top 122
abbrev vZ:=top 123
abbrev pT:=top 124
abbrev tE:=top 125
abbrev pS:=top 126
abbrev tF:=top 127
abbrev rj:=top 128
abbrev rg:=top 129
abbrev Ae:=top 130
abbrev FV:=top 131
abbrev U5:=top 132
abbrev rm:=inClass (top 75) 0
structure Df (K:yB) (mg:Str->Option vv) (x:Str) (st:Stmt) (a:vD) (d:vC) (ps:List Str):Prop where
 F:QB K x x st a d
 g:mg x=some (.ref a)
 b:Binds K d ps []
structure Xq (K:yB) (x y:Str) (st:Stmt) (a:vD) (d:vC) (ps:List Str):Prop where
 F:QB K x y st a d
 b:Binds K d ps []
set_option genInjectivity false in
set_option genSizeOf false in
structure Txt (K:yB) (mg:Str->Option vv) where
 (Ep Eo uD Er RY Uu NP kE G5 qJ JN Lr Lx JM G4 En JL JK G6 Ls Lu gU eR iY mi gR kb iZ gS ka AG CO NQ Lw Em CN JO JP CT JR JQ CQ El CS Lv gw eE gQ kc gr i7 gW gs i6 CU Ly NR G3 ox vG sH CV uE Qq G1 Qr m7 CP ou C0 G7 AK Es AI AL C1 uF AM AJ CZ sL CW G8 CY nr AH qL uG qK uH sJ sI AN G9 VE mj mh eD eI jf rD cS jH cb lj dP lz:vD)
 (Ec DZ um Ee RO Up Nx kC GD qC Jv K4 Lc Jt GC DX Js Jr GG K6 K7 Eb sk GA K8 DY Jw GF Ea Ju Av K5 NA Lb DW Ck Jx Jy Cr JA Jz Cp DU Cq K9 Cn qD DV JB Cj GI Ed Cm GH La Ld NC GB om uZ so Cs uo Qf Gz Qg mY Co oj Cw GJ Az Ef Ax AA Cy uq AB Ay Cv sA Ct GK Cu ng Aw qF uw qE uz su sr AD GL Qh sC:vC)
 (MF sR C6 A5 C7 vH Fl A8 sQ A9 vI Ba Fm A7 pG HA Fo Fn A6:Tok)
 dJ:Df K mg "read_number" DB Ep Ec ["text","most"]
 fO:Df K mg "read_signed" Dw Eo DZ ["text","most"]
 dH:Df K mg "common_divisor" tq uD um ["one","other"]
 dz:Df K mg "made_length" DD Er Ee ["top","bottom"]
 added:Df K mg "added" QZ RY RO ["one","other"]
 less:Df K mg "less" Te Uu Up ["one","other"]
 AQ:Df K mg "shorter" MN NP Nx ["one","other"]
 eV:Df K mg "read_length" pj kE kC ["text"]
 jt:Df K mg "read_pitch" FN G5 GD ["fifths_text","steps_text"]
 dZ:Df K mg "read_item_length" pP qJ qC ["text"]
 tI:Df K mg "read_item" HW JN Jv ["text"]
 words_of:Df K mg "words_of" Km Lr K4 ["row"]
 dI:Df K mg "all_read" Ks Lx Lc ["values"]
 fg:Df K mg "read_name" HU JM Jt ["word"]
 dh:Df K mg "read_plain" FL G4 GC ["word"]
 jR:Df K mg "read_within" Du En DX ["word","lowest","highest"]
 tH:Df K mg "read_time" HS JL Js ["word"]
 tG:Df K mg "read_turn" HR JK Jr ["fifths_word","steps_word"]
 pY:Df K mg "read_metre" FP G6 GG ["word"]
 BD:Df K mg "read_key" Kn Ls K6 ["word"]
 BE:Df K mg "read_end" Ko Lu K7 ["word"]
 jU:Df K mg "read_player" DA gU Eb ["words"]
 fJ:Df K mg "read_instrument" q9 eR sk ["words"]
 lL:Df K mg "read_staff" FJ iY GA ["words"]
 rC:Df K mg "read_bar" Kp mi K8 ["words"]
 jS:Df K mg "read_upbeat" Dv gR DY ["words"]
 oF:Df K mg "read_hold" HX kb Jw ["words"]
 lM:Df K mg "read_notes" FO iZ GF ["words"]
 jT:Df K mg "read_repeat" Dy gS Ea ["words"]
 oE:Df K mg "read_jump" HV ka Ju ["words"]
 ku:Df K mg "is_score_word" vY AG Av ["word"]
 BC:Df K mg "read_row" pO CO K5 ["words"]
 AX:Df K mg "ends_of" MO NQ NA ["repeat"]
 Cc:Df K mg "ends_fit" Kr Lw Lb ["repeat"]
 nO:Df K mg "repeat_fits" Ds Em DW ["repeats","repeat"]
 iM:Df K mg "repeat_round" Bh CN Ck ["repeats","bar"]
 tZ:Df K mg "may_leave" HY JO Jx ["repeats","bar"]
 oN:Df K mg "may_enter" HZ JP Jy ["repeats","bar"]
 iW:Df K mg "in_last_pass" Bo CT Cr ["repeats","bar"]
 uA:Df K mg "coda_fits" Ib JR JA ["repeats","at","coda"]
 ue:Df K mg "jump_fits" Ia JQ Jz ["repeats","jump"]
 iS:Df K mg "metre_length" Bl CQ Cp ["score","bar"]
 gX:Df K mg "told_length" Dq El DU ["score","bar"]
 lX:Df K mg "items_length" Bm CS Cq ["items"]
 kY:Df K mg "has_bars" Kq Lv K9 ["score","bars"]
 iP:Df K mg "player_fault" Bj gw Cn ["score","player"]
 fj:Df K mg "instrument_fault" pQ eE qD ["score","told"]
 gY:Df K mg "staff_fault" Dr gQ DV ["score","told"]
 oS:Df K mg "bar_fault" Ic kc JB ["score","told"]
 fZ:Df K mg "upbeat_fault" Bg gr Cj ["score","length"]
 lZ:Df K mg "hold_fault" FR i7 GI ["score","told"]
 jX:Df K mg "notes_fault" DC gW Ed ["score","told"]
 iO:Df K mg "repeat_fault" Bi gs Cm ["score","repeat"]
 lW:Df K mg "jump_fault" FQ i6 GH ["score","jump"]
 Cb:Df K mg "fault_of" pR CU La ["score","sort","told"]
 CM:Df K mg "add_hold" Kt Ly Ld ["score","told"]
 G0:Df K mg "add_row" MP NR NC ["score","sort","told"]
 pX:Df K mg "read_score" FK G3 GB ["text"]
 md:Df K mg "check_player" nN ox om ["score","player"]
 uB:Df K mg "check_bar" uO vG uZ ["score","bar"]
 CJ:Df K mg "bar_length" ra sH so ["score","bar"]
 iX:Df K mg "bars_of_pass" Bp CV Cs ["repeat","number"]
 jI:Df K mg "bars_of_repeat" tw uE uo ["repeat","once"]
 walked:Df K mg "walked" OK Qq Qf ["score","first","last","once"]
 pF:Df K mg "taken_bars" FI G1 Gz ["score"]
 KC:Df K mg "played" OL Qr Qg ["score"]
 ky:Df K mg "instrument_at" mG m7 mY ["score","player","bar"]
 lT:Df K mg "notes_played" Bk CP Co ["score","player"]
 rV:Df K mg "late_changes" nK ou oj ["score","player"]
 cH:Df K mg "_law_cell_at" Bt C0 Cw ["_law_script","_law_k"]
 cG:Df K mg "_law_mixed" FT G7 GJ ["_law_cell","_law_k"]
 fH:Df K mg "_law_names_by" Ab AK Az ["_law_cell","_law_many"]
 fV:Df K mg "_law_lowest" DE Es Ef ["_law_top","_law_bottom"]
 kG:Df K mg "_law_pitch_by" v8 AI Ax ["_law_m"]
 kJ:Df K mg "_law_items_by" Ac AL AA ["_law_m","_law_length"]
 mr:Df K mg "_law_bars_by" Bu C1 Cy ["_law_cell","_law_many"]
 jJ:Df K mg "_law_length_of" tD uF uq ["_law_bars","_law_upbeat","_law_bar"]
 kK:Df K mg "_law_holds_by" Ad AM AB ["_law_cell","_law_players","_law_instruments","_law_many"]
 kI:Df K mg "_law_notes_by" Aa AJ Ay ["_law_cell","_law_players","_law_bars","_law_upbeat"]
 mq:Df K mg "_law_ends_by" Bs CZ Cv ["_law_m","_law_first","_law_last","_law_times"]
 iG:Df K mg "_law_repeats_by" rk sL sA ["_law_cell","_law_many"]
 i9:Df K mg "_law_lasting" Bq CW Ct ["_law_repeats","_law_bar"]
 mn:Df K mg "_law_inner" FU G8 GK ["_law_repeats","_law_bar"]
 mm:Df K mg "_law_jump_by" Br CY Cu ["_law_cell","_law_many","_law_repeats"]
 fw:Df K mg "_law_instruments_by" nc nr ng ["_law_cell"]
 kF:Df K mg "_law_score_by" vZ AH Aw ["_law_script","_law_most"]
 dE:Df K mg "_law_length_text" pT qL qF ["_law_length"]
 jK:Df K mg "_law_item_text" tE uG uw ["_law_item"]
 gM:Df K mg "_law_repeat_text" pS qK qE ["_law_repeat"]
 jL:Df K mg "_law_form_rows" tF uH uz ["_law_s"]
 iF:Df K mg "_law_score_rows" rj sJ su ["_law_s"]
 iE:Df K mg "_law_score_text" rg sI sr ["_law_s"]
 kL:Df K mg "_law_class_of" Ae AN AD ["_law_caught"]
 eZ:Df K mg "_law_asked" FV G9 GL ["_law_score","_law_what","_law_player","_law_bar"]
 WS:Df K mg "law" U5 VE Qh ["_law_script"]
 QK:mg "Score"= some (.ref mh)
 R0:Mk K mh mj
 C3:Xq K "__init__" "Score.__init__" rm mj sC ["self"]
 NJ:mg "FIGURES"= some (.str "0123456789" MF)
 ly:mg "LENGTH_FIGURES"= some (.int (4) sR)
 Eh:mg "HIGHEST_KEY"= some (.int (7) C6)
 CC:mg "OCTAVE_STEPS"= some (.int (12) A5)
 Ei:mg "FIFTH_STEPS"= some (.int (7) C7)
 m6:mg "PITCH_FIGURES"= some (.int (2) vH)
 GQ:mg "NAME_SIGNS"= some (.str "abcdefghijklmnopqrstuvwxyz0123456789" Fl)
 CG:mg "LONGEST_NAME"= some (.int (12) A8)
 lq:mg "NUMBER_FIGURES"= some (.int (3) sQ)
 CH:mg "HIGHEST_TURN"= some (.int (12) A9)
 AF:mg "HIGHEST_METRE"= some (.int (32) vI)
 AE:mg "METRE_BOTTOMS"= some (.ref eI)
 mU:∀H,qM K H eI [.int 1,.int 2,.int 4,.int 8,.int 16,.int 32]
 CI:mg "FEWEST_TIMES"= some (.int (2) Ba)
 GR:mg "MOST_TIMES"= some (.int (9) Fm)
 Fc:mg "READERS"= some (.ref jf)
 CF:mg "MOST_PLAYERS"= some (.int (12) A7)
 qI:mg "MOST_INSTRUMENTS"= some (.int (12) pG)
 JF:mg "MOST_BARS"= some (.int (200) HA)
 GU:mg "MOST_HOLDS"= some (.int (20) Fo)
 GS:mg "MOST_ITEMS"= some (.int (40) Fn)
 CD:mg "MOST_REPEATS"= some (.int (20) A6)
 Qi:mg "FAULTS"= some (.ref rD)
 Gi:mg "ValueError"= none
 Sm:mg "abs"= none
 L5:mg "all"= none
 BY:mg "any"= none
 hJ:mg "enumerate"= none
 Pn:mg "int"= none
 dN:mg "isinstance"= none
 bP:mg "len"= none
 qt:mg "list"= none
 Vi:mg "min"= none
 de:mg "range"= none
 Vh:mg "set"= none
 IJ:mg "sorted"= none
 fG:mg "str"= none
 Sl:mg "sum"= none
 lU:mg "tuple"= none
 Pl:mg "zip"= none
 l8:PySem.W.nsIn K mainGlobals "NoLength"= some (some (.ref eD))
 lP:PySem.W.excIn K eD [.type "ValueError",.type "Exception",.type "BaseException",.type "object"] "ValueError.__new__"= true
 J6:mg "NoLength"= some (.ref eD)
 cf:Cf K mh
 Fj:mg "ScoreError"= some (.ref cS)
 J7:mg "BadScore"= some (.ref jH)
 J5:mg "NoPlayer"= some (.ref cb)
 My:mg "NoStaff"= some (.ref lj)
 QL:mg "NoBar"= some (.ref dP)
 Mz:mg "BadDeed"= some (.ref lz)
 Gv:PySem.W.nsIn K mainGlobals "ScoreError"= some (some (.ref cS))
 F0:PySem.W.excIn K cS [.type "ValueError",.type "Exception",.type "BaseException",.type "object"] "ValueError.__new__"= true
 K3:PySem.W.nsIn K mainGlobals "NoPlayer"= some (some (.ref cb))
 Kz:PySem.W.excIn K cb [.type "ValueError",.type "Exception",.type "BaseException",.type "object"] "ValueError.__new__"= true
 RH:PySem.W.nsIn K mainGlobals "NoBar"= some (some (.ref dP))
 Ra:PySem.W.excIn K dP [.type "ValueError",.type "Exception",.type "BaseException",.type "object"] "ValueError.__new__"= true
 DQ:PySem.W.mroIn K cS (.type "BaseException")=some true
 Gm:∃dd cd sl,K.lookup cS=some {.type "type",dd,.cls cd,sl}
 iR:Xg K cS
 pC:Xe K cb cS
 Fi:Xe K dP cS
 oW:m8 K cb eD
 oX:m8 K cb jH
 qx:m8 K cb lj
 tV:m8 K cb dP
 qz:m8 K cb lz
 tX:m8 K dP eD
 tY:m8 K dP jH
 tW:m8 K dP cb
 Ap:m8 K dP lj
 Aq:m8 K dP lz
def bQ {X:Cx} {x:Str} {st:Stmt} {k n:Nat} {f:vD} {fd:vC} {ps:List Str} {sp:Sp} {e:Expr} {es:List Expr} {t:TA} {p pos:Pos} (F:dy X.prog X.w X.K X.mg X.base JX k f fd ps sp) (hr:fM n X.A) (D:Df X.K X.mg x st f fd ps)
  (ha:PA X (e::es) t) (hk:k<=n<|>qb_) (hg:Gl X x<|>qe_) (hdb:(x == ("__debug__": Str))=false<|>qb_) (he:starEach (e::es) X.env=(false,eval e X.env)::starEach es X.env<|>qe_) (hpl:(backTo pos (starEach es X.env)).any (·.1)=false<|>qe_) :
  PE X (.Call (.Name x p) (e::es) [] pos) (gz sp [] E0 t):=LY F (hr.mono hk) hg D.g D.F.kp D.b .nil L3 ha hdb he hpl
def Sj {X:Cx} {CX:JZ} {E:XK} {x:Str} {st:Stmt} {k n:Nat} {f:vD} {fd:vC} {ps:List Str} {sp:Sp} {e:Expr} {es:List Expr} {t:TA} {p pos:Pos} (F:dy X.prog X.w X.K X.mg X.base CX k f fd ps sp) (hr:fM n X.A) (D:Df X.K X.mg x st f fd ps) (hx:Passes CX X E)
  (ha:PA X (e::es) t) (hk:k<=n<|>qb_) (hg:Gl X x<|>qe_) (hdb:(x == ("__debug__": Str))=false<|>qb_) (he:starEach (e::es) X.env=(false,eval e X.env)::starEach es X.env<|>qe_) (hpl:(backTo pos (starEach es X.env)).any (·.1)=false<|>qe_) :
  PE X (.Call (.Name x p) (e::es) [] pos) (gz sp [] E t):=LY F (hr.mono hk) hg D.g D.F.kp D.b .nil hx ha hdb he hpl
def fB {X:Cx} {a b:Expr} {ta tb:TE} {pos:Pos} (ha:PE X a ta) (hb:PE X b tb) (hs:sM b<|>qj_):PE X (.Subscript a b pos) (fW (Q7 X.K) ta tb):=BH Ma ha hb hs
def bJ {X:Cx} {a b:Expr} {ta tb:TE} {pos:Pos} (ha:PE X a ta) (hb:PE X b tb) (hs:sM b<|>qj_):PE X (.Subscript a b pos) (fW (qd X.K) ta tb):=BH T5 ha hb hs
def ptr {X:Cx} {a b:Expr} {ta tb:TE} {pos:Pos} {op:CmpOp} {r:R2} (ho:oy X (compareOp op) r) (ha:PE X a ta) (hb:PE X b tb) (h:op≠.In<|>qb_) (h2:op≠.NotIn<|>qb_):PT X (.Compare a [op] [b] pos) (o6 (fW r ta tb)):=gd ho ha hb (gE b h h2)
def Lo (p:St) (n:Nat) (U:St):Prop:=∃e:Nat->Option V,U=p++(List.range n).map e
def Lo.of {p:St} {n:Nat} {U:St} (h:U.take ⇑p=p) (l:U.length=⇑p+n):Lo p n U:=by
 refine{λi=>U[⇑p+i]?.join,List.ext_getElem? λi=>?_}
 by_cases c:i<⇑p
 ·rw[wm c]
  conv=>rhs;rw[<-h]
  rw[List.getElem?_take_of_lt c]
 ·rw[ya (),zM]
  by_cases d:i-⇑p<n
  ·rw[List.getElem?_range d]
   have:⇑p+(i-⇑p)=i:=()
   simp only[xn,this];rw[zd ()];rfl
  ·rw[wN (),wN (by simp;ext)]
   rfl
abbrev At (b:yB->TS) (K:yB):TS:=b K
abbrev Sq (b:yB->TS) (K:yB) (D:Ends):Ends:={D with nx:=b K D}
abbrev Dz (Q:VK):Ends:={nx:=λ_ H'=>Q .bT H',rt:=Q}
def Ev (t:TE) (U:St) (H:Hp) (v:V):Prop:=∀Q:VK,Q v H->t U H Q
def QG (t:TA) (U:St) (H:Hp) (vs:List V):Prop:=∀R:List V->Hp->Prop,R vs H->t U H R
def SG (t:TT) (U:St) (H:Hp) (b:Bool):Prop:=∀R:Bool->Hp->Prop,R b H->t U H R
inductive WY (K:yB) (f:Str) (x:V) (H:Hp) (Q:VK):Prop
 | mk (a C dx:vD) (fs:List (Str×V)) (v:V) (_:x=.ref a) (_:H a=some (.ins C dx fs)) (_:SH K C) (_:e9 K C f) (_:fs.lookup f=some v) (_:Q v H)
section
variable {t u:TE} {ta:TA} {c:TT} {wi:TI} {a b:TS} {gt:TG} {D:Ends} {U:St} {H:Hp} {v x y:V} {vs:List V} {g:Int->Int->V} {i j:Int} {r:R2} {Q:VK} {R:List V->Hp->Prop} {S:Bool->Hp->Prop} {k:Bool} {K:yB} {p:vD} {xs:List V}
def Ue {n:Nat} (e:U[n]?=some (some v)):Ev (bj n) U H v:=λ_ q=>{(v),e,q}
def W4:Ev (tC v) U H v:=λ_ q=>q
def Vx (a:Ev t U H (.int i)) (b:Ev u U H (.int j)):Ev (fW (qP g) t u) U H (g i j):=λ_ q=>a _ (b _ {_,_,rfl,rfl,q})
def Vw {C:Int->Int->Prop} (a:Ev t U H (.int i)) (b:Ev u U H (.int j)) (c:C i j):Ev (fW (rI C g) t u) U H (g i j):=λ_ q=>a _ (b _ {_,_,rfl,rfl,c,q})
def Vv (a:Ev t U H (.ref p)) (b:Ev u U H (.int j)) (h:H p=some (.tup xs)) (e:Ek xs j=some v):Ev (fW (qd K) t u) U H v:=λ_ q=>a _ (b _ {_,_,_,_,rfl,rfl,bC h,e,q})
def Uh:QG fc U H []:=λ_ q=>q
def RE (a:Ev t U H v) (b:QG ta U H vs):QG (cj t ta) U H (v::vs):=λ_ q=>a _ (b _ q)
def Ui (a:Ev t U H v):Ev (Ou t) U H (.bl (decide (v=.bT))):=λ_ q=>a _ q
def RD (a:Ev t U H v):Ev (Ot t) U H (.bl (!decide (v=.bT))):=λ_ q=>a _ q
def Ug (a:Ev t U H (.bl k)):Ev (UZ t) U H (.bl (!k)):=λ_ q=>a _ {_,rfl,q}
def Vy (a:Ev t U H x) (b:Ev u U H y) (s:QX x y=true):Ev (fW WH t u) U H (.bl (decide (x=y))):=λ_ q=>a _ (b _ {(s),q})
def Vu (a:Ev t U H x) (b:Ev u U H y) (s:QX x y=true):Ev (fW WE t u) U H (.bl (!decide (x=y))):=λ_ q=>a _ (b _ {(s),q})
def WZ (a:Ev t U H (.bl k)):SG (o6 t) U H k:=λ_ q=>a _ {_,rfl,q}
def W5 (a:Ev t U H (.bl k)):SG (tB t) U H k:=λ_ q=>a _ {_,rfl,q}
def W3 (a:SG c U H k):SG (QN c) U H (!k):=λ_ q=>a _ q
def U6 (e:Ev t U H v) (q:gt v U H D.nx):Fq t gt D U H:=e _ q
def U4 (e:Ev t U H v) (q:D.rt v H):SU t D U H:=e _ q
def WA {a b:yB->TS} (e:SG c U H k) (q:if k=true then At a K D U H else At b K D U H):QO c (a K) (b K) D U H:=e _ q
def V3 {b:yB->TS} (q:a (Sq b K D) U H):Oo a (b K) D U H:=q
def V9 {n:Nat} {S:St->Hp->Prop} (q:S (U.set n (some v)) H):cw n v U H S:=q
def V6 {b:yB->TS} (q:b K D U H):(Sq b K D).nx U H:=q
def V5 (q:D.nx U H):R7 D U H:=q
def UP (q:t U H λx H1=>gt x U H1 D.nx):Fq t gt D U H:=q
def UM (q:t U H D.rt):SU t D U H:=q
def SJ (q:t U H λ_ H1=>D.nx U H1):R8 t D U H:=q
def V8 (q:c U H λz H1=>if z=true then a D U H1 else b D U H1):QO c a b D U H:=q
def Wa {a b:yB->TS} (q:c U H λz H1=>if z=true then At a K D U H1 else At b K D U H1):QO c (a K) (b K) D U H:=q
def U3 (e:SG c U H k) (q:S k H):c U H S:=e S q
def Xs (q:t U H λx H'=>∃k,x=.bl k/\S k H'):o6 t U H S:=q
def Xt (q:t U H λx H'=>∃k,x=.bl k/\S k H'):tB t U H S:=q
def We (e:Ev t U H v) (q:Q v H):t U H Q:=e Q q
def w_arg (e:QG ta U H vs) (q:R vs H):ta U H R:=e R q
def x_call {sp:Sp} {dv:List V} {E:XK} (q:ta U H λvs H1=>sp (vs++dv) H1 Q E):gz sp dv E ta U H Q:=q
def Wb {q':List V->Hp->VK->Prop} (q:ta U H λvs H1=>q' vs H1 Q):LM q' ta U H Q:=q
def UL (q:ta U H λxs H1=>⇑xs<=sizeLine/\∀p,H1 p=none->Q (.ref p) (upd H1 p (.tup xs))):MG ta U H Q:=q
def UN (q:ta U H λxs H1=>⇑xs<=sizeLine/\∀p,H1 p=none->Q (.ref p) (upd H1 p (.lst xs))):HC ta U H Q:=q
def SK {fr:List (Option Nat)} (q:wi U H λJ H1=>dQ (fr.map λo=>o.bind λj=>(U[j]?).join) gt c t Q J H1):nA fr wi gt c t U H Q:=q
def Wz {R:It->Hp->Prop} (e:Ev t U H (.ref p)) (q:(∃xs,gx K H p xs)/\R (N3 K p) H):Mc K t U H R:=e _ {_,rfl,q}
def V4 {R:It->Hp->Prop} (q:ta U H λvs H1=>∃j:Int,vs=[.int j]/\-(2^62)<=j/\j<2^62/\R (Qy 0 j.toNat) H1):PM ta U H R:=q
abbrev iJ (J:It):TI:=λ_ H R=>R J H
def Fr (g:TG) (b:TS) (D:Ends) (U:St) (J:It) (H:Hp):Prop:=SY (iJ J) g b D U H
def UO {b:yB->TS} (q:wi U H (Fr gt (At b K) D U)):SY wi gt (b K) D U H:=q
def x_at {b:yB->TS} (q:b K D U H):At b K D U H:=q
def V7 {R:It->Hp->Prop} (q:t U H λx H1=>∃a,x=.ref a/\(∃xs,gx K H1 a xs)/\R (N3 K a) H1):Mc K t U H R:=q
def Wn {R:It->Hp->Prop} (e:QG ta U H vs) (q:∃a xs,vs=[.ref a]/\gx K H a xs/\R (UA K a) H):So K ta U H R:=e _ q
def Wj {R:It->Hp->Prop} (e:QG ta U H vs) (q:∃j:Int,vs=[.int j]/\-(2^62)<=j/\j<2^62/\R (Qy 0 j.toNat) H):PM ta U H R:=e _ q
def SO {sp:Sp} {dv:List V} {E:XK} (e:QG ta U H vs) (q:sp (vs++dv) H Q E):gz sp dv E ta U H Q:=e _ q
def Wo {q':List V->Hp->VK->Prop} (e:QG ta U H vs) (q:q' vs H Q):LM q' ta U H Q:=e _ q
def Wi (e:QG ta U H vs) (q:⇑vs<=sizeLine/\∀p,H p=none->Q (.ref p) (upd H p (.tup vs))):MG ta U H Q:=e _ q
def Wm (e:QG ta U H vs) (q:⇑vs<=sizeLine/\∀p,H p=none->Q (.ref p) (upd H p (.lst vs))):HC ta U H Q:=e _ q
def U7 {d:TT} (e:SG c U H k) (q:if k=true then d U H S else S false H):S8 c d U H S:=e _ q
def Wy {d:TT} (e:SG c U H k) (q:if k=true then S true H else d U H S):Wv c d U H S:=e _ q
def UR {f:Str} (e:Ev t U H x) (q:WY K f x H Q):QP K t f U H Q:=e _ (by let⟨a,C,dx,fs,v,h1,h2,h3,h4,h5,h6⟩:=q;exact{(a),C,dx,fs,v,h1,h2,h3,h4,h5,h6})
def Wq {T:String} {q':V->List V->Hp->VK->Prop} (e:Ev t U H x) (q:Wr K T x H/\ta U H λxs H2=>q' x xs H2 Q):VW K T q' t ta U H Q:=e _ q
def US (e:Ev t U H (.bl k)) (q:if k=true then u U H Q else Q (.bl false) H):R9 t u U H Q:=e _ {_,rfl,q}
def Wk (e:Ev t U H (.bl k)) (q:if k=true then Q (.bl true) H else u U H Q):UY t u U H Q:=e _ {_,rfl,q}
def Wl (q:t U H λx H1=>u U H1 λy H2=>r x y H2 Q):fW r t u U H Q:=q
def SN (q:t U H λx H1=>ta U H1 λxs H2=>R (x::xs) H2):cj t ta U H R:=q
def Wc (e:Ev t U H x) (q:u U H λy H2=>r x y H2 Q):fW r t u U H Q:=e _ q
def SM (e:Ev t U H v) (q:ta U H λxs H2=>R (v::xs) H2):cj t ta U H R:=e _ q
def Wd (q:Q (g i j) H):qP g (.int i) (.int j) H Q:={(i),j,rfl,rfl,q}
def UQ (h:H p=some (.tup xs)) (e:Ek xs j=some v) (q:Q v H):qd K (.ref p) (.int j) H Q:={_,_,_,_,rfl,rfl,bC h,e,q}
end
def cT {g:TG} {tb:TS} {x:V} {U:St} {H:Hp} {A C:St->Hp->Prop} {B:VK} (h:∀N:Ends,(∀U H,A U H->N.nx U H)->(∀v H,B v H->N.rt v H)->(∀U H,A U H->N.ct U H)->(∀U H,C U H->N.bk U H)->g x U H λσ2 H2=>tb N σ2 H2):g x U H λσ2 H2=>tb {nx:=A,rt:=B,bk:=C,ct:=A} σ2 H2:=h _ (λ_ _ z=>z) (λ_ _ z=>z) (λ_ _ z=>z) λ_ _ z=>z
def Wg {r:Sp} {vs:List V} {H:Hp} {Q:VK} {E:XK} (h:∀Q':VK,(∀v H',Q v H'->Q' v H')->r vs H Q' E):r vs H Q E:=h Q λ_ _ z=>z
def Wh {r:R2} {x y:V} {H:Hp} {Q:VK} (h:∀Q':VK,(∀v H',Q v H'->Q' v H')->r x y H Q'):r x y H Q:=h Q λ_ _ z=>z
def Wf {r:V->Hp->VK->Prop} {x:V} {H:Hp} {Q:VK} (h:∀Q':VK,(∀v H',Q v H'->Q' v H')->r x H Q'):r x H Q:=h Q λ_ _ z=>z
abbrev di (P:vz) (w:vA) (base:vE) (n:Nat) {K:yB} {mg:Str->Option vv} {x:Str} {st:Stmt} {a:vD} {d:vC} {ps:List Str} (_:Df K mg x st a d ps) (sp:Sp):Prop:=dy P w K mg base JX n a d ps sp
theorem _root_.L2.QB.Vf {P:vz} {w:vA} {K:yB} {mg:Str->Option vv} {base:vE} {x qual:Str} {st:Stmt} {f:vD} {fd:vC} {N ps:List Str} {k:Nat} {sp:Sp} (F:QB K x qual st f fd) (S:dY N ps (aT st))
  (hbody:∀(cdv:vv) (A:vB) (outer:List Env) (s:vw) (H:Hp) (vs:List V) (Q:VK) (E:XK),fM k (A.deeper (PyProof.Rows.envOfC qual (aT st) ↑s f cdv))->sp vs H Q E->
   ∃t,C5 (jF JX P w K mg base N qual (aT st) f cdv A outer s H E).JY (cF st) t/\t (Dz Q) (start N vs) H)
  (len:(∀vs H Q E,sp vs H Q E->⇑vs=⇑ps)<|>qk_):dy P w K mg base JX (k+1) f fd ps sp:=F.ok S len hbody
def WL {P:vz} {w:vA} {K:yB} {mg:Str->Option vv} {base:vE} {x:Str} {st:Stmt} {f:vD} {fd:vC} {N ps:List Str} {k:Nat} {sp:Sp} (D:Df K mg x st f fd ps) (S:dY N ps (aT st))
  (hbody:N.Nodup->∀(cdv:vv) (A:vB) (outer:List Env) (s:vw) (H:Hp) (vs:List V) (Q:VK) (E:XK),fM k (A.deeper (PyProof.Rows.envOfC x (aT st) ↑s f cdv))->sp vs H Q E->
   ∃t,C5 (jF JX P w K mg base N x (aT st) f cdv A outer s H E).JY (cF st) t/\t (Dz Q) (start N vs) H)
  (len:(∀vs H Q E,sp vs H Q E->⇑vs=⇑ps)<|>qk_):dy P w K mg base JX (k+1) f fd ps sp:=D.F.ok S len (hbody S.nd)
def QF {N P:List Str} {sc:Scope} (h1:sc.kind=.function<|>qe_) (h2:sc.isCoroutine=false<|>qe_) (h3:sc.isGenerator=false<|>qe_) (h4:N.Nodup<|>ql_) (h5:N.take P.length=P<|>qe_) (h6:(∀x∈P,sc.names.lookup x=some .local\/sc.names.lookup x=some .cell)<|>ql_) (h7:(∀y∈sc.names,y.2≠.free)<|>ql_):dY N P sc:={(h1),h2,h3,h4,h5,h6,h7}
def d7 {X:Cx} {x:Str} {id:String} {r:List V->Hp->VK->Prop} {e:Expr} {es:List Expr} {t:TA} {p pos:Pos} (hc:fo X (.builtin id) r) (hm:X.mg x=none) (ha:PA X (e::es) t) (hg:Gl X x<|>qe_) (hv:bootBuiltins x=some (.builtin id)<|>ql_) (hn:x≠ "__name__"<|>qb_) (hdb:(x == ("__debug__": Str))=false<|>qb_)
  (he:starEach (e::es) X.env=(false,eval e X.env)::starEach es X.env<|>qe_) (hpl:(backTo pos (starEach es X.env)).any (·.1)=false<|>qe_):PE X (.Call (.Name x p) (e::es) [] pos) (LM r t):=Pd hc hg hm hv ha hn hdb he hpl
def nV {X:Cx} {x:Str} {id:String} {r:List V->Hp->VK->Prop} {e:Expr} {es:List Expr} {t:TA} {p pos:Pos} (hc:fo X (.type id) r) (hm:X.mg x=none) (ha:PA X (e::es) t) (hg:Gl X x<|>qe_) (hv:bootBuiltins x=some (.type id)<|>ql_) (hn:x≠ "__name__"<|>qb_) (hdb:(x == ("__debug__": Str))=false<|>qb_)
  (he:starEach (e::es) X.env=(false,eval e X.env)::starEach es X.env<|>qe_) (hpl:(backTo pos (starEach es X.env)).any (·.1)=false<|>qe_):PE X (.Call (.Name x p) (e::es) [] pos) (LM r t):=M0 hc hg hm hv ha hn hdb he hpl
def bO {X:Cx} {x:Str} {e:Expr} {te:TE} {pos pos':Pos} (i:Nat) (hN:X.N.Nodup) (he:PE X e te) (hi:X.N[i]?=some x<|>qe_) (hx:Loc X.env.scope x<|>qi_) (hs:swapsWith e (some (.Name x pos')) pos.line X.env=pure false<|>qe_) (hf:X.fn x=true\/X.env.scope.names.lookup x=some .local<|>qa_) :
  PS X (.Assign [.Name x pos'] e pos) (Fq te (cw i)):=O2 hN hi hx he hs hf
def jg {X:Cx} {x:Str} {pos:Pos} (i:Nat) (hN:X.N.Nodup) (hi:X.N[i]?=some x<|>qe_) (hx:Loc X.env.scope x<|>qi_) (hf:X.fn x=true\/X.env.scope.names.lookup x=some .local<|>qa_):PG X (.Name x pos) (cw i):=LX hN hi hx hf
def gO {X:Cx} {ts ys:List Str} {scope:Scope} {cl:List (Str×vD)} {C:vD} {s₀:vw} {H₀:Hp} {ex:List vD} {x:Str} {pos:Pos} (i:Nat) (hN:(ts++ys).Nodup<|>ql_) (hi:(ts++ys)[i]?=some x<|>qe_) (hx:Loc (cY X (ts++ys) scope cl C s₀ H₀ ex).env.scope x<|>qi_) (hf:(cY X (ts++ys) scope cl C s₀ H₀ ex).fn x=true\/(cY X (ts++ys) scope cl C s₀ H₀ ex).env.scope.names.lookup x=some .local<|>qa_):PG (cY X (ts++ys) scope cl C s₀ H₀ ex) (.Name x pos) (cw i):=LX hN hi hx hf
def Xn (X:Cx) (e:Expr) (t:TE):Prop:=∀(pins:List (vD×Obj)) (s:vw) (U:St) (H:Hp) (Q:VK),Inv X pins U H s->t U H Q->wpAny (model X.prog X.w) X.A (eval e X.env) (EP X pins U Q) X.xe s
section
variable {X:Cx} {pos:Pos} {elt target iter:Expr} {ifs:List Expr} {scope:Scope} {ts ys:List Str} {js:List Nat} {cl:List (Str×vD)} {wi:TI} {g:TG} {tc:TT} {te:TE}
def oJ (hi:PI X target iter wi) (hg:∀{C s₀ H₀ ex},PG (cY X (ts++ys) scope cl C s₀ H₀ ex) target g) (hif:∀{C s₀ H₀ ex},RZ (cY X (ts++ys) scope cl C s₀ H₀ ex) ifs tc) (he:∀{C s₀ H₀ ex},Xn (cY X (ts++ys) scope cl C s₀ H₀ ex) elt te)
  (hclos:closureFor scope X.env=pure cl<|>qe_) (hc:X.calm=true<|>qe_) (hcl:Hf X.env.cells cl<|>qm_)
  (hLo:((relabel scope X.env).names.all λp=>(p.2 != .cell&&p.2 != .free)||ys.contains p.1||scope.names.contains (p.1,.cell))=true<|>qe_) (hno:(∀p∈scope.names,p.2=.cell->p.1∉ys)<|>ql_)
  (hfr:NW X scope cl ys js<|>qm_)
  (hkind:scope.kind=.function<|>qe_) (hnames:(∀y∈scope.names,y.2=.local->scope.names.lookup y.1=some .local)<|>ql_) (hs:(∀x,foldedSetIterable iter X.env x=pure x)<|>qd_) :
  PE X (.ListComp elt [{target,iter,ifs,0}] scope pos) (nA (ts.map (λ_=>none)++js.map some) wi g tc te):=Pc hc hclos hcl hLo hno hfr hkind hnames hi (λ_ _ _ _=>hg) (λ_ _ _ _=>hif) (λ_ _ _ _=>he) hs
def Rj {i:Nat} {x:Str} {ps pa:Pos} (hi:PI X target iter wi) (hg:∀{C s₀ H₀ ex},PG (cY X (ts++ys) scope cl C s₀ H₀ ex) target g) (hif:∀{C s₀ H₀ ex},RZ (cY X (ts++ys) scope cl C s₀ H₀ ex) ifs tc) (he:∀{C s₀ H₀ ex},Xn (cY X (ts++ys) scope cl C s₀ H₀ ex) elt te) (hN:X.N.Nodup)
  (hclos:closureFor scope X.env=pure cl<|>qe_) (hc:X.calm=true<|>qe_) (hcl:Hf X.env.cells cl<|>qm_)
  (hLo:((relabel scope X.env).names.all λp=>(p.2 != .cell&&p.2 != .free)||ys.contains p.1||scope.names.contains (p.1,.cell))=true<|>qe_) (hno:(∀p∈scope.names,p.2=.cell->p.1∉ys)<|>ql_)
  (hfr:NW X scope cl ys js<|>qm_)
  (hkind:scope.kind=.function<|>qe_) (hnames:(∀y∈scope.names,y.2=.local->scope.names.lookup y.1=some .local)<|>ql_) (hx1:X.N[i]?=some x<|>qe_) (hx2:Loc X.env.scope x<|>qi_) (hs:(∀x,foldedSetIterable iter X.env x=pure x)<|>qd_) (hsw:swapsWith (.ListComp elt [{target,iter,ifs,0}] scope pos) (some (.Name x ps)) pa.line X.env=pure true<|>qe_)
  (hf:X.fn x=true\/X.env.scope.names.lookup x=some .local<|>qa_) :
  PS X (.Assign [.Name x ps] (.ListComp elt [{target,iter,ifs,0}] scope pos) pa) (Fq (nA (ts.map (λ_=>none)++js.map some) wi g tc te) (cw i)):=O5 hc hclos hcl hLo hno hfr hkind hnames hi (λ_ _ _ _=>hg) (λ_ _ _ _=>hif) (λ_ _ _ _=>he) hN hx1 hx2 hs hsw hf
end
section
variable {P:vz} {w:vA} {K:yB} {mg:Str->Option vv} {base:vE} (T:Txt K mg)
local macro_rules | `(tactic|right) => `(tactic| (intro pp hn; generalize hG : upd _ pp _ = HH; have sm := aG.BV hG hn; have hh := CK hG; clear hG hn))
local macro_rules | `(tactic| intros $D:ident $n:ident $s:ident $h:ident $H:ident) => `(tactic| ((try refine ⟨yh _, ?_⟩); intro $D $n; generalize hG : upd _ $D _ = $H; have $s:ident := aG.BV hG $n; have $h:ident := CK hG; clear hG))
local macro_rules|`(tactic|ac_rfl)=>`(tactic|try dsimp only[jF,Cx.JY])
local macro_rules|`(tactic|intros $p:ident $H:ident $s:ident $h:ident)=>`(tactic|(intro $p hn;generalize hG:upd _ $p _=$H;have $s:ident:=aG.BV hG hn;have $h:ident:=CK hG;clear hG hn))
local macro_rules|`(tactic|change $e:term)=>`(tactic|(left ;exact $e))
set_option hygiene false
local macro_rules|`(tactic|fail "h")=>`(tactic|(refine aG.on (by assumption) ?_; fail "h"))
local macro_rules|`(tactic|fail "h")=>`(tactic|assumption)
local macro_rules|`(tactic|fail "e")=>`(tactic|((with_reducible apply Vw); fail "e"; fail "e"; (first | (show (0 : Int) < _; decide) | exact And.intro ∅ ∅ | exact Or.inl ⟨∅, by decide⟩ | exact Or.inr ⟨∅, by decide⟩)))
local macro_rules|`(tactic|fail "e")=>`(tactic|((with_reducible (first | apply Vy | apply Vu)); fail "e"; fail "e"; exact rfl))
local macro_rules|`(tactic|fail "e")=>`(tactic|((with_reducible (first | apply WZ | apply W5 | apply W3 | apply Ui | apply RD | apply Ug)); fail "e"))
local macro_rules|`(tactic|fail "e")=>`(tactic|((with_reducible apply Vv); fail "e"; fail "e"; fail "h"; exact rfl))
local macro_rules|`(tactic|fail "e")=>`(tactic|((with_reducible (first | apply Vx | apply RE)); fail "e"; fail "e"))
local macro_rules|`(tactic|fail "e")=>`(tactic|with_reducible (first | exact W4 | exact Uh))
local macro_rules|`(tactic|fail "e")=>`(tactic|((with_reducible apply Ue); exact rfl))
local macro_rules | `(tactic| exists $es,*) => `(tactic| (left; first | ((with_reducible (first | refine Wg fun _ kq => ?_ | refine Wh fun _ kq => ?_ | refine Wf fun _ kq => ?_)); refine ⟨$es,*⟩; refine kq _ _ ?_) | refine ⟨$es,*⟩))
local macro_rules|`(tactic|fail "s")=>`(tactic|refine Or.inr ⟨_, rfl, ?_⟩)
local macro_rules|`(tactic|fail "s")=>`(tactic|refine ⟨Or.inr ⟨∅, by decide⟩, ?_⟩)
local macro_rules|`(tactic|fail "s")=>`(tactic|refine ⟨Or.inl ⟨∅, by decide⟩, ?_⟩)
local macro_rules|`(tactic|fail "s")=>`(tactic|refine ⟨(And.intro ∅ ∅), ?_⟩)
local macro_rules|`(tactic|fail "s")=>`(tactic|refine ⟨(by show (0 : Int) < _; decide), ?_⟩)
local macro_rules|`(tactic|fail "s")=>`(tactic|refine ⟨_, tag_tup (by fail "h"), ?_⟩)
local macro_rules|`(tactic|fail "s")=>`(tactic|refine ⟨_, _, _, _, rfl, rfl, bC (by fail "h"), rfl, ?_⟩)
local macro_rules|`(tactic|fail "s")=>`(tactic|refine WU ?_)
local macro_rules|`(tactic|fail "s")=>`(tactic|refine Vm ?_)
local macro_rules|`(tactic|fail "s")=>`(tactic|refine ⟨rfl, ?_⟩)
local macro_rules|`(tactic|fail "s")=>`(tactic|refine ⟨_, _, rfl, rfl, ?_⟩)
local macro_rules|`(tactic|fail "s")=>`(tactic|refine ⟨_, rfl, ?_⟩)
local macro_rules|`(tactic|fail "s")=>`(tactic|with_reducible (first | apply Wd | apply Xs | apply Xt | apply x_call | apply Wb | apply UL | apply UN | apply SK | apply V4 | apply V7 | apply Wl | apply SN))
local macro_rules|`(tactic|fail "s")=>`(tactic|((with_reducible apply UQ); fail "h"; exact rfl))
local macro_rules|`(tactic|fail "s")=>`(tactic|((with_reducible (first | apply SO | apply Wo | apply Wz | apply UR | apply Wq | apply US | apply Wk | apply Wc | apply SM | apply Wi | apply Wm | apply Wn | apply Wj | apply U7 | apply Wy | apply s_ie)); fail "e"))
local macro_rules|`(tactic|fail "s")=>`(tactic|((with_reducible apply U3); fail "e"))
local macro_rules|`(tactic|fail "s")=>`(tactic|((with_reducible apply w_arg); fail "e"))
local macro_rules|`(tactic|fail "s")=>`(tactic|((with_reducible apply We); fail "e"))
local macro_rules|`(tactic|fail "s")=>`(tactic|with_reducible (first | apply V3 (K := K) | apply V9 | apply V6 | apply V5 | apply x_at | apply UP | apply UM | apply SJ | apply Wa (K := K) | apply V8 | apply UO (K := K)))
local macro_rules|`(tactic|fail "s")=>`(tactic|((with_reducible (first | apply U6 | apply U4 | apply WA (K := K))); fail "e"))
local macro_rules | `(tactic|left) => `(tactic| ((repeat fail "s"); (first | (first | apply kN4 | apply kN3 | apply kN2 | apply kN1 | apply kN0 | apply kR4 | apply kR3 | apply kR2 | apply kR1 | apply kR0); left | skip)))
local macro_rules | `(tactic| nomatch $a:term, $b:term) => `(tactic| refine WL $a (N := $b) QF fun qN _ _ _ _ H vs Q E hr h => ?_)
set_option hygiene true
def rN:di P w base 1 T.dH jP:=by
 nomatch T.dH,["one","other","rest"]
 let⟨a,b,rfl,h1,h2,kk⟩:=h;refine{_,(ag (nS yP (ptr fP (pv 1) ae)
  (ag (bO 2 qN (aB aX (pv 0) (pv 1)))
   (ag (bO 0 qN (pv 1))
   (ak (bO 1 qN (pv 2))))))
  (ak (au (pv 0)))),?_}
 refine{λm U H'=>H'=H/\∃(x y:Int) (r:Option V),U=[some (.int x),some (.int y),r]/\0<=x/\0<=y/\Int.gcd x y=Int.gcd a b/\m=y.toNat,{_,rfl,a,b,none,rfl,h1,h2,rfl,rfl},?_};rintro m U H' ⟨rfl,x,y,r,rfl,hx,hy,hg,rfl⟩;left
 by_cases e:y=0
 ·subst e
  refine PJ rfl ?_;refine{_,rfl,?_};let e2:Int.gcd a b=x.natAbs:=by rw[<-hg];simp
  let e3:((Int.gcd a b:Nat):Int)=x:=by rw[e2];ext
  rw[e3] at kk;exact kk
 ·refine bW (by simp[e]) ?_
  refine{λU' H''=>∃m',m'<y.toNat/\H''=H'/\∃(x y:Int) (r:Option V),U'=[some (.int x),some (.int y),r]/\0<=x/\0<=y/\Int.gcd x y=Int.gcd a b/\m'=y.toNat,λ_ _ h=>h,?_};exists(by show(0:Int)<y;ext),?_;left;let hp:(0:Int)<y:=()
  let l1:=zA x (by omega:y≠0);let l2:=zw x hp;exact{(x%y).toNat,(),rfl,y,x%y,_,rfl,hy,l1,(IY hx hp).trans hg,rfl}
def jB:di P w base 2 T.dz gc:=by
 let G_common_divisor:di P w base 1 T.dH jP:=rN T
 nomatch T.dz,["top","bottom","divisor"]
 let⟨t,b,rfl,h1,h2,h3,kk⟩:=h;refine{_,(ag (bO 2 qN (bQ G_common_divisor hr T.dH (ah (pv 0) (ah (pv 1) af))))
  (ak (au (bM (ah (aB kQ (pv 0) (pv 2)) (ah (aB kQ (pv 1) (pv 2)) af)))))),?_}
 exists t,b,rfl,h1,xa h2,?_;let g0:=AW (t:=t) h2;let g1:Sz 8999 ((Int.gcd t b:Nat):Int):=h3.le (xa g0) (PU h2);exists{(g0),g1},?_;exists{(g0),g1},?_;refine{cO,laid λp H' sm hp=>kk p H' sm ?_};exact hp
def BU:di P w base 3 T.added OH:=by
 let G_made_length:di P w base 2 T.dz gc:=jB T
 nomatch T.added,["one","other"]
 let⟨x,y,p,q,n,m,rfl,hp,hq,rx,ry,sx,sy,hnm,kk⟩:=h;let⟨x1,x2,_⟩:=rx.pos;let⟨y1,y2,_⟩:=ry.pos;let bx1:Sz 20000 x.1:=sx.1.mono ();let bx2:Sz 20000 x.2:=sx.2.mono ();let by1:Sz 20000 y.1:=sy.1.mono ();let by2:Sz 20000 y.2:=sy.2.mono ();refine{_,(ak (au (bQ G_made_length hr T.dz (ah (aB bf (aB jV (bJ (pv 0) ae) (bJ (pv 1) ae)) (aB jV (bJ (pv 1) ae) (bJ (pv 0) ae))) (ah (aB jV (bJ (pv 0) ae) (bJ (pv 1) ae)) af))))),?_};exists{(bx1),by2},?_;exists{(by1),bx2},?_;exists{(bx2),by2},?_;refine{_,_,rfl,Int.add_nonneg (x9 x1 (xa y2)) (x9 y1 (xa x2)),xA x2 y2,(sx.2.mul sy.2).mono hnm,λr H' sm hr'=>kk r H' sm hr'}
def BM:di P w base 1 T.AQ Kf:=by
 nomatch T.AQ,["one","other"]
 let⟨x,y,p,q,rfl,hp,hq,sx,sy,kk⟩:=h;let bx1:Sz 20000 x.1:=sx.1.mono ();let bx2:Sz 20000 x.2:=sx.2.mono ();let by1:Sz 20000 y.1:=sy.1.mono ();let by2:Sz 20000 y.2:=sy.2.mono ();refine{_,(ak (au (dM eX (aB jV (bJ (pv 0) ae) (bJ (pv 1) ae)) (aB jV (bJ (pv 1) ae) (bJ (pv 0) ae)) (gE _)))),?_};exists{(bx1),by2},?_;exists{(by1),bx2},?_;change kk
def cg:di P w base 1 T.cG Dh:=by
 nomatch T.cG,["_law_cell","_law_k"]
 let⟨c,k,rfl,h1,h2,kk⟩:=h;refine{_,(ak (au (aB aX (aB d9 (aB d9 (aB bf (aB aX (pv 0) ae) ae) (aB bf (aB d9 (pv 1) (pv 1)) ae)) ae) ae))),?_};exists Or.inl {(()),()},?_;left;let e1:0<=c%2305843009213693951:=zA _ ∅;let e2:c%2305843009213693951<2305843009213693951:=zw _ ∅;refine{Or.inl {(()),()},?_};change kk
def gi:di P w base 1 T.fV Be:=by
 nomatch T.fV,["_law_top","_law_bottom","_law_one","_law_other"]
 let⟨t,b,rfl,h1,h2,h3,kk⟩:=h;let g0:=AW (t:=t) h2;let g1:Sz 8999 ((Int.gcd t b:Nat):Int):=h3.le (xa g0) (PU h2);refine{_,(ag (O3 (i:=2) (j:=3) rfl qN rfl rfl ∅ rfl rfl (ah (pv 0) (ah (pv 1) af)) rfl)
  (ag (nS yP (ptr fE (pv 3) ae)
  (ak (O3 (i:=2) (j:=3) rfl qN rfl rfl ∅ rfl rfl (ah (pv 3) (ah (aB aX (pv 2) (pv 3)) af)) rfl)))
  (ak (au (bM (ah (aB kQ (pv 0) (pv 2)) (ah (aB kQ (pv 1) (pv 2)) af))))))),?_}
 exists _,_,rfl,?_;refine{λm U H'=>H'=H/\∃(x y:Int),U=[some (.int t),some (.int b),some (.int x),some (.int y)]/\0<=x/\0<=y/\Int.gcd x y=Int.gcd t b/\m=y.toNat,{_,rfl,t,b,rfl,h1,xa h2,rfl,rfl},?_};rintro m U H' ⟨rfl,x,y,rfl,hx,hy,hg,rfl⟩;left
 by_cases e:y=0
 ·subst e
  refine bX (by simp) ?_;let e2:Int.gcd t b=x.natAbs:=by rw[<-hg];simp
  let e3:x=((Int.gcd t b:Nat):Int):=by rw[e2];ext
  subst e3;exists{(g0),g1},?_;exists{(g0),g1},?_;refine{cO,laid λp H' sm hp=>kk p H' sm ?_};exact hp
 ·let hp:(0:Int)<y:=()
  refine bW (zg hp) ?_;refine{λU' H''=>∃m',m'<y.toNat/\H''=H'/\∃(x y:Int),U'=[some (.int t),some (.int b),some (.int x),some (.int y)]/\0<=x/\0<=y/\Int.gcd x y=Int.gcd t b/\m'=y.toNat,λ_ _ h=>h,?_};exists(by show(0:Int)<y;ext),?_;refine{_,_,rfl,?_};let l1:=zA x (by omega:y≠0);let l2:=zw x hp;exact{(x%y).toNat,(),rfl,y,x%y,rfl,hy,l1,(IY hx hp).trans hg,rfl}
def eU:dY ["text","parts","top","bottom"] ["text"] (aT pj):=QF
def iD:di P w base 1 T.dJ iA:=by
 nomatch T.dJ,["text","most"]
 let⟨t,most,rfl,hl,kk⟩:=h;let sl:=yC;let hz:⇑t<=sizeLine:=()
 let el:⇑t.cps.toList=⇑t:=yQ;unfold rn at kk;rw[el] at kk;refine{_,(ag (aM (PW.pt (d4 (ptr eX (d7 gq T.bP (ah (pv 0) af)) ae) (dq (ptr fE (d7 gq T.bP (ah (pv 0) af)) (pv 1)))))
  (ak (au aW))
  aC)
  (ag (aM (fq (cP (d7 (oR rfl) T.L5 (ah (oJ (ts:=["sign"]) (ys:=[]) (js:=[]) (te:=(fW (λx y H Q=>∃i j,x=.str i/\y=.str j/\Q (.bl (!(Builtin.Str.occurrences j i 0 ⇑j 1).isEmpty)) H) (bj 0) (tC (.str "0123456789")))) (O8 (pv 0)) (gO 0) bE (dM EN (pv 0) (bK (v:=.str "0123456789") (by rfl) T.NJ {_,rfl}) (by with_unfolding_all rfl))) af))))
  (ak (au aW))
  aC)
  (ag (aM (PW.pt (dF (ptr c9 (BH Gn (pv 0) ae (λ_ _=>rfl)) aK) (cZ (ptr fE (d7 gq T.bP (ah (pv 0) af)) ae))))
  (ak (au aW))
  aC)
  (ak (au (nV GP T.Pn (ah (pv 0) af))))))),?_}
 exists hz,?_;left;refine Ar (λc1=>?_) (λc1=>?_)
 ·left
  let z:=kk H (aI H);rw[yO (yf c1)] at z;exact z
 let c1':¬(⇑t:Int)<1:=λz=>c1 (zg z);rw[yN c1'] at kk;exists hz,?_;left;refine Ar (λc2=>?_) (λc2=>?_)
 ·left
  let z:=kk H (aI H);rw[yO (yf c2)] at z;exact z
 let c2':¬most<(⇑t:Int):=λz=>c2 (zg z);rw[yN c2'] at kk;left;refine sD ⇑t (λi=>(t.cps.toList.take i).map λc=>V.bl (decide (c∈Au))) (λi U H'=>H'=H/\∃v,U=[v]) (λi hi=>by rw[za,zT];ext) () rfl {(rfl),none,rfl} (λi U H' hi _=>hi) (λU H' _=>zm _) ?_ ?_
 ·rintro i x U H1 H2 hi ⟨rfl,v,rfl⟩ ⟨rfl,c,hc,rfl⟩
  left;refine NX.push hi ?_ {rfl,_,rfl};rw[PySem.StrLaws.found_one];rw[<-xk] at hc;show List.map _ (List.take (i+1) t.cps.toList)=_;rw[xw,hc,zk];rfl
 ·rintro U H1 ⟨rfl,_⟩
  rw[<-el,zP];intros D H2 sm h2;refine{D,t.cps.toList.map (λc=>decide (c∈Au)),rfl,ao (by rw[h2,zD];rfl),?_};let ea:(t.cps.toList.map (λc=>decide (c∈Au))).all id=t.cps.toList.all (λc=>decide (c∈Au)):=by rw[wd];rfl
  rw[ea]
  by_cases ha:t.cps.toList.all (λc=>decide (c∈Au))=true
  ·rw[ha]
   rw[yO ha] at kk;left;let h1:0<t.cps.size:=by show 0<⇑t;ext
   obtain⟨c,hc⟩:∃c,t.cps[0]?=some c:={t.cps[0]'h1,Array.getElem?_eq_getElem h1}
   let hc':t.cps.toList[0]?=some c:=by rw[xk];exact hc
   rw[hc'] at kk;refine{_,0,c,rfl,rfl,hz,bx (j:=0) hc',?_};left;let rd:PySem.intText? t=some ((NumText.digitsVal t.cps.toList:Nat):Int):=PySem.intText_digits (Ll ha) (λz=>by rw[z] at el;simp at el;ext) ()
   by_cases e0:c=48
   ·subst e0
    refine bW ∅ ?_;exists hz,?_;left;refine Ar (λc3=>?_) (λc3=>?_)
    ·left
     let c3':1<⇑t:=by have:=yf c3;ext
     let z:=kk H2 sm;rw[yO {(rfl),c3'}] at z;exact z
    ·let c3':¬1<⇑t:=λz=>c3 (zg ())
     let z:=kk H2 sm;rw[yN (λq=>c3' q.2)] at z;change{_,_,rfl,rd,(),z}
   ·refine bX (ze λz=>e0 ?_) ?_
    ·let z':=V.str.inj z
     exact(List.cons.inj (show [c]=[48] from y6 (λy:Str=>y.cps.toList) z')).1
    let z:=kk H2 sm;rw[yN (λq=>e0 (ym q.1))] at z;change{_,_,rfl,rd,(),z}
  ·rw[yN ha] at kk
   rw[Bool.eq_false_iff.mpr ha];change kk H2 sm
def mK:di P w base 2 T.fO mC:=by
 let G_read_number:di P w base 1 T.dJ iA:=iD T
 nomatch T.fO,["text","most","number"]
 let⟨t,most,rfl,hl,kk⟩:=h;let sl:=yC;unfold rs at kk;refine{_,(ag (aM (fq (cP (bZ yG PySem.F.slot_str_startswith PySem.F.type_str_startswith DP (pv 0) (ah aK af))))
  (ak (au (bQ G_read_number hr T.dJ (ah (pv 0) (ah (pv 1) af)))))
  aC)
  (ag (bO 2 qN (bQ G_read_number hr T.dJ (ah (eW Kj (pv 0) (gf ae) gg) (ah (pv 1) af))))
  (ag (aM (PW.pt (d4 (bH (cJ (pv 2))) (dq (ptr c9 (pv 2) ae))))
  (ak (au aW))
  aC)
  (ak (au (mI iw (pv 2))))))),?_}
 left
 by_cases hn:t.cps.toList[0]?=some 45
 ·rw[yO hn] at kk
  let q:=(PySem.StrLaws.subAt_one t 45 0).mpr hn;let es:(decide (0+("-": Str).length<=⇑t)&&Builtin.Str.subAt t "-" 0)=true:=by
   rw[zQ];exact{zg q.1,q.2}
  rw[es];exists by ext,?_
  let h1:1<=⇑t:=by have:=q.1;let e:⇑({#[45]}:Str)=1:=rfl;ext
  let e1:(PySem.Txt.slice t (some 1) none).cps.toList=t.cps.toList.drop 1:=pN t h1;exists _,most,rfl,zO (PySem.Txt.slice_le t _ _) hl,λH1 s1=>?_;rw[e1];let z:=kk H1 s1;cases hr':rn most (t.cps.toList.drop 1) with
  | none=>
   rw[hr'] at z;change z
  | some n=>
   rw[hr'] at z;left
   by_cases e0:n=0
   ·subst e0
    refine bW ∅ ?_;change z
   ·refine bX (ze λy=>e0 (V.int.inj y)) ?_
    left;let z':Q (ov (if n=0 then none else some (-n))) H1:=z;rw[yN e0] at z';exact z'
 ·rw[yN hn] at kk
  let es:(decide (0+("-": Str).length<=⇑t)&&Builtin.Str.subAt t "-" 0)=false:=by
   rw[Bool.eq_false_iff];intro z;rw[zQ] at z;exact hn ((PySem.StrLaws.subAt_one t 45 0).mp {yf z.1,z.2})
  rw[es];change{t,most,rfl,hl,λH1 s1=>kk H1 s1}
def nX:di P w base 3 T.jt nG:=by
 let G_read_signed:di P w base 2 T.fO mC:=mK T
 nomatch T.jt,["fifths_text","steps_text","fifths","steps"]
 let⟨a,b,rfl,la,lb,kk⟩:=h;unfold rp at kk;refine{_,(ag (bO 2 qN (bQ G_read_signed hr T.fO (ah (pv 0) (ah (bK (v:=.int 2) (by rfl) T.m6 {_,rfl}) af))))
  (ag (bO 3 qN (bQ G_read_signed hr T.fO (ah (pv 1) (ah (bK (v:=.int 2) (by rfl) T.m6 {_,rfl}) af))))
  (ag (aM (PW.pt (d4 (bH (cJ (pv 2))) (dq (bH (cJ (pv 3))))))
  (ak (au aW))
  aC)
  (ag (aM (ptr fP (aB aX (aB iC (pv 3) (aB d9 (bK (v:=.int 7) (by rfl) T.Ei {_,rfl}) (pv 2))) (bK (v:=.int 12) (by rfl) T.CC {_,rfl})) ae)
  (ak (au aW))
  aC)
  (ak (au (bM (ah (pv 2) (ah (pv 3) af))))))))),?_}
 exists a,2,rfl,la,λH1 s1=>?_;exists b,2,rfl,lb,λH2 s2=>?_;let S2:=s1.trans s2;cases ea:rs 2 a with
 | none=>
  rw[ea] at kk;change kk .bT H2 S2 .bT
 | some f=>
  cases eb:rs 2 b with
  | none=>
   rw[ea,eb] at kk;change kk .bT H2 S2 .bT
  | some g=>
   rw[ea,eb] at kk;left
   by_cases hm:(g-7*f)%12=0
   ·refine PJ (y6 V.int hm) ?_
    left;refine{cO,laid λp H3 s3 hp=>kk (.ref p) H3 (S2.trans s3) ?_};show LA H3 (.ref p) (if(g-7*f)%12=0 then some (f,g) else none);rw[yO hm];exact .ref hp
   ·refine bW (by simp[hm]) ?_
    left;refine kk .bT H2 S2 ?_;show LA H2 .bT (if(g-7*f)%12=0 then some (f,g) else none);rw[yN hm];exact .bT
def mJ:dy P w K mg base (qT P w) 3 T.kE T.kC ["text"] (mz T.eD):=by
 let G_read_number:di P w base 1 T.dJ iA:=iD T;let G_made_length:di P w base 2 T.dz gc:=jB T;refine T.eV.F.UG eU (λvs H Q E h=>?_) (λcdv A' outer s H vs Q E hr h=>?_)
 ·let⟨_,rfl,_⟩:=h;rfl
 ·let⟨t,rfl,lt,k1,k2⟩:=h
  let sl:=yC;let pl:=PyProof.Rows.split_pos t "/";let sh:∀z∈Txt.split t "/",⇑z<=600:=λz hz=>zO (xQ hz) lt;refine{_,(ag (bO 1 eU.nd (bZ yG yK yJ jC (pv 0) (ah aK af)))
   (ag (aM (ptr fE (d7 aH T.bP (ah (pv 1) af)) ae)
   (ak (rF T.l8 T.lP PySem.F.excBase_ValueError rfl (ah aK af)))
   aC)
   (ag (bO 2 eU.nd (bQ G_read_number hr T.dJ (ah (fB (pv 1) ae) (ah (bK (v:=.int 4) (by rfl) T.ly {_,rfl}) af))))
   (ag (bO 3 eU.nd ae)
   (ag (aM (ptr c9 (d7 aH T.bP (ah (pv 1) af)) ae)
   (ak (bO 3 eU.nd (bQ G_read_number hr T.dJ (ah (fB (pv 1) ae) (ah (bK (v:=.int 4) (by rfl) T.ly {_,rfl}) af)))))
   aC)
   (ag (aM (PW.pt (d4 (bH (cJ (pv 2))) (d4 (bH (cJ (pv 3))) (dq (ptr c9 (pv 3) ae)))))
   (ak (rF T.l8 T.lP PySem.F.excBase_ValueError rfl (ah aK af)))
   aC)
   (ak (au (bQ G_made_length hr T.dz (ah (pv 2) (ah (pv 3) af))))))))))),?_}
  exists by ext,?_
  unfold QD at k1 k2;generalize Txt.split t "/"= ws at k1 k2 pl sh;intros p1 H1 s1 h1;exists p1,_,rfl,.inl (ao h1),?_
  match ws,pl,sh,k1,k2,h1 with
  | [a],_,sh,k1,k2,h1=>
   exists p1,_,0,_,rfl,rfl,ao h1,rfl,?_;exists a,4,rfl,sh a (by simp),λH2 s2=>?_;replace h1:=s2 _ _ h1;exists p1,_,rfl,.inl (ao h1),?_;cases ea:rn 4 a.cps.toList with
   | none=>
    simp only[ea] at k1 k2;left;refine{by show 1<=sizeLine;decide,k2 trivial H2 (s1.trans s2)}
   | some n=>
    simp only[ea] at k1 k2;let⟨n0,n1,_⟩:=OR ea ∅;change{_,_,rfl,n0,∅,(bR (n:=1) ∅ ∅).mono ∅,λp3 H3 s3 h3=>k1 _ rfl p3 H3 ((s1.trans s2).trans s3) h3}
  | [a,b],_,sh,k1,k2,h1=>
   exists p1,_,0,_,rfl,rfl,ao h1,rfl,?_;exists a,4,rfl,sh a (by simp),λH2 s2=>?_;replace h1:=s2 _ _ h1;exists p1,_,rfl,.inl (ao h1),?_;exists p1,_,1,_,rfl,rfl,ao h1,rfl,?_;exists b,4,rfl,sh b (by simp),λH3 s3=>?_;let S3:=(s1.trans s2).trans s3;cases ea:rn 4 a.cps.toList with
   | none=>
    simp only[ea] at k1 k2;change{by show 1<=sizeLine;decide,k2 trivial H3 S3}
   | some n=>
    cases eb:rn 4 b.cps.toList with
    | none=>
     simp only[ea,eb] at k1 k2;change{by show 1<=sizeLine;decide,k2 trivial H3 S3}
    | some m=>
     simp only[ea,eb] at k1 k2;let⟨n0,n1,_⟩:=OR ea ∅;let⟨m0,m1,_⟩:=OR eb ∅;left
     by_cases e0:m=0
     ·subst e0
      refine bW ∅ ?_;change{by show 1<=sizeLine;decide,k2 rfl H3 S3}
     ·rw[yN e0] at k1
      refine bX (ze λy=>e0 (V.int.inj y)) ?_;change{_,_,rfl,n0,(),(bR (n:=14) () ()).mono ∅,λp4 H4 s4 h4=>k1 _ rfl p4 H4 (S3.trans s4) h4}
  | a::b::c::r,_,sh,k1,k2,h1=>
   left;refine bW (zg (show(2:Int)<(⇑((a::b::c::r).map V.str):Int) by rw[za];simp only[zy];ext)) ?_;change{by show 1<=sizeLine;decide,k2 rfl H1 s1}
def g9:di P w base 4 T.dZ gZ:=by
 let G_read_length:dy P w K mg base (qT P w) 3 T.kE T.kC ["text"] (mz T.eD):=mJ T
 nomatch T.dZ,["text","length"]
 let⟨t,rfl,lt,kk⟩:=h;unfold lr at kk;refine{_,(ag (Rc G_read_length (hr.mono ∅) rfl T.eV.g T.eV.F.kp T.eV.b (ah (pv 0) af) rfl qN (i:=1) rfl (Or.inl rfl) rfl T.l8 T.lP rfl rfl rfl (λe=>(ak (au aW))))
  (ag (aM (ptr c9 (bJ (pv 1) ae) ae)
  (ak (au aW))
  aC)
  (ak (au (pv 1))))),?_}
 left;refine{lt,λx ex p1 H1 s1 h1=>?_,λen H1 s1=>{rfl,?_}}
 ·simp only[ex] at kk
  left
  by_cases e0:x.1=0
  ·refine bW (by rw[e0];rfl) ?_
   left;rw[yO e0] at kk;exact kk .bT H1 s1 .bT
  ·refine bX (ze λy=>e0 (V.int.inj y)) ?_
   left;rw[yN e0] at kk;exact kk (.ref p1) H1 s1 (.ref h1)
 ·simp only[en] at kk
  change kk .bT H1 s1 .bT
def Rv {ws:List Str} (h:1<=⇑ws):Ek (ws.map V.str) (-1)=some (.str (ws.getLast?.getD "")):=by
 let ne:ws≠[]:=λz=>by rw[z] at h;simp at h
 let e:=xW ne;let e2:ws.getLast?.getD ""= ws.getLast ne:=by rw[List.getLast?_eq_some_getLast ne];rfl
 rw[e2];let e3:ws.map V.str=ws.dropLast.map V.str++[V.str (ws.getLast ne)]:=by rw[<-List.map_singleton (f:=V.str),<-zk,e]
 rw[e3];exact CL _ _
def PB {ws:List Str} (h:1<=⇑ws):ws.getLast?.getD "" ∈ws:=by
 let ne:ws≠[]:=λz=>by rw[z] at h;simp at h
 rw[List.getLast?_eq_some_getLast ne];exact List.getLast_mem ne
def DF:di P w base 5 T.tI o7:=by
 let G_read_item_length:di P w base 4 T.dZ gZ:=g9 T;let G_read_pitch:di P w base 3 T.jt nG:=nX T
 nomatch T.tI,["text","parts","length","pitch"]
 let⟨t,rfl,lt,kk⟩:=h;let sl:=yC;let pl:=PyProof.Rows.split_pos t ":";let sh:∀z∈Txt.split t ":",⇑z<=600:=λz hz=>zO (xQ hz) lt;unfold ir at kk;refine{_,(ag (bO 1 qN (bZ yG yK yJ jC (pv 0) (ah aK af)))
  (ag (bO 2 qN (bQ G_read_item_length hr T.dZ (ah (fB (pv 1) (mI iw ae)) af)))
  (ag (aM (bH (cJ (pv 2)))
  (ak (au aW))
  aC)
  (ag (aM (PW.pt (dF (ptr c9 (d7 aH T.bP (ah (pv 1) af)) ae) (cZ (ptr c9 (fB (pv 1) ae) aK))))
  (ak (au (bM (ah aW (ah (pv 2) af)))))
  aC)
  (ag (aM (ptr fP (d7 aH T.bP (ah (pv 1) af)) ae)
  (ak (au aW))
  aC)
  (ag (bO 3 qN (bQ G_read_pitch hr T.jt (ah (fB (pv 1) ae) (ah (fB (pv 1) ae) af))))
  (ag (aM (bH (cJ (pv 3)))
  (ak (au aW))
  aC)
  (ak (au (bM (ah (pv 3) (ah (pv 2) af)))))))))))),?_}
 exists by ext,?_
 generalize Txt.split t ":"= ws at kk pl sh;intros p1 H1 s1 h1;exists p1,_,-1,_,rfl,rfl,ao h1,Rv pl,?_;refine{_,rfl,sh _ (PB pl),λv H2 s2 hv=>?_};let h2:=s2 _ _ h1;let S2:=s1.trans s2;generalize lr (ws.getLast?.getD "")=o at kk hv;cases hv with
 | bT=>
  change kk .bT H2 S2 rfl
 | @ref p2 x hx=>
  let kk':∀v H',aG H H'->R3 H' v (if ws.dropLast=[("r": Str)] then some (none,x) else match ws.dropLast with
   | [a,b]=>(match rp a b with | some q=>some (some q,x) | none=>none)
   | _=>none)->Q v H':=kk
  clear kk;exists p1,_,rfl,.inl (ao h2),?_
  match ws,pl,sh,kk',h2 with
  | [a],_,sh,kk,h2=>
   exists p1,_,rfl,.inl (ao h2),?_;change kk .bT H2 S2 rfl
  | [a,b],_,sh,kk,h2=>
   exists p1,_,0,_,rfl,rfl,ao h2,rfl,?_;left
   by_cases ea:a ="r"
   ·subst ea
    refine bW ∅ ?_;change{cO,laid λp3 H3 s3 h3=>kk (.ref p3) H3 (S2.trans s3) {p3,_,p2,rfl,h3,s3 _ _ hx,.bT}}
   ·refine bX (ze λz=>ea (V.str.inj z)) ?_
    exists p1,_,rfl,.inl (ao h2),?_;left;refine kk .bT H2 S2 ?_;rw[yN (by intro z;exact ea (List.cons.inj z).1)];rfl
  | [a,b,c],_,sh,kk,h2=>
   exists p1,_,rfl,.inl (ao h2),?_;exists p1,_,0,_,rfl,rfl,ao h2,rfl,?_;exists p1,_,1,_,rfl,rfl,ao h2,rfl,?_;refine{a,b,rfl,sh a (by simp),sh b (by simp),λv H3 s3 hv=>?_};let kk2:∀v H',aG H H'->R3 H' v (match rp a b with | some q=>some (some q,x) | none=>none)->Q v H':=λv H' s' z=>kk v H' s' (by
    rw[yN (by intro y;simp at y)];exact z)
   generalize rp a b=o at kk2 hv;cases hv with
   | bT=>
    change kk2 .bT H3 (S2.trans s3) rfl
   | @ref p4 q hq=>
    change{cO,laid λp5 H5 s5 h5=>kk2 (.ref p5) H5 ((S2.trans s3).trans s5) {p5,_,p2,rfl,h5,s5 _ _ (s3 _ _ hx),.ref (s5 _ _ hq)}}
  | a::b::c::d::r,_,sh,kk,h2=>
   exists p1,_,rfl,.inl (ao h2),?_;left;refine kk .bT H2 S2 ?_;rw[yN (by intro y;simp at y)];rfl
def Iw:di P w base 1 T.words_of HG:=by
 nomatch T.words_of,["row"]
 let⟨t,rfl,hl,kk⟩:=h;let sl:=yC;let ple:=PyProof.Rows.split_le t " ";refine{_,(ak (au (oJ (ts:=["word"]) (ys:=[]) (js:=[]) (g:=(cw 0)) (tc:=(o6 (fW WE (bj 0) (tC (.str ""))))) (te:=(bj 0)) (bB (bZ yG yK yJ jC (pv 0) (ah aK af))) (gO 0) (iQ (ptr fP (pv 0) aK)) (pv 0)))),?_};ac_rfl;exists by ext,?_
 unfold words at kk;generalize Txt.split t " "= ws at kk ple;intros p1 H1 s1 h1;refine{p1,rfl,{_,ao h1},?_};refine sD ⇑ws (λi=>((ws.take i).filter λw=>decide (w≠("": Str))).map V.str) (λi U H'=>H'=H1/\∃v,U=[v]) ?_ () rfl {(rfl),none,rfl} ?_ ?_ ?_ ?_
 ·intro i hi
  rw[za];exact zO (xj _ _) (by rw[zT];ext)
 ·rintro i U H' hi ⟨rfl,_⟩
  exact IX (ao h1) (by rw[za];exact hi)
 ·rintro U H' ⟨rfl,_⟩
  exact{_,ao h1,by rw[za];exact zm _}
 ·rintro i x U H' H2 hi ⟨rfl,v,rfl⟩ ⟨rfl,hy⟩
  let hx:=hy _ (ao h1);rw[zM,zd hi] at hx;cases hx;left
  by_cases e:ws[i] =""
  ·refine bX (by rw[e];rfl) ?_
   refine NX.skip hi ?_ {rfl,_,rfl};show List.map V.str (List.filter _ (List.take (i+1) ws))=List.map V.str (List.filter _ (List.take i ws));rw[xw,zd hi,e,yY];simp
  ·refine bW (by rw[ze λz=>e (V.str.inj z)];rfl) ?_
   left;refine NX.push hi ?_ {rfl,_,rfl};show List.map V.str (List.filter _ (List.take (i+1) ws))=List.map V.str (List.filter _ (List.take i ws))++[V.str ws[i]];rw[xw,zd hi,yY,zk];have:List.filter (λw=>decide (w≠("": Str))) (Option.toList (some ws[i]))=[ws[i]]:=by simp[e]
   rw[this];rfl
 ·rintro U H' ⟨rfl,_⟩
  rw[zP];exact laid λp H' sm h=>kk p H' (s1.trans sm) h
def cC:di P w base 2 T.dh kh:=by
 nomatch T.dh,["word"]
 let⟨t,rfl,hl,kk⟩:=h;refine{_,(ak (au (bQ (iD T) hr T.dJ (ah (pv 0) (ah (bK (v:=.int (3)) (by rfl) T.lq {_,rfl}) af))))),?_};ac_rfl;change{_,_,rfl,hl,kk}
def eA:di P w base 1 T.fg lE:=by
 nomatch T.fg,["word"]
 let⟨t,rfl,hl,kk⟩:=h;let sl:=yC;let hz:⇑t<=sizeLine:=()
 let el:⇑t.cps.toList=⇑t:=yQ;unfold cM at kk;refine{_,(ag (aM (PW.pt (d4 (ptr eX (d7 gq T.bP (ah (pv 0) af)) ae) (dq (ptr fE (d7 gq T.bP (ah (pv 0) af)) (bK (v:=.int (12)) (by rfl) T.CG {_,rfl})))))
  (ak (au aW))
  aC)
  (ag (aM (fq (cP (d7 (oR rfl) T.L5 (ah (oJ (ts:=["sign"]) (ys:=[]) (js:=[]) (te:=(fW (λx y H Q=>∃i j,x=.str i/\y=.str j/\Q (.bl (!(Builtin.Str.occurrences j i 0 ⇑j 1).isEmpty)) H) (bj 0) (tC (.str "abcdefghijklmnopqrstuvwxyz0123456789")))) (O8 (pv 0)) (gO 0) bE (dM EN (pv 0) (bK (v:=.str "abcdefghijklmnopqrstuvwxyz0123456789") (by rfl) T.GQ {_,rfl}) (by with_unfolding_all rfl))) af))))
  (ak (au aW))
  aC)
  (ak (au (pv 0))))),?_}
 ac_rfl;exists hz,?_;left;refine Ar (λc1=>?_) (λc1=>?_)
 ·left
  let z:=kk H (aI H);rw[yO (yf c1)] at z;exact z
 let c1':¬(⇑t:Int)<1:=λz=>c1 (zg z);rw[yN c1'] at kk;exists hz,?_;left;refine Ar (λc2=>?_) (λc2=>?_)
 ·left
  let z:=kk H (aI H);rw[yO (yf c2)] at z;exact z
 let c2':¬(12:Int)<(⇑t:Int):=λz=>c2 (zg z);rw[yN c2'] at kk;left;refine sD ⇑t (λi=>(t.cps.toList.take i).map λc=>V.bl (decide (c∈sgn))) (λi U H'=>H'=H/\∃v,U=[v]) (λi hi=>by rw[za,zT];ext) () rfl {(rfl),none,rfl} (λi U H' hi _=>hi) (λU H' _=>zm _) ?_ ?_
 ·rintro i x U H1 H2 hi ⟨rfl,v,rfl⟩ ⟨rfl,c,hc,rfl⟩
  left;refine NX.push hi ?_ {rfl,_,rfl};rw[PySem.StrLaws.found_one];rw[<-xk] at hc;show List.map _ (List.take (i+1) t.cps.toList)=_;rw[xw,hc,zk];rfl
 ·rintro U H1 ⟨rfl,_⟩
  rw[<-el,zP];intros D H2 s2 h2;refine{D,t.cps.toList.map (λc=>decide (c∈sgn)),rfl,ao (by rw[h2,zD];rfl),?_};let ea:(t.cps.toList.map (λc=>decide (c∈sgn))).all id=t.cps.toList.all (λc=>decide (c∈sgn)):=by rw[wd];rfl
  rw[ea]
  by_cases ha:t.cps.toList.all (λc=>decide (c∈sgn))=true
  ·rw[ha]
   rw[yO ha] at kk;change kk _ s2
  ·rw[yN ha] at kk
   rw[show t.cps.toList.all (λc=>decide (c∈sgn))=false from by simpa using ha];change kk _ s2
def nY:di P w base 3 T.jR Bd:=by
 nomatch T.jR,["word","lowest","highest","number"]
 let⟨t,lo,hi,rfl,hl,kk⟩:=h;unfold mH at kk;refine{_,(ag (bO 3 qN (bQ (cC T) hr T.dh (ah (pv 0) af)))
  (ag (aM (PW.pt (d4 (bH (cJ (pv 3))) (d4 (ptr eX (pv 3) (pv 1)) (dq (ptr fE (pv 3) (pv 2))))))
  (ak (au aW))
  aC)
  (ak (au (pv 3))))),?_}
 ac_rfl;exists hl,λH1 s1=>?_;cases e:fN t with
 | none=>
  rw[e] at kk;change kk _ s1
 | some n=>
  rw[e] at kk;left
  by_cases c1:n<lo
  ·refine bW (zg c1) ?_
   simp only[yO c1] at kk;change kk _ s1
  ·refine bX (ze c1) ?_
   simp only[yN c1] at kk;left
   by_cases c2:hi<n
   ·refine bW (zg c2) ?_
    simp only[yO c2] at kk;change kk _ s1
   ·refine bX (ze c2) ?_
    simp only[yN c2] at kk;change kk _ s1
def F7:di P w base 4 T.tH Fz:=by
 nomatch T.tH,["word"]
 let⟨t,rfl,hl,kk⟩:=h;refine{_,(ak (Rb (mJ T) (hr.mono ∅) rfl T.eV.g T.eV.F.kp T.eV.b (ah (pv 0) af) rfl rfl T.l8 T.lP rfl rfl rfl (λe=>(ak (au aW))))),?_};ac_rfl;left;refine{hl,λx e p H1 s1 h1=>?_,λe H1 s1=>{rfl,?_}}
 ·rw[e] at kk
  exact kk _ H1 s1 (.ref h1)
 ·rw[e] at kk
  change kk _ H1 s1 .bT
def F6:di P w base 4 T.tG Fy:=by
 nomatch T.tG,["fifths_word","steps_word","turn"]
 let⟨a,b,rfl,la,lb,kk⟩:=h;unfold By at kk;refine{_,(ag (bO 2 qN (bQ (nX T) hr T.jt (ah (pv 0) (ah (pv 1) af))))
  (ag (aM (PW.pt (d4 (bH (cJ (pv 2))) (dq (ptr fE (d7 JE T.Sm (ah (bJ (pv 2) ae) af)) (bK (v:=.int (12)) (by rfl) T.CH {_,rfl})))))
  (ak (au aW))
  aC)
  (ak (au (pv 2))))),?_}
 ac_rfl;exists _,_,rfl,la,lb,λv H1 s1 h1=>?_;cases e:rp a b with
 | none=>
  rw[e] at kk h1;cases h1;change kk _ _ s1 .bT
 | some q=>
  rw[e] at kk h1;cases h1 with
  | ref h1=>
   left;refine Ar (λc=>?_) (λc=>?_)
   ·simp only[yO (yf c)] at kk
    change kk _ _ s1 .bT
   ·simp only[yN (λz=>c (zg z))] at kk
    change kk _ _ s1 (.ref h1)
def IA:di P w base 3 T.BD HK:=by
 nomatch T.BD,["word","key"]
 let⟨t,rfl,hl,kk⟩:=h;unfold Ii at kk;refine{_,(ag (bO 1 qN (bQ (mK T) hr T.fO (ah (pv 0) (ah (bK (v:=.int (3)) (by rfl) T.lq {_,rfl}) af))))
  (ag (aM (PW.pt (d4 (bH (cJ (pv 1))) (dq (ptr fE (d7 JE T.Sm (ah (pv 1) af)) (bK (v:=.int (7)) (by rfl) T.Eh {_,rfl})))))
  (ak (au aW))
  aC)
  (ak (au (pv 1))))),?_}
 ac_rfl;exists _,_,rfl,hl,λH1 s1=>?_;cases e:rs 3 t with
 | none=>
  rw[e] at kk;change kk _ s1
 | some n=>
  rw[e] at kk;left;refine Ar (λc=>?_) (λc=>?_)
  ·simp only[yO (yf c)] at kk
   change kk _ s1
  ·simp only[yN (λz=>c (zg z))] at kk
   change kk _ s1
def eK:di P w base 1 T.dI (Dg K):=by
 nomatch T.dI,["values"]
 let⟨a,us,rfl,ha,hl,kk⟩:=h;let sl:=yC;refine{_,(ag (aM (cP (d7 (gL rfl) T.BY (ah (oJ (ts:=["value"]) (ys:=[]) (js:=[]) (te:=(Ou (bj 0))) (bB (pv 0)) (gO 0) bE (tN (cJ (pv 0)))) af)))
  (ak (au aW))
  aC)
  (ak (au (pv 0)))),?_}
 ac_rfl;exists{_,ha},?_;refine fk (enc:=λv=>v) (ws:=us) (λv=>.bl (gA v)) (λU=>∃v,U=[v]) () (by rw[List.map_id'];exact ha) {(none),rfl} ?_ ?_
 ·rintro v U H1 R hv s1 ⟨_,rfl⟩ r
  change r _ _ _ (aI _) (by unfold Is;rfl) {_,rfl}
 ·intro D vs H1 s1 hD il
  let e:us.map (λv=>Dt.bl (gA v))=(us.map gA).map Dt.bl:=by rw[zD];rfl
  rw[e] at il;rw[kr il] at hD;refine{D,us.map gA,rfl,ao hD,?_};let e2:(us.map gA).any id=us.any gA:=by rw[wF];rfl
  rw[e2];cases q:us.any gA with
  | true=>
   rw[q] at kk;change kk _ s1
  | false=>
   rw[q] at kk;change kk _ s1
def fF:di P w base 1 T.dI De:=by
 nomatch T.dI,["values"]
 let⟨a,us,rfl,ha,hl,kk⟩:=h;let sl:=yC;refine{_,(ag (aM (cP (d7 (gL rfl) T.BY (ah (oJ (ts:=["value"]) (ys:=[]) (js:=[]) (te:=(Ou (bj 0))) (ko (pv 0)) (gO 0) bE (tN (cJ (pv 0)))) af)))
  (ak (au aW))
  aC)
  (ak (au (pv 0)))),?_}
 ac_rfl;exists{_,bC ha},?_;refine gK (enc:=λv=>v) (ws:=us) (λv=>.bl (gA v)) (λU=>∃v,U=[v]) () (by rw[List.map_id'];exact ha) {(none),rfl} ?_ ?_
 ·rintro v U H1 R hv s1 ⟨_,rfl⟩ r
  change r _ _ _ (aI _) (by unfold Is;rfl) {_,rfl}
 ·intro D vs H1 s1 hD il
  let e:us.map (λv=>Dt.bl (gA v))=(us.map gA).map Dt.bl:=by rw[zD];rfl
  rw[e] at il;rw[kr il] at hD;refine{D,us.map gA,rfl,ao hD,?_};let e2:(us.map gA).any id=us.any gA:=by rw[wF];rfl
  rw[e2];cases q:us.any gA with
  | true=>
   rw[q] at kk;change kk _ s1
  | false=>
   rw[q] at kk;change kk _ s1
theorem B7 (n:Int):∀ns:List Int,Gp (.int n) (ns.map V.int)=decide (n∈ns)
 | []=>rfl
 | m::ns=>by
  let ih:=B7 n ns;unfold Gp at ih ⊢;rw[zj,xt,ih];show((m == n)||decide (n∈ns))=decide (n∈m::ns)
  by_cases e:n=m
  ·subst e
   simp
  ·simp[e,Ne.symm (a:=m) (b:=n) (λz=>e z.symm)]
   try ext
def Kx {t a b:Str} (h:Txt.split t "/"= [a,b]):jq t=(match mH a 1 32,fN b with | some m,some n=>if n∈Ej then some (m,n) else none | _,_=>none):=by unfold jq;rw[h];try rfl
def MU {t:Str} (h:(Txt.split t "/").length≠2):jq t=none:=by
 unfold jq
 revert h
 rcases Txt.split t "/" with _ | ⟨a,_ | ⟨b,_ | ⟨c,r⟩⟩⟩ <;> intro h <;> first | rfl | exact absurd rfl h
def OV {t a b:Str} (h:Txt.split t ":"= [a,b]):Bz t=(match fN a,ot ((Txt.split b ",").map fN) with | some n,some ps=>some (n,ps) | _,_=>none):=by unfold Bz;rw[h];try rfl
def Q2 {t:Str} (h:(Txt.split t ":").length≠2):Bz t=none:=by
 unfold Bz
 revert h
 rcases Txt.split t ":" with _ | ⟨a,_ | ⟨b,_ | ⟨c,r⟩⟩⟩ <;> intro h <;> first | rfl | exact absurd rfl h
def DK:di P w base 4 T.pY (Dc K):=by
 nomatch T.pY,["word","parts","top","bottom"]
 let⟨t,rfl,hl,kk⟩:=h;let sl:=yC;let sh:∀z∈Txt.split t "/",⇑z<=600:=λz hz=>zO (xQ hz) hl;refine{_,(ag (bO 1 qN (bZ yG yK yJ jC (pv 0) (ah aK af)))
  (ag (aM (ptr fP (d7 aH T.bP (ah (pv 1) af)) ae)
  (ak (au aW))
  aC)
  (ag (bO 2 qN (bQ (nY T) hr T.jR (ah (fB (pv 1) ae) (ah ae (ah (bK (v:=.int (32)) (by rfl) T.AF {_,rfl}) af)))))
  (ag (bO 3 qN (bQ (cC T) hr T.dh (ah (fB (pv 1) ae) af)))
  (ag (aM (PW.pt (d4 (bH (cJ (pv 2))) (dq (gd d8 (pv 3) (bK (v:=.ref T.eI) (by rfl) T.AE rfl) (by with_unfolding_all rfl)))))
  (ak (au aW))
  aC)
  (ak (au (bM (ah (pv 2) (ah (pv 3) af)))))))))),?_}
 ac_rfl;exists by ext,?_
 generalize ew:Txt.split t "/"= ws at sh;intros p1 H1 s1 h1;exists p1,_,rfl,.inl (ao h1),?_;rw[za];left
 by_cases hw:⇑ws=2
 ·obtain⟨a,b,rfl⟩:∃a b,ws=[a,b]:=by
   match ws,hw with
   | [a,b],_=>exact{(a),b,rfl}
  refine bX rfl ?_;exists p1,_,0,_,rfl,rfl,ao h1,rfl,?_;refine{_,_,_,rfl,sh a (by simp),λH2 s2=>?_};exists p1,_,1,_,rfl,rfl,ao (s2 _ _ h1),rfl,?_;refine{_,rfl,sh b (by simp),λH3 s3=>?_};let s03:=(s1.trans s2).trans s3;rw[Kx ew] at kk;cases ea:mH a 1 32 with
  | none=>
   rw[ea] at kk;change kk _ _ s03 .bT
  | some m=>
   rw[ea] at kk;left;cases eb:fN b with
   | none=>
    rw[eb] at kk;refine{T.eI,_,rfl,.inr (T.mU H3),rfl,rfl,?_};change kk _ _ s03 .bT
   | some n=>
    rw[eb] at kk;refine{T.eI,Ej.map V.int,rfl,.inr (T.mU H3),rfl,rfl,?_};show∃k,V.bl (!Gp (.int n) (Ej.map V.int))=.bl k/\_;rw[B7]
    by_cases c:n∈Ej
    ·rw[zg c]
     simp only[yO c] at kk;left;refine{cO,laid λp4 H4 s4 h4=>kk _ _ (s03.trans s4) (.ref h4)}
    ·rw[ze c]
     simp only[yN c] at kk;change kk _ _ s03 .bT
 ·refine bW (by rw[ze λz=>hw (by have:=V.int.inj z;ext)];rfl) ?_
  left;rw[MU (by rw[ew];exact hw)] at kk;exact kk _ _ s1 .bT
def IB:di P w base 4 T.BE uK:=by
 nomatch T.BE,["word","parts","bar","passes"]
 let⟨t,rfl,hl,kk⟩:=h;let sl:=yC;let sh:∀z∈Txt.split t ":",⇑z<=600:=λz hz=>zO (xQ hz) hl;refine{_,(ag (bO 1 qN (bZ yG yK yJ jC (pv 0) (ah aK af)))
  (ag (aM (ptr fP (d7 aH T.bP (ah (pv 1) af)) ae)
  (ak (au aW))
  aC)
  (ag (bO 2 qN (bQ (cC T) hr T.dh (ah (fB (pv 1) ae) af)))
  (ag (bO 3 qN (bQ (eK T) hr T.dI (ah (oJ (ts:=["part"]) (ys:=[]) (js:=[]) (te:=(gz kh [] E0 (cj (bj 0) fc))) (bB (bZ yG yK yJ jC (fB (pv 1) ae) (ah aK af))) (gO 0) bE (bQ (cC T) hr T.dh (ah (pv 0) af))) af)))
  (ag (aM (PW.pt (d4 (bH (cJ (pv 2))) (dq (bH (cJ (pv 3))))))
  (ak (au aW))
  aC)
  (ak (au (bM (ah (pv 2) (ah (nV dR T.lU (ah (pv 3) af)) af)))))))))),?_}
 ac_rfl;exists by ext,?_
 generalize ew:Txt.split t ":"= ws at sh;intros p1 H1 s1 h1;exists p1,_,rfl,.inl (ao h1),?_;rw[za];left
 by_cases hw:⇑ws=2
 ·obtain⟨a,b,rfl⟩:∃a b,ws=[a,b]:=by
   match ws,hw with
   | [a,b],_=>exact{(a),b,rfl}
  refine bX rfl ?_;exists p1,_,0,_,rfl,rfl,ao h1,rfl,?_;refine{_,rfl,sh a (by simp),λH2 s2=>?_};exists p1,_,1,_,rfl,rfl,ao (s2 _ _ h1),rfl,?_;left;let lb:=sh b (by simp);let bl:=PyProof.Rows.split_le b ",";let bsh:∀z∈Txt.split b ",",⇑z<=600:=λz hz=>zO (xQ hz) lb;refine{(),?_};let bl2:(Txt.split b ",").length<=sizeLine:=()
  let bl3:(Txt.split b ",").length<=1000000:=()
  rw[OV ew] at kk;generalize Txt.split b ","= bs at kk bl bsh bl2 bl3;intros p3 H3 s3 h3;exists{_,ao h3},?_;refine fk (enc:=V.str) (ws:=bs) (λz=>dO .int (fN z)) (λU=>∃v,U=[v]) bl2 (ao h3) {(none),rfl} ?_ ?_
  ·rintro z U H4 R hz s4 ⟨_,rfl⟩ r
   change{bsh z hz,λH5 s5=>r _ _ _ s5 (B6 _) {_,rfl}}
  ·intro D vs H4 s4 hD il
   let s04:=((s1.trans s2).trans s3).trans s4;refine{D,vs,rfl,ao hD,by rw[il.len,za];exact bl3,λH5 s5=>?_};let e1:bs.map (λz=>dO Dt.int (fN z))=(bs.map fN).map (dO Dt.int):=by rw[zD];rfl
   rw[e1] at il;rw[j8 il];cases q:((bs.map fN).map (dO Dt.int)).any Dt.gA with
   | true=>
    rw[jn PY q] at kk;let kn:=kk .bT H5 (s04.trans s5) (by cases fN a <;> (unfold dO Is;rfl));cases ea:fN a with
    | none=>change kn
    | some n=>change kn
   | false=>
    let⟨xs,e2,e3,e4⟩:=ji q;rw[e2] at kk;rw[e3] at il;let ev:=eQ il;subst ev;cases ea:fN a with
    | none=>
     rw[ea] at kk;change kk .bT H5 (s04.trans s5) (by unfold dO Is;rfl)
    | some n=>
     rw[ea] at kk;left;refine{D,_,rfl,.inl {ao (s5 _ _ hD),?_}};intros p6 H6 s6 h6;left;refine{cO,laid λp7 H7 s7 h7=>kk _ _ (((s04.trans s5).trans s6).trans s7) ?_};show Is H7 (.tup [.int n,.tup (xs.map .int)]) _;unfold Is;refine{p7,_,rfl,h7,?_};unfold aD;refine{_,_,rfl,by unfold Is;rfl,?_};unfold aD;refine{_,_,rfl,?_,by unfold aD;rfl};unfold Is;exact{p6,_,rfl,s7 _ _ h6,rZ}
 ·refine bW (by rw[ze λz=>hw (by have:=V.int.inj z;ext)];rfl) ?_
  left;rw[Q2 (by rw[ew];exact hw)] at kk;exact kk _ _ s1 (by unfold dO Is;rfl)
def Ph {α:Type} {f:Str->Option α} {ws:List Str} (h:⇑ws≠1):one f ws=none:=by
 match ws,h with
 | [],_=>rfl
 | [_],h=>exact absurd rfl h
 | _::_::_,_=>rfl
def BQ:di P w base 2 T.jU (f9 K (pz .str (one cM))):=by
 nomatch T.jU,["words"]
 let⟨p,ws,rfl,hp,hl,sh,kk⟩:=h;refine{_,(ag (aM (ptr fP (d7 aH T.bP (ah (pv 0) af)) ae)
  (ak (au aW))
  aC)
  (ak (au (bQ (eA T) hr T.fg (ah (fB (pv 0) ae) af))))),?_}
 ac_rfl;exists p,_,rfl,.inl hp,?_;rw[za];left
 by_cases hw:⇑ws=1
 ·obtain⟨a,rfl⟩:∃a,ws=[a]:=by
   match ws,hw with
   | [a],_=>exact{(a),rfl}
  refine bX rfl ?_;exists p,_,0,_,rfl,rfl,hp,rfl,?_;exact{_,rfl,sh a (by simp),λH1 s1=>kk _ _ s1 (EW _)}
 ·refine bW (by rw[ze λz=>hw (by have:=V.int.inj z;ext)];rfl) ?_
  left;refine kk _ _ (aI _) ?_;unfold pz;rw[Ph hw];exact eB
def BO:di P w base 5 T.jS (f9 K (pz dL (one lr))):=by
 nomatch T.jS,["words"]
 let⟨p,ws,rfl,hp,hl,sh,kk⟩:=h;refine{_,(ag (aM (ptr fP (d7 aH T.bP (ah (pv 0) af)) ae)
  (ak (au aW))
  aC)
  (ak (au (bQ (g9 T) hr T.dZ (ah (fB (pv 0) ae) af))))),?_}
 ac_rfl;exists p,_,rfl,.inl hp,?_;rw[za];left
 by_cases hw:⇑ws=1
 ·obtain⟨a,rfl⟩:∃a,ws=[a]:=by
   match ws,hw with
   | [a],_=>exact{(a),rfl}
  refine bX rfl ?_;exists p,_,0,_,rfl,rfl,hp,rfl,?_;exact{_,rfl,sh a (by simp),λv H1 s1 h1=>kk _ _ s1 (B5 h1)}
 ·refine bW (by rw[ze λz=>hw (by have:=V.int.inj z;ext)];rfl) ?_
  left;refine kk _ _ (aI _) ?_;unfold pz;rw[Ph hw];exact eB
def GN {α:Type} (d:α->Dt) (o:Option α):dO d o=(o.map d).getD .bT:=by cases o <;> rfl
def GZ {H:Hp} {ds:List Dt} {us:List V} {a:vD} {d:Option Dt} (ha:H a=some (.tup us)) (il:aD H ds us) (h1:ds.any Dt.gA=true->d=none) (h2:ds.any Dt.gA=false->d=some (.tup ds)):Is H (d.getD .bT) (if us.any gA=true then .bT else .ref a):=by
 rw[j8 il];cases q:ds.any Dt.gA with
 | true=>rw[h1 q];exact eB
 | false=>rw[h2 q];exact cW ha il
def qh:di P w base 5 T.fJ (f9 K (pz eP nQ)):=by
 nomatch T.fJ,["words"]
 let⟨p,ws,rfl,hp,hl,sh,kk⟩:=h;refine{_,(ag (aM (ptr fP (d7 aH T.bP (ah (pv 0) af)) ae)
  (ak (au aW))
  aC)
  (ak (au (bQ (fF T) hr T.dI (ah (bM (ah (bQ (eA T) hr T.fg (ah (fB (pv 0) ae) af)) (ah (bQ (F6 T) hr T.tG (ah (fB (pv 0) ae) (ah (fB (pv 0) ae) af))) (ah (bQ (F7 T) hr T.tH (ah (fB (pv 0) ae) af)) af)))) af))))),?_}
 ac_rfl;exists p,_,rfl,.inl hp,?_;rw[za];left
 by_cases hw:⇑ws=4
 ·obtain⟨a,b,c,d,rfl⟩:∃a b c d,ws=[a,b,c,d]:=by
   match ws,hw with
   | [a,b,c,d],_=>exact{(a),b,c,d,rfl}
  refine bX rfl ?_;exists p,_,0,_,rfl,rfl,hp,rfl,?_;refine{_,rfl,sh a (by simp),λH1 s1=>?_};exists p,_,1,_,rfl,rfl,s1.seq hp,rfl,?_;exists p,_,2,_,rfl,rfl,s1.seq hp,rfl,?_;refine{_,_,rfl,sh b (by simp),sh c (by simp),λv2 H2 s2 h2=>?_};exists p,_,3,_,rfl,rfl,(s1.trans s2).seq hp,rfl,?_;refine{_,rfl,sh d (by simp),λv3 H3 s3 h3=>?_};exists km,?_;intros p4 H4 s4 h4;let s24:=s3.trans s4;refine{p4,_,rfl,h4,(by show 3<=1000000;decide),λH5 s5=>kk _ _ (((s1.trans s2).trans s24).trans s5) ?_};unfold pz;rw[GN];refine GZ (s5 _ _ h4) (aU (EW _) (aU (B5 (h2.mono (s24.trans s5))) (og (B5 (h3.mono (s4.trans s5)))))) ?_ ?_
  ·unfold nQ
   dsimp only;cases cM a <;> cases By b c <;> cases QD d <;> first | (intro _;rfl) | (intro q;exact absurd q (by simp[dO,dL,Dt.gA]))
  ·unfold nQ
   dsimp only;cases cM a <;> cases By b c <;> cases QD d <;> first | (intro _;rfl) | (intro q;exact absurd q (by simp[dO,dL,Dt.gA]))
 ·refine bW (by rw[ze λz=>hw (by have:=V.int.inj z;ext)];rfl) ?_
  left;refine kk _ _ (aI _) ?_;let e:nQ ws=none:=by
   rcases ws with _ | ⟨_,_ | ⟨_,_ | ⟨_,_ | ⟨_,_ | ⟨_,r⟩⟩⟩⟩⟩
   all_goals first | rfl | exact absurd rfl hw
  unfold pz;rw[e];exact eB
def F9:di P w base 3 T.oF (f9 K (pz u9 uQ)):=by
 nomatch T.oF,["words"]
 let⟨p,ws,rfl,hp,hl,sh,kk⟩:=h;refine{_,(ag (aM (ptr fP (d7 aH T.bP (ah (pv 0) af)) ae)
  (ak (au aW))
  aC)
  (ak (au (bQ (fF T) hr T.dI (ah (bM (ah (bQ (eA T) hr T.fg (ah (fB (pv 0) ae) af)) (ah (bQ (cC T) hr T.dh (ah (fB (pv 0) ae) af)) (ah (bQ (eA T) hr T.fg (ah (fB (pv 0) ae) af)) af)))) af))))),?_}
 ac_rfl;exists p,_,rfl,.inl hp,?_;rw[za];left
 by_cases hw:⇑ws=3
 ·obtain⟨a,b,c,rfl⟩:∃a b c,ws=[a,b,c]:=by
   match ws,hw with
   | [a,b,c],_=>exact{(a),b,c,rfl}
  refine bX rfl ?_;exists p,_,0,_,rfl,rfl,hp,rfl,?_;refine{_,rfl,sh a (by simp),λH1 s1=>?_};exists p,_,1,_,rfl,rfl,s1.seq hp,rfl,?_;refine{_,rfl,sh b (by simp),λH2 s2=>?_};exists p,_,2,_,rfl,rfl,(s1.trans s2).seq hp,rfl,?_;refine{_,rfl,sh c (by simp),λH3 s3=>?_};exists km,?_;intros p4 H4 s4 h4;refine{p4,_,rfl,h4,(by show 3<=1000000;decide),λH5 s5=>kk _ _ (((s1.trans s2).trans (s3.trans s4)).trans s5) ?_};unfold pz;rw[GN];refine GZ (s5 _ _ h4) (aU (EW _) (aU (B6 _) (og (EW _)))) ?_ ?_
  ·unfold uQ
   dsimp only;cases cM a <;> cases fN b <;> cases cM c <;> first | (intro _;rfl) | (intro q;exact absurd q (by simp[dO,dL,Dt.gA]))
  ·unfold uQ
   dsimp only;cases cM a <;> cases fN b <;> cases cM c <;> first | (intro _;rfl) | (intro q;exact absurd q (by simp[dO,dL,Dt.gA]))
 ·refine bW (by rw[ze λz=>hw (by have:=V.int.inj z;ext)];rfl) ?_
  left;refine kk _ _ (aI _) ?_;let e:uQ ws=none:=by
   rcases ws with _ | ⟨_,_ | ⟨_,_ | ⟨_,_ | ⟨_,r⟩⟩⟩⟩
   all_goals first | rfl | exact absurd rfl hw
  unfold pz;rw[e];exact eB
def nZ {H:Hp} {ws:List Str} {vs:List V} {α:Type} {d:α->Dt} {f:Str->Option α} (il:aD H (ws.map λz=>dO d (f z)) vs):aD H ((ws.map f).map (dO d)) vs:=by
 let e:ws.map (λz=>dO d (f z))=(ws.map f).map (dO d):=by rw[zD];rfl
 rw[<-e];exact il
def DH:di P w base 2 T.lL (f9 K (pz jE tK)):=by
 nomatch T.lL,["words","names"]
 let⟨p,ws,rfl,hp,hl,sh,kk⟩:=h;let sl:=yC;refine{_,(ag (aM (ptr eX (d7 aH T.bP (ah (pv 0) af)) ae)
  (ak (au aW))
  aC)
  (ag (bO 1 qN (bQ (eK T) hr T.dI (ah (oJ (ts:=["word"]) (ys:=[]) (js:=[]) (te:=(gz lE [] E0 (cj (bj 0) fc))) (bB (pv 0)) (gO 0) bE (bQ (eA T) hr T.fg (ah (pv 0) af))) af)))
  (ag (aM (bH (cJ (pv 1)))
  (ak (au aW))
  aC)
  (ak (au (bM (ah (fB (pv 1) ae) (ah (nV dR T.lU (ah (eW lG (pv 1) (gf ae) gg) af)) af)))))))),?_}
 ac_rfl;exists p,_,rfl,.inl hp,?_;rw[za];left;refine Ar (λc=>?_) (λc=>?_)
 ·left
  refine kk _ _ (aI _) ?_;let hw:=yf c;let e:tK ws=none:=by
   rcases ws with _ | ⟨_,_ | ⟨_,r⟩⟩
   all_goals first | rfl | (simp at hw;ext)
  unfold pz;rw[e];exact eB
 ·let hw:¬(⇑ws:Int)<2:=λz=>c (zg z)
  obtain⟨a,b,r,rfl⟩:∃a b r,ws=a::b::r:=by
   match ws,hw with
   | [],h=>exact absurd (by simp) h
   | [_],h=>exact absurd (by simp) h
   | a::b::r,_=>exact{(a),b,r,rfl}
  exists{_,hp},?_;refine fk (enc:=V.str) (ws:=a::b::r) (λz=>dO .str (cM z)) (λU=>∃v,U=[v]) () hp {(none),rfl} ?_ ?_
  ·rintro z U H4 R hz s4 ⟨_,rfl⟩ r
   change{sh z hz,λH5 s5=>r _ _ _ s5 (EW _) {_,rfl}}
  ·intro D vs H4 s4 hD il
   refine{D,vs,rfl,ao hD,by rw[il.len,za];ext,λH5 s5=>?_};let il:=nZ il;rw[j8 il];cases q:(((a::b::r).map cM).map (dO Dt.str)).any Dt.gA with
   | true=>
    left;refine kk _ _ (s4.trans s5) ?_;unfold pz;rw[pZ,jn Jd q];exact eB
   | false=>
    let⟨xs,e2,e3,e4⟩:=ji q;rw[e3] at il;let ev:=dX il;subst ev;obtain⟨n,ps,rfl⟩:∃n ps,xs=n::ps:=by
     match xs,e4 with
     | n::ps,_=>exact{(n),ps,rfl}
    let hD5:=s5 _ _ hD;exists D,_,0,_,rfl,rfl,ao hD5,bx (j:=0) rfl,?_;exists D,_,rfl,ao hD5,?_;rw[show kD (List.map V.str (n::ps)) (some 1) none=ps.map V.str from(gJ _ 1).trans rfl];intros p6 H6 s6 h6;left;refine{p6,_,rfl,.inl {ao h6,?_}};intros p7 H7 s7 h7;left;refine{cO,laid λp8 H8 s8 h8=>kk _ _ (((((s4.trans s5).trans s6).trans s7)).trans s8) ?_};unfold pz;rw[pZ,e2];exact cW h8 (aU fu (og (cW (s8 _ _ h7) Fs)))
def IC:di P w base 5 T.rC (f9 K (pz lh FZ)):=by
 nomatch T.rC,["words","marks"]
 let⟨p,ws,rfl,hp,hl,sh,kk⟩:=h;let sl:=yC;refine{_,(ag (aM (ptr eX (d7 aH T.bP (ah (pv 0) af)) ae)
  (ak (au aW))
  aC)
  (ag (bO 1 qN (bQ (eK T) hr T.dI (ah (oJ (ts:=["word"]) (ys:=[]) (js:=[]) (te:=(gz lE [] E0 (cj (bj 0) fc))) (bB (eW lG (pv 0) (gf ae) gg)) (gO 0) bE (bQ (eA T) hr T.fg (ah (pv 0) af))) af)))
  (ag (aM (bH (cJ (pv 1)))
  (ak (au aW))
  aC)
  (ak (au (bQ (fF T) hr T.dI (ah (bM (ah (bQ (DK T) hr T.pY (ah (fB (pv 0) ae) af)) (ah (bQ (IA T) hr T.BD (ah (fB (pv 0) ae) af)) (ah (nV dR T.lU (ah (pv 1) af)) af)))) af))))))),?_}
 ac_rfl;exists p,_,rfl,.inl hp,?_;rw[za];left;refine Ar (λc=>?_) (λc=>?_)
 ·left
  refine kk _ _ (aI _) ?_;let hw:=yf c;let e:FZ ws=none:=by
   rcases ws with _ | ⟨_,_ | ⟨_,r⟩⟩
   all_goals first | rfl | (simp at hw;ext)
  unfold pz;rw[e];exact eB
 ·let hw:¬(⇑ws:Int)<2:=λz=>c (zg z)
  obtain⟨a,b,r,rfl⟩:∃a b r,ws=a::b::r:=by
   match ws,hw with
   | [],h=>exact absurd (by simp) h
   | [_],h=>exact absurd (by simp) h
   | a::b::r,_=>exact{(a),b,r,rfl}
  rw[zy,zy] at hl;exists p,_,rfl,hp,?_;rw[show kD (List.map V.str (a::b::r)) (some 2) none=r.map V.str from(gJ _ 2).trans rfl];intros p1 H1 s1 h1;exists{_,ao h1},?_;refine fk (enc:=V.str) (ws:=r) (λz=>dO .str (cM z)) (λU=>∃v,U=[v]) () (ao h1) {(none),rfl} ?_ ?_
  ·rintro z U H4 R hz s4 ⟨_,rfl⟩ r
   change{sh z (by simp[hz]),λH5 s5=>r _ _ _ s5 (EW _) {_,rfl}}
  ·intro D vs H4 s4 hD il
   refine{D,vs,rfl,ao hD,by rw[il.len,za];ext,λH5 s5=>?_};let il:=nZ il;rw[j8 il];let s05:=(s1.trans s4).trans s5;cases q:((r.map cM).map (dO Dt.str)).any Dt.gA with
   | true=>
    left;refine kk _ _ s05 ?_;unfold pz;unfold FZ;dsimp only;rw[jn Jd q];exact eB
   | false=>
    let⟨xs,e2,e3,e4⟩:=ji q;rw[e3] at il;let ev:=dX il;subst ev;let hD5:=s5 _ _ hD;exists p,_,0,_,rfl,rfl,s05.seq hp,bx (j:=0) rfl,?_;refine{_,rfl,sh a (by simp),λv6 H6 s6 h6=>?_};exists p,_,1,_,rfl,rfl,(s05.trans s6).seq hp,bx (j:=1) rfl,?_;refine{_,rfl,sh b (by simp),λH7 s7=>?_};left;refine{D,_,rfl,.inl {ao (s7 _ _ (s6 _ _ hD5)),?_}};intros p8 H8 s8 h8;exists km,?_;intros p9 H9 s9 h9;refine{p9,_,rfl,h9,(by show 3<=1000000;decide),λHx sx=>kk _ _ (((((s05.trans s6).trans s7).trans s8).trans s9).trans sx) ?_};unfold pz;rw[GN];refine GZ (ds:=[dO dL (jq a),dO .int (Ii b),mZ xs]) (sx _ _ h9) (aU (B5 (h6.mono (((s7.trans s8).trans s9).trans sx))) (aU (B6 _) (og (cW (sx _ _ (s9 _ _ h8)) Fs)))) ?_ ?_
    ·unfold FZ
     dsimp only;rw[e2];cases jq a <;> cases Ii b <;> first | (intro _;rfl) | (intro q;exact absurd q (by simp[dO,dL,Dt.gA,mZ]))
    ·unfold FZ
     dsimp only;rw[e2];cases jq a <;> cases Ii b <;> first | (intro _;rfl) | (intro q;exact absurd q (by simp[dO,dL,Dt.gA,mZ]))
theorem AU {H:Hp} {α:Type} {d:α->Dt}:∀{xs:List α} {vs:List V},aD H (xs.map d) vs->∃ps:List (α×V),ps.map (·.1)=xs/\ps.map (·.2)=vs/\∀q∈ps,Is H (d q.1) q.2
 | [],_,h=>by unfold aD at h;exact{[],rfl,h.symm,λ_ z=>nomatch z}
 | x::xs,_,h=>by
  rw[zj] at h;unfold aD at h;let⟨u,r,rfl,h1,h2⟩:=h;let⟨ps,e1,e2,hh⟩:=AU h2;refine{(x,u)::ps,by simp[e1],by simp[e2],λq m=>?_};rcases zF.mp m with e | m
  ·subst e;exact h1
  ·exact hh q m
def item_at {H:Hp} {it:Item} {v:V} (h:Is H (d5 it) v):∃a pv lv,v=.ref a/\H a=some (.tup [pv,lv])/\Is H (dO dL it.1) pv/\Is H (dL it.2) lv:=by
 unfold d5 Is at h;let⟨a,vs,rfl,ha,hl⟩:=h;unfold aD at hl;let⟨pv,r,rfl,h1,hl⟩:=hl;unfold aD at hl;let⟨lv,r,rfl,h2,hl⟩:=hl;unfold aD at hl;subst hl;exact{(a),pv,lv,rfl,ha,h1,h2}
def Vo {H:Hp} {α:Type} {d:α->Dt} (f:LF d) {o:Option α} {v:V} (h:Is H (dO d o) v):gA v=o.isNone:=by
 rw[PK h];cases o with
 | none=>rfl
 | some x=>exact f x
def DJ:di P w base 6 T.lM (f9 K VG):=by
 nomatch T.lM,["words","items"]
 let⟨p,ws,rfl,hp,hl,sh,kk⟩:=h;let sl:=yC;refine{_,(ag (aM (ptr eX (d7 aH T.bP (ah (pv 0) af)) ae)
  (ak (au aW))
  aC)
  (ag (bO 1 qN (bQ (eK T) hr T.dI (ah (oJ (ts:=["word"]) (ys:=[]) (js:=[]) (te:=(gz o7 [] E0 (cj (bj 0) fc))) (bB (eW lG (pv 0) (gf ae) gg)) (gO 0) bE (bQ (DF T) hr T.tI (ah (pv 0) af))) af)))
  (ag (aM (PW.pt (d4 (bH (cJ (pv 1))) (dq (cP (d7 (oR rfl) T.L5 (ah (oJ (ts:=["item"]) (ys:=[]) (js:=[]) (te:=(Ou (fW (qd K) (bj 0) (tC (.int (0)))))) (bB (pv 1)) (gO 0) bE (tN (cJ (bJ (pv 0) ae)))) af))))))
  (ak (au aW))
  aC)
  (ak (au (bQ (fF T) hr T.dI (ah (bM (ah (bQ (cC T) hr T.dh (ah (fB (pv 0) ae) af)) (ah (bQ (eA T) hr T.fg (ah (fB (pv 0) ae) af)) (ah (pv 1) af)))) af))))))),?_}
 ac_rfl;exists p,_,rfl,.inl hp,?_;rw[za];left;refine Ar (λc=>?_) (λc=>?_)
 ·left
  refine kk _ _ (aI _) ?_;let hw:=yf c;let e:lO ws=none:=by
   rcases ws with _ | ⟨_,_ | ⟨_,_ | ⟨_,r⟩⟩⟩
   all_goals first | rfl | (simp at hw;ext)
  unfold VG;rw[e]
 ·let hw:¬(⇑ws:Int)<3:=λz=>c (zg z)
  obtain⟨a,b,i,r,rfl⟩:∃a b i r,ws=a::b::i::r:=by
   match ws,hw with
   | [],h=>exact absurd (by simp) h
   | [_],h=>exact absurd (by simp) h
   | [_,_],h=>exact absurd (by simp) h
   | a::b::i::r,_=>exact{(a),b,i,r,rfl}
  let en:lO (a::b::i::r)=(match ot ((i::r).map ir) with | some l=>if l.all (λit=>it.1.isNone)=true then none else(match fN a,cM b with | some x,some y=>some (x,y,l) | _,_=>none) | none=>none):=rfl;unfold VG at kk;rw[en] at kk;let sh':∀z∈i::r,⇑z<=600:=λz hz=>sh z (by simp at hz ⊢;rcases hz with h | h <;> simp[h]);let hl':⇑(i::r)<=1000000:=by simp at hl ⊢;ext
  exists p,_,rfl,hp,?_;rw[show kD (List.map V.str (a::b::i::r)) (some 2) none=(i::r).map V.str from(gJ _ 2).trans rfl];clear en;generalize i::r=its at kk sh' hl';intros p1 H1 s1 h1;exists{_,ao h1},?_;refine eC (enc:=V.str) (ws:=its) (λz=>dO d5 (ir z)) (λU=>∃v,U=[v]) () (ao h1) {(none),rfl} ?_ ?_
  ·rintro z U H4 R hz s4 ⟨_,rfl⟩ r
   change{sh' z hz,λv H5 s5 h5=>r _ _ _ s5 (Vn h5) {_,rfl}}
  ·intro D vs H4 s4 nD hD il
   refine{D,vs,rfl,ao hD,by rw[il.len,za];ext,λH5 s5=>?_};let il:=nZ il;rw[j8 il];let s05:=(s1.trans s4).trans s5;cases q:((its.map ir).map (dO d5)).any Dt.gA with
   | true=>
    left;refine kk _ _ s05 ?_;rw[jn Nl q]
   | false=>
    let⟨xs,e2,e3,e4⟩:=ji q;rw[e3] at il;rw[e2] at kk;let il5:=il.mono s5;let hD5:=s5 _ _ hD;let⟨ps,f1,f2,f3⟩:=AU il5;let pl:⇑ps<=1000000:=by
     have:⇑ps=⇑xs:=by rw[<-f1,za]
     rw[this,e4,za];exact hl'
    exists{_,ao hD5},?_;refine fk (enc:=λq:Item×V=>q.2) (ws:=ps) (λq=>.bl q.1.1.isNone) (λU=>∃v,U=[v]) () (by rw[f2];exact ao hD5) {(none),rfl} ?_ ?_
    ·rintro z U H6 R hz s6 ⟨_,rfl⟩ r
     let⟨a6,pv,lv,ev,h6,h7,h8⟩:=item_at (f3 z hz);rw[ev];let h66:=s6 _ _ h6;left;refine r _ _ _ (aI _) ?_ {_,rfl};rw[<-Vo Ua h7];unfold Is;rfl
    ·intro D2 vs2 H6 s6 hD2 il2
     let e5:ps.map (λq=>Dt.bl q.1.1.isNone)=(ps.map λq=>q.1.1.isNone).map Dt.bl:=by rw[zD];rfl
     rw[e5] at il2;rw[kr il2] at hD2;refine{D2,_,rfl,ao hD2,?_};let e6:(ps.map λq=>q.1.1.isNone).all id=xs.all λit=>it.1.isNone:=by rw[<-f1,wd,wd];rfl
     rw[e6];cases qa:xs.all λit=>it.1.isNone with
     | true=>
      dsimp only at kk;rw[qa] at kk;change kk _ _ (s05.trans s6) rfl
     | false=>
      dsimp only at kk;rw[qa] at kk;let s06:=s05.trans s6;exists p,_,0,_,rfl,rfl,s06.seq hp,bx (j:=0) rfl,?_;refine{_,rfl,sh a (by simp),λH7 s7=>?_};exists p,_,1,_,rfl,rfl,(s06.trans s7).seq hp,bx (j:=1) rfl,?_;refine{_,rfl,sh b (by simp),λH8 s8=>?_};exists km,?_;intros p9 H9 s9 h9;let s59:=((s6.trans s7).trans s8).trans s9;refine{p9,_,rfl,h9,(by show 3<=1000000;decide),λHx sx=>kk _ _ ((s05.trans s59).trans sx) ?_};let s5x:=s59.trans sx;let h9x:=sx _ _ h9;clear h9
      revert h9x
      cases fN a <;> cases cM b <;> intro h9x <;> first | rfl | exact⟨p9,D,vs,rfl,h9x,s5x _ _ hD5,il5.mono s5x,s1.back nD⟩
def BP:di P w base 5 T.jT (f9 K (pz ig lN)):=by
 nomatch T.jT,["words","times","ends"]
 let⟨p,ws,rfl,hp,hl,sh,kk⟩:=h;let sl:=yC;refine{_,(ag (aM (ptr eX (d7 aH T.bP (ah (pv 0) af)) ae)
  (ak (au aW))
  aC)
  (ag (bO 1 qN (bQ (nY T) hr T.jR (ah (fB (pv 0) ae) (ah (bK (v:=.int (2)) (by rfl) T.CI {_,rfl}) (ah (bK (v:=.int (9)) (by rfl) T.GR {_,rfl}) af)))))
  (ag (bO 2 qN (bQ (eK T) hr T.dI (ah (oJ (ts:=["word"]) (ys:=[]) (js:=[]) (te:=(gz uK [] E0 (cj (bj 0) fc))) (bB (eW lG (pv 0) (gf ae) gg)) (gO 0) bE (bQ (IB T) hr T.BE (ah (pv 0) af))) af)))
  (ag (aM (bH (cJ (pv 2)))
  (ak (au aW))
  aC)
  (ak (au (bQ (fF T) hr T.dI (ah (bM (ah (bQ (cC T) hr T.dh (ah (fB (pv 0) ae) af)) (ah (bQ (cC T) hr T.dh (ah (fB (pv 0) ae) af)) (ah (pv 1) (ah (nV dR T.lU (ah (pv 2) af)) af))))) af)))))))),?_}
 ac_rfl;exists p,_,rfl,.inl hp,?_;rw[za];left;refine Ar (λc=>?_) (λc=>?_)
 ·left
  refine kk _ _ (aI _) ?_;let hw:=yf c;let e:lN ws=none:=by
   rcases ws with _ | ⟨_,_ | ⟨_,_ | ⟨_,r⟩⟩⟩
   all_goals first | rfl | (simp at hw;ext)
  unfold pz;rw[e];exact eB
 ·let hw:¬(⇑ws:Int)<3:=λz=>c (zg z)
  obtain⟨a,b,c',r,rfl⟩:∃a b i r,ws=a::b::i::r:=by
   match ws,hw with
   | [],h=>exact absurd (by simp) h
   | [_],h=>exact absurd (by simp) h
   | [_,_],h=>exact absurd (by simp) h
   | a::b::i::r,_=>exact{(a),b,i,r,rfl}
  let sh':∀z∈r,⇑z<=600:=λz hz=>sh z (by simp[hz]);let hl':⇑r<=1000000:=by simp at hl ⊢;ext
  let hs:⇑r<=sizeLine:=()
  let en:lN (a::b::c'::r)=(match ot (r.map Bz) with | some l=>(match fN a,fN b,mH c' 2 9 with | some x,some y,some z=>some {(x),y,z,l} | _,_,_=>none) | none=>none):=rfl;unfold pz at kk;rw[en] at kk;exists p,_,2,_,rfl,rfl,hp,bx (j:=2) rfl,?_;refine{_,_,_,rfl,sh c' (by simp),λH0 s0=>?_};exists p,_,rfl,s0.seq hp,?_;rw[show kD (List.map V.str (a::b::c'::r)) (some 3) none=r.map V.str from(gJ _ 3).trans rfl];intros p1 H1 s1 h1;exists{_,ao h1},?_;refine fk (enc:=V.str) (ws:=r) (λz=>dO nh (Bz z)) (λU=>∃v,U=[v]) hs (ao h1) {(none),rfl} ?_ ?_
  ·rintro z U H4 R hz s4 ⟨_,rfl⟩ r
   change{sh' z hz,λv H5 s5 h5=>r _ _ _ s5 h5 {_,rfl}}
  ·intro D vs H4 s4 hD il
   refine{D,vs,rfl,ao hD,by rw[il.len,za];exact hl',λH5 s5=>?_};let il:=nZ il;rw[j8 il];let s05:=((s0.trans s1).trans s4).trans s5;cases q:((r.map Bz).map (dO nh)).any Dt.gA with
   | true=>
    left;refine kk _ _ s05 ?_;rw[jn PZ q];exact eB
   | false=>
    let⟨xs,e2,e3,e4⟩:=ji q;rw[e3] at il;rw[e2] at kk;let il5:=il.mono s5;let hD5:=s5 _ _ hD;exists p,_,0,_,rfl,rfl,s05.seq hp,bx (j:=0) rfl,?_;refine{_,rfl,sh a (by simp),λH6 s6=>?_};exists p,_,1,_,rfl,rfl,(s05.trans s6).seq hp,bx (j:=1) rfl,?_;refine{_,rfl,sh b (by simp),λH7 s7=>?_};left;refine{D,_,rfl,.inl {ao (s7 _ _ (s6 _ _ hD5)),?_}};intros p8 H8 s8 h8;exists by show 4<=sizeLine;decide,?_
    intros p9 H9 s9 h9;let s59:=((s6.trans s7).trans s8).trans s9;refine{p9,_,rfl,h9,(by show 4<=1000000;decide),λHx sx=>kk _ _ ((s05.trans s59).trans sx) ?_};rw[GN];refine GZ (ds:=[dO .int (fN a),dO .int (fN b),dO .int (mH c' 2 9),.tup (xs.map nh)]) (sx _ _ h9) (aU (B6 _) (aU (B6 _) (aU (B6 _) (og (cW (sx _ _ (s9 _ _ h8)) (il5.mono (s59.trans sx))))))) ?_ ?_
    ·cases fN a <;> cases fN b <;> cases mH c' 2 9 <;> first | (intro _;rfl) | (intro q;exact absurd q (by simp[dO,dL,Dt.gA]))
    ·cases fN a <;> cases fN b <;> cases mH c' 2 9 <;> first | (intro _;rfl) | (intro q;exact absurd q (by simp[dO,dL,Dt.gA]))
def F8:di P w base 3 T.oE (f9 K (pz j9 BG)):=by
 nomatch T.oE,["words","stops","coda"]
 let⟨p,ws,rfl,hp,hl,sh,kk⟩:=h;let sl:=yC;refine{_,(ag (aM (ptr fP (d7 aH T.bP (ah (pv 0) af)) ae)
  (ak (au aW))
  aC)
  (ag (bO 1 qN (bQ (eK T) hr T.dI (ah (oJ (ts:=["word"]) (ys:=[]) (js:=[]) (te:=(gz kh [] E0 (cj (bj 0) fc))) (bB (eW lG (pv 0) gg (gf ae))) (gO 0) bE (bQ (cC T) hr T.dh (ah (pv 0) af))) af)))
  (ag (bO 2 qN (bQ (cC T) hr T.dh (ah (fB (pv 0) ae) af)))
  (ag (aM (PW.pt (d4 (bH (cJ (pv 1))) (dq (PW.pt (dF (bH (cJ (pv 2))) (cZ (ptr fP (fB (pv 0) ae) aK)))))))
  (ak (au aW))
  aC)
  (ak (au (bM (ah (fB (pv 1) ae) (ah (fB (pv 1) ae) (ah (fB (pv 1) ae) (ah (pv 2) af))))))))))),?_}
 ac_rfl;exists p,_,rfl,.inl hp,?_;rw[za];left
 by_cases hw:⇑ws=4
 ·obtain⟨a,b,c,d,rfl⟩:∃a b c d,ws=[a,b,c,d]:=by
   match ws,hw with
   | [a,b,c,d],_=>exact{(a),b,c,d,rfl}
  let en:BG [a,b,c,d]=(match fN a,fN b,fN c with | some x,some y,some z=>(match fN d with | some n=>some {x,y,z,some n} | none=>if d ="end" then some {(x),y,z,none} else none) | _,_,_=>none):=rfl;unfold pz at kk;rw[en] at kk;refine bX rfl ?_;exists p,_,rfl,hp,?_;rw[show kD (List.map V.str [a,b,c,d]) none (some 3)=[a,b,c].map V.str from(RQ _ 3).trans rfl];intros p1 H1 s1 h1;exists{_,ao h1},?_;refine fk (enc:=V.str) (ws:=[a,b,c]) (λz=>dO .int (fN z)) (λU=>∃v,U=[v]) (by show 3<=sizeLine;ext) (ao h1) {(none),rfl} ?_ ?_
  ·rintro z U H4 R hz s4 ⟨_,rfl⟩ r
   change{sh z (by simp at hz ⊢;rcases hz with h | h | h <;> simp[h]),λH5 s5=>r _ _ _ s5 (B6 _) {_,rfl}}
  ·intro D vs H4 s4 hD il
   refine{D,vs,rfl,ao hD,by rw[il.len];show 3<=1000000;decide,λH5 s5=>?_};let il:=nZ il;rw[j8 il];let s05:=(s1.trans s4).trans s5;cases q:(([a,b,c].map fN).map (dO Dt.int)).any Dt.gA with
   | true=>
    exists p,_,3,_,rfl,rfl,s05.seq hp,rfl,?_;refine{_,rfl,sh d (by simp),λH6 s6=>?_};left;refine kk _ _ (s05.trans s6) ?_;let q':([fN a,fN b,fN c].map (dO Dt.int)).any Dt.gA=true:=q;clear q en kk
    revert q'
    cases fN a <;> cases fN b <;> cases fN c <;> intro q' <;> first | exact eB | exact absurd q' (by simp[dO,Dt.gA])
   | false=>
    obtain⟨x,y,z,ea,eb,ec⟩:∃x y z,fN a=some x/\fN b=some y/\fN c=some z:=by
     let q':([fN a,fN b,fN c].map (dO Dt.int)).any Dt.gA=false:=q;clear q en kk il
     revert q'
     cases fN a <;> cases fN b <;> cases fN c <;> intro q' <;> first | exact⟨_,_,_,rfl,rfl,rfl⟩ | exact absurd q' (by simp[dO,Dt.gA])
    rw[ea,eb,ec] at kk;let il':aD H4 ([x,y,z].map Dt.int) vs:=by
     have:([a,b,c].map fN).map (dO Dt.int)=[x,y,z].map Dt.int:=by simp[ea,eb,ec,dO]
     rw[this] at il;exact il
    let ev:=eQ il';subst ev;let hD5:=s5 _ _ hD;exists p,_,3,_,rfl,rfl,s05.seq hp,rfl,?_;refine{_,rfl,sh d (by simp),λH6 s6=>?_};let hD6:=s6 _ _ hD5;let s06:=s05.trans s6;let fin:∀(o:Option Int) (v:V),Is H6 (dO .int o) v->fN d=o->(o=none->d ="end")->∀p7 H7,aG H6 H7->H7 p7=some (.tup [.int x,.int y,.int z,v])->Q (.ref p7) H7:=λo v iv eo hend p7 H7 s7 h7=>by
     refine kk _ _ (s06.trans s7) ?_;rw[eo];cases o with
     | none=>
      simp only[hend rfl,yO];exact cW h7 (aU cX (aU cX (aU cX (og (iv.mono s7)))))
     | some n=>exact cW h7 (aU cX (aU cX (aU cX (og (iv.mono s7)))))
    cases ed:fN d with
    | none=>
     exists p,_,3,_,rfl,rfl,s06.seq hp,rfl,?_;left
     by_cases he:d ="end"
     ·refine bX (by rw[he];rfl) ?_
      exists D,_,0,_,rfl,rfl,ao hD6,rfl,?_;exists D,_,1,_,rfl,rfl,ao hD6,rfl,?_;exists D,_,2,_,rfl,rfl,ao hD6,rfl,?_;left;refine{by show 4<=sizeLine;ext,laid ?_};exact fin none .bT eB ed λ_=>he
     ·refine bW (by rw[ze λz=>he (V.str.inj z)];rfl) ?_
      left;refine kk _ _ s06 ?_;rw[ed];simp only[yN he];exact eB
    | some n=>
     exists D,_,0,_,rfl,rfl,ao hD6,rfl,?_;exists D,_,1,_,rfl,rfl,ao hD6,rfl,?_;exists D,_,2,_,rfl,rfl,ao hD6,rfl,?_;left;refine{by show 4<=sizeLine;ext,laid ?_};exact fin (some n) (.int n) cX ed λz=>nomatch z
 ·refine bW (by rw[ze λz=>hw (by have:=V.int.inj z;ext)];rfl) ?_
  left;refine kk _ _ (aI _) ?_;let e:BG ws=none:=by
   rcases ws with _ | ⟨_,_ | ⟨_,_ | ⟨_,_ | ⟨_,_ | ⟨_,r⟩⟩⟩⟩⟩
   all_goals first | rfl | exact absurd rfl hw
  unfold pz;rw[e];exact eB
structure Dk (P:vz) (w:vA) (K:yB) {mg:Str->Option vv} (T:Txt K mg):Prop where
 LV:KD P w K T.jf [("player",.ref T.gU),("instrument",.ref T.eR),("staff",.ref T.iY),("bar",.ref T.mi),("upbeat",.ref T.gR),("holds",.ref T.kb),("notes",.ref T.iZ),("repeat",.ref T.gS),("jump",.ref T.ka)]
 Uc:KD P w K T.rD [("player",.ref T.gw),("instrument",.ref T.eE),("staff",.ref T.gQ),("bar",.ref T.kc),("upbeat",.ref T.gr),("holds",.ref T.i7),("notes",.ref T.gW),("repeat",.ref T.gs),("jump",.ref T.i6)]
inductive N0 (K:yB) {mg:Str->Option vv} (T:Txt K mg):vD->Sp->Prop where
 | bS:N0 K T T.gU (f9 K (pz .str (one cM)))
 | cR:N0 K T T.eR (f9 K (pz eP nQ))
 | cD:N0 K T T.iY (f9 K (pz jE tK))
 | bar:N0 K T T.mi (f9 K (pz lh FZ))
 | aL:N0 K T T.gR (f9 K (pz dL (one lr)))
 | holds:N0 K T T.kb (f9 K (pz u9 uQ))
 | aN:N0 K T T.iZ (f9 K VG)
 | rep:N0 K T T.gS (f9 K (pz ig lN))
 | cm:N0 K T T.ka (f9 K (pz j9 BG))
noncomputable def BF {K:yB} {mg:Str->Option vv} (T:Txt K mg):List (Str×V):=[("player",V.ref T.gU),("instrument",.ref T.eR),("staff",.ref T.iY),("bar",.ref T.mi),("upbeat",.ref T.gR),("holds",.ref T.kb),("notes",.ref T.iZ),("repeat",.ref T.gS),("jump",.ref T.ka)]
def OW (K:yB) {mg:Str->Option vv} (T:Txt K mg) (x:Str):(sP (BF T) x=none/\∀ws,oG (x::ws)=none)\/∃f D,sP (BF T) x=some (.ref f)/\N0 K T f (f9 K D)/\∀H0 H v ws,D H0 H v ws->gN H0 H v (oG (x::ws)):=by
 by_cases e0:x ="player"
 ·subst e0
  refine .inr {_,_,rfl,.bS,λH0 H v ws h=>?_};exact nu (g:=Told.bS) h λx z=>by unfold Is at z;exact z
 by_cases e1:x ="instrument"
 ·subst e1
  refine .inr {_,_,rfl,.cR,λH0 H v ws h=>?_};exact nu (g:=λ(x:Str×(Int×Int)×(Int×Int))=>Told.cR x.1 x.2.1 x.2.2) h λx z=>(show Is H (eP x) v from z)
 by_cases e2:x ="staff"
 ·subst e2
  refine .inr {_,_,rfl,.cD,λH0 H v ws h=>?_};exact nu (g:=λ(x:Str×List Str)=>Told.cD x.1 x.2) h λx z=>(show Is H (jE x) v from z)
 by_cases e3:x ="bar"
 ·subst e3
  refine .inr {_,_,rfl,.bar,λH0 H v ws h=>?_};exact nu (g:=Told.bar) h λx z=>z
 by_cases e4:x ="upbeat"
 ·subst e4
  refine .inr {_,_,rfl,.aL,λH0 H v ws h=>?_};exact nu (g:=Told.aL) h λx z=>z
 by_cases e5:x ="holds"
 ·subst e5
  refine .inr {_,_,rfl,.holds,λH0 H v ws h=>?_};exact nu (g:=λ(x:Str×Int×Str)=>Told.holds x.1 x.2.1 x.2.2) h λx z=>(show Is H (u9 x) v from z)
 by_cases e6:x ="notes"
 ·subst e6
  refine .inr {_,_,rfl,.aN,λH0 H v ws h=>?_};let e:oG ("notes":: ws)=(lO ws).map λx=>Told.aN x.1 x.2.1 x.2.2:=rfl;rw[e];unfold VG at h;cases q:lO ws with
  | none=>rw[q] at h;exact h
  | some y=>rw[q] at h;exact h
 by_cases e7:x ="repeat"
 ·subst e7
  refine .inr {_,_,rfl,.rep,λH0 H v ws h=>?_};exact nu (g:=Told.rep) h λx z=>z
 by_cases e8:x ="jump"
 ·subst e8
  refine .inr {_,_,rfl,.cm,λH0 H v ws h=>?_};exact nu (g:=Told.cm) h λx z=>z
 refine .inl {?_,λws=>?_}
 ·let f0:∀(k:Str) (v:V) (r:List (Str×V)),x≠k->sP ((k,v)::r) x=sP r x:=λk v r h=>by
   unfold sP;rw[yT];rw[show decide ((k,v).1=x)=false from ze λz=>h z.symm]
  unfold BF;rw[f0 _ _ _ e0,f0 _ _ _ e1,f0 _ _ _ e2,f0 _ _ _ e3,f0 _ _ _ e4,f0 _ _ _ e5,f0 _ _ _ e6,f0 _ _ _ e7,f0 _ _ _ e8];rfl
 ·unfold oG
  dsimp only;rw[yN e0,yN e1,yN e2,yN e3,yN e4,yN e5,yN e6,yN e7,yN e8]
def sT {K:yB} {mg:Str->Option vv} (T:Txt K mg):Sp:=λvs H Q _=>∃x:Str,vs=[.str x]/\Q (.bl (sP (BF T) x).isSome) H
def tO (B:Dk P w K T):di P w base 1 T.ku (sT T):=by
 nomatch T.ku,["word"]
 let⟨x,rfl,kk⟩:=h;refine{_,(ak (au (tN (Rk (pv 0) (bK (v:=.ref T.jf) (by rfl) T.Fc rfl))))),?_};ac_rfl;exists T.jf,BF T,x,rfl,B.LV,rfl,?_;left;show Q (V.bl (false ^^ (sP (BF T) x).isSome)) H;rw[Bool.false_xor];exact kk
def uM:dY ["words","reader"] ["words"] (aT pO):=QF
def Iz (B:Dk P w K T):di P w base 7 T.BC (HJ K):=by
 refine T.BC.F.Vf uM λcdv A' outer s H vs Q E hr h=>?_
 ·let⟨p,x,ws,rfl,hp,hl,sh,kk⟩:=h
  let sl:=yC;let hTbV:∀f sp,N0 K T f sp->UB (jF JX P w K mg base ["words","reader"] "read_row" (aT pO) T.CO cdv A' outer s H E).JY JX 6 f sp:=by
   intro f sp h;cases h with
   | bS=>exact{_,_,L2.dy.mono (BQ T) ∅,T.jU.F.kp,T.jU.b}
   | cR=>exact{_,_,L2.dy.mono (qh T) ∅,T.fJ.F.kp,T.fJ.b}
   | cD=>exact{_,_,L2.dy.mono (DH T) ∅,T.lL.F.kp,T.lL.b}
   | bar=>exact{_,_,L2.dy.mono (IC T) ∅,T.rC.F.kp,T.rC.b}
   | aL=>exact{_,_,L2.dy.mono (BO T) ∅,T.jS.F.kp,T.jS.b}
   | holds=>exact{_,_,L2.dy.mono (F9 T) ∅,T.oF.F.kp,T.oF.b}
   | aN=>exact{_,_,L2.dy.mono (DJ T) ∅,T.lM.F.kp,T.lM.b}
   | rep=>exact{_,_,L2.dy.mono (BP T) ∅,T.jT.F.kp,T.jT.b}
   | cm=>exact{_,_,L2.dy.mono (F8 T) ∅,T.oE.F.kp,T.oE.b}
  refine{_,(ag (aM (fq (cP (bQ (tO T B) hr T.ku (ah (fB (pv 0) ae) af))))
   (ak (au aW))
   aC)
   (ag (bO 1 uM.nd (Ir (bK (v:=.ref T.jf) (by rfl) T.Fc rfl) (fB (pv 0) ae) (λ_ _=>rfl)))
   (ak (au (Iu (N0 K T) hTbV (hr.mono ∅) (pv 1) L3 (ah (eW lG (pv 0) (gf ae) gg) af)))))),?_}
  ac_rfl;exists p,_,0,_,rfl,rfl,hp,bx (j:=0) rfl,?_;refine{x,rfl,?_};rcases OW K T x with⟨ev,er⟩ | ⟨f,D,ev,htb,hd⟩
  ·rw[ev]
   left;refine kk _ _ (aI _) ?_;rw[er];rfl
  ·rw[ev]
   exists p,_,0,_,rfl,rfl,hp,bx (j:=0) rfl,?_;refine{T.jf,BF T,x,_,rfl,B.LV,rfl,ev,?_};exists f,_,rfl,htb,?_;exists p,_,rfl,hp,?_;rw[show kD (List.map V.str (x::ws)) (some 1) none=ws.map V.str from(gJ _ 1).trans rfl];intros p1 H1 s1 h1;refine{p1,ws,rfl,ao h1,(),λy hy=>sh y (by simp[hy]),λv H2 s2 h2=>kk _ _ (s1.trans s2) ((hd _ _ _ _ h2).back s1)}
def mM:di P w base 1 T.iM (vK K):=by
 nomatch T.iM,["repeats","bar","repeat"]
 let⟨p,rs,b,rfl,⟨vs,hp,il⟩,kk⟩:=h;unfold dU at kk;refine{_,(ag (cy yP rfl (bB (pv 0)) (jg 2 qN)
  (ak (aM (PW.pt (dF (ptr fQ (bJ (pv 2) ae) (pv 1)) (cZ (ptr fQ (pv 1) (bJ (pv 2) ae)))))
   (ak (au (pv 2)))
   aC)))
  (ak (au aW))),?_}
 ac_rfl;exists{_,hp},?_;refine dG (K:=K) (a:=p) (xs:=vs) (λi U H'=>H'=H/\(rs.take i).find? (λr=>decide (r.first<=b)&&decide (b<=r.last))=none/\∃v,U=[some (.ref p),some (.int b),v]) {(rfl),rfl,none,rfl} (λi U H' _ h=>by rw[h.1];exact hp) ?_ ?_
 ·intro i x U H' hx hh
  refine cT λN kN0 kR0 _ _=>?_;let⟨rfl,hn,v,rfl⟩:=hh;let⟨r,hr',hi⟩:=cV il hx;let⟨a,e,rfl,ha,he⟩:=eN hi;left
  by_cases c1:r.first<=b
  ·refine bW (zg c1) ?_
   left
   by_cases c2:b<=r.last
   ·refine bW (zg c2) ?_
    left;refine kk _ ?_;rw[Mg hr' hn (by rw[zg c1,zg c2];rfl)];exact hi
   ·refine bX (ze c2) ?_
    change{E3 hr' hn (by rw[ze c2,wI]),_,rfl}
  ·refine bX (ze c1) ?_
   change{E3 hr' hn (by rw[ze c1,yU]),_,rfl}
 ·rintro U H' ⟨rfl,hn,v,rfl⟩
  rw[aS il,zP] at hn;left;refine kk _ ?_;rw[hn];exact eB
def Ga:di P w base 2 T.tZ (FA K):=by
 nomatch T.tZ,["repeats","bar","repeat"]
 let⟨p,rs,b,rfl,hp,kk⟩:=h;unfold hV at kk;refine{_,(ag (bO 2 qN (bQ (mM T) hr T.iM (ah (pv 0) (ah (pv 1) af))))
  (ak (au (O9 (tN (cJ (pv 2))) (nT (dM c9 (pv 1) (bJ (pv 2) ae) (gE _))))))),?_}
 ac_rfl;exists p,rs,b,rfl,hp,λv iv=>?_;cases q:dU rs b with
 | none=>
  rw[q] at iv kk;unfold dO Is at iv;subst iv;change kk
 | some r=>
  rw[q] at iv kk;let⟨a,e,rfl,ha,he⟩:=eN iv;left;let e1:decide (V.int b=V.int r.last)=decide (b=r.last):=by simp
  show Q (.bl (decide (V.int b=V.int r.last))) H;rw[e1];exact kk
def rM:di P w base 2 T.oN (FC K):=by
 nomatch T.oN,["repeats","bar","repeat"]
 let⟨p,rs,b,rfl,hp,kk⟩:=h;unfold eJ at kk;refine{_,(ag (bO 2 qN (bQ (mM T) hr T.iM (ah (pv 0) (ah (pv 1) af))))
  (ak (au (O9 (tN (cJ (pv 2))) (nT (dM c9 (pv 1) (bJ (pv 2) ae) (gE _))))))),?_}
 ac_rfl;exists p,rs,b,rfl,hp,λv iv=>?_;cases q:dU rs b with
 | none=>
  rw[q] at iv kk;unfold dO Is at iv;subst iv;change kk
 | some r=>
  rw[q] at iv kk;let⟨a,e,rfl,ha,he⟩:=eN iv;left;let e1:decide (V.int b=V.int r.first)=decide (b=r.first):=by simp
  show Q (.bl (decide (V.int b=V.int r.first))) H;rw[e1];exact kk
def P8 (us:List V) (h:us≠[]):¬(HT.fA ⇑us 0 (some 1)=0/\HT.fA ⇑us ⇑us none=⇑us):=by
 rintro⟨h1,_⟩;let hp:0<⇑us:=yt.mpr h;let e:HT.fA ⇑us 0 (some ((1:Nat):Int))=min 1 ⇑us:=by unfold HT.fA;simp
 let e':HT.fA ⇑us 0 (some (1:Int))=min 1 ⇑us:=e;rw[e'] at h1;ext
def ML {K:yB} {H:Hp} {e:vD} {us:List V} {Q:VK} (hu:H e=some (.tup us)) (k:∀q H1,aG H H1->H1 q=some (.tup (us.drop 1))->Q (.ref q) H1):Sf K (.ref e) (some 1) none H Q:=by
 by_cases h:us=[]
 ·subst h
  exact .inr {e,[],rfl,bC hu,{(rfl),rfl},k e H (aI H) hu}
 ·refine .inl {e,us,rfl,bC hu,P8 us h,?_}
  rw[show kD us (some 1) none=us.drop 1 from gJ us 1];exact laid k
def BS:di P w base 1 T.AX Kg:=by
 nomatch T.AX,["repeat","ends","behind"]
 let⟨v,r,rfl,iv,hl,kk⟩:=h;let sl:=yC;let⟨a,e,rfl,ha,he⟩:=eN iv;unfold Is at he;let⟨e',us,ee,hu,ilu⟩:=he;cases ee;refine{_,(ag (bO 1 qN (bJ (pv 0) ae))
  (ag (bO 2 qN (aB gh (oJ (ts:=["end"]) (ys:=[]) (js:=[]) (te:=(fW (qd K) (bj 0) (tC (.int (0))))) (ko (eW QT (pv 1) (gf ae) gg)) (gO 0) bE (bJ (pv 0) ae)) (bq (ah (aB bf (bJ (pv 0) ae) ae) af))))
  (ak (au (oJ (ts:=["end","after"]) (ys:=[]) (js:=[]) (g:=(IZ K 2 (gj (cw 0) (gj (cw 1) I0)))) (te:=(MG (cj (fW (qd K) (bj 0) (tC (.int (0)))) (cj (fW (qP λi j=>.int (i-j)) (bj 1) (tC (.int (1)))) (cj (fW (qd K) (bj 0) (tC (.int (1)))) fc))))) (KH (by rfl) T.Pl (ah (pv 1) (ah (pv 2) af))) (d6 (n:=2) rfl (aQ (gO 0) (aQ (gO 1) dr))) bE (bM (ah (bJ (pv 0) ae) (ah (aB iC (pv 1) ae) (ah (bJ (pv 0) ae) af))))))))),?_}
 ac_rfl;left;let main:∀(q:vD) (H1:Hp),aG H H1->H1 q=some (.tup (us.drop 1))->∀(R:VK),(∀D H2,aG H1 H2->H2 D=some (.lst ((r.ends.drop 1).map λx=>V.int x.1))->R (.ref D) H2)->
   dQ [none] (cw 0) vJ (fW (qd K) (bj 0) (tC (.int 0))) R (SF K q) H1:=by
  intro q H1 s1 h1 R hR;let il1:aD H ((r.ends.drop 1).map nh) (us.drop 1):=by
   cases re:r.ends with
   | nil=>
    rw[re] at ilu;unfold aD at ilu;subst ilu;unfold aD;rfl
   | cons x xs=>
    rw[re,zj] at ilu;unfold aD at ilu;let⟨u,ur,rfl,_,h2⟩:=ilu;exact h2
  let⟨ps,f1,f2,f3⟩:=AU il1;let pl:⇑ps<=1000000:=by
   have:⇑ps=⇑(r.ends.drop 1):=by rw[<-f1,za]
   rw[this,xC];ext
  refine gK (enc:=λz:Sc.End×V=>z.2) (ws:=ps) (λz=>.int z.1.1) (λU=>∃v,U=[v]) () (by rw[f2];exact h1) {(none),rfl} ?_ ?_
  ·rintro z U H6 R' hz s6 ⟨_,rfl⟩ r'
   let⟨a6,q6,ev,h6,h7⟩:=uk (f3 z hz);rw[ev];let h66:=s6 _ _ (s1 _ _ h6);change r' _ _ _ (aI _) cX {_,rfl}
  ·intro D vs H6 s6 hD il
   let e5:ps.map (λz=>Dt.int z.1.1)=((r.ends.drop 1).map (·.1)).map Dt.int:=by rw[<-f1,zD,zD];rfl
   rw[e5] at il;rw[eQ il,zD] at hD;exact hR D H6 s6 hD
 refine ML hu λq H1 s1 h1=>{q,rfl,{_,bC h1},main q H1 s1 h1 _ λD H2 s2 h2=>?_}
 let ha2:=s2 _ _ (s1 _ _ ha);exists by show 1<=sizeLine;ext,?_
 intros p3 H3 s3 h3;refine{D,p3,_,_,rfl,rfl,ao (s3 _ _ h2),ao h3,by rw[za,xC];show _+1<=_;ext,?_};intros p4 H4 s4 h4;let s04:=(s1.trans s2).trans (s3.trans s4);let hu4:=s04 _ _ hu;let eb:(List.map (λx=>V.int x.1) (r.ends.drop 1)++[V.int (r.last+1)])=((r.ends.drop 1).map (·.1)++[r.last+1]).map V.int:=by rw[zk,zD];rfl
 rw[eb] at h4;left;let ilu4:=ilu.mono s04;let ul:=aS ilu;refine{true,false,e,p4,us,_,rfl,bC hu4,ao h4,?_};generalize hbs:(r.ends.drop 1).map (·.1)++[r.last+1]=bs at h4;let zl:⇑(r.ends.zip bs)=min ⇑r.ends ⇑bs:=xB;refine Cz (ws:=r.ends.zip bs) (λz x H'=>∃p u,x=.ref p/\H' p=some (.tup [u,.int z.2])/\Is H' (nh z.1) u) (λz=>ND (z.1.1,z.2-1,z.1.2)) (λU=>∃u v,U=[u,v]) () {(none),none,rfl} ?_ ?_ ?_ ?_ ?_
 ·intro i H5 hi s5
  let i1:i<⇑us:=()
  let i2:i<⇑(bs.map V.int):=by rw[za];ext
  exact{us,bs.map V.int,us[i],(bs.map V.int)[i],bC (s5 _ _ hu4),ao (s5 _ _ h4),zd i1,zd i2}
 ·intro H5 s5
  refine{us,bs.map V.int,bC (s5 _ _ hu4),ao (s5 _ _ h4),?_};rw[za];rcases Nat.le_total ⇑r.ends ⇑bs with h | h
  ·exact Or.inl ()
  ·right;ext
 ·rintro i x H5 H6 hi s5 ⟨p,u,v,hp,rfl,rfl,hu',hv'⟩
  let i1:i<⇑r.ends:=()
  let i2:i<⇑bs:=()
  let gu:=hu' us (bC (s5 _ _ hu4));let gv:=hv' (bs.map V.int) (ao (s5 _ _ h4));rw[zM,zd i2] at gv;cases gv;let⟨x0,hx0,ix0⟩:=cV (ilu4.mono s5) gu;rw[zd i1] at hx0;cases hx0;refine{bz hp,p,u,rfl,?_,?_}
  ·rw[aF,List.getElem_zip]
  ·rw[List.getElem_zip];exact ix0.mono (bz hp)
 ·rintro z x U H5 R hz s5 ⟨p,u,rfl,hp,iu⟩ ⟨_,_,rfl⟩ rr
  let⟨a6,q6,rfl,h6,h7⟩:=uk iu;refine{p,_,rfl,bC hp,rfl,?_};refine{_,_,rfl,_,_,rfl,rfl,?_};left;refine{km,laid λp7 H7 s7 h7'=>rr _ _ _ s7 ?_ {_,_,rfl}};exact cW h7' (aU cX (aU cX (og (cW (s7 _ _ h7) rZ))))
 ·intro D5 vs5 H5 s5 hD5 il5
  refine kk _ _ _ (s04.trans s5) hD5 ?_;let ee:(fK r).map ND=(r.ends.zip bs).map λz=>ND (z.1.1,z.2-1,z.1.2):=by
   unfold fK;rw[hbs,zD];rfl
  rw[ee];exact il5
def Kc {H:Hp} {e:Int×Int×List Int} {v:V} (h:Is H (ND e) v):∃a q,v=.ref a/\H a=some (.tup [.int e.1,.int e.2.1,.ref q])/\H q=some (.tup (e.2.2.map V.int)):=by
 unfold ND Is at h;let⟨a,vs,rfl,ha,hl⟩:=h;unfold aD at hl;let⟨v1,r1,rfl,h1,hl⟩:=hl;unfold aD at hl;let⟨v2,r2,rfl,h2,hl⟩:=hl;unfold aD at hl;let⟨v3,r3,rfl,h3,hl⟩:=hl;unfold aD at hl;subst hl;unfold Is at h1 h2;subst h1 h2;unfold u7 Is at h3;let⟨q,us,rfl,hq,hle⟩:=h3;rw[eQ hle] at hq;exact{(a),q,rfl,ha,hq}
noncomputable def Ce (r:Rep) (b:Int) (e:Int×Int×List Int):Bool:=decide (e.1<=b)&&decide (b<=e.2.1)&&!decide (r.times∈e.2.2)
def Ni (rs:List Rep) (b:Int):lY rs b=rs.all λr=>(fK r).all λe=>!Ce r b e:=rfl
theorem uh:∀ns:List Int,(ns.map V.int).all mV=true
 | []=>rfl
 | n::ns=>by rw[zj,wW,uh ns];rfl
def mQ:di P w base 2 T.iW (vP K):=by
 nomatch T.iW,["repeats","bar","repeat","end"]
 let⟨p,rs,b,rfl,⟨vs,hp,il⟩,hl,kk⟩:=h;rw[Ni] at kk;refine{_,(ag (cy yP rfl (bB (pv 0)) (jg 2 qN)
  (ak (cy yP rfl (bB (bQ (BS T) hr T.AX (ah (pv 2) af))) (jg 3 qN)
   (ak (aM (PW.pt (dF (ptr fQ (bJ (pv 3) ae) (pv 1)) (dF (ptr fQ (pv 1) (bJ (pv 3) ae)) (cZ (gd d8 (bJ (pv 2) ae) (bJ (pv 3) ae) (by with_unfolding_all rfl))))))
    (ak (au jz))
    aC)))))
  (ak (au jz))),?_}
 ac_rfl;exists{_,hp},?_;refine dG (K:=K) (a:=p) (xs:=vs) (λi U H'=>aG H H'/\(rs.take i).all (λr=>(fK r).all λe=>!Ce r b e)=true/\∃v u,U=[some (.ref p),some (.int b),v,u]) {aI H,rfl,none,none,rfl} (λi U H' _ h=>h.1.seq hp) ?_ ?_
 ·intro i x U H' hx hh
  refine cT λN kN0 kR0 _ _=>?_;let⟨s1,hn,v,u,rfl⟩:=hh;let⟨r,hr',hi⟩:=cV il hx;let hm:=zE hr';exists _,r,rfl,hi.mono s1,hl r hm,λD us H2 s2 hD ilD=>?_;refine{D,rfl,{_,ao hD},?_};let⟨a,e,rfl,ha,he⟩:=eN (hi.mono (s1.trans s2));refine dG (K:=K) (a:=D) (xs:=us) (λj U H'=>H'=H2/\((fK r).take j).all (λe=>!Ce r b e)=true/\∃u,U=[some (.ref p),some (.int b),some (.ref a),u]) {rfl,rfl,_,rfl} (λj U H' _ h=>by rw[h.1];exact ao hD) ?_ ?_
  ·intro j y U H3 hy hh
   refine cT λN kN1 kR1 _ _=>?_;let⟨rfl,hnj,u',rfl⟩:=hh;let⟨t,ht,it⟩:=cV ilD hy;let⟨a6,q6,rfl,h6,h7⟩:=Kc it;let good:Ce r b t=false->((fK r).take (j+1)).all (λe=>!Ce r b e)=true:=λz=>by
    rw[dm ht,List.all_append,hnj,yW];simp[z]
   left
   by_cases c1:t.1<=b
   ·refine bW (zg c1) ?_
    left
    by_cases c2:b<=t.2.1
    ·refine bW (zg c2) ?_
     exists q6,t.2.2.map V.int,rfl,.inr (bC h7),rfl,uh _,?_;show∃k,V.bl (!Gp (.int r.times) (t.2.2.map V.int))=.bl k/\_;rw[B7]
     by_cases c3:r.times∈t.2.2
     ·rw[zg c3]
      change{good (by unfold Ce;rw[zg c3];simp),_,rfl}
     ·rw[ze c3]
      left;let z:=kk H3 (s1.trans s2);let e0:(rs.all λr=>(fK r).all λe=>!Ce r b e)=false:=by
       rw[List.all_eq_false];refine{r,hm,?_};have:((fK r).all λe=>!Ce r b e)=false:=by
        rw[List.all_eq_false];exact{t,zE ht,by unfold Ce;simp[c1,c2,c3]}
       rw[this];decide
      rw[e0] at z;exact z
    ·refine bX (ze c2) ?_
     change{good (by unfold Ce;rw[ze c2];simp),_,rfl}
   ·refine bX (ze c1) ?_
    change{good (by unfold Ce;rw[ze c1];simp),_,rfl}
  ·rintro U H3 ⟨rfl,hnj,u',rfl⟩
   rw[aS ilD,zP] at hnj;left;refine{s1.trans s2,?_,_,_,rfl};rw[dm hr',List.all_append,hn,yW];simp[hnj]
 ·rintro U H' ⟨s1,hn,v,u,rfl⟩
  rw[aS il,zP] at hn;left;let z:=kk H' s1;rw[hn] at z;exact z
inductive FE (K:yB) (vs:List V) (H:Hp) (Q:VK) (E:XK):Prop
 | mk (p:vD) (rs:List Rep) (a c:Int) (_:vs=[.ref p,.int a,.int c]) (_:Et K H p rs) (_:(∀r∈rs,⇑r.ends<=1000000)) (_:∀H',aG H H'->Q (.bl (decide (a<c)&&eJ rs c&&lY rs c)) H')
inductive FD (K:yB) (vs:List V) (H:Hp) (Q:VK) (E:XK):Prop
 | mk (p:vD) (rs:List Rep) (v:V) (j:Jump) (_:vs=[.ref p,v]) (_:Et K H p rs) (_:(∀r∈rs,⇑r.ends<=1000000)) (_:Is H (j9 j) v) (_:∀H',aG H H'->Q (.bl (hZ rs j)) H')
def rW {H:Hp} {j:Jump} {v:V} (h:Is H (j9 j) v):∃a,v=.ref a/\H a=some (.tup [.int j.qR,.int j.sN,.int j.cK,ov j.fL]):=by
 unfold j9 Is at h;let⟨a,vs,rfl,ha,hl⟩:=h;unfold aD at hl;let⟨v1,r1,rfl,h1,hl⟩:=hl;unfold aD at hl;let⟨v2,r2,rfl,h2,hl⟩:=hl;unfold aD at hl;let⟨v3,r3,rfl,h3,hl⟩:=hl;unfold aD at hl;let⟨v4,r4,rfl,h4,hl⟩:=hl;unfold aD at hl;subst hl;unfold Is at h1 h2 h3;subst h1 h2 h3;refine{a,rfl,?_};cases q:j.fL with
 | none=>rw[q] at h4;unfold dO Is at h4;subst h4;exact ha
 | some n=>rw[q] at h4;unfold dO Is at h4;subst h4;exact ha
def Gd:di P w base 3 T.uA (FE K):=by
 nomatch T.uA,["repeats","at","coda"]
 let⟨p,rs,a,c,rfl,hp,hl,kk⟩:=h;refine{_,(ak (au (qg (dM eX (pv 1) (pv 2) (gE _)) (qg (bQ (rM T) hr T.oN (ah (pv 0) (ah (pv 2) af))) (nT (bQ (mQ T) hr T.iW (ah (pv 0) (ah (pv 2) af)))))))),?_};ac_rfl;left
 by_cases c1:a<c
 ·rw[zg c1,yW] at kk
  refine bW (zg c1) ?_;exists p,rs,c,rfl,hp,?_;cases q:eJ rs c with
  | true=>
   rw[q,yW] at kk;change{(p),rs,c,rfl,hp,hl,kk}
  | false=>
   rw[q,yU] at kk;change kk _ (aI _)
 ·rw[ze c1,yU,yU] at kk
  refine bX (ze c1) ?_;change kk _ (aI _)
def Gb:di P w base 4 T.ue (FD K):=by
 nomatch T.ue,["repeats","jump","at","to","until","coda"]
 let⟨p,rs,v,j,rfl,hp,hl,iv,kk⟩:=h;let⟨a,rfl,ha⟩:=rW iv;unfold hZ at kk;refine{_,(ag (bO 2 qN (bJ (pv 1) ae))
  (ag (bO 3 qN (bJ (pv 1) ae))
  (ag (bO 4 qN (bJ (pv 1) ae))
  (ag (bO 5 qN (bJ (pv 1) ae))
  (ag (aM (PW.pt (d4 (ptr eX (pv 4) (pv 3)) (dq (ptr eX (pv 2) (pv 4)))))
  (ak (au jz))
  aC)
  (ag (aM (PW.pt (dF (bH (fh (pv 5))) (cZ (fq (cP (bQ (Gd T) hr T.uA (ah (pv 0) (ah (pv 2) (ah (pv 5) af)))))))))
  (ak (au jz))
  aC)
  (ak (au (qg (bQ (Ga T) hr T.tZ (ah (pv 0) (ah (pv 2) af))) (qg (bQ (rM T) hr T.oN (ah (pv 0) (ah (pv 3) af))) (nT (bQ (mQ T) hr T.iW (ah (pv 0) (ah (pv 4) af)))))))))))))),?_}
 ac_rfl;left
 by_cases c1:j.cK<j.sN
 ·refine bW (zg c1) ?_
  simp only[yO c1] at kk;change kk _ (aI _)
 ·refine bX (ze c1) ?_
  simp only[yN c1] at kk;left
  by_cases c2:j.qR<j.cK
  ·refine bW (zg c2) ?_
   simp only[yO c2] at kk;change kk _ (aI _)
  ·refine bX (ze c2) ?_
   simp only[yN c2] at kk;left;cases q:j.fL with
   | none=>
    rw[q] at kk;exists p,rs,_,rfl,hp,?_;cases q1:hV rs j.qR with
    | false=>
     rw[q1] at kk;change kk _ (aI _)
    | true=>
     rw[q1] at kk;exists p,rs,_,rfl,hp,?_;cases q2:eJ rs j.sN with
     | false=>
      rw[q2] at kk;change kk _ (aI _)
     | true=>
      rw[q2] at kk;change{p,rs,_,rfl,hp,hl,kk}
   | some n=>
    rw[q] at kk;exists p,rs,_,_,rfl,hp,hl,λH1 s1=>?_;cases q0:(decide (j.qR<n)&&eJ rs n&&lY rs n) with
    | false=>
     simp only[q0] at kk;change kk _ s1
    | true=>
     simp only[q0,yW] at kk;exists p,rs,_,rfl,hp.mono s1,?_;cases q1:hV rs j.qR with
     | false=>
      rw[q1] at kk;change kk _ s1
     | true=>
      rw[q1] at kk;exists p,rs,_,rfl,hp.mono s1,?_;cases q2:eJ rs j.sN with
      | false=>
       rw[q2] at kk;change kk _ s1
      | true=>
       rw[q2] at kk;change{p,rs,_,rfl,hp.mono s1,hl,λH2 s2=>kk _ (s1.trans s2)}
def EF {l ns:List Int} (h1:ns.Perm l) (h2:ns.Pairwise (·<=·)):ns=sortI l:=by
 unfold sortI;refine List.Perm.eq_of_pairwise (le:=λa b:Int=>a<=b) (λa b _ _ x y=>Int.le_antisymm x y) h2 ?_ (h1.trans (List.mergeSort_perm _ _).symm);have:=List.pairwise_mergeSort (le:=λa b:Int=>decide (a<=b)) (λa b c x y=>by simp at x y ⊢;ext) (λa b=>by simp;ext) l;exact this.imp λh=>by simpa using h
noncomputable def Kd:List Sc.End->Nat
 | []=>0
 | e::r=>⇑e.2+Kd r
def SR {es:List Sc.End} {e:Sc.End} (h:e∈es):⇑e.2<=Kd es:=by
 induction es with
 | nil=>cases h
 | cons x r ih=>
  rcases zF.mp h with rfl | h
  ·unfold Kd;ext
  ·have:=ih h;unfold Kd;ext
def Od {a b:List Int}:(decide (a.map V.int=b.map V.int))=decide (a=b):=by
 by_cases h:a=b
 ·subst h;simp
 ·rw[ze h,ze]
  intro z;have:∀{a b:List Int},a.map V.int=b.map V.int->a=b:=by
   intro a
   induction a with
   | nil=>intro b z;cases b with | nil=>rfl | cons _ _=>cases z
   | cons x r ih=>intro b z;cases b with | nil=>cases z | cons y s=>simp at z;rw[z.1,ih (by simpa using z.2)]
  exact h (this z)
theorem rG:∀ns:List Int,(ns.map V.int).all Si=true
 | []=>rfl
 | n::ns=>by rw[zj,wW,rG ns];rfl
def Jk {e:Sc.End} {r:List Sc.End} {a:Int} {ps:List Int} (h1:¬e.1<=a) (h2:e.2=sortI e.2):gk (e::r) a ps=gk r e.1 (ps++e.2):=by
 show(if e.1<=a then none else if e.2≠sortI e.2 then none else gk r e.1 (ps++e.2))=_;rw[yN h1,yN (λz=>z h2)]
def E5 {e:Sc.End} {r:List Sc.End} {a:Int} {ps:List Int} (h:e.1<=a\/e.2≠sortI e.2):gk (e::r) a ps=none:=by
 show(if e.1<=a then none else if e.2≠sortI e.2 then none else gk r e.1 (ps++e.2))=_;rcases h with h | h
 ·rw[yO h]
 ·rw[yO h];split <;> rfl
def RI {α:Type} {l:List α} {i:Nat} {x:α} (h:l[i]?=some x):l.drop i=x::l.drop (i+1):=by
 let⟨hi,rfl⟩:=zB.mp h;exact List.drop_eq_getElem_cons hi
inductive uL (vs:List V) (H:Hp) (Q:VK) (E:XK):Prop
 | mk (v:V) (r:Rep) (_:vs=[v]) (_:Is H (ig r) v) (_:Kd r.ends<64) (_:-1000000<=r.times) (_:r.times<=1000000) (_:∀H',aG H H'->Q (.bl (gn r)) H')
def IE:di P w base 1 T.Cc uL:=by
 nomatch T.Cc,["repeat","ends","ahead","passes","end"]
 let⟨v,r,rfl,iv,ht,t0,t1,kk⟩:=h;let sl:=yC;let⟨a,e,rfl,ha,he⟩:=eN iv;unfold Is at he;let⟨e',us,ee,hu,ilu⟩:=he;cases ee;let ul:=aS ilu;refine{_,(ag (bO 1 qN (bJ (pv 0) ae))
  (ag (aM (ptr c9 (d7 aH T.bP (ah (pv 1) af)) ae)
  (ak (au jz))
  aC)
  (ag (bO 2 qN (aB iC (bJ (pv 0) ae) ae))
  (ag (bO 3 qN (bq af))
  (ag (cy yP rfl (ko (pv 1)) (jg 4 qN)
  (ag (aM (PW.pt (d4 (ptr fQ (bJ (pv 4) ae) (pv 2)) (dq (ptr (KI hr.units) (nV mf T.qt (ah (bJ (pv 4) ae) af)) (d7 sE T.IJ (ah (bJ (pv 4) ae) af))))))
   (ak (au jz))
   aC)
   (ag (bO 2 qN (bJ (pv 4) ae))
   (ak (bu (bZ yD y9 y8 jD (pv 3) (ah (bJ (pv 4) ae) af)))))))
  (ak (au (qg (dM fQ (pv 2) (bJ (pv 0) ae) (gE _)) (nT (dM (F4 hr.units) (d7 sE T.IJ (ah (pv 3) af)) (rJ rfl (by rfl) T.qt (by rfl) T.de (ah ae (ah (aB bf (bJ (pv 0) ae) ae) af))) (gE _))))))))))),?_}
 ac_rfl;exists e,_,rfl,.inr (bC hu),?_;rw[ul];left
 by_cases h0:⇑r.ends=0
 ·refine bW (by rw[h0];rfl) ?_
  left;let e0:gn r=true:=by
   unfold gn;rw[yu.mp h0]
  rw[e0] at kk;exact kk _ (aI _)
 ·refine bX (ze λz=>h0 (by have:=V.int.inj z;ext)) ?_
  let ef:gn r=(match gk r.ends (r.first-1) [] with | none=>false | some (a,ps)=>decide (a<=r.last)&&decide (sortI ps=MT 1 (r.times+1-1).toNat)):=by
   unfold gn;cases q:r.ends with
   | nil=>rw[q] at h0;exact absurd rfl h0
   | cons x xs=>rfl
  rw[ef] at kk;exists by show 0<=sizeLine;ext,?_
  intro pp hn;generalize hG:upd _ pp _=H1;let s1:=aG.BV hG hn;let h1:=CK hG;clear hG;exists{_,bC (s1 _ _ hu)},?_;refine Me (K:=K) (a:=e) (xs:=us) (λi U H'=>aG H H'/\∃(z:Int) (ps:List Int) (u:Option V),U=[some (.ref a),some (.ref e),some (.int z),some (.ref pp),u]/\H' pp=some (.lst (ps.map V.int))/\⇑ps+Kd (r.ends.drop i)=Kd r.ends/\gk r.ends (r.first-1) []=gk (r.ends.drop i) z ps) {s1,_,[],none,rfl,h1,by simp,rfl} (λi U H' _ h=>bC (h.1 _ _ hu)) ?_ ?_
  ·intro i x U H2 hx hh
   refine cT λN kN0 kR0 _ _=>?_;let⟨s2,z,ps,u,rfl,h2,hc,hgo⟩:=hh;let⟨en,hen,ien⟩:=cV ilu hx;let⟨a6,q6,rfl,h6,h7⟩:=uk (ien.mono s2);let hle:=SR (zE hen);rw[RI hen] at hgo hc;rw[show Kd (en::List.drop (i+1) r.ends)=⇑en.2+Kd (List.drop (i+1) r.ends) from rfl] at hc;left
   by_cases c1:en.1<=z
   ·refine bW (zg c1) ?_
    rw[hgo,E5 (.inl c1)] at kk;change kk _ s2
   ·refine bX (ze c1) ?_
    exists q6,_,rfl,.inr (bC h7),?_;intros p8 H8 s8 h8;let h68:=s8 _ _ h6;let h78:=s8 _ _ h7;exists q6,en.2,rfl,.inr (bC h78),(),λns np ns'=>?_;intros p9 H9 s9 h9;let h69:=s9 _ _ h68;let h79:=s9 _ _ h78;let h29:=s9 _ _ (s8 _ _ h2);rw[EF np ns'] at h9;refine{p8,p9,_,_,rfl,rfl,.inl {ao (s9 _ _ h8),ao h9},.inr (.inr {rG _,rG _}),?_};rw[Od]
    by_cases c2:en.2=sortI en.2
    ·rw[zg c2]
     rw[Jk c1 c2] at hgo;exists .inl {rfl,_,ao h29},?_;left;refine .inr {pp,q6,_,_,rfl,rfl,h29,h79,by rw[za,za];ext,?_};left;let s29:=(s2.trans s8).trans s9;refine{λb o hb=>?_,en.1,ps++en.2,_,rfl,by rw[aF,zk],by rw[zh];ext,hgo};let ne:b≠pp:=λz=>by rw[z,hn] at hb;cases hb
     rw[aE ne];exact s29 b o hb
    ·rw[ze c2]
     rw[hgo,E5 (.inr c2)] at kk;change kk _ ((s2.trans s8).trans s9)
  ·rintro U H2 ⟨s2,z,ps,u,rfl,h2,hc,hgo⟩
   rw[ul,List.drop_length] at hgo hc;rw[hgo] at kk;let ha2:=s2 _ _ ha;unfold gk at kk;simp only at kk;rw[show Kd []=0 from rfl] at hc;left
   by_cases c1:z<=r.last
   ·rw[zg c1,yW] at kk
    refine bW (zg c1) ?_;exists pp,ps,rfl,.inl (ao h2),(),λns np ns'=>?_;intros p9 H9 s9 h9;rw[EF np ns'] at h9;let ha9:=s9 _ _ ha2;exists 1,r.times+1,rfl,{∅,(by decide),(),()},(),?_;intros p10 H10 s10 h10;refine{p9,p10,_,_,rfl,rfl,.inl {ao (s10 _ _ h9),ao h10},.inr (.inr {rG _,rG _}),?_};rw[Od];exact kk _ ((s2.trans s9).trans s10)
   ·rw[ze c1,yU] at kk
    refine bX (ze c1) ?_;exact kk _ s2
def Ms {xs:List V} {x:V} (h:xs[⇑xs-1]?=some x):Ek xs (-1)=some x:=by
 let hp:0<⇑xs:=by
  have:=(zB.mp h).1;ext
 let ne:xs≠[]:=yt.mp hp;let e:=xW ne;let e2:xs.getLast ne=x:=by
  have:=(zB.mp h).2;rw[List.getLast_eq_getElem];exact this
 rw[<-e,e2];exact L2.CL _ _
inductive Bc (K:yB) (vs:List V) (H:Hp) (Q:VK) (E:XK):Prop
 | mk (p:vD) (rs:List Rep) (v:V) (r:Rep) (_:vs=[.ref p,v]) (_:Et K H p rs) (_:Is H (ig r) v) (_:Kd r.ends<64) (_:-1000000<=r.times) (_:r.times<=1000000) (_:∀H',aG H H'->Q (.bl (lJ rs r)) H')
def BN:di P w base 2 T.nO (Bc K):=by
 nomatch T.nO,["repeats","repeat"]
 let⟨p,rs,v,r,rfl,⟨vs,hp,il⟩,iv,ht,t0,t1,kk⟩:=h;let⟨a,e,rfl,ha,he⟩:=eN iv;let vl:=aS il;let tail:(∀H',aG H H'->Q (.bl (decide (r.first<=r.last)&&gn r)) H')->(if decide (r.first<=r.last)=true then gz uL [] E0 (cj (bj 1) fc) [some (.ref p),some (.ref a)] H Q else Q (.bl false) H):=by
  intro k
  by_cases c:r.first<=r.last
  ·rw[zg c,yW] at k
   refine bW (zg c) ?_;exact{_,rfl,_,r,rfl,iv,ht,t0,t1,k}
  ·rw[ze c,yU] at k
   refine bX (ze c) ?_;exact k _ (aI _)
 refine{_,(ag (aM (PW.pt (dF (ptr fE (d7 aH T.bP (ah (pv 0) af)) ae) (cZ (ptr fQ (bJ (pv 1) ae) (bJ (fB (pv 0) (mI iw ae)) ae)))))
  (ak (au jz))
  aC)
  (ak (au (qg (dM fQ (bJ (pv 1) ae) (bJ (pv 1) ae) (gE _)) (nT (bQ (IE T) hr T.Cc (ah (pv 1) af))))))),?_}
 ac_rfl;exists p,_,rfl,.inl hp,?_;rw[vl];left
 by_cases h0:0<⇑rs
 ·refine bW (zg ()) ?_
  let hi:⇑rs-1<⇑vs:=()
  let⟨q,hq,iq⟩:=cV il (zd hi);let⟨b,eb,evb,hb,_⟩:=eN iq;let eg:rs.getLast?=some q:=by rw[wk];exact hq
  unfold lJ at kk;rw[eg] at kk;left;refine{p,vs,-1,_,rfl,rfl,hp,Ms (by rw[vl];exact zd hi),?_};rw[evb];left
  by_cases c:r.first<=q.last
  ·refine bW (zg c) ?_
   simp only[yO c] at kk;change kk _ (aI _)
  ·refine bX (ze c) ?_
   simp only[yN c] at kk;change tail kk
 ·refine bX (ze ()) ?_
  let e0:rs=[]:=yu.mp ();unfold lJ at kk;rw[e0] at kk;change tail kk
def C4 (x:Sc.N5):Prop:=0<=x.aV.1/\x.aV.1<=1000/\0<x.aV.2/\x.aV.2<=1000
inductive Xb (C:vD) (H:Hp) (a:vD) (o:Ow):Prop
 | mk (ub jm:V) (_:H a=some (.ins C o.dx (QY o ub jm)))
structure VX (C:vD) (H:Hp) (a:vD) (S:cq) (o:Ow):Prop where
 obj:Xb C H a o
 ba:Qw H lh o.ba S.aO
def VX.of {C a:vD} {H:Hp} {S:cq} {o:Ow} (h:bY C H a S o):VX C H a S o:={by let⟨ub,jm,h1,_⟩:=h.obj;exact{(ub),jm,h1},h.ba}
inductive vM (C:vD) (vs:List V) (H:Hp) (Q:VK) (E:XK):Prop
 | mk (a:vD) (S:cq) (o:Ow) (b:Nat) (_:vs=[.ref a,.int b]) (_:VX C H a S o) (_:b<⇑S.aO) (_:(∀x∈S.aO,C4 x)) (_:∀p H',aG H H'->H' p=some (fY (S.aV b))->Q (.ref p) H')
def Ut {H:Hp} {b:Sc.N5} {v:V} (h:Is H (lh b) v):∃a m q,v=.ref a/\H a=some (.tup [.ref m,.int b.key,.ref q])/\H m=some (fY b.aV):=by
 unfold lh Is at h;let⟨a,vs,rfl,ha,hl⟩:=h;unfold aD at hl;let⟨v1,r1,rfl,h1,hl⟩:=hl;unfold aD at hl;let⟨v2,r2,rfl,h2,hl⟩:=hl;unfold aD at hl;let⟨v3,r3,rfl,h3,hl⟩:=hl;unfold aD at hl;subst hl;unfold Is at h2;subst h2;unfold mZ Is at h3;let⟨q,us,rfl,hq,hle⟩:=h3;have:=eO (o:=some b.aV) h1;cases this with
 | ref hm=>exact{a,_,q,rfl,ha,hm}
def mP {C:vD} (F:Cf K C):di P w base 3 T.iS (vM C):=by
 nomatch T.iS,["score","bar","metre"]
 let⟨a,S,o,b,rfl,sc,hb,cB,kk⟩:=h;let⟨ub,jm,ho⟩:=sc.obj;let⟨vs,hv,il⟩:=sc.ba;let hi:b<⇑vs:=by rw[aS il];exact hb
 let⟨x,hx,ix⟩:=cV il (zd hi);let⟨a1,m,q,ev,h1,hm⟩:=Ut ix;let⟨k1,k2,k3,k4⟩:=cB x (zE hx);unfold cq.aV at kk;rw[hx] at kk;refine{_,(ag (bO 2 qN (bJ (fB (bI (pv 0) rfl) (pv 1)) ae))
  (ak (au (bQ (jB T) hr T.dz (ah (bJ (pv 2) ae) (ah (bJ (pv 2) ae) af)))))),?_}
 ac_rfl;exists a,C,o.dx,_,_,rfl,ho,F.cls,F.aO,rfl,?_;left;refine{o.ba,vs,b,_,rfl,rfl,ao hv,bx (zd hi),?_};rw[ev];change{_,_,rfl,k1,k3,(bR (n:=10) () ()).mono ∅,λp H' s' h'=>kk p H' s' h'}
inductive Bb (C:vD) (vs:List V) (H:Hp) (Q:VK) (E:XK):Prop
 | mk (a:vD) (S:cq) (o:Ow) (b:Nat) (_:vs=[.ref a,.int b]) (_:bY C H a S o) (_:b<⇑S.aO) (_:(∀x∈S.aO,C4 x)) (_:∀p H',aG H H'->H' p=some (fY (S.len b))->Q (.ref p) H')
def jA {C:vD} (F:Cf K C):di P w base 4 T.gX (Bb C):=by
 nomatch T.gX,["score","bar"]
 let⟨a,S,o,b,rfl,sc,hb,cB,kk⟩:=h;let⟨ub,jm,ho,hub,hjm⟩:=sc.obj;unfold cq.len at kk;refine{_,(ag (aM (PW.pt (dF (ptr c9 (pv 1) ae) (cZ (bH (fh (bI (pv 0) rfl))))))
  (ak (au (bI (pv 0) rfl)))
  aC)
  (ak (au (bQ (mP T F) hr T.iS (ah (pv 0) (ah (pv 1) af)))))),?_}
 ac_rfl;left
 by_cases c:b=0
 ·refine bW (by rw[c];rfl) ?_
  exists a,C,o.dx,_,_,rfl,ho,F.cls,F.aL,rfl,?_;cases q:S.aL with
  | none=>
   rw[q] at kk hub;unfold dO Is at hub;subst hub;change{a,S,o,b,rfl,.of sc,hb,cB,kk}
  | some u=>
   rw[q] at kk hub;cases eO (o:=some u) hub with
   | ref hu=>
    exists a,C,o.dx,_,_,rfl,ho,F.cls,F.aL,rfl,?_;refine kk _ _ (aI _) ?_;simp only[yO c];exact hu
 ·refine bX (ze λz=>c (by have:=V.int.inj z;ext)) ?_
  left;refine{a,S,o,b,rfl,.of sc,hb,cB,λp H' s' h'=>kk p H' s' ?_};cases q:S.aL with
  | none=>exact h'
  | some u=>simp only[yN c];exact h'
theorem ia (n:Str):∀ns:List Str,Gp (.str n) (ns.map V.str)=decide (n∈ns)
 | []=>rfl
 | m::ns=>by
  let ih:=ia n ns;unfold Gp at ih ⊢;rw[zj,xt,ih];show((m == n)||decide (n∈ns))=decide (n∈m::ns)
  by_cases e:n=m
  ·subst e
   simp
  ·let e':¬m=n:=λz=>e z.symm
   simp[e,e']
theorem fS:∀ns:List Str,(ns.map V.str).all mV=true
 | []=>rfl
 | n::ns=>by rw[zj,wW,fS ns];rfl
inductive fC (C:vD) (D:Hp->V->cq->Option Str->Prop) (vs:List V) (H:Hp) (Q:VK) (E:XK):Prop
 | mk (a:vD) (S:cq) (o:Ow) (v:V) (f:Option Str) (_:vs=[.ref a,v]) (_:bY C H a S o) (_:D H v S f) (_:∀H',aG H H'->Q (os f) H')
def mF (C:vD):Sp:=fC C λ_ v S f=>∃n,v=.str n/\f=b9 S (.bS n)
def Ah {C:vD} (F:Cf K C):di P w base 1 T.iP (mF C):=by
 nomatch T.iP,["score","player"]
 let⟨a,S,o,v,f,rfl,sc,⟨n,rfl,rfl⟩,kk⟩:=h;let⟨ub,jm,ho,hub,hjm⟩:=sc.obj;let k:=kk H (aI H);unfold b9 at k;dsimp only at k;refine{_,(ag (aM (gd jh (pv 1) (bI (pv 0) rfl) (by with_unfolding_all rfl))
  (ak (au aK))
  aC)
  (ag (aM (ptr EO (d7 aH T.bP (ah (bI (pv 0) rfl) af)) (bK (v:=.int (12)) (by rfl) T.CF {_,rfl}))
  (ak (au aK))
  aC)
  (ak (au aW)))),?_}
 ac_rfl;exists a,C,o.dx,_,_,rfl,ho,F.cls,F.az,rfl,?_;refine{o.pl,_,rfl,.inl (ao sc.pl),rfl,fS _,?_};show∃k,V.bl (Gp (.str n) (S.az.map V.str))=.bl k/\_;rw[ia]
 by_cases c1:n∈S.az
 ·rw[zg c1]
  rw[yO c1] at k;change k
 ·rw[ze c1]
  rw[yN c1] at k;exists a,C,o.dx,_,_,rfl,ho,F.cls,F.az,rfl,?_;exists o.pl,_,rfl,.inl (ao sc.pl),?_;rw[za];left
  by_cases c2:12<=⇑S.az
  ·refine bW (zg ()) ?_
   rw[yO c2] at k;change k
  ·refine bX (ze ()) ?_
   rw[yN c2] at k;change k
def qX (C:vD):Sp:=fC C λ_ _ S f=>∃b,f=b9 S (.bar b)
def Ge {C:vD} (F:Cf K C):di P w base 1 T.oS (qX C):=by
 nomatch T.oS,["score","told"]
 let⟨a,S,o,v,f,rfl,sc,⟨b,rfl⟩,kk⟩:=h;let⟨ub,jm,ho,hub,hjm⟩:=sc.obj;let⟨vs,hv,il⟩:=sc.ba;let vl:=aS il;let k:=kk H (aI H);unfold b9 at k;dsimp only at k;refine{_,(ag (aM (ptr EO (d7 aH T.bP (ah (bI (pv 0) rfl) af)) (bK (v:=.int (200)) (by rfl) T.JF {_,rfl}))
  (ak (au aK))
  aC)
  (ak (au aW))),?_}
 ac_rfl;exists a,C,o.dx,_,_,rfl,ho,F.cls,F.aO,rfl,?_;exists o.ba,_,rfl,.inl (ao hv),?_;rw[vl];left
 by_cases c2:200<=⇑S.aO
 ·refine bW (zg ()) ?_
  rw[yO c2] at k;change k
 ·refine bX (ze ()) ?_
  rw[yN c2] at k;change k
theorem qV (n:Str):∀{ks:List Str} {vs:List V},⇑vs=⇑ks->(cI ((ks.map kS).zip vs) (kS n)).isSome=decide (n∈ks)
 | [],_,_=>by simp[cI]
 | k::ks,[],h=>by simp at h
 | k::ks,v::vs,h=>by
  let ih:=qV n (ks:=ks) (vs:=vs) (by simpa using h);rw[zj,yX];unfold cI at ih ⊢;rw[yT]
  by_cases e:k=n
  ·subst e
   simp
  ·let e1:¬kS k=kS n:=λz=>e (wY z)
   let e2:¬n=k:=λz=>e z.symm;simp only[e1,decide_false] at ih ⊢;rw[ih];simp[e2]
def iI (C:vD):Sp:=fC C λH v S f=>∃x,Is H (eP x) v/\f=b9 S (.cR x.1 x.2.1 x.2.2)
def IV {H:Hp} {x:Str×(Int×Int)×(Int×Int)} {v:V} (h:Is H (eP x) v):∃a t l,v=.ref a/\H a=some (.tup [.str x.1,t,l])/\Is H (dL x.2.1) t/\Is H (dL x.2.2) l:=by
 unfold eP Is at h;let⟨a,vs,rfl,ha,hl⟩:=h;unfold aD at hl;let⟨v1,r1,rfl,h1,hl⟩:=hl;unfold aD at hl;let⟨v2,r2,rfl,h2,hl⟩:=hl;unfold aD at hl;let⟨v3,r3,rfl,h3,hl⟩:=hl;unfold aD at hl;subst hl;unfold Is at h1;subst h1;exact{(a),v2,v3,rfl,ha,h2,h3}
def oU {C:vD} (F:Cf K C):di P w base 1 T.fj (iI C):=by
 nomatch T.fj,["score","told"]
 let⟨a,S,o,v,f,rfl,sc,⟨x,iv,rfl⟩,kk⟩:=h;let⟨ub,jm,ho,hub,hjm⟩:=sc.obj;let⟨vs,hv,il⟩:=sc.ins;let⟨a1,t,l,rfl,h1,_,_⟩:=IV iv;let vl:=aS il;let em:(S.aq.map λx=>kS x.1)=(S.aq.map (·.1)).map kS:=by rw[zD];rfl
 let k:=kk H (aI H);unfold b9 at k;dsimp only at k;refine{_,(ag (aM (bH (F2 (fR hr) (bJ (pv 1) ae) (bI (pv 0) rfl)))
  (ak (au aK))
  aC)
  (ag (aM (ptr EO (d7 Lk T.bP (ah (bI (pv 0) rfl) af)) (bK (v:=.int (12)) (by rfl) T.qI {_,rfl}))
  (ak (au aK))
  aC)
  (ak (au aW)))),?_}
 ac_rfl;exists a,C,o.dx,_,_,rfl,ho,F.cls,F.aq,rfl,?_;refine{o.ins,_,rfl,.inl {_,kS x.1,.inl hv,rfl,rfl},?_};rw[em,qV x.1 (by rw[za];exact vl)];left
 by_cases c1:x.1∈S.aq.map (·.1)
 ·rw[zg c1]
  rw[yO c1] at k;change k
 ·rw[ze c1]
  rw[yN c1] at k;exists a,C,o.dx,_,_,rfl,ho,F.cls,F.aq,rfl,?_;exists o.ins,_,rfl,hv,?_;rw[xB,za,vl,Nat.min_self];left
  by_cases c2:12<=⇑S.aq
  ·refine bW (zg ()) ?_
   rw[yO c2] at k;change k
  ·refine bX (ze ()) ?_
   rw[yN c2] at k;change k
inductive HL (K:yB) (C:vD) (vs:List V) (H:Hp) (Q:VK) (E:XK):Prop
 | mk (a p:vD) (S:cq) (o:Ow) (bs:List Int) (_:vs=[.ref a,.ref p]) (_:bY C H a S o) (_:gx K H p (bs.map V.int)) (_:⇑bs<=1000000) (_:∀H',aG H H'->Q (.bl (S.has bs)) H')
def jW {C:vD} (F:Cf K C):di P w base 1 T.kY (HL K C):=by
 nomatch T.kY,["score","bars"]
 let⟨a,p,S,o,bs,rfl,sc,hp,hl,kk⟩:=h;let sl:=yC;refine{_,(ak (au (d7 (oR rfl) T.L5 (ah (oJ (ts:=["bar"]) (ys:=["score"]) (js:=[0]) (te:=(fW (qP λi j=>.bl (decide (i<j))) (bj 0) (LM (WI K) (cj (QP K (bj 1) "bars") fc)))) (bB (pv 1)) (gO 0) bE (dM eX (pv 0) (d7 aH T.bP (ah (bI (pv 1) rfl) af)) (gE _))) af)))),?_};ac_rfl;exists{_,hp},?_;refine fk (enc:=V.int) (ws:=bs) (λz=>.bl (decide (z<(⇑S.aO:Int)))) (λU=>∃v,U=[v,some (.ref a)]) () hp {(none),rfl} ?_ ?_
 ·rintro z U H1 R hz s1 ⟨_,rfl⟩ r
  let sc1:=sc.mono s1;let⟨ub,jm,ho,hub,hjm⟩:=sc1.obj;let⟨vs,hv,il⟩:=sc1.ba;let vl:=aS il;exists a,C,o.dx,_,_,rfl,ho,F.cls,F.aO,rfl,?_;exists o.ba,vs,rfl,.inl (ao hv),?_;rw[vl];change r _ _ _ (aI _) (by unfold Is;rfl) {_,rfl}
 ·intro D vs H1 s1 hD il
  let e:bs.map (λz=>Dt.bl (decide (z<(⇑S.aO:Int))))=(bs.map λz=>decide (z<(⇑S.aO:Int))).map Dt.bl:=by rw[zD];rfl
  rw[e] at il;rw[kr il] at hD;refine{D,_,rfl,ao hD,?_};let e2:(bs.map λz=>decide (z<(⇑S.aO:Int))).all id=S.has bs:=by rw[wd];rfl
  rw[e2];exact kk _ s1
inductive vO (K:yB) (vs:List V) (H:Hp) (Q:VK) (E:XK):Prop
 | mk (p:vD) (us:List V) (its:List Item) (_:vs=[.ref p]) (_:gx K H p us) (_:aD H (its.map d5) us) (_:⇑its<=500) (_:(∀it∈its,N2 it.2)) (_:∀r H',aG H H'->H' r=some (fY (kf its))->Q (.ref r) H')
def sS (l:List Item) (it:Item):kf (l++[it])=add (kf l) it.2:=by unfold kf;rw[z9];rfl
def Ak:di P w base 4 T.lX (vO K):=by
 nomatch T.lX,["items","length","item"]
 let⟨p,us,its,rfl,hp,il,hl,cB,kk⟩:=h;let sl:=yC;let ul:=aS il;refine{_,(ag (bO 1 qN (bM (ah ae (ah ae af))))
  (ag (cy yP rfl (bB (pv 0)) (jg 2 qN)
  (ak (bO 1 qN (bQ (BU T) hr T.added (ah (pv 1) (ah (bJ (pv 2) ae) af))))))
  (ak (au (pv 1))))),?_}
 ac_rfl;exists cO,?_;intros p1 H1 s1 h1;exists{_,s1.seq hp},?_;refine dG (K:=K) (a:=p) (xs:=us) (λi U H'=>aG H H'/\∃q v,U=[some (.ref p),some (.ref q),v]/\H' q=some (fY (kf (its.take i)))/\Lm.Rd (kf (its.take i))/\oZ (15*i+1) (kf (its.take i))) {s1,p1,none,rfl,h1,?_,?_} (λi U H' _ h=>h.1.seq hp) ?_ ?_
 ·exact Lm.Rd.zero
 ·show oZ 1 (0,1)
  exact{bR ∅ ∅,bR ∅ ∅}
 ·rintro i x U H2 hx ⟨s2,q,v,rfl,hq,rq,zq⟩
  let⟨it,hit,iit⟩:=cV il hx;let⟨a6,pv,lv,rfl,h6,_,i8⟩:=item_at (iit.mono s2);let hi:i<⇑its:=(zB.mp hit).1;let⟨ok1,Vf,WL,ok4⟩:=cB it (zE hit);cases eO (o:=some it.2) i8 with
  | ref h8=>
   let zi:oZ 14 it.2:={bR () (),bR (by have:=ok1.pos;ext) ()}
   exists _,_,_,_,_,_,rfl,hq,h8,rq,ok1,zq,zi,(),λr H3 s3 h3=>?_;let e:=dm hit;refine{s2.trans s3,r,_,rfl,?_,?_,?_}
   ·rw[e,sS];exact h3
   ·rw[e,sS];exact rq.add ok1
   ·rw[e,sS];exact{(oZ.add rq ok1 zq zi).1.mono (),(oZ.add rq ok1 zq zi).2.mono ()}
 ·rintro U H2 ⟨s2,q,v,rfl,hq,_,_⟩
  rw[ul,zP] at hq;change kk _ _ s2 hq
def Hg (S:cq):Prop:=∀r∈S.aJ,⇑r.ends<=1000000
def o9 (C:vD):Sp:=fC C λH v S f=>∃j,Is H (j9 j) v/\Hg S/\f=b9 S (.cm j)
def Je {l:List V} {i:Nat} {x:V} (h:l[i]?=some x):(l.take (i+1)).filter (λv=>!gA v)=(l.take i).filter (λv=>!gA v)++(if gA x=true then [] else [x]):=by
 rw[dm h,yY];cases q:gA x with
 | true=>simp[q]
 | false=>simp[q]
def DL {C:vD} (F:Cf K C):di P w base 5 T.lW (o9 C):=by
 nomatch T.lW,["score","jump"]
 let⟨a,S,o,v,f,rfl,sc,⟨j,iv,rok,rfl⟩,kk⟩:=h;let sl:=yC;let⟨ub,jm,ho,hub,hjm⟩:=sc.obj;let⟨vs,hv,il⟩:=sc.re;let⟨a1,rfl,h1⟩:=rW iv;unfold b9 at kk;dsimp only at kk;refine{_,(ag (aM (bH (fh (bI (pv 0) rfl)))
  (ak (au aK))
  aC)
  (ag (aM (fq (cP (bQ (jW T F) hr T.kY (ah (pv 0) (ah (oJ (ts:=["bar"]) (ys:=[]) (js:=[]) (g:=(cw 0)) (tc:=(tB (Ot (bj 0)))) (te:=(bj 0)) (ko (pv 1)) (gO 0) (iQ (bH (fh (pv 0)))) (pv 0)) af)))))
  (ak (au aK))
  aC)
  (ag (aM (fq (cP (bQ (Gb T) hr T.ue (ah (bI (pv 0) rfl) (ah (pv 1) af)))))
  (ak (au aK))
  aC)
  (ak (au aW))))),?_}
 ac_rfl;exists a,C,o.dx,_,_,rfl,ho,F.cls,F.cm,rfl,?_;cases q:S.cm with
 | some j'=>
  rw[q] at hjm kk;let⟨a2,rfl,_⟩:=rW hjm;change kk _ (aI _)
 | none=>
  rw[q] at hjm kk;unfold dO Is at hjm;subst hjm;rw[yN ∅] at kk;exists{_,bC h1},?_;generalize hw:[V.int j.qR,V.int j.sN,V.int j.cK,ov j.fL]=ws at h1;let wl:⇑ws=4:=by rw[<-hw];rfl
  refine sD ⇑ws (λi=>(ws.take i).filter λv=>!gA v) (λi U H'=>H'=H/\∃v,U=[v]) (λi hi=>zO (xj _ _) (by rw[zT];ext)) () rfl {(rfl),none,rfl} ?_ ?_ ?_ ?_
  ·rintro i U H' hi ⟨rfl,_⟩
   exact KY (bC h1) hi
  ·rintro U H' ⟨rfl,_⟩
   exact{_,bC h1,zm _}
  ·rintro i x U H' H2 hi ⟨rfl,v,rfl⟩ ⟨rfl,hy⟩
   let hx:=hy _ (bC h1);left
   by_cases e:x=.bT
   ·refine bX (by rw[zg e];rfl) ?_
    refine NX.skip hi ?_ {rfl,_,rfl};show List.filter _ (List.take (i+1) ws)=List.filter _ (List.take i ws);rw[Je hx,yO (show gA x=true from zg e),zX]
   ·refine bW (by rw[ze e];rfl) ?_
    left;refine NX.push hi ?_ {rfl,_,rfl};show List.filter _ (List.take (i+1) ws)=List.filter _ (List.take i ws)++[x];rw[Je hx,yN (by unfold gA;rw[ze e];decide)]
  ·rintro U H' ⟨rfl,_⟩
   rw[zP];let ef:(ws.filter λv=>!gA v)=([j.qR,j.sN,j.cK]++j.fL.toList).map V.int:=by
    rw[<-hw];cases j.fL <;> rfl
   rw[ef];intros D H2 s2 h2;refine{a,D,S,o,_,rfl,sc.mono s2,ao h2,?_,λH3 s3=>?_}
   ·cases j.fL <;> simp
   ·cases qb:S.has ([j.qR,j.sN,j.cK]++j.fL.toList) with
    | false=>
     rw[qb] at kk;change kk _ (s2.trans s3)
    | true=>
     rw[qb,yN (by simp)] at kk;let s03:=s2.trans s3;let sc3:=sc.mono s03;exists a,C,o.dx,_,_,rfl,s03 _ _ ho,F.cls,F.aJ,rfl,?_;exists o.re,S.aJ,_,j,rfl,{vs,ao (s03 _ _ hv),il.mono s03},rok,iv.mono s03,λH4 s4=>?_;cases qj:hZ S.aJ j with
     | false=>
      rw[qj] at kk;change kk _ (s03.trans s4)
     | true=>
      rw[qj,yN (by simp)] at kk;change kk _ (s03.trans s4)
def mE (C:vD):Sp:=fC C λH v S f=>∃r:Rep,Is H (ig r) v/\Kd r.ends<64/\⇑r.ends<=1000/\-1000000<=r.times/\r.times<=1000000/\f=b9 S (.rep r)
def Ag {C:vD} (F:Cf K C):di P w base 3 T.iO (mE C):=by
 nomatch T.iO,["score","repeat"]
 let⟨a,S,o,v,f,rfl,sc,⟨r,iv,ht,hl,t0,t1,rfl⟩,kk⟩:=h;let sl:=yC;let⟨ub,jm,ho,hub,hjm⟩:=sc.obj;let⟨vs,hv,il⟩:=sc.re;let vl:=aS il;let⟨a1,e,rfl,h1,he⟩:=eN iv;unfold Is at he;let⟨e',us,ee,hu,ilu⟩:=he;cases ee;unfold b9 at kk;dsimp only at kk;refine{_,(ag (aM (fq (cP (bQ (jW T F) hr T.kY (ah (pv 0) (ah (aB gh (bq (ah (bJ (pv 1) ae) (ah (bJ (pv 1) ae) af))) (oJ (ts:=["end"]) (ys:=[]) (js:=[]) (te:=(fW (qd K) (bj 0) (tC (.int (0))))) (ko (bJ (pv 1) ae)) (gO 0) bE (bJ (pv 0) ae))) af)))))
  (ak (au aK))
  aC)
  (ag (aM (PW.pt (d4 (bH (fh (bI (pv 0) rfl))) (dq (fq (cP (bQ (BN T) hr T.nO (ah (bI (pv 0) rfl) (ah (pv 1) af))))))))
  (ak (au aK))
  aC)
  (ag (aM (ptr EO (d7 aH T.bP (ah (bI (pv 0) rfl) af)) (bK (v:=.int (20)) (by rfl) T.CD {_,rfl}))
  (ak (au aK))
  aC)
  (ak (au aW))))),?_}
 ac_rfl;exists cO,?_;intros p2 H2 s2 h2;let h12:=s2 _ _ h1;exists{_,bC (s2 _ _ hu)},?_;let⟨ps,f1,f2,f3⟩:=AU ilu;let pl:⇑ps<=1000:=by
  have:⇑ps=⇑r.ends:=by rw[<-f1,za]
  ext
 refine gK (enc:=λz:Sc.End×V=>z.2) (ws:=ps) (λz=>.int z.1.1) (λU=>∃v,U=[v]) () (by rw[f2];exact s2 _ _ hu) {(none),rfl} ?_ ?_
 ·rintro z U H6 R' hz s6 ⟨_,rfl⟩ r'
  let⟨a6,q6,ev,h6,h7⟩:=uk (f3 z hz);rw[ev];let h66:=s6 _ _ (s2 _ _ h6);change r' _ _ _ (aI _) cX {_,rfl}
 ·intro D vs5 H3 s3 hD il5
  let e5:ps.map (λz=>Dt.int z.1.1)=(r.ends.map (·.1)).map Dt.int:=by rw[<-f1,zD,zD];rfl
  rw[e5] at il5;rw[eQ il5] at hD;refine{p2,D,_,_,rfl,rfl,ao (s3 _ _ h2),ao hD,by rw[za,za];show 2+_<=_;ext,?_};rw[show [V.int r.first,V.int r.last]++List.map V.int (r.ends.map (·.1))=([r.first,r.last]++r.ends.map (·.1)).map V.int from by rw[zk];rfl];intros p4 H4 s4 h4;let s04:=(s2.trans s3).trans s4;refine{a,p4,S,o,_,rfl,sc.mono s04,ao h4,by rw[zh,za];show 2+_<=_;ext,λH5 s5=>?_};let s05:=s04.trans s5;cases qb:S.has ([r.first,r.last]++r.ends.map (·.1)) with
  | false=>
   rw[qb] at kk;change kk _ s05
  | true=>
   rw[qb,yN (by simp)] at kk;exists a,C,o.dx,_,_,rfl,s05 _ _ ho,F.cls,F.cm,rfl,?_;cases q:S.cm with
   | some j'=>
    rw[q] at hjm kk;let⟨a2,rfl,_⟩:=rW hjm;change kk _ s05
   | none=>
    rw[q] at hjm kk;unfold dO Is at hjm;subst hjm;rw[yN ∅] at kk;exists a,C,o.dx,_,_,rfl,s05 _ _ ho,F.cls,F.aJ,rfl,?_;exists o.re,S.aJ,_,r,rfl,{vs,ao (s05 _ _ hv),il.mono s05},iv.mono s05,ht,t0,t1,λH6 s6=>?_;let s06:=s05.trans s6;cases qj:lJ S.aJ r with
    | false=>
     rw[qj] at kk;change kk _ s06
    | true=>
     rw[qj,yN (by simp)] at kk;exists a,C,o.dx,_,_,rfl,s06 _ _ ho,F.cls,F.aJ,rfl,?_;exists o.re,vs,rfl,.inl (ao (s06 _ _ hv)),?_;rw[vl];left
     by_cases c2:20<=⇑S.aJ
     ·refine bW (zg ()) ?_
      rw[yO c2] at kk;change kk _ s06
     ·refine bX (ze ()) ?_
      rw[yN c2] at kk;change kk _ s06
theorem Ht (n:Int×Str):∀{ks:List (Int×Str)} {vs:List V},⇑vs=⇑ks->(cI ((ks.map kN).zip vs) (kN n)).isSome=decide (n∈ks)
 | [],_,_=>by simp[cI]
 | k::ks,[],h=>by simp at h
 | k::ks,v::vs,h=>by
  let ih:=Ht n (ks:=ks) (vs:=vs) (by simpa using h);rw[zj,yX];unfold cI at ih ⊢;rw[yT]
  by_cases e:k=n
  ·subst e
   simp
  ·let e1:¬kN k=kN n:=λz=>e (by
    unfold kN at z;simp at z;exact Prod.ext z.1 z.2)
   let e2:¬n=k:=λz=>e z.symm;simp only[e1,decide_false] at ih ⊢;rw[ih];simp[e2]
theorem kU {α:Type} {d:α->Dt} {H:Hp}:∀{ls:List (List α)} {as:List vD},ck H d ls as->⇑as=⇑ls
 | [],_,h=>by unfold ck at h;rw[h];rfl
 | l::r,_,⟨a,t,vs,e,_,_,h3⟩=>by rw[e,zy,zy,kU h3]
def Rl {x y:Int×Int}:decide ([V.int x.1,V.int x.2]=[V.int y.1,V.int y.2])=decide (x=y):=by
 by_cases h:x=y
 ·subst h;simp
 ·rw[ze h,ze]
  intro z;simp at z;exact h (Prod.ext z.1 z.2)
def nJ (C:vD):Sp:=fC C λH v S f=>∃x:Int×Str×List Item,Mv H v x/\0<=x.1/\⇑x.2.2<=500/\(∀it∈x.2.2,N2 it.2)/\(∀b∈S.aO,C4 b)/\f=b9 S (.aN x.1 x.2.1 x.2.2)
def BR {C:vD} (F:Cf K C):di P w base 5 T.jX (nJ C):=by
 nomatch T.jX,["score","told","bar","player","items"]
 let⟨a,S,o,v,f,rfl,sc,⟨⟨b,pn,its⟩,⟨a1,q,us,rfl,h1,hq,ilq⟩,b0,il5,iok,bok,rfl⟩,kk⟩:=h;let sl:=yC;let⟨ub,jm,ho,hub,hjm⟩:=sc.obj;let nl:⇑(o.ns.map V.ref)=⇑(S.aN.map (·.1)):=by rw[za,za,kU sc.no.2,za]
 let em:(S.aN.map λx=>kN x.1)=(S.aN.map (·.1)).map kN:=by rw[zD];rfl
 unfold b9 at kk;dsimp only at kk h1 b0 il5 iok ilq;refine{_,(ag (bO 2 qN (bJ (pv 1) ae))
  (ag (bO 3 qN (bJ (pv 1) ae))
  (ag (bO 4 qN (bJ (pv 1) ae))
  (ag (aM (bH (F2 (fR hr) (bM (ah (pv 2) (ah (pv 3) af))) (bI (pv 0) rfl)))
  (ak (au aK))
  aC)
  (ag (aM (gd d8 (pv 3) (bI (pv 0) rfl) (by with_unfolding_all rfl))
  (ak (au aK))
  aC)
  (ag (aM (fq (cP (bQ (jW T F) hr T.kY (ah (pv 0) (ah (bq (ah (pv 2) af)) af)))))
  (ak (au aK))
  aC)
  (ag (aM (ptr (KI hr.units) (bQ (Ak T) hr T.lX (ah (pv 4) af)) (bQ (jA T F) hr T.gX (ah (pv 0) (ah (pv 2) af))))
  (ak (au aK))
  aC)
  (ag (aM (ptr fE (d7 aH T.bP (ah (pv 4) af)) (bK (v:=.int (40)) (by rfl) T.GS {_,rfl}))
  (ak (au aK))
  aC)
  (ak (au aW)))))))))),?_}
 ac_rfl;exists cO,?_;intros p2 H2 s2 h2;let h12:=s2 _ _ h1;exists a,C,o.dx,_,_,rfl,s2 _ _ ho,F.cls,F.aN,rfl,?_;refine{o.no,_,rfl,.inr {_,kN (b,pn),p2,.inl (s2 _ _ sc.no.1),rfl,h2,rfl},?_};rw[em,Ht (b,pn) nl];left
 by_cases c1:(b,pn)∈S.aN.map (·.1)
 ·rw[zg c1]
  rw[yO c1] at kk;change kk _ s2
 ·rw[ze c1]
  rw[yN c1] at kk;exists a,C,o.dx,_,_,rfl,s2 _ _ ho,F.cls,F.az,rfl,?_;refine{o.pl,_,rfl,.inl (ao (s2 _ _ sc.pl)),rfl,fS _,?_};show∃k,V.bl (!Gp (.str pn) (S.az.map V.str))=.bl k/\_;rw[ia]
  by_cases c2:pn∈S.az
  ·rw[zg c2]
   rw[yN (λz=>z c2)] at kk;exists by show 1<=sizeLine;ext,?_
   intros p3 H3 s3 h3;refine{a,p3,S,o,[b],rfl,sc.mono (s2.trans s3),ao h3,(by show 1<=1000000;decide),λH4 s4=>?_};let s04:=(s2.trans s3).trans s4;cases qb:S.has [b] with
   | false=>
    rw[qb] at kk;change kk _ s04
   | true=>
    rw[qb,yN (by simp)] at kk;let hb:b<⇑S.aO:=by
     unfold cq.has at qb
     simpa using qb
    let⟨n,rfl⟩:=yL b0;exists q,us,its,rfl,ao (s04 _ _ hq),ilq.mono s04,il5,iok,λr5 H5 s5 h5=>?_;exists a,S,o,n,rfl,sc.mono (s04.trans s5),(),bok,λr6 H6 s6 h6=>?_;let s06:=(s04.trans s5).trans s6;refine{r5,r6,_,_,rfl,rfl,.inr {bC (s6 _ _ h5),bC h6},.inr (.inr {(rfl),rfl}),?_};rw[Rl]
    by_cases c3:kf its=S.len n
    ·rw[zg c3]
     rw[yN (λz=>z c3)] at kk;exists q,us,rfl,.inl (ao (s06 _ _ hq)),?_;rw[aS ilq];left
     by_cases c4:40<⇑its
     ·refine bW (zg ()) ?_
      rw[yO c4] at kk;change kk _ s06
     ·refine bX (ze ()) ?_
      rw[yN c4] at kk;change kk _ s06
    ·rw[ze c3]
     rw[yO (show kf its≠S.len ((n:Int)).toNat from c3)] at kk;change kk _ s06
  ·rw[ze c2]
   rw[yO c2] at kk;change kk _ s2
def both {c:Bool} {T:(Bool->Hp->Prop)->Prop} {Z:Bool->Hp->Prop} {H:Hp} (v:Bool) (h1:c=true->∀Z,Z v H->T Z) (h2:c=false->v=false) (hz:Z v H):if c=true then T Z else Z false H:=by
 cases c with
 | true=>rw[yO rfl];exact h1 rfl Z hz
 | false=>rw[yN (by simp)];rw[<-h2 rfl];exact hz
theorem ug {H:Hp} {α:Type} {d:α->Dt} (p:Str):∀{hs:List (Str×List α)} {as:List vD},ck H d (hs.map (·.2)) as->
  (hs.lookup p=none/\cI ((hs.map λx=>kS x.1).zip (as.map V.ref)) (kS p)=none)\/∃l h vs,hs.lookup p=some l/\cI ((hs.map λx=>kS x.1).zip (as.map V.ref)) (kS p)=some (.ref h)/\H h=some (.lst vs)/\aD H (l.map d) vs
 | [],_,h=>.inl {rfl,by simp[cI]}
 | (x,l)::r,as,h=>by
  rw[zj] at h;unfold ck at h;let⟨a,t,vs,rfl,h1,h2,h3⟩:=h;rw[zj,zj,yX]
  by_cases e:x=p
  ·subst e
   refine .inr {l,a,vs,by rw[yr,wg],?_,h1,h2};unfold cI;rw[yT];simp
  ·let e1:¬kS x=kS p:=λz=>e (wY z)
   let e2:(p == x)=false:=by simp;exact λz=>e z.symm
   let ih:=ug p h3;unfold cI at ih ⊢;rw[yT,yr,e2];simp only[e1,decide_false];exact ih
def Sr {H:Hp} {x:Int×Str} {v:V} (h:Is H (Le x) v):∃a,v=.ref a/\H a=some (.tup [.int x.1,.str x.2]):=by
 unfold Le Is at h;let⟨a,vs,rfl,ha,hl⟩:=h;unfold aD at hl;let⟨v1,r1,rfl,h1,hl⟩:=hl;unfold aD at hl;let⟨v2,r2,rfl,h2,hl⟩:=hl;unfold aD at hl;subst hl;unfold Is at h1 h2;subst h1 h2;exact{(a),rfl,ha}
def Md {H:Hp} {x:Str×Int×Str} {v:V} (h:Is H (u9 x) v):∃a,v=.ref a/\H a=some (.tup [.str x.1,.int x.2.1,.str x.2.2]):=by
 unfold u9 Is at h;let⟨a,vs,rfl,ha,hl⟩:=h;unfold aD at hl;let⟨v1,r1,rfl,h1,hl⟩:=hl;unfold aD at hl;let⟨v2,r2,rfl,h2,hl⟩:=hl;unfold aD at hl;let⟨v3,r3,rfl,h3,hl⟩:=hl;unfold aD at hl;subst hl;unfold Is at h1 h2 h3;subst h1 h2 h3;exact{(a),rfl,ha}
def pf (C:vD):Sp:=fC C λH v S f=>∃x:Str×Int×Str,Is H (u9 x) v/\f=b9 S (.holds x.1 x.2.1 x.2.2)
def DM {C:vD} (F:Cf K C):di P w base 3 T.lZ (pf C):=by
 nomatch T.lZ,["score","told","bar","holds"]
 let⟨a,S,o,v,f,rfl,sc,⟨⟨pn,b,iN⟩,hd,rfl⟩,kk⟩:=h;let⟨a1,rfl,h1⟩:=Md hd;let sl:=yC;let⟨ub,jm,ho,hub,hjm⟩:=sc.obj;unfold b9 at kk;dsimp only at kk h1;refine{_,(ag (bO 2 qN (bJ (pv 1) ae))
  (ag (bO 3 qN (rK (fR hr) (bI (pv 0) rfl) (bJ (pv 1) ae) (bq af) {(rfl),rfl,rfl,rfl}))
  (ag (aM (PW.pt (dF (ptr fE (d7 aH T.bP (ah (pv 3) af)) ae) (cZ (ptr fQ (pv 2) (bJ (fB (pv 3) (mI iw ae)) ae)))))
  (ak (au aK))
  aC)
  (ag (aM (PW.pt (d4 (gd d8 (bJ (pv 1) ae) (bI (pv 0) rfl) (by with_unfolding_all rfl)) (dq (bH (EK (fR hr) (bJ (pv 1) ae) (bI (pv 0) rfl))))))
  (ak (au aK))
  aC)
  (ag (aM (fq (cP (bQ (jW T F) hr T.kY (ah (pv 0) (ah (bq (ah (pv 2) af)) af)))))
  (ak (au aK))
  aC)
  (ag (aM (ptr EO (d7 aH T.bP (ah (pv 3) af)) (bK (v:=.int (20)) (by rfl) T.GU {_,rfl}))
  (ak (au aK))
  aC)
  (ak (au aW)))))))),?_}
 ac_rfl;exists a,C,o.dx,_,_,rfl,ho,F.cls,F.holds,rfl,?_;refine{o.ho,rfl,.inl {_,.inl sc.ho.1},?_};exists by show 0<=sizeLine;ext,?_
 intros p2 H2 s2 h2;let h12:=s2 _ _ h1;refine{_,.inl {_,kS pn,.inl (s2 _ _ sc.ho.1),rfl,rfl},?_};obtain⟨h,vs,l,eh,hh,ilh,el⟩:∃h vs l,(cI ((S.holds.map λx=>kS x.1).zip (o.hs.map V.ref)) (kS pn)).getD (.ref p2)=.ref h/\H2 h=some (.lst vs)/\aD H2 (l.map Le) vs/\(S.holds.lookup pn).getD []=l:=by
  rcases ug (H:=H) pn sc.ho.2 with⟨e1,e2⟩ | ⟨l,h,vs,e1,e2,hh,il⟩
  ·exact{p2,[],[],by rw[e2];rfl,h2,by unfold aD;rfl,by rw[e1];rfl}
  ·exact{h,vs,l,by rw[e2];rfl,s2 _ _ hh,il.mono s2,by rw[e1];rfl}
 rw[el] at kk;rw[eh];exists h,vs,rfl,.inl (ao hh),?_;rw[aS ilh];left;obtain⟨c1,ec,kk⟩:∃c1:Bool,c1=(match l.getLast? with | some q=>decide (b<=q.1) | none=>false)/\∀H',aG H H'->Q (Sc.os (if c1=true then some "twice" else if pn∉S.az then some "name" else if iN∉S.aq.map (·.1) then some "name" else if¬S.has [b]=true then some "bar" else if 20<=⇑l then some "many" else none)) H':=by
  refine{_,rfl,?_};cases q:l.getLast? with
  | none=>rw[q] at kk;exact kk
  | some x=>rw[q] at kk;exact kk
 refine both c1 ?_ ?_ ?_
 ·intro c Z hz
  let lp:0<⇑l:=by have:=yf c;ext
  let vl:=aS ilh;let⟨x,hx,ix⟩:=cV ilh (i:=⇑vs-1) (zd ());let⟨a3,ea,h3⟩:=Sr ix;let eg:l.getLast?=some x:=by rw[wk,<-vl];exact hx
  rw[ec,eg] at hz;left;refine{h,vs,-1,_,rfl,rfl,ao hh,Ms (zd ()),?_};rw[ea];change hz
 ·intro c
  have:l=[]:=yu.mp (by have:=of_decide_eq_false c;ext);rw[ec,this];rfl
 ·clear ec
  cases c1 with
  | true=>
   change kk _ s2
  | false=>
   rw[yN (by simp)] at kk;exists a,C,o.dx,_,_,rfl,s2 _ _ ho,F.cls,F.az,rfl,?_;refine{o.pl,_,rfl,.inl (ao (s2 _ _ sc.pl)),rfl,fS _,?_};show∃k,V.bl (!Gp (.str pn) (S.az.map V.str))=.bl k/\_;rw[ia]
   by_cases c2:pn∈S.az
   ·rw[zg c2]
    rw[yN (λz=>z c2)] at kk;let⟨us,hu,ilu⟩:=sc.ins;let em:(S.aq.map λx=>kS x.1)=(S.aq.map (·.1)).map kS:=by rw[zD];rfl
    exists a,C,o.dx,_,_,rfl,s2 _ _ ho,F.cls,F.aq,rfl,?_;refine{o.ins,_,rfl,.inl {_,kS iN,.inl (s2 _ _ hu),rfl,rfl},?_};rw[em,qV iN (by rw[za];exact aS ilu)]
    by_cases c3:iN∈S.aq.map (·.1)
    ·rw[zg c3]
     rw[yN (λz=>z c3)] at kk;exists by show 1<=sizeLine;ext,?_
     intros p3 H3 s3 h3;refine{a,p3,S,o,[b],rfl,sc.mono (s2.trans s3),ao h3,(by show 1<=1000000;decide),λH4 s4=>?_};let s04:=(s2.trans s3).trans s4;cases qb:S.has [b] with
     | false=>
      rw[qb] at kk;change kk _ s04
     | true=>
      rw[qb,yN (by simp)] at kk;exists h,vs,rfl,.inl (ao ((s3.trans s4) _ _ hh)),?_;rw[aS ilh];left
      by_cases c4:20<=⇑l
      ·refine bW (zg ()) ?_
       rw[yO c4] at kk;change kk _ s04
      ·refine bX (ze ()) ?_
       rw[yN c4] at kk;change kk _ s04
    ·rw[ze c3]
     rw[yO c3] at kk;change kk _ s2
   ·rw[ze c2]
    rw[yO c2] at kk;change kk _ s2
def HF {H:Hp} {x:Str×List Str} {v:V} (h:Is H (jE x) v):∃a q,v=.ref a/\H a=some (.tup [.str x.1,.ref q])/\H q=some (.tup (x.2.map V.str)):=by
 unfold jE Is at h;let⟨a,vs,rfl,ha,hl⟩:=h;unfold aD at hl;let⟨v1,r1,rfl,h1,hl⟩:=hl;unfold aD at hl;let⟨v2,r2,rfl,h2,hl⟩:=hl;unfold aD at hl;subst hl;unfold Is at h1;subst h1;unfold mZ Is at h2;let⟨q,us,rfl,hq,hl⟩:=h2;rw[dX hl] at hq;exact{(a),q,rfl,ha,hq}
def Tp {H:Hp} {x:Str×List Str} {v:V} (h:Is H (RP x) v):∃q,v=.ref q/\H q=some (.tup (x.2.map V.str)):=by
 unfold RP mZ Is at h;let⟨q,us,rfl,hq,hl⟩:=h;rw[dX hl] at hq;exact{(q),rfl,hq}
inductive HI (C:vD) (vs:List V) (H:Hp) (Q:VK) (E:XK):Prop
 | mk (a:vD) (S:cq) (o:Ow) (v ub jm:V) (x:Str×List Str) (ob:Obj) (us:List V) (_:vs=[.ref a,v]) (_:H a=some (.ins C o.dx (QY o ub jm))) (_:H o.pl=some (.lst (S.az.map V.str))) (_:LC H o.st ob ((S.aP.map λx=>kS x.1).zip us)) (_:aD H (S.aP.map RP) us) (_:Is H (jE x) v) (_:⇑x.2<=1000) (_:∀H',aG H H'->Q (os (b9 S (.cD x.1 x.2))) H')
theorem J0 {α β:Type}:∀{l:List α} {m:List β} {i:Nat} {p:α×β},(l.zip m)[i]?=some p->l[i]?=some p.1/\m[i]?=some p.2
 | [],_,_,_,h=>by simp at h
 | _::_,[],_,_,h=>by simp at h
 | _::_,_::_,0,_,h=>by simp at h;subst h;exact{(rfl),rfl}
 | _::l,_::m,i+1,_,h=>by
  rw[yX] at h
  simpa using J0 (l:=l) (m:=m) (i:=i) (by simpa using h)
def Qm {α:Type} {p:α->Bool} {l:List α} {i:Nat} {x:α} (h:l[i]?=some x) (hn:(l.take i).any p=false) (hx:p x=false):(l.take (i+1)).any p=false:=by
 rw[dm h,List.any_append,hn];simp[hx]
def Qn {α:Type} {p:α->Bool} {l:List α} {i:Nat} {x:α} (h:l[i]?=some x) (hx:p x=true):l.any p=true:=yp.mpr {x,zE h,hx}
def Iy {C:vD} (F:Cf K C):di P w base 1 T.gY (HI C):=by
 nomatch T.gY,["score","told","players","others"]
 let⟨a,S,o,v,ub,jm,x,ob,us,rfl,ho,hpl,fz,ilu,iv,x5,kk⟩:=h;let⟨a1,q,rfl,h1,hq⟩:=HF iv;let sl:=yC;let ul:=aS ilu;let em:(S.aP.map λx=>kS x.1)=(S.aP.map (·.1)).map kS:=by rw[zD];rfl
 unfold b9 at kk;dsimp only at kk;refine{_,(ag (bO 2 qN (bJ (pv 1) ae))
  (ag (aM (PW.pt (d4 (bH (F2 (fR hr) (bJ (pv 1) ae) (bI (pv 0) rfl))) (dq (ptr eX (d7 NH T.bP (ah (nV (NF rfl) T.Vh (ah (pv 2) af)) af)) (d7 aH T.bP (ah (pv 2) af))))))
  (ak (au aK))
  aC)
  (ag (cy yP rfl (MY (bI (pv 0) rfl)) (jg 3 qN)
  (ak (aM (cP (d7 (gL rfl) T.BY (ah (oJ (ts:=["player"]) (ys:=["others"]) (js:=[3]) (te:=(fW (UE K false) (bj 0) (bj 1))) (ko (pv 2)) (gO 0) bE (dM jh (pv 0) (pv 1) (by with_unfolding_all rfl))) af)))
   (ak (au aK))
   aC)))
  (ag (aM (cP (d7 (gL rfl) T.BY (ah (oJ (ts:=["player"]) (ys:=["score"]) (js:=[0]) (te:=(fW (UE K true) (bj 0) (QP K (bj 1) "players"))) (ko (pv 2)) (gO 0) bE (dM d8 (pv 0) (bI (pv 1) rfl) (by with_unfolding_all rfl))) af)))
  (ak (au aK))
  aC)
  (ak (au aW)))))),?_}
 ac_rfl;exists a,C,o.dx,_,_,rfl,ho,F.cls,F.aP,rfl,?_;refine{o.st,_,rfl,.inl {_,kS x.1,.inr {_,fz},rfl,rfl},?_};rw[em,qV x.1 (by rw[za];exact ul)]
 by_cases c1:x.1∈S.aP.map (·.1)
 ·rw[zg c1]
  rw[yO c1] at kk;change kk _ (aI _)
 ·rw[ze c1]
  rw[yN c1] at kk;exists q,x.2,rfl,bC hq,x5,λp2 n2=>?_;let s2:aG H (upd H p2 (JU p2 ⇑(gI x.2))):=bz n2;let h2:upd H p2 (JU p2 ⇑(gI x.2)) p2=some (JU p2 ⇑(gI x.2)):=aF;generalize upd H p2 (JU p2 ⇑(gI x.2))=H2 at s2 h2 ⊢;let⟨d1,d2⟩:=Jm x.2;refine{p2,_,rfl,h2,(),?_};exists q,_,rfl,.inr (bC (s2 _ _ hq)),?_;rw[za];left
  by_cases c2:x.2.Nodup
  ·refine bX (ze (by have:=d2.mpr c2;ext)) ?_
   rw[yN (λz=>z c2)] at kk;exists a,C,o.dx,_,_,rfl,s2 _ _ ho,F.cls,F.aP,rfl,?_;refine{o.st,ob,_,rfl,s2 _ _ fz,?_};refine K0 (λi U H'=>aG H H'/\(S.aP.take i).any (λq=>x.2.any λp=>decide (p∈q.2))=false/\∃u,U=[some (.ref a),some (.ref a1),some (.ref q),u]) {(s2),rfl,none,rfl} (λi U H' _ h=>h.1 _ _ fz) ?_ ?_
   ·intro i p U H3 hp hh
    refine cT λN kN0 kR0 _ _=>?_;let⟨s3,hn,u,rfl⟩:=hh;let⟨_,hp2⟩:=J0 hp;let⟨st,hst,ist⟩:=cV ilu hp2;let⟨r,er,hr'⟩:=Tp ist;rw[er];exists{_,bC (s3 _ _ hq)},?_;refine gK (enc:=V.str) (ws:=x.2) (λz=>.bl (decide (z∈st.2))) (λU=>∃v,U=[v,some (.ref r)]) () (s3 _ _ hq) {(none),rfl} ?_ ?_
    ·rintro z U H4 R hz s4 ⟨_,rfl⟩ rr
     exists r,_,rfl,.inr (bC ((s3.trans s4) _ _ hr')),rfl,fS _,?_;refine rr _ _ _ (aI _) ?_ {_,rfl};rw[yN (by simp),ia];unfold Is;rfl
    ·intro D vs H4 s4 hD il
     let e:x.2.map (λz=>Dt.bl (decide (z∈st.2)))=(x.2.map λz=>decide (z∈st.2)).map Dt.bl:=by rw[zD];rfl
     rw[e] at il;rw[kr il] at hD;refine{D,_,rfl,ao hD,?_};let e2:(x.2.map λz=>decide (z∈st.2)).any id=x.2.any λp=>decide (p∈st.2):=by rw[wF];rfl
     rw[e2];cases qc:x.2.any λp=>decide (p∈st.2) with
     | true=>
      rw[yO (Qn hst (p:=λq:Str×List Str=>x.2.any λp=>decide (p∈q.2)) qc)] at kk;change kk _ (s3.trans s4)
     | false=>
      change{s3.trans s4,Qm hst hn qc,_,rfl}
   ·rintro U H3 ⟨s3,hn,u,rfl⟩
    rw[xB,za,ul,Nat.min_self,zP] at hn;rw[hn,yN (by simp)] at kk;exists{_,bC (s3 _ _ hq)},?_;refine gK (enc:=V.str) (ws:=x.2) (λz=>.bl (!decide (z∈S.az))) (λU=>∃v,U=[v,some (.ref a)]) () (s3 _ _ hq) {(none),rfl} ?_ ?_
    ·rintro z U H4 R hz s4 ⟨_,rfl⟩ rr
     exists a,C,o.dx,_,_,rfl,(s3.trans s4) _ _ ho,F.cls,F.az,rfl,?_;refine{o.pl,_,rfl,.inl (ao ((s3.trans s4) _ _ hpl)),rfl,fS _,?_};refine rr _ _ _ (aI _) ?_ {_,rfl};show Is H4 _ (V.bl (!Gp (.str z) (S.az.map V.str)));rw[ia];unfold Is;rfl
    ·intro D vs H4 s4 hD il
     let e:x.2.map (λz=>Dt.bl (!decide (z∈S.az)))=(x.2.map λz=>!decide (z∈S.az)).map Dt.bl:=by rw[zD];rfl
     rw[e] at il;rw[kr il] at hD;refine{D,_,rfl,ao hD,?_};let e2:(x.2.map λz=>!decide (z∈S.az)).any id=x.2.any λp=>!decide (p∈S.az):=by rw[wF];rfl
     rw[e2];cases qc:x.2.any λp=>!decide (p∈S.az) with
     | true=>
      rw[qc,yO rfl] at kk;change kk _ (s3.trans s4)
     | false=>
      rw[qc,yN (by simp)] at kk;change kk _ (s3.trans s4)
  ·refine bW (zg (by have:⇑(gI x.2)≠⇑x.2:=λz=>c2 (d2.mp z);ext)) ?_
   rw[yO c2] at kk;change kk _ s2
def nI (C:vD):Sp:=fC C λH v S f=>∃x,Is H (jE x) v/\⇑x.2<=1000/\f=b9 S (.cD x.1 x.2)
def PX {H:Hp} {d:vD} {o:Obj} {u:HO} (hd:H d=some u) (nt:cN (some u)) {l:List Dt} {vs:List V} (h:aD H l vs):aD (upd H d (.qS o u)) l vs:=aD.upd (by rw[hd];exact nt) h
def HQ {H H':Hp} {d:vD} {o:Obj} {u:HO} (hd:H d=some u) (s:aG (upd H d (.qS o u)) H'):aG H (upd H' d u):=λb z hb=>by
 by_cases e:b=d
 ·subst e;rw[aF,<-hd,hb]
 ·rw[aE e];exact s b z (by rw[aE e];exact hb)
def BL {C:vD} (F:Cf K C):di P w base 1 T.gY (nI C):=by
 refine(Iy (P:=P) (w:=w) (base:=base) T F).Sb (λvs H Q E h=>?_) (λvs H Q E h=>?_)
 ·let⟨_,_,_,_,_,rfl,_⟩:=h;rfl
 ·let⟨a,S,o,v,f,rfl,sc,⟨x,iv,x5,rfl⟩,kk⟩:=h
  let⟨us,hu,ilu⟩:=sc.st;let⟨ub,jm,ho,hub,hjm⟩:=sc.obj;let nt:cN (some (HO.dK ((S.aP.map λx=>kS x.1).zip us))):=λvs z=>by cases z
  let na:a≠o.st:=λz=>by rw[z,hu] at ho;cases ho
  let np:o.pl≠o.st:=λz=>by have:=sc.pl;rw[z,hu] at this;cases this
  refine{o.st,_,hu,rfl,λob=>{a,S,o,v,ub,jm,x,ob,us,rfl,by rw[aE na];exact ho,by rw[aE np];exact sc.pl,aF,PX hu nt ilu,Is.upd (by rw[hu];exact nt) iv,x5,λH' s'=>kk _ (HQ hu s')}}
def SE (S:cq):Prop:=∀b∈S.aO,C4 b
inductive Fx (C:vD) (vs:List V) (H:Hp) (Q:VK) (E:XK):Prop
 | mk (a:vD) (S:cq) (o:Ow) (v ub jm:V) (x:Int×Int) (ob:Obj) (us:List V) (_:vs=[.ref a,v]) (_:H a=some (.ins C o.dx (QY o ub jm))) (_:Is H (dO dL S.aL) ub) (_:VX C H a S o) (_:H o.no=some (.qS ob (.dT ((S.aN.map λx=>kN x.1).zip us)))) (_:⇑us=⇑S.aN) (_:⇑S.aN<=1000000) (_:Is H (dL x) v) (_:oZ 8999 x) (_:SE S) (_:∀H',aG H H'->Q (os (b9 S (.aL x))) H')
def Po {S:cq} (h:SE S) (b:Nat) (hb:b<⇑S.aO):oZ 8999 (S.aV b):=by
 unfold cq.aV;rw[zd hb];let⟨k1,k2,k3,k4⟩:=h _ (yn hb);let⟨g,g1,g2,g3,g4,g5⟩:=jr (t:=S.aO[b].aV.1) k3;let r0:=BA (t:=S.aO[b].aV.1) (b:=S.aO[b].aV.2) k1;let r1:=BB (t:=S.aO[b].aV.1) (b:=S.aO[b].aV.2) k1;dsimp only;exact{(bR (n:=10) r0 ()).mono ∅,(bR (n:=10) () ()).mono ∅}
def F5 {C:vD} (F:Cf K C):di P w base 4 T.fZ (Fx C):=by
 nomatch T.fZ,["score","length"]
 let⟨a,S,o,v,ub,jm,x,ob,us,rfl,ho,hub,sb,fz,ul,n6,iv,zx,bok,kk⟩:=h;let sl:=yC;unfold b9 at kk;dsimp only at kk;refine{_,(ag (aM (bH (fh (bI (pv 0) rfl)))
  (ak (au aK))
  aC)
  (ag (aM (ptr c9 (d7 aH T.bP (ah (bI (pv 0) rfl) af)) ae)
  (ak (au aK))
  aC)
  (ag (aM (fq (cP (bQ (BM T) hr T.AQ (ah (pv 1) (ah (bQ (mP T F) hr T.iS (ah (pv 0) (ah ae af))) af)))))
  (ak (au aK))
  aC)
  (ag (aM (cP (d7 (gL rfl) T.BY (ah (oJ (ts:=["place"]) (ys:=[]) (js:=[]) (te:=(fW WH (fW (qd K) (bj 0) (tC (.int (0)))) (tC (.int (0))))) (Rg (bI (pv 0) rfl)) (gO 0) bE (dM c9 (bJ (pv 0) ae) ae (gE _))) af)))
  (ak (au aK))
  aC)
  (ak (au aW)))))),?_}
 ac_rfl;exists a,C,o.dx,_,_,rfl,ho,F.cls,F.aL,rfl,?_;cases q:S.aL with
 | some u=>
  rw[q,yO (show(some u).isSome=true from rfl)] at kk;rw[q] at hub;cases eO (o:=some u) hub with
  | ref hu=>
   change kk _ (aI _)
 | none=>
  rw[q,yN (by simp)] at kk;rw[q] at hub;unfold dO Is at hub;subst hub;let⟨vs,hv,il⟩:=sb.ba;cases eO (o:=some x) iv with
  | ref hx=>
  rename_i a1;exists a,C,o.dx,_,_,rfl,ho,F.cls,F.aO,rfl,?_;exists o.ba,vs,rfl,.inl (ao hv),?_;rw[aS il];left
  by_cases c1:⇑S.aO=0
  ·refine bW (by rw[c1];rfl) ?_
   rw[yO c1] at kk;change kk _ (aI _)
  ·refine bX (ze λz=>c1 (by have:=V.int.inj z;ext)) ?_
   rw[yN c1] at kk;exists a,S,o,0,rfl,sb,(),bok,λp H1 s1 h1=>?_;refine{_,_,_,_,rfl,s1 _ _ hx,h1,zx,Po bok 0 (),?_}
   by_cases c2:x.1*(S.aV 0).2<(S.aV 0).1*x.2
   ·rw[zg c2]
    rw[yN (λz=>z c2)] at kk;exists a,C,o.dx,_,_,rfl,s1 _ _ ho,F.cls,F.aN,rfl,?_;refine{o.no,ob,_,_,rfl,{_,s1 _ _ fz,.inr {_,rfl,rfl,rfl}},?_};let kl:⇑((S.aN.map λx=>kN x.1).zip us)=⇑S.aN:=by rw[xB,za,ul,Nat.min_self]
    refine Cz (ws:=S.aN) (λp x H=>∃b,x=.ref b/\H b=some (.tup [.int p.1.1,.str p.1.2])) (λp=>.bl (decide (p.1.1=0))) (λU=>∃v,U=[v]) () {(none),rfl} (λi H2 hi s2=>{{_,s2 _ _ (s1 _ _ fz),.inr {_,rfl,rfl,rfl}},()}) (λH2 s2=>{{_,s2 _ _ (s1 _ _ fz),.inr {_,rfl,rfl,rfl}},()}) ?_ ?_ ?_
    ·rintro i y H2 H3 hi s2 ⟨rfl,p,b,hp,hb,rfl⟩
     refine{aI _,b,rfl,?_};let⟨z1,_⟩:=J0 hp;rw[zM,zd hi] at z1;simp only[xn,xN] at z1;rw[<-z1] at hb;exact hb
    ·rintro p y U H2 R hp s2 ⟨b,rfl,hb⟩ ⟨_,rfl⟩ r
     left;refine r _ _ _ (aI _) ?_ {_,rfl};rw[show decide (V.int p.1.1=V.int 0)=decide (p.1.1=0) from by by_cases h:p.1.1=0 <;> simp[h]];unfold Is;rfl
    ·intro D vs H4 s4 hD il
     let e:S.aN.map (λp=>Dt.bl (decide (p.1.1=0)))=(S.aN.map λp=>decide (p.1.1=0)).map Dt.bl:=by rw[zD];rfl
     rw[e] at il;rw[kr il] at hD;refine{D,_,rfl,ao hD,?_};let e2:(S.aN.map λp=>decide (p.1.1=0)).any id=S.aN.any λp=>decide (p.1.1=0):=by rw[wF];rfl
     rw[e2];cases qc:S.aN.any λp=>decide (p.1.1=0) with
     | true=>
      rw[qc,yO rfl] at kk;change kk _ (s1.trans s4)
     | false=>
      rw[qc,yN (by simp)] at kk;change kk _ (s1.trans s4)
   ·rw[ze c2]
    rw[yO c2] at kk;change kk _ s1
def mD (C:vD):Sp:=fC C λH v S f=>∃x,Is H (dL x) v/\oZ 8999 x/\SE S/\⇑S.aN<=1000000/\f=b9 S (.aL x)
def Af {C:vD} (F:Cf K C):di P w base 4 T.fZ (mD C):=by
 refine(F5 (P:=P) (w:=w) (base:=base) T F).Sb (λvs H Q E h=>?_) (λvs H Q E h=>?_)
 ·let⟨_,_,_,_,_,rfl,_⟩:=h;rfl
 ·let⟨a,S,o,v,f,rfl,sc,⟨x,iv,zx,bok,n6,rfl⟩,kk⟩:=h
  let⟨hn,ln⟩:=sc.no;let⟨ub,jm,ho,hub,hjm⟩:=sc.obj;let⟨bs,hb,ilb⟩:=sc.ba;let nt:cN (some (HO.dT ((S.aN.map λx=>kN x.1).zip (o.ns.map V.ref)))):=λvs z=>by cases z
  let na:a≠o.no:=λz=>by rw[z,hn] at ho;cases ho
  let nb:o.ba≠o.no:=λz=>by rw[z,hn] at hb;cases hb
  let ho':∀ob,upd H o.no (.qS ob (.dT ((S.aN.map λx=>kN x.1).zip (o.ns.map V.ref)))) a=some (.ins C o.dx (QY o ub jm)):=λob=>by rw[aE na];exact ho
  refine{o.no,_,hn,rfl,λob=>{a,S,o,v,ub,jm,x,ob,o.ns.map V.ref,rfl,ho' ob,Is.upd (by rw[hn];exact nt) hub,{{ub,jm,ho' ob},bs,by rw[aE nb];exact hb,PX hn nt ilb},aF,by rw[za,kU ln,za],n6,Is.upd (by rw[hn];exact nt) iv,zx,bok,λH' s'=>kk _ (HQ hn s')}}
noncomputable def pM:Told->Str
 | .bS _=> "player"
 | .cR _ _ _=> "instrument"
 | .cD _ _=> "staff"
 | .bar _=> "bar"
 | .aL _=> "upbeat"
 | .holds _ _ _=> "holds"
 | .aN _ _ _=> "notes"
 | .rep _=> "repeat"
 | .cm _=> "jump"
def Uv (S:cq):Told->Prop
 | .cD _ ps=>⇑ps<=1000
 | .aL l=>oZ 8999 l/\SE S/\⇑S.aN<=1000000
 | .aN b _ its=>0<=b/\⇑its<=500/\(∀it∈its,N2 it.2)/\SE S
 | .rep r=>Kd r.ends<64/\⇑r.ends<=1000/\-1000000<=r.times/\r.times<=1000000
 | .cm _=>Hg S
 | _=>True
inductive N1 (K:yB) {mg:Str->Option vv} (T:Txt K mg) (C:vD):vD->Sp->Prop where
 | bS:N1 K T C T.gw (mF C)
 | cR:N1 K T C T.eE (iI C)
 | cD:N1 K T C T.gQ (nI C)
 | bar:N1 K T C T.kc (qX C)
 | aL:N1 K T C T.gr (mD C)
 | holds:N1 K T C T.i7 (pf C)
 | aN:N1 K T C T.gW (nJ C)
 | rep:N1 K T C T.gs (mE C)
 | cm:N1 K T C T.i6 (o9 C)
noncomputable def Ss {K:yB} {mg:Str->Option vv} (T:Txt K mg):List (Str×V):=[("player",V.ref T.gw),("instrument",.ref T.eE),("staff",.ref T.gQ),("bar",.ref T.kc),("upbeat",.ref T.gr),("holds",.ref T.i7),("notes",.ref T.gW),("repeat",.ref T.gs),("jump",.ref T.i6)]
def PV (K:yB) {mg:Str->Option vv} (T:Txt K mg) (C:vD) (t:Told):∃f D,sP (Ss T) (pM t)=some (.ref f)/\N1 K T C f (fC C D)/\∀H0 H v S,gN H0 H v (some t)->Uv S t->D H v S (b9 S t):=by
 cases t with
 | bS n=>exact{_,_,rfl,.bS,λH0 H v S h1 h2=>{(n),h1,rfl}}
 | cR n t l=>exact{_,_,rfl,.cR,λH0 H v S h1 h2=>{(n,t,l),h1,rfl}}
 | cD n ps=>exact{_,_,rfl,.cD,λH0 H v S h1 h2=>{(n,ps),h1,h2,rfl}}
 | bar b=>exact{_,_,rfl,.bar,λH0 H v S h1 h2=>{(b),rfl}}
 | aL l=>exact{_,_,rfl,.aL,λH0 H v S h1 h2=>{(l),h1,h2.1,h2.2.1,h2.2.2,rfl}}
 | holds p b i=>exact{_,_,rfl,.holds,λH0 H v S h1 h2=>{(p,b,i),h1,rfl}}
 | aN b p its=>exact{_,_,rfl,.aN,λH0 H v S h1 h2=>{(b,p,its),jd.at h1,h2.1,h2.2.1,h2.2.2.1,h2.2.2.2,rfl}}
 | rep r=>exact{_,_,rfl,.rep,λH0 H v S h1 h2=>{(r),h1,h2.1,h2.2.1,h2.2.2.1,h2.2.2.2,rfl}}
 | cm j=>exact{_,_,rfl,.cm,λH0 H v S h1 h2=>{(j),h1,h2,rfl}}
def Oi {H0 H:Hp} {v:V} {t:Told} (h:gN H0 H v (some t)):v≠.bT:=by
 let tp:∀l,Is H (.tup l) v->v≠.bT:=λl z=>by
  unfold Is at z;let⟨a,vs,e,_⟩:=z;rw[e];simp
 cases t with
 | bS n=>let e:v=.str n:=h;rw[e];simp
 | cR n t l=>exact tp _ h
 | cD n ps=>exact tp _ h
 | bar b=>exact tp _ h
 | aL l=>exact tp _ h
 | holds p b i=>exact tp _ h
 | aN b p its=>let⟨a,_,_,e,_⟩:=h;rw[e];simp
 | rep r=>exact tp _ h
 | cm j=>exact tp _ h
noncomputable def P0 (S:cq):Option Told->Option Str
 | none=>some "row"
 | some t=>b9 S t
inductive HM (C:vD) (vs:List V) (H:Hp) (Q:VK) (E:XK):Prop
 | mk (a:vD) (S:cq) (o:Ow) (x:Str) (v:V) (H0:Hp) (t:Option Told) (_:vs=[.ref a,.str x,v]) (_:bY C H a S o) (_:gN H0 H v t) (_:(∀t',t=some t'->x=pM t'/\Uv S t')) (_:∀H',aG H H'->Q (os (P0 S t)) H')
def uN:dY ["score","sort","told","finder"] ["score","sort","told"] (aT pR):=QF
def ID (B:Dk P w K T) {C:vD} (F:Cf K C):di P w base 6 T.Cb (HM C):=by
 refine T.Cb.F.Vf uN λcdv A' outer s H vs Q E hr h=>?_
 ·let⟨a,S,o,x,v,H0,t,rfl,sc,tv,fit,kk⟩:=h
  let hTbV:∀f sp,N1 K T C f sp->UB (jF JX P w K mg base ["score","sort","told","finder"] "fault_of" (aT pR) T.CU cdv A' outer s H E).JY JX 5 f sp:=by
   intro f sp h;cases h with
   | bS=>exact{_,_,L2.dy.mono (Ah T F) ∅,T.iP.F.kp,T.iP.b}
   | cR=>exact{_,_,L2.dy.mono (oU T F) ∅,T.fj.F.kp,T.fj.b}
   | cD=>exact{_,_,L2.dy.mono (BL T F) ∅,T.gY.F.kp,T.gY.b}
   | bar=>exact{_,_,L2.dy.mono (Ge T F) ∅,T.oS.F.kp,T.oS.b}
   | aL=>exact{_,_,L2.dy.mono (Af T F) ∅,T.fZ.F.kp,T.fZ.b}
   | holds=>exact{_,_,L2.dy.mono (DM T F) ∅,T.lZ.F.kp,T.lZ.b}
   | aN=>exact{_,_,L2.dy.mono (BR T F) ∅,T.jX.F.kp,T.jX.b}
   | rep=>exact{_,_,L2.dy.mono (Ag T F) ∅,T.iO.F.kp,T.iO.b}
   | cm=>exact{_,_,L2.dy.mono (DL T F) ∅,T.lW.F.kp,T.lW.b}
  refine{_,(ag (aM (bH (cJ (pv 2)))
   (ak (au aK))
   aC)
   (ag (bO 3 uN.nd (Ir (bK (v:=.ref T.rD) (by rfl) T.Qi rfl) (pv 1) (λ_ _=>rfl)))
   (ak (au (Iu (N1 K T C) hTbV (hr.mono ∅) (pv 3) L3 (ah (pv 0) (ah (pv 2) af))))))),?_}
  ac_rfl;left;cases t with
  | none=>
   let e:v=.bT:=tv;subst e;change kk _ (aI _)
  | some t=>
   let⟨ex,ft⟩:=fit t rfl;subst ex;let⟨f,D,ev,htb,hd⟩:=PV K T C t;let ne:=Oi tv;rw[ze ne];exists T.rD,Ss T,pM t,_,rfl,B.Uc,rfl,ev,?_;exists f,_,rfl,htb,?_;change{a,S,o,v,_,rfl,sc,hd H0 H v S tv ft,kk}
def JJ {hs:List (Str×List (Int×Str))} {p:Str} {h:Int×Str} (fr:p∉hs.map (·.1)):fm (hs++[(p,[])]) p h=fm hs p h:=by
 unfold fm;rw[yN fr,yO (by rw[zk];exact zK _ (zC.mpr rfl)),zk];let e:(hs.map λq:Str×List (Int×Str)=>if q.1=p then(q.1,q.2++[h]) else q)=hs:=by
  conv=>rhs;rw[<-List.map_id hs]
  refine xy λq hq=>?_;rw[yN (λz=>fr (by rw[<-z];exact zR (f:=λx:Str×List (Int×Str)=>x.1) hq))];rfl
 rw[e];simp
def qO (S:cq):Prop:=(S.holds.map (·.1)).Nodup/\⇑S.holds<=1000000/\∀q∈S.holds,⇑q.2<=1000000
inductive HN (C:vD) (vs:List V) (H:Hp) (Q:VK) (E:XK):Prop
 | mk (a:vD) (S:cq) (o:Ow) (v:V) (pn:Str) (b:Int) (i:Str) (_:vs=[.ref a,v]) (_:bY C H a S o) (_:Is H (u9 (pn,b,i)) v) (_:qO S) (_:∀H' o',bY C H' a (bU S (.holds pn b i)) o'->AO (own a o) H H'->(∀x∈own a o',x∈own a o\/H x=none)->Q .bT H')
def rT {o:Ow} {a x:vD} (h:x∈o.lists):x∈own a o:=by
 unfold Ow.lists at h;unfold own;rw[zI,zI] at h ⊢;rcases h with(h | h) | h
 ·refine .inl (.inl ?_)
  simp only[zF,zG,yV] at h ⊢;rcases h with h | h | h <;> simp[h]
 ·exact .inl (.inr h)
 ·exact .inr h
def Pf {C a x:vD} {H:Hp} {S:cq} {o:Ow} (h:bY C H a S o) (hx:x∈own a o):∃u,H x=some u:=by
 let⟨_,_,ha,_⟩:=h.obj;let⟨_,hi,_⟩:=h.ins;let⟨_,hs,_⟩:=h.st;let⟨_,hb,_⟩:=h.ba;let⟨_,hr,_⟩:=h.re;unfold own at hx;rw[zI,zI] at hx;rcases hx with(hx | hx) | hx
 ·simp only[zF,zG,yV] at hx
  rcases hx with rfl | rfl | rfl | rfl | rfl | rfl | rfl | rfl
  ·exact{_,ha}
  ·exact{_,h.pl}
  ·exact{_,hi}
  ·exact{_,hs}
  ·exact{_,hb}
  ·exact{_,h.ho.1}
  ·exact{_,h.no.1}
  ·exact{_,hr}
 ·let⟨vs,e⟩:=cQ h.ho.2 hx
  exact{_,e}
 ·let⟨vs,e⟩:=cQ h.no.2 hx
  exact{_,e}
def F3 {C a x:vD} {H:Hp} {S:cq} {o:Ow} (h:bY C H a S o) (hx:H x=none):x∉own a o:=λz=>by
 let⟨u,e⟩:=Pf h z;rw[hx] at e;cases e
def IS {hs:List (Str×List (Int×Str))} {as:List vD} {H:Hp} {x:vD} {vs:List V} (hL:ck H Le (hs.map (·.2)) as) (hx:x∈as) (hH:H x=some (.lst vs)) (hb:∀q∈hs,⇑q.2<=1000000):⇑vs<=1000000:=by
 induction hs generalizing as with
 | nil=>unfold ck at hL;rw[hL] at hx;simp at hx
 | cons q r ih=>
  rw[zj] at hL;let⟨a,t,us,rfl,h1,h2,h3⟩:=hL;rcases zF.mp hx with rfl | hx
  ·rw[h1] at hH;cases hH
   have:=aS h2;have:=hb q zv;ext
  ·exact ih h3 hx λq hq=>hb q (zp _ hq)
def IF {C:vD} (F:Cf K C):di P w base 1 T.CM (HN C):=by
 nomatch T.CM,["score","told"]
 let⟨a,S,o,v,pn,b,i,rfl,sc,iv,⟨nk,hl,hb⟩,kk⟩:=h;let⟨a1,rfl,h1⟩:=Md iv;let sl:=yC;let⟨ub,jm,ho,hub,hjm⟩:=sc.obj;let em:(S.holds.map λx=>kS x.1)=(S.holds.map (·.1)).map kS:=by rw[zD];rfl
 let ll:⇑(o.hs.map V.ref)=⇑(S.holds.map (·.1)):=by rw[za,za,kU sc.ho.2,za]
 dsimp only at h1;refine{_,(ag (aM (bH (EK (fR hr) (bJ (pv 1) ae) (bI (pv 0) rfl)))
  (ak (oH (fR hr) (bI (pv 0) rfl) (bJ (pv 1) ae) (bq af) rfl))
  aC)
  (ak (bu (bZ yD yF yE bF (AR (fR hr) (bI (pv 0) rfl) (bJ (pv 1) ae) (λ_ _=>rfl)) (ah (bM (ah (bJ (pv 1) ae) (ah (bJ (pv 1) ae) af))) af))))),?_}
 ac_rfl;exists a,C,o.dx,_,_,rfl,ho,F.cls,F.holds,rfl,?_;refine{o.ho,_,rfl,.inl {_,kS pn,.inl sc.ho.1,rfl,rfl},?_};rw[em,qV pn ll]
 by_cases c1:pn∈S.holds.map (·.1)
 ·rw[zg c1]
  let⟨x,us,e1,e2,e3,e4⟩:=sc.oM nk c1;exists a,C,o.dx,_,_,rfl,ho,F.cls,F.holds,rfl,?_;exists o.ho,_,rfl,.inl {_,kS pn,.inl sc.ho.1,rfl,e1.symm},?_;refine{.inl {rfl,us,ao e3},?_};exists cO,?_;intros p2 H2 s2 h2;refine{x,us,_,rfl,rfl,s2 _ _ e3,?_,?_}
  ·have:=IS sc.ho.2 e2 e3 hb
   ext
  ·let⟨x',us',f1,f2,f3,f4⟩:=(sc.mono s2).oM nk c1
   let ex:x=x':=by rw[f1] at e1;cases e1;rfl
   subst ex;let eu:us=us':=by have:=s2 _ _ e3;rw[f3] at this;cases this;rfl
   subst eu;change kk _ o (f4 _ b i (cW h2 (aU cX (aU fu du)))) ((AO.of s2).trans (AO.upd (rT (by unfold Ow.lists;simp[e2])))) λy hy=>.inl hy
 ·rw[ze c1]
  left
  intros p1 n1 s1 g1 H1
  let sc1:=sc.mono s1;let h11:=s1 _ _ h1;let nl:p1∉o.lists:=λz=>F3 sc n1 (rT z);exists a,C,o.dx,_,_,rfl,s1 _ _ ho,F.cls,F.holds,rfl,?_;left;refine{o.ho,_,rfl,.inl {_,kS pn,sc1.ho.1,rfl,?_,rfl},?_}
  ·rw[xB,za];ext
  let sc2:=sc1.Pj g1 nl c1;let nt1:cN (H1 o.ho):=by rw[sc1.ho.1];exact λ_ z=>by cases z
  let h12:upd H1 o.ho (.dK (putK ((S.holds.map λx=>kS x.1).zip (o.hs.map V.ref)) (kS pn) (.ref p1))) a1=some (.tup [V.str pn,V.int b,V.str i]):=by rw[aE (Sc.bw h11 sc1.ho.1 (fX rfl))];exact h11
  let el:AO (own a o) H (upd H1 o.ho (.dK (putK ((S.holds.map λx=>kS x.1).zip (o.hs.map V.ref)) (kS pn) (.ref p1)))):=(AO.of s1).trans (AO.upd (by unfold own;simp));generalize upd H1 o.ho (.dK (putK ((S.holds.map λx=>kS x.1).zip (o.hs.map V.ref)) (kS pn) (.ref p1)))=H3 at sc2 h12 el ⊢;let⟨ub2,jm2,ho2,_,_⟩:=sc2.obj;let nk2:(({S with holds:=S.holds++[(pn,[])]}:cq).holds.map (·.1)).Nodup:=by
   show((S.holds++[(pn,[])]).map λx:Str×List (Int×Str)=>x.1).Nodup;rw[zk,zV];exact{nk,by simp,λx hx y hy e=>by simp at hy;subst hy;subst e;exact c1 hx}
  let c2:pn∈({S with holds:=S.holds++[(pn,[])]}:cq).holds.map (·.1):=by
   show pn∈(S.holds++[(pn,[])]).map λx:Str×List (Int×Str)=>x.1;rw[zk];exact zK _ (zC.mpr rfl)
  let⟨x,us,e1,e2,e3,e4⟩:=sc2.oM nk2 c2;let hb2:∀q∈S.holds++[((pn,[]):Str×List (Int×Str))],⇑q.2<=1000000:=λq hq=>by
   rcases zI.mp hq with z | z
   ·exact hb q z
   ·rw[zC.mp z];exact yh _
  exists a,C,_,_,_,rfl,ho2,F.cls,F.holds,rfl,?_;exists o.ho,_,rfl,.inl {_,kS pn,.inl sc2.ho.1,rfl,e1.symm},?_;refine{.inl {rfl,us,ao e3},?_};exists cO,?_;intros p2 H4 s4 h4;refine{x,us,_,rfl,rfl,s4 _ _ e3,?_,?_}
  ·have:=IS sc2.ho.2 e2 e3 hb2
   ext
  ·let⟨x',us',f1,f2,f3,f4⟩:=(sc2.mono s4).oM nk2 c2
   let ex:x=x':=by rw[f1] at e1;cases e1;rfl
   subst ex;let eu:us=us':=by have:=s4 _ _ e3;rw[f3] at this;cases this;rfl
   subst eu;left;let ea:bU {S with holds:=S.holds++[(pn,[])]} (.holds pn b i)=bU S (.holds pn b i):=by
    show({S with holds:=fm (S.holds++[(pn,[])]) pn (b,i)}:cq)={S with holds:=fm S.holds pn (b,i)};rw[JJ c1]
   let sf:=f4 _ b i (cW h4 (aU cX (aU fu du)));rw[ea] at sf;let xin:x∈o.hs\/x=p1:=by
    have:x∈o.hs++[p1]:=e2;rw[zI,zC] at this;exact this
   refine kk _ _ sf (λy u ny hy=>?_) λy hy=>?_
   ·let hy4:=s4 _ _ (el y u ny hy)
    rw[aE]
    ·exact hy4
    ·intro z
     subst z;rcases xin with z | z
     ·exact ny (rT (by unfold Ow.lists;simp[z]))
     ·subst z;rw[n1] at hy;cases hy
   ·have:y∈own a o\/y=p1:=by
     unfold own at hy ⊢;simp only[zI,zF,zG,yV] at hy ⊢;rcases hy with(hy | hy | hy) | hy
     ·exact .inl (.inl (.inl hy))
     ·exact .inl (.inl (.inr hy))
     ·exact .inr hy
     ·exact .inl (.inr hy)
    rcases this with z | z
    ·exact .inl z
    ·subst z;exact .inr n1
def uI (S:cq):Prop:=⇑S.az<=1000000/\⇑S.aq<=1000000/\⇑S.aP<=1000000/\⇑S.aO<=1000000/\⇑S.aN<=1000000/\⇑S.aJ<=1000000
inductive Kh (C:vD) (vs:List V) (H:Hp) (Q:VK) (E:XK):Prop
 | mk (a:vD) (S:cq) (o:Ow) (v:V) (H0:Hp) (t:Told) (_:vs=[.ref a,.str (pM t),v]) (_:bY C H0 a S o) (_:aG H0 H) (_:gN H0 H v (some t)) (_:b9 S t=none) (_:qO S) (_:uI S) (_:∀H' o',bY C H' a (bU S t) o'->AO (own a o) H H'->(∀x∈own a o',x∈own a o\/H0 x=none)->Q .bT H')
def Gq {c:Prop} [Decidable c] {x:Str} {y:Option Str} (h:(if c then some x else y)=none):¬c/\y=none:=by
 by_cases e:c
 ·rw[yO e] at h;cases h
 ·rw[yN e] at h;exact{(e),h}
theorem uW {H:Hp}:∀l:List Str,aD H (l.map Dt.str) (l.map V.str)
 | []=>du
 | x::r=>aU fu (uW r)
def KJ {C:vD} (F:Cf K C):di P w base 2 T.G0 (Kh C):=by
 nomatch T.G0,["score","sort","told"]
 let⟨a,S,o,v,H0,t,rfl,sc0,s0,tv,fn,cB,⟨z1,z2,z3,z4,z5,z6⟩,kk⟩:=h;let sl:=yC;let sc:=sc0.mono s0;let⟨ub,jm,ho,hub,hjm⟩:=sc.obj;let me:∀x∈own a o,x∈own a o\/H0 x=none:=λx hx=>.inl hx;refine{_,(ak (aM (ptr c9 (pv 1) aK)
  (ak (bu (bZ yD yF yE bF (bI (pv 0) rfl) (ah (pv 2) af))))
  (ak (aM (ptr c9 (pv 1) aK)
   (ak (oH (fR hr) (bI (pv 0) rfl) (bJ (pv 2) ae) (bM (ah (bJ (pv 2) ae) (ah (bJ (pv 2) ae) af))) rfl))
   (ak (aM (ptr c9 (pv 1) aK)
    (ak (oH (fR hr) (bI (pv 0) rfl) (bJ (pv 2) ae) (bJ (pv 2) ae) rfl))
    (ak (aM (ptr c9 (pv 1) aK)
     (ak (bu (bZ yD yF yE bF (bI (pv 0) rfl) (ah (pv 2) af))))
     (ak (aM (ptr c9 (pv 1) aK)
      (ak (jw (pv 0) (pv 2) rfl))
      (ak (aM (ptr c9 (pv 1) aK)
       (ak (bu (bQ (IF T F) hr T.CM (ah (pv 0) (ah (pv 2) af)))))
       (ak (aM (ptr c9 (pv 1) aK)
        (ak (oH (fR hr) (bI (pv 0) rfl) (bM (ah (bJ (pv 2) ae) (ah (bJ (pv 2) ae) af))) (bJ (pv 2) ae) rfl))
        (ak (aM (ptr c9 (pv 1) aK)
         (ak (bu (bZ yD yF yE bF (bI (pv 0) rfl) (ah (pv 2) af))))
         (ak (jw (pv 0) (pv 2) rfl)))))))))))))))))),?_}
 ac_rfl;cases t with
 | bS n=>
  let e:v=.str n:=tv;subst e;exists a,C,o.dx,_,_,rfl,ho,F.cls,F.az,rfl,?_;refine{.inl {rfl,_,ao sc.pl},?_};exists o.pl,_,_,rfl,rfl,sc.pl,by rw[za];ext,?_
  change kk _ o (sc.Lq n) (AO.upd (by unfold own;simp)) me
 | cR n t l=>
  let⟨a1,t1,l1,rfl,h1,it,il⟩:=IV (x:=(n,t,l)) tv;let fr:=(Gq fn).1;exists cO,?_;intros p2 H2 s2 h2;let sc2:=sc.mono s2;let h12:=s2 _ _ h1;let⟨vs,hv,ilv⟩:=sc2.ins;exists a,C,o.dx,_,_,rfl,s2 _ _ ho,F.cls,F.aq,rfl,?_;left;refine{o.ins,_,rfl,.inl {_,kS n,hv,rfl,?_,rfl},?_}
  ·rw[xB,za];ext
  exact kk _ o (sc2.NO hv ilv (cW h2 (aU (it.mono s2) (aU (il.mono s2) du))) fr) ((AO.of s2).trans (AO.upd (by unfold own;simp))) me
 | cD n ps=>
  let⟨a1,q,rfl,h1,hq⟩:=HF (x:=(n,ps)) tv;let fr:=(Gq fn).1;let⟨vs,hv,ilv⟩:=sc.st;exists a,C,o.dx,_,_,rfl,ho,F.cls,F.aP,rfl,?_;left;refine{o.st,_,rfl,.inl {_,kS n,hv,rfl,?_,rfl},?_}
  ·rw[xB,za];ext
  exact kk _ o (sc.NM hv ilv (by unfold RP mZ;exact cW hq (uW ps)) fr) (AO.upd (by unfold own;simp)) me
 | bar b=>
  let⟨vs,hv,ilv⟩:=sc.ba;let vl:=aS ilv;exists a,C,o.dx,_,_,rfl,ho,F.cls,F.aO,rfl,?_;refine{.inl {rfl,_,ao hv},?_};exists o.ba,_,_,rfl,rfl,hv,(),?_;change kk _ o (sc.RX hv ilv tv) (AO.upd (by unfold own;simp)) me
 | aL l=>
  exists a,C,o.dx,_,rfl,ho,F.cls,F.aL,(by show 9<1000;decide),?_;exact kk _ o (sc.Lp ho hjm tv) (AO.upd (by unfold own;simp)) me
 | holds p b i=>
  change{a,S,o,v,p,b,i,rfl,sc,tv,cB,λH' o' s' e' n'=>kk H' o' s' e' λx hx=>(n' x hx).imp id λz=>s0.back z}
 | aN b p its=>
  let⟨a1,q,us,rfl,h1,hq,ilq,nq⟩:=tv;let fr:=(Gq fn).1;let nl:q∉o.lists:=λz=>F3 sc0 nq (rT z);exists a,C,o.dx,_,_,rfl,ho,F.cls,F.aN,rfl,?_;exists cO,?_;intros p2 H2 s2 h2;let sc2:=sc.mono s2;refine{o.no,_,rfl,.inr {_,kN (b,p),p2,sc2.no.1,rfl,h2,?_,rfl},?_}
  ·rw[xB,za];ext
  refine kk _ _ (sc2.NN (s2 _ _ hq) (ilq.mono s2) nl fr) ((AO.of s2).trans (AO.upd (by unfold own;simp))) λx hx=>?_;have:x∈own a o\/x=q:=by
   unfold own at hx ⊢;simp only[zI,zF,zG,yV] at hx ⊢;rcases hx with hx | hx | hx
   ·exact .inl (.inl hx)
   ·exact .inl (.inr hx)
   ·exact .inr hx
  rcases this with z | z
  ·exact .inl z
  ·subst z;exact .inr nq
 | rep r=>
  let⟨vs,hv,ilv⟩:=sc.re;let vl:=aS ilv;exists a,C,o.dx,_,_,rfl,ho,F.cls,F.aJ,rfl,?_;refine{.inl {rfl,_,ao hv},?_};exists o.re,_,_,rfl,rfl,hv,(),?_;change kk _ o (sc.RV hv ilv tv) (AO.upd (by unfold own;simp)) me
 | cm j=>
  exists a,C,o.dx,_,rfl,ho,F.cls,F.cm,(by show 9<1000;decide),?_;exact kk _ o (sc.Qp ho hub tv) (AO.upd (by unfold own;simp)) me
def gG {H:Hp} {a C dx p:vD} {fs fs':List (Str×V)} {u:HO} (ha:H a=some (.ins C dx fs)) (np:H p=none) :
  upd (upd H p u) a (.ins C dx fs') a=some (.ins C dx fs')/\upd (upd H p u) a (.ins C dx fs') p=some u/\∀b v,H b=some v->b≠a->upd (upd H p u) a (.ins C dx fs') b=some v:=by
 let na:p≠a:=λz=>by rw[z,ha] at np;cases np
 refine{aF,by rw[aE na,aF],λb v hb ne=>?_};rw[aE ne,aE (λz=>by rw[z,np] at hb;cases hb)];exact hb
def EY {H:Hp} {a C dx:vD} {fs':List (Str×V)}:upd H a (.ins C dx fs') a=some (.ins C dx fs')/\∀b v,H b=some v->b≠a->upd H a (.ins C dx fs') b=some v:=
 {aF,λb v hb ne=>by rw[aE ne];exact hb}
inductive Dj (C:vD) (vs:List V) (H:Hp) (Q:VK) (E:XK):Prop
 | mk (a dx:vD) (_:vs=[.ref a]) (_:H a=some (.ins C dx [])) (_:∀H' o,bY C H' a {} o->(∀b u,H b=some u->b≠a->H' b=some u)->(∀x∈own a o,x=a\/H x=none)->Q .bT H')
def Dp:dY ["self"] ["self"] (aT rm):=QF
def DO {C:vD} (F:Cf K C):dy P w K mg base JX 1 T.mj T.sC ["self"] (Dj C):=by
 refine T.C3.F.Vf Dp λ_ _ _ _ H vs Q E hr h=>?_
 ·let⟨a,dx,rfl,ha,kk⟩:=h
  let sl:=yC;refine{_,ag (jw (pv 0) (bq af) rfl) (ag (jw (pv 0) nU rfl) (ag (jw (pv 0) nU rfl) (ag (jw (pv 0) (bq af) rfl) (ag (jw (pv 0) aW rfl) (ag (jw (pv 0) nU rfl) (ag (jw (pv 0) Pb rfl) (ag (jw (pv 0) (bq af) rfl) (ak (jw (pv 0) aW rfl))))))))),?_};refine{by show 0<=sizeLine;ext,λp1 n1=>?_};refine{_,rfl,a,C,dx,[],rfl,(by rw[aE (λz=>by rw[<-z,ha] at n1;cases n1)];exact ha),F.cls,F.az,(by show 0<1000;decide),?_};let⟨a1,q1,k1⟩:=gG (u:=.lst []) (fs':=bc "players" (.ref p1) []) ha n1;generalize upd (upd H p1 (.lst [])) a (.ins C dx (bc "players" (.ref p1) []))=H1 at a1 q1 k1 ⊢;refine λp2 n2=>{_,rfl,a,C,dx,_,rfl,(by rw[aE (λz=>by rw[<-z,a1] at n2;cases n2)];exact a1),F.cls,F.aq,(by show 1<1000;decide),?_}
  let⟨a2,q2,k2⟩:=gG (u:=.dK []) (fs':=(bc "instruments" (.ref p2) (bc "players" (.ref p1) []))) a1 n2;generalize upd (upd H1 p2 (.dK [])) a (.ins C dx (bc "instruments" (.ref p2) (bc "players" (.ref p1) [])))=H2 at a2 q2 k2 ⊢;refine λp3 n3=>{_,rfl,a,C,dx,_,rfl,(by rw[aE (λz=>by rw[<-z,a2] at n3;cases n3)];exact a2),F.cls,F.aP,(by show 2<1000;decide),?_}
  let⟨a3,q3,k3⟩:=gG (u:=.dK []) (fs':=(bc "staffs" (.ref p3) (bc "instruments" (.ref p2) (bc "players" (.ref p1) [])))) a2 n3;generalize upd (upd H2 p3 (.dK [])) a (.ins C dx (bc "staffs" (.ref p3) (bc "instruments" (.ref p2) (bc "players" (.ref p1) []))))=H3 at a3 q3 k3 ⊢;refine{by show 0<=sizeLine;ext,λp4 n4=>{_,rfl,a,C,dx,_,rfl,(by rw[aE (λz=>by rw[<-z,a3] at n4;cases n4)];exact a3),F.cls,F.aO,(by show 3<1000;decide),?_}};let⟨a4,q4,k4⟩:=gG (u:=.lst []) (fs':=(bc "bars" (.ref p4) (bc "staffs" (.ref p3) (bc "instruments" (.ref p2) (bc "players" (.ref p1) []))))) a3 n4;generalize upd (upd H3 p4 (.lst [])) a (.ins C dx (bc "bars" (.ref p4) (bc "staffs" (.ref p3) (bc "instruments" (.ref p2) (bc "players" (.ref p1) [])))))=H4 at a4 q4 k4 ⊢;refine{_,rfl,a,C,dx,_,rfl,a4,F.cls,F.aL,(by show 4<1000;decide),?_};let⟨a5,k5⟩:=EY (H:=H4) (a:=a) (C:=C) (dx:=dx) (fs':=(bc "upbeat" .bT (bc "bars" (.ref p4) (bc "staffs" (.ref p3) (bc "instruments" (.ref p2) (bc "players" (.ref p1) []))))));generalize upd H4 a (.ins C dx (bc "upbeat" .bT (bc "bars" (.ref p4) (bc "staffs" (.ref p3) (bc "instruments" (.ref p2) (bc "players" (.ref p1) []))))))=H5 at a5 k5 ⊢;refine λp6 n6=>{_,rfl,a,C,dx,_,rfl,(by rw[aE (λz=>by rw[<-z,a5] at n6;cases n6)];exact a5),F.cls,F.holds,(by show 5<1000;decide),?_}
  let⟨a6,q6,k6⟩:=gG (u:=.dK []) (fs':=(bc "holds" (.ref p6) (bc "upbeat" .bT (bc "bars" (.ref p4) (bc "staffs" (.ref p3) (bc "instruments" (.ref p2) (bc "players" (.ref p1) []))))))) a5 n6;generalize upd (upd H5 p6 (.dK [])) a (.ins C dx (bc "holds" (.ref p6) (bc "upbeat" .bT (bc "bars" (.ref p4) (bc "staffs" (.ref p3) (bc "instruments" (.ref p2) (bc "players" (.ref p1) [])))))))=H6 at a6 q6 k6 ⊢;refine λp7 n7=>{_,rfl,a,C,dx,_,rfl,(by rw[aE (λz=>by rw[<-z,a6] at n7;cases n7)];exact a6),F.cls,F.aN,(by show 6<1000;decide),?_}
  let⟨a7,q7,k7⟩:=gG (u:=.dT []) (fs':=(bc "notes" (.ref p7) (bc "holds" (.ref p6) (bc "upbeat" .bT (bc "bars" (.ref p4) (bc "staffs" (.ref p3) (bc "instruments" (.ref p2) (bc "players" (.ref p1) [])))))))) a6 n7;generalize upd (upd H6 p7 (.dT [])) a (.ins C dx (bc "notes" (.ref p7) (bc "holds" (.ref p6) (bc "upbeat" .bT (bc "bars" (.ref p4) (bc "staffs" (.ref p3) (bc "instruments" (.ref p2) (bc "players" (.ref p1) []))))))))=H7 at a7 q7 k7 ⊢;refine{by show 0<=sizeLine;ext,λp8 n8=>{_,rfl,a,C,dx,_,rfl,(by rw[aE (λz=>by rw[<-z,a7] at n8;cases n8)];exact a7),F.cls,F.aJ,(by show 7<1000;decide),?_}};let⟨a8,q8,k8⟩:=gG (u:=.lst []) (fs':=(bc "repeats" (.ref p8) (bc "notes" (.ref p7) (bc "holds" (.ref p6) (bc "upbeat" .bT (bc "bars" (.ref p4) (bc "staffs" (.ref p3) (bc "instruments" (.ref p2) (bc "players" (.ref p1) []))))))))) a7 n8;generalize upd (upd H7 p8 (.lst [])) a (.ins C dx (bc "repeats" (.ref p8) (bc "notes" (.ref p7) (bc "holds" (.ref p6) (bc "upbeat" .bT (bc "bars" (.ref p4) (bc "staffs" (.ref p3) (bc "instruments" (.ref p2) (bc "players" (.ref p1) [])))))))))=H8 at a8 q8 k8 ⊢;refine{_,rfl,a,C,dx,_,rfl,a8,F.cls,F.cm,(by show 8<1000;decide),?_};let⟨a9,k9⟩:=EY (H:=H8) (a:=a) (C:=C) (dx:=dx) (fs':=(bc "jump" .bT (bc "repeats" (.ref p8) (bc "notes" (.ref p7) (bc "holds" (.ref p6) (bc "upbeat" .bT (bc "bars" (.ref p4) (bc "staffs" (.ref p3) (bc "instruments" (.ref p2) (bc "players" (.ref p1) []))))))))));generalize upd H8 a (.ins C dx (bc "jump" .bT (bc "repeats" (.ref p8) (bc "notes" (.ref p7) (bc "holds" (.ref p6) (bc "upbeat" .bT (bc "bars" (.ref p4) (bc "staffs" (.ref p3) (bc "instruments" (.ref p2) (bc "players" (.ref p1) []))))))))))=H9 at a9 k9 ⊢;let e1:p1≠a:=λz=>by rw[z,ha] at n1;cases n1
  let g1:=k9 _ _ (k8 _ _ (k7 _ _ (k6 _ _ (k5 _ _ (k4 _ _ (k3 _ _ (k2 _ _ (q1) e1) e1) e1) e1) e1) e1) e1) e1;let e2:p2≠a:=λz=>by rw[z,a1] at n2;cases n2
  let g2:=k9 _ _ (k8 _ _ (k7 _ _ (k6 _ _ (k5 _ _ (k4 _ _ (k3 _ _ (q2) e2) e2) e2) e2) e2) e2) e2;let e3:p3≠a:=λz=>by rw[z,a2] at n3;cases n3
  let g3:=k9 _ _ (k8 _ _ (k7 _ _ (k6 _ _ (k5 _ _ (k4 _ _ (q3) e3) e3) e3) e3) e3) e3;let e4:p4≠a:=λz=>by rw[z,a3] at n4;cases n4
  let g4:=k9 _ _ (k8 _ _ (k7 _ _ (k6 _ _ (k5 _ _ (q4) e4) e4) e4) e4) e4;let e6:p6≠a:=λz=>by rw[z,a5] at n6;cases n6
  let g6:=k9 _ _ (k8 _ _ (k7 _ _ (q6) e6) e6) e6;let e7:p7≠a:=λz=>by rw[z,a6] at n7;cases n7
  let g7:=k9 _ _ (k8 _ _ (q7) e7) e7;let e8:p8≠a:=λz=>by rw[z,a7] at n8;cases n8
  let g8:=k9 _ _ (q8) e8;let kH:∀b v,H b=some v->b≠a->H9 b=some v:=λb v hb ne=>k9 _ _ (k8 _ _ (k7 _ _ (k6 _ _ (k5 _ _ (k4 _ _ (k3 _ _ (k2 _ _ (k1 _ _ hb ne) ne) ne) ne) ne) ne) ne) ne) ne;let f1:H p1=none:=n1;let f2:H p2=none:=by
   cases q:H p2 with
   | none=>rfl
   | some v=>let z:=q;rw[show H1 p2=some v from k1 _ _ z e2] at n2;cases n2
  let f3:H p3=none:=by
   cases q:H p3 with
   | none=>rfl
   | some v=>let z:=q;rw[show H2 p3=some v from k2 _ _ (k1 _ _ z e3) e3] at n3;cases n3
  let f4:H p4=none:=by
   cases q:H p4 with
   | none=>rfl
   | some v=>let z:=q;rw[show H3 p4=some v from k3 _ _ (k2 _ _ (k1 _ _ z e4) e4) e4] at n4;cases n4
  let f6:H p6=none:=by
   cases q:H p6 with
   | none=>rfl
   | some v=>let z:=q;rw[show H5 p6=some v from k5 _ _ (k4 _ _ (k3 _ _ (k2 _ _ (k1 _ _ z e6) e6) e6) e6) e6] at n6;cases n6
  let f7:H p7=none:=by
   cases q:H p7 with
   | none=>rfl
   | some v=>let z:=q;rw[show H6 p7=some v from k6 _ _ (k5 _ _ (k4 _ _ (k3 _ _ (k2 _ _ (k1 _ _ z e7) e7) e7) e7) e7) e7] at n7;cases n7
  let f8:H p8=none:=by
   cases q:H p8 with
   | none=>rfl
   | some v=>let z:=q;rw[show H7 p8=some v from k7 _ _ (k6 _ _ (k5 _ _ (k4 _ _ (k3 _ _ (k2 _ _ (k1 _ _ z e8) e8) e8) e8) e8) e8) e8] at n8;cases n8
  let d14:p1≠p4:=λz=>by let h:=k3 _ _ (k2 _ _ (q1) e1) e1;rw[z,n4] at h;cases h
  let d18:p1≠p8:=λz=>by let h:=k7 _ _ (k6 _ _ (k5 _ _ (k4 _ _ (k3 _ _ (k2 _ _ (q1) e1) e1) e1) e1) e1) e1;rw[z,n8] at h;cases h
  let d48:p4≠p8:=λz=>by let h:=k7 _ _ (k6 _ _ (k5 _ _ (q4) e4) e4) e4;rw[z,n8] at h;cases h
  let d23:p2≠p3:=λz=>by let h:=q2;rw[z,n3] at h;cases h
  let d26:p2≠p6:=λz=>by let h:=k5 _ _ (k4 _ _ (k3 _ _ (q2) e2) e2) e2;rw[z,n6] at h;cases h
  let d36:p3≠p6:=λz=>by let h:=k5 _ _ (k4 _ _ (q3) e3) e3;rw[z,n6] at h;cases h
  refine kk H9 {dx,p1,p2,p3,p4,p6,p7,p8,[],[]} {{.bT,.bT,a9,eB,eB},g1,{[],g2,du},{[],g3,du},{[],g4,du},{(g6),rfl},{(g7),rfl},{[],g8,du},?_,?_} kH λx hx=>?_
  ·show [p1,p4,p8].Nodup
   simp[d14,d18,d48]
  ·show [p2,p3,p6].Nodup
   simp[d23,d26,d36]
  ·let hx':x∈[a,p1,p2,p3,p4,p6,p7,p8]:=by simpa[own] using hx
   simp only[zF,zG,yV] at hx';rcases hx' with rfl | rfl | rfl | rfl | rfl | rfl | rfl | rfl
   ·exact .inl rfl
   ·exact .inr f1
   ·exact .inr f2
   ·exact .inr f3
   ·exact .inr f4
   ·exact .inr f6
   ·exact .inr f7
   ·exact .inr f8
inductive RT:List Str->List Told->Prop where
 | nil:RT [] []
 | blank {r:Str} {rs:List Str} {ts:List Told}:⇑r<=1000000->words r=[]->RT rs ts->RT (r::rs) ts
 | row {r:Str} {t:Told} {rs:List Str} {ts:List Told}:⇑r<=1000000->words r=aR t->Sx t->⇑(aR t)<=1000000->(∀y∈aR t,⇑y<=600)->RT rs ts->RT (r::rs) (t::ts)
def Runs:cq->List Told->cq->Prop
 | S,[],S'=>S=S'
 | S,t::r,S'=>b9 S t=none/\Uv S t/\qO S/\uI S/\Runs (bU S t) r S'
def MK (t:Told):∃ws,aR t=pM t::ws:=by cases t <;> exact{_,rfl}
inductive C9 (C:vD) (vs:List V) (H:Hp) (Q:VK) (E:XK):Prop
 | mk (t:Str) (ts:List Told) (S:cq) (_:vs=[.str t]) (_:⇑t+2<=sizeLine) (_:RT (Txt.split t "\n") ts) (_:Runs {} ts S) (_:∀a o H',bY C H' a S o->aG H H'->(∀x∈own a o,H x=none)->Q (.ref a) H')
theorem ME {H0 H H':Hp} {v:V} (s:aG H H'):∀{t:Option Told},gN H0 H v t->gN H0 H' v t
 | none,h=>h
 | some (.bS _),h=>h
 | some (.cR _ _ _),h=>Is.mono s h
 | some (.cD _ _),h=>Is.mono s h
 | some (.bar _),h=>Is.mono s h
 | some (.aL _),h=>Is.mono s h
 | some (.holds _ _ _),h=>Is.mono s h
 | some (.aN _ _ _),⟨a,q,vs,h1,h2,h3,h4,h5⟩=>{a,q,vs,h1,s _ _ h2,s _ _ h3,h4.mono s,h5}
 | some (.rep _),h=>Is.mono s h
 | some (.cm _),h=>Is.mono s h
def DI (B:Dk P w K T) (F:Cf K T.mh):di P w base 8 T.pX (C9 T.mh):=by
 nomatch T.pX,["text","score","place","row","words","told","word"]
 let⟨t,ts,S,rfl,tl,rt,run,kk⟩:=h;let sl:=yC;refine{_,(ag (bO 1 qN (Pa T.R0 (DO T F) (hr.mono ∅) rfl T.QK T.C3.b .nil L3))
  (ag (cy yP rfl (rH (by rfl) T.hJ (ah (bZ yG yK yJ jC (pv 0) (ah aK af)) af)) (d6 (n:=2) rfl (aQ (jg 2 qN) (aQ (jg 3 qN) dr)))
  (ag (bO 4 qN (bQ (Iw T) hr T.words_of (ah (pv 3) af)))
   (ak (aM (ptr fE (d7 aH T.bP (ah (pv 4) af)) ae)
   (ag (bO 5 qN (bQ (Iz T B) hr T.BC (ah (pv 4) af)))
    (ag (bO 6 qN (bQ (ID T B F) hr T.Cb (ah (pv 1) (ah (fB (pv 4) ae) (ah (pv 5) af)))))
    (ag (aM (bH (fh (pv 6)))
    (ak O4)
    aC)
    (ak (bu (bQ (KJ T F) hr T.G0 (ah (pv 1) (ah (fB (pv 4) ae) (ah (pv 5) af)))))))))
   aC))))
  (ak (au (pv 1))))),?_}
 ac_rfl;intro a dx na ndx ne;refine{a,dx,rfl,aF,λH1 o sc1 k1 fr1=>{rfl,?_}};let s1:aG H H1:=λb u hb=>k1 b u (by rw[aE (λz=>by rw[z,na] at hb;cases hb),aE (λz=>by rw[z,ndx] at hb;cases hb)];exact hb) (λz=>by rw[z,na] at hb;cases hb);let f1:∀x∈own a o,H x=none:=λx hx=>by
  rcases fr1 x hx with z | z
  ·rw[z];exact na
  ·cases q:H x with
   | none=>rfl
   | some u=>
    rw[aE (λy=>by rw[y,na] at q;cases q),aE (λy=>by rw[y,ndx] at q;cases q),q] at z;cases z
 exists tl,λl nl=>?_;let s2:aG H1 (upd H1 l (.lst ((Txt.split t "\n").map V.str))):=bz nl;let h2:upd H1 l (.lst ((Txt.split t "\n").map V.str)) l=some (.lst ((Txt.split t "\n").map V.str)):=aF;generalize upd H1 l (.lst ((Txt.split t "\n").map V.str))=H2 at s2 h2 ⊢;generalize hrows:Txt.split t "\n"= rows at rt h2;exists l,_,rfl,ao h2,?_;refine oh (K:=K) (a:=l) (xs:=rows.map V.str) (λi U H'=>∃ts' S' o',RT (rows.drop i) ts'/\Runs S' ts' S/\bY T.mh H' a S' o'/\H' l=some (.lst (rows.map V.str))/\l∉own a o'/\aG H H'/\(∀x∈own a o',H x=none)/\∃u2 u3 u4 u5 u6,U=[some (.str t),some (.ref a),u2,u3,u4,u5,u6])
  {ts,{},o,rt,run,sc1.mono s2,h2,F3 sc1 nl,s1.trans s2,f1,none,none,none,none,none,rfl} (λi U H' _ h=>by let⟨_,_,_,_,_,_,h,_⟩:=h;exact ao h) ?_ ?_
 ·intro i x U H3 p H4 hx hh s34 hp4
  refine cT λN kN0 kR0 _ _=>?_;let⟨ts',S',o',rt',run',sc3,hl3,nl3,s3,f3,u2,u3,u4,u5,u6,rfl⟩:=hh;rw[zM] at hx;cases qr:rows[i]? with
  | none=>rw[qr] at hx;cases hx
  | some r=>
  rw[qr] at hx;simp only[xn,xN] at hx;subst hx;let ed:rows.drop i=r::rows.drop (i+1):=by
   let hi:=(zB.mp qr).1;rw[List.drop_eq_getElem_cons hi];have:=(zB.mp qr).2;rw[this]
  rw[ed] at rt';let s4:=s3.trans s34;let sc4:=sc3.mono s34;cases rt' with
  | blank rl rw0 rt''=>
   refine{p,_,rfl,bC hp4,rfl,?_};refine{_,_,rfl,{_,_,rfl,{rfl,?_}}};exists rl,λp5 H5 s5 h5=>?_;rw[rw0] at h5;exists p5,_,rfl,.inl (ao h5),?_;left;let s05:=s4.trans s5;exact{ts',S',o',rt'',run',sc4.mono s5,s5 _ _ (s34 _ _ hl3),nl3,s05,f3,_,_,_,_,_,rfl}
  | row rl rw0 tok wl ws6 rt''=>
   rename_i t' ts'';let⟨fn,fit,hd,sz,run''⟩:=run';let⟨ws,ew⟩:=MK t';refine{p,_,rfl,bC hp4,rfl,?_};refine{_,_,rfl,{_,_,rfl,{rfl,?_}}};exists rl,λp5 H5 s5 h5=>?_;rw[rw0] at h5;let h5':=h5;rw[ew] at h5;let sc5:=sc4.mono s5;let hl5:=s5 _ _ (s34 _ _ hl3);exists p5,_,rfl,.inl (ao h5),?_;rw[za,zy];left;refine bW (zg ()) ?_;left;let wl':⇑ws<=999999:=by rw[ew,zy] at wl;ext
   refine{p5,pM t',ws,rfl,ao h5,wl',by rw[<-ew];exact ws6,λv H6 s6 tv=>?_};rw[<-ew,Ky tok] at tv;let sc6:=sc5.mono s6;exists p5,_,0,_,rfl,rfl,ao (s6 _ _ h5),bx (j:=0) rfl,?_;exists a,S',o',pM t',v,H5,some t',rfl,sc6,tv,λt2 e2=>by cases e2;exact{(rfl),fit},λH7 s7=>?_
   rw[show P0 S' (some t')=b9 S' t' from rfl,fn];exists p5,_,0,_,rfl,rfl,ao (s7 _ _ (s6 _ _ h5)),bx (j:=0) rfl,?_;exists a,S',o',v,H5,t',rfl,sc5,s6.trans s7,ME s7 tv,fn,hd,sz,λH8 o8 sc8 el8 fr8=>?_;let s07:=((s4.trans s5).trans s6).trans s7;left;refine{ts'',bU S' t',o8,rt'',run'',sc8,el8 _ _ nl3 (s7 _ _ (s6 _ _ hl5)),λz=>?_,λb u hb=>el8 _ _ (λz=>by rw[f3 b z] at hb;cases hb) (s07 _ _ hb),λx hx=>?_,_,_,_,_,_,rfl}
   ·rcases fr8 l z with y | y
    ·exact nl3 y
    ·rw[hl5] at y;cases y
   ·rcases fr8 x hx with y | y
    ·exact f3 x y
    ·exact(s4.trans s5).back y
 ·rintro U H3 ⟨ts',S',o',rt',run',sc3,hl3,nl3,s3,f3,u2,u3,u4,u5,u6,rfl⟩
  rw[za,List.drop_length] at rt';cases rt';let es:S'=S:=run';subst es;change kk a o' H3 sc3 s3 f3
def QA (S:cq) (b:Int):Prop:=0<=b/\b<⇑S.aO
inductive vQ (C N:vD) (vs:List V) (H:Hp) (Q:VK) (E:XK):Prop
 | mk (a:vD) (S:cq) (o:Ow) (n:Str) (_:vs=[.ref a,.str n]) (_:bY C H a S o) (_:(n∈S.az->Q .bT H)) (_:(n∉S.az->E (.ref N) none H))
def vX:dY ["score","player"] ["score","player"] (aT nN):=QF
def mR {C:vD} (F:Cf K C):dy P w K mg base (qT P w) 1 T.ox T.om ["score","player"] (vQ C T.cb):=by
 refine T.md.F.UG vX (λvs H Q E h=>?_) (λcdv A' outer s H vs Q E hr h=>?_)
 ·let⟨_,_,_,_,rfl,_⟩:=h;rfl
 ·let⟨a,S,o,n,rfl,sc,k1,k2⟩:=h
  let⟨ub,jm,ho,hub,hjm⟩:=sc.obj;refine{_,(ak (aM (gd d8 (pv 1) (bI (pv 0) rfl) (by with_unfolding_all rfl))
   (ak (rF T.K3 T.Kz PySem.F.excBase_ValueError rfl (ah aK af)))
   aC)),?_}
  ac_rfl;exists a,C,o.dx,_,_,rfl,ho,F.cls,F.az,rfl,?_;refine{o.pl,_,rfl,.inl (ao sc.pl),rfl,fS _,?_};show∃k,V.bl (!Gp (.str n) (S.az.map V.str))=.bl k/\_;rw[ia]
  by_cases c:n∈S.az
  ·rw[zg c]
   change k1 c
  ·rw[ze c]
   change{∅,k2 c}
inductive FF (C N:vD) (vs:List V) (H:Hp) (Q:VK) (E:XK):Prop
 | mk (a:vD) (S:cq) (o:Ow) (b:Int) (_:vs=[.ref a,.int b]) (_:bY C H a S o) (_:(QA S b->Q .bT H)) (_:(¬QA S b->E (.ref N) none H))
def FH:dY ["score","bar"] ["score","bar"] (aT uO):=QF
def rO {C:vD} (F:Cf K C):dy P w K mg base (qT P w) 1 T.vG T.uZ ["score","bar"] (FF C T.dP):=by
 refine T.uB.F.UG FH (λvs H Q E h=>?_) (λcdv A' outer s H vs Q E hr h=>?_)
 ·let⟨_,_,_,_,rfl,_⟩:=h;rfl
 ·let⟨a,S,o,b,rfl,sc,k1,k2⟩:=h
  let⟨ub,jm,ho,hub,hjm⟩:=sc.obj;let⟨vs,hv,il⟩:=sc.ba;refine{_,(ak (aM (PW.pt (d4 (ptr eX (pv 1) ae) (dq (ptr EO (pv 1) (d7 aH T.bP (ah (bI (pv 0) rfl) af))))))
   (ak (rF T.RH T.Ra PySem.F.excBase_ValueError rfl (ah aK af)))
   aC)),?_}
  ac_rfl;left
  by_cases c0:b<0
  ·refine bW (zg c0) ?_
   change{∅,k2 λz=>by have:=z.1;ext}
  refine bX (ze c0) ?_;exists a,C,o.dx,_,_,rfl,ho,F.cls,F.aO,rfl,?_;exists o.ba,vs,rfl,.inl (ao hv),?_;rw[aS il];left
  by_cases c1:(⇑S.aO:Int)<=b
  ·refine bW (zg c1) ?_
   change{∅,k2 λz=>by have:=z.2;ext}
  refine bX (ze c1) ?_;change k1 {(()),()}
inductive Dd (C N:vD) (vs:List V) (H:Hp) (Q:VK) (E:XK):Prop
 | mk (a:vD) (S:cq) (o:Ow) (b:Int) (_:vs=[.ref a,.int b]) (_:bY C H a S o) (_:(∀x∈S.aO,C4 x)) (_:(QA S b->∀p H',aG H H'->Q (.ref p) H')) (_:(¬QA S b->E (.ref N) none H))
def Dn:dY ["score","bar"] ["score","bar"] (aT ra):=QF
def DN {C:vD} (F:Cf K C):dy P w K mg base (qT P w) 5 T.sH T.so ["score","bar"] (Dd C T.dP):=by
 refine T.CJ.F.UG Dn (λvs H Q E h=>?_) (λcdv A' outer s H vs Q E hr h=>?_)
 ·let⟨_,_,_,_,rfl,_⟩:=h;rfl
 ·let⟨a,S,o,b,rfl,sc,bo,k1,k2⟩:=h
  refine{_,(ag (bu (Sj (rO T F) hr T.uB LZ (ah (pv 0) (ah (pv 1) af))))
   (ak (au (bQ (jA T F) hr T.gX (ah (pv 0) (ah (pv 1) af)))))),?_}
  ac_rfl;left;refine{a,S,o,b,rfl,sc,λhb=>?_,k2};let⟨j,rfl⟩:=yL hb.1;change{a,S,o,j,rfl,sc,by have:=hb.2;ext,bo,λp H' s' _=>k1 hb p H' s'}
def kX (b:Int) (r:Option Str) (h:Int×Str):Option Str:=if h.1<=b then some h.2 else r
def uf (S:cq) (n:Str) (b:Int):Option Str:=((S.holds.lookup n).getD []).foldl (kX b) none
inductive sU (C N B:vD) (vs:List V) (H:Hp) (Q:VK) (E:XK):Prop
 | mk (a:vD) (S:cq) (o:Ow) (n:Str) (b:Int) (_:vs=[.ref a,.str n,.int b]) (_:bY C H a S o) (_:(n∈S.az->QA S b->∀H',aG H H'->Q (os (uf S n b)) H')) (_:(n∉S.az->E (.ref N) none H)) (_:(n∈S.az->¬QA S b->E (.ref B) none H))
def fe:dY ["score","player","bar","instrument","hold"] ["score","player","bar"] (aT mG):=QF
def kR {C:vD} (F:Cf K C):dy P w K mg base (qT P w) 2 T.m7 T.mY ["score","player","bar"] (sU C T.cb T.dP):=by
 refine T.ky.F.UG fe (λvs H Q E h=>?_) (λcdv A' outer s H vs Q E hr h=>?_)
 ·let⟨_,_,_,_,_,rfl,_⟩:=h;rfl
 ·let⟨a,S,o,n,b,rfl,sc,k0,k1,k2⟩:=h
  let sl:=yC;let⟨ub,jm,ho,hub,hjm⟩:=sc.obj;refine{_,(ag (bu (Sj (mR T F) hr T.md LZ (ah (pv 0) (ah (pv 1) af))))
   (ag (bu (Sj (rO T F) hr T.uB LZ (ah (pv 0) (ah (pv 2) af))))
   (ag (bO 3 fe.nd aW)
   (ag (cy PassesOwn.leaving rfl (bB (rK (fR hr) (bI (pv 0) rfl) (pv 1) (bq af) {(rfl),rfl,rfl,rfl})) (jg 4 fe.nd)
   (ak (aM (ptr fQ (bJ (pv 4) ae) (pv 2))
    (ak (bO 3 fe.nd (bJ (pv 4) ae)))
    aC)))
   (ak (au (pv 3))))))),?_}
  ac_rfl;left;refine{a,S,o,n,rfl,sc,λhn=>?_,k1};left;refine{a,S,o,b,rfl,sc,λhb=>?_,k2 hn};let kk:=k0 hn hb;clear k0 k1 k2;exists a,C,o.dx,_,_,rfl,ho,F.cls,F.holds,rfl,?_;refine{o.ho,rfl,.inl {_,.inl sc.ho.1},?_};exists by show 0<=sizeLine;ext,?_
  intros p2 H2 s2 h2;refine{_,.inl {_,kS n,.inl (s2 _ _ sc.ho.1),rfl,rfl},?_};obtain⟨h,vs,l,eh,hh,ilh,el⟩:∃h vs l,(cI ((S.holds.map λx=>kS x.1).zip (o.hs.map V.ref)) (kS n)).getD (.ref p2)=.ref h/\H2 h=some (.lst vs)/\aD H2 (l.map Le) vs/\(S.holds.lookup n).getD []=l:=by
   rcases ug (H:=H) n sc.ho.2 with⟨e1,e2⟩ | ⟨l,h,vs,e1,e2,hh,il⟩
   ·exact{p2,[],[],by rw[e2];rfl,h2,by unfold aD;rfl,by rw[e1];rfl}
   ·exact{h,vs,l,by rw[e2];rfl,s2 _ _ hh,il.mono s2,by rw[e1];rfl}
  unfold uf at kk;rw[el] at kk;rw[eh];exists{_,ao hh},?_;refine dG (K:=K) (a:=h) (xs:=vs) (λi U H'=>H'=H2/\∃v,U=[some (.ref a),some (.str n),some (.int b),some (Sc.os ((l.take i).foldl (kX b) none)),v]) {(rfl),none,rfl} (λi U H' _ h=>by rw[h.1];exact ao hh) ?_ ?_
  ·rintro i x U H3 hx ⟨rfl,v,rfl⟩
   let⟨d,hd,id⟩:=cV ilh hx;let⟨a3,rfl,h3⟩:=Sr id;let e:(l.take (i+1)).foldl (kX b) none=kX b ((l.take i).foldl (kX b) none) d:=by rw[dm hd,z9];rfl
   rw[e];left
   by_cases c:d.1<=b
   ·refine bW (zg c) ?_
    rw[show kX b ((l.take i).foldl (kX b) none) d=some d.2 from yO c];change{_,rfl}
   ·refine bX (ze c) ?_
    rw[show kX b ((l.take i).foldl (kX b) none) d=(l.take i).foldl (kX b) none from yN c];change{_,rfl}
  ·rintro U H3 ⟨rfl,v,rfl⟩
   rw[aS ilh,zP];change kk _ s2
inductive vR (vs:List V) (H:Hp) (Q:VK) (E:XK):Prop
 | mk (v:V) (r:Rep) (n:Int) (_:vs=[v,.int n]) (_:Is H (ig r) v) (_:Uw r) (_:∀D bs H',aG H H'->H D=none->H' D=some (.lst (bs.map V.int))->lA r.first r.last 240 bs->Q (.ref D) H')
def mS:di P w base 2 T.iX vR:=by
 nomatch T.iX,["repeat","number","ends","bars","end"]
 let⟨v,r,n,rfl,iv,rd,kk⟩:=h;let sl:=yC;let⟨a,e,rfl,ha,he⟩:=eN iv;let⟨en,er⟩:=P7 rd;let⟨r1,r2,r3,r4,r5,r6,r7⟩:=rd;refine{_,(ag (bO 2 qN (bQ (BS T) hr T.AX (ah (pv 0) af)))
  (ag (aM (ptr c9 (d7 aH T.bP (ah (pv 2) af)) ae)
  (ak (au (rJ rfl (by rfl) T.qt (by rfl) T.de (ah (bJ (pv 0) ae) (ah (aB bf (bJ (pv 0) ae) ae) af)))))
  aC)
  (ag (bO 3 qN (rJ rfl (by rfl) T.qt (by rfl) T.de (ah (bJ (pv 0) ae) (ah (bJ (fB (pv 2) ae) ae) af))))
  (ag (cy yP rfl (bB (pv 2)) (jg 4 qN)
  (ak (aM (gd jh (pv 1) (bJ (pv 4) ae) (by with_unfolding_all rfl))
   (ak (bu (bZ yD y9 y8 jD (pv 3) (ah (rJ rfl (by rfl) T.qt (by rfl) T.de (ah (bJ (pv 4) ae) (ah (aB bf (bJ (pv 4) ae) ae) af))) af))))
   aC)))
  (ak (au (pv 3))))))),?_}
 ac_rfl;exists _,r,rfl,iv,(),λp us H1 s1 h1 il=>?_;let ul:=aS il;let ha1:=s1 _ _ ha;exists p,us,rfl,.inl (ao h1),?_;rw[ul];left
 by_cases c0:⇑(fK r)=0
 ·refine bW (by rw[c0];rfl) ?_
  exists _,_,rfl,{(()),(),(),()},(),λl nl=>?_;exact kk l _ _ (s1.trans (bz nl)) (s1.back nl) aF (Kv () () ())
 ·refine bX (ze λz=>c0 (by have:=V.int.inj z;ext)) ?_
  let u0:us[0]?=some (us[0]'()):=zd ();let⟨t,ht,it⟩:=cV il u0;let⟨a0,q0,e0,h0,_⟩:=Kc it;rw[e0] at u0;let⟨⟨t1,t2⟩,t3,t4⟩:=er t (zE ht);exists p,us,0,_,rfl,rfl,ao h1,bx u0,?_;exists _,_,rfl,{(()),(),(),()},(),λD nD=>?_;let s2:aG H1 (upd H1 D (.lst ((pV r.first (t.1-r.first).toNat).map V.int))):=bz nD;let h2:upd H1 D (.lst ((pV r.first (t.1-r.first).toNat).map V.int)) D=some (.lst ((pV r.first (t.1-r.first).toNat).map V.int)):=aF;generalize upd H1 D _=H2 at s2 h2 ⊢;exists{_,ao (s2 _ _ h1)},?_;refine dG (K:=K) (a:=p) (xs:=us) (λi U H'=>∃(bs:List Int) (w4:Option V),aG H1 H'/\H' D=some (.lst (bs.map V.int))/\lA r.first r.last (24*(i+1)) bs/\U=[some (.ref a),some (.int n),some (.ref p),some (.ref D),w4]) {_,none,s2,h2,Kv () () (),rfl} (λi U H' _ h=>by let⟨_,_,s,_⟩:=h;exact ao (s _ _ h1)) ?_ ?_
  ·intro i x U H3 hx hh
   refine cT λN kN0 kR0 _ _=>?_;let⟨bs,w4,s3,h3,bi,rfl⟩:=hh;let hi:=(zB.mp hx).1;let⟨y,hy,iy⟩:=cV il hx;let⟨ay,qy,rfl,hay,hqy⟩:=Kc iy;let⟨⟨y1,y2⟩,y3,y4⟩:=er y (zE hy);let hay3:=s3 _ _ hay;exists qy,_,rfl,.inr (bC (s3 _ _ hqy)),rfl,uh _,?_;refine{_,rfl,?_};generalize (if false=true then _ else _:Bool)=c;cases c with
   | true=>
    refine bW rfl ?_;exists .inl {rfl,_,ao h3},?_;exists _,_,rfl,{(()),(),(),()},(),λl nl=>?_;let s4:aG H3 (upd H3 l (.lst ((pV y.1 (y.2.1+1-y.1).toNat).map V.int))):=bz nl;let h4:upd H3 l (.lst ((pV y.1 (y.2.1+1-y.1).toNat).map V.int)) l=some (.lst ((pV y.1 (y.2.1+1-y.1).toNat).map V.int)):=aF;generalize upd H3 l _=H4 at s4 h4 ⊢;let b2:lA r.first r.last 24 (pV y.1 (y.2.1+1-y.1).toNat):=Kv () () ();let l1:=bi.1;let l2:=b2.1;refine .inl {D,l,_,_,rfl,rfl,s4 _ _ h3,h4,by rw[za,za];ext,?_};change{_,_,bN nD (s3.trans s4),by rw[aF,<-zk],(bi.app b2).mono (yR _) (yR _) (),rfl}
   | false=>
    refine bX (by simp) ?_;change{_,_,s3,h3,bi.mono (yR _) (yR _) (),rfl}
  ·rintro U H3 ⟨bs,w4,s3,h3,bi,rfl⟩
   change kk D bs _ (s1.trans s3) (s1.back nD) h3 (bi.mono (yR _) (yR _) ())
inductive qW (vs:List V) (H:Hp) (Q:VK) (E:XK):Prop
 | mk (v:V) (r:Rep) (c:Bool) (_:vs=[v,.bl c]) (_:Is H (ig r) v) (_:Uw r) (_:∀D bs H',aG H H'->H D=none->H' D=some (.lst (bs.map V.int))->lA r.first r.last 2160 bs->Q (.ref D) H')
def rP:di P w base 3 T.jI qW:=by
 nomatch T.jI,["repeat","once","times","bars","number"]
 let⟨v,r,c,rfl,iv,rd,kk⟩:=h;let sl:=yC;let⟨a,e,rfl,ha,he⟩:=eN iv;let r5:=rd.2.2.2.2.1;let r4:=rd.2.2.2.1;refine{_,(ag (bO 2 qN (bJ (pv 0) ae))
  (ag (aM (cP (pv 1))
  (ak (au (bQ (mS T) hr T.iX (ah (pv 0) (ah (pv 2) af)))))
  aC)
  (ag (bO 3 qN (bq af))
  (ag (cy yP rfl (tM (by rfl) T.de (ah ae (ah (aB bf (pv 2) ae) af))) (jg 4 qN)
  (ak (bu (bZ yD y9 y8 jD (pv 3) (ah (bQ (mS T) hr T.iX (ah (pv 0) (ah (pv 4) af))) af)))))
  (ak (au (pv 3))))))),?_}
 ac_rfl;left;cases c with
 | true=>
  refine bW rfl ?_;change{_,r,_,rfl,iv,rd,λD bs H' s' n' h' b'=>kk D bs H' s' n' h' (b'.mono (yR _) (yR _) ∅)}
 | false=>
  refine bX (by simp) ?_;left
  intros D nD s1 h1 H1
  exists _,_,rfl,{(()),(),(),()},?_;refine gH (λi U H'=>∃(bs:List Int) (w4:Option V),aG H H'/\H' D=some (.lst (bs.map V.int))/\lA r.first r.last (240*i) bs/\U=[some (.ref a),some (.bl false),some (.int r.times),some (.ref D),w4]) {[],none,s1,h1,{zm _,by simp},rfl} ?_ ?_
  ·intro i U H2 hi hh
   refine cT λN kN0 kR0 _ _=>?_;let⟨bs,w4,s2,h2,bi,rfl⟩:=hh;exists .inl {rfl,_,ao h2},?_;exists _,r,_,rfl,iv.mono s2,rd,λD3 cs H3 s3 n3 h3 b3=>?_;let l1:=bi.1;let l2:=b3.1;refine .inl {D,D3,_,_,rfl,rfl,s3 _ _ h2,h3,by rw[za,za];ext,?_};change{_,_,bN nD (s2.trans s3),by rw[aF,<-zk],(bi.app b3).mono (yR _) (yR _) (),rfl}
  ·rintro U H2 ⟨bs,w4,s2,h2,bi,rfl⟩
   change kk D bs _ s2 nD h2 (bi.mono (yR _) (yR _) ())
def V2 (S:cq) (H:Hp) (kvs:List (Key×V)):Prop:=∀(k:Int) v,cI kvs (.inl k)=some v->∃r∈S.aJ,r.first=k/\Is H (ig r) v
def V2.put {S:cq} {H:Hp} {kvs:List (Key×V)} {r:Rep} {v:V} (h:V2 S H kvs) (hr:r∈S.aJ) (iv:Is H (ig r) v):V2 S H (putK kvs (.inl r.first) v):=by
 intro k u hu;rw[A2] at hu;split at hu
 ·rename_i e
  cases hu;exact{r,hr,(Sum.inl.inj e).symm,iv}
 ·exact h k u hu
inductive MI (C:vD) (vs:List V) (H:Hp) (Q:VK) (E:XK):Prop
 | mk (a:vD) (S:cq) (o:Ow) (f l:Int) (c:Bool) (_:vs=[.ref a,.int f,.int l,.bl c]) (_:bY C H a S o) (_:(∀r∈S.aJ,Uw r)) (_:⇑S.aJ<=1000) (_:0<=f) (_:f<=24) (_:l<24) (_:∀D bs H',aG H H'->H D=none->H' D=some (.lst (bs.map V.int))->lA 0 l 52800 bs->Q (.ref D) H')
def oK {C:vD} (F:Cf K C):di P w base 4 T.walked (MI C):=by
 nomatch T.walked,["score","first","last","once","beginning","repeat","bars","bar"]
 let⟨a,S,o,f,l,c,rfl,sc,rd,rl,f0,f2,l2,kk⟩:=h;let sl:=yC;let⟨ub,jm,ho,hub,hjm⟩:=sc.obj;let⟨rv,hre,ilr⟩:=sc.re;let rvl:=aS ilr;refine{_,(ag (bO 4 qN nU)
  (ag (cy yP rfl (bB (bI (pv 0) rfl)) (jg 5 qN)
  (ak (oH (fR hr) (pv 4) (bJ (pv 5) ae) (pv 5) rfl)))
  (ag (bO 6 qN (bq af))
  (ag (bO 7 qN (pv 1))
  (ag (nS yP (ptr fQ (pv 7) (pv 2))
  (ak (aM (bH (F2 (fR hr) (pv 7) (pv 4)))
   (ag (bO 5 qN (AR (fR hr) (pv 4) (pv 7) (λ_ _=>rfl)))
    (ag (bu (bZ yD y9 y8 jD (pv 6) (ah (oJ (ts:=["taken"]) (ys:=["last"]) (js:=[2]) (g:=(cw 0)) (tc:=(o6 (fW (qP λi j=>.bl (decide (i<=j))) (bj 0) (bj 1)))) (te:=(bj 0)) (bB (bQ (rP T) hr T.jI (ah (pv 5) (ah (pv 3) af)))) (gO 0) (iQ (ptr fQ (pv 0) (pv 1))) (pv 0)) af)))
    (ak (bO 7 qN (aB bf (bJ (pv 5) ae) ae)))))
   (ag (bu (bZ yD yF yE bF (pv 6) (ah (pv 7) af)))
    (ak (bO 7 qN (aB bf (pv 7) ae)))))))
  (ak (au (pv 6)))))))),?_}
 ac_rfl;left
 intros d nd s1 hd H1
 exists a,C,o.dx,_,_,rfl,s1 _ _ ho,F.cls,F.aJ,rfl,?_;exists{_,ao (s1 _ _ hre)},?_;refine dG (K:=K) (a:=o.re) (xs:=rv) (λi U H'=>∃(kvs:List (Key×V)) (w5:Option V),aG H H'/\H' d=some (.dK kvs)/\⇑kvs<=i/\V2 S H kvs/\U=[some (.ref a),some (.int f),some (.int l),some (.bl c),some (.ref d),w5,none,none]) {[],none,s1,hd,zm _,(λ_ _ z=>by rw[Hr] at z;cases z),rfl} (λi U H' _ h=>by let⟨_,_,s,_⟩:=h;exact ao (s _ _ hre)) ?_ ?_
 ·intro i x U H2 hx hh
  refine cT λN kN0 kR0 _ _=>?_;let⟨kvs,w5,s2,hk,kl,bg,rfl⟩:=hh;let⟨r,hr',ir⟩:=cV ilr hx;let hi:=(zB.mp hx).1;let⟨ar,er,rfl,har,_⟩:=eN ir;let har2:=s2 _ _ har;let pl:=jZ kvs (.inl r.first) (.ref ar);exists d,_,rfl,.inl {_,.inl r.first,hk,rfl,(),rfl},?_;change{_,_,bN nd s2,aF,(),bg.put (zE hr') ir,rfl}
 ·rintro U H2 ⟨kvs,w5,s2,hk,kl,bg,rfl⟩
  left
  intros B nB s3 hB H3
  left;refine Ex (λm U H'=>∃(b:Int) (bs:List Int) (w5:Option V),m=(24-b).toNat/\0<=b/\b<=24/\U=[some (.ref a),some (.int f),some (.int l),some (.bl c),some (.ref d),w5,some (.ref B),some (.int b)]/\aG H2 H'/\H' B=some (.lst (bs.map V.int))/\lA 0 l (2200*b.toNat) bs)
   (λU H'=>∃(bs:List Int) (w5 w7:Option V),U=[some (.ref a),some (.int f),some (.int l),some (.bl c),some (.ref d),w5,some (.ref B),w7]/\aG H2 H'/\H' B=some (.lst (bs.map V.int))/\lA 0 l 52800 bs)
   {_,f,[],w5,rfl,f0,f2,rfl,s3,hB,{yh _,by simp}} ?_ ?_
  ·rintro m U H4 ⟨b,bs,w5,rfl,b0,b2,rfl,s4,h4,bi⟩ N hN
   let l1:=bi.1;let hk4:=s4 _ _ hk;left
   by_cases c1:b<=l
   ·refine bW (zg c1) ?_
    refine{λU H'=>∃(b':Int) (bs:List Int) (w5:Option V),b<b'/\b'<=24/\U=[some (.ref a),some (.int f),some (.int l),some (.bl c),some (.ref d),w5,some (.ref B),some (.int b')]/\aG H2 H'/\H' B=some (.lst (bs.map V.int))/\lA 0 l (2200*b'.toNat) bs,?_,?_}
    ·rintro U' H' ⟨b',bs,w5,z1,z2,rfl,z3,z4,z5⟩
     exact{_,(),b',bs,w5,rfl,(),z2,rfl,z3,z4,z5}
    ·left
     refine{d,_,rfl,.inl {kvs,.inl b,.inl hk4,rfl,rfl},?_};refine{_,rfl,?_};cases gv:cI kvs (.inl b) with
     | none=>
      refine bX (by simp) ?_;exists .inl {rfl,_,ao h4},?_;exists B,_,_,rfl,rfl,h4,by rw[za];ext,?_
      change{b+1,bs++[b],_,(),(),rfl,bN nB s4,by rw[aF,zk];rfl,(bi.app (b:=[b]) (m:=1) {zm _,λx hx=>by cases zC.mp hx;exact{(b0),c1}}).mono (yR _) (yR _) ()}
     | some v=>
      let⟨r,hr',rfl,ir⟩:=bg b v gv;let rr:=rd r hr';let⟨r1,r2,r3,_⟩:=id rr;let ir4:=(ir.mono s2).mono s4;let⟨ar,er,rfl,har,_⟩:=eN ir;refine bW rfl ?_;exists d,.ref ar,rfl,.inl {kvs,.inl r.first,.inl hk4,rfl,gv.symm},?_;exists .inl {rfl,_,ao h4},?_;exists _,r,c,rfl,ir4,rr,λD5 cs H5 s5 n5 h5 b5=>?_;let cl:=b5.1;exists{_,ao h5},?_;refine Lg (rest:=[some (.int l)]) (λt=>decide (t<=l)) () (ao h5) {(none),rfl} ?_ ?_
      ·intro t H6 R s6 hR
       change hR _ (aI _)
      intro D6 H6 s6 _ h6;let fb:lA 0 l 2160 (cs.filter λt=>decide (t<=l)):={zO (xj _ _) cl,λx hx=>by
       let⟨x1,x2⟩:=wz.mp hx;exact{Int.le_trans r1 (b5.2 x x1).1,yf x2}}
      generalize cs.filter _=fs at h6 fb;let fl:=fb.1;let s46:=s5.trans s6;refine .inl {B,D6,_,_,rfl,rfl,s46 _ _ h4,h6,by rw[za,za];ext,?_};let s7:aG H2 (upd H6 B (.lst (bs.map V.int++fs.map V.int))):=bN nB (s4.trans s46);let h7:upd H6 B (.lst (bs.map V.int++fs.map V.int)) B=some (.lst ((bs++fs).map V.int)):=by rw[aF,zk]
      generalize upd H6 B _=H7 at s7 h7 ⊢;let har7:=s7 _ _ (s2 _ _ har);change{r.last+1,_,_,(),(),rfl,s7,h7,(bi.app fb).mono (yR _) (yR _) ()}
   ·refine bX (ze c1) ?_
    exact hN _ _ {bs,_,_,rfl,s4,h4,bi.mono (yR _) (yR _) ()}
  ·rintro U H4 ⟨bs,w5,w7,rfl,s4,h4,bi⟩
   change kk B bs _ (s2.trans s4) (s2.back nB) h4 bi
inductive C8 (C:vD) (vs:List V) (H:Hp) (Q:VK) (E:XK):Prop
 | mk (a:vD) (S:cq) (o:Ow) (_:vs=[.ref a]) (_:bY C H a S o) (_:(∀r∈S.aJ,Uw r)) (_:⇑S.aJ<=1000) (_:1<=⇑S.aO) (_:⇑S.aO<=24) (_:(∀j,S.cm=some j->(0<=j.qR/\j.qR<⇑S.aO)/\(0<=j.sN/\j.sN<⇑S.aO)/\(0<=j.cK/\j.cK<⇑S.aO)/\∀c,j.fL=some c->0<=c/\c<⇑S.aO)) (_:∀D bs H',aG H H'->H D=none->H' D=some (.lst (bs.map V.int))->lA 0 ((⇑S.aO:Int)-1) 158400 bs->Q (.ref D) H')
def DG {C:vD} (F:Cf K C):di P w base 5 T.pF (C8 C):=by
 nomatch T.pF,["score","last","jump","bars"]
 let⟨a,S,o,rfl,sc,rd,rl,b1,b2,jk,kk⟩:=h;let sl:=yC;let⟨ub,jm,ho,hub,hjm⟩:=sc.obj;let⟨bv,hba,ilb⟩:=sc.ba;refine{_,(ag (bO 1 qN (aB iC (d7 aH T.bP (ah (bI (pv 0) rfl) af)) ae))
  (ag (bO 2 qN (bI (pv 0) rfl))
  (ag (aM (bH (cJ (pv 2)))
  (ak (au (bQ (oK T F) hr T.walked (ah (pv 0) (ah ae (ah (pv 1) (ah jz af)))))))
  aC)
  (ag (bO 3 qN (aB gh (bQ (oK T F) hr T.walked (ah (pv 0) (ah ae (ah (bJ (pv 2) ae) (ah jz af))))) (bQ (oK T F) hr T.walked (ah (pv 0) (ah (bJ (pv 2) ae) (ah (bJ (pv 2) ae) (ah jz af)))))))
  (ag (aM (bH (fh (bJ (pv 2) ae)))
  (ak (bu (bZ yD y9 y8 jD (pv 3) (ah (bQ (oK T F) hr T.walked (ah (pv 0) (ah (bJ (pv 2) ae) (ah (pv 1) (ah jz af))))) af))))
  aC)
  (ak (au (pv 3)))))))),?_}
 ac_rfl;exists a,C,o.dx,_,_,rfl,ho,F.cls,F.aO,rfl,?_;exists o.ba,bv,rfl,.inl (ao hba),?_;rw[aS ilb];exists a,C,o.dx,_,_,rfl,ho,F.cls,F.cm,rfl,?_;left;cases ej:S.cm with
 | none=>
  rw[ej] at hjm;unfold dO Is at hjm;subst hjm;refine bW rfl ?_;change{a,S,o,0,_,false,rfl,sc,rd,rl,∅,∅,(),λD bs H' s' n' h' b'=>kk D bs H' s' n' h' (b'.mono (yR _) (yR _) ∅)}
 | some j=>
  rw[ej] at hjm;let⟨⟨j1,j2⟩,⟨j3,j4⟩,⟨j5,j6⟩,j7⟩:=jk j ej;let⟨aj,rfl,haj⟩:=rW hjm;refine bX (by simp) ?_;exists a,S,o,0,_,false,rfl,sc,rd,rl,(by decide),(by decide),(),λD1 b1' H1 s1 n1 h1 i1=>?_;let haj1:=s1 _ _ haj;exists a,S,o,_,_,true,rfl,sc.mono s1,rd,rl,(),(),(),λD2 b2' H2 s2 n2 h2 i2=>?_;let l1:=i1.1;let l2:=i2.1;refine{D1,D2,_,_,rfl,rfl,ao (s2 _ _ h1),ao h2,by rw[za,za];ext,?_};let s02:=s1.trans s2;intro D3 nD3;let n3:=s02.back nD3;let s3:aG H2 (upd H2 D3 (.lst (b1'.map V.int++b2'.map V.int))):=bz nD3;let h3:upd H2 D3 (.lst (b1'.map V.int++b2'.map V.int)) D3=some (.lst ((b1'++b2').map V.int)):=by rw[aF,zk]
  generalize upd H2 D3 _=H3 at s3 h3 ⊢;let s03:=s02.trans s3;let haj3:=s03 _ _ haj;let i3:lA 0 ((⇑S.aO:Int)-1) 105600 (b1'++b2'):=(i1.mono (yR _) () (zm _)).app (i2.mono (yR _) () (zm _));let l3:=i3.1;left;cases ec:j.fL with
  | none=>
   refine bX rfl ?_;change kk D3 _ _ s03 n3 h3 (i3.mono (yR _) (yR _) ∅)
  | some cc=>
   rw[ec] at haj3;let⟨k1,k2⟩:=j7 cc ec;refine bW rfl ?_;exists .inl {rfl,_,ao h3},?_;exists a,S,o,_,_,true,rfl,sc.mono s03,rd,rl,(),(),(),λD4 b4 H4 s4 n4 h4 i4=>?_;let l4:=i4.1;refine .inl {D3,D4,_,_,rfl,rfl,s4 _ _ h3,h4,by rw[za,za];ext,?_};change kk D3 _ _ (bN n3 (s03.trans s4)) n3 (by rw[aF,<-zk]) (i3.app i4)
inductive MJ (C:vD) (vs:List V) (H:Hp) (Q:VK) (E:XK):Prop
 | mk (a:vD) (S:cq) (o:Ow) (_:vs=[.ref a]) (_:bY C H a S o) (_:(∀r∈S.aJ,Uw r)) (_:⇑S.aJ<=1000) (_:1<=⇑S.aO) (_:⇑S.aO<=24) (_:(∀j,S.cm=some j->(0<=j.qR/\j.qR<⇑S.aO)/\(0<=j.sN/\j.sN<⇑S.aO)/\(0<=j.cK/\j.cK<⇑S.aO)/\∀c,j.fL=some c->0<=c/\c<⇑S.aO)) (_:(∀x∈S.aO,C4 x)) (_:(∀b,b<⇑S.aO->VI (S.len b))) (_:∀D us bs H',aG H H'->H' D=some (.lst us)->(∀b∈bs,b<⇑S.aO)->⇑bs<=158400->RL (C2 S bs H') (List.range ⇑bs) us->Q (.ref D) H')
def M1 {C:vD} (F:Cf K C):di P w base 6 T.KC (MJ C):=by
 nomatch T.KC,["score","triples","counts","time","bar"]
 let⟨a,S,o,rfl,sc,rd,rl,b1,b2,jk,bo,lo,kk⟩:=h;let sl:=yC;refine{_,(ag (bO 1 qN (bq af))
  (ag (bO 2 qN nU)
  (ag (bO 3 qN (bM (ah ae (ah ae af))))
  (ag (cy yP rfl (bB (bQ (DG T F) hr T.pF (ah (pv 0) af))) (jg 4 qN)
  (ag (oH (fR hr) (pv 2) (pv 4) (aB bf (rK (fR hr) (pv 2) (pv 4) ae {(rfl),rfl,rfl,rfl}) ae) rfl)
   (ag (bu (bZ yD yF yE bF (pv 1) (ah (bM (ah (pv 4) (ah (pv 3) (ah (AR (fR hr) (pv 2) (pv 4) (λ_ _=>rfl)) af)))) af)))
   (ak (bO 3 qN (bQ (BU T) hr T.added (ah (pv 3) (ah (bQ (jA T F) hr T.gX (ah (pv 0) (ah (pv 4) af))) af))))))))
  (ak (au (pv 1))))))),?_}
 ac_rfl;left
 intros D nD s1 hD H1
 left
 intros d nd s2 hd H2
 exists cO,?_;intros t0 H3 s3 h3;let s03:=(s1.trans s2).trans s3;exists a,S,o,rfl,sc.mono s03,rd,rl,b1,b2,jk,λE zs H4 s4 nE hE iz=>?_;let s04:=s03.trans s4;let⟨zl,zin⟩:=iz;generalize gb:zs.map Int.toNat=bs;let bl:⇑bs=⇑zs:=by rw[<-gb,za]
 let zb:∀(i:Nat) (b:Int),zs[i]?=some b->bs[i]?=some b.toNat/\0<=b/\b<⇑S.aO:=λi b hb=>{by rw[<-gb,zM,hb];rfl,by have:=zin b (zE hb);ext}
 let bin:∀b∈bs,b<⇑S.aO:=λb hb=>by
  rw[<-gb] at hb;let⟨z,hz,rfl⟩:=zJ.mp hb;have:=zin z hz;ext
 let tok:=LL lo bin;let nDE:D≠E:=λz=>by rw[<-z,s3 _ _ (s2 _ _ hD)] at nE;cases nE
 let ndE:d≠E:=λz=>by rw[<-z,s3 _ _ hd] at nE;cases nE
 let dD:D≠d:=Sc.bw (s2 _ _ hD) hd (by simp[kindOf]);let nd0:=s1.back nd;exists{_,ao hE},?_;refine dG (K:=K) (a:=E) (xs:=zs.map V.int) (λi U H'=>∃(us:List V) (kvs:List (Key×V)) (q:vD) (w4:Option V),U=[some (.ref a),some (.ref D),some (.ref d),some (.ref q),w4]/\aG H H'/\H' E=some (.lst (zs.map V.int))/\H' D=some (.lst us)/\H' d=some (.dK kvs)/\⇑kvs<=i/\(∀(k:Int) v,cI kvs (.inl k)=some v->∃c,v=.int c)/\H' q=some (fY (HD S (bs.take i)))/\RL (C2 S bs H') (List.range i) us)
  {[],[],t0,none,rfl,s04,hE,s4 _ _ (s3 _ _ (s2 _ _ hD)),s4 _ _ (s3 _ _ hd),zm _,(λ_ _ z=>by rw[Hr] at z;cases z),s4 _ _ h3,rfl} (λi U H' _ h=>by let⟨_,_,_,_,_,_,h,_⟩:=h;exact ao h) ?_ ?_
 ·intro i x U H5 hx hh
  refine cT λN kN0 kR0 _ _=>?_;let⟨us,kvs,q,w4,rfl,s5,hE5,hD5,hd5,kl,kv,hq,rl5⟩:=hh;rw[zM] at hx;cases qr:zs[i]? with
  | none=>rw[qr] at hx;cases hx
  | some z=>
  rw[qr] at hx;simp only[xn,xN] at hx;subst hx;let⟨hb,z0,z1⟩:=zb i z qr;let hi:=(zB.mp qr).1;let ul:=rl5.len;rw[zU] at ul;obtain⟨m,rfl⟩:∃m:Nat,z=(m:Int):={(z.toNat),()}
  rw[xZ] at hb;exists .inl {_,.inl hd5},?_;exists _,.inl {_,.inl (m:Int),.inl hd5,rfl,rfl},?_;obtain⟨c,ec⟩:∃c,(cI kvs (.inl (m:Int))).getD (.int 0)=.int c:=by
   cases g:cI kvs (.inl (m:Int)) with
   | none=>exact{0,rfl}
   | some v=>let⟨c,rfl⟩:=kv _ _ g;exact{(c),rfl}
  rw[ec];let ntd:cN (H5 d):=λ_ z=>by rw[hd5] at z;cases z
  let kv6:∀(k:Int) v,cI (putK kvs (.inl (m:Int)) (.int (c+1))) (.inl k)=some v->∃c,v=.int c:=λk v hv=>by
   rw[A2] at hv;split at hv
   ·cases hv;exact{_,rfl}
   ·exact kv k v hv
  let pl:=jZ kvs (.inl (m:Int)) (.int (c+1));exists d,_,rfl,.inl {_,.inl (m:Int),hd5,rfl,(),rfl},?_;let gm:cI (putK kvs (.inl (m:Int)) (.int (c+1))) (.inl (m:Int))=some (.int (c+1)):=by rw[A2,yO rfl]
  generalize putK kvs (.inl (m:Int)) (.int (c+1))=kv2 at kv6 pl gm ⊢;let s6:aG H (upd H5 d (.dK kv2)):=bN nd0 s5;let hd6:upd H5 d (.dK kv2) d=some (.dK kv2):=aF;let hE6:upd H5 d (.dK kv2) E=some (.lst (zs.map V.int)):=by rw[aE ndE.symm];exact hE5
  let hD6:upd H5 d (.dK kv2) D=some (.lst us):=by rw[aE dD];exact hD5
  let hq6:upd H5 d (.dK kv2) q=some (fY (HD S (bs.take i))):=by rw[aE λe=>ntd _ (e▸hq)];exact hq
  let rl6:RL (C2 S bs (upd H5 d (.dK kv2))) (List.range i) us:=rl5.imp λx v z=>z.upd ntd;generalize upd H5 d (.dK kv2)=H6 at s6 hd6 hE6 hD6 hq6 rl6 ⊢;exists .inl {rfl,_,ao hD6},?_;exists d,.int (c+1),rfl,.inl {_,.inl (m:Int),.inl hd6,rfl,gm.symm},?_;exists by show 3<=sizeLine;ext,?_
  intros p7 H7 s7 h7;let hD7:=s7 _ _ hD6;let ntD:cN (H7 D):=λ_ z=>by rw[hD7] at z;cases z
  refine{D,us,_,rfl,rfl,hD7,(),?_};let s8:aG H (upd H7 D (.lst (us++[.ref p7]))):=bN nD (s6.trans s7);let hD8:upd H7 D (.lst (us++[.ref p7])) D=some (.lst (us++[.ref p7])):=aF;let hE8:upd H7 D (.lst (us++[.ref p7])) E=some (.lst (zs.map V.int)):=by rw[aE nDE.symm];exact s7 _ _ hE6
  let hd8:upd H7 D (.lst (us++[.ref p7])) d=some (.dK kv2):=by rw[aE dD.symm];exact s7 _ _ hd6
  let hq8:upd H7 D (.lst (us++[.ref p7])) q=some (fY (HD S (bs.take i))):=by rw[aE λe=>ntD _ (e▸s7 _ _ hq6)];exact s7 _ _ hq6
  let rl8:RL (C2 S bs (upd H7 D (.lst (us++[.ref p7])))) (List.range (i+1)) (us++[.ref p7]):=by
   rw[List.range_succ];exact RL.snoc (C2.upd ntD {p7,q,c+1,m,rfl,h7,s7 _ _ hq6,hb}) (rl6.imp λx v z=>(z.mono s7).upd ntD)
  generalize upd H7 D (.lst (us++[.ref p7]))=H8 at s8 hD8 hE8 hd8 hq8 rl8 ⊢;exists a,S,o,m,rfl,sc.mono s8,(),bo,λp9 H9 s9 h9=>?_;let ti:=tok i;let⟨⟨t1,t2⟩,t3,t4⟩:=R5 ti ();let⟨⟨y1,y2,y3,y4⟩,_⟩:=lo m ();let⟨_,y5,_⟩:=y1.pos;exists _,_,q,p9,60,10,rfl,s9 _ _ hq8,h9,ti.1,y1,{bR () (),bR () ()},{bR () (),bR () ()},(by decide),λr Ha sa ha=>?_;let s8a:=s9.trans sa;change{_,_,r,_,rfl,s8.trans s8a,s8a _ _ hE8,s8a _ _ hD8,s8a _ _ hd8,(),kv6,by rw[dm hb,EC];exact ha,rl8.imp λx v z=>z.mono s8a}
 ·rintro U H5 ⟨us,kvs,q,w4,rfl,s5,hE5,hD5,hd5,kl,kv,hq,rl5⟩
  rw[za,<-bl] at rl5;change kk D us bs _ s5 hD5 bin () rl5
theorem Runs.app:∀{a b:List Told} {S S1 S2:cq},Runs S a S1->Runs S1 b S2->Runs S (a++b) S2
 | [],_,_,_,_,h,k=>by
  let e:_=_:=h;subst e;exact k
 | _::_,_,_,_,_,⟨h1,h2,h3,h4,h5⟩,k=>{h1,h2,h3,h4,Runs.app h5 k}
theorem rA:∀{l:List Str} {S:cq},(S.az++l).Nodup->⇑(S.az++l)<=12->qO S->uI S->Runs S (l.map .bS) {S with az:=S.az++l}
 | [],S,_,_,_,_=>by
  show S=_;rw[zX]
 | n::r,S,nd,hl,hd,sz=>by
  let nd':=nd;rw[zV] at nd';rw[zh,zy] at hl;refine{?_,trivial,hd,sz,?_}
  ·unfold b9
   dsimp only;rw[yN (λz=>nd'.2.2 n z n zv rfl),yN ()]
  ·let ih:=rA (l:=r) (S:=bU S (.bS n)) (by show(S.az++[n]++r).Nodup;rw[zH];exact nd) (by show(S.az++[n]++r).length<=12;simp only[zh,zy,xo];ext) hd {by show(S.az++[n]).length<=1000000;rw[zh];simp;ext,sz.2}
   let e:({bU S (.bS n) with az:=(bU S (.bS n)).az++r}:cq)={S with az:=S.az++n::r}:=by
    show({S with az:=S.az++[n]++r}:cq)=_;rw[zH];rfl
   rw[e] at ih;exact ih
theorem Bw:∀{l:List (Str×(Int×Int)×(Int×Int))} {S:cq},((S.aq++l).map (·.1)).Nodup->⇑(S.aq++l)<=12->qO S->uI S->Runs S (l.map λx=>.cR x.1 x.2.1 x.2.2) {S with aq:=S.aq++l}
 | [],S,_,_,_,_=>by
  show S=_;rw[zX]
 | n::r,S,nd,hl,hd,sz=>by
  let nd':=nd;rw[zk,zV] at nd';rw[zh,zy] at hl;refine{?_,trivial,hd,sz,?_}
  ·unfold b9
   dsimp only;rw[yN (λz=>nd'.2.2 n.1 z n.1 (by rw[zj];exact zv) rfl),yN ()]
  ·let ih:=Bw (l:=r) (S:=bU S (.cR n.1 n.2.1 n.2.2)) (by show((S.aq++[n]++r).map _).Nodup;rw[zH];exact nd) (by show(S.aq++[n]++r).length<=12;simp only[zh,zy,xo];ext) hd {sz.1,by show(S.aq++[n]).length<=1000000;rw[zh];simp;ext,sz.2.2}
   let e:({bU S (.cR n.1 n.2.1 n.2.2) with aq:=(bU S (.cR n.1 n.2.1 n.2.2)).aq++r}:cq)={S with aq:=S.aq++n::r}:=by
    show({S with aq:=S.aq++[n]++r}:cq)=_;rw[zH];rfl
   rw[e] at ih;exact ih
theorem EJ:∀{l:List Sc.N5} {S:cq},⇑(S.aO++l)<=200->qO S->uI S->Runs S (l.map .bar) {S with aO:=S.aO++l}
 | [],S,_,_,_=>by
  show S=_;rw[zX]
 | n::r,S,hl,hd,sz=>by
  rw[zh,zy] at hl;refine{?_,trivial,hd,sz,?_}
  ·unfold b9
   dsimp only;rw[yN ()]
  ·let ih:=EJ (l:=r) (S:=bU S (.bar n)) (by show(S.aO++[n]++r).length<=200;simp only[zh,zy,xo];ext) hd {sz.1,sz.2.1,sz.2.2.1,by show(S.aO++[n]).length<=1000000;rw[zh];simp;ext,sz.2.2.2.2}
   let e:({bU S (.bar n) with aO:=(bU S (.bar n)).aO++r}:cq)={S with aO:=S.aO++n::r}:=by
    show({S with aO:=S.aO++[n]++r}:cq)=_;rw[zH];rfl
   rw[e] at ih;exact ih
theorem Bv:∀{l:List ((Int×Str)×List Item)} {S:cq},((S.aN++l).map (·.1)).Nodup->⇑(S.aN++l)<=1000000->SE S->(∀x∈l,0<=x.1.1/\x.1.1<⇑S.aO/\x.1.2∈S.az/\⇑x.2<=40/\(∀it∈x.2,N2 it.2)/\kf x.2=S.len x.1.1.toNat)->qO S->uI S->Runs S (l.map λx=>.aN x.1.1 x.1.2 x.2) {S with aN:=S.aN++l}
 | [],S,_,_,_,_,_,_=>by
  show S=_;rw[zX]
 | n::r,S,nd,hl,lu,hx,hd,sz=>by
  let nd':=nd;rw[zk,zV] at nd';rw[zh,zy] at hl;let⟨b0,b1,pin,il,iok,isum⟩:=hx n zv;refine{?_,{(b0),(),iok,lu},hd,sz,?_}
  ·unfold b9
   dsimp only;rw[yN (λz=>nd'.2.2 n.1 z n.1 (by rw[zj];exact zv) rfl),yN (λz=>z pin),yN,yN (λz=>z isum),yN ()];intro z;apply z;unfold cq.has;simp[b1]
  ·let ih:=Bv (l:=r) (S:=bU S (.aN n.1.1 n.1.2 n.2)) (by show((S.aN++[n]++r).map _).Nodup;rw[zH];exact nd) (by show(S.aN++[n]++r).length<=1000000;simp only[zh,zy,xo];ext) lu (λx h=>hx x (zp _ h)) hd {sz.1,sz.2.1,sz.2.2.1,sz.2.2.2.1,by show(S.aN++[n]).length<=1000000;rw[zh];simp;ext,sz.2.2.2.2.2}
   let e:({bU S (.aN n.1.1 n.1.2 n.2) with aN:=(bU S (.aN n.1.1 n.1.2 n.2)).aN++r}:cq)={S with aN:=S.aN++n::r}:=by
    show({S with aN:=S.aN++[n]++r}:cq)=_;rw[zH];rfl
   rw[e] at ih;exact ih
def Ig {S:cq} {u:Int×Int} (hn:S.aL=none) (hb:⇑S.aO≠0) (hs:u.1*(S.aV 0).2<(S.aV 0).1*u.2) (no:S.aN=[]) (zu:oZ 8999 u) (lu:SE S) (hd:qO S) (sz:uI S):Runs S [.aL u] {S with aL:=some u}:=by
 refine{?_,{zu,lu,by rw[no];exact yh _},hd,sz,rfl};unfold b9;dsimp only;rw[yN (by rw[hn];simp),yN hb,yN (λz=>z hs),yN (by rw[no];simp)]
theorem uP:∀{l:List (Str×List Str)} {S:cq},((S.aP++l).map (·.1)).Nodup->((S.aP++l).map (·.2)).flatten.Nodup->(∀x∈l,∀p∈x.2,p∈S.az)->(∀x∈l,⇑x.2<=1000)->⇑(S.aP++l)<=1000000->qO S->uI S->Runs S (l.map λx=>.cD x.1 x.2) {S with aP:=S.aP++l}
 | [],S,_,_,_,_,_,_,_=>by
  show S=_;rw[zX]
 | n::r,S,nd,fd,pin,pl,hl,hd,sz=>by
  let nd':=nd;let fd':=fd;rw[zk,zV] at nd';rw[zk,xh,zj,yb,zV] at fd';rw[zh,zy] at hl;refine{?_,pl n zv,hd,sz,?_}
  ·unfold b9
   dsimp only;let pn:n.2.Nodup:=(zV.mp fd'.2.1).1;let p2:¬(S.aP.any λq=>n.2.any λp=>decide (p∈q.2))=true:=λz=>by
    let⟨q,hq,z⟩:=yp.mp z;let⟨p,hp,z⟩:=yp.mp z;exact fd'.2.2 p (wj.mpr {q.2,zR (f:=λx:Str×List Str=>x.2) hq,yf z}) p (zL _ hp) rfl
   let p3:¬(n.2.any λp=>!decide (p∈S.az))=true:=λz=>by
    let⟨p,hp,z⟩:=yp.mp z;rw[zg (pin n zv p hp)] at z;cases z
   rw[yN (λz=>nd'.2.2 n.1 z n.1 (by rw[zj];exact zv) rfl),yN (λz=>z pn),yN p2,yN p3]
  ·let ih:=uP (l:=r) (S:=bU S (.cD n.1 n.2)) (by show((S.aP++[n]++r).map _).Nodup;rw[zH];exact nd) (by show((S.aP++[n]++r).map _).flatten.Nodup;rw[zH];exact fd) (λx h=>pin x (zp _ h)) (λx h=>pl x (zp _ h)) (by show(S.aP++[n]++r).length<=1000000;simp only[zh,zy,xo];ext) hd {sz.1,sz.2.1,by show(S.aP++[n]).length<=1000000;rw[zh];simp;ext,sz.2.2.2}
   let e:({bU S (.cD n.1 n.2) with aP:=(bU S (.cD n.1 n.2)).aP++r}:cq)={S with aP:=S.aP++n::r}:=by
    show({S with aP:=S.aP++[n]++r}:cq)=_;rw[zH];rfl
   rw[e] at ih;exact ih
def Pr {base:List (Str×List (Int×Str))} {p:Str} (h:p∉base.map (·.1)):base.lookup p=none:=by
 induction base with
 | nil=>rfl
 | cons x r ih=>
  rw[zj,zF,not_or] at h;rw[yr,show(p == x.1)=false from by simp;exact h.1];exact ih h.2
def M9 {base:List (Str×List (Int×Str))} {p:Str} {acc:List (Int×Str)} (h:p∉base.map (·.1)):(base++[(p,acc)]).lookup p=some acc:=by
 induction base with
 | nil=>rw[List.nil_append,yr,wg]
 | cons x r ih=>
  rw[zj,zF,not_or] at h;rw[wQ,yr,show(p == x.1)=false from by simp;exact h.1];exact ih h.2
def Qo {base:List (Str×List (Int×Str))} {p:Str} {acc:List (Int×Str)} {e:Int×Str} (h:p∉base.map (·.1)):fm (base++[(p,acc)]) p e=base++[(p,acc++[e])]:=by
 unfold fm;rw[yO (by rw[zk];exact zK _ (zC.mpr rfl)),zk];let er:(base.map λq:Str×List (Int×Str)=>if q.1=p then(q.1,q.2++[e]) else q)=base:=by
  conv=>rhs;rw[<-List.map_id base]
  refine xy λq hq=>?_;rw[yN (λz=>h (by rw[<-z];exact zR (f:=λx:Str×List (Int×Str)=>x.1) hq))];rfl
 rw[er];simp
def E1 {S:cq} {p:Str} {acc:List (Int×Str)} {h:Int×Str} (hl:(S.holds.lookup p).getD []=acc) (asc:∀a∈acc,a.1<h.1) (al:⇑acc<20) (hp:p∈S.az) (hb:h.1<⇑S.aO) (hi:h.2∈S.aq.map (·.1)):b9 S (.holds p h.1 h.2)=none:=by
 unfold b9;dsimp only;rw[hl];let c1:¬(match acc.getLast? with | some q=>decide (h.1<=q.1) | none=>false)=true:=by
  cases q:acc.getLast? with
  | none=>simp
  | some x=>
   have:=asc x (wZ q);simp;exact this
 rw[yN (by
  cases q:acc.getLast? with
  | none=>simp
  | some x=>
   have:=asc x (wZ q);simp;exact this),yN (λz=>z hp),yN (λz=>z hi),yN (λz=>z (by unfold cq.has;simp[hb])),yN ()]
theorem Ih {p:Str} {base:List (Str×List (Int×Str))} (nb:p∉base.map (·.1)) (nd:(base.map (·.1)).Nodup) (bl:⇑base<=999999) (bb:∀q∈base,⇑q.2<=1000000):∀{row acc:List (Int×Str)} {S:cq},S.holds=base++[(p,acc)]->((acc++row).map (·.1)).Pairwise (·<·)->⇑(acc++row)<=20->p∈S.az->
  (∀h∈row,h.1<⇑S.aO/\h.2∈S.aq.map (·.1))->uI S->Runs S (row.map λh=>.holds p h.1 h.2) {S with holds:=base++[(p,acc++row)]}
 | [],acc,S,eS,_,_,_,_,_=>by
  show S=_;rw[zX,<-eS]
 | h::r,acc,S,eS,asc,al,hp,hx,sz=>by
  let⟨hb,hi⟩:=hx h zv;let asc':=asc;rw[zk,zW] at asc';rw[zh,zy] at al;let hd:qO S:=by
   refine{?_,?_,?_}
   ·rw[eS,zk,zV]
    exact{nd,by simp,λx hx y hy e=>by simp at hy;subst hy;subst e;exact nb hx}
   ·rw[eS,zh];simp;ext
   ·intro q hq
    rw[eS] at hq;rcases zI.mp hq with z | z
    ·exact bb q z
    ·rw[zC.mp z];show ⇑acc<=1000000;ext
  refine{E1 (acc:=acc) (by rw[eS,M9 nb];rfl) (λa ha=>asc'.2.2 a.1 (zR (f:=λx:Int×Str=>x.1) ha) h.1 (by rw[zj];exact zv)) () hp hb hi,trivial,hd,sz,?_};let ih:=Ih nb nd bl bb (row:=r) (acc:=acc++[h]) (S:=bU S (.holds p h.1 h.2)) (by show fm S.holds p (h.1,h.2)=_;rw[eS,Qo nb]) (by rw[zH];exact asc) (by simp only[zh,zy,xo];ext) hp (λx hx'=>hx x (zp _ hx')) sz;let e:({bU S (.holds p h.1 h.2) with holds:=base++[(p,acc++[h]++r)]}:cq)={S with holds:=base++[(p,acc++h::r)]}:=by
   show({S with holds:=base++[(p,acc++[h]++r)]}:cq)=_;rw[zH];rfl
  rw[e] at ih;exact ih
theorem Bx:∀{l:List (Str×List (Int×Str))} {S:cq},((S.holds++l).map (·.1)).Nodup->⇑(S.holds++l)<=999999->(∀x∈l,x.2≠[]/\⇑x.2<=20/\(x.2.map (·.1)).Pairwise (·<·)/\x.1∈S.az/\∀h∈x.2,h.1<⇑S.aO/\h.2∈S.aq.map (·.1))->qO S->uI S->
  Runs S (l.map λx=>x.2.map λh=>Told.holds x.1 h.1 h.2).flatten {S with holds:=S.holds++l}
 | [],S,_,_,_,_,_=>by
  show S=_;rw[zX]
 | x::r,S,nd,hl,hx,hd,sz=>by
  let⟨ne,xl,asc,hp,hh⟩:=hx x zv;let⟨h,t,et⟩:=List.exists_cons_of_ne_nil ne;let nd':=nd;rw[zk,zV] at nd';let nb:x.1∉S.holds.map (·.1):=λz=>nd'.2.2 x.1 z x.1 (by rw[zj];exact zv) rfl;rw[zh,zy] at hl;rw[zj,yb];refine Runs.app (S1:={S with holds:=S.holds++[x]}) ?_ ?_
  ·rw[et] at xl asc hh ⊢
   let⟨hb,hi⟩:=hh h zv;refine{E1 (acc:=[]) (by rw[Pr nb];rfl) (by simp) (by simp) hp hb hi,trivial,hd,sz,?_};let ea:bU S (.holds x.1 h.1 h.2)={S with holds:=S.holds++[(x.1,[h])]}:=by
    show({S with holds:=fm S.holds x.1 (h.1,h.2)}:cq)=_;unfold fm;rw[yN nb]
   rw[ea];let rr:=Ih (p:=x.1) nb hd.1 () hd.2.2 (row:=t) (acc:=[h]) (S:={S with holds:=S.holds++[(x.1,[h])]}) rfl asc xl hp (λy hy=>hh y (zp _ hy)) sz;let ex:x=(x.1,[h]++t):=by rw[List.singleton_append,<-et]
   let e2:({({S with holds:=S.holds++[(x.1,[h])]}:cq) with holds:=S.holds++[(x.1,[h]++t)]}:cq)={S with holds:=S.holds++[x]}:=by rw[<-ex]
   rw[e2] at rr;exact rr
  ·let ih:=Bx (l:=r) (S:={S with holds:=S.holds++[x]}) (by show((S.holds++[x]++r).map _).Nodup;rw[zH];exact nd) (by show(S.holds++[x]++r).length<=999999;simp only[zh,zy,xo];ext) (λy hy=>hx y (zp _ hy)) ?_ sz
   ·let e:({({S with holds:=S.holds++[x]}:cq) with holds:=S.holds++[x]++r}:cq)={S with holds:=S.holds++x::r}:=by rw[zH];rfl
    exact e▸ih
   ·refine{?_,?_,?_}
    ·show((S.holds++[x]).map _).Nodup
     have:=List.Nodup.sublist (List.Sublist.map (λx:Str×List (Int×Str)=>x.1) (List.Sublist.append (List.Sublist.refl S.holds) (List.singleton_sublist.mpr zv))) nd;exact this
    ·show(S.holds++[x]).length<=1000000
     rw[zh];simp;ext
    ·intro q hq
     let hq':q∈S.holds++[x]:=hq;rcases zI.mp hq' with z | z
     ·exact hd.2.2 q z
     ·rw[zC.mp z];ext
def A0 (n:Nat):List Rep->List Rep->Prop
 | _,[]=>True
 | rs,r::l=>(∀b∈[r.first,r.last]++r.ends.map (·.1),b<(n:Int))/\lJ rs r=true/\(Kd r.ends<64/\⇑r.ends<=1000/\-1000000<=r.times/\r.times<=1000000)/\A0 n (rs++[r]) l
def PR {S:cq} {bs:List Int} (h:∀b∈bs,b<(⇑S.aO:Int)):S.has bs=true:=yq.mpr λb hb=>zg (h b hb)
theorem EI:∀{l:List Rep} {S:cq},S.cm=none->A0 ⇑S.aO S.aJ l->⇑(S.aJ++l)<=20->qO S->uI S->Runs S (l.map .rep) {S with aJ:=S.aJ++l}
 | [],S,_,_,_,_,_=>by
  show S=_;rw[zX]
 | r::l,S,nj,⟨h1,h2,h3,h4⟩,hl,hd,sz=>by
  rw[zh,zy] at hl;refine{?_,h3,hd,sz,?_}
  ·unfold b9
   dsimp only;rw[yN (λz=>z (PR h1)),yN (by rw[nj];simp),yN (λz=>z h2),yN ()]
  ·let ih:=EI (l:=l) (S:=bU S (.rep r)) nj h4 (by show(S.aJ++[r]++l).length<=20;simp only[zh,zy,xo];ext) hd {sz.1,sz.2.1,sz.2.2.1,sz.2.2.2.1,sz.2.2.2.2.1,by show(S.aJ++[r]).length<=1000000;rw[zh];simp;ext}
   let e:({bU S (.rep r) with aJ:=(bU S (.rep r)).aJ++l}:cq)={S with aJ:=S.aJ++r::l}:=by
    show({S with aJ:=S.aJ++[r]++l}:cq)=_;rw[zH];rfl
   rw[e] at ih;exact ih
def MQ {S:cq} {j:Jump} (nj:S.cm=none) (hb:∀b∈[j.qR,j.sN,j.cK]++j.fL.toList,b<(⇑S.aO:Int)) (hf:hZ S.aJ j=true) (ro:Hg S) (hd:qO S) (sz:uI S):Runs S [.cm j] {S with cm:=some j}:=by
 refine{?_,ro,hd,sz,rfl};unfold b9;dsimp only;rw[yN (by rw[nj];simp),yN (λz=>z (PR hb)),yN (λz=>z hf)]
structure W9 (S:cq):Prop where
 pn:S.az.Nodup
 pl:⇑S.az<=12
 Xz:(S.aq.map (·.1)).Nodup
 il:⇑S.aq<=12
 sn:(S.aP.map (·.1)).Nodup
 sf:(S.aP.map (·.2)).flatten.Nodup
 sp:∀x∈S.aP,∀p∈x.2,p∈S.az
 sl:∀x∈S.aP,⇑x.2<=1000
 sc:⇑S.aP<=1000000
 bl:⇑S.aO<=200
 lu:SE S
 up:∀u,S.aL=some u->⇑S.aO≠0/\u.1*(S.aV 0).2<(S.aV 0).1*u.2/\oZ 8999 u
 hn:(S.holds.map (·.1)).Nodup
 hl:⇑S.holds<=999999
 hx:∀x∈S.holds,x.2≠[]/\⇑x.2<=20/\(x.2.map (·.1)).Pairwise (·<·)/\x.1∈S.az/\∀h∈x.2,h.1<⇑S.aO/\h.2∈S.aq.map (·.1)
 nn:(S.aN.map (·.1)).Nodup
 nl:⇑S.aN<=1000000
 nx:∀x∈S.aN,0<=x.1.1/\x.1.1<⇑S.aO/\x.1.2∈S.az/\⇑x.2<=40/\(∀it∈x.2,N2 it.2)/\kf x.2=S.len x.1.1.toNat
 rf:A0 ⇑S.aO [] S.aJ
 rl:⇑S.aJ<=20
 ro:Hg S
 ju:∀j,S.cm=some j->(∀b∈[j.qR,j.sN,j.cK]++j.fL.toList,b<(⇑S.aO:Int))/\hZ S.aJ j=true
def OM {S:cq} (V:W9 S):Runs {} (eT S) S:=by
 let hd0:∀T:cq,T.holds=[]->qO T:=λT e=>by
  refine{by rw[e];exact x8,by rw[e];exact yh _,λq hq=>by rw[e] at hq;cases hq}
 let hdS:∀T:cq,T.holds=S.holds->qO T:=λT e=>by
  refine{by rw[e];exact V.hn,by rw[e];have:=V.hl;ext,λq hq=>?_};rw[e] at hq;have:=(V.hx q hq).2.1;ext
 let b1:=V.pl;let b2:=V.il;let b3:=V.sc;let b4:=V.bl;let b5:=V.nl;let b6:=V.rl;let szP:∀T:cq,(T.az=[]\/T.az=S.az)->(T.aq=[]\/T.aq=S.aq)->(T.aP=[]\/T.aP=S.aP)->(T.aO=[]\/T.aO=S.aO)->(T.aN=[]\/T.aN=S.aN)->(T.aJ=[]\/T.aJ=S.aJ)->uI T:=λT q1 q2 q3 q4 q5 q6=>by
  refine{?_,?_,?_,?_,?_,?_}
  ·rcases q1 with e | e <;> rw[e] <;> first | exact yh _ | ext
  ·rcases q2 with e | e <;> rw[e] <;> first | exact yh _ | ext
  ·rcases q3 with e | e <;> rw[e] <;> first | exact yh _ | ext
  ·rcases q4 with e | e <;> rw[e] <;> first | exact yh _ | ext
  ·rcases q5 with e | e <;> rw[e] <;> first | exact yh _ | ext
  ·rcases q6 with e | e <;> rw[e] <;> first | exact yh _ | ext
 let r1:=rA (l:=S.az) (S:={}) V.pn b1 (hd0 _ rfl) (szP _ (.inl rfl) (.inl rfl) (.inl rfl) (.inl rfl) (.inl rfl) (.inl rfl));let r2:=Bw (l:=S.aq) (S:={az:=S.az}) V.Xz b2 (hd0 _ rfl) (szP _ (.inr rfl) (.inl rfl) (.inl rfl) (.inl rfl) (.inl rfl) (.inl rfl));let r3:=uP (l:=S.aP) (S:={az:=S.az,aq:=S.aq}) V.sn V.sf V.sp V.sl b3 (hd0 _ rfl) (szP _ (.inr rfl) (.inr rfl) (.inl rfl) (.inl rfl) (.inl rfl) (.inl rfl));let r4:=EJ (l:=S.aO) (S:={az:=S.az,aq:=S.aq,aP:=S.aP}) b4 (hd0 _ rfl) (szP _ (.inr rfl) (.inr rfl) (.inr rfl) (.inl rfl) (.inl rfl) (.inl rfl));let r5:Runs {az:=S.az,aq:=S.aq,aP:=S.aP,aO:=S.aO} (S.aL.toList.map .aL) {az:=S.az,aq:=S.aq,aP:=S.aP,aO:=S.aO,aL:=S.aL}:=by
  cases q:S.aL with
  | none=>exact rfl
  | some u=>
   let⟨u1,u2,u3⟩:=V.up u q;exact Ig (S:={az:=S.az,aq:=S.aq,aP:=S.aP,aO:=S.aO}) rfl u1 u2 rfl u3 V.lu (hd0 _ rfl) (szP _ (.inr rfl) (.inr rfl) (.inr rfl) (.inr rfl) (.inl rfl) (.inl rfl))
 let r6:=Bx (l:=S.holds) (S:={az:=S.az,aq:=S.aq,aP:=S.aP,aO:=S.aO,aL:=S.aL}) V.hn V.hl V.hx (hd0 _ rfl) (szP _ (.inr rfl) (.inr rfl) (.inr rfl) (.inr rfl) (.inl rfl) (.inl rfl));let r7:=Bv (l:=S.aN) (S:={az:=S.az,aq:=S.aq,aP:=S.aP,aO:=S.aO,aL:=S.aL,holds:=S.holds}) V.nn b5 V.lu V.nx (hdS _ rfl) (szP _ (.inr rfl) (.inr rfl) (.inr rfl) (.inr rfl) (.inl rfl) (.inl rfl));let r8:=EI (l:=S.aJ) (S:={az:=S.az,aq:=S.aq,aP:=S.aP,aO:=S.aO,aL:=S.aL,holds:=S.holds,aN:=S.aN}) rfl V.rf b6 (hdS _ rfl) (szP _ (.inr rfl) (.inr rfl) (.inr rfl) (.inr rfl) (.inr rfl) (.inl rfl));let r9:Runs {az:=S.az,aq:=S.aq,aP:=S.aP,aO:=S.aO,aL:=S.aL,holds:=S.holds,aN:=S.aN,aJ:=S.aJ} (S.cm.toList.map .cm) S:=by
  let⟨s1,s2,s3,s4,s5,s6,s7,s8,s9⟩:=S;cases s9 with
  | none=>exact rfl
  | some j=>
   let⟨j1,j2⟩:=V.ju j rfl;exact MQ (S:={az:=s1,aq:=s2,aP:=s3,aO:=s4,aL:=s5,holds:=s6,aN:=s7,aJ:=s8}) rfl j1 j2 V.ro (hdS _ rfl) (szP _ (.inr rfl) (.inr rfl) (.inr rfl) (.inr rfl) (.inr rfl) (.inr rfl))
 exact Runs.app (Runs.app (Runs.app (Runs.app (Runs.app (Runs.app (Runs.app r1 r2) r3) r4) r5) r6) r7) (Runs.app r8 r9)
inductive vU (K:yB) (vs:List V) (H:Hp) (Q:VK) (E:XK):Prop
 | mk (a:vD) (ns:List Int) (k:Int) (_:vs=[.ref a,.int k]) (_:gx K H a (ns.map V.int)) (_:0<=k) (_:⇑ns<=1000) (_:∀c:Int,Q (.int c) H)
def cx:di P w base 1 T.cH (vU K):=by
 nomatch T.cH,["_law_script","_law_k"]
 let⟨a,ns,k,rfl,hS,h0,hl,kk⟩:=h;refine{_,(ag (aM (ptr eX (pv 1) (d7 aH T.bP (ah (pv 0) af)))
  (ak (au (fB (pv 0) (pv 1))))
  aC)
  (ak (au ae))),?_}
 exists a,_,rfl,.inl hS,?_;left;refine Ar (λc1=>?_) (λc1=>?_)
 ·let c2:=yf c1
  rw[za] at c2;change{a,_,_,_,rfl,rfl,hS,Ql h0 c2,kk _}
 ·left
  exact kk _
inductive sY (vs:List V) (H:Hp) (Q:VK) (E:XK):Prop
 | mk (c m:Int) (_:vs=[.int c,.int m]) (_:0<=c) (_:c<1099511627776) (_:0<=m) (_:m<=12) (_:∀(ns:List Str) p H',⇑ns=m.toNat->JV ns->aG H H'->H' p=some (.lst (ns.map V.str))->Q (.ref p) H')
def gD:di P w base 1 T.fH sY:=by
 nomatch T.fH,["_law_cell","_law_many","_law_letters","_law_first","_law_size","_law_place","_law_stem"]
 let⟨c,m,rfl,c0,c1,m0,m1,kk⟩:=h;let sl:=yC;refine{_,(ag (bO 2 qN aK)
  (ag (bO 3 qN (aB aX (aB aZ (pv 0) ae) ae))
  (ag (aM (PW.pt (dF (ptr c9 (aB aX (pv 0) ae) ae) (cZ (ptr eX (pv 1) ae))))
  (ak (au (oJ (ts:=["_law_k"]) (ys:=["_law_many","_law_letters","_law_first"]) (js:=[1,2,3]) (te:=(fW Sg (fW Q6 (bj 2) (bj 3)) (fW (qP λi j=>.int (i-j)) (bj 1) (bj 0)))) (dC (by rfl) T.de (aa (pv 1) af)) (gO 0) bE (aB Rn (BH Gn (pv 2) (pv 3) (λ_ _=>rfl)) (aB iC (pv 1) (pv 0))))))
  aC)
  (ag (bO 4 qN (aB aX (aB aZ (pv 0) ae) ae))
  (ag (bO 5 qN (aB aX (aB aZ (pv 0) ae) (aB bf (pv 4) ae)))
  (ag (bO 6 qN (bZ yG yI yH gP aK (aa (oJ (ts:=["_law_k"]) (ys:=["_law_cell","_law_letters"]) (js:=[0,2]) (te:=(fW Q6 (fW (λx y H Q=>∃i j,x=.str i/\y=.str j/\⇑i+⇑j<=sizeLine/\Q (.str (i++j)) H) (bj 2) (tC (.str "0123456789"))) (fW (rI (λ_ j=>0<j) λi j=>.int (i%j)) (fW (qP λi j=>.int (i+j)) (fW (rI UC λi j=>.int (i/j)) (bj 1) (tC (.int (16224)))) (fW (rI NY λi j=>.int (i*j)) (tC (.int (7))) (bj 0))) (tC (.int (36)))))) (dC (by rfl) T.de (aa (pv 4) af)) (gO 0) bE (BH Gn (aB b8 (pv 2) aK) (aB aX (aB bf (aB aZ (pv 1) ae) (aB d9 ae (pv 0))) ae) (λ_ _=>rfl))) af)))
  (ak (au (oJ (ts:=["_law_k"]) (ys:=["_law_letters","_law_first","_law_place","_law_stem"]) (js:=[2,3,5,6]) (te:=(fW (λx y H Q=>∃i j,x=.str i/\y=.str j/\⇑i+⇑j<=sizeLine/\Q (.str (i++j)) H) (fW (λx y H Q=>∃i j,x=.str i/\y=.str j/\⇑i+⇑j<=sizeLine/\Q (.str (i++j)) H) (Wt Tn (bj 4) Fp (Oq (bj 3))) (fW Q6 (bj 1) (fW (rI (λ_ j=>0<j) λi j=>.int (i%j)) (fW (qP λi j=>.int (i+j)) (bj 2) (fW (rI NY λi j=>.int (i*j)) (tC (.int (5))) (bj 0))) (tC (.int (26)))))) (Wt Tn (bj 4) (Oq (bj 3)) Fp))) (dC (by rfl) T.de (aa (pv 1) af)) (gO 0) bE (aB b8 (aB b8 (eW Kj (pv 4) gg (gf (pv 3))) (BH Gn (pv 1) (aB aX (aB bf (pv 2) (aB d9 ae (pv 0))) ae) (λ_ _=>rfl))) (eW Kj (pv 4) (gf (pv 3)) gg))))))))))),?_}
 ac_rfl;left
 by_cases q:c%4=0
 ·refine bW (by show decide (V.int (c%4)=V.int 0)=true;rw[q];rfl) ?_
  left;refine bW (zg ()) ?_;exists by ext,(),?_
  let f0:0<=c/4%26:=zA _ ∅;let f1:c/4%26<26:=zw _ ∅;refine ma (λk=>.str (pW {#[97+(c/4%26).toNat]} (m.toNat-k))) (λU=>∃v,U=[v,some (.int m),some (.str lets),some (.int (c/4%26))]) () {(none),rfl} ?_ ?_
  ·rintro k U H4 R hk s4 ⟨_,rfl⟩ r
   exists lets,_,_,rfl,rfl,(by show 26<=sizeLine;ext),L6 f0 f1,?_;exists by ext,(),(by show 1<=1000;decide),?_
   refine r _ _ _ (aI _) ?_ {_,rfl};rw[show(m-(0+(k:Int))).toNat=m.toNat-k from by ext];exact fu
  ·intro D vs H4 s4 _ hD il
   let e:(List.range m.toNat).map (λk=>Dt.str (pW {#[97+(c/4%26).toNat]} (m.toNat-k)))=((List.range m.toNat).map λk=>pW {#[97+(c/4%26).toNat]} (m.toNat-k)).map Dt.str:=by rw[zD];rfl
   rw[e] at il;rw[dX il] at hD;exact kk _ D H4 (by rw[za,zU]) (M5 () (Px f0 f1)) s4 hD
 ·refine bX (by show decide (V.int (c%4)=V.int 0)=false;exact ze λz=>q (V.int.inj z)) ?_
  let f0:0<=c/4%26:=zA _ ∅;let f1:c/4%26<26:=zw _ ∅;let z0:0<=c/104%12:=zA _ ∅;let z1:c/104%12<12:=zw _ ∅;let y0:0<=c/1248%(c/104%12+1):=zA _ ();let y1:c/1248%(c/104%12+1)<c/104%12+1:=zw _ ();let x0:0<=c/16224:=zY c0 ∅;let x1:c/16224<=c:=zZ _ c0;exists by show 0<c/104%12+1;ext,?_
  exists by ext,(),?_
  refine ma (λk=>.str {#[QV ((c/16224+7*(0+(k:Nat)))%36)]}) (λU=>∃v,U=[v,some (.int c),some (.str lets)]) () {(none),rfl} ?_ ?_
  ·rintro k U H4 R hk s4 ⟨_,rfl⟩ r
   exists by show 26+10<=sizeLine;ext,?_
   left;let w0:0<=(c/16224+7*(0+(k:Int)))%36:=zA _ ∅;let w1:(c/16224+7*(0+(k:Int)))%36<36:=zw _ ∅;refine{lets ++"0123456789",_,_,rfl,rfl,by show 36<=sizeLine;ext,(OI w0 w1).1,?_};exact r _ _ _ (aI _) fu {_,rfl}
  ·intro D vs H4 s4 _ hD il
   let e:(List.range (c/104%12).toNat).map (λk:Nat=>Dt.str {#[QV ((c/16224+7*(0+(k:Nat)))%36)]})=(nF c (c/104%12).toNat).map Dt.str:=by unfold nF;rw[zD];rfl
   rw[e] at il;rw[dX il] at hD;refine{"",D,nF c (c/104%12).toNat,rfl,rfl,ao hD,by rw[OA];ext,?_};exists by ext,(),?_
   let sln:=OC c (c/104%12).toNat;let ssg:=OB (c:=c) (n:=(c/104%12).toNat);generalize hst:Str.join "" (nF c (c/104%12).toNat)=stem at sln ssg;obtain⟨pn,hpn⟩:∃n:Nat,c/1248%(c/104%12+1)=(n:Int):={(c/1248%(c/104%12+1)).toNat,()}
   obtain⟨fn,hfn⟩:∃n:Nat,c/4%26=(n:Int):={(c/4%26).toNat,()}
   let pb:pn<=⇑stem:=()
   let l1:⇑(Txt.slice stem none (some (pn:Int)))<=11:=by
    rw[<-show _=⇑(Txt.slice stem none (some (pn:Int))) from yQ,HP stem pb,zT];ext
   let l2:⇑(Txt.slice stem (some (pn:Int)) none)<=11:=by
    rw[<-show _=⇑(Txt.slice stem (some (pn:Int)) none) from yQ,pN stem pb,xC,show ⇑stem.cps.toList=⇑stem from yQ];ext
   refine ma (λk=>.str (Txt.slice stem none (some (pn:Int))++{#[97+(fn+5*k)%26]}++Txt.slice stem (some (pn:Int)) none)) (λU=>∃v,U=[v,some (.str lets),some (.int (fn:Int)),some (.int (pn:Int)),some (.str stem)]) () {none,by rw[<-hpn,<-hfn];rfl} ?_ ?_
   ·rintro k U H5 R hk s5 ⟨_,rfl⟩ r
    exists by ext,?_
    left;let w0:0<=((fn:Int)+5*(0+(k:Int)))%26:=zA _ ∅;let w1:((fn:Int)+5*(0+(k:Int)))%26<26:=zw _ ∅;let we:(((fn:Int)+5*(0+(k:Int)))%26).toNat=(fn+5*k)%26:=()
    refine{lets,_,_,rfl,rfl,by show 26<=sizeLine;ext,L6 w0 w1,?_};rw[we];let l3:⇑({#[97+(fn+5*k)%26]}:Str)=1:=rfl;refine{_,_,rfl,rfl,(),?_};exists by ext,?_
    refine{_,_,rfl,rfl,by rw[bV];ext,?_};exact r _ _ _ (aI _) fu {_,rfl}
   ·intro D2 vs2 H5 s5 _ hD2 il2
    let e:(List.range m.toNat).map (λk=>Dt.str (Txt.slice stem none (some (pn:Int))++{#[97+(fn+5*k)%26]}++Txt.slice stem (some (pn:Int)) none))=((List.range m.toNat).map λk=>Txt.slice stem none (some (pn:Int))++{#[97+(fn+5*k)%26]}++Txt.slice stem (some (pn:Int)) none).map Dt.str:=by rw[zD];rfl
    rw[e] at il2;rw[dX il2] at hD2;exact kk _ D2 H5 (by rw[za,zU]) (KL () pb ssg ()) (s4.trans s5) hD2
def sW:Sp:=λvs H Q _=>∃(m:Int),vs=[.int m]/\0<=m/\∀q p H',Qv q->aG H H'->H' p=some (fY q)->Q (.ref p) H'
def tQ:di P w base 1 T.kG sW:=by
 nomatch T.kG,["_law_m","_law_f","_law_high"]
 let⟨m,rfl,m0,kk⟩:=h;let a:=zA m (b:=41) ∅;let b:=zw m (b:=41) ∅;let c:=zA (m/41) (b:=14) ∅;let d:=zw (m/41) (b:=14) ∅;refine{_,(ag (bO 1 qN (aB iC (aB aX (pv 0) ae) ae))
  (ag (bO 2 qN (aB d9 (aB iC (aB aX (aB aZ (pv 0) ae) ae) ae) ae))
  (ak (au (bM (aa (pv 1) (aa (aB bf (aB aX (aB d9 ae (pv 1)) ae) (pv 2)) af))))))),?_}
 ac_rfl;exists cO,?_;intros p1 H1 s1 h1;change kk _ _ _ (MX m) s1 h1
inductive sZ (vs:List V) (H:Hp) (Q:VK) (E:XK):Prop
 | mk (m:Int) (x:Int×Int) (q:vD) (_:vs=[.int m,.ref q]) (_:H q=some (fY x)) (_:0<=m) (_:m<1099511627776) (_:LB x) (_:∀(its:List Item) p us H',Hj its x->aG H H'->H p=none->H' p=some (.lst us)->aD H' (its.map d5) us->Q (.ref p) H')
def tS:di P w base 2 T.kJ sZ:=by
 nomatch T.kJ,["_law_m","_law_length","_law_many","_law_weights","_law_items","_law_j","_law_each"]
 let⟨m,x,q,rfl,hq,m0,m1,xok,kk⟩:=h;let sl:=yC;let a:=zA m (b:=6) ∅;let b:=zw m (b:=6) ∅;obtain⟨n,hn⟩:∃n:Nat,1+m%6=(n:Int):={(1+m%6).toNat,()}
 refine{_,(ag (bO 2 qN (aB bf ae (aB aX (pv 0) ae)))
  (ag (Rj (i:=3) (ts:=["_law_j"]) (ys:=["_law_m"]) (js:=[0]) (te:=(fW (qP λi j=>.int (i+j)) (tC (.int (1))) (fW (rI (λ_ j=>0<j) λi j=>.int (i%j)) (fW (rI UC λi j=>.int (i/j)) (bj 1) (fW (qP λi j=>.int (i+j)) (tC (.int (7))) (fW (rI NY λi j=>.int (i*j)) (tC (.int (5))) (bj 0)))) (tC (.int (4)))))) (dC (by rfl) T.de (aa (pv 2) af)) (gO 0) bE (aB bf ae (aB aX (aB aZ (pv 1) (aB bf ae (aB d9 ae (pv 0)))) ae)) qN)
  (ag (bO 4 qN (bq af))
  (ag (cy yP rfl (dC (by rfl) T.de (aa (pv 2) af)) (jg 5 qN)
  (ag (bO 6 qN (bQ (gi T) hr T.fV (aa (aB d9 (bJ (pv 1) ae) (fB (pv 3) (pv 5))) (aa (aB d9 (bJ (pv 1) ae) (d7 (E9 rfl) T.Sl (aa (pv 3) af))) af))))
   (ak (aM (PW.pt (dF (ptr fP (pv 5) (aB aX (aB aZ (pv 0) ae) (pv 2))) (cZ (ptr c9 (aB TC (aB TB (aB aZ (pv 0) ae) (pv 5)) ae) ae))))
   (ak (bu (bZ yD yF yE bF (pv 4) (aa (bM (aa aW (aa (pv 6) af))) af))))
   (ak (bu (bZ yD yF yE bF (pv 4) (aa (bM (aa (bQ (tQ T) hr T.kG (aa (aB aZ (pv 0) (aB bf ae (aB d9 ae (pv 5)))) af)) (aa (pv 6) af))) af))))))))
  (ak (au (pv 4))))))),?_}
 ac_rfl;exists by ext,(),?_
 rw[show(1+m%6).toNat=n from by ext];refine ma (λj=>.int (1+m/(7+5*(0+(j:Nat)))%4)) (λU=>∃v,U=[v,some (.int m)]) () {(none),rfl} ?_ ?_
 ·rintro j U H1 R hj s1 ⟨_,rfl⟩ r
  exists{(()),()},?_;change r _ _ _ (aI _) cX {_,rfl}
 ·intro D0 vs0 H1 s1 _ hD0 il0
  let e:(List.range n).map (λj:Nat=>Dt.int (1+m/(7+5*(0+(j:Nat)))%4))=(sO m n).map Dt.int:=by unfold sO;rw[zD];rfl
  rw[e] at il0;rw[eQ il0] at hD0;left
  intros D nD s2 h2 H2
  let nDH:H D=none:=s1.back nD;exists by ext,(),?_
  rw[show(1+m%6).toNat=n from by ext];let⟨xr,x1,x2,x3⟩:=id xok;let⟨_,xp,_⟩:=xr.pos;let wl:=QH m n;let wb:=Oy (l:=sO m n) λw hw=>J1 hw;let W0:0<(sO m n).sum:=()
  let W2:(sO m n).sum<=24:=()
  let j0a:0<=m/4%(n:Int):=zA _ ();let j0b:m/4%(n:Int)<n:=zw _ ();refine gH (λi U H'=>∃(its:List Item) (us:List V) (v5 v6:Option V),U=[some (.int m),some (.ref q),some (.int (1+m%6)),some (.ref D0),some (.ref D),v5,v6]/\aG H1 H'/\H' D=some (.lst us)/\aD H' (its.map d5) us/\⇑its=i/\(∀it∈its,NV it)/\
   kf its=red (x.1*((sO m n).take i).sum) (x.2*(sO m n).sum)/\(m/4%(n:Int)<i->its.all (λit=>it.1.isNone)=false)) {[],[],none,none,rfl,s2,h2,du,rfl,by simp,Ox xp W0,λz=>by exfalso;simp at z;ext} ?_ ?_
  ·intro i U H3 hi hh
   refine cT λN kN0 kR0 _ _=>?_;let⟨its,us,v5,v6,rfl,s3,h3,il3,il,iok,isum,ino⟩:=hh;let hq3:=s3 _ _ (s1 _ _ hq);let hD3:=s3 _ _ hD0;let hwi:(sO m n)[i]?=some ((sO m n)[i]'()):=zd ();let⟨w1,w2⟩:=J1 (zE hwi);generalize (sO m n)[i]'()=wi at hwi w1 w2;left;refine{D0,_,_,_,rfl,rfl,ao hD3,(by rw[Int.zero_add];exact bx (by rw[zM,hwi];rfl)),?_};exists .inl {(()),()},?_;exists D0,_,rfl,ao hD3,λw hw=>by have:=J1 hw;ext,(),?_
   exists .inl {(()),()},?_;let lk:=Pt xok w1 w2 W0 W2;let b1:0<x.2*(sO m n).sum:=xA xp W0;let b2:x.2*(sO m n).sum<=160*24:=wa x3 W2 () ∅;let t0:0<=x.1*wi:=x9 () ();refine{_,_,rfl,t0,b1,(bR (n:=12) () ()).mono ∅,λp6 H6 s6 h6=>?_};exists by show 0<1+m%6;ext,?_
   left;let nD6:H6 D=some (.lst us):=s6 _ _ h3;let il6:=il3.mono s6;let e6:(sO m n).take (i+1)=(sO m n).take i++[wi]:=dm hwi;let ps:∀it:Item,it.2=red (x.1*wi) (x.2*(sO m n).sum)->kf (its++[it])=red (x.1*((sO m n).take (i+1)).sum) (x.2*(sO m n).sum):=λit e=>by
    rw[e6,List.sum_append];have:[wi].sum=wi:=by simp
    rw[this];exact Ov xp W0 isum e
   refine eM ((!decide (V.int (0+(i:Int))=V.int (m/4%(1+m%6))))&&decide (V.int (Builtin.bitAnd (m/16/2^(0+(i:Int)).toNat) 1)=V.int 1)) ?_ ?_ ?_
   ·intro c Z hz
    rw[c,yW] at hz;exists by show 0<=0+(i:Int);ext,?_
    change hz
   ·intro c;rw[c,yU]
   ·cases qv:((!decide (V.int (0+(i:Int))=V.int (m/4%(1+m%6))))&&decide (V.int (Builtin.bitAnd (m/16/2^(0+(i:Int)).toNat) 1)=V.int 1)) with
    | true=>
     let ne:(i:Int)≠m/4%(n:Int):=λz=>by
      rw[Int.zero_add,z,hn] at qv;simp at qv
     exists .inl {rfl,_,ao nD6},?_;exists cO,?_;intros p7 H7 s7 h7;refine{D,us,_,rfl,rfl,s7 _ _ nD6,(by have:=aS il3;ext),?_};left;let nt:cN (H7 D):=by rw[s7 _ _ nD6];exact λ_ z=>by cases z
     let it7:Is H7 (d5 (none,red (x.1*wi) (x.2*(sO m n).sum))) (.ref p7):=cW h7 (aU eB (aU (iV (s7 _ _ h6)) du));refine{its++[(none,red (x.1*wi) (x.2*(sO m n).sum))],_,_,_,rfl,bN nD ((s3.trans s6).trans s7),aF,?_,by rw[zh,il];rfl,λit hit=>?_,ps _ rfl,λz=>?_}
     ·rw[zk]
      exact dj (Is.upd nt it7) (aD.upd nt (il6.mono s7))
     ·rcases zI.mp hit with y | y
      ·exact iok it y
      ·rw[zC.mp y];exact{lk,λq z=>by cases z}
     ·rw[List.all_append,ino (),yU]
    | false=>
     exists .inl {rfl,_,ao nD6},?_;exists{(()),()},?_;exists zY m0 (),λpq p8 H8 pok s8 h8=>?_;exists cO,?_;intros p7 H7 s7 h7;let s67:=s8.trans s7;refine{D,us,_,rfl,rfl,s67 _ _ nD6,by have:=aS il3;ext,?_};left;let nt:cN (H7 D):=by rw[s67 _ _ nD6];exact λ_ z=>by cases z
     let it7:Is H7 (d5 (some pq,red (x.1*wi) (x.2*(sO m n).sum))) (.ref p7):=cW h7 (aU (iV (s7 _ _ h8)) (aU (iV (s67 _ _ h6)) du));refine{its++[(some pq,red (x.1*wi) (x.2*(sO m n).sum))],_,_,_,rfl,bN nD ((s3.trans s6).trans s67),aF,?_,by rw[zh,il];rfl,λit hit=>?_,ps _ rfl,λz=>?_}
     ·rw[zk]
      exact dj (Is.upd nt it7) (aD.upd nt (il6.mono s67))
     ·rcases zI.mp hit with y | y
      ·exact iok it y
      ·rw[zC.mp y];exact{lk,λq z=>by cases z;exact pok}
     ·rw[List.all_append];simp
  ·rintro U H3 ⟨its,us,v5,v6,rfl,s3,h3,il3,il,iok,isum,ino⟩
   left;refine kk its D us H3 {(),iok,?_,ino j0b} (s1.trans s3) nDH h3 il3;rw[isum,show(sO m n).take n=sO m n from xx (),MH xr W0]
noncomputable def Gj:List (Int×Int):=[(4,4),(3,4),(6,8),(2,2),(5,16),(7,8),(1,32),(12,1)]
def NZ (b:Sc.N5):Prop:=b.aV∈Gj/\-7<=b.key/\b.key<=7/\(∀n∈b.marks,gy n)/\⇑b.marks<=2
inductive vV (vs:List V) (H:Hp) (Q:VK) (E:XK):Prop
 | mk (c n:Int) (_:vs=[.int c,.int n]) (_:0<=n) (_:n<=200) (_:∀(bs:List Sc.N5) p us H',⇑bs=n.toNat->(∀b∈bs,NZ b)->aG H H'->H p=none->H' p=some (.lst us)->aD H' (bs.map lh) us->Q (.ref p) H')
theorem WM:∀jj:Nat,jj<7->∃z:Int,[V.int 0,V.int 0,V.int 0,V.int 0,V.int 0,V.int 1,V.int 2][jj]?=some (.int z)/\0<=z/\z<=2
 | 0,_=>{0,rfl,∅,∅}
 | 1,_=>{0,rfl,∅,∅}
 | 2,_=>{0,rfl,∅,∅}
 | 3,_=>{0,rfl,∅,∅}
 | 4,_=>{0,rfl,∅,∅}
 | 5,_=>{1,rfl,∅,∅}
 | 6,_=>{2,rfl,∅,∅}
def An:di P w base 2 T.mr vV:=by
 nomatch T.mr,["_law_cell","_law_many","_law_bars","_law_k","_law_m","_law_metre","_law_key","_law_marks"]
 let⟨c,n,rfl,n0,n1,kk⟩:=h;let sl:=yC;refine{_,(ag (bO 2 qN (bq af))
  (ag (cy yP rfl (dC (by rfl) T.de (aa (pv 1) af)) (jg 3 qN)
  (zf (zc (zS (bO 4 qN (bQ (cg T) hr T.cG (aa (pv 0) (aa (aB bf (pv 3) ae) af)))))
   (zc (WK 5 qN (Rh Gj (aB aX (pv 4) ae) (λ_ _=>rfl)))
   (zc (zS (bO 6 qN (aB iC (aB aX (aB aZ (pv 4) ae) ae) ae)))
   (zc (zS (aM (PW.pt (dF (ptr fE (pv 3) ae) (cZ (ptr fE (aB aX (aB aZ (pv 4) ae) ae) ae))))
   (ak (bO 5 qN (bJ (fB (pv 2) (mI iw ae)) ae)))
   aC))
   (zc (zS (aM (PW.pt (dF (ptr fE (pv 3) ae) (cZ (ptr fE (aB aX (aB aZ (pv 4) ae) ae) ae))))
   (ak (bO 6 qN (bJ (fB (pv 2) (mI iw ae)) ae)))
   aC))
   (zc (zS (bO 7 qN (nV dR T.lU (aa (bQ (gD T) hr T.fH (aa (aB aZ (pv 4) ae) (aa (fB (bq (aa ae (aa ae (aa ae (aa ae (aa ae (aa ae (aa ae af)))))))) (aB aX (aB aZ (pv 4) ae) ae)) af))) af))))
   (zo (zS (bu (bZ yD yF yE bF (pv 2) (aa (bM (aa (pv 5) (aa (pv 6) (aa (pv 7) af)))) af)))))))))))))
  (ak (au (pv 2))))),?_}
 ac_rfl;left
 intros D nD s2 h2 H2
 exists by ext,(),?_
 refine gH (λi U H'=>∃(bs:List Sc.N5) (us:List V),Lo [some (.int c),some (.int n),some (.ref D)] 5 U/\aG H H'/\H' D=some (.lst us)/\aD H' (bs.map lh) us/\⇑bs=i/\∀b∈bs,NZ b)
  {[],[],Lo.of rfl rfl,s2,h2,du,rfl,by simp} ?_ ?_
 ·intro i U H3 hi hh
  refine cT λN kN0 kR0 _ _=>?_;let⟨bs,us,⟨e,rfl⟩,s3,h3,il3,bl,bok⟩:=hh;exists c,_,rfl,(),(),?_;let m0:0<=mixed c (0+(i:Int)+20):=zA _ ∅;let m1:mixed c (0+(i:Int)+20)<2147483399:=zw _ ∅;generalize mixed c (0+(i:Int)+20)=m at m0 m1;let a0:0<=m%8:=zA _ ∅;let a1:m%8<8:=zw _ ∅;let b0:0<=m/8%15:=zA _ ∅;let b1:m/8%15<15:=zw _ ∅;left;intro D4 vs4 H4 s4 h4 il4;left;obtain⟨j,hj⟩:∃j:Nat,m%8=(j:Int):={(m%8).toNat,()}
  let vl4:=aS il4;let jl:j<⇑vs4:=by rw[vl4];show j<8;ext
  let⟨mx,hmx,imx⟩:=cV (d:=dL) il4 (i:=j) (zd jl);generalize hmv:vs4[j]=mv at imx;let h3':=s4 _ _ h3;let il3':=il3.mono s4;refine{D4,vs4,m%8,mv,rfl,rfl,ao h4,(by rw[hj];exact bx (by rw[<-hmv];exact zd jl)),?_};left;let lastB:0<(i:Int)->∃b a mt q,us[⇑us-1]?=some (.ref a)/\H4 a=some (.tup [mt,.int b.key,.ref q])/\Is H4 (dL b.aV) mt/\b∈bs:=λip=>by
   let ul:=aS il3';let⟨b,hb,ib⟩:=cV il3' (i:=⇑us-1) (zd ());let⟨a,mt,q,ea,ha,hm,_⟩:=AS ib;exact{b,a,mt,q,by rw[<-ea];exact zd (),ha,hm,zE hb}
  refine eM (decide (0<0+(i:Int))&&decide (0<m/120%4)) ?_ ?_ ?_
  ·intro c1 Z hz
   rw[c1,yW] at hz;change hz
  ·intro c1;rw[c1,yU]
  refine join (λU H'=>H'=H4/\∃mv x,U=[some (.int c),some (.int n),some (.ref D),some (.int (0+(i:Int))),some (.int m),some mv,some (.int (m/8%15-7)),e 4]/\Is H4 (dL x) mv/\x∈Gj) (λN hN c1=>?_) (λN hN c1=>?_) ?_
  ·let ip:0<(i:Int):=by simp at c1;ext
   let⟨b,a,mt,q,hl,ha,hm,hb⟩:=lastB ip;exists D,us,-1,_,rfl,rfl,ao h3',sF hl,?_;change hN _ _ {rfl,mt,b.aV,rfl,hm,(bok b hb).1}
  ·left
   exact hN _ _ {rfl,mv,mx,rfl,imx,zE hmx}
  clear imx hmv;rintro σ5 H5 ⟨e5,mv,x,rfl,imv,hx⟩;rw[e5];clear e5 H5;left;refine eM (decide (0<0+(i:Int))&&decide (0<m/480%5)) ?_ ?_ ?_
  ·intro c1 Z hz
   rw[c1,yW] at hz;change hz
  ·intro c1;rw[c1,yU]
  refine join (λU H'=>H'=H4/\∃k:Int,U=[some (.int c),some (.int n),some (.ref D),some (.int (0+(i:Int))),some (.int m),some mv,some (.int k),e 4]/\-7<=k/\k<=7) (λN hN c1=>?_) (λN hN c1=>?_) ?_
  ·let ip:0<(i:Int):=by simp at c1;ext
   let⟨b,a,mt,q,hl,ha,hm,hb⟩:=lastB ip;exists D,us,-1,_,rfl,rfl,ao h3',sF hl,?_;change hN _ _ {rfl,b.key,rfl,(bok b hb).2.1,(bok b hb).2.2.1}
  ·left
   exact hN _ _ {rfl,m/8%15-7,rfl,(),()}
  rintro σ5 H5 ⟨e5,k,rfl,k0,k1⟩;rw[e5];clear e5 H5;exists by show 7<=sizeLine;ext,?_
  intros p6 H6 s6 h6;let g0:0<=m/33600%7:=zA _ ∅;let g1:m/33600%7<7:=zw _ ∅;obtain⟨jj,hjj⟩:∃j:Nat,m/33600%7=(j:Int):={(m/33600%7).toNat,()}
  let⟨z,hz,z0,z1⟩:=WM jj ();exists p6,_,m/33600%7,.int z,rfl,rfl,ao h6,(by rw[hjj];exact bx hz),?_;left;refine{_,z,rfl,zY m0 ∅,?_,z0,(),λns p7 H7 nl nok s7 h7=>?_}
  ·have:=zZ (a:=m) 2400 m0;ext
  left;refine{p7,_,rfl,.inl {ao h7,?_}};intros p8 H8 s8 h8;let s48:=(s6.trans s7).trans s8;let h38:=s48 _ _ h3';exists .inl {rfl,_,ao h38},?_;exists km,?_;intros p9 H9 s9 h9;refine{D,us,_,rfl,rfl,s9 _ _ h38,(by have:=aS il3;ext),?_};left;let s49:=s48.trans s9;let nt:cN (H9 D):=by rw[s9 _ _ h38];exact λ_ z=>by cases z
  let ib:Is H9 (lh {(x),k,ns}) (.ref p9):=cW h9 (aU (imv.mono s49) (aU cX (aU (cW (s9 _ _ h8) (IU ns)) du)));refine{bs++[{(x),k,ns}],_,Lo.of rfl rfl,bN nD ((s3.trans s4).trans s49),aF,?_,by rw[zh,bl];rfl,λb hb=>?_}
  ·rw[zk]
   exact dj (Is.upd nt ib) (aD.upd nt (il3'.mono s49))
  ·rcases zI.mp hb with y | y
   ·exact bok b y
   ·rw[zC.mp y]
    exact{hx,k0,k1,nok.1,by show ⇑ns<=2;ext}
 ·rintro U H3 ⟨bs,us,⟨e,rfl⟩,s3,h3,il3,bl,bok⟩
  change kk bs D us H3 bl bok s3 nD h3 il3
inductive qY (vs:List V) (H:Hp) (Q:VK) (E:XK):Prop
 | mk (bl:vD) (us:List V) (S:cq) (ub:V) (b:Nat) (_:vs=[.ref bl,ub,.int b]) (_:H bl=some (.lst us)) (_:aD H (S.aO.map lh) us) (_:Is H (dO dL S.aL) ub) (_:b<⇑S.aO) (_:(∀x∈S.aO,NZ x)) (_:∀p H',aG H H'->H' p=some (fY (S.len b))->Q (.ref p) H')
def jY {x:Int×Int} (h:x∈Gj):1<=x.1/\x.1<=12/\x.2∈Ej/\1<=x.2/\x.2<=32:=by
 unfold Gj at h;simp only[zF,zG,yV] at h;rcases h with rfl | rfl | rfl | rfl | rfl | rfl | rfl | rfl <;> decide
def rQ:di P w base 2 T.jJ qY:=by
 nomatch T.jJ,["_law_bars","_law_upbeat","_law_bar"]
 let⟨bl,us,S,ub,b,rfl,hbl,il,iu,hb,bok,kk⟩:=h;let ul:=aS il;let⟨x,hx,ix⟩:=cV il (i:=b) (zd ());let⟨a1,mv,q,ev,h1,im,_⟩:=AS ix;let⟨m1,m2,m3,m4,m5⟩:=jY (bok x (zE hx)).1;let em:S.aV b=red x.aV.1 x.aV.2:=by unfold cq.aV;rw[hx]
 cases eO (o:=some x.aV) im with
 | ref hm=>
 rename_i am;refine{_,(ag (aM (PW.pt (dF (ptr c9 (pv 2) ae) (cZ (bH (fh (pv 1))))))
  (ak (au (pv 1)))
  aC)
  (ak (au (bQ (gi T) hr T.fV (aa (bJ (bJ (fB (pv 0) (pv 2)) ae) ae) (aa (bJ (bJ (fB (pv 0) (pv 2)) ae) ae) af)))))),?_}
 ac_rfl;left;let nz:∀H1,Is H1 (dO dL S.aL) ub->(!decide (ub=V.bT))=S.aL.isSome:=λH1 z=>by
  cases q:S.aL with
  | none=>rw[q] at z;unfold dO Is at z;rw[z];rfl
  | some u=>
   rw[q] at z;cases eO (o:=some u) z with
   | ref hu=>rfl
 refine eM (decide (V.int (b:Int)=V.int 0)&&S.aL.isSome) ?_ ?_ ?_
 ·intro c Z hz
  rw[c,yW,<-nz H iu] at hz;change hz
 ·intro c;rw[c,yU]
 ·cases qv:(decide (V.int (b:Int)=V.int 0)&&S.aL.isSome) with
  | true=>
   rw[zQ] at qv;let b0:b=0:=by have:=V.int.inj (yf qv.1);ext
   cases q:S.aL with
   | none=>rw[q] at qv;cases qv.2
   | some u=>
    rw[q] at iu;cases eO (o:=some u) iu with
    | ref hu=>
     left;refine kk _ _ (aI _) ?_;unfold cq.len;rw[q];simp only[b0,vf];exact hu
  | false=>
   let el:S.len b=S.aV b:=by
    unfold cq.len;cases q:S.aL with
    | none=>rfl
    | some u=>
     rw[q] at qv;have:b≠0:=λz=>by rw[z] at qv;simp at qv
     simp only[yN this]
   rw[el,em] at kk;left;refine{bl,us,b,_,rfl,rfl,ao hbl,bx (zd ()),?_};rw[ev];left;refine{bl,us,b,_,rfl,rfl,ao hbl,bx (zd ()),?_};rw[ev];change{_,_,rfl,(),(),(bR (n:=10) () ()).mono ∅,kk}
inductive tf (vs:List V) (H:Hp) (Q:VK) (E:XK):Prop
 | mk (c many:Int) (pp ip:vD) (ps:List Str) (ins:List (Str×(Int×Int)×(Int×Int))) (iv:List V) (_:vs=[.int c,.ref pp,.ref ip,.int many]) (_:H pp=some (.lst (ps.map V.str))) (_:H ip=some (.lst iv)) (_:aD H (ins.map eP) iv) (_:⇑ps<=100) (_:⇑ins<=100) (_:many<=200) (_:∀(hs:List (Str×List (Int×Str))) D us H',List.Sublist (hs.map (·.1)) ps->(∀x∈hs,Mu (ins.map (·.1)) many x.2)->aG H H'->H' D=some (.lst us)->RL (jM D H') hs us->Q (.ref D) H')
def Nc {H:Hp} {x:Str×(Int×Int)×(Int×Int)} {v:V} (h:Is H (eP x) v):∃a t l,v=.ref a/\H a=some (.tup [.str x.1,t,l]):=by
 unfold eP Is at h;let⟨a,vs,rfl,ha,hl⟩:=h;unfold aD at hl;let⟨v1,r1,rfl,h1,hl⟩:=hl;unfold aD at hl;let⟨v2,r2,rfl,h2,hl⟩:=hl;unfold aD at hl;let⟨v3,r3,rfl,h3,hl⟩:=hl;unfold aD at hl;subst hl;unfold Is at h1;subst h1;exact{(a),v2,v3,rfl,ha}
def tT:di P w base 2 T.kK tf:=by
 nomatch T.kK,["_law_cell","_law_players","_law_instruments","_law_many","_law_holds","_law_k","_law_player","_law_row","_law_bar","_law_j","_law_m"]
 let⟨c,many,pp,ip,ps,ins,iv,rfl,hpp,hip,ili,pl,il0,my,kk⟩:=h;let sl:=yC;let ivl:=aS ili;refine{_,(ag (bO 4 qN (bq af))
  (ag (cy yP rfl (rH (by rfl) T.hJ (aa (pv 1) af)) (d6 (n:=2) rfl (aQ (jg 5 qN) (aQ (jg 6 qN) dr)))
  (ag (bO 7 qN (bq af))
   (ag (bO 8 qN ae)
   (ag (cy yP rfl (dC (by rfl) T.de (aa ae af)) (jg 9 qN)
   (ag (bO 10 qN (bQ (cg T) hr T.cG (aa (pv 0) (aa (aB bf (aB bf (aB d9 ae (pv 5)) (pv 9)) ae) af))))
    (ag (bO 8 qN (aB bf (pv 8) (aB aX (pv 10) ae)))
    (ag (aM (PW.pt (dF (ptr eX (pv 8) (pv 3)) (dF (ptr fE (d7 aH T.bP (aa (pv 2) af)) ae) (cZ (ptr fE (aB aX (aB aZ (pv 10) ae) ae) ae)))))
    (ak (bu (bZ yD yF yE bF (pv 7) (aa (bM (aa (pv 8) (aa (bJ (fB (pv 2) (aB aX (aB aZ (pv 10) ae) (d7 aH T.bP (aa (pv 2) af)))) ae) af))) af))))
    aC)
    (ak (bO 8 qN (aB bf (pv 8) ae)))))))
   (ak (aM (ptr (KI hr.units) (pv 7) (bq af))
   (ak (bu (bZ yD yF yE bF (pv 4) (aa (bM (aa (pv 6) (aa (pv 7) af))) af))))
   aC))))))
  (ak (au (pv 4))))),?_}
 ac_rfl;left
 intros D nD s2 h2 H2
 exists pp,_,rfl,ao (s2 _ _ hpp),?_;refine oh (K:=K) (a:=pp) (xs:=ps.map V.str) (λi U H'=>∃(hs:List (Str×List (Int×Str))) (us:List V),Lo [some (.int c),some (.ref pp),some (.ref ip),some (.int many),some (.ref D)] 6 U/\aG H H'/\H' D=some (.lst us)/\RL (jM D H') hs us/\List.Sublist (hs.map (·.1)) (ps.take i)/\(∀x∈hs,Mu (ins.map (·.1)) many x.2)/\⇑hs<=i)
  {[],[],Lo.of rfl rfl,s2,h2,rfl,List.nil_sublist _,by simp,zm _} (λi U H' _ h=>by let⟨_,_,_,z,_⟩:=h;exact ao (z _ _ hpp)) ?_ ?_
 ·intro i x U H3 p H4 hx hh s34 hp4
  refine cT λN kN0 kR0 _ _=>?_;let⟨hs,us,⟨e,rfl⟩,s3,h3,rl3,sub,rok,hl⟩:=hh;rw[zM] at hx;cases qr:ps[i]? with
  | none=>rw[qr] at hx;cases hx
  | some pn=>
  rw[qr] at hx;simp only[xn,xN] at hx;subst hx;refine{p,_,rfl,bC hp4,rfl,?_};refine{_,_,rfl,{_,_,rfl,{rfl,?_}}};left
  intros R nR s5 h5 H5
  exists by decide,(by decide),?_
  refine gH (λj U H'=>∃(row:List (Int×Str)) (ws:List V) (bar:Int) (v9 va:Option V),U=[some (.int c),some (.ref pp),some (.ref ip),some (.int many),some (.ref D),some (.int (i:Int)),some (.str pn),some (.ref R),some (.int bar),v9,va]/\aG H4 H'/\H' R=some (.lst ws)/\aD H' (row.map Le) ws/\0<=bar/\⇑row<=j/\(row.map (·.1)).Pairwise (·<·)/\
   ∀h∈row,0<=h.1/\h.1<many/\h.2∈ins.map (·.1)/\h.1<bar) {[],[],0,e 4,e 5,rfl,s5,h5,du,∅,by simp,by simp,by simp} ?_ ?_
  ·intro j U H6 hj hh
   refine cT λN kN1 kR1 _ _=>?_;let⟨row,ws,bar,v9,va,rfl,s6,h6,il6,b0,rl,asc,rin⟩:=hh;let s06:=(s3.trans s34).trans s6;left;let ib:i<⇑ps:=(zB.mp qr).1;refine{c,_,rfl,(),(),?_};let m0:0<=mixed c (7*(i:Int)+(0+(j:Int))+60):=zA _ ∅;let m1:mixed c (7*(i:Int)+(0+(j:Int))+60)<2147483399:=zw _ ∅;generalize mixed c (7*(i:Int)+(0+(j:Int))+60)=m at m0 m1;let a0:0<=m%5:=zA _ ∅;left;let hip6:=s06 _ _ hip;refine eM (decide (bar+m%5<many)&&(decide (0<(⇑ins:Int))&&decide (0<m/5%3))) ?_ ?_ ?_
   ·intro c1 Z hz
    rw[c1,yW] at hz;exists ip,iv,rfl,.inl (ao hip6),?_;rw[ivl];left;refine eM (decide (0<(⇑ins:Int))&&decide (0<m/5%3)) ?_ ?_ hz
    ·intro c2 Z hz
     rw[c2,yW] at hz;change hz
    ·intro c2;rw[c2,yU]
   ·intro c1;rw[c1,yU]
   refine join (λU H'=>∃(row:List (Int×Str)) (ws:List V),U=[some (.int c),some (.ref pp),some (.ref ip),some (.int many),some (.ref D),some (.int (i:Int)),some (.str pn),some (.ref R),some (.int (bar+m%5)),some (.int (0+(j:Int))),some (.int m)]/\aG H4 H'/\H' R=some (.lst ws)/\aD H' (row.map Le) ws/\⇑row<=j+1/\(row.map (·.1)).Pairwise (·<·)/\
    ∀h∈row,0<=h.1/\h.1<many/\h.2∈ins.map (·.1)/\h.1<bar+m%5+1) (λN hN c1=>?_) (λN hN c1=>?_) ?_
   ·simp only[zQ,xE] at c1
    let⟨c1,c2,c3⟩:=c1;let d0:0<=m/15%(⇑ins:Int):=zA _ ();let d1:m/15%(⇑ins:Int)<⇑ins:=zw _ ();obtain⟨jj,hjj⟩:∃jj:Nat,m/15%(⇑ins:Int)=(jj:Int):={(m/15%(⇑ins:Int)).toNat,()}
    let⟨nx,hnx,inx⟩:=cV (d:=eP) (ili.mono s06) (i:=jj) (zd ());let⟨ai,ti,li,ea,hai⟩:=Nc inx;exists .inl {rfl,_,ao h6},?_;exists ip,iv,rfl,.inl (ao hip6),?_;rw[ivl];exists by show 0<(⇑ins:Int);ext,?_
    refine{ip,iv,_,_,rfl,rfl,ao hip6,(by rw[hjj];exact bx (zd ())),?_};rw[ea];exists cO,?_;intros p7 H7 s7 h7;refine{R,ws,_,rfl,rfl,s7 _ _ h6,(by have:=aS il6;ext),?_};left;let nt:cN (H7 R):=by rw[s7 _ _ h6];exact λ_ z=>by cases z
    refine hN _ _ {row++[(bar+m%5,nx.1)],_,rfl,bN nR (s6.trans s7),aF,?_,by rw[zh];simp;ext,?_,λh hh=>?_}
    ·rw[zk]
     exact dj (Is.upd nt (cW h7 (aU cX (aU fu du)))) (aD.upd nt (il6.mono s7))
    ·rw[zk,zW]
     refine{asc,by simp,λx hx y hy=>?_};let⟨h',hh',rfl⟩:=zJ.mp hx;let ey:y=bar+m%5:=by simpa using hy
     have:=(rin h' hh').2.2.2;ext
    ·rcases zI.mp hh with z | z
     ·have:=rin h z
      exact{(this.1),this.2.1,this.2.2.1,()}
     ·rw[zC.mp z]
      exact{by show 0<=bar+m%5;ext,c1,zR (f:=λx:Str×(Int×Int)×(Int×Int)=>x.1) (zE hnx),by show bar+m%5<bar+m%5+1;ext}
   ·left
    refine hN _ _ {row,ws,rfl,s6,h6,il6,(),asc,λh hh=>?_};have:=rin h hh;exact{(this.1),this.2.1,this.2.2.1,()}
   rintro σ7 H7 ⟨row,ws,rfl,s7,h7,il7,rl7,asc7,rin7⟩;change{row,ws,bar+m%5+1,_,_,rfl,s7,h7,il7,(),rl7,asc7,rin7}
  ·rintro U H6 ⟨row,ws,bar,v9,va,rfl,s6,h6,il6,b0,rl,asc,rin⟩
   let s06:=(s3.trans s34).trans s6;let h36:=s6 _ _ (s34 _ _ h3);let rl6:RL (jM D H6) hs us:=rl3.imp λx v z=>(z.mono s34).mono s6;let ne:R≠D:=λz=>by rw[z,s34 _ _ h3] at nR;cases nR
   let ib:i<⇑ps:=(zB.mp qr).1;let tk:ps.take (i+1)=ps.take i++[pn]:=dm qr;exists by show 0<=sizeLine;ext,?_
   intros p7 H7 s7 h7;refine{R,p7,ws,[],rfl,rfl,.inl {ao (s7 _ _ h6),ao h7},.inr (.inl rfl),?_};let wr:=aS il6;let s07:=s06.trans s7
   by_cases e:ws=[]
   ·rw[zg e]
    left;refine{hs,us,Lo.of rfl rfl,s07,s7 _ _ h36,rl6.imp λx v z=>z.mono s7,?_,rok,()};rw[tk];exact sub.trans (List.sublist_append_left _ _)
   ·rw[ze e]
    let rne:row≠[]:=λz=>e (by rw[z] at wr;exact yu.mp wr);exists .inl {rfl,_,ao (s7 _ _ h36)},?_;exists cO,?_;intros p8 H8 s8 h8;let s78:=s7.trans s8;let h38:=s78 _ _ h36;refine{D,us,_,rfl,rfl,h38,by have:=rl3.len;ext,?_};left;refine{hs++[(pn,row)],_,Lo.of rfl rfl,bN nD (s06.trans s78),aF,?_,?_,λx hx=>?_,by rw[zh];simp;ext}
    ·refine RL.snoc ?_ (rl6.imp λx v z=>(z.mono s78).upd h38)
     exact jM.upd h38 {p8,R,ws,rfl,h8,s78 _ _ h6,il6.mono s78,ne}
    ·rw[zk,tk]
     exact sub.append (List.Sublist.refl _)
    ·rcases zI.mp hx with z | z
     ·exact rok x z
     ·rw[zC.mp z]
      exact{rne,rl,asc,λh hh=>{(rin h hh).1,(rin h hh).2.1,(rin h hh).2.2.1}}
 ·rintro U H3 ⟨hs,us,⟨e,rfl⟩,s3,h3,rl3,sub,rok,hl⟩
  rw[za,zP] at sub;change kk hs D us H3 sub rok s3 h3 rl3
def Hi (S:cq) (ns:List ((Int×Str)×List Item)):Prop:=(ns.map (·.1)).Nodup/\∀x∈ns,0<=x.1.1/\x.1.1<⇑S.aO/\x.1.2∈S.az/\Hj x.2 (S.len x.1.1.toNat)
inductive sX (vs:List V) (H:Hp) (Q:VK) (E:XK):Prop
 | mk (c:Int) (pp bl:vD) (S:cq) (bv:List V) (ub:V) (_:vs=[.int c,.ref pp,.ref bl,ub]) (_:H pp=some (.lst (S.az.map V.str))) (_:H bl=some (.lst bv)) (_:aD H (S.aO.map lh) bv) (_:Is H (dO dL S.aL) ub) (_:⇑S.az<=9) (_:S.az.Nodup) (_:⇑S.aO<=200) (_:(∀x∈S.aO,NZ x)) (_:(∀b:Nat,b<⇑S.aO->LB (S.len b))) (_:∀(ns:List ((Int×Str)×List Item)) D us H',Hi S ns->⇑ns<=9*⇑S.aO->aG H H'->H' D=some (.lst us)->RL (iH D H') ns us->Q (.ref D) H')
def tR:di P w base 3 T.kI sX:=by
 nomatch T.kI,["_law_cell","_law_players","_law_bars","_law_upbeat","_law_notes","_law_bar","_law_k","_law_player","_law_m","_law_often","_law_run"]
 let⟨c,pp,bl,S,bv,ub,rfl,hpp,hbl,ilb,iub,pl,pnd,bl2,bok,lok,kk⟩:=h;let sl:=yC;let bvl:=aS ilb;refine{_,(ag (bO 4 qN (bq af))
  (ag (cy yP rfl (dC (by rfl) T.de (aa (d7 aH T.bP (aa (pv 2) af)) af)) (jg 5 qN)
  (ak (cy yP rfl (rH (by rfl) T.hJ (aa (pv 1) af)) (d6 (n:=2) rfl (aQ (jg 6 qN) (aQ (jg 7 qN) dr)))
   (ag (bO 8 qN (bQ (cg T) hr T.cG (aa (pv 0) (aa (aB bf (aB bf (aB d9 ae (pv 6)) (pv 5)) ae) af))))
    (ag (bO 9 qN (aB aX (bQ (cg T) hr T.cG (aa (pv 0) (aa (aB bf (pv 6) ae) af))) ae))
    (ag (bO 10 qN (aB aX (bQ (cg T) hr T.cG (aa (pv 0) (aa (aB bf (aB bf (aB d9 ae (pv 6)) (aB aZ (pv 5) ae)) ae) af))) ae))
    (ak (aM (PW.pt (dF (ptr fQ (aB aX (pv 8) ae) (pv 9)) (cZ (ptr fE (pv 10) ae))))
    (ak (bu (bZ yD yF yE bF (pv 4) (aa (bM (aa (pv 5) (aa (pv 7) (aa (bQ (tS T) hr T.kJ (aa (aB aZ (pv 8) ae) (aa (bQ (rQ T) hr T.jJ (aa (pv 2) (aa (pv 3) (aa (pv 5) af)))) af))) af)))) af))))
    aC))))))))
  (ak (au (pv 4))))),?_}
 ac_rfl;left
 intros D nD s2 h2 H2
 exists bl,bv,rfl,.inl (ao (s2 _ _ hbl)),?_;rw[bvl];exists by ext,(),?_
 rw[show((⇑S.aO:Int)).toNat=⇑S.aO from by ext];refine gH (λi U H'=>∃(ns:List ((Int×Str)×List Item)) (us:List V),Lo [some (.int c),some (.ref pp),some (.ref bl),some ub,some (.ref D)] 6 U/\aG H H'/\H' D=some (.lst us)/\RL (iH D H') ns us/\Hi S ns/\(∀x∈ns,x.1.1<i)/\⇑ns<=9*i)
  {[],[],Lo.of rfl rfl,s2,h2,rfl,{by simp,by simp},by simp,by simp} ?_ ?_
 ·intro i U H3 hi hh
  refine cT λN kN0 kR0 _ _=>?_;let⟨ns,us,⟨e,rfl⟩,s3,h3,rl3,nok,nlt,nl⟩:=hh;exists pp,_,rfl,ao (s3 _ _ hpp),?_;refine oh (K:=K) (a:=pp) (xs:=S.az.map V.str) (λj U H'=>∃(ns:List ((Int×Str)×List Item)) (us:List V),Lo [some (.int c),some (.ref pp),some (.ref bl),some ub,some (.ref D),some (.int (0+(i:Int)))] 5 U/\aG H H'/\H' D=some (.lst us)/\RL (iH D H') ns us/\Hi S ns/\(∀x∈ns,x.1.1<i\/(x.1.1=i/\x.1.2∈S.az.take j))/\⇑ns<=9*i+j)
   {ns,us,Lo.of rfl rfl,s3,h3,rl3,nok,λx hx=>.inl (nlt x hx),()} (λi U H' _ h=>by let⟨_,_,_,z,_⟩:=h;exact ao (z _ _ hpp)) ?_ ?_
  ·intro j x U H4 p H5 hx hh s45 hp5
   refine cT λN kN1 kR1 _ _=>?_;let⟨ns,us,⟨e,rfl⟩,s4,h4,rl4,nok,nlt,nl⟩:=hh;rw[zM] at hx;cases qr:S.az[j]? with
   | none=>rw[qr] at hx;cases hx
   | some pn=>
   rw[qr] at hx;simp only[xn,xN] at hx;subst hx;let jb:j<⇑S.az:=(zB.mp qr).1;let s05:=s4.trans s45;let h45:=s45 _ _ h4;let rl5:RL (iH D H5) ns us:=rl4.imp λx v z=>z.mono s45;let tk:S.az.take (j+1)=S.az.take j++[pn]:=dm qr;refine{p,_,rfl,bC hp5,rfl,?_};refine{_,_,rfl,{_,_,rfl,{rfl,?_}}};exists c,_,rfl,(),(),?_;let m0:0<=mixed c (97*(j:Int)+(0+(i:Int))+100):=zA _ ∅;let m1:mixed c (97*(j:Int)+(0+(i:Int))+100)<2147483399:=zw _ ∅;generalize mixed c (97*(j:Int)+(0+(i:Int))+100)=m at m0 m1;exists c,_,rfl,(),(),?_;left;refine{c,_,rfl,?_,?_,?_}
   ·have:=zY (a:=0+(i:Int)) (b:=4) () ∅;ext
   ·have:=zZ (a:=0+(i:Int)) 4 ();ext
   generalize mixed c (31*(j:Int)+(0+(i:Int))/4+400)=m3;generalize mixed c ((j:Int)+90)=m2;left;refine eM (decide (m%6<=m2%5)&&decide (0<m3%3)) ?_ ?_ ?_
   ·intro c1 Z hz
    rw[c1,yW] at hz;change hz
   ·intro c1;rw[c1,yU]
   cases qv:(decide (m%6<=m2%5)&&decide (0<m3%3)) with
   | true=>
    exists .inl {rfl,_,ao h45},?_;exists bl,bv,S,ub,i,(by simp),s05 _ _ hbl,ilb.mono s05,iub.mono s05,hi,bok,λp6 H6 s6 h6=>?_;refine{_,_,p6,rfl,h6,zY m0 ∅,?_,lok i hi,λits p7 ws H7 iok s7 n7 h7 il7=>?_}
    ·have:=zZ (a:=m) 6 m0;ext
    let s57:=s6.trans s7;let ne:p7≠D:=λz=>by rw[z,s6 _ _ h45] at n7;cases n7
    exists km,?_;intros p8 H8 s8 h8;let s58:=s57.trans s8;let h48:=s58 _ _ h45;refine{D,us,_,rfl,rfl,h48,by have:=rl4.len;ext,?_};left;let fr:((0+(i:Int),pn):Int×Str)∉ns.map (·.1):=λz=>by
     let⟨y,hy,ey⟩:=zJ.mp z;rcases nlt y hy with q | ⟨_,q2⟩
     ·rw[ey] at q;dsimp only at q;ext
     ·rw[ey] at q2
      dsimp only at q2;let nd:=List.Nodup.sublist (List.take_sublist (j+1) S.az) pnd;rw[tk,zV] at nd;exact nd.2.2 pn q2 pn (zC.mpr rfl) rfl
    refine{ns++[((0+(i:Int),pn),its)],_,Lo.of rfl rfl,bN nD (s05.trans s58),aF,?_,{?_,λx hx=>?_},λx hx=>?_,by rw[zh];simp;ext}
    ·refine RL.snoc ?_ (rl5.imp λx v z=>(z.mono s58).upd h48)
     exact iH.upd h48 {p8,p7,ws,rfl,h8,s8 _ _ h7,il7.mono s8,ne}
    ·rw[zk,zV]
     exact{nok.1,by simp,λx hx y hy e=>by
      have:y=(0+(i:Int),pn):=by simpa using hy
      rw[<-e] at this;exact fr (this▸hx)}
    ·rcases zI.mp hx with z | z
     ·exact nok.2 x z
     ·rw[zC.mp z]
      refine{by show 0<=0+(i:Int);ext,by show 0+(i:Int)<⇑S.aO;ext,zE qr,?_};show Hj its (S.len (0+(i:Int)).toNat);rw[show(0+(i:Int)).toNat=i from by ext];exact iok
    ·rcases zI.mp hx with z | z
     ·rcases nlt x z with q | ⟨q1,q2⟩
      ·exact .inl q
      ·exact .inr {q1,by rw[tk];exact zL _ q2}
     ·rw[zC.mp z]
      exact .inr {by show 0+(i:Int)=i;ext,by rw[tk];exact zK _ (zC.mpr rfl)}
   | false=>
    left;refine{ns,us,Lo.of rfl rfl,s05,h45,rl5,nok,λx hx=>?_,()};rcases nlt x hx with z | ⟨z1,z2⟩
    ·exact .inl z
    ·exact .inr {z1,by rw[tk];exact zL _ z2}
  ·rintro U H4 ⟨ns,us,⟨e,rfl⟩,s4,h4,rl4,nok,nlt,nl⟩
   rw[za] at nlt nl;left;refine{ns,us,Lo.of rfl rfl,s4,h4,rl4,nok,λx hx=>?_,()};rcases nlt x hx with z | ⟨z1,z2⟩
   ·ext
   ·ext
 ·rintro U H3 ⟨ns,us,⟨e,rfl⟩,s3,h3,rl3,nok,nlt,nl⟩
  change kk ns D us H3 nok () s3 h3 rl3
def VM (ins:List (Str×(Int×Int)×(Int×Int))):Prop:=⇑ins<=3/\JV (ins.map (·.1))/\∀x∈ins,Qv x.2.1/\-12<=x.2.1.1/\x.2.1.1<=12/\Lm.Rd x.2.2/\x.2.2.1<10000/\x.2.2.2<10000
def Kb (n:Int):Qv (n%25-12,7*(n%25-12)%12+12*(n/25%5-2))/\-12<=n%25-12/\n%25-12<=12:=by
 let a:=zA n (b:=25) ∅;let b:=zw n (b:=25) ∅;let c:=zA (n/25) (b:=5) ∅;let d:=zw (n/25) (b:=5) ∅;unfold Qv;dsimp only;ext
def lF:Sp:=λvs H Q _=>∃(c:Int),vs=[.int c]/\∀(ins:List (Str×(Int×Int)×(Int×Int))) D us H',VM ins->aG H H'->H' D=some (.lst us)->aD H' (ins.map eP) us->Q (.ref D) H'
theorem WN:∀jj:Nat,jj<5->∃z:Int,[V.int 1,V.int 2,V.int 4,V.int 8,V.int 3][jj]?=some (.int z)/\0<z/\z<=8
 | 0,_=>{1,rfl,∅,∅}
 | 1,_=>{2,rfl,∅,∅}
 | 2,_=>{4,rfl,∅,∅}
 | 3,_=>{8,rfl,∅,∅}
 | 4,_=>{3,rfl,∅,∅}
def lS:di P w base 2 T.fw lF:=by
 nomatch T.fw,["_law_cell","_law_m","_law_instruments","_law_k","_law_name","_law_n","_law_df","_law_turn"]
 let⟨c,rfl,kk⟩:=h;let sl:=yC;refine{_,(ag (bO 1 qN (bQ (cg T) hr T.cG (aa (pv 0) (aa ae af))))
  (ag (bO 2 qN (bq af))
  (ag (cy yP rfl (rH (by rfl) T.hJ (aa (bQ (gD T) hr T.fH (aa (aB aZ (pv 1) ae) (aa (aB aX (pv 1) ae) af))) af)) (d6 (n:=2) rfl (aQ (jg 3 qN) (aQ (jg 4 qN) dr)))
  (ag (bO 5 qN (bQ (cg T) hr T.cG (aa (pv 0) (aa (aB bf (pv 3) ae) af))))
   (ag (bO 6 qN (aB iC (aB aX (pv 5) ae) ae))
   (ag (bO 7 qN (bM (aa (pv 6) (aa (aB bf (aB aX (aB d9 ae (pv 6)) ae) (aB d9 ae (aB iC (aB aX (aB aZ (pv 5) ae) ae) ae))) af))))
   (ak (bu (bZ yD yF yE bF (pv 2) (aa (bM (aa (pv 4) (aa (pv 7) (aa (bQ (gi T) hr T.fV (aa (aB aX (aB aZ (pv 5) ae) ae) (aa (fB (bq (aa ae (aa ae (aa ae (aa ae (aa ae af)))))) (aB aX (aB aZ (pv 5) ae) ae)) af))) af)))) af))))))))
  (ak (au (pv 2)))))),?_}
 ac_rfl;exists c,8,rfl,(),(),?_;let m0:0<=mixed c 8:=zA _ ∅;let m1:mixed c 8<2147483399:=zw _ ∅;generalize mixed c 8=m at m0 m1;let a0:0<=m%4:=zA _ ∅;let a1:m%4<4:=zw _ ∅;left
 intros D nD s2 h2 H2
 left;refine{_,_,rfl,zY m0 ∅,?_,a0,(),λnms pn H3 nl nok s3 h3=>?_}
 ·have:=zZ (a:=m) 4 m0;ext
 exists pn,_,rfl,ao h3,?_;let nl3:⇑nms<=3:=()
 refine oh (K:=K) (a:=pn) (xs:=nms.map V.str) (λi U H'=>∃(ins:List (Str×(Int×Int)×(Int×Int))) (us:List V),Lo [some (.int c),some (.int m),some (.ref D)] 5 U/\aG H H'/\H' pn=some (.lst (nms.map V.str))/\H' D=some (.lst us)/\aD H' (ins.map eP) us/\ins.map (·.1)=nms.take i/\
  ∀x∈ins,Qv x.2.1/\-12<=x.2.1.1/\x.2.1.1<=12/\Lm.Rd x.2.2/\x.2.2.1<10000/\x.2.2.2<10000)
  {[],[],Lo.of rfl rfl,s2.trans s3,h3,s3 _ _ h2,du,rfl,by simp} (λi U H' _ h=>by let⟨_,_,_,_,z,_⟩:=h;exact ao z) ?_ ?_
 ·intro i x U H4 p H5 hx hh s45 hp5
  refine cT λN kN0 kR0 _ _=>?_;let⟨ins,us,⟨e,rfl⟩,s4,hpn4,h4,il4,ek,iok⟩:=hh;rw[zM] at hx;cases qr:nms[i]? with
  | none=>rw[qr] at hx;cases hx
  | some nm=>
  rw[qr] at hx;simp only[xn,xN] at hx;subst hx;let ib:i<⇑nms:=(zB.mp qr).1;let h45:=s45 _ _ h4;let tk:nms.take (i+1)=nms.take i++[nm]:=dm qr;let nepn:pn≠D:=λz=>by
   let q:=h3;rw[z,s3 _ _ h2] at q;let e:([]:List V)=nms.map V.str:=HO.lst.inj (ym q);have:⇑nms=0:=by rw[<-za (f:=V.str),<-e];rfl
   ext
  refine{p,_,rfl,bC hp5,rfl,?_};refine{_,_,rfl,{_,_,rfl,{rfl,?_}}};exists c,_,rfl,(),(),?_;let n0:0<=mixed c ((i:Int)+530):=zA _ ∅;let n1:mixed c ((i:Int)+530)<2147483399:=zw _ ∅;generalize mixed c ((i:Int)+530)=n at n0 n1;exists cO,?_;intros p6 H6 s6 h6;let h46:=s6 _ _ h45;exists .inl {rfl,_,ao h46},?_;exists by show 5<=sizeLine;ext,?_
  intros p7 H7 s7 h7;let g0:0<=n/1125%5:=zA _ ∅;let g1:n/1125%5<5:=zw _ ∅;let t0:0<=n/125%9:=zA _ ∅;let t1:n/125%9<9:=zw _ ∅;obtain⟨jj,hjj⟩:∃j:Nat,n/1125%5=(j:Int):={(n/1125%5).toNat,()}
  let⟨z,hz,z0,z1⟩:=WN jj ();exists p7,_,n/1125%5,.int z,rfl,rfl,ao h7,(by rw[hjj];exact bx hz),?_;exists _,_,rfl,t0,z0,(bR (n:=10) () ()).mono ∅,λp8 H8 s8 h8=>?_;exists km,?_;intros p9 H9 s9 h9;let s59:=((s6.trans s7).trans s8).trans s9;let h49:=s59 _ _ h45;refine{D,us,_,rfl,rfl,h49,?_,?_}
  ·let e1:=aS il4
   let e2:⇑ins=⇑(nms.take i):=by rw[<-ek,za]
   rw[zT] at e2;ext
  left;let nt:cN (H9 D):=by rw[h49];exact λ_ z=>by cases z
  let rb:=jr (t:=n/125%9) z0;let rle:=BB (t:=n/125%9) (b:=z) t0;let⟨td1,td2,td3⟩:=Kb n;let ix:Is H9 (eP (nm,(n%25-12,7*(n%25-12)%12+12*(n/25%5-2)),red (n/125%9) z)) (.ref p9):=cW h9 (aU fu (aU (iV (((s7.trans s8).trans s9) _ _ h6)) (aU (iV (s9 _ _ h8)) du)));refine{ins++[(nm,(n%25-12,7*(n%25-12)%12+12*(n/25%5-2)),red (n/125%9) z)],_,Lo.of rfl rfl,bN nD ((s4.trans s45).trans s59),by rw[aE nepn];exact s59 _ _ (s45 _ _ hpn4),aF,?_,?_,λx hx=>?_}
  ·rw[zk]
   exact dj (Is.upd nt ix) (aD.upd nt ((il4.mono s45).mono s59))
  ·rw[zk,ek,tk];rfl
  ·rcases zI.mp hx with y | y
   ·exact iok x y
   ·rw[zC.mp y]
    let⟨_,_,_,_,_,r5⟩:=rb;exact{td1,td2,td3,Lm.Rd.of t0 z0,by show(red (n/125%9) z).1<10000;ext,by show(red (n/125%9) z).2<10000;ext}
 ·rintro U H4 ⟨ins,us,⟨e,rfl⟩,s4,hpn4,h4,il4,ek,iok⟩
  rw[za,zP] at ek;change kk ins D us H4 {by rw[<-za (f:=λx:Str×(Int×Int)×(Int×Int)=>x.1),ek];exact nl3,by rw[ek];exact nok,iok} s4 h4 il4
inductive oT (vs:List V) (H:Hp) (Q:VK) (E:XK):Prop
 | mk (q:vD) (x:Int×Int) (_:vs=[.ref q]) (_:H q=some (fY x)) (_:0<=x.1) (_:x.1<10000) (_:0<x.2) (_:x.2<10000) (_:Q (.str (iT x)) H)
def dW:di P w base 1 T.dE oT:=by
 nomatch T.dE,["_law_length"]
 let⟨q,x,rfl,hq,x1,x2,x3,x4,kk⟩:=h;let sl:=yC;let a:=bG (n:=x.1) () x2;let b:=bG (n:=x.2) () x4;let na:=b7 (n:=x.1) () x2;let nb:=b7 (n:=x.2) () x4;let l1:("/": Str).length=1:=rfl;refine{_,(ag (aM (ptr c9 (bJ (pv 0) ae) ae)
  (ak (au (nV aY T.fG (aa (bJ (pv 0) ae) af))))
  aC)
  (ak (au (aB b8 (aB b8 (nV aY T.fG (aa (bJ (pv 0) ae) af)) aK) (nV aY T.fG (aa (bJ (pv 0) ae) af)))))),?_}
 ac_rfl;left
 by_cases c:x.2=1
 ·refine bW (by rw[c];rfl) ?_
  exists na,?_;left;unfold iT at kk;rw[yO c] at kk;exact kk
 ·refine bX (ze λz=>c (V.int.inj z)) ?_
  unfold iT at kk;rw[yN c] at kk;exists na,?_;exists by show(dec x.1).length+_<=_;ext,?_
  exists nb,?_;exists by show(dec x.1 ++"/").length+⇑(dec x.2)<=_;rw[bV];ext,?_
  exact kk
inductive jQ (vs:List V) (H:Hp) (Q:VK) (E:XK):Prop
 | mk (v:V) (it:Item) (_:vs=[v]) (_:Is H (d5 it) v) (_:NV it) (_:Q (.str (qB it)) H)
def Pu {H:Hp} {it:Item} {v:V} (h:Is H (d5 it) v):∃a q b,v=.ref a/\H a=some (.tup [q,.ref b])/\Is H (dO dL it.1) q/\H b=some (fY it.2):=by
 unfold d5 Is at h;let⟨a,vs,rfl,ha,hl⟩:=h;unfold aD at hl;let⟨v1,r1,rfl,h1,hl⟩:=hl;unfold aD at hl;let⟨v2,r2,rfl,h2,hl⟩:=hl;unfold aD at hl;subst hl;cases eO (o:=some it.2) h2 with
 | ref hb=>exact{a,v1,_,rfl,ha,h1,hb}
def rR:di P w base 2 T.jK jQ:=by
 nomatch T.jK,["_law_item"]
 let⟨v,⟨o,x⟩,rfl,iv,iok,kk⟩:=h;let sl:=yC;let⟨a,q,b,rfl,ha,iq,hb⟩:=Pu iv;let⟨⟨hr',h1,h2,h3⟩,hq⟩:=id iok;let⟨_,p2,_⟩:=hr'.pos;let lx:=kT (x:=x) (by have:=h1;dsimp only at this;ext) h2 (by have:=p2;dsimp only at this;ext) h3;dsimp only at h1 h2 h3 p2 hq hb iq;refine{_,(ag (aM (bH (cJ (bJ (pv 0) ae)))
  (ak (au (aB b8 aK (bQ (dW T) hr T.dE (aa (bJ (pv 0) ae) af)))))
  aC)
  (ak (au (aB b8 (aB b8 (aB b8 (aB b8 (nV aY T.fG (aa (bJ (bJ (pv 0) ae) ae) af)) aK) (nV aY T.fG (aa (bJ (bJ (pv 0) ae) ae) af))) aK) (bQ (dW T) hr T.dE (aa (bJ (pv 0) ae) af)))))),?_}
 ac_rfl;left;cases o with
 | none=>
  unfold dO Is at iq;subst iq;exists b,x,rfl,hb,(),h2,p2,h3,?_;let l2:("r:": Str).length=2:=rfl;refine{_,_,rfl,rfl,(),?_};exact kk
 | some pq=>
  let⟨q1,q2,q3,q4,_⟩:=hq pq rfl;let la:=bG (n:=pq.1) () ();let lb:=bG (n:=pq.2) () ();let na:=b7 (n:=pq.1) () ();let nb:=b7 (n:=pq.2) () ();cases eO (o:=some pq) iq with
  | ref hpq=>
   let l1:(":": Str).length=1:=rfl;exists na,?_;exists by show(dec pq.1).length+_<=_;ext,?_
   exists nb,?_;exists by show(dec pq.1 ++":").length+⇑(dec pq.2)<=_;rw[bV];ext,?_
   exists by show(dec pq.1 ++":" ++ dec pq.2).length+_<=_;rw[bV,bV];ext,?_
   exists b,x,rfl,hb,(),h2,p2,h3,?_;refine{_,_,rfl,rfl,by show(dec pq.1 ++":" ++ dec pq.2 ++":").length+_<=_;rw[bV,bV,bV];ext,?_};exact kk
inductive iK (vs:List V) (H:Hp) (Q:VK) (E:XK):Prop
 | mk (v:V) (r:Rep) (_:vs=[v]) (_:Is H (ig r) v) (_:NT r) (_:∀H',aG H H'->Q (.str (cE (.rep r))) H')
noncomputable def w4 (r:Rep):List Str:=["repeat",dec r.first,dec r.last,dec r.times]
def oV:di P w base 1 T.gM iK:=by
 nomatch T.gM,["_law_repeat","_law_words","_law_begin","_law_passes"]
 let⟨v,r,rfl,iv,⟨⟨f1,f2,f3,f4,f5⟩,el,pl⟩,kk⟩:=h;let sl:=yC;let⟨a,ep,rfl,ha,ie⟩:=eN iv;obtain⟨ep',evs,e0,hep,ile⟩:∃ep' evs,V.ref ep=.ref ep'/\H ep'=some (.tup evs)/\aD H (r.ends.map nh) evs:=by unfold Is at ie;exact ie
 cases e0;let evl:=aS ile;let n1:=b7 (n:=r.first) (by have:=f1.1;ext) (by have:=f1.2;ext);let n2:=b7 (n:=r.last) (by have:=f2.1;ext) (by have:=f2.2;ext);let n3:=b7 (n:=r.times) () ();refine{_,(ag (bO 1 qN (bq (aa aK (aa (nV aY T.fG (aa (bJ (pv 0) ae) af)) (aa (nV aY T.fG (aa (bJ (pv 0) ae) af)) (aa (nV aY T.fG (aa (bJ (pv 0) ae) af)) af))))))
  (ag (cy yP rfl (ko (bJ (pv 0) ae)) (d6 (n:=2) rfl (aQ (jg 2 qN) (aQ (jg 3 qN) dr)))
  (ak (bu (bZ yD yF yE bF (pv 1) (aa (aB b8 (aB b8 (nV aY T.fG (aa (pv 2) af)) aK) (bZ yG yI yH gP aK (aa (oJ (ts:=["_law_one"]) (ys:=[]) (js:=[]) (te:=(LM Va (cj (bj 0) fc))) (ko (pv 3)) (gO 0) bE (nV aY T.fG (aa (pv 0) af))) af))) af)))))
  (ak (au (bZ yG yI yH gP aK (aa (pv 1) af)))))),?_}
 ac_rfl;exists n1,?_;exists n2,?_;exists n3,?_;exists by show 4<=sizeLine;ext,?_
 intro W nW;generalize hU:upd H W _=H2;let s2:aG H H2:=by rw[<-hU];exact bz nW
 let h2:H2 W=some (.lst ((w4 r).map V.str)):=by rw[<-hU];exact aF
 clear hU;let ha2:=s2 _ _ ha;exists{_,bC (s2 _ _ hep)},?_;refine Me (K:=K) (a:=ep) (xs:=evs) (λi U H'=>∃(v2 v3:Option V),U=[some (.ref a),some (.ref W),v2,v3]/\aG H H'/\H' W=some (.lst ((w4 r++(r.ends.take i).map oY).map V.str))) {none,none,rfl,s2,by rw[wH,yo,zX];exact h2} (λi U H' _ h=>by let⟨_,_,_,z,_⟩:=h;exact bC (z _ _ hep)) ?_ ?_
 ·intro i x U H3 hx hh
  refine cT λN kN0 kR0 _ _=>?_;let⟨v2,v3,rfl,s3,h3⟩:=hh;let⟨e,he,ie⟩:=cV ile hx;let⟨b,q,rfl,hb,hq⟩:=uk ie;let eo:=f5 e (zE he);let pe:=pl e (zE he);let hb3:=s3 _ _ hb;let tk:r.ends.take (i+1)=r.ends.take i++[e]:=dm he;let ib:i<⇑r.ends:=(zB.mp he).1;let nb:=b7 (n:=e.1) (by have:=eo.1;ext) (by have:=eo.2.1;ext);let lb:=bG (n:=e.1) (by have:=eo.1;ext) (by have:=eo.2.1;ext);refine{b,_,rfl,bC hb3,rfl,?_};refine{_,_,rfl,{_,_,rfl,{rfl,?_}}};exists .inl {rfl,_,ao h3},?_;exists nb,?_;exists by show(dec e.1).length+(":": Str).length<=_;have:(":": Str).length=1:=rfl;ext,?_
  exists{_,bC (s3 _ _ hq)},?_;refine gK (enc:=V.int) (ws:=e.2) (λz=>.str (dec z)) (λU=>∃v,U=[v]) () (s3 _ _ hq) {(none),rfl} ?_ ?_
  ·rintro z U H4 R hz s4 ⟨_,rfl⟩ rr
   have:=eo.2.2.2 z hz;exists b7 () (),?_;exact rr _ _ _ (aI _) fu {_,rfl}
  ·intro D vs H4 s4 hD il
   let e1:e.2.map (λz=>Dt.str (dec z))=(e.2.map dec).map Dt.str:=by rw[zD];rfl
   rw[e1] at il;rw[dX il] at hD;let l5:∀z∈e.2.map dec,⇑z<=5:=λz hz=>by
    let⟨p,hp,rfl⟩:=zJ.mp hz;have:=eo.2.2.2 p hp;exact bG () ()
   let l9:⇑(e.2.map dec)<=9:=by rw[za];exact pe
   let sb:=pI (sep:=",") l5;let jb:=B4 (sep:=",") l5;let mb:⇑(e.2.map dec)*(5+(",": Str).length)<=9*(5+1):=wG l9 (zm _);refine{",",D,_,rfl,rfl,ao hD,zO sb (zO mb ()),?_};refine{_,_,rfl,rfl,?_,?_}
   ·show(dec e.1 ++":").length+(Str.join "," (e.2.map dec)).length<=sizeLine
    rw[bV];have:(":": Str).length=1:=rfl;ext
   let h34:=s4 _ _ h3;let s04:=s3.trans s4;left;refine{W,_,_,rfl,rfl,h34,?_,?_}
   ·rw[za,zh,za,zT]
    show 4+_<_;ext
   exists _,_,rfl,bN nW s04,?_;let ew:(w4 r++(r.ends.take (i+1)).map oY).map V.str=(w4 r++(r.ends.take i).map oY).map V.str++[V.str (oY e)]:=by
    rw[tk,zk (f:=oY),<-zH,zk (f:=V.str)];rfl
   rw[aF,ew];rfl
 ·rintro U H3 ⟨v2,v3,rfl,s3,h3⟩
  rw[evl,zP] at h3;left;let ll:∀z∈w4 r++r.ends.map oY,⇑z<=60:=λz hz=>by
   rcases zI.mp hz with y | y
   ·unfold w4 at y
    simp only[zF,zG,yV] at y;rcases y with rfl | rfl | rfl | rfl
    ·decide
    ·have:=bG (n:=r.first) (by have:=f1.1;ext) (by have:=f1.2;ext);ext
    ·have:=bG (n:=r.last) (by have:=f2.1;ext) (by have:=f2.2;ext);ext
    ·have:=bG (n:=r.times) () ();ext
   ·let⟨e,he,rfl⟩:=zJ.mp y
    exact Ji (f5 e he) (pl e he)
  let sb:=pI (sep:=" ") ll;refine{" ",W,_,rfl,rfl,ao h3,?_,?_}
  ·let l4:⇑(w4 r++r.ends.map oY)<=13:=by rw[zh,za];show 4+_<=13;ext
   exact zO sb (zO (wG l4 (zm _)) (by show 13*(60+1)<=sizeLine;ext))
  exact kk _ s3
def Xj {c:Bool} {T1 T2:VK->Prop} {Z:VK} {H:Hp} (v:V) (h1:c=true->∀Z:VK,Z v H->T1 Z) (h2:c=false->∀Z:VK,Z v H->T2 Z) (hz:Z v H):if c=true then T1 Z else T2 Z:=by
 cases c with
 | true=>rw[yO rfl];exact h1 rfl Z hz
 | false=>rw[yN (by simp)];exact h2 rfl Z hz
def VJ (j:Jump):Prop:=Sx (.cm j)
noncomputable def B9 (S:cq):List Told:=S.aJ.map .rep++S.cm.toList.map .cm
inductive qZ (vs:List V) (H:Hp) (Q:VK) (E:XK):Prop
 | mk (p:vD) (S:cq) (_:vs=[.ref p]) (_:pA H p S) (_:(∀r∈S.aJ,NT r)) (_:⇑S.aJ<=1000) (_:(∀j,S.cm=some j->VJ j)) (_:∀D H',aG H H'->H D=none->H' D=some (.lst (((B9 S).map cE).map V.str))->Q (.ref D) H')
def PH {H:Hp} {j:Jump} {v:V} (h:Is H (j9 j) v):∃a c,v=.ref a/\H a=some (.tup [.int j.qR,.int j.sN,.int j.cK,c])/\Is H (dO .int j.fL) c:=by
 unfold j9 Is at h;let⟨a,vs,rfl,ha,hl⟩:=h;unfold aD at hl;let⟨v1,r1,rfl,h1,hl⟩:=hl;unfold aD at hl;let⟨v2,r2,rfl,h2,hl⟩:=hl;unfold aD at hl;let⟨v3,r3,rfl,h3,hl⟩:=hl;unfold aD at hl;let⟨v4,r4,rfl,h4,hl⟩:=hl;unfold aD at hl;subst hl;unfold Is at h1 h2 h3;subst h1 h2 h3;exact{(a),v4,rfl,ha,h4}
theorem hX {H:Hp} {α:Type} {d:α->Dt}:∀{xs:List α} {vs:List V},aD H (xs.map d) vs->∃ps:List (α×V),ps.map (·.1)=xs/\ps.map (·.2)=vs/\∀z∈ps,Is H (d z.1) z.2
 | [],_,h=>{[],rfl,by unfold aD at h;rw[h];rfl,by simp}
 | x::xs,_,h=>by
  rw[zj] at h;unfold aD at h;let⟨v,r,rfl,h1,h2⟩:=h;let⟨ps,e1,e2,e3⟩:=hX h2;refine{(x,v)::ps,by rw[zj,e1],by rw[zj,e2],λz hz=>?_};rcases zF.mp hz with rfl | hz
  ·exact h1
  ·exact e3 z hz
def rS:di P w base 2 T.jL qZ:=by
 nomatch T.jL,["_law_s","_law_rows","_law_coda"]
 let⟨p,S,rfl,la,rok,rl3,jok,kk⟩:=h;let sl:=yC;let⟨pl,il,sl',bl,hl,nl,rl,ub,jm,iv,sv,bv,hv,nv,rv,h1,h2,h3,h4,h5,h6,h7,h8,⟨h9,ilr⟩,hj⟩:=la.at';let⟨ps,e1,e2,e3⟩:=hX ilr;let pln:⇑ps=⇑S.aJ:=by rw[<-e1,za]
 refine{_,(ag (Rj (i:=1) (ts:=["_law_repeat"]) (ys:=[]) (js:=[]) (te:=(gz iK [] E0 (cj (bj 0) fc))) (bB (bJ (pv 0) ae)) (gO 0) bE (bQ (oV T) hr T.gM (aa (pv 0) af)) qN)
  (ag (aM (bH (fh (bJ (pv 0) ae)))
  (ag (bO 2 qN (Iq (bH (cJ (bJ (bJ (pv 0) ae) ae))) aK (nV aY T.fG (aa (bJ (bJ (pv 0) ae) ae) af))))
   (ak (bu (bZ yD yF yE bF (pv 1) (aa (bZ yG yI yH gP aK (aa (bq (aa aK (aa (nV aY T.fG (aa (bJ (bJ (pv 0) ae) ae) af)) (aa (nV aY T.fG (aa (bJ (bJ (pv 0) ae) ae) af)) (aa (nV aY T.fG (aa (bJ (bJ (pv 0) ae) ae) af)) (aa (pv 2) af)))))) af)) af)))))
  aC)
  (ak (au (pv 1))))),?_}
 ac_rfl;exists{_,ao h9},?_;refine eC (enc:=λq:Rep×V=>q.2) (ws:=ps) (λq=>.str (cE (.rep q.1))) (λU=>∃v,U=[v]) () (by rw[e2];exact ao h9) {(none),rfl} ?_ ?_
 ·rintro z U H1 R hz s1 ⟨_,rfl⟩ rr
  let zin:z.1∈S.aJ:=by rw[<-e1];exact zR hz
  change{z.2,z.1,rfl,(e3 z hz).mono s1,rok _ zin,λH2 s2=>rr _ _ _ s2 fu {_,rfl}}
 ·intro D vs H1 s1 nD hD ilD
  let ee:ps.map (λq:Rep×V=>Dt.str (cE (.rep q.1)))=((S.aJ.map Told.rep).map cE).map Dt.str:=by rw[<-e1,zD,zD,zD];rfl
  rw[ee] at ilD;rw[dX ilD] at hD;let h11:=s1 _ _ h1;left;cases q:S.cm with
  | none=>
   rw[q] at hj;unfold dO Is at hj;subst hj;left;refine kk D H1 s1 nD ?_;unfold B9;rw[q,hD];simp
  | some j=>
   rw[q] at hj;let⟨ja,jc,rfl,hja,ijc⟩:=PH hj;let⟨j1,j2,j3,j4⟩:=jok j q;let hja1:=s1 _ _ hja;let n1:=b7 (n:=j.qR) (by have:=j1.1;ext) (by have:=j1.2;ext);let n2:=b7 (n:=j.sN) (by have:=j2.1;ext) (by have:=j2.2;ext);let n3:=b7 (n:=j.cK) (by have:=j3.1;ext) (by have:=j3.2;ext);let cl:⇑(ctxt j.fL)<=5:=by
    unfold ctxt;cases qc:j.fL with
    | none=>decide
    | some m=>have:=j4 m qc;exact bG (by have:=this.1;ext) (by have:=this.2;ext)
   left;refine Xj (H:=H1) (.str (ctxt j.fL)) ?_ ?_ ?_
   ·intro c Z hz
    let e:jc=.bT:=yf c;cases qc:j.fL with
    | none=>rw[qc] at hz;change hz
    | some m=>rw[qc] at ijc;unfold dO Is at ijc;rw[ijc] at e;cases e
   ·intro c Z hz
    cases qc:j.fL with
    | none=>rw[qc] at ijc;unfold dO Is at ijc;rw[ijc] at c;simp at c
    | some m=>
     rw[qc] at ijc hz;unfold dO Is at ijc;subst ijc;change{b7 (by have:=(j4 m qc).1;ext) (by have:=(j4 m qc).2;ext),hz}
   exists .inl {rfl,_,ao hD},?_;exists n1,?_;exists n2,?_;exists n3,?_;exists by show 5<=sizeLine;ext,?_
   intros p5 H5 s5 h5;let ll:∀z∈Sc.aR (.cm j),⇑z<=5:=λz hz=>by
    simp only[Sc.aR,zF,zG,yV] at hz;rcases hz with rfl | rfl | rfl | rfl | rfl
    ·decide
    ·exact bG (by have:=j1.1;ext) (by have:=j1.2;ext)
    ·exact bG (by have:=j2.1;ext) (by have:=j2.2;ext)
    ·exact bG (by have:=j3.1;ext) (by have:=j3.2;ext)
    ·exact cl
   let sb:=pI (sep:=" ") ll;refine{" ",p5,Sc.aR (.cm j),rfl,rfl,ao h5,zO sb (by show 5*(5+1)<=sizeLine;ext),?_};exists D,_,_,rfl,rfl,s5 _ _ hD,by rw[za,za,za];ext,?_
   left;refine kk D _ (bN nD (s1.trans s5)) nD ?_;unfold B9;rw[aF,q,zk,zk];rfl
def Ru {H:Hp} {x:Str×(Int×Int)×(Int×Int)} {v:V} (h:Is H (eP x) v):∃a t l,v=.ref a/\H a=some (.tup [.str x.1,t,l])/\Is H (dL x.2.1) t/\Is H (dL x.2.2) l:=by
 unfold eP Is at h;let⟨a,vs,rfl,ha,hl⟩:=h;unfold aD at hl;let⟨v1,r1,rfl,h1,hl⟩:=hl;unfold aD at hl;let⟨v2,r2,rfl,h2,hl⟩:=hl;unfold aD at hl;let⟨v3,r3,rfl,h3,hl⟩:=hl;unfold aD at hl;subst hl;unfold Is at h1;subst h1;exact{(a),v2,v3,rfl,ha,h2,h3}
def M8 {H:Hp} {x:Str×List Str} {v:V} (h:Is H (jE x) v):∃a q,v=.ref a/\H a=some (.tup [.str x.1,.ref q])/\H q=some (.tup (x.2.map V.str)):=by
 unfold jE Is at h;let⟨a,vs,rfl,ha,hl⟩:=h;unfold aD at hl;let⟨v1,r1,rfl,h1,hl⟩:=hl;unfold aD at hl;let⟨v2,r2,rfl,h2,hl⟩:=hl;unfold aD at hl;subst hl;unfold Is at h1;subst h1;unfold mZ Is at h2;let⟨q,us,rfl,hq,hl⟩:=h2;rw[dX hl] at hq;exact{(a),q,rfl,ha,hq}
def TQ {H:Hp} {x:Int×Str} {v:V} (h:Is H (Le x) v):∃a,v=.ref a/\H a=some (.tup [.int x.1,.str x.2]):=by
 unfold Le Is at h;let⟨a,vs,rfl,ha,hl⟩:=h;unfold aD at hl;let⟨v1,r1,rfl,h1,hl⟩:=hl;unfold aD at hl;let⟨v2,r2,rfl,h2,hl⟩:=hl;unfold aD at hl;subst hl;unfold Is at h1 h2;subst h1 h2;exact{(a),rfl,ha}
def TD (t:Told):Prop:=Sx t/\⇑(Sc.aR t)<=100/\∀w∈Sc.aR t,⇑w<=100
def A4 {t:Told} (h:TD t):((Sc.aR t).map (λz:Str=>⇑z+(" ": Str).length)).sum<=sizeLine:=by
 let sl:=yC;let a:=pI (sep:=" ") h.2.2;let b:⇑(Sc.aR t)*(100+(" ": Str).length)<=100*(100+(" ": Str).length):=wG h.2.1 (zm _);exact zO a (zO b (by show 100*(100+1)<=sizeLine;ext))
def KA (n:Str):("player ": Str)++n=cE (.bS n):=rfl
noncomputable def rws (ts:List Told):List V:=(ts.map cE).map V.str
def lI (a b:List Told):rws (a++b)=rws a++rws b:=by unfold rws;rw[zk,zk]
def lH (a:List Told):⇑(rws a)=⇑a:=by unfold rws;rw[za,za]
inductive pK (vs:List V) (H:Hp) (Q:VK) (E:XK):Prop
 | mk (p:vD) (S:cq) (_:vs=[.ref p]) (_:pA H p S) (_:(∀t∈eT S,TD t)) (_:⇑(eT S)<=1000000) (_:(∀r∈S.aJ,NT r)) (_:⇑S.aJ<=1000) (_:∀D H',aG H H'->H D=none->H' D=some (.lst (rws (eT S)))->Q (.ref D) H')
def qk:di P w base 3 T.iF pK:=by
 nomatch T.iF,["_law_s","_law_rows","_law_name","_law_turn","_law_time","_law_metre","_law_key","_law_marks","_law_player","_law_row","_law_bar","_law_items"]
 let⟨p,S,rfl,la,tok,tl,rok,rln3,kk⟩:=h;let sl:=yC;let⟨pl,il,st,bl,hl,nl,rl,ub,jm,iv,sv,bv,hv,nv,rv,h1,h2,⟨h3,ili⟩,⟨h4,ils⟩,⟨h5,ilb⟩,h6,⟨h7,rlh⟩,⟨h8,rln⟩,_,_⟩:=la.at';let mem:∀a b c:List Told,eT S=a++b++c->∀t∈b,TD t:=λa b c e t ht=>tok t (by rw[e];simp[ht]);let tlen:∀a b:List Told,eT S=a++b->⇑a<=1000000:=λa b e=>by rw[e,zh] at tl;ext
 obtain⟨fl,fli,fls,flb,fln⟩:⇑S.az<=1000000/\⇑S.az+⇑S.aq<=1000000/\⇑S.az+⇑S.aq+⇑S.aP<=1000000/\⇑S.az+⇑S.aq+⇑S.aP+⇑S.aO<=1000000/\⇑S.aN<=1000000:=by
  unfold eT at tl;simp only[zh,za] at tl;ext
 refine{_,(ag (Rj (i:=1) (ts:=["_law_name"]) (ys:=[]) (js:=[]) (te:=(fW (λx y H Q=>∃i j,x=.str i/\y=.str j/\⇑i+⇑j<=sizeLine/\Q (.str (i++j)) H) (tC (.str "player ")) (bj 0))) (bB (bJ (pv 0) ae)) (gO 0) bE (aB b8 aK (pv 0)) qN)
  (ag (cy yP rfl (bB (bJ (pv 0) ae)) (d6 (n:=3) rfl (aQ (jg 2 qN) (aQ (jg 3 qN) (aQ (jg 4 qN) dr))))
  (ak (bu (bZ yD yF yE bF (pv 1) (aa (bZ yG yI yH gP aK (aa (bq (aa aK (aa (pv 2) (aa (nV aY T.fG (aa (bJ (pv 3) ae) af)) (aa (nV aY T.fG (aa (bJ (pv 3) ae) af)) (aa (bQ (dW T) hr T.dE (aa (pv 4) af)) af)))))) af)) af)))))
  (ag (bO 1 qN (aB gh (pv 1) (oJ (ts:=["_law_name","_law_players"]) (ys:=[]) (js:=[]) (g:=(IZ K 2 (gj (cw 0) (gj (cw 1) I0)))) (te:=(VW K "str" (rJoin K) (tC (.str " ")) (cj (fW (Sh K) (HC (cj (tC (.str "staff")) (cj (bj 0) fc))) (LM (Vb K) (cj (bj 1) fc))) fc))) (bB (bJ (pv 0) ae)) (d6 (n:=2) rfl (aQ (gO 0) (aQ (gO 1) dr))) bE (bZ yG yI yH gP aK (aa (aB gh (bq (aa aK (aa (pv 0) af))) (nV mf T.qt (aa (pv 1) af))) af)))))
  (ag (cy yP rfl (bB (bJ (pv 0) ae)) (d6 (n:=3) rfl (aQ (jg 5 qN) (aQ (jg 6 qN) (aQ (jg 7 qN) dr))))
  (ak (bu (bZ yD yF yE bF (pv 1) (aa (bZ yG yI yH gP aK (aa (aB gh (bq (aa aK (aa (aB b8 (aB b8 (nV aY T.fG (aa (bJ (pv 5) ae) af)) aK) (nV aY T.fG (aa (bJ (pv 5) ae) af))) (aa (nV aY T.fG (aa (pv 6) af)) af)))) (nV mf T.qt (aa (pv 7) af))) af)) af)))))
  (ag (aM (bH (fh (bJ (pv 0) ae)))
  (ak (bu (bZ yD yF yE bF (pv 1) (aa (aB b8 aK (bQ (dW T) hr T.dE (aa (bJ (pv 0) ae) af))) af))))
  aC)
  (ag (cy yP rfl (bB (bJ (pv 0) ae)) (d6 (n:=2) rfl (aQ (jg 8 qN) (aQ (jg 9 qN) dr)))
  (ak (bO 1 qN (aB gh (pv 1) (oJ (ts:=["_law_bar","_law_name"]) (ys:=["_law_player"]) (js:=[8]) (g:=(IZ K 2 (gj (cw 0) (gj (cw 1) I0)))) (te:=(VW K "str" (rJoin K) (tC (.str " ")) (cj (HC (cj (tC (.str "holds")) (cj (bj 2) (cj (LM Va (cj (bj 0) fc)) (cj (bj 1) fc))))) fc))) (bB (pv 9)) (d6 (n:=2) rfl (aQ (gO 0) (aQ (gO 1) dr))) bE (bZ yG yI yH gP aK (aa (bq (aa aK (aa (pv 2) (aa (nV aY T.fG (aa (pv 0) af)) (aa (pv 1) af))))) af)))))))
  (ag (cy yP rfl (bB (bJ (pv 0) ae)) (d6 (n:=3) rfl (aQ (jg 10 qN) (aQ (jg 8 qN) (aQ (jg 11 qN) dr))))
  (ak (bu (bZ yD yF yE bF (pv 1) (aa (bZ yG yI yH gP aK (aa (aB gh (bq (aa aK (aa (nV aY T.fG (aa (pv 10) af)) (aa (pv 8) af)))) (oJ (ts:=["_law_item"]) (ys:=[]) (js:=[]) (te:=(gz jQ [] E0 (cj (bj 0) fc))) (bB (pv 11)) (gO 0) bE (bQ (rR T) hr T.jK (aa (pv 0) af)))) af)) af)))))
  (ak (au (aB gh (pv 1) (bQ (rS T) hr T.jL (aa (pv 0) af)))))))))))),?_}
 ac_rfl;exists{_,ao h2},?_;refine eC (enc:=V.str) (ws:=S.az) (λn=>.str (cE (.bS n))) (λU=>∃v,U=[v]) () (ao h2) {(none),rfl} ?_ ?_
 ·rintro z U H1 R hz s1 ⟨_,rfl⟩ rr
  let tz:TD (.bS z):=tok _ (by unfold eT;simp[hz]);left;refine{?_,?_}
  ·let l7:("player ": Str).length=7:=rfl
   have:=tz.2.2 z (by simp[Sc.aR]);ext
  exact rr _ _ _ (aI _) (by rw[KA];exact fu) {_,rfl}
 ·intro D vs H1 s1 nD hD ilD
  let ee:S.az.map (λn=>Dt.str (cE (.bS n)))=((S.az.map Told.bS).map cE).map Dt.str:=by rw[zD,zD];rfl
  rw[ee] at ilD;rw[dX ilD] at hD;let h11:=s1 _ _ h1;exists{_,ao (s1 _ _ h3)},?_;refine dG (K:=K) (a:=il) (xs:=iv) (λi U H'=>Lo [some (.ref p),some (.ref D)] 10 U/\aG H H'/\H' D=some (.lst (rws (S.az.map .bS++(S.aq.take i).map λx=>.cR x.1 x.2.1 x.2.2)))) {Lo.of rfl rfl,s1,by rw[wH,yo,zX];exact hD} (λi U H' _ h=>by let⟨_,z,_⟩:=h;exact ao (z _ _ h3)) ?_ ?_
  ·intro i x U H2 hx hh
   refine cT λN kN0 kR0 _ _=>?_;let⟨⟨e,rfl⟩,s2,hD2⟩:=hh;let⟨n,hn,ix⟩:=cV (d:=eP) ili hx;let⟨a1,t1,l1,rfl,ha1,it,iL⟩:=Ru ix;cases eO (o:=some n.2.1) it with
   | ref ht=>
   cases eO (o:=some n.2.2) iL with
   | ref hL=>
   let tn:TD (.cR n.1 n.2.1 n.2.2):=tok _ (by unfold eT;simp only[zI,zJ];exact .inl (.inl (.inl (.inl (.inl (.inl (.inr {n,zE hn,rfl})))))));refine{a1,_,rfl,bC (s2 _ _ ha1),rfl,?_};refine{_,_,rfl,{_,_,rfl,{_,_,rfl,{rfl,?_}}}};rename_i bt bL;let ht2:=s2 _ _ ht;let hL2:=s2 _ _ hL;let⟨t1,t2,t3,t4,t5,t6,t7⟩:=tn.1;let⟨c1,c2,c3,c4,_⟩:=t2;let⟨r1,r2,_⟩:=t5.pos;exists .inl {rfl,_,ao hD2},?_;exists b7 () (),?_;exists b7 () (),?_;exists _,n.2.2,rfl,hL2,r1,t6,r2,t7,?_;exists by show 5<=sizeLine;ext,?_
   intros p5 H5 s5 h5;refine{" ",p5,Sc.aR (.cR n.1 n.2.1 n.2.2),rfl,rfl,ao h5,A4 tn,?_};left;refine{D,_,_,rfl,rfl,s5 _ _ hD2,?_,?_}
   ·rw[lH,zh,za,za,zT];ext
   exists Lo.of rfl rfl,bN nD (s2.trans s5),?_;rw[aF,dm hn,zk,<-zH];exact y6 (λl=>some (HO.lst l)) (lI _ [Told.cR n.1 n.2.1 n.2.2]).symm
  ·rintro U H2 ⟨⟨e,rfl⟩,s2,hD2⟩
   rw[aS ili,zP] at hD2;let h12:=s2 _ _ h1;let⟨ps,e1,e2,e3⟩:=hX ils;let pln:⇑ps=⇑S.aP:=by rw[<-e1,za]
   exists{_,ao (s2 _ _ h4)},?_;refine eC (enc:=λq:(Str×List Str)×V=>q.2) (ws:=ps) (λq=>.str (cE (.cD q.1.1 q.1.2))) (λU=>∃v u,U=[v,u]) () (by rw[e2];exact ao (s2 _ _ h4)) {(none),none,rfl} ?_ ?_
   ·rintro z U H3 R hz s3 ⟨_,_,rfl⟩ rr
    let zin:z.1∈S.aP:=by rw[<-e1];exact zR hz
    let tz:TD (.cD z.1.1 z.1.2):=tok _ (by unfold eT;simp only[zI,zJ];exact .inl (.inl (.inl (.inl (.inl (.inr {(z.1),zin,rfl}))))));let⟨a3,q3,ea,ha3,hq3⟩:=M8 (e3 z hz);let s03:=s2.trans s3;rw[ea];refine{a3,_,rfl,bC (s03 _ _ ha3),rfl,?_};refine{_,_,rfl,{_,_,rfl,{rfl,?_}}};exists by show 2<=sizeLine;ext,?_
    intros p5 H5 s5 h5;exists q3,_,rfl,.inr (bC (s5 _ _ (s03 _ _ hq3))),?_;intros p6 H6 s6 h6;let zl:⇑z.1.2<=98:=by have:=tz.2.1;simp only[Sc.aR,zy] at this;ext
    refine{p5,p6,_,_,rfl,rfl,ao (s6 _ _ h5),ao h6,by rw[za];show 2+_<=_;ext,?_};intros p7 H7 s7 h7;refine{" ",p7,Sc.aR (.cD z.1.1 z.1.2),rfl,rfl,ao h7,A4 tz,?_};exact rr _ _ _ ((s5.trans s6).trans s7) fu {_,_,rfl}
   ·intro D3 vs3 H3 s3 nD3 hD3 il3
    let ee3:ps.map (λq:(Str×List Str)×V=>Dt.str (cE (.cD q.1.1 q.1.2)))=((S.aP.map λx=>Told.cD x.1 x.2).map cE).map Dt.str:=by rw[<-e1,zD,zD,zD];rfl
    rw[ee3] at il3;rw[dX il3] at hD3;refine{D,D3,_,_,rfl,rfl,ao (s3 _ _ hD2),ao hD3,?_,?_}
    ·rw[lH,zh,za,za,za,za,za];ext
    intro D4 n4;generalize hU:upd H3 D4 _=H4;let s4:aG H3 H4:=by rw[<-hU];exact bz n4
    let hD4:H4 D4=some (.lst (rws (S.az.map .bS++(S.aq.map λx=>.cR x.1 x.2.1 x.2.2)++S.aP.map λx=>.cD x.1 x.2))):=by
     rw[<-hU,aF];exact y6 (λl=>some (HO.lst l)) (lI _ _).symm
    clear hU;let nD4:H D4=none:=(s2.trans s3).back n4;let s04:=(s2.trans s3).trans s4;clear hD2 hD3 il3 hD ilD nD nD3;let h14:=s04 _ _ h1;exists{_,ao (s04 _ _ h5)},?_;refine dG (K:=K) (a:=bl) (xs:=bv) (λi U H'=>Lo [some (.ref p),some (.ref D4)] 10 U/\aG H H'/\H' D4=some (.lst (rws (S.az.map .bS++(S.aq.map λx=>.cR x.1 x.2.1 x.2.2)++(S.aP.map λx=>.cD x.1 x.2)++(S.aO.take i).map .bar)))) {{(e),rfl},s04,by rw[wH,yo,zX];exact hD4} (λi U H' _ h=>by let⟨_,z,_⟩:=h;exact ao (z _ _ h5)) ?_ ?_
    ·intro i x U H5 hx hh
     refine cT λN kN1 kR1 _ _=>?_;let⟨⟨e,rfl⟩,s5,hD5⟩:=hh;let⟨b,hb,ib⟩:=cV (d:=lh) ilb hx;let⟨a1,mv,q1,rfl,ha1,im,hq1⟩:=AS ib;cases eO (o:=some b.aV) im with
     | ref hm=>
     rename_i am;let tb:TD (.bar b):=tok _ (by unfold eT;simp only[zI,zJ];exact .inl (.inl (.inl (.inl (.inr {b,zE hb,rfl})))));let hm5:=s5 _ _ hm;refine{a1,_,rfl,bC (s5 _ _ ha1),rfl,?_};refine{_,_,rfl,{_,_,rfl,{_,_,rfl,{rfl,?_}}}};let⟨t1,t2,t3,t4,t5,t6⟩:=tb.1;let bb:0<=b.aV.2/\b.aV.2<1000:=by unfold Ej at t3;simp at t3;ext
     let la1:=bG (n:=b.aV.1) () ();let la2:=bG (n:=b.aV.2) () ();let l1:("/": Str).length=1:=rfl;exists .inl {rfl,_,ao hD5},?_;exists b7 () (),?_;exists by show(dec b.aV.1).length+_<=_;ext,?_
     exists b7 () (),?_;exists by show(dec b.aV.1 ++"/").length+⇑(dec b.aV.2)<=_;rw[bV];ext,?_
     exists b7 () (),?_;exists by show 3<=sizeLine;ext,?_
     intros p6 H6 s6 h6;exists q1,_,rfl,.inr (bC (s6 _ _ (s5 _ _ hq1))),?_;intros p7 H7 s7 h7;let ml:⇑b.marks<=97:=by have:=tb.2.1;simp only[Sc.aR,zy] at this;ext
     refine{p6,p7,_,_,rfl,rfl,ao (s7 _ _ h6),ao h7,by rw[za];show 3+_<=_;ext,?_};intros p8 H8 s8 h8;refine{" ",p8,Sc.aR (.bar b),rfl,rfl,ao h8,A4 tb,?_};let s58:=(s6.trans s7).trans s8;left;refine{D4,_,_,rfl,rfl,s58 _ _ hD5,?_,?_}
     ·rw[lH];simp only[zh,za,zT];ext
     exists Lo.of rfl rfl,bN nD4 (s5.trans s58),?_;rw[aF,dm hb,zk,<-zH];exact y6 (λl=>some (HO.lst l)) (lI _ [Told.bar b]).symm
    ·rintro U H5 ⟨⟨e,rfl⟩,s5,hD5⟩
     rw[aS ilb,zP] at hD5;obtain⟨B,hB⟩:∃B,B=S.az.map Told.bS++(S.aq.map λx=>Told.cR x.1 x.2.1 x.2.2)++(S.aP.map λx=>Told.cD x.1 x.2)++S.aO.map Told.bar:={_,rfl}
     let tB:eT S=B++S.aL.toList.map .aL++(S.holds.map λx=>x.2.map λh=>Told.holds x.1 h.1 h.2).flatten++(S.aN.map λx=>.aN x.1.1 x.1.2 x.2)++B9 S:=by rw[hB];rfl
     rw[<-hB] at hD5;let h15:=s5 _ _ h1;left;refine join (λU H'=>Lo [some (.ref p),some (.ref D4)] 10 U/\aG H H'/\H' D4=some (.lst (rws (B++S.aL.toList.map .aL)))) (λN hN c1=>?_) (λN hN c1=>?_) ?_
     ·cases qu:S.aL with
      | none=>
       rw[qu] at h6;unfold dO Is at h6;rw[h6] at c1;simp at c1
      | some u=>
       rw[qu] at h6;cases eO (o:=some u) h6 with
       | ref hu=>
       let tu:TD (.aL u):=tok _ (by rw[tB,qu];simp);let⟨u1,u2,u3,u4⟩:=tu.1;let⟨_,r2,_⟩:=u1.pos;let lu:=kT (x:=u) () u3 () u4;let bl5:B.length<=1000000:=tlen B _ (by rw[tB,zH,zH,zH]);exists .inl {rfl,_,ao hD5},?_;exists _,u,rfl,s5 _ _ hu,(),u3,r2,u4,?_;let l7:("upbeat ": Str).length=7:=rfl;refine{_,_,rfl,rfl,(),?_};exists D4,_,_,rfl,rfl,hD5,by rw[lH];ext,?_
       left;refine hN _ _ {Lo.of rfl rfl,bN nD4 s5,?_};rw[aF,qu];exact y6 (λl=>some (HO.lst l)) (lI B [Told.aL u]).symm
     ·let qu:S.aL=none:=by
       cases qu:S.aL with
       | none=>rfl
       | some u=>
        rw[qu] at h6;cases eO (o:=some u) h6 with
        | ref hu=>simp at c1
      left;refine hN _ _ {Lo.of rfl rfl,s5,?_};rw[qu];show H5 D4=some (.lst (rws (B++[])));rw[zX];exact hD5
     rintro σ6 H6 ⟨⟨e,rfl⟩,s6,hD6⟩;let h16:=s6 _ _ h1;exists{_,ao (s6 _ _ h7)},?_;refine dG (K:=K) (a:=hl) (xs:=hv) (λi U H'=>∃(D:vD),Lo [some (.ref p),some (.ref D)] 10 U/\aG H H'/\H D=none/\H' D=some (.lst (rws (B++S.aL.toList.map .aL++((S.holds.take i).map λx=>x.2.map λh=>Told.holds x.1 h.1 h.2).flatten)))) {D4,{(e),rfl},s6,nD4,by rw[wH,yo,List.flatten_nil,zX];exact hD6} (λi U H' _ h=>by let⟨_,_,z,_⟩:=h;exact ao (z _ _ h7)) ?_ ?_
     ·intro i x U H7 hx hh
      refine cT λN kN2 kR2 _ _=>?_;let⟨D7,⟨e,rfl⟩,s7,nD7,hD7⟩:=hh;let⟨y,hy,a7,r7,us7,rfl,ha7,hr7,il7,_⟩:=rlh.at hx;let⟨qs,f1,f2,f3⟩:=hX il7;let ty:∀h∈y.2,TD (.holds y.1 h.1 h.2):=λh hh=>tok _ (by
       rw[tB];refine zL _ (zL _ (zK _ ?_));exact wj.mpr {_,zR (zE hy),zR hh})
      let tke:((S.holds.take (i+1)).map λx=>x.2.map λh=>Told.holds x.1 h.1 h.2).flatten=((S.holds.take i).map λx=>x.2.map λh=>Told.holds x.1 h.1 h.2).flatten++y.2.map λh=>Told.holds y.1 h.1 h.2:=by
       rw[dm hy,zk,xh];simp
      let lenB:⇑(B++S.aL.toList.map Told.aL++((S.holds.take (i+1)).map λx=>x.2.map λh=>Told.holds x.1 h.1 h.2).flatten)<=1000000:=by
       refine tlen _ (((S.holds.drop (i+1)).map λx=>x.2.map λh=>Told.holds x.1 h.1 h.2).flatten++(S.aN.map λx=>.aN x.1.1 x.1.2 x.2)++B9 S) ?_;rw[tB]
       conv=>lhs;rw[<-List.take_append_drop (i+1) S.holds,zk,xh]
       simp only[zH]
      rw[tke] at lenB;simp only[zh,za] at lenB;refine{a7,_,rfl,bC (s7 _ _ ha7),rfl,?_};refine{_,_,rfl,{_,_,rfl,{rfl,?_}}};exists{_,ao (s7 _ _ hr7)},?_;let ql:⇑qs=⇑y.2:=by rw[<-f1,za]
      refine eC (enc:=λq:(Int×Str)×V=>q.2) (ws:=qs) (λq=>.str (cE (.holds y.1 q.1.1 q.1.2))) (λU=>∃v u,U=[v,u,some (.str y.1)]) () (by rw[f2];exact ao (s7 _ _ hr7)) {(none),none,rfl} ?_ ?_
      ·rintro z U H8 R hz s8 ⟨_,_,rfl⟩ rr
       let zin:z.1∈y.2:=by rw[<-f1];exact zR hz
       let tz:=ty z.1 zin;let⟨a8,ea,ha8⟩:=TQ (f3 z hz);let s08:=s7.trans s8;let⟨b1,b2⟩:=tz.1.2.1;rw[ea];refine{a8,_,rfl,bC (s08 _ _ ha8),rfl,?_};refine{_,_,rfl,{_,_,rfl,{rfl,?_}}};exists b7 () (),?_;exists by show 4<=sizeLine;ext,?_
       intros p9 H9 s9 h9;refine{" ",p9,Sc.aR (.holds y.1 z.1.1 z.1.2),rfl,rfl,ao h9,A4 tz,?_};exact rr _ _ _ s9 fu {_,_,rfl}
      ·intro D8 vs8 H8 s8 _ hD8 il8
       let ee8:qs.map (λq:(Int×Str)×V=>Dt.str (cE (.holds y.1 q.1.1 q.1.2)))=((y.2.map λh=>Told.holds y.1 h.1 h.2).map cE).map Dt.str:=by rw[<-f1,zD,zD,zD];rfl
       rw[ee8] at il8;rw[dX il8] at hD8;refine{D7,D8,_,_,rfl,rfl,ao (s8 _ _ hD7),ao hD8,?_,?_}
       ·rw[lH];simp only[zh,za];ext
       intro D9 n9;generalize hU:upd H8 D9 _=H9;let s9:aG H8 H9:=by rw[<-hU];exact bz n9
       exists D9,Lo.of rfl rfl,(s7.trans s8).trans s9,(s7.trans s8).back n9,?_;rw[<-hU,aF,tke,<-zH];exact y6 (λl=>some (HO.lst l)) (lI _ _).symm
     ·rintro U H7 ⟨D7,⟨e,rfl⟩,s7,nD7,hD7⟩
      rw[rlh.len,zP] at hD7;obtain⟨B2,hB2⟩:∃B2,B2=B++S.aL.toList.map Told.aL++(S.holds.map λx=>x.2.map λh=>Told.holds x.1 h.1 h.2).flatten:={_,rfl}
      rw[<-hB2] at hD7 tB;let h17:=s7 _ _ h1;exists{_,ao (s7 _ _ h8)},?_;refine dG (K:=K) (a:=nl) (xs:=nv) (λi U H'=>Lo [some (.ref p),some (.ref D7)] 10 U/\aG H H'/\H' D7=some (.lst (rws (B2++(S.aN.take i).map λx=>.aN x.1.1 x.1.2 x.2)))) {{(e),rfl},s7,by rw[wH,yo,zX];exact hD7} (λi U H' _ h=>by let⟨_,z,_⟩:=h;exact ao (z _ _ h8)) ?_ ?_
      ·intro i x U H8 hx hh
       refine cT λN kN3 kR3 _ _=>?_;let⟨⟨e,rfl⟩,s8,hD8⟩:=hh;let⟨y,hy,a7,r7,us7,rfl,ha7,hr7,il7,_⟩:=rln.at hx;let⟨qs,f1,f2,f3⟩:=hX il7;let tz:TD (.aN y.1.1 y.1.2 y.2):=tok _ (by rw[tB];simp only[zI,zJ];exact .inl (.inr {y,zE hy,rfl}));let⟨⟨b1,b2⟩,b3,b4,_⟩:=tz.1;let yl:⇑y.2<=97:=by have:=tz.2.1;simp only[Sc.aR,zy,za] at this;ext
       let ql:⇑qs=⇑y.2:=by rw[<-f1,za]
       let ib:i<⇑S.aN:=(zB.mp hy).1;let lenB:B2.length+⇑S.aN<=1000000:=by
        have:=tlen (B2++S.aN.map λx=>.aN x.1.1 x.1.2 x.2) (B9 S) tB
        simpa[zh,za] using this
       refine{a7,_,rfl,bC (s8 _ _ ha7),rfl,?_};refine{_,_,rfl,{_,_,rfl,{_,_,rfl,{rfl,?_}}}};exists .inl {rfl,_,ao hD8},?_;exists b7 () (),?_;exists by show 3<=sizeLine;ext,?_
       intros p9 H9 s9 h9;let s09:=s8.trans s9;exists{_,ao (s09 _ _ hr7)},?_;refine eC (enc:=λq:Item×V=>q.2) (ws:=qs) (λq=>.str (qB q.1)) (λU=>∃v,U=[v]) () (by rw[f2];exact ao (s09 _ _ hr7)) {(none),rfl} ?_ ?_
       ·rintro z U Ha R hz sa ⟨_,rfl⟩ rr
        let zin:z.1∈y.2:=by rw[<-f1];exact zR hz
        change{z.2,z.1,rfl,((f3 z hz).mono s09).mono sa,b4 _ zin,rr _ _ _ (aI _) fu {_,rfl}}
       ·intro Da vsa Ha sa _ hDa ila
        let eea:qs.map (λq:Item×V=>Dt.str (qB q.1))=(y.2.map qB).map Dt.str:=by rw[<-f1,zD,zD];rfl
        rw[eea] at ila;rw[dX ila] at hDa;refine{p9,Da,_,_,rfl,rfl,ao (sa _ _ h9),ao hDa,by rw[za,za];show 3+_<=_;ext,?_};intros pb Hb sb hb;refine{" ",pb,Sc.aR (.aN y.1.1 y.1.2 y.2),rfl,rfl,ao hb,A4 tz,?_};let s8b:=(s9.trans sa).trans sb;left;refine{D7,_,_,rfl,rfl,s8b _ _ hD8,?_,?_}
        ·rw[lH];simp only[zh,za,zT];ext
        exists Lo.of rfl rfl,bN nD7 (s8.trans s8b),?_;rw[aF,dm hy,zk,<-zH];exact y6 (λl=>some (HO.lst l)) (lI _ [Told.aN y.1.1 y.1.2 y.2]).symm
      ·rintro U H8 ⟨⟨e,rfl⟩,s8,hD8⟩
       rw[rln.len,zP] at hD8;exists p,S,rfl,la.mono s8,rok,rln3,λj hj=>(tok (.cm j) (by rw[tB];unfold B9;rw[hj];simp)).1,λD9 H9 s9 _ h9=>?_;refine{D7,D9,_,_,rfl,rfl,ao (s9 _ _ hD8),ao h9,?_,?_}
       ·have:=tl
        rw[tB] at this;simp only[zh,za] at this;rw[lH];simp only[zh,za];ext
       intro Dx nx;generalize hU:upd H9 Dx _=Hx;let sx:aG H9 Hx:=by rw[<-hU];exact bz nx
       refine kk Dx Hx ((s8.trans s9).trans sx) ((s8.trans s9).back nx) ?_;rw[<-hU,aF,tB];exact y6 (λl=>some (HO.lst l)) (lI _ _).symm
def Oj {t:Told} (h:TD t):⇑(cE t)<=10100:=by
 let a:=B4 (sep:=" ") h.2.2;let b:⇑(Sc.aR t)*(100+(" ": Str).length)<=100*(100+(" ": Str).length):=wG h.2.1 (zm _);exact zO a (zO b (by show 100*(100+1)<=10100;decide))
inductive pJ (vs:List V) (H:Hp) (Q:VK) (E:XK):Prop
 | mk (p:vD) (S:cq) (_:vs=[.ref p]) (_:pA H p S) (_:(∀t∈eT S,TD t)) (_:⇑(eT S)<=1000) (_:(∀r∈S.aJ,NT r)) (_:⇑S.aJ<=1000) (_:∀H',aG H H'->Q (.str (Str.join "\n" ((eT S).map cE))) H')
def Hz {ts:List Told} (h:∀t∈ts,TD t) (hl:⇑ts<=1000):((ts.map cE).map (λz:Str=>⇑z+("\n": Str).length)).sum<=1000*10101:=by
 let a:=pI (sep:="\n") (k:=10100) (zs:=ts.map cE) λz hz=>by
  let⟨t,ht,rfl⟩:=zJ.mp hz;exact Oj (h t ht)
 rw[za] at a;let b:⇑ts*(10100+("\n": Str).length)<=1000*(10100+("\n": Str).length):=wG hl (zm _);exact zO a (zO b (by show 1000*(10100+1)<=1000*10101;decide))
def qi:di P w base 4 T.iE pJ:=by
 nomatch T.iE,["_law_s"]
 let⟨p,S,rfl,la,tok,tl,rok,rl,kk⟩:=h;let sl:=yC;refine{_,(ak (au (bZ yG yI yH gP aK (aa (bQ (qk T) hr T.iF (aa (pv 0) af)) af)))),?_};ac_rfl;exists p,S,rfl,la,tok,(),rok,rl,λD H1 s1 _ h1=>?_;refine{"\n",D,(eT S).map cE,rfl,rfl,ao h1,zO (Hz tok tl) (),?_};exact kk _ s1
theorem LU:∀{ts:List Told},(∀t∈ts,TD t)->RT (ts.map cE) ts
 | [],_=>.nil
 | t::r,h=>by
  let ht:=h t zv;exact .row (zO (Oj ht) ∅) (MS ht.1) ht.1 (zO ht.2.1 ∅) (λy hy=>zO (ht.2.2 y hy) ∅) (LU λx hx=>h x (zp _ hx))
def Q0 {ts:List Told} (ne:ts≠[]) (h:∀t∈ts,TD t):RT (Txt.split (Str.join "\n" (ts.map cE)) "\n") ts:=by
 rw[show Txt.split (Str.join "\n" (ts.map cE)) "\n"= ts.map cE from gC (c:=10) (by simpa using ne) λz hz=>by
  let⟨t,ht,rfl⟩:=zJ.mp hz;exact OQ (h t ht).1]
 exact LU h
def text_len {ts:List Told} (h:∀t∈ts,TD t) (hl:⇑ts<=1000):(Str.join "\n" (ts.map cE)).length+2<=sizeLine:=by
 let sl:=yC;let a:=join_le "\n" (ts.map cE);let b:=Hz h hl;ext
inductive vT (vs:List V) (H:Hp) (Q:VK) (E:XK):Prop
 | mk (m first last times:Int) (_:vs=[.int m,.int first,.int last,.int times]) (_:0<=m) (_:m<1099511627776) (_:0<=first) (_:first<=last) (_:last<=200) (_:2<=times) (_:times<=9) (_:∀(es:List Sc.End) v H',Mw first last times es->aG H H'->Is H' (.tup (es.map nh)) v->Q v H')
def LG (first last:Int) (bs:List Int):Prop:=bs≠[]/\bs.Pairwise (·<·)/\∀b∈bs,first<=b/\b<=last
def Qk {first last:Int} {bs:List Int} (h:LG first last bs):∃b,(bs.map V.int)[⇑(bs.map V.int)-1]?=some (.int b)/\first<=b/\b<=last/\∀x∈bs,x<=b:=by
 let⟨ne,asc,hin⟩:=h;let e:=xW ne;let hm:=List.getLast_mem ne;refine{bs.getLast ne,?_,(hin _ hm).1,(hin _ hm).2,λx hx=>?_}
 ·rw[za,zM,List.getLast_eq_getElem,zd (by have:=yt.mpr ne;ext)];rfl
 ·rw[<-e] at hx asc
  rw[zW] at asc;rcases zI.mp hx with z | z
  ·exact xa (asc.2.2 x z _ (zC.mpr rfl))
  ·rw[zC.mp z];exact yR _
def Qj {first last b c:Int} {bs:List Int} (h:LG first last bs) (hb:∀x∈bs,x<=b) (h1:first<=b) (h2:b<c) (h3:c<=last):LG first last (bs++[c]):=by
 let⟨ne,asc,hin⟩:=h;refine{by simp,?_,λx hx=>?_}
 ·rw[zW]
  refine{asc,by simp,λx hx y hy=>?_};let ey:y=c:=by simpa using hy
  have:=hb x hx;ext
 ·rcases zI.mp hx with z | z
  ·exact hin x z
  ·let ey:x=c:=by simpa using z
   ext
noncomputable def m9 (m:Int) (n k:Nat):Nat:=if k<n then(k+(m/90).toNat)%n else(m/((k:Int)+7)%(n:Int)).toNat
def Am:di P w base 1 T.mq vT:=by
 nomatch T.mq,["_law_m","_law_first","_law_last","_law_times","_law_begins","_law_passes","_law_k","_law_spot"]
 let⟨m,first,last,times,rfl,m0,m1,f0,fl,l1,t0,t1,kk⟩:=h;let sl:=yC;refine{_,(ag (aM (PW.pt (d4 (ptr c9 (pv 2) (pv 1)) (dq (ptr c9 (aB aX (pv 0) ae) ae))))
  (ak (au (bM af)))
  aC)
  (ag (bO 4 qN (bq (aa (aB bf (pv 1) (aB aX (aB aZ (pv 0) ae) (aB bf (aB iC (pv 2) (pv 1)) ae))) af)))
  (ag (nS yP (PW.pt (dF (ptr eX (d7 aH T.bP (aa (pv 4) af)) (pv 3)) (dF (ptr eX (fB (pv 4) (mI iw ae)) (pv 2)) (cZ (ptr fE (aB aX (aB aZ (pv 0) (aB bf (aB d9 ae (d7 aH T.bP (aa (pv 4) af))) ae)) ae) ae)))))
  (ak (bu (bZ yD yF yE bF (pv 4) (aa (d7 (NG rfl) T.Vi (aa (pv 2) (aa (aB bf (aB bf (fB (pv 4) (mI iw ae)) ae) (aB aX (aB aZ (pv 0) (aB bf (d7 aH T.bP (aa (pv 4) af)) ae)) ae)) af))) af)))))
  (ag (Rj (i:=5) (ts:=["_law_begin"]) (ys:=[]) (js:=[]) (te:=(HC fc)) (bB (pv 4)) (gO 0) bE (bq af) qN)
  (ag (cy yP rfl (dC (by rfl) T.de (aa (pv 3) af)) (jg 6 qN)
  (ag (bO 7 qN (Iq (ptr eX (pv 6) (d7 aH T.bP (aa (pv 4) af))) (aB aX (aB bf (pv 6) (aB aZ (pv 0) ae)) (d7 aH T.bP (aa (pv 4) af))) (aB aX (aB aZ (pv 0) (aB bf (pv 6) ae)) (d7 aH T.bP (aa (pv 4) af)))))
   (ak (bu (bZ yD yF yE bF (fB (pv 5) (pv 7)) (aa (aB bf (pv 6) ae) af))))))
  (ak (au (nV dR T.lU (aa (oJ (ts:=["_law_begin","_law_some"]) (ys:=[]) (js:=[]) (g:=(IZ K 2 (gj (cw 0) (gj (cw 1) I0)))) (te:=(MG (cj (bj 0) (cj (LM (To K) (cj (bj 1) fc)) fc)))) (KH (by rfl) T.Pl (aa (pv 4) (aa (pv 5) af))) (d6 (n:=2) rfl (aQ (gO 0) (aQ (gO 1) dr))) bE (bM (aa (pv 0) (aa (nV dR T.lU (aa (pv 1) af)) af)))) af))))))))),?_}
 ac_rfl;left;let none_:∀(Hq:Hp),aG H Hq->(∀p,Hq p=none->Q (.ref p) (upd Hq p (.tup []))):=λHq sq p n=>kk [] (.ref p) _ Np (sq.trans (bz n)) (cW aF du);refine L4 (decide (V.int last=V.int first)||decide (V.int (m%3)=V.int 0)) ?_ ?_ ?_
 ·intro c1 Z hz
  rw[c1,Bool.false_or] at hz;change hz
 ·intro c1;rw[c1,Bool.true_or]
 cases qv:(decide (V.int last=V.int first)||decide (V.int (m%3)=V.int 0)) with
 | true=>
  change{by show 0<=sizeLine;ext,none_ H (aI _)}
 | false=>
 exists by show 0<last-first+1;ext,?_
 let a0:0<=m/3%(last-first+1):=zA _ ();let a1:m/3%(last-first+1)<last-first+1:=zw _ ();exists by show 1<=sizeLine;ext,λB nB=>?_
 generalize hU1:upd H B _=H1;let s1:aG H H1:=aG.BV hU1 nB;let h1:H1 B=some (.lst ([first+m/3%(last-first+1)].map V.int)):=CK hU1;let b1:LG first last [first+m/3%(last-first+1)]:=by
  refine{by simp,by simp,λb hb=>?_};have:b=first+m/3%(last-first+1):=by simpa using hb
  ext
 clear hU1;left;refine Ex (λn U H'=>∃bs:List Int,n=9-⇑bs/\U=[some (.int m),some (.int first),some (.int last),some (.int times),some (.ref B),none,none,none]/\aG H H'/\H' B=some (.lst (bs.map V.int))/\LG first last bs/\(⇑bs:Int)<=times)
  (λU H'=>∃bs:List Int,U=[some (.int m),some (.int first),some (.int last),some (.int times),some (.ref B),none,none,none]/\aG H H'/\H' B=some (.lst (bs.map V.int))/\LG first last bs/\(⇑bs:Int)<=times)
  {_,_,rfl,rfl,s1,h1,b1,by show(1:Int)<=times;ext} ?_ ?_
 ·rintro n U H2 ⟨bs,rfl,rfl,s2,h2,b2,bl⟩ N hN
  let⟨lb,hlb,lb0,lb1,lbx⟩:=Qk b2;let out:=hN _ _ {(bs),rfl,s2,h2,b2,bl};exists B,_,rfl,.inl (ao h2),?_;rw[za];left;let q0:0<=m/(7*(⇑bs:Int)+5)%4:=zA _ ∅;refine eM (decide ((⇑bs:Int)<times)&&(decide (lb<last)&&decide (0<m/(7*(⇑bs:Int)+5)%4))) ?_ ?_ ?_
  ·intro c1 Z hz
   rw[c1,yW] at hz;exists B,_,-1,_,rfl,rfl,ao h2,sF hlb,?_;left;refine eM (decide (lb<last)&&decide (0<m/(7*(⇑bs:Int)+5)%4)) ?_ ?_ hz
   ·intro c2 Z hz
    rw[c2,yW] at hz;exists B,_,rfl,.inl (ao h2),?_;rw[za];exists{by show 0<7*(⇑bs:Int)+5;ext,by show 7*(⇑bs:Int)+5<1073741824;ext},?_;change hz
   ·intro c2;rw[c2,yU]
  ·intro c1;rw[c1,yU]
  cases qw:(decide ((⇑bs:Int)<times)&&(decide (lb<last)&&decide (0<m/(7*(⇑bs:Int)+5)%4))) with
  | false=>exact bX rfl out
  | true=>
   simp only[zQ,xE] at qw;let⟨c1,c2,c3⟩:=qw;refine bW rfl {λU H'=>∃bs':List Int,⇑bs'=⇑bs+1/\U=[some (.int m),some (.int first),some (.int last),some (.int times),some (.ref B),none,none,none]/\aG H H'/\H' B=some (.lst (bs'.map V.int))/\LG first last bs'/\(⇑bs':Int)<=times,?_,?_}
   ·rintro U' H' ⟨bs',e1,e2,e3,e4,e5,e6⟩
    exact{9-⇑bs',(),bs',rfl,e2,e3,e4,e5,e6}
   exists .inl {rfl,_,ao h2},?_;exists B,_,-1,_,rfl,rfl,ao h2,sF hlb,?_;exists B,_,rfl,.inl (ao h2),?_;rw[za];exists{by show 0<(⇑bs:Int)+11;ext,by show(⇑bs:Int)+11<1073741824;ext},?_;left;let r0:0<=m/((⇑bs:Int)+11)%3:=zA _ ∅;refine{_,_,rfl,?_};exists B,_,_,rfl,rfl,h2,by rw[za];ext,?_
   left;refine{bs++[if lb+1+m/((⇑bs:Int)+11)%3<last then lb+1+m/((⇑bs:Int)+11)%3 else last],by rw[zh];rfl,rfl,bN nB s2,by rw[aF,zk];rfl,Qj b2 lbx lb0 ?_ ?_,by rw[zh];show((⇑bs+1:Nat):Int)<=times;ext}
   ·split <;> ext
   ·split <;> ext
 ·clear s1 h1 b1
  rintro σ1 H1 ⟨bs,rfl,s1,h1,b1,bl⟩;let bp:0<⇑bs:=yt.mpr b1.1;exists{_,ao h1},?_;refine GO (by rw[za];ext) (ao h1) {(none),rfl} λD qs H2 s2 nD h2 nd nDq ql hq=>?_;rw[za] at ql;exists by ext,(),?_
  let neB:∀q∈qs,q≠B:=λq hq' e=>by
   have:=(hq q hq').1;rw[e,h1] at this;cases this
  let tn:((times.toNat:Nat):Int)=times:=()
  refine gH (λk U H'=>∃(v6 v7:Option V),U=[some (.int m),some (.int first),some (.int last),some (.int times),some (.ref B),some (.ref D),v6,v7]/\aG H H'/\H' B=some (.lst (bs.map V.int))/\H' D=some (.lst (qs.map V.ref))/\∀(i:Nat) (q:vD),qs[i]?=some q->H' q=some (.lst ((cU (m9 m ⇑bs) k i).map V.int)))
   {none,none,rfl,s1.trans s2,s2 _ _ h1,h2,λi q e=>(hq q (zE e)).2} ?_ ?_
  ·intro k U H3 hk hh
   refine cT λN kN0 kR0 _ _=>?_;let⟨v6,v7,rfl,s3,hB3,hD3,hq3⟩:=hh;left;let m90:0<=m/90:=zY m0 ∅;let sl0:m9 m ⇑bs k<⇑bs:=by
    unfold m9;split
    ·exact vi _ bp
    ·have:=zw (m/((k:Int)+7)) (b:=(⇑bs:Int)) ()
     have:=zA (m/((k:Int)+7)) (b:=(⇑bs:Int)) ();ext
   refine{B,_,rfl,.inl (ao hB3),?_};rw[za];left;refine Xj (H:=H3) (.int ((m9 m ⇑bs k:Nat):Int)) ?_ ?_ ?_
   ·intro c1 Z hz
    let c1':k<⇑bs:=by have:=yf c1;ext
    let e:((m9 m ⇑bs k:Nat):Int)=(0+(k:Int)+m/90)%(⇑bs:Int):=by
     unfold m9;rw[yO c1',Int.natCast_emod,Int.natCast_add,Int.toNat_of_nonneg m90,Int.zero_add]
    rw[e] at hz;exists B,_,rfl,.inl (ao hB3),?_;rw[za];change{by show 0<(⇑bs:Int);ext,hz}
   ·intro c1 Z hz
    let c1':¬k<⇑bs:=by have:=of_decide_eq_false c1;ext
    let e:((m9 m ⇑bs k:Nat):Int)=m/(0+(k:Int)+7)%(⇑bs:Int):=by
     unfold m9;rw[yN c1',Int.zero_add,Int.toNat_of_nonneg (zA _ ())]
    rw[e] at hz;exists{by show 0<0+(k:Int)+7;ext,by show 0+(k:Int)+7<1073741824;ext},?_;exists B,_,rfl,.inl (ao hB3),?_;rw[za];change{by show 0<(⇑bs:Int);ext,hz}
   left;let qe:qs[m9 m ⇑bs k]?=some (qs[m9 m ⇑bs k]'()):=zd ();generalize qs[m9 m ⇑bs k]'()=q at qe;let qm:=zE qe;refine{D,_,_,.ref q,rfl,rfl,ao hD3,bx (by rw[zM,qe];rfl),?_};let hq3':=hq3 _ _ qe;refine{.inl {rfl,_,ao hq3'},?_};exists q,_,_,rfl,rfl,hq3',by rw[za];have:=BJ (sp:=m9 m ⇑bs) (i:=m9 m ⇑bs k) (k:=k);ext,?_
   exists _,_,rfl,bN (s1.back (hq q qm).1) s3,by rw[aE (neB q qm).symm];exact hB3,by rw[aE (λz=>nDq (by rw[z];exact qm))];exact hD3,λi q' e=>?_
   by_cases ei:i=m9 m ⇑bs k
   ·have:q'=q:=by rw[ei,qe] at e;exact(ym e).symm
    rw[this,aF,cU,yO ei,zk,Int.zero_add,ei];rfl
   ·let nq:q'≠q:=λz=>by
     rw[z] at e;exact ei (II nd e qe)
    rw[aE nq,cU,yN ei];exact hq3 i q' e
  ·rintro U H3 ⟨v6,v7,rfl,s3,hB3,hD3,hq3⟩
   left;let eb:=tJ V.int 0 bs;let eq:=tJ V.ref 0 qs;rw[ql] at eq;refine{false,false,B,D,_,_,rfl,ao hB3,ao hD3,?_};refine Lh (ws:=List.range ⇑bs) (e1:=λi=>.int (bs.getD i 0)) (e2:=λi=>.ref (qs.getD i 0)) (λi=>nh (bs.getD i 0,cU (m9 m ⇑bs) times.toNat i)) (λU=>∃v w,U=[v,w]) (by rw[zU];ext) (by rw[eb];exact ao hB3) (by rw[eq];exact ao hD3) {(none),none,rfl} ?_ ?_
   ·rintro i U H4 p R hi s4 hp ⟨v,w',rfl⟩ rr
    let il:=yS.mp hi;let qe:qs[i]?=some (qs.getD i 0):=by rw[List.getD_eq_getElem?_getD,zd ()];rfl
    let h5:=s4 _ _ (hq3 i _ qe);refine{p,_,rfl,bC hp,rfl,?_};refine{_,_,rfl,{_,_,rfl,{rfl,?_}}};left;refine{_,_,rfl,.inl {ao h5,?_}};intros p6 H6 s6 h6;exists cO,?_;intros p7 H7 s7 h7;exact rr _ _ _ (s6.trans s7) (cW h7 (aU cX (aU (cW (s7 _ _ h6) rZ) du))) {_,_,rfl}
   ·intro D5 vs5 H5 s5 _ h5 il5
    rw[Nq] at il5;left;refine{D5,_,rfl,.inl {ao h5,?_}};intros p6 H6 s6 h6;refine kk _ _ _ ?_ ((s3.trans s5).trans s6) (cW h6 (il5.mono s6));have:=K2 (first:=first) (last:=last) (t:=times.toNat) (bs:=bs) (sp:=m9 m ⇑bs) () b1.1 b1.2.1 b1.2.2 ?_ ?_ ()
    ·rw[tn] at this;exact this
    ·intro j hj
     unfold m9;split
     ·exact vi _ bp
     ·have:=zw (m/((j:Int)+7)) (b:=(⇑bs:Int)) ()
      have:=zA (m/((j:Int)+7)) (b:=(⇑bs:Int)) ();ext
    ·intro i hi
     let⟨j,hj,ej⟩:=QR (c:=(m/90).toNat) hi;exact{j,(),by unfold m9;rw[yO hj];exact ej}
def Hh (many:Int) (r:Rep):Prop:=0<=r.first/\r.first<=r.last/\r.last<many/\2<=r.times/\r.times<=9/\Mw r.first r.last r.times r.ends
def Fh (many:Int) (rs:List Rep):Prop:=⇑rs<=4/\(∀r∈rs,Hh many r)/\rs.Pairwise λa b=>a.last<b.first
inductive pL (vs:List V) (H:Hp) (Q:VK) (E:XK):Prop
 | mk (c many:Int) (_:vs=[.int c,.int many]) (_:many<=200) (_:∀(rs:List Rep) D us H',Fh many rs->aG H H'->H' D=some (.lst us)->aD H' (rs.map ig) us->Q (.ref D) H')
theorem WQ:∀jj:Nat,jj<3->∃z:Int,[V.int 2,V.int 3,V.int 8][jj]?=some (.int z)/\2<=z/\z<=8
 | 0,_=>{2,rfl,∅,∅}
 | 1,_=>{3,rfl,∅,∅}
 | 2,_=>{8,rfl,∅,∅}
def qo:di P w base 2 T.iG pL:=by
 nomatch T.iG,["_law_cell","_law_many","_law_repeats","_law_bar","_law_k","_law_m","_law_first","_law_last","_law_times"]
 let⟨c,many,rfl,my,kk⟩:=h;let sl:=yC;refine{_,(ag (bO 2 qN (bq af))
  (ag (bO 3 qN ae)
  (ag (cy yP rfl (dC (by rfl) T.de (aa ae af)) (jg 4 qN)
  (ag (bO 5 qN (bQ (cg T) hr T.cG (aa (pv 0) (aa (aB bf (pv 4) ae) af))))
   (ag (bO 6 qN (aB bf (pv 3) (aB aX (pv 5) ae)))
   (ag (bO 7 qN (aB bf (pv 6) (aB aX (aB aZ (pv 5) ae) ae)))
   (ak (aM (PW.pt (dF (ptr eX (pv 7) (pv 1)) (cZ (ptr fE (aB aX (aB aZ (pv 5) ae) ae) ae))))
   (ag (bO 8 qN (aB bf ae (aB aX (aB aZ (pv 5) ae) (fB (bq (aa ae (aa ae (aa ae af)))) (aB aX (aB aZ (pv 5) ae) ae)))))
    (ag (bu (bZ yD yF yE bF (pv 2) (aa (bM (aa (pv 6) (aa (pv 7) (aa (pv 8) (aa (bQ (Am T) hr T.mq (aa (aB aZ (pv 5) ae) (aa (pv 6) (aa (pv 7) (aa (pv 8) af))))) af))))) af)))
    (ak (bO 3 qN (aB bf (pv 7) ae)))))
   aC))))))
  (ak (au (pv 2)))))),?_}
 ac_rfl;left
 intros D nD s2 h2 H2
 exists by decide,(by decide),?_
 refine gH (λi U H'=>∃(rs:List Rep) (us:List V) (bar:Int),Lo [some (.int c),some (.int many),some (.ref D),some (.int bar)] 5 U/\aG H H'/\H' D=some (.lst us)/\aD H' (rs.map ig) us/\⇑rs<=i/\0<=bar/\(∀r∈rs,Hh many r/\r.last<bar)/\rs.Pairwise λa b=>a.last<b.first)
  {[],[],0,Lo.of rfl rfl,s2,h2,du,zm _,∅,by simp,by simp} ?_ ?_
 ·intro i U H3 hi hh
  refine cT λN kN0 kR0 _ _=>?_;let⟨rs,us,bar,⟨e,rfl⟩,s3,h3,il3,rl,b0,rok,asc⟩:=hh;exists c,_,rfl,(),(),?_;let m0:0<=mixed c (0+(i:Int)+500):=zA _ ∅;let m1:mixed c (0+(i:Int)+500)<2147483399:=zw _ ∅;generalize mixed c (0+(i:Int)+500)=m at m0 m1;let a0:0<=m%4:=zA _ ∅;let e0:0<=m/4%8:=zA _ ∅;left;refine eM (decide (bar+m%4+m/4%8<many)&&decide (0<m/32%4)) ?_ ?_ ?_
  ·intro c1 Z hz
   rw[c1,yW] at hz;change hz
  ·intro c1;rw[c1,yU]
  cases qw:(decide (bar+m%4+m/4%8<many)&&decide (0<m/32%4)) with
  | false=>
   change{rs,us,bar,Lo.of rfl rfl,s3,h3,il3,(),b0,rok,asc}
  | true=>
   simp only[zQ,xE] at qw;let⟨c1,c2⟩:=qw;exists by show 3<=sizeLine;ext,?_
   intros p4 H4 s4 h4;let g0:0<=m/1024%3:=zA _ ∅;let g1:m/1024%3<3:=zw _ ∅;obtain⟨jj,hjj⟩:∃j:Nat,m/1024%3=(j:Int):={(m/1024%3).toNat,()}
   let⟨z,hz,z0,z1⟩:=WQ jj ();exists p4,_,m/1024%3,.int z,rfl,rfl,ao h4,(by rw[hjj];exact bx hz),?_;exists by show 0<z;ext,?_
   let t0:0<=m/128%z:=zA _ ();let t1:m/128%z<z:=zw _ ();exists .inl {rfl,_,ao (s4 _ _ h3)},?_;left;refine{_,_,_,_,rfl,zY m0 ∅,?_,(),(),(),(),(),λes v H5 eok s5 h5=>?_}
   ·have:=zZ (a:=m) 7 m0;ext
   exists by show 4<=sizeLine;ext,?_
   intros p6 H6 s6 h6;let s36:=s4.trans (s5.trans s6);let h36:=s36 _ _ h3;refine{D,us,_,rfl,rfl,h36,by have:=aS il3;ext,?_};let nt:cN (H6 D):=by rw[h36];exact λ_ z=>by cases z
   let ix:Is H6 (ig {bar+m%4,bar+m%4+m/4%8,2+m/128%z,es}) (.ref p6):=cW h6 (aU cX (aU cX (aU cX (aU (h5.mono s6) du))));left;refine{rs++[{bar+m%4,bar+m%4+m/4%8,2+m/128%z,es}],_,_,Lo.of rfl rfl,bN nD (s3.trans s36),aF,?_,by rw[zh];show ⇑rs+1<=i+1;ext,(),λr hr=>?_,?_}
   ·rw[zk]
    exact dj (Is.upd nt ix) (aD.upd nt (il3.mono s36))
   ·rcases zI.mp hr with y | y
    ·have:=rok r y
     exact{(this.1),()}
    ·rw[zC.mp y]
     exact{{by show 0<=bar+m%4;ext,by show bar+m%4<=bar+m%4+m/4%8;ext,c1,by show 2<=2+m/128%z;ext,by show 2+m/128%z<=9;ext,eok},by show bar+m%4+m/4%8<bar+m%4+m/4%8+1;ext}
   ·rw[zW]
    refine{asc,by simp,λa ha b hb=>?_};let eb:b=⟨bar+m%4,bar+m%4+m/4%8,2+m/128%z,es⟩:=by simpa using hb
    rw[eb];have:=(rok a ha).2;show a.last<bar+m%4;ext
 ·rintro U H3 ⟨rs,us,bar,⟨e,rfl⟩,s3,h3,il3,rl,b0,rok,asc⟩
  change kk rs D us H3 {rl,λr hr=>(rok r hr).1,asc} s3 h3 il3
def Sy (H:Hp) (p:vD) (rs:List Rep):Prop:=⇑rs<=1000/\(∀r∈rs,⇑r.ends<=1000)/\∃rv,H p=some (.lst rv)/\aD H (rs.map ig) rv
theorem Sy.mono {H H':Hp} (s:aG H H') {p:vD} {rs:List Rep} (h:Sy H p rs):Sy H' p rs:=by
 let⟨h1,h2,rv,h3,h4⟩:=h;exact{h1,h2,rv,s _ _ h3,h4.mono s}
inductive iB (vs:List V) (H:Hp) (Q:VK) (E:XK):Prop
 | mk (p:vD) (rs:List Rep) (b:Int) (_:vs=[.ref p,.int b]) (_:Sy H p rs) (_:∀H',aG H H'->Q (.bl (j0 rs b)) H')
inductive ki (vs:List V) (H:Hp) (Q:VK) (E:XK):Prop
 | mk (p:vD) (rs:List Rep) (b:Int) (_:vs=[.ref p,.int b]) (_:Sy H p rs) (_:∀H',aG H H'->Q (.bl (eY rs b)) H')
def pw:di P w base 1 T.mn ki:=by
 nomatch T.mn,["_law_repeats","_law_bar"]
 let⟨p,rs,b,rfl,⟨rl,el,rv,hp,il⟩,kk⟩:=h;let sl:=yC;let⟨ps,e1,e2,e3⟩:=hX il;let pln:⇑ps=⇑rs:=by rw[<-e1,za]
 refine{_,(ak (au (d7 (gL rfl) T.BY (aa (oJ (ts:=["_law_first","_law_last","_law_times","_law_ends"]) (ys:=["_law_bar"]) (js:=[1]) (g:=(IZ K 4 (gj (cw 0) (gj (cw 1) (gj (cw 2) (gj (cw 3) I0)))))) (te:=(pH (qP λi j=>.bl (decide (i<j))) (qP λi j=>.bl (decide (i<=j))) (bj 0) (bj 4) (bj 1))) (bB (pv 0)) (d6 (n:=4) rfl (aQ (gO 0) (aQ (gO 1) (aQ (gO 2) (aQ (gO 3) dr))))) bE (BI eX fQ (pv 0) (pv 4) (pv 1))) af)))),?_};ac_rfl;exists{_,ao hp},?_;refine eC (enc:=λq:Rep×V=>q.2) (ws:=ps) (λq=>.bl (decide (q.1.first<b)&&decide (b<=q.1.last))) (λU=>∃v1 v2 v3 v4,U=[v1,v2,v3,v4,some (.int b)]) () (by rw[e2];exact ao hp) {_,_,_,_,rfl} ?_ ?_
 ·rintro z U H1 R hz s1 ⟨v1,v2,v3,v4,rfl⟩ rr
  let⟨a,e,ev,ha,_⟩:=eN ((e3 z hz).mono s1);rw[ev];refine{a,_,rfl,bC ha,rfl,?_};refine{_,_,rfl,{_,_,rfl,{_,_,rfl,{_,_,rfl,{rfl,?_}}}}};left
  by_cases c:z.1.first<b
  ·refine bW (zg c) ?_
   change rr _ _ _ (aI _) (by rw[zg c,yW];unfold Is;rfl) {_,_,_,_,rfl}
  ·refine bX (ze c) ?_
   exact rr _ _ _ (aI _) (by rw[ze c,yU];unfold Is;rfl) {_,_,_,_,rfl}
 ·intro D vs H1 s1 nD hD ilD
  let ee:ps.map (λq:Rep×V=>Dt.bl (decide (q.1.first<b)&&decide (b<=q.1.last)))=(rs.map λr=>decide (r.first<b)&&decide (b<=r.last)).map Dt.bl:=by rw[<-e1,zD,zD];rfl
  rw[ee] at ilD;rw[kr ilD] at hD;exists D,_,rfl,ao hD,?_;have:=kk _ s1;unfold eY at this;rw[wF];exact this
def mT:di P w base 1 T.i9 iB:=by
 nomatch T.i9,["_law_repeats","_law_bar","_law_first","_law_last","_law_times","_law_ends","_law_mine"]
 let⟨p,rs,b,rfl,⟨rl,el,rv,hp,il⟩,kk⟩:=h;let sl:=yC;let rvl:=aS il;refine{_,(ag (cy yP rfl (bB (pv 0)) (d6 (n:=4) rfl (aQ (jg 2 qN) (aQ (jg 3 qN) (aQ (jg 4 qN) (aQ (jg 5 qN) dr)))))
  (ak (aM (O1 fQ fQ (pv 2) (pv 1) (pv 3))
   (ag (Rj (i:=6) (ts:=["_law_begin","_law_passes"]) (ys:=["_law_bar"]) (js:=[1]) (g:=(IZ K 2 (gj (cw 0) (gj (cw 1) I0)))) (tc:=(o6 (fW (qP λi j=>.bl (decide (i<=j))) (bj 0) (bj 2)))) (te:=(bj 1)) (ko (pv 5)) (d6 (n:=2) rfl (aQ (gO 0) (aQ (gO 1) dr))) (iQ (ptr fQ (pv 0) (pv 2))) (pv 1) qN)
    (ak (au (O9 (dM (F4 hr.units) (pv 6) (bq af) (gE _)) (nT (dM jh (pv 4) (fB (pv 6) (mI iw ae)) (by with_unfolding_all rfl)))))))
   aC)))
  (ak (au jz))),?_}
 ac_rfl;exists{_,ao hp},?_;refine dG (K:=K) (a:=p) (xs:=rv) (λi U H'=>H'=H/\(∀r∈rs.take i,Hl r b=false)/\∃(v2 v3 v4 v5 v6:Option V),U=[some (.ref p),some (.int b),v2,v3,v4,v5,v6]) {rfl,by simp,none,none,none,none,none,rfl} (λi U H' _ h=>by rw[h.1];exact ao hp) ?_ ?_
 ·rintro i x U H1 hx ⟨rfl,no,v2,v3,v4,v5,v6,rfl⟩
  let⟨r,hr',ir⟩:=cV il hx;let⟨a,ep,rfl,ha,ie⟩:=eN ir;let rin:=zE hr';let nxt:Hl r b=false->∀y∈rs.take (i+1),Hl y b=false:=λe y hy=>by
   rw[dm hr'] at hy;rcases zI.mp hy with z | z
   ·exact no y z
   ·rw[zC.mp z];exact e
  refine{a,_,rfl,bC ha,rfl,?_};refine{_,_,rfl,{_,_,rfl,{_,_,rfl,{_,_,rfl,{rfl,?_}}}}};left
  by_cases c1:r.first<=b
  ·refine bW (zg c1) ?_
   left
   by_cases c2:b<=r.last
   ·refine bW (zg c2) ?_
    left;obtain⟨ep',evs,e0,hep,ile⟩:∃ep' evs,V.ref ep=.ref ep'/\H1 ep'=some (.tup evs)/\aD H1 (r.ends.map nh) evs:=by unfold Is at ie;exact ie
    cases e0;let⟨ps,e1,e2,e3⟩:=hX ile;let pln:⇑ps=⇑r.ends:=by rw[<-e1,za]
    let elr:=el r rin;refine{{_,bC hep},?_};let hro:dU rs b=some r:=Ca hr' (by rw[zg c1,zg c2];rfl) λy hy=>no y hy;refine qG (ws:=ps) (enc:=λq:Sc.End×V=>q.2) (λq=>decide (q.1.1<=b)) (λq=>u7 q.1.2) (λU=>∃v w',U=[v,w',some (.int b)]) () {_,_,rfl} (λi H hi sm=>KY (je sm hep) (by rw[<-e2,za];exact hi)) (λH sm=>{_,je sm hep,by rw[<-e2,za];exact zm _}) ?_ ?_ ?_
    ·rintro i x H H2 hi sm ⟨rfl,hy⟩
     let hx':=hy _ (je sm hep);rw[<-e2,zM,zd hi] at hx';cases hx';exact{(rfl),rfl}
    ·rintro z U H2 R N hz s2 ⟨v,w',rfl⟩ rr nn
     let⟨a2,q2,ev,ha2,hq2⟩:=uk ((e3 z hz).mono s2);rw[ev];refine{a2,_,rfl,bC ha2,rfl,?_};refine{_,_,rfl,{_,_,rfl,{rfl,?_}}};left
     by_cases c3:z.1.1<=b
     ·refine bW (zg c3) ?_
      change rr (zg c3) _ _ _ (aI _) (cW hq2 rZ) {_,_,rfl}
     ·refine bX (ze c3) ?_
      exact nn (ze c3) _ _ (aI _) {_,_,rfl}
    ·intro D vs H2 s2 nD hD ilD
     let ee:(ps.filter λq:Sc.End×V=>decide (q.1.1<=b)).map (λq=>u7 q.1.2)=((r.ends.filter λe=>decide (e.1<=b)).map (·.2)).map u7:=by
      rw[<-e1,List.filter_map,zD,zD];rfl
     rw[ee] at ilD;let vl:=aS ilD;rw[za] at vl;exists by show 0<=sizeLine;ext,?_
     intros p3 H3 s3 h3;refine{D,p3,_,_,rfl,rfl,.inl {ao (s3 _ _ hD),ao h3},.inr (.inl rfl),?_};let hlp:j0 rs b=(match (r.ends.filter λe=>decide (e.1<=b)).getLast? with | none=>true | some e=>decide (r.times∈e.2)):=by unfold j0;rw[hro];try rfl
     rw[hlp] at kk;clear hlp ee;generalize (r.ends.filter λe=>decide (e.1<=b))=fs at kk ilD vl;let s13:=s2.trans s3
     by_cases e:vs=[]
     ·refine{_,rfl,bW (zg e) ?_}
      have:fs=[]:=by
       rw[e] at vl;exact yu.mp vl.symm
      rw[this] at kk;exact kk _ s13
     ·refine{_,rfl,bX (ze e) ?_}
      let vp:0<⇑vs:=yt.mpr e;let⟨ps5,hps5,i5⟩:=cV ilD (i:=⇑vs-1) (zd ());rw[zM] at hps5;cases qf:fs[⇑vs-1]? with
      | none=>rw[qf] at hps5;cases hps5
      | some en=>
       rw[qf] at hps5;let e5:en.2=ps5:=ym hps5;subst e5;let gl:fs.getLast?=some en:=by rw[wk,<-vl];exact qf
       rw[gl] at kk;unfold u7 Is at i5;let⟨a5,us5,ev5,ha5,il5⟩:=i5;rw[eQ il5] at ha5;left;refine{D,vs,-1,_,rfl,rfl,ao (s3 _ _ hD),sF (zd ()),?_};rw[ev5];refine{a5,_,rfl,.inr (bC (s3 _ _ ha5)),rfl,by rw[wd];exact yq.mpr λx _=>rfl,?_};show Q (.bl (Gp (.int r.times) (en.2.map V.int))) _;rw[AV];exact kk _ s13
   ·refine bX (ze c2) ?_
    change{nxt (by unfold Hl;rw[ze c2,wI]),_,_,_,_,_,rfl}
  ·refine bX (ze c1) ?_
   change{nxt (by unfold Hl;rw[ze c1,yU]),_,_,_,_,_,rfl}
 ·rintro U H1 ⟨rfl,no,v2,v3,v4,v5,v6,rfl⟩
  left;let e:j0 rs b=true:=by
   unfold j0;rw[show dU rs b=none from xT.mpr λy hy=>by
    have:=no y (by rw[rvl,zP];exact hy);unfold Hl at this;rw[this];simp]
  rw[e] at kk;exact kk _ (aI _)
def Fh.apart {many:Int} {rs:List Rep} (h:Fh many rs):Apart rs:=by
 refine{λr hr=>?_,h.2.2};let⟨h1,h2,h3,h4,h5,e1,e2,e3,e4,e5⟩:=h.2.1 r hr;exact{h2,e5,λe he=>{(e3 e he).1,(e3 e he).2.1}}
inductive vS (vs:List V) (H:Hp) (Q:VK) (E:XK):Prop
 | mk (c many:Int) (p:vD) (rs:List Rep) (_:vs=[.int c,.int many,.ref p]) (_:Sy H p rs) (_:Fh many rs) (_:1<=many) (_:many<=200) (_:∀(jo:Option Jump) v H',(∀j,jo=some j->R1 many rs j)->aG H H'->Is H' (dO j9 jo) v->Q v H')
def Mr {l:List Int} {j:Nat} (h:j<⇑l):∃x,(l.map V.int)[j]?=some (.int x)/\x∈l:={l[j],by rw[zM,zd h];rfl,yn h}
def KP {m:Int} {l:List Int} (h:l≠[]):∃x,Ek (l.map V.int) (m%(⇑l:Int))=some (.int x)/\x∈l:=by
 let hp:0<⇑l:=yt.mpr h;let a0:=zA m (b:=(⇑l:Int)) ();let a1:=zw m (b:=(⇑l:Int)) ();obtain⟨j,hj⟩:∃j:Nat,m%(⇑l:Int)=(j:Int):={(m%(⇑l:Int)).toNat,()}
 let⟨x,e1,e2⟩:=Mr (l:=l) (j:=j) ();exact{x,by rw[hj];exact bx e1,e2}
def JI (l:List Int):(l.map V.int).all mV=true:=by rw[wd];exact yq.mpr λ_ _=>rfl
def Al:di P w base 2 T.mm vS:=by
 nomatch T.mm,["_law_cell","_law_many","_law_repeats","_law_m","_law_lasts","_law_inside","_law_ats","_law_at","_law_tos","_law_to","_law_untils","_law_codas"]
 let⟨c,many,p,rs,rfl,rsl,rd,mn1,mn2,kk⟩:=h;let sl:=yC;let ap:=rd.apart;let⟨rl,el,rv,hp,il⟩:=id rsl;let⟨ps,e1,e2,e3⟩:=hX il;let pln:⇑ps=⇑rs:=by rw[<-e1,za]
 refine{_,(ag (bO 3 qN (bQ (cg T) hr T.cG (aa (pv 0) (aa ae af))))
  (ag (bO 4 qN (oJ (ts:=["_law_first","_law_last","_law_times","_law_ends"]) (ys:=[]) (js:=[]) (g:=(IZ K 4 (gj (cw 0) (gj (cw 1) (gj (cw 2) (gj (cw 3) I0)))))) (te:=(bj 1)) (bB (pv 2)) (d6 (n:=4) rfl (aQ (gO 0) (aQ (gO 1) (aQ (gO 2) (aQ (gO 3) dr))))) bE (pv 1)))
  (ag (bO 5 qN (oJ (ts:=["_law_bar"]) (ys:=["_law_repeats"]) (js:=[2]) (g:=(cw 0)) (tc:=(tB (LM (WJ K) (cj (nA [none,some 0] (Mc K (bj 1)) (cw 0) vJ (pH (qP λi j=>.bl (decide (i<=j))) (qP λi j=>.bl (decide (i<=j))) (fW (qd K) (bj 0) (tC (.int (0)))) (bj 1) (fW (qd K) (bj 0) (tC (.int (1)))))) fc)))) (te:=(bj 0)) (dC (by rfl) T.de (aa (pv 1) af)) (gO 0) (iQ (cP (d7 (gL rfl) T.BY (aa (oJ (ts:=["_law_one"]) (ys:=["_law_bar"]) (js:=[0]) (te:=(pH (qP λi j=>.bl (decide (i<=j))) (qP λi j=>.bl (decide (i<=j))) (fW (qd K) (bj 0) (tC (.int (0)))) (bj 1) (fW (qd K) (bj 0) (tC (.int (1)))))) (bB (pv 1)) (gO 0) bE (BI fQ fQ (bJ (pv 0) ae) (pv 1) (bJ (pv 0) ae))) af)))) (pv 0)))
  (ag (Rj (i:=6) (ts:=["_law_bar"]) (ys:=["_law_lasts","_law_inside"]) (js:=[4,5]) (g:=(cw 0)) (tc:=(Wv (o6 (fW (UE K false) (bj 0) (bj 1))) (o6 (fW (UE K true) (bj 0) (bj 2))))) (te:=(bj 0)) (dC (by rfl) T.de (aa (pv 1) af)) (gO 0) (iQ (PW.pt (d4 (gd jh (pv 0) (pv 1) (by with_unfolding_all rfl)) (dq (gd d8 (pv 0) (pv 2) (by with_unfolding_all rfl)))))) (pv 0) qN)
  (ag (aM (PW.pt (d4 (ptr c9 (aB aX (aB aZ (pv 3) ae) ae) ae) (dq (ptr (F4 hr.units) (pv 6) (bq af)))))
  (ak (au aW))
  aC)
  (ag (bO 7 qN (fB (pv 6) (aB aX (aB aZ (pv 3) ae) (d7 aH T.bP (aa (pv 6) af)))))
  (ag (Rj (i:=8) (ts:=["_law_bar"]) (ys:=["_law_repeats"]) (js:=[2]) (g:=(cw 0)) (tc:=(QN (tB (gz ki [] E0 (cj (bj 1) (cj (bj 0) fc)))))) (te:=(bj 0)) (dC (by rfl) T.de (aa (aB bf (pv 7) ae) af)) (gO 0) (iQ (fq (cP (bQ (pw T) hr T.mn (aa (pv 1) (aa (pv 0) af)))))) (pv 0) qN)
  (ag (bO 9 qN (fB (pv 8) (aB aX (aB aZ (pv 3) ae) (d7 aH T.bP (aa (pv 8) af)))))
  (ag (Rj (i:=10) (ts:=["_law_bar"]) (ys:=["_law_repeats"]) (js:=[2]) (g:=(cw 0)) (tc:=(tB (gz iB [] E0 (cj (bj 1) (cj (bj 0) fc))))) (te:=(bj 0)) (tM (by rfl) T.de (aa (pv 9) (aa (aB bf (pv 7) ae) af))) (gO 0) (iQ (cP (bQ (mT T) hr T.i9 (aa (pv 1) (aa (pv 0) af))))) (pv 0) qN)
  (ag (Rj (i:=11) (ts:=["_law_bar"]) (ys:=["_law_repeats"]) (js:=[2]) (g:=(cw 0)) (tc:=(S8 (QN (tB (gz ki [] E0 (cj (bj 1) (cj (bj 0) fc))))) (tB (gz iB [] E0 (cj (bj 1) (cj (bj 0) fc)))))) (te:=(bj 0)) (tM (by rfl) T.de (aa (aB bf (pv 7) ae) (aa (pv 1) af))) (gO 0) (iQ (PW.pt (dF (fq (cP (bQ (pw T) hr T.mn (aa (pv 1) (aa (pv 0) af))))) (cZ (cP (bQ (mT T) hr T.i9 (aa (pv 1) (aa (pv 0) af)))))))) (pv 0) qN)
  (ag (aM (ptr (F4 hr.units) (pv 10) (bq af))
  (ak (au aW))
  aC)
  (ak (au (bM (aa (pv 7) (aa (pv 9) (aa (fB (pv 10) (aB aX (aB aZ (pv 3) ae) (d7 aH T.bP (aa (pv 10) af)))) (aa (fB (aB gh (bq (aa aW af)) (pv 11)) (aB aX (aB aZ (pv 3) ae) (aB bf ae (d7 aH T.bP (aa (pv 11) af))))) af)))))))))))))))))),?_}
 ac_rfl;exists c,520,rfl,(),(),?_;let m0:0<=mixed c 520:=zA _ ∅;generalize mixed c 520=m at m0;exists{_,ao hp},?_;refine eC (enc:=λq:Rep×V=>q.2) (ws:=ps) (λq=>.int q.1.last) (λU=>∃v1 v2 v3 v4,U=[v1,v2,v3,v4]) () (by rw[e2];exact ao hp) {_,_,_,_,rfl} ?_ ?_
 ·rintro z U H1 R hz s1 ⟨v1,v2,v3,v4,rfl⟩ rr
  let⟨a,e,ev,ha,_⟩:=eN ((e3 z hz).mono s1);rw[ev];refine{a,_,rfl,bC ha,rfl,?_};refine{_,_,rfl,{_,_,rfl,{_,_,rfl,{_,_,rfl,{rfl,?_}}}}};change rr _ _ _ (aI _) cX {_,_,_,_,rfl}
 intro D4 vs4 H4 s4 _ hD4 il4;let ee:ps.map (λq:Rep×V=>Dt.int q.1.last)=(rs.map (·.last)).map Dt.int:=by rw[<-e1,zD,zD];rfl
 rw[ee] at il4;rw[eQ il4] at hD4;clear ee il4;exists by ext,(),?_
 let mt:((many.toNat:Nat):Int)=many:=()
 refine jG (rest:=[some (.ref p)]) (λb=>rs.any λr=>Hl r b) () {(none),rfl} ?_ ?_
 ·intro i H5 R i0 i1 s5 hR
  let s05:=s4.trans s5;exists{_,ao (s05 _ _ hp)},?_;refine eC (enc:=λq:Rep×V=>q.2) (ws:=ps) (λq=>.bl (Hl q.1 i)) (λU=>∃v1,U=[v1,some (.int i)]) () (by rw[e2];exact ao (s05 _ _ hp)) {_,rfl} ?_ ?_
  ·rintro z U H6 R hz s6 ⟨v1,rfl⟩ rr
   let⟨a,e,ev,ha,_⟩:=eN ((e3 z hz).mono (s05.trans s6));rw[ev];left
   by_cases c1:z.1.first<=i
   ·refine bW (zg c1) ?_
    change rr _ _ _ (aI _) (by unfold Hl;rw[zg c1,yW];unfold Is;rfl) {_,rfl}
   ·refine bX (ze c1) ?_
    exact rr _ _ _ (aI _) (by unfold Hl;rw[ze c1,yU];unfold Is;rfl) {_,rfl}
  ·intro D vs H6 s6 nD hD ilD
   let ee:ps.map (λq:Rep×V=>Dt.bl (Hl q.1 i))=(rs.map λr=>Hl r i).map Dt.bl:=by rw[<-e1,zD,zD];rfl
   rw[ee] at ilD;rw[kr ilD] at hD;exists D,_,rfl,ao hD,?_;rw[wF];exact{_,rfl,hR _ s6}
 intro D5 H5 s5 _ hD5;let hD45:=s5 _ _ hD4;generalize hins:mW (λb=>rs.any λr=>Hl r b) 0 many.toNat=ins at hD5;exists by ext,(),?_
 refine jG (rest:=[some (.ref D4),some (.ref D5)]) (λb=>decide (b∈rs.map (·.last))||!decide (b∈ins)) () ⟨none,rfl⟩ ?_ ?_
 ·intro i H6 R i0 i1 s6 hR
  exists D4,_,rfl,.inl (ao (s6 _ _ hD45)),rfl,JI _,?_;show∃k,V.bl (Gp (.int i) ((rs.map (·.last)).map V.int))=.bl k/\_;rw[AV];refine{_,rfl,?_};refine L4 (decide (i∈rs.map (·.last))||!decide (i∈ins)) ?_ ?_ (hR _ (aI _))
  ·intro c1 Z hz
   rw[c1,Bool.false_or] at hz;exists D5,_,rfl,.inl (ao (s6 _ _ hD5)),rfl,JI _,?_;show∃k,V.bl (!Gp (.int i) (ins.map V.int))=.bl k/\_;rw[AV];exact{_,rfl,hz}
  ·intro c1;rw[c1,Bool.true_or]
 intro D6 H6 s6 _ hD6;let s06:=(s4.trans s5).trans s6;generalize hats:mW (λb=>decide (b∈rs.map (·.last))||!decide (b∈ins)) 0 many.toNat=ats at hD6;left;let out:∀H',aG H H'->Q .bT H':=λH' s'=>kk none .bT H' (λj z=>by cases z) s' (by unfold dO Is;rfl)
 by_cases c0:m/7%3=0
 ·refine bW (zg (y6 V.int c0)) ?_
  change out _ s06
 refine bX (ze λz=>c0 (V.int.inj z)) ?_;exists by show 0<=sizeLine;ext,?_
 intros p7 H7 s7 h7;refine{D6,p7,_,_,rfl,rfl,.inl {ao (s7 _ _ hD6),ao h7},.inr (.inl rfl),?_}
 by_cases cn:ats=[]
 ·rw[cn]
  change out _ (s06.trans s7)
 let hn:decide (ats.map V.int=[])=false:=ze (by simpa using cn);rw[hn];let s07:=s06.trans s7;let hD67:=s7 _ _ hD6;left;let⟨at_,hat,atin⟩:=KP (m:=m/3) cn;let anp:0<⇑ats:=yt.mpr cn;refine{D6,_,rfl,.inl (ao hD67),?_};rw[za];exists by show 0<(⇑ats:Int);ext,?_
 refine{D6,_,_,_,rfl,rfl,ao hD67,hat,?_};rw[<-hats] at atin;let⟨a0,a1,a2⟩:=oQ atin;let a1':at_<many:=()
 let aleave:(∃r∈rs,r.last=at_)\/(rs.any λr=>Hl r at_)=false:=by
  rw[Bool.or_eq_true,xE] at a2;rcases a2 with z | z
  ·let⟨r,hr1,hr2⟩:=zJ.mp z
   exact .inl {(r),hr1,hr2}
  ·right
   cases q:rs.any λr=>Hl r at_ with
   | false=>rfl
   | true=>
    have:at_∈ins:=by rw[<-hins];exact Jf a0 () q
    rw[zg this] at z;cases z
 clear hats atin hat;exists by show -2^62<=at_+1;ext,(by show at_+1<2^62;ext),?_
 let pt:∀H',aG H7 H'->Sy H' p rs:=λH' s'=>(rsl.mono s07).mono s';refine jG (rest:=[some (.ref p)]) (λb=>!eY rs b) (by show(at_+1).toNat<=sizeLine;ext) {(none),rfl} ?_ ?_
 ·intro i H8 R i0 i1 s8 hR
  change{p,rs,i,rfl,pt _ s8,λH' s'=>{_,rfl,hR _ s'}}
 intro D8 H8 s8 _ hD8;generalize htos:mW (λb=>!eY rs b) 0 (at_+1).toNat=tos at hD8;let tn:tos≠[]:=by
  rw[<-htos];refine List.ne_nil_of_mem (Jf (x:=0) () () ?_);have:eY rs 0=false:=by
   unfold eY;rw[vo];intro r hr';have:=(rd.2.1 r hr').1;rw[ze (show¬r.first<0 by ext)];simp
  rw[this];rfl
 let⟨to_,hto,toin⟩:=KP (m:=m/50) tn;let tnp:0<⇑tos:=yt.mpr tn;exists D8,_,rfl,.inl (ao hD8),?_;rw[za];exists by show 0<(⇑tos:Int);ext,?_
 refine{D8,_,_,_,rfl,rfl,ao hD8,hto,?_};rw[<-htos] at toin;let⟨b0,b1,b2⟩:=oQ toin;let b2':eY rs to_=false:=by cases q:eY rs to_ with
  | false=>rfl
  | true=>rw[q] at b2;cases b2
 clear htos toin hto tnp tn;exists _,_,rfl,{(),(),(by show -2^62<=at_+1;ext),by show at_+1<2^62;ext},?_;refine jG (rest:=[some (.ref p)]) (λb=>j0 rs b) (by show(at_+1-to_).toNat<=sizeLine;ext) {(none),rfl} ?_ ?_
 ·intro i H9 R i0 i1 s9 hR
  change{p,rs,i,rfl,pt _ (s8.trans s9),λH' s'=>{_,rfl,hR _ s'}}
 intro D9 H9 s9 _ hD9;generalize hunt:mW (λb=>j0 rs b) to_ (at_+1-to_).toNat=unt at hD9;exists _,_,rfl,{by show -2^62<=at_+1;ext,(by show at_+1<2^62;ext),(),()},?_;refine jG (rest:=[some (.ref p)]) (λb=>!eY rs b&&j0 rs b) (by show(many-(at_+1)).toNat<=sizeLine;ext) {(none),rfl} ?_ ?_
 ·intro i Ha R i0 i1 sa hR
  left;refine{p,rs,i,rfl,pt _ ((s8.trans s9).trans sa),λH' s'=>{_,rfl,?_}};cases q:eY rs i with
  | true=>
   rw[q] at hR;exact bX rfl (hR _ s')
  | false=>
   rw[q] at hR;refine bW rfl ?_;change{p,rs,i,rfl,(pt _ ((s8.trans s9).trans sa)).mono s',λH'' s''=>{_,rfl,hR _ (s'.trans s'')}}
 intro Da Ha sa _ hDa;generalize hcod:mW (λb=>!eY rs b&&j0 rs b) (at_+1) (many-(at_+1)).toNat=cod at hDa;let cl:⇑cod<=200:=by
  have:=Nm (f:=λb=>!eY rs b&&j0 rs b) (lo:=at_+1) (n:=(many-(at_+1)).toNat);rw[hcod] at this;ext
 let s0a:=((s07.trans s8).trans s9).trans sa;exists by show 0<=sizeLine;ext,?_
 intros pb Hb sb hb;let hD9b:=sb _ _ (sa _ _ hD9);refine{D9,pb,_,_,rfl,rfl,.inl {ao hD9b,ao hb},.inr (.inl rfl),?_}
 by_cases un:unt=[]
 ·rw[un]
  change out _ (s0a.trans sb)
 let hn2:decide (unt.map V.int=[])=false:=ze (by simpa using un);rw[hn2];let⟨u_,hu,uin⟩:=KP (m:=m/500) un;let unp:0<⇑unt:=yt.mpr un;rw[<-hunt] at uin;let⟨u0,u1,u2⟩:=oQ uin;exists D9,_,rfl,.inl (ao hD9b),?_;rw[za];exists by show 0<(⇑unt:Int);ext,?_
 refine{D9,_,_,_,rfl,rfl,ao hD9b,hu,?_};exists by show 1<=sizeLine;ext,?_
 intros pc Hc sc hc;let hDac:=sc _ _ (sb _ _ hDa);exists pc,Da,_,_,rfl,rfl,ao hc,ao hDac,by rw[za];show 1+⇑cod<=sizeLine;ext,?_
 intros pd Hd sd hd;exists Da,_,rfl,.inl (ao (sd _ _ hDac)),?_;rw[za];exists by show 0<1+(⇑cod:Int);ext,?_
 let k0:0<=m/7%(1+(⇑cod:Int)):=zA _ ();let k1:m/7%(1+(⇑cod:Int))<1+(⇑cod:Int):=zw _ ();obtain⟨kj,hkj⟩:∃j:Nat,m/7%(1+(⇑cod:Int))=(j:Int):={(m/7%(1+(⇑cod:Int))).toNat,()}
 obtain⟨co,cv,hcv,icv,cok⟩:∃(co:Option Int) (cv:V),(V.bT::cod.map V.int)[kj]?=some cv/\(∀H',Is H' (dO Dt.int co) cv)/\∀x,co=some x->x∈cod:=by
  cases kj with
  | zero=>exact{none,.bT,rfl,λH'=>by unfold dO Is;rfl,λx z=>by cases z}
  | succ k=>
   let⟨x,f1,f2⟩:=Mr (l:=cod) (j:=k) ();exact{some x,.int x,by simpa using f1,λH'=>by unfold dO Is;rfl,λy z=>by cases z;exact f2}
 refine{pd,_,_,_,rfl,rfl,ao hd,(by rw[hkj];exact bx hcv),?_};exists by show 4<=sizeLine;ext,?_
 intros pe He se he;refine kk (some {(at_),to_,u_,co}) _ _ (λj z=>?_) ((((s0a.trans sb).trans sc).trans sd).trans se) (cW he (aU cX (aU cX (aU cX (aU (icv _) du)))));cases z;refine T4 ap a0 a1' aleave b0 () b2' u0 () u2 λx hx=>?_;let xin:=cok x hx;rw[<-hcod] at xin;let⟨x0,x1,x2⟩:=oQ xin;rw[zQ] at x2;refine{(),(),?_,x2.2};cases q:eY rs x with
 | false=>rfl
 | true=>rw[q] at x2;cases x2.1
def Of:∀x∈Gj,∀z∈([2,3,5]:List Int),(red x.1 (x.2*z)).1*(red x.1 x.2).2<(red x.1 x.2).1*(red x.1 (x.2*z)).2:=by decide +kernel
structure uJ (most:Int) (S:cq):Prop where
 Tr:1<=⇑S.az
 pl:⇑S.az<=4
 pn:JV S.az
 ins:VM S.aq
 st:S.aP=[]
 b1:1<=⇑S.aO
 bl:(⇑S.aO:Int)<=most
 bd:∀b∈S.aO,NZ b
 up:∀u,S.aL=some u->∃x z,S.aO[0]?=some x/\z∈([2,3,5]:List Int)/\u=red x.aV.1 (x.aV.2*z)
 hs:List.Sublist (S.holds.map (·.1)) S.az
 hr:∀x∈S.holds,Mu (S.aq.map (·.1)) ⇑S.aO x.2
 no:Hi S S.aN
 nl:⇑S.aN<=9*⇑S.aO
 rp:Fh ⇑S.aO S.aJ
 ju:∀j,S.cm=some j->R1 ⇑S.aO S.aJ j
def Ci {aO:List Sc.N5} {upb:Option (Int×Int)} {S:cq} (eb:S.aO=aO) (eu:S.aL=upb) (bd:∀b∈aO,NZ b) (up:∀u,upb=some u->∃x z,aO[0]?=some x/\z∈([2,3,5]:List Int)/\u=red x.aV.1 (x.aV.2*z)) (b:Nat) (hb:b<⇑aO):LB (S.len b):=by
 let hm:LB (S.aV b):=by
  unfold cq.aV;rw[eb,zd hb];let⟨m1,m2,m3,m4,m5⟩:=jY (bd _ (yn hb)).1;exact KS () () () ()
 unfold cq.len;rw[eu];cases q:upb with
 | none=>exact hm
 | some u=>
  dsimp only;split
  ·let⟨x,z,e1,e2,e3⟩:=up u q
   let⟨m1,m2,m3,m4,m5⟩:=jY (bd _ (zE e1)).1;rw[e3];let z1:2<=z/\z<=5:=by
    simp only[zF,zG,yV] at e2;ext
   let p1:0<x.aV.2*z:=xA () ();let p2:x.aV.2*z<=32*5:=wa m5 z1.2 () ∅;exact KS () () p1 ()
  ·exact hm
inductive sV (K:yB) (vs:List V) (H:Hp) (Q:VK) (E:XK):Prop
 | mk (a:vD) (ns:List Int) (most:Int) (_:vs=[.ref a,.int most]) (_:gx K H a (ns.map V.int)) (_:⇑ns<=1000) (_:1<=most) (_:most<=24) (_:∀S p H',uJ most S->aG H H'->pA H' p S->Q (.ref p) H')
theorem TK:∀jj:Nat,jj<3->∃z:Int,[V.int 2,V.int 3,V.int 5][jj]?=some (.int z)/\z∈([2,3,5]:List Int)
 | 0,_=>{2,rfl,∅}
 | 1,_=>{3,rfl,∅}
 | 2,_=>{5,rfl,∅}
def tP:di P w base 4 T.kF (sV K):=by
 nomatch T.kF,["_law_script","_law_most","_law_m","_law_players","_law_instruments","_law_many","_law_bars","_law_upbeat","_law_holds","_law_notes","_law_repeats","_law_jump"]
 let⟨a,ns,most,rfl,hS,nl,mo1,mo2,kk⟩:=h;let sl:=yC;refine{_,(ag (bO 2 qN (bQ (cg T) hr T.cG (aa (bQ (cx T) hr T.cH (aa (pv 0) (aa ae af))) (aa ae af))))
  (ag (bO 3 qN (bQ (gD T) hr T.fH (aa (aB aZ (pv 2) ae) (aa (aB bf ae (aB aX (pv 2) ae)) af))))
  (ag (bO 4 qN (bQ (lS T) hr T.fw (aa (bQ (cx T) hr T.cH (aa (pv 0) (aa ae af))) af)))
  (ag (bO 5 qN (aB bf ae (aB aX (bQ (cg T) hr T.cG (aa (bQ (cx T) hr T.cH (aa (pv 0) (aa ae af))) (aa ae af))) (pv 1))))
  (ag (bO 6 qN (bQ (An T) hr T.mr (aa (bQ (cx T) hr T.cH (aa (pv 0) (aa ae af))) (aa (pv 5) af))))
  (ag (bO 7 qN aW)
  (ag (aM (ptr c9 (aB aX (aB aZ (pv 2) ae) ae) ae)
  (ak (bO 7 qN (bQ (gi T) hr T.fV (aa (bJ (bJ (fB (pv 6) ae) ae) ae) (aa (aB d9 (bJ (bJ (fB (pv 6) ae) ae) ae) (fB (bq (aa ae (aa ae (aa ae af)))) (aB aX (aB aZ (pv 2) ae) ae))) af)))))
  aC)
  (ag (bO 8 qN (bQ (tT T) hr T.kK (aa (bQ (cx T) hr T.cH (aa (pv 0) (aa ae af))) (aa (pv 3) (aa (pv 4) (aa (pv 5) af))))))
  (ag (bO 9 qN (bQ (tR T) hr T.kI (aa (bQ (cx T) hr T.cH (aa (pv 0) (aa ae af))) (aa (pv 3) (aa (pv 6) (aa (pv 7) af))))))
  (ag (bO 10 qN (bQ (qo T) hr T.iG (aa (bQ (cx T) hr T.cH (aa (pv 0) (aa ae af))) (aa (pv 5) af))))
  (ag (bO 11 qN (bQ (Al T) hr T.mm (aa (bQ (cx T) hr T.cH (aa (pv 0) (aa ae af))) (aa (pv 5) (aa (pv 10) af)))))
  (ak (au (bM (aa (pv 3) (aa (pv 4) (aa (bq af) (aa (pv 6) (aa (pv 7) (aa (pv 8) (aa (pv 9) (aa (pv 10) (aa (pv 11) af))))))))))))))))))))))),?_}
 ac_rfl;exists a,ns,0,rfl,hS,(by decide),nl,λc0=>?_;exists c0,1,rfl,(by decide),(by decide),?_;let m0:0<=mixed c0 1:=zA _ ∅;let m1:mixed c0 1<2147483399:=zw _ ∅;generalize mixed c0 1=m at m0 m1;let a0:0<=m%4:=zA _ ∅;let a1:m%4<4:=zw _ ∅;left;refine{_,_,rfl,zY m0 ∅,?_,(),(),λps pp H1 pl pok s1 hpp=>?_}
 ·have:=zZ (a:=m) 4 m0;ext
 let Tr:1<=⇑ps/\⇑ps<=4:=()
 exists a,ns,1,rfl,s1.seq hS,(by decide),nl,λc1=>?_;left;intro ins ip iv H2 iok s2 hip ili;exists a,ns,2,rfl,(s1.trans s2).seq hS,(by decide),nl,λc2=>?_;exists c2,2,rfl,(by decide),(by decide),?_;let n0:0<=mixed c2 2:=zA _ ∅;generalize mixed c2 2=n at n0;exists by show 0<most;ext,?_
 let d0:0<=n%most:=zA _ ();let d1:n%most<most:=zw _ ();exists a,ns,2,rfl,(s1.trans s2).seq hS,(by decide),nl,λc3=>?_;exists c3,_,rfl,(),(),λaO bp bv H3 bl bok s3 nb hbp ilb=>?_;let bl2:((⇑aO:Nat):Int)=1+n%most:=()
 let bvl:=aS ilb;let s03:=(s1.trans s2).trans s3;let x0:aO[0]?=some (aO[0]'()):=zd ();generalize aO[0]'()=x at x0;let⟨y,hy,iy⟩:=cV ilb (i:=0) (zd ());let ey:y=x:=by rw[x0] at hy;exact(ym hy).symm
 subst ey;let⟨ab,mv,qb,ev,hab,imv,_⟩:=AS iy;let xin:y.aV∈Gj:=(bok y (zE x0)).1;let⟨e1,e2,e3,e4,e5⟩:=jY xin;let av:bv[0]?=some (.ref ab):=by rw[<-ev];exact zd ()
 cases eO (o:=some y.aV) imv with
 | ref hmv=>
 rename_i am;left;refine join (λU H'=>aG H3 H'/\∃(upb:Option (Int×Int)) (uv:V),U=[some (.ref a),some (.int most),some (.int m),some (.ref pp),some (.ref ip),some (.int (1+n%most)),some (.ref bp),some uv,none,none,none,none]/\Is H' (dO dL upb) uv/\∀u,upb=some u->∃x z,aO[0]?=some x/\z∈([2,3,5]:List Int)/\u=red x.aV.1 (x.aV.2*z)) (λN hN cc=>?_) (λN hN cc=>?_) ?_
 ·left
  refine{bp,bv,0,_,rfl,rfl,ao hbp,bx av,?_};exists bp,bv,0,_,rfl,rfl,ao hbp,bx av,?_;exists by show 3<=sizeLine;ext,?_
  intros p4 H4 s4 h4;let g0:0<=m/64%3:=zA _ ∅;let g1:m/64%3<3:=zw _ ∅;obtain⟨jj,hjj⟩:∃j:Nat,m/64%3=(j:Int):={(m/64%3).toNat,()}
  let⟨z,hz,zi⟩:=TK jj ();let z1:2<=z/\z<=5:=by
   simp only[zF,zG,yV] at zi;ext
  exists p4,_,m/64%3,.int z,rfl,rfl,ao h4,(by rw[hjj];exact bx hz),?_;exists .inl {(()),()},?_;let p1:0<y.aV.2*z:=xA () ();let p2:y.aV.2*z<=32*5:=wa e5 z1.2 () ∅;refine{_,_,rfl,(),p1,(bR (n:=10) () ()).mono ∅,λp5 H5 s5 h5=>?_};change hN _ _ {s4.trans s5,some (red y.aV.1 (y.aV.2*z)),.ref p5,rfl,iV h5,λu q=>by cases q;exact{(y),z,x0,zi,rfl}}
 ·left
  exact hN _ _ {aI _,none,.bT,rfl,by unfold dO Is;rfl,λu z=>by cases z}
 rintro σ4 H4 ⟨s4,upb,uv,rfl,iuv,uok⟩;let s04:=s03.trans s4;exists a,ns,1,rfl,s04.seq hS,(by decide),nl,λc5=>?_;left;let s14:=(s2.trans s3).trans s4;let s24:=s3.trans s4;refine{c5,_,pp,ip,ps,ins,iv,rfl,s14 _ _ hpp,s24 _ _ hip,ili.mono s24,(),by have:=iok.1;ext,(),λhs hp hv H5 hsub hrow s5 hhp rlh=>?_};let s05:=s04.trans s5;exists a,ns,3,rfl,s05.seq hS,(by decide),nl,λc6=>?_;left;let s15:=s14.trans s5;let s25:=s24.trans s5;let s35:=s4.trans s5;refine{c6,pp,bp,{az:=ps,aO:=aO,aL:=upb},bv,uv,rfl,s15 _ _ hpp,s35 _ _ hbp,ilb.mono s35,iuv.mono s5,by show ⇑ps<=9;ext,pok.2,by show ⇑aO<=200;ext,bok,Ci rfl rfl bok uok,λnts np nv H6 nok nlen s6 hnp rln=>?_};let s06:=s05.trans s6;exists a,ns,4,rfl,s06.seq hS,(by decide),nl,λc7=>?_;exists c7,_,rfl,(),λrs rp rv H7 rok s7 hrp ilr=>?_;let s07:=s06.trans s7;exists a,ns,4,rfl,s07.seq hS,(by decide),nl,λc8=>?_;left;let rsl:Sy H7 rp rs:={by have:=rok.1;ext,λr hr'=>by have:=(rok.2.1 r hr').2.2.2.2.2.2.1;ext,rv,hrp,ilr}
 refine{c8,_,rp,rs,rfl,rsl,rok,(),(),λjo jv H8 jok s8 ij=>?_};let s08:=s07.trans s8;exists by show 0<=sizeLine;ext,?_
 intros sp H9 s9 hsp;exists by show 9<=sizeLine;ext,?_
 intros pa Ha sa ha;let s9a:=sa;let s8a:=s9.trans sa;let s7a:=s8.trans s8a;let s6a:=s7.trans s7a;let s5a:=s6.trans s6a;let s4a:=s5.trans s5a;let s3a:=s4.trans s4a;let s2a:=s3.trans s3a;let s1a:=s2.trans s2a;refine kk {ps,ins,[],aO,upb,hs,nts,rs,jo} pa Ha ?_ (s08.trans s8a) ?_
 ·exact{Tr.1,Tr.2,pok,iok,rfl,by show 1<=⇑aO;ext,by show(⇑aO:Int)<=most;ext,bok,uok,hsub,λx hx=>by show Mu (ins.map (·.1)) ⇑aO x.2;rw[bl2];exact hrow x hx,nok,nlen,by show Fh ⇑aO rs;rw[bl2];exact rok,λj hj=>by show R1 ⇑aO rs j;rw[bl2];exact jok j hj}
 ·exact{pp,ip,sp,bp,hp,np,rp,uv,jv,iv,[],bv,hv,nv,rv,ha,s1a _ _ hpp,{s2a _ _ hip,ili.mono s2a},{s9a _ _ hsp,by unfold aD;rfl},{s3a _ _ hbp,ilb.mono s3a},iuv.mono s4a,{s5a _ _ hhp,rlh.imp λx v z=>z.mono s5a},{s6a _ _ hnp,rln.imp λx v z=>z.mono s6a},{s7a _ _ hrp,ilr.mono s7a},ij.mono s8a}
def qq {n:Str} (h:gy n):⇑n<=12:=by
 unfold gy cM at h;split at h
 ·cases h
 ·split at h
  ·cases h
  ·ext
def Jq {n:Int} (h:NB n):⇑(dec n)<=5:=bG (by have:=h.1;ext) (by have:=h.2;ext)
theorem Hy:∀es:List Sc.End,Kd es=⇑((es.map (·.2)).flatten)
 | []=>rfl
 | e::r=>by rw[zj,yb,zh,<-Hy r];rfl
theorem Ij {n:Nat} (hn:n<=999):∀{l rs:List Rep},(rs++l).Pairwise (λa b=>a.last<b.first)->(∀r∈l,Hh n r)->A0 n rs l
 | [],_,_,_=>trivial
 | r::l,rs,asc,ok=>by
  let⟨h1,h2,h3,h4,h5,e1,e2,e3,e4,e5⟩:=ok r zv;refine{λb hb=>?_,?_,{by rw[Hy];ext,(),(),()},Ij hn (by rw[zH];exact asc) λx hx=>ok x (zp _ hx)}
  ·rcases zI.mp hb with z | z
   ·simp only[zF,zG,yV] at z
    rcases z with z | z <;> ext
   ·let⟨e,he,rfl⟩:=zJ.mp z
    have:=(e3 e he).2.1;ext
  ·let fin:(decide (r.first<=r.last)&&gn r)=true:=by rw[zg h2];exact e1
   unfold lJ;cases q:rs.getLast? with
   | none=>exact fin
   | some p=>
    have:=(zW.mp asc).2.2 p (wZ q) r zv;dsimp only;rw[yN ()];exact fin
def RJ {most:Int} {S:cq} (hm:most<=24) (D:uJ most S):W9 S:=by
 let bl:=D.bl;let b1:=D.b1;let pl:=D.pl;let⟨i1,i2,i3⟩:=D.ins;let st:=D.st;let nl:=D.nl;let⟨r1,r2,r3⟩:=D.rp;let hl:=D.hs.length_le;rw[za] at hl;refine{D.pn.2,(),i2.2,(),by rw[st];exact x8,by rw[st];exact x8,(λx hx=>by rw[st] at hx;cases hx),(λx hx=>by rw[st] at hx;cases hx),by rw[st];exact yh _,(),λb hb=>?_,λu hu=>?_,D.hs.nodup D.pn.2,(),λx hx=>?_,D.no.1,(),λx hx=>?_,Ij () (by rw[List.nil_append];exact r3) r2,(),λr hr=>?_,λj hj=>?_}
 ·let⟨m1,m2,m3,m4,m5⟩:=jY (D.bd b hb).1
  exact{(()),(),(),()}
 ·let⟨x,z,e1,e2,e3⟩:=D.up u hu
  let xin:=(D.bd x (zE e1)).1;let⟨m1,m2,m3,m4,m5⟩:=jY xin;refine{(),?_,?_}
  ·unfold cq.aV
   rw[e1,e3];exact Of x.aV xin z e2
  ·let z1:2<=z/\z<=5:=by
    simp only[zF,zG,yV] at e2;ext
   let p1:0<x.aV.2*z:=xA () ();let p2:x.aV.2*z<=32*5:=wa m5 z1.2 () ∅;let⟨q1,q2,q3,q4⟩:=KS (t:=x.aV.1) (b:=x.aV.2*z) () () p1 ();let⟨_,q5,_⟩:=q1.pos;rw[e3];exact{(bR (n:=10) () ()).mono ∅,(bR (n:=10) () ()).mono ∅}
 ·let⟨h1,h2,h3,h4⟩:=D.hr x hx
  exact{h1,(),h3,D.hs.subset (zR (f:=λy:Str×List (Int×Str)=>y.1) hx),λh hh=>{(h4 h hh).2.1,(h4 h hh).2.2}}
 ·let⟨h1,h2,h3,h4,h5,h6,h7⟩:=D.no.2 x hx
  exact{h1,h2,h3,h4,λit hit=>(h5 it hit).1,h6}
 ·have:=(r2 r hr).2.2.2.2.2.2.1
  ext
 ·let⟨j1,j2,j3,j4,j5⟩:=D.ju j hj
  refine{λb hb=>?_,j1};rcases zI.mp hb with z | z
  ·simp only[zF,zG,yV] at z
   rcases z with z | z | z <;> ext
  ·cases q:j.fL with
   | none=>rw[q] at z;cases z
   | some c=>
    rw[q] at z;have:b=c:=by simpa using z
    have:=(j5 c q).2;ext
def E6 {many:Int} {r:Rep} (hm:many<=200) (h:Hh many r):NT r:=by
 let⟨h1,h2,h3,h4,h5,e1,e2,e3,e4,e5⟩:=h;exact{{{(h1),()},{(()),()},h4,h5,λe he=>{by have:=(e3 e he).1;ext,by have:=(e3 e he).2.1;ext,(e3 e he).2.2.1,(e3 e he).2.2.2.2}},e2,λe he=>(e3 e he).2.2.2.1}
def Qa {most:Int} {S:cq} (hm:most<=24) (D:uJ most S):∀t∈eT S,TD t:=by
 let bl:=D.bl;let b1:=D.b1;let pl:=D.pl;let⟨i1,i2,i3⟩:=D.ins;let st:=D.st;let⟨r1,r2,r3⟩:=D.rp;let pnm:∀p∈S.az,gy p:=D.pn.1;let inm:∀p∈S.aq.map (·.1),gy p:=i2.1;intro t ht;unfold eT at ht;simp only[zI] at ht;rcases ht with((((((ht | ht) | ht) | ht) | ht) | ht) | ht) | (ht | ht)
 ·let⟨n,hn,rfl⟩:=zJ.mp ht
  refine{pnm n hn,by show 2<=100;decide,λw hw=>?_};simp only[Sc.aR,zF,zG,yV] at hw;rcases hw with rfl | rfl
  ·decide
  ·have:=qq (pnm _ hn);ext
 ·let⟨x,hx,rfl⟩:=zJ.mp ht
  let⟨q1,q2,q3,q4,q5,q6⟩:=i3 x hx;let nx:=inm x.1 (zR (f:=λy:Str×(Int×Int)×(Int×Int)=>y.1) hx);let⟨p1,p2,_⟩:=q4.pos;refine{{(nx),q1,q2,q3,q4,q5,q6},by show 5<=100;decide,λw hw=>?_};simp only[Sc.aR,zF,zG,yV] at hw;let⟨o1,o2,o3,o4,_⟩:=q1;rcases hw with rfl | rfl | rfl | rfl | rfl
  ·decide
  ·have:=qq nx;ext
  ·have:=bG (n:=x.2.1.1) () ();ext
  ·have:=bG (n:=x.2.1.2) () ();ext
  ·have:=kT (x:=x.2.2) () q5 () q6;ext
 ·let⟨x,hx,rfl⟩:=zJ.mp ht
  rw[st] at hx;cases hx
 ·let⟨b,hb,rfl⟩:=zJ.mp ht
  let⟨q1,q2,q3,q4,q5⟩:=D.bd b hb;let⟨m1,m2,m3,m4,m5⟩:=jY q1;refine{{(m1),(),m3,q2,q3,q4},by show ⇑b.marks+1+1+1<=100;ext,λw hw=>?_};simp only[Sc.aR,zF] at hw;rcases hw with rfl | rfl | rfl | hw
  ·decide
  ·let l1:=bG (n:=b.aV.1) () ()
   let l2:=bG (n:=b.aV.2) () ();rw[bV,bV];have:("/": Str).length=1:=rfl;ext
  ·have:=bG (n:=b.key) () ();ext
  ·have:=qq (q4 w hw);ext
 ·let⟨u,hu,rfl⟩:=zJ.mp ht
  let hu':S.aL=some u:=by
   cases q:S.aL with
   | none=>rw[q] at hu;cases hu
   | some v=>
    rw[q] at hu;have:u=v:=by simpa using hu
    rw[this]
  let ln:=Ci (S:=S) rfl rfl D.bd D.up 0 ();let el:S.len 0=u:=by unfold cq.len;rw[hu'];rfl
  rw[el] at ln;let⟨l1,l2,l3,l4⟩:=ln;let⟨p1,p2,_⟩:=l1.pos;refine{{(l1),l2,(),()},by show 2<=100;decide,λw hw=>?_};simp only[Sc.aR,zF,zG,yV] at hw;rcases hw with rfl | rfl
  ·decide
  ·have:=kT (x:=u) () () () ();ext
 ·let⟨l,hl,ht⟩:=wj.mp ht
  let⟨x,hx,rfl⟩:=zJ.mp hl;let⟨h,hh,rfl⟩:=zJ.mp ht;let⟨h1,h2,h3,h4⟩:=D.hr x hx;let np:=pnm x.1 (D.hs.subset (zR (f:=λy:Str×List (Int×Str)=>y.1) hx));let nb:NB h.1:={(h4 h hh).1,by have:=(h4 h hh).2.1;ext}
  let ni:=inm h.2 (h4 h hh).2.2;refine{{(np),nb,ni},by show 4<=100;decide,λw hw=>?_};simp only[Sc.aR,zF,zG,yV] at hw;rcases hw with rfl | rfl | rfl | rfl
  ·decide
  ·have:=qq np;ext
  ·have:=Jq nb;ext
  ·have:=qq ni;ext
 ·let⟨x,hx,rfl⟩:=zJ.mp ht
  let⟨h1,h2,h3,h4,h5,h6,h7⟩:=D.no.2 x hx;let nb:NB x.1.1:={(h1),()}
  refine{{nb,pnm _ h3,h5,h7},by show(x.2.map qB).length+1+1+1<=100;rw[za];ext,λw hw=>?_};simp only[Sc.aR,zF] at hw;rcases hw with rfl | rfl | rfl | hw
  ·decide
  ·have:=Jq nb;ext
  ·have:=qq (pnm _ h3);ext
  ·let⟨it,hit,rfl⟩:=zJ.mp hw
   have:=Ng (h5 it hit);ext
 ·let⟨r,hr,rfl⟩:=zJ.mp ht
  let⟨⟨q1,q2,q3,q4,q5⟩,q6,q7⟩:=E6 () (r2 r hr);refine{{(q1),q2,q3,q4,q5},by show(r.ends.map oY).length+1+1+1+1<=100;rw[za];ext,λw hw=>?_};simp only[Sc.aR,zF] at hw;rcases hw with rfl | rfl | rfl | rfl | hw
  ·decide
  ·have:=Jq q1;ext
  ·have:=Jq q2;ext
  ·have:=bG (n:=r.times) () ();ext
  ·let⟨e,he,rfl⟩:=zJ.mp hw
   have:=Ji (q5 e he) (q7 e he);ext
 ·let⟨j,hj,rfl⟩:=zJ.mp ht
  let hj':S.cm=some j:=by
   cases q:S.cm with
   | none=>rw[q] at hj;cases hj
   | some v=>
    rw[q] at hj;have:j=v:=by simpa using hj
    rw[this]
  let⟨j1,j2,j3,j4,j5⟩:=D.ju j hj';let n1:NB j.qR:={(j2.1),()}
  let n2:NB j.sN:={(j3.1),()}
  let n3:NB j.cK:={(j4.1),()}
  let n4:∀c,j.fL=some c->NB c:=λc hc=>{(j5 c hc).1,by have:=(j5 c hc).2;ext}
  refine{{(n1),n2,n3,n4},by show 5<=100;decide,λw hw=>?_};simp only[Sc.aR,zF,zG,yV] at hw;rcases hw with rfl | rfl | rfl | rfl | rfl
  ·decide
  ·have:=Jq n1;ext
  ·have:=Jq n2;ext
  ·have:=Jq n3;ext
  ·unfold ctxt
   cases q:j.fL with
   | none=>decide
   | some c=>have:=Jq (n4 c q);dsimp only;ext
theorem Mf {α:Type} {k:Nat}:∀{l:List (List α)},(∀x∈l,⇑x<=k)->⇑l.flatten<=k*⇑l
 | [],_=>by simp
 | x::r,h=>by
  let ih:=Mf (l:=r) λy hy=>h y (zp _ hy);have:=h x zv;rw[yb,zh,zy,Nat.mul_succ];ext
def Nv {most:Int} {S:cq} (hm:most<=24) (D:uJ most S):⇑(eT S)<=1000/\eT S≠[]:=by
 let bl:=D.bl;let b1:=D.b1;let pl:=D.pl;let Tr:=D.Tr;let i1:=D.ins.1;let t1:⇑S.aP<=1:=by rw[D.st];exact yh _
 let r1:=D.rp.1;let nl:=D.nl;let hl:=D.hs.length_le;rw[za] at hl;let f:=Mf (k:=4) (l:=S.holds.map λx=>x.2.map λh=>Told.holds x.1 h.1 h.2) λy hy=>by
  let⟨x,hx,rfl⟩:=zJ.mp hy;rw[za];exact(D.hr x hx).2.1
 rw[za] at f;let u:⇑S.aL.toList<=1:=by cases S.aL <;> simp
 let j:⇑S.cm.toList<=1:=by cases S.cm <;> simp
 refine{?_,λz=>?_}
 ·unfold eT
  simp only[zh,za];ext
 ·have:=y6 List.length z
  unfold eT at this;simp only[zh,za,xo] at this;ext
inductive Ta (vs:List V) (H:Hp) (Q:VK) (E:XK):Prop
 | mk (a b:Int) (_:vs=[.int a,.int b]) (_:0<b) (_:∀g:Int,0<g->g<=b->Q (.int g) H)
def qp:di P w base 1 T.dH Ta:=by
 nomatch T.dH,["one","other","rest"]
 let⟨a,b,rfl,h1,kk⟩:=h;refine{_,(ag (nS yP (ptr fP (pv 1) ae)
  (ag (bO 2 qN (aB aX (pv 0) (pv 1)))
   (ag (bO 0 qN (pv 1))
   (ak (bO 1 qN (pv 2))))))
  (ak (au (pv 0)))),?_}
 refine{λm U H'=>H'=H/\∃(x y:Int) (r:Option V),U=[some (.int x),some (.int y),r]/\0<=y/\y<=b/\(y=0->0<x/\x<=b)/\m=y.toNat,{_,rfl,a,b,none,rfl,(),(),(),rfl},?_};rintro m U H' ⟨rfl,x,y,r,rfl,hx,hy,hg,rfl⟩;left
 by_cases e:y=0
 ·subst e
  refine PJ rfl ?_;refine{_,rfl,?_};exact kk x (hg rfl).1 (hg rfl).2
 ·refine bW (by simp[e]) ?_
  refine{λU' H''=>∃m',m'<y.toNat/\H''=H'/\∃(x y:Int) (r:Option V),U'=[some (.int x),some (.int y),r]/\0<=y/\y<=b/\(y=0->0<x/\x<=b)/\m'=y.toNat,λ_ _ h=>h,?_};exists by show(0:Int)<y;ext,?_
  left;let l1:=zA x (by omega:y≠0);let l2:=zw x (by omega:0<y);exact{(x%y).toNat,(),rfl,y,x%y,_,rfl,l1,(),(),rfl}
inductive OE (vs:List V) (H:Hp) (Q:VK) (E:XK):Prop
 | mk (t b:Int) (_:vs=[.int t,.int b]) (_:0<b) (_:Sz 8999 t) (_:Sz 8999 b) (_:∀p z H',aG H H'->oZ 8999 z->H' p=some (fY z)->Q (.ref p) H')
def Ao:di P w base 2 T.dz OE:=by
 nomatch T.dz,["top","bottom","divisor"]
 let⟨t,b,rfl,h2,h0,h3,kk⟩:=h;refine{_,(ag (bO 2 qN (bQ (qp T) hr T.dH (ah (pv 0) (ah (pv 1) af))))
  (ak (au (bM (ah (aB kQ (pv 0) (pv 2)) (ah (aB kQ (pv 1) (pv 2)) af)))))),?_}
 exists t,b,rfl,h2,λg g0 gl=>?_;let g1:Sz 8999 g:=h3.le () gl;exists{(g0),g1},?_;exists{(g0),g1},?_;left;refine{cO,laid λp H' sm hp=>kk p (t/g,b/g) H' sm {Nat.lt_of_le_of_lt (Int.natAbs_ediv_le_natAbs _ _) h0,Nat.lt_of_le_of_lt (Int.natAbs_ediv_le_natAbs _ _) h3} hp}
inductive OF (vs:List V) (H:Hp) (Q:VK) (E:XK):Prop
 | mk (x y:Int×Int) (p q:vD) (_:vs=[.ref p,.ref q]) (_:H p=some (fY x)) (_:H q=some (fY y)) (_:0<x.2) (_:0<y.2) (_:oZ 4000 x) (_:oZ 4000 y) (_:∀r z H',aG H H'->oZ 8999 z->H' r=some (fY z)->Q (.ref r) H')
def Rp:di P w base 3 T.less OF:=by
 nomatch T.less,["one","other"]
 let⟨x,y,p,q,rfl,hp,hq,x2,y2,sx,sy,kk⟩:=h;let bx1:Sz 20000 x.1:=sx.1.mono ∅;let bx2:Sz 20000 x.2:=sx.2.mono ∅;let by1:Sz 20000 y.1:=sy.1.mono ∅;let by2:Sz 20000 y.2:=sy.2.mono ∅;refine{_,(ak (au (bQ (Ao T) hr T.dz (ah (aB iC (aB jV (bJ (pv 0) ae) (bJ (pv 1) ae)) (aB jV (bJ (pv 1) ae) (bJ (pv 0) ae))) (ah (aB jV (bJ (pv 0) ae) (bJ (pv 1) ae)) af))))),?_};exists{(bx1),by2},?_;exists{(by1),bx2},?_;exists{(bx2),by2},?_;change{_,_,rfl,xA x2 y2,((sx.1.mul sy.2).sub (sy.1.mul sx.2)).mono ∅,(sx.2.mul sy.2).mono ∅,kk}
structure Qu (S:cq):Prop where
 rd:∀r∈S.aJ,Uw r
 rl:⇑S.aJ<=1000
 b1:1<=⇑S.aO
 b2:⇑S.aO<=24
 jk:∀j,S.cm=some j->(0<=j.qR/\j.qR<⇑S.aO)/\(0<=j.sN/\j.sN<⇑S.aO)/\(0<=j.cK/\j.cK<⇑S.aO)/\∀c,j.fL=some c->0<=c/\c<⇑S.aO
 bo:∀x∈S.aO,C4 x
 lo:∀b,b<⇑S.aO->VI (S.len b)
 hi:∀x∈S.holds,∀h∈x.2,h.2∈S.aq.map (·.1)
 ni:∀x∈S.aN,⇑x.2<=40/\∀it∈x.2,N2 it.2
 it:∀x∈S.aq,oZ 8999 x.2.2
def Tu (H H':Hp):Prop:=∀b xs,H b=some (.tup xs)->H' b=some (.tup xs)
def Tu.of {H H':Hp} (s:aG H H'):Tu H H':=λb xs h=>s _ _ h
def Tu.then {H H' H2:Hp} (h:Tu H H') (k:Tu H' H2):Tu H H2:=λb xs e=>k _ _ (h _ _ e)
def Tu.put {H:Hp} {N:vD} {xs ys:List V} (h:H N=some (.lst xs)):Tu H (L2.upd H N (.lst ys)):=λb zs e=>by
 rw[aE]
 ·exact e
 ·rintro rfl
  rw[h] at e;cases e
def UJ (S:cq) (H:Hp) (u:V):Prop:=∃(a t1 t2:vD) (pl:Int) (x y:Int×Int) (iv:Option Str),u=.ref a/\H a=some (.tup [.int pl,.ref t1,.ref t2,os iv])/\H t1=some (fY x)/\H t2=some (fY y)/\(0<x.2/\oZ 4000 x)/\(0<y.2/\oZ 4000 y)/\∀i,iv=some i->i∈S.aq.map (·.1)
def UJ.mono {S:cq} {H H':Hp} {u:V} (t:Tu H H') (h:UJ S H u):UJ S H' u:=by
 let⟨a,t1,t2,pl,x,y,iv,e,h1,h2,h3,r⟩:=h;exact{a,t1,t2,pl,x,y,iv,e,t _ _ h1,t _ _ h2,t _ _ h3,r}
theorem IP {α:Type} {n:Str} {v:α}:∀{l:List (Str×α)},l.lookup n=some v->∃x∈l,x.2=v
 | [],h=>by cases h
 | (k,u)::r,h=>by
  rw[yr] at h;cases q:(n == k) with
  | true=>rw[q] at h;cases h;exact{_,zv,rfl}
  | false=>
   rw[q] at h;let⟨x,m,e⟩:=IP h;exact{x,zp _ m,e}
theorem EX {b:Int} {I:List Str} {i:Str}:∀{l:List (Int×Str)} {r:Option Str},(∀h∈l,h.2∈I)->(∀i,r=some i->i∈I)->l.foldl (kX b) r=some i->i∈I
 | [],_,_,hr,e=>hr _ e
 | h::l,r,hl,hr,e=>by
  rw[List.foldl_cons] at e;refine EX (l:=l) (λx hx=>hl x (zp _ hx)) (λj hj=>?_) e
  by_cases c:h.1<=b
  ·rw[show kX b r h=some h.2 from yO c] at hj
   cases hj;exact hl h zv
  ·rw[show kX b r h=r from yN c] at hj
   exact hr j hj
def Rz {S:cq} {n i:Str} {b:Int} (P:Qu S) (e:uf S n b=some i):i∈S.aq.map (·.1):=by
 unfold uf at e;refine EX (λh hh=>?_) (λj z=>by cases z) e;cases q:S.holds.lookup n with
 | none=>rw[q] at hh;cases hh
 | some l=>
  rw[q] at hh;let⟨x,hx,rfl⟩:=IP q;exact P.hi x hx h hh
theorem J4 {κ:Type} [DecidableEq κ] {k:κ}:∀{ks:List κ} {vs:List V},⇑ks=⇑vs->cI (ks.zip vs) k=none\/∃(i:Nat) (v:V),ks[i]?=some k/\vs[i]?=some v/\cI (ks.zip vs) k=some v
 | [],_,_=>.inl rfl
 | a::r,v::t,h=>by
  rw[yX]
  by_cases e:a=k
  ·exact .inr {0,v,by rw[e];rfl,rfl,eF e}
  ·rw[eG e]
   rcases J4 (k:=k) (ks:=r) (vs:=t) (Nat.succ.inj h) with z | ⟨i,u,z1,z2,z3⟩
   ·exact .inl z
   ·exact .inr {i+1,u,z1,z2,z3}
theorem IQ {H:Hp} {α:Type} {d:α->Dt}:∀{ls:List (List α)} {as:List vD} {i:Nat} {a:vD},ck H d ls as->as[i]?=some a->∃l vs,ls[i]?=some l/\H a=some (.lst vs)/\aD H (l.map d) vs
 | [],_,_,_,h,e=>by unfold ck at h;subst h;cases e
 | l::r,_,i,a,h,e=>by
  unfold ck at h;let⟨b,t,vs,rfl,h1,h2,h3⟩:=h;cases i with
  | zero=>cases e;exact{(l),vs,rfl,h1,h2}
  | succ i=>
   let⟨m,us,e1,e2,e3⟩:=IQ (ls:=r) (as:=t) (i:=i) h3 e;exact{(m),us,e1,e2,e3}
def M4 {H:Hp} {ns:List ((Int×Str)×List Item)} {as:List vD} (k:Int×Str) (h:ck H d5 (ns.map (·.2)) as) :
  cI ((ns.map λx=>kN x.1).zip (as.map V.ref)) (kN k)=none\/∃x∈ns,∃h vs,cI ((ns.map λx=>kN x.1).zip (as.map V.ref)) (kN k)=some (.ref h)/\H h=some (.lst vs)/\aD H (x.2.map d5) vs:=by
 rcases J4 (k:=kN k) (ks:=ns.map λx=>kN x.1) (vs:=as.map V.ref) (by rw[za,za,kU h,za]) with z | ⟨i,v,z1,z2,z3⟩
 ·exact .inl z
 ·rw[zM] at z2
  cases q:as[i]? with
  | none=>rw[q] at z2;cases z2
  | some a=>
   rw[q] at z2;cases z2;let⟨l,vs,e1,e2,e3⟩:=IQ h q;rw[zM] at e1;cases q2:ns[i]? with
   | none=>rw[q2] at e1;cases e1
   | some x=>
    rw[q2] at e1;cases e1;exact .inr {x,zE q2,a,vs,z3,e2,e3}
def PL {H:Hp} {i:Str} {l:List (Str×(Int×Int)×(Int×Int))} {vs:List V} (h:aD H (l.map JC) vs) (hi:i∈l.map (·.1)):∃x∈l,∃v,cI ((l.map λx=>kS x.1).zip vs) (kS i)=some v/\Is H (JC x) v:=by
 let hl:=aS h;rcases J4 (k:=kS i) (ks:=l.map λx=>kS x.1) (vs:=vs) (by rw[za];exact hl.symm) with z | ⟨j,v,z1,z2,z3⟩
 ·refine absurd ?_ (Oe z)
  rw[List.map_fst_zip (by rw[za];ext)];let⟨x,hx,rfl⟩:=zJ.mp hi;exact zJ.mpr {(x),hx,rfl}
 ·let⟨x,e1,e2⟩:=cV h z2
  exact{x,zE e1,v,z3,e2}
inductive vL (C:vD) (vs:List V) (H:Hp) (Q:VK) (E:XK):Prop
 | mk (a:vD) (S:cq) (o:Ow) (n:Str) (_:vs=[.ref a,.str n]) (_:bY C H a S o) (_:Qu S) (_:n∈S.az) (_:∀Nt ws H',aG H H'->H' Nt=some (.lst ws)->⇑ws<=6336000->(∀u∈ws,UJ S H' u)->Q (.ref Nt) H')
def Ai {C:vD} (F:Cf K C):di P w base 7 T.lT (vL C):=by
 nomatch T.lT,["score","player","notes","place","taken","time","instrument","item","behind"]
 let⟨a,S,o,n,rfl,sc,pk,hn,kk⟩:=h;let sl:=yC;let⟨ub,jm,ho,hub,hjm⟩:=sc.obj;refine{_,(ag (bO 2 qN (bq af))
  (ag (cy yP rfl (rH (by rfl) T.hJ (ah (bQ (M1 T F) hr T.KC (ah (pv 0) af)) af)) (d6 (n:=2) rfl (aQ (jg 3 qN) (aQ (jg 4 qN) dr)))
  (ag (bO 5 qN (bJ (pv 4) ae))
   (ag (bO 6 qN (Sj (kR T F) hr T.ky Tw (ah (pv 0) (ah (pv 1) (ah (bJ (pv 4) ae) af)))))
   (ak (cy yP rfl (bB (rK (fR hr) (bI (pv 0) rfl) (bM (ah (bJ (pv 4) ae) (ah (pv 1) af))) (bq af) {(rfl),rfl,rfl,rfl})) (jg 7 qN)
   (ag (bO 8 qN (bQ (BU T) hr T.added (ah (pv 5) (ah (bJ (pv 7) ae) af))))
    (ag (aM (bH (fh (bJ (pv 7) ae)))
    (ak (bu (bZ yD yF yE bF (pv 2) (ah (bM (ah (pv 3) (ah (pv 5) (ah (pv 8) (ah (pv 6) af))))) af))))
    aC)
    (ak (bO 5 qN (pv 8))))))))))
  (ak (au (pv 2))))),?_}
 ac_rfl;left
 intros Nt nNt s1 h1 H1
 exists a,S,o,rfl,sc.mono s1,pk.rd,pk.rl,pk.b1,pk.b2,pk.jk,pk.bo,pk.lo,λD us bs H2 s2 h2 bin bl rl=>?_;refine{D,us,rfl,ao h2,?_};let tok:=LL pk.lo bin;let ul:⇑us=⇑bs:=rl.len.trans zU;refine oh (K:=K) (a:=D) (xs:=us) (λi U H'=>∃(ws:List V),Lo [some (.ref a),some (.str n),some (.ref Nt)] 6 U/\aG H H'/\Tu H2 H'/\H' D=some (.lst us)/\H' Nt=some (.lst ws)/\⇑ws<=40*i/\∀u∈ws,UJ S H' u) {[],Lo.of rfl rfl,s1.trans s2,λb xs e=>e,h2,s2 _ _ h1,yh _,λu hu=>by cases hu} (λi U H' _ h=>by let⟨_,_,_,_,z,_⟩:=h;exact ao z) ?_ ?_
 ·intro i x U H3 p H4 hx hh s34 hp4
  refine cT λN kN0 kR0 _ _=>?_;let⟨ws,⟨e,rfl⟩,s3,t3,hD3,hN3,wl,wo⟩:=hh;let⟨i',hi',aA,qA,cA,bA,rfl,haA,hqA,hbA⟩:=rl.at hx;let⟨hi,e'⟩:=zB.mp hi';rw[List.getElem_range] at e';subst e';rw[zU] at hi;let hbl:=bin bA (zE hbA);let⟨⟨y1,y2⟩,y3,y4⟩:=R5 (tok i) ();let rdt:=(tok i).1;let dn:D≠Nt:=λz=>by
   rw[z,s2 _ _ h1] at h2;cases h2;cases hx
  let s04:=s3.trans s34;let hD4:=s34 _ _ hD3;let hN4:=s34 _ _ hN3;let haA4:=s34 _ _ (t3 _ _ haA);let hqA4:=s34 _ _ (t3 _ _ hqA);refine{p,_,rfl,bC hp4,rfl,?_};refine{_,_,rfl,{_,_,rfl,{rfl,?_}}};left;refine{a,S,o,n,(bA:Int),rfl,sc.mono s04,λ_ _ H5 s5=>?_,λz=>absurd hn z,λ_ z=>absurd {(()),()} z};let s05:=s04.trans s5;let haA5:=s5 _ _ haA4;let ho5:=s05 _ _ ho;exists a,C,o.dx,_,_,rfl,ho5,F.cls,F.aN,rfl,?_;refine{o.no,rfl,.inr {_,.inl (s05 _ _ sc.no.1)},?_};left
  skip
  refine{cO,?_}
  intros p6 n6 s6 h6 H6
  left
  skip
  intros p7 n7 s7 h7 H7
  let s07:=(s05.trans s6).trans s7;refine{_,.inr {_,kN ((bA:Int),n),p6,.inl (s07 _ _ sc.no.1),rfl,s7 _ _ h6,rfl},?_};let s47:=(s5.trans s6).trans s7;let hN7:=s47 _ _ hN4;obtain⟨h,vs,l,eh,hh,ilh,ll,lok,hN⟩:∃(h:vD) (vs:List V) (l:List Item),(cI ((S.aN.map λx=>kN x.1).zip (o.ns.map V.ref)) (kN ((bA:Int),n))).getD (.ref p7)=.ref h/\H7 h=some (.lst vs)/\aD H7 (l.map d5) vs/\⇑l<=40/\(∀it∈l,N2 it.2)/\h≠Nt:=by
   rcases M4 ((bA:Int),n) sc.no.2 with e1 | ⟨x,hx',h,vs,e1,hh,il⟩
   ·exact{p7,[],[],by rw[e1];rfl,h7,by unfold aD;rfl,yh _,(λit z=>by cases z),λz=>by rw[z,s6 _ _ (s5 _ _ hN4)] at n7;cases n7}
   ·exact{h,vs,x.2,by rw[e1];rfl,s07 _ _ hh,il.mono s07,(pk.ni x hx').1,(pk.ni x hx').2,λz=>by rw[z,nNt] at hh;cases hh}
  rw[eh];let vl:=aS ilh;exists{_,ao hh},?_;refine dG (K:=K) (a:=h) (xs:=vs) (λj U H'=>∃(ws:List V) (q:vD) (t:Int×Int) (w7 w8:Option V),U=[some (.ref a),some (.str n),some (.ref Nt),some (.int (i:Int)),some (.ref aA),some (.ref q),some (os (uf S n bA)),w7,w8]/\aG H H'/\Tu H7 H'/\H' D=some (.lst us)/\H' Nt=some (.lst ws)/\⇑ws<=40*i+j/\(∀u∈ws,UJ S H' u)/\H' h=some (.lst vs)/\H' q=some (fY t)/\Lm.Rd t/\oZ (60+15*j) t)
   {ws,qA,_,_,_,rfl,s07,λb xs e=>e,s47 _ _ hD4,hN7,(),λu hu=>(wo u hu).mono (Tu.of (s34.trans s47)),hh,s47 _ _ hqA4,rdt,{bR () (),bR () ()}} (λi U H' _ h=>by let⟨_,_,_,_,_,_,_,_,_,_,_,_,z,_⟩:=h;exact ao z) ?_ ?_
  ·intro j x U H8 hx8 hh
   refine cT λN kN1 kR1 _ _=>?_;let⟨ws,q,t,w7,w8,rfl,s8,t8,hD8,hN8,wl8,wo8,hh8,hq8,rt,zt⟩:=hh;let⟨it,hit,iit⟩:=cV ilh hx8;let⟨a6,pv,lv,rfl,h6',_,i8⟩:=item_at iit;let hj:j<⇑l:=(zB.mp hit).1;let⟨ok1,Vf,WL,ok4⟩:=lok it (zE hit);cases eO (o:=some it.2) i8 with
   | ref h8=>
   rename_i al;let zi:oZ 14 it.2:={bR () (),bR (by have:=ok1.pos;ext) ()}
   let h68:=t8 _ _ h6';let h88:=t8 _ _ h8;exists _,_,_,_,_,_,rfl,hq8,h88,rt,ok1,zt,zi,(),λr H9 s9 h9=>?_;let h69:=s9 _ _ h68;let hN9:=s9 _ _ hN8;let zr:=oZ.add rt ok1 zt zi;let zr':oZ (60+15*(j+1)) (Lm.add t it.2):={zr.1.mono (),zr.2.mono ()}
   let rr:=rt.add ok1;left
   by_cases c:pv=.bT
   ·refine bX (by rw[c];rfl) ?_
    change{ws,r,_,_,_,rfl,s8.trans s9,t8.then (Tu.of s9),s9 _ _ hD8,hN9,(),λu hu=>(wo8 u hu).mono (Tu.of s9),s9 _ _ hh8,h9,rr,zr'}
   ·refine bW (by simp[c]) ?_
    exists .inl {rfl,_,ao hN9},?_;exists by show 4<=sizeLine;ext,?_
    intros pa Ha sa ha;let hNa:=sa _ _ hN9;let s9a:=s9.trans sa;refine{Nt,_,_,rfl,rfl,hNa,(),?_};let tu:Tu Ha (upd Ha Nt (.lst (ws++[.ref pa]))):=Tu.put hNa;change{_,r,_,_,_,rfl,bN nNt (s8.trans s9a),t8.then ((Tu.of s9a).then tu),by rw[aE dn];exact s9a _ _ hD8,aF,by rw[zh];show ⇑ws+1<=_;ext,λu hu=>(by
     rcases zI.mp hu with z | z
     ·exact(wo8 u z).mono ((Tu.of s9a).then tu)
     ·rw[zC.mp z]
      exact⟨pa,q,r,i,t,Lm.add t it.2,uf S n bA,rfl,tu _ _ ha,tu _ _ (s9a _ _ hq8),tu _ _ (sa _ _ h9),⟨rt.pos.2.1,zt.1.mono (),zt.2.mono ()⟩,⟨rr.pos.2.1,zr'.1.mono (),zr'.2.mono ()⟩,λk hk=>Rz pk hk⟩),by rw[aE hN];exact s9a _ _ hh8,tu _ _ (sa _ _ h9),rr,zr'}
  ·rintro U H8 ⟨ws,q,t,w7,w8,rfl,s8,t8,hD8,hN8,wl8,wo8,_⟩
   change{ws,Lo.of rfl rfl,s8,(t3.then (Tu.of (s34.trans s47))).then t8,hD8,hN8,(),wo8}
 ·rintro U H3 ⟨ws,⟨e,rfl⟩,s3,t3,hD3,hN3,wl,wo⟩
  change kk Nt ws _ s3 hN3 () wo
inductive vN (C Z:vD) (vs:List V) (H:Hp) (Q:VK) (E:XK):Prop
 | mk (a:vD) (S:cq) (o:Ow) (n:Str) (_:vs=[.ref a,.str n]) (_:bY C H a S o) (_:Qu S) (_:(n∈S.az->∀p H',aG H H'->Q (.ref p) H')) (_:(n∉S.az->E (.ref Z) none H))
def dg:dY ["score","player","late","notes","ahead","note","instrument","between"] ["score","player"] (aT nK):=QF
def Aj {C:vD} (F:Cf K C):dy P w K mg base (qT P w) 8 T.ou T.oj ["score","player"] (vN C T.cb):=by
 refine T.rV.F.UG dg (λvs H Q E h=>?_) (λcdv A' outer s H vs Q E hr h=>?_)
 ·let⟨_,_,_,_,rfl,_⟩:=h;rfl
 ·let⟨a,S,o,n,rfl,sc,pk,k1,k2⟩:=h
  let sl:=yC;let⟨ub,jm,ho,hub,hjm⟩:=sc.obj;refine{_,(ag (bu (Sj (mR T F) hr T.md LZ (ah (pv 0) (ah (pv 1) af))))
   (ag (bO 2 dg.nd (bq af))
   (ag (bO 3 dg.nd (bQ (Ai T F) hr T.lT (ah (pv 0) (ah (pv 1) af))))
   (ag (cy PassesOwn.leaving rfl (KH (by rfl) T.Pl (ah (pv 3) (ah (eW lG (pv 3) (gf ae) gg) af))) (d6 (n:=2) rfl (aQ (jg 4 dg.nd) (aQ (jg 5 dg.nd) dr)))
   (ag (bO 6 dg.nd (bJ (pv 5) ae))
    (ak (aM (PW.pt (dF (bH (fh (pv 6))) (cZ (ptr fP (pv 6) (bJ (pv 4) ae)))))
    (ag (bO 7 dg.nd (bQ (Rp T) hr T.less (ah (bJ (pv 5) ae) (ah (bJ (pv 4) ae) af))))
     (ak (aM (cP (bQ (BM T) hr T.AQ (ah (pv 7) (ah (bJ (AR (fR hr) (bI (pv 0) rfl) (pv 6) (λ_ _=>rfl)) ae) af))))
     (ak (bu (bZ yD yF yE bF (pv 2) (ah (bM (ah (bJ (pv 5) ae) (ah (pv 7) af))) af))))
     aC)))
    aC))))
   (ak (au (pv 2))))))),?_}
  ac_rfl;left;refine{a,S,o,n,rfl,sc,λhn=>?_,k2};left
  intros L nL s1 h1 H1
  exists a,S,o,n,rfl,sc.mono s1,pk,hn,λNt ws H2 s2 h2 wl wo=>?_;exists Nt,ws,rfl,ao h2,λM nM=>?_;let s3:aG H2 (upd H2 M (.lst (kD ws (some 1) none))):=bz nM;let h3:upd H2 M (.lst (kD ws (some 1) none)) M=some (.lst (kD ws (some 1) none)):=aF;generalize upd H2 M _=H3 at s3 h3 ⊢;rw[show kD ws (some 1) none=ws.drop 1 from gJ ws 1] at h3;let mL:M≠L:=λz=>by rw[z,s2 _ _ h1] at nM;cases nM
  let s13:=s2.trans s3;exists false,false,Nt,M,_,_,rfl,ao (s3 _ _ h2),ao h3,?_;refine RB (K:=K) (a:=Nt) (b:=M) (xs:=ws) (ys:=ws.drop 1) (λi U H'=>∃(zs:List V),Lo [some (.ref a),some (.str n),some (.ref L),some (.ref Nt)] 4 U/\aG H H'/\Tu H2 H'/\H' Nt=some (.lst ws)/\H' M=some (.lst (ws.drop 1))/\H' L=some (.lst zs)/\⇑zs<=i) (by rw[xC];ext) {[],Lo.of rfl rfl,s1.trans s13,Tu.of s3,s3 _ _ h2,h3,s13 _ _ h1,yh _} (λi U H' _ h=>by let⟨_,_,_,_,z1,z2,_⟩:=h;exact{ao z1,ao z2}) ?_ ?_
  ·rintro i x y U H4 p H5 hx hy ⟨zs,⟨e,rfl⟩,s4,t4,hN4,hM4,hL4,zl⟩ s45 hp5
   let nL':Nt≠L:=λz=>by
    rw[z,s2 _ _ h1] at h2;cases h2;cases hx
   let ix:=(zB.mp hx).1;let t5:=t4.then (Tu.of s45);let⟨ax,x1,x2,px,ux,vx,jx,rfl,g1,g2,g3,g4,g5,g6⟩:=(wo x (zE hx)).mono t5;let⟨ay,y1,y2,py,uy,vy,jy,rfl,f1,f2,f3,f4,f5,f6⟩:=(wo y (List.mem_of_mem_drop (zE hy))).mono t5;let s05:=s4.trans s45;let ho5:=s05 _ _ ho;let hL5:=s45 _ _ hL4;refine{p,_,rfl,bC hp5,rfl,?_};refine{_,_,rfl,{_,_,rfl,{rfl,?_}}};left;cases jy with
   | none=>
    refine bX rfl ?_;change{zs,Lo.of rfl rfl,s05,t5,s45 _ _ hN4,s45 _ _ hM4,hL5,()}
   | some iy=>
   refine bW rfl ?_;left;refine{?_,?_}
   ·cases jx <;> rfl
   refine{_,rfl,?_}
   by_cases c:os (some iy)=os jx
   ·refine bX (by rw[zg c];rfl) ?_
    change{zs,Lo.of rfl rfl,s05,t5,s45 _ _ hN4,s45 _ _ hM4,hL5,()}
   refine bW (by rw[ze c];rfl) ?_;exists uy,vx,y1,x2,rfl,f2,g3,f4.1,g5.1,f4.2,g5.2,λr z H6 s6 zz h6=>?_;let s06:=s05.trans s6;let ho6:=s06 _ _ ho;exists a,C,o.dx,_,_,rfl,ho6,F.cls,F.aq,rfl,?_;let⟨vs,hv,il⟩:=sc.ins;let⟨w,hw,v,e1,e2⟩:=PL il (f6 iy rfl);unfold JC Is at e2;let⟨ai,vs',rfl,ha,hl⟩:=e2;simp only[aD] at hl;let⟨va,r1,rfl,i1,vb,r2,rfl,i2,rfl⟩:=hl;cases eO (o:=some w.2.2) i2 with
   | ref hb=>
   rename_i ab;let ha6:=s06 _ _ ha;let hb6:=s06 _ _ hb;exists o.ins,_,rfl,.inl {_,kS iy,.inl (s06 _ _ hv),rfl,e1.symm},?_;exists _,_,r,ab,rfl,h6,hb6,zz,pk.it w hw,?_;let t6:=t5.then (Tu.of s6);let hN6:=s6 _ _ (s45 _ _ hN4);let hM6:=s6 _ _ (s45 _ _ hM4);let hL6:=s6 _ _ hL5;generalize decide (z.1*w.2.2.2<w.2.2.1*z.2)=c2;cases c2 with
   | true=>
    exists .inl {rfl,_,ao hL6},?_;let f16:=s6 _ _ f1;exists cO,?_;right;rename_i pb Hb sb hb';let hLb:=sb _ _ hL6;refine{L,_,_,rfl,rfl,hLb,(),?_};change{_,Lo.of rfl rfl,bN nL (s06.trans sb),t6.then ((Tu.of sb).then (Tu.put hLb)),by rw[aE nL'];exact sb _ _ hN6,by rw[aE mL];exact sb _ _ hM6,aF,by rw[zh];show ⇑zs+1<=_;ext}
   | false=>
    change{zs,Lo.of rfl rfl,s06,t6,hN6,hM6,hL6,()}
  ·rintro U H4 ⟨zs,⟨e,rfl⟩,s4,t4,hN4,hM4,hL4,zl⟩
   change k1 hn L _ s4
inductive V1 (H:Hp) (np nb:vD):V->Str->Prop
 | bT:V1 H np nb .bT "none"
 | np (x:vD) (_:H x=some (N4 np x)):V1 H np nb (.ref x) "player"
 | nb (x:vD) (_:H x=some (N4 nb x)):V1 H np nb (.ref x) "bar"
inductive tm (np nb:vD) (vs:List V) (H:Hp) (Q:VK) (E:XK):Prop
 | mk (v:V) (t:Str) (_:vs=[v]) (_:V1 H np nb v t) (_:∀H',aG H H'->Q (.str t) H')
def KO (K:yB) (D C:vD) (b:Bool):Prop:=PySem.W.kitOne K (.ref D) (.ref C)=some b
def tU:di P w base 1 T.kL (tm T.cb T.dP):=by
 nomatch T.kL,["_law_caught","_law_told"]
 let⟨v,t,rfl,cu,kk⟩:=h;let sl:=yC;let cu2:(v=.bT/\t ="none")\/∃(x D:vD) (b c:Bool),v=.ref x/\H x=some (N4 D x)/\Xe K D T.cS/\KO K D T.eD false/\KO K D T.jH false/\KO K D T.cb b/\KO K D T.lj false/\KO K D T.dP c/\KO K D T.lz false/\((b=true/\c=false/\t ="player")\/(b=false/\c=true/\t ="bar")):=by
  cases cu with
  | bT=>exact .inl {(rfl),rfl}
  | np x hx=>
   let s:=T.pC.self;exact .inr {x,_,true,false,rfl,hx,T.pC,T.oW.QE s,T.oX.QE s,B3,T.qx.QE s,T.tV.QE s,T.qz.QE s,.inl {(rfl),rfl,rfl}}
  | nb x hx=>
   let s:=T.Fi.self;exact .inr {x,_,false,true,rfl,hx,T.Fi,T.tX.QE s,T.tY.QE s,T.tW.QE s,T.Ap.QE s,B3,T.Aq.QE s,.inr {(rfl),rfl,rfl}}
 clear cu;refine{_,(ag (aM (PW.pt (d4 (fq (cP (d7 fU T.dN (aa (pv 0) (aa (bK (v:=.ref T.cS) (by rfl) T.Fj rfl) af))))) (dq (fq (cP (d7 fU T.dN (aa (pv 0) (aa (Ri (v:=.ty "ValueError") (by rfl) T.Gi (by decide +kernel) rfl) af))))))))
  (ak (au aK))
  aC)
  (ag (bO 1 qN (bq (aa (d7 fU T.dN (aa (pv 0) (aa (bK (v:=.ref T.eD) (by rfl) T.J6 rfl) af))) (aa (d7 fU T.dN (aa (pv 0) (aa (bK (v:=.ref T.jH) (by rfl) T.J7 rfl) af))) (aa (d7 fU T.dN (aa (pv 0) (aa (bK (v:=.ref T.cb) (by rfl) T.J5 rfl) af))) af)))))
  (ag (bO 1 qN (aB gh (pv 1) (bq (aa (d7 fU T.dN (aa (pv 0) (aa (bK (v:=.ref T.lj) (by rfl) T.My rfl) af))) (aa (d7 fU T.dN (aa (pv 0) (aa (bK (v:=.ref T.dP) (by rfl) T.QL rfl) af))) (aa (d7 fU T.dN (aa (pv 0) (aa (bK (v:=.ref T.lz) (by rfl) T.Mz rfl) af))) af))))))
  (ag (aM (ptr fP (d7 (E9 rfl) T.Sl (aa (oJ (ts:=["_law_one"]) (ys:=[]) (js:=[]) (te:=(LM Vd (cj (bj 0) fc))) (bB (pv 1)) (gO 0) bE (nV Fb T.Pn (aa (pv 0) af))) af)) ae)
  (ak (au aK))
  aC)
  (ak (au (fB (bq (aa aK (aa aK (aa aK (aa aK (aa aK (aa aK af))))))) (bZ yD PySem.F.slot_list_index PySem.F.type_list_index M6 (pv 1) (aa jz af))))))))),?_}
 ac_rfl;left;rcases cu2 with⟨rfl,rfl⟩ | ⟨x,D,b,c,rfl,hx,X,k0,k1,k2,k3,k4,k5,hb⟩
 ·refine .inl {_,rfl,PF T.iR.ob T.iR.ty,?_}
  change kk _ (aI _)
 refine .inr {x,D,_,_,true,rfl,hx,X.cls,.inl {_,rfl,rfl},TU X.up T.iR.ob T.iR.ty,?_};left;refine .inr {x,D,_,_,true,rfl,hx,X.cls,.inr {_,rfl,rfl},PD X.ve (by decide +kernel),?_};left;refine .inr {x,D,_,_,_,rfl,hx,X.cls,.inl {_,rfl,rfl},k0,?_};left;refine .inr {x,D,_,_,_,rfl,hx,X.cls,.inl {_,rfl,rfl},k1,?_};left;refine .inr {x,D,_,_,_,rfl,hx,X.cls,.inl {_,rfl,rfl},k2,?_};exists km,?_;intros p1 H1 s1 h1;let hx1:=s1 _ _ hx;left;refine .inr {x,D,_,_,_,rfl,hx1,X.cls,.inl {_,rfl,rfl},k3,?_};left;refine .inr {x,D,_,_,_,rfl,hx1,X.cls,.inl {_,rfl,rfl},k4,?_};left;refine .inr {x,D,_,_,_,rfl,hx1,X.cls,.inl {_,rfl,rfl},k5,?_};exists km,?_;intros p2 H2 s2 h2;refine{p1,p2,_,_,rfl,rfl,ao (s2 _ _ h1),ao h2,(by show 6<=sizeLine;ext),?_}
 intros p3 n3 s3 h3 H3
 let h3:H3 p3=some (.lst ([false,false,b,false,c,false].map V.bl)):=h3;let s03:=(s1.trans s2).trans s3;exists{_,ao h3},?_;refine fk (enc:=V.bl) (ws:=[false,false,b,false,c,false]) (λz=>.int (if z then 1 else 0)) (λU=>∃v,U=[v]) (by show 6<=sizeLine;ext) (ao h3) {(none),rfl} ?_ ?_
 ·rintro z U H4 R hz s4 ⟨v,rfl⟩ hR
  change hR _ _ _ (aI _) (by unfold Is;rfl) {_,rfl}
 ·intro p4 vs H4 s4 h4 il
  rw[eQ (bs:=[false,false,b,false,c,false].map λz=>if z then 1 else 0) il] at h4;let h34:=s4 _ _ h3;refine{p4,_,rfl,ao h4,?_,by show 6<=1000;decide,?_}
  ·intro n hn
   let⟨z,_,rfl⟩:=zJ.mp hn;cases z <;> decide
  let e1:([false,false,b,false,c,false].map λz=>if z then(1:Int) else 0).sum=1:=by
   rcases hb with⟨rfl,rfl,_⟩ | ⟨rfl,rfl,_⟩ <;> rfl
  rw[e1];exists by show 6<=sizeLine;ext,?_
  intros p5 H5 s5 h5;let h35:=s5 _ _ h34;exists .inl {rfl,_,ao h35},?_;refine{p3,_,rfl,rfl,h35,by rcases hb with⟨rfl,rfl,_⟩ | ⟨rfl,rfl,_⟩ <;> decide,?_};let k5:Q (.str t) H5:=kk _ ((s03.trans s4).trans s5);rcases hb with⟨rfl,rfl,rfl⟩ | ⟨rfl,rfl,rfl⟩
  ·exact{p5,_,_,_,rfl,rfl,ao h5,bx (j:=2) rfl,k5}
  ·exact{p5,_,_,_,rfl,rfl,ao h5,bx (j:=4) rfl,k5}
inductive Ask (S:cq) (n:Str) (b:Int):Int->Str->Prop
 | l0 (_:QA S b):Ask S n b 0 "none"
 | l1 (_:¬QA S b):Ask S n b 0 "bar"
 | i0 (_:n∈S.az) (_:QA S b):Ask S n b 1 "none"
 | i1 (_:n∉S.az):Ask S n b 1 "player"
 | i2 (_:n∈S.az) (_:¬QA S b):Ask S n b 1 "bar"
 | c0 (_:n∈S.az):Ask S n b 2 "none"
 | c1 (_:n∉S.az):Ask S n b 2 "player"
inductive Di (C:vD) (vs:List V) (H:Hp) (Q:VK) (E:XK):Prop
 | mk (a:vD) (S:cq) (o:Ow) (q:Int) (n:Str) (b:Int) (t:Str) (_:vs=[.ref a,.int q,.str n,.int b]) (_:bY C H a S o) (_:Qu S) (_:Ask S n b q t) (_:∀H',aG H H'->Q (.str t) H')
def eL {C:vD} (F:Cf K C):di P w base 9 T.eZ (Di C):=by
 nomatch T.eZ,["_law_score","_law_what","_law_player","_law_bar","_law_caught","e"]
 let⟨a,S,o,q,n,b,t,rfl,sc,pk,hq,kk⟩:=h;let sl:=yC;refine{_,(ag (bO 4 qN aW)
  (ag (Rf (λpn xe E hp=>(ak (aM (ptr c9 (pv 1) ae)
   (ak (bu (Sj (DN T F) hr T.CJ hp (aa (pv 0) (aa (pv 3) af)))))
   (ak (aM (ptr c9 (pv 1) ae)
    (ak (bu (Sj (kR T F) hr T.ky hp (aa (pv 0) (aa (pv 2) (aa (pv 3) af))))))
    (ak (bu (Sj (Aj T F) hr T.rV hp (aa (pv 0) (aa (pv 2) af)))))))))) rfl rfl qN (j:=5) rfl rfl rfl T.Gv T.F0 T.Gm T.DQ rfl rfl rfl (λe=>(ak (bO 4 qN (pv 5)))))
  (ak (au (bQ (tU T) hr T.kL (aa (pv 4) af)))))),?_}
 ac_rfl;refine Wx (Ws λEE hE=>?_);let hp:(∀H',aG H H'->Q (.str "player") H')->EE (.ref T.cb) none H:=λk2=>hE _ _ T.pC.up λa1 σ1 l1 na=>by
  revert σ1
  refine six λx0 x1 x2 x3 x4 x5=>?_;change{.ref a1,"player",rfl,.np a1 aF,λH' s'=>k2 H' ((bz na).trans s')}
 let hb:(∀H',aG H H'->Q (.str "bar") H')->EE (.ref T.dP) none H:=λk2=>hE _ _ T.Fi.up λa1 σ1 l1 na=>by
  revert σ1
  refine six λx0 x1 x2 x3 x4 x5=>?_;change{.ref a1,"bar",rfl,.nb a1 aF,λH' s'=>k2 H' ((bz na).trans s')}
 left;cases hq with
 | l0 hi=>
  refine bW rfl ?_;left;refine{a,S,o,b,rfl,sc,pk.bo,λ_ p H' s'=>?_,λz=>absurd hi z};change{.bT,_,rfl,.bT,λH2 s2=>kk H2 (s'.trans s2)}
 | l1 hi=>
  refine bW rfl ?_;change{a,S,o,b,rfl,sc,pk.bo,λz=>absurd z hi,λ_=>hb kk}
 | i0 hn hi=>
  refine bX rfl ?_;left;refine{a,S,o,n,b,rfl,sc,λ_ _ H' s'=>?_,λz=>absurd hn z,λ_ z=>absurd hi z};change{.bT,_,rfl,.bT,λH2 s2=>kk H2 (s'.trans s2)}
 | i1 hn=>
  refine bX rfl ?_;change{a,S,o,n,b,rfl,sc,λz=>absurd z hn,λ_=>hp kk,λz=>absurd z hn}
 | i2 hn hi=>
  refine bX rfl ?_;change{a,S,o,n,b,rfl,sc,λ_ z=>absurd z hi,λz=>absurd hn z,λ_ _=>hb kk}
 | c0 hn=>
  refine bX rfl ?_;left;refine{a,S,o,n,rfl,sc,pk,λ_ p H' s'=>?_,λz=>absurd hn z};change{.bT,_,rfl,.bT,λH2 s2=>kk H2 (s'.trans s2)}
 | c1 hn=>
  refine bX rfl ?_;change{a,S,o,n,rfl,sc,pk,λz=>absurd z hn,λ_=>hp kk}
inductive OG (K:yB) (vs:List V) (H:Hp) (Q:VK) (E:XK):Prop
 | mk (a:vD) (ns:List Int) (_:vs=[.ref a]) (_:gx K H a (ns.map V.int)) (_:⇑ns<=63) (_:∀H':Hp,Q (.bl true) H')
def Ul:∀x∈Gj,(red x.1 x.2).2 ∣ 960:=by decide +kernel
def Vz:∀x∈Gj,∀z∈([2,3,5]:List Int),(red x.1 (x.2*z)).2 ∣ 960:=by decide +kernel
def Nu {most:Int} {S:cq} (D:uJ most S) (b:Nat) (hb:b<⇑S.aO):VI (S.len b):=by
 refine{Ci rfl rfl D.bd D.up b hb,?_};let hm:(S.aV b).2 ∣ 960:=by
  unfold cq.aV;rw[zd hb];exact Ul _ (D.bd _ (yn hb)).1
 unfold cq.len;cases q:S.aL with
 | none=>exact hm
 | some u=>
  dsimp only;split
  ·let⟨x,z,e1,e2,e3⟩:=D.up u q
   rw[e3];exact Vz _ (D.bd _ (zE e1)).1 _ e2
  ·exact hm
def Qb {S:cq} (D:uJ 24 S) (V:W9 S):Qu S:=by
 let b24:=D.bl;refine{λr hr'=>?_,by have:=D.rp.1;ext,D.b1,(),λj hj=>(D.ju j hj).2,λx hx=>?_,Nu D,λx hx h hh=>((V.hx x hx).2.2.2.2 h hh).2,λx hx=>{(V.nx x hx).2.2.2.1,(V.nx x hx).2.2.2.2.1},λx hx=>?_}
 ·let⟨h1,h2,h3,h4,h5,_,e2,e3,_⟩:=D.rp.2.1 r hr'
  exact{h1,h2,(),h4,h5,e2,λe he=>{(e3 e he).1,(e3 e he).2.1}}
 ·let⟨m1,m2,m3,m4,m5⟩:=jY (D.bd x hx).1
  exact{(()),(),(),()}
 ·let⟨_,_,_,q4,q5,q6⟩:=D.ins.2.2 x hx
  let⟨p1,p2,_⟩:=q4.pos;exact{(bR (n:=14) () ()).mono ∅,(bR (n:=14) () ()).mono ∅}
theorem WO (nm:Str):∀jj:Nat,jj<4->∃t:Str,[V.str (nm ++"q"),V.str "000000000000",V.str "Q",V.str ""][jj]?=some (.str t)
 | 0,_=>{_,rfl}
 | 1,_=>{_,rfl}
 | 2,_=>{_,rfl}
 | 3,_=>{_,rfl}
def TJ (B:Dk P w K T) (F:Cf K T.mh):di P w base 10 T.WS (OG K):=by
 nomatch T.WS,["_law_script","_law_s","_law_score","_law_m","_law_stranger","_law_many","_law_own","_law_bar","_law_due"]
 let⟨a,ns,rfl,hS,nl,kk⟩:=h;let sl:=yC;refine{_,(ag (bO 1 qN (bQ (tP T) hr T.kF (aa (pv 0) (aa ae af))))
  (ag (bO 2 qN (bQ (DI T B F) hr T.pX (aa (bQ (qi T) hr T.iE (aa (pv 1) af)) af)))
  (ag (bO 3 qN (bQ (cg T) hr T.cG (aa (bQ (cx T) hr T.cH (aa (pv 0) (aa ae af))) (aa ae af))))
  (ag (bO 4 qN (fB (bq (aa (aB b8 (fB (bJ (pv 1) ae) ae) aK) (aa aK (aa aK (aa aK af))))) (aB aX (pv 3) ae)))
  (ag (aM (gd jh (pv 4) (bJ (pv 1) ae) (by with_unfolding_all rfl))
  (ak (bO 4 qN aK))
  aC)
  (ag (bO 5 qN (d7 aH T.bP (aa (bJ (pv 1) ae) af)))
  (ag (bO 6 qN (fB (bJ (pv 1) ae) (aB aX (aB aZ (pv 3) ae) (d7 aH T.bP (aa (bJ (pv 1) ae) af)))))
  (ag (cy yP rfl (bB (bq (aa (mI iw ae) (aa (pv 5) (aa (aB bf (pv 5) ae) (aa (aB Pg ae ae) (aa (mI iw (aB Pg ae ae)) (aa (aB aX (aB aZ (pv 3) ae) (pv 5)) af)))))))) (jg 7 qN)
  (ag (bO 8 qN (fB (bq (aa aK (aa aK af))) (nV Fb T.Pn (aa (BI fQ eX ae (pv 7) (pv 5)) af))))
   (ag (aM (PW.pt (d4 (ptr fP (bQ (eL T F) hr T.eZ (aa (pv 2) (aa ae (aa (pv 4) (aa (pv 7) af))))) (pv 8)) (dq (ptr fP (bQ (eL T F) hr T.eZ (aa (pv 2) (aa ae (aa (pv 6) (aa (pv 7) af))))) (pv 8)))))
   (ak (au jz))
   aC)
   (ak (aM (PW.pt (d4 (ptr fP (bQ (eL T F) hr T.eZ (aa (pv 2) (aa ae (aa (pv 4) (aa (pv 7) af))))) aK) (dq (ptr fP (bQ (eL T F) hr T.eZ (aa (pv 2) (aa ae (aa (pv 4) (aa (pv 7) af))))) aK))))
   (ak (au jz))
   aC)))))
  (ak (au (qg (dM c9 (bQ (eL T F) hr T.eZ (aa (pv 2) (aa ae (aa (pv 6) (aa (mI iw ae) af))))) aK (gE _)) (nT (dM c9 (bQ (eL T F) hr T.eZ (aa (pv 2) (aa ae (aa (pv 6) (aa ae af))))) aK (gE _)))))))))))))),?_}
 ac_rfl;exists a,ns,24,rfl,hS,(),(by decide),(by decide),λS p H1 D s1 la=>?_;let vok:=RJ ∅ D;let td:=Qa ∅ D;let⟨tl,tne⟩:=Nv ∅ D;let rok:∀r∈S.aJ,NT r:=λr hr'=>E6 (by have:=D.bl;ext) (D.rp.2.1 r hr');let pk:=Qb D vok;let Tr:=D.Tr;let pl4:=D.pl;let pnm:=D.pn;exists p,S,rfl,la,td,tl,rok,(by have:=D.rp.1;ext),λH2 s2=>?_;exists _,eT S,S,rfl,text_len td tl,Q0 tne td,OM vok,λsa o H3 sc s3 ow=>?_;let la3:=(la.mono s2).mono s3;let⟨pl,il,st,bl,hl,nl',rl,ub,jm,iv,sv,bv,hv,nv,rv,h1,h2,_,_,⟨h5,ilb⟩,iub,_⟩:=la3.at';let s03:=(s1.trans s2).trans s3;exists a,ns,5,rfl,s03.seq hS,(by decide),(),λc=>?_;exists c,9,rfl,(by decide),(by decide),?_;let m0:0<=mixed c 9:=zA _ ∅;generalize mixed c 9=m at m0;let n0:S.az[0]?=some (S.az[0]'()):=zd ();generalize S.az[0]'()=nm at n0;let nml:=qq (pnm.1 nm (zE n0));let v0:(S.az.map V.str)[0]?=some (.str nm):=by rw[zM,n0];rfl
 exists pl,_,0,_,rfl,rfl,ao h2,bx v0,?_;exists by show ⇑nm+1<=sizeLine;ext,?_
 exists by show 4<=sizeLine;ext,?_
 intros p4 H4 s4 h4;let g0:0<=m%4:=zA _ ∅;let g1:m%4<4:=zw _ ∅;obtain⟨jj,hjj⟩:∃j:Nat,m%4=(j:Int):={(m%4).toNat,()}
 let⟨t0,ht0⟩:=WO nm jj ();exists p4,_,m%4,.str t0,rfl,rfl,ao h4,(by rw[hjj];exact bx ht0),?_;let h14:=s4 _ _ h1;let h24:=s4 _ _ h2;exists pl,_,rfl,.inl (ao h24),rfl,fS _,?_;show∃k,V.bl (Gp (.str t0) (S.az.map V.str))=.bl k/\_;rw[ia];refine{_,rfl,?_};refine join (λU H'=>H'=H4/\∃t:Str,t∉S.az/\U=[some (.ref a),some (.ref p),some (.ref sa),some (.int m),some (.str t),none,none,none,none]) (λN hN cc=>?_) (λN hN cc=>?_) ?_
 ·left
  exact hN _ _ {rfl,"Q",λz=>absurd (show cM "Q"= some "Q" from pnm.1 _ z) (by decide +kernel),rfl}
 ·left
  exact hN _ _ {rfl,t0,of_decide_eq_false cc,rfl}
 rintro σ5 H5 ⟨rfl,t,nt,rfl⟩;let h54:=s4 _ _ h5;let bvl:=aS ilb;exists bl,bv,rfl,.inl (ao h54),?_;rw[bvl];exists pl,_,rfl,.inl (ao h24),?_;rw[za];exists by show(0:Int)<⇑S.az;ext,?_
 left;let o0:0<=m/4%(⇑S.az:Int):=zA _ ();let o1:m/4%(⇑S.az:Int)<⇑S.az:=zw _ ();obtain⟨jo,hjo⟩:∃j:Nat,m/4%(⇑S.az:Int)=(j:Int):={(m/4%(⇑S.az:Int)).toNat,()}
 obtain⟨own,ho,hv0⟩:∃n∈S.az,(S.az.map V.str)[jo]?=some (.str n):={S.az[jo]'(),yn _,by rw[zM,zd ()];rfl}
 refine{pl,_,_,.str own,rfl,rfl,ao h24,(by rw[hjo];exact bx hv0),?_};exists by show(0:Int)<⇑S.aO;have:=D.b1;ext,?_
 exists by show 6<=sizeLine;ext,?_
 intros p6 H6 s6 h6;obtain⟨bb,h6⟩:∃bb:List Int,H6 p6=some (.lst (bb.map V.int)):={[_,_,_,_,_,_],h6}
 let s36:=s4.trans s6;let sc6:=sc.mono s36;exists{_,ao h6},?_;refine dG (K:=K) (a:=p6) (xs:=bb.map V.int) (λi U H'=>aG H6 H'/\∃(w7 w8:Option V),U=[some (.ref a),some (.ref p),some (.ref sa),some (.int m),some (.str t),some (.int ⇑S.aO),some (.str own),w7,w8]) {aI _,none,none,rfl} (λi U H' _ h=>ao (h.1 _ _ h6)) ?_ ?_
 ·rintro i x U H7 hx ⟨s7,w7,w8,rfl⟩
  rw[zM] at hx;cases qr:bb[i]? with
  | none=>rw[qr] at hx;cases hx
  | some b=>
  rw[qr] at hx;cases hx;exists cO,?_;intros p8 H8 s8 h8;let s68:=s7.trans s8;refine W7 (j:=b) (k:=(⇑S.aO:Int)) rfl rfl (Or.inr {_,rfl,?_});obtain⟨d,hd,d0,d1⟩:∃d:Str,Ek [V.str "bar",V.str "none"] (if(decide (0<=b)&&decide (b<(⇑S.aO:Int)))=true then 1 else 0)=some (.str d)/\Ask S t b 0 d/\Ask S own b 1 d:=by
   by_cases c:QA S b
   ·exact{"none",by rw[zg c.1,zg c.2];rfl,.l0 c,.i0 ho c}
   ·refine{"bar",?_,.l1 c,.i2 ho c}
    have:(decide (0<=b)&&decide (b<(⇑S.aO:Int)))=false:=by
     cases q:(decide (0<=b)&&decide (b<(⇑S.aO:Int))) with
     | false=>rfl
     | true=>rw[zQ] at q;exact absurd {yf q.1,yf q.2} c
    rw[this];rfl
  refine{p8,_,_,.str d,rfl,rfl,ao h8,hd,?_};exists sa,S,o,0,t,b,d,rfl,sc6.mono s68,pk,d0,λH9 s9=>?_;left;refine bX (by simp) ?_;exists sa,S,o,1,own,b,d,rfl,sc6.mono (s68.trans s9),pk,d1,λHa sb=>?_;left;refine bX (by simp) ?_;let s6a:=(s68.trans s9).trans sb;exists sa,S,o,1,t,b,"player",rfl,sc6.mono s6a,pk,.i1 nt,λHb sd=>?_;exists sa,S,o,2,t,b,"player",rfl,sc6.mono (s6a.trans sd),pk,.c1 nt,λHc se=>?_;change{(s6a.trans sd).trans se,_,_,rfl}
 ·rintro U H7 ⟨s7,w7,w8,rfl⟩
  exists sa,S,o,2,own,-1,"none",rfl,sc6.mono s7,pk,.c0 ho,λH9 s9=>?_;exists sa,S,o,1,own,0,"none",rfl,sc6.mono (s7.trans s9),pk,.i0 ho {∅,by have:=D.b1;ext},λHa sb=>?_;change kk _
end
def l1 {α:Type} {n:Nat} {P:List α->Prop} {us:List α} (h:⇑us=n+1) (k:∀u r,⇑r=n->P (u::r)):P us:=match us,h with
 | u::r,h=>k u r (Nat.succ.inj h)
def l0 {α:Type} {P:List α->Prop} {us:List α} (h:⇑us=0) (k:P []):P us:=match us,h with
 | [],_=>k
def mX {K:yB} {h:vE} {mg:Str->Option vv} {x:Str} {st:Stmt} {f:vD} {od an:Option vD} {sl:Array (Option vv)} {oc kV dc pm cd ct:vv} {p0:Str} (X:K.In h) (G:h.Ns mainGlobals mg) (a:PySem.W.nsIn K mainGlobals x=some (some (.ref f))<|>qn_) (l:K.lookup f=some {oc,od,.func (PySem.W.fnOf x x (dw st) (cF st) (aT st) .none kV dc pm an cd ct),sl}<|>qn_) (c:PySem.W.codeIn K cd x=true<|>qn_) (k:PySem.W.keepIn K (.ref f)=true<|>qn_)
  (hb:(∀(kV dc pm:vv) (an:Option vD) (cd ct u0:vv),bindArgs (PySem.W.fnOf x x (dw st) (cF st) (aT st) .none kV dc pm an cd ct) {[u0],[]}=pure [(p0,u0)])<|>qo_) :
  Df K mg x st f (PySem.W.fnOf x x (dw st) (cF st) (aT st) .none kV dc pm an cd ct) [p0]:=
 {kz l c k,vt X G a,(kz l c k).binds (ps:=[p0]) λkV dc pm an cd ct us hl=>by
  apply l1 hl;intro u0 r h;apply l0 h;exact hb kV dc pm an cd ct u0}
def jO {K:yB} {h:vE} {mg:Str->Option vv} {x:Str} {st:Stmt} {f:vD} {od an:Option vD} {sl:Array (Option vv)} {oc kV dc pm cd ct:vv} {p0 p1:Str} (X:K.In h) (G:h.Ns mainGlobals mg) (a:PySem.W.nsIn K mainGlobals x=some (some (.ref f))<|>qn_) (l:K.lookup f=some {oc,od,.func (PySem.W.fnOf x x (dw st) (cF st) (aT st) .none kV dc pm an cd ct),sl}<|>qn_) (c:PySem.W.codeIn K cd x=true<|>qn_) (k:PySem.W.keepIn K (.ref f)=true<|>qn_)
  (hb:(∀(kV dc pm:vv) (an:Option vD) (cd ct u0 u1:vv),bindArgs (PySem.W.fnOf x x (dw st) (cF st) (aT st) .none kV dc pm an cd ct) {[u0,u1],[]}=pure [(p0,u0),(p1,u1)])<|>qo_) :
  Df K mg x st f (PySem.W.fnOf x x (dw st) (cF st) (aT st) .none kV dc pm an cd ct) [p0,p1]:=
 {kz l c k,vt X G a,(kz l c k).binds (ps:=[p0,p1]) λkV dc pm an cd ct us hl=>by
  apply l1 hl;intro u0 r h;apply l1 h;intro u1 r h;apply l0 h;exact hb kV dc pm an cd ct u0 u1}
def Uo {K:yB} {h:vE} {mg:Str->Option vv} {x:Str} {st:Stmt} {f:vD} {od an:Option vD} {sl:Array (Option vv)} {oc kV dc pm cd ct:vv} {p0 p1 p2:Str} (X:K.In h) (G:h.Ns mainGlobals mg) (a:PySem.W.nsIn K mainGlobals x=some (some (.ref f))<|>qn_) (l:K.lookup f=some {oc,od,.func (PySem.W.fnOf x x (dw st) (cF st) (aT st) .none kV dc pm an cd ct),sl}<|>qn_) (c:PySem.W.codeIn K cd x=true<|>qn_) (k:PySem.W.keepIn K (.ref f)=true<|>qn_)
  (hb:(∀(kV dc pm:vv) (an:Option vD) (cd ct u0 u1 u2:vv),bindArgs (PySem.W.fnOf x x (dw st) (cF st) (aT st) .none kV dc pm an cd ct) {[u0,u1,u2],[]}=pure [(p0,u0),(p1,u1),(p2,u2)])<|>qo_) :
  Df K mg x st f (PySem.W.fnOf x x (dw st) (cF st) (aT st) .none kV dc pm an cd ct) [p0,p1,p2]:=
 {kz l c k,vt X G a,(kz l c k).binds (ps:=[p0,p1,p2]) λkV dc pm an cd ct us hl=>by
  apply l1 hl;intro u0 r h;apply l1 h;intro u1 r h;apply l1 h;intro u2 r h;apply l0 h;exact hb kV dc pm an cd ct u0 u1 u2}
def VC {K:yB} {h:vE} {mg:Str->Option vv} {x:Str} {st:Stmt} {f:vD} {od an:Option vD} {sl:Array (Option vv)} {oc kV dc pm cd ct:vv} {p0 p1 p2 p3:Str} (X:K.In h) (G:h.Ns mainGlobals mg) (a:PySem.W.nsIn K mainGlobals x=some (some (.ref f))<|>qn_) (l:K.lookup f=some {oc,od,.func (PySem.W.fnOf x x (dw st) (cF st) (aT st) .none kV dc pm an cd ct),sl}<|>qn_) (c:PySem.W.codeIn K cd x=true<|>qn_) (k:PySem.W.keepIn K (.ref f)=true<|>qn_)
  (hb:(∀(kV dc pm:vv) (an:Option vD) (cd ct u0 u1 u2 u3:vv),bindArgs (PySem.W.fnOf x x (dw st) (cF st) (aT st) .none kV dc pm an cd ct) {[u0,u1,u2,u3],[]}=pure [(p0,u0),(p1,u1),(p2,u2),(p3,u3)])<|>qo_) :
  Df K mg x st f (PySem.W.fnOf x x (dw st) (cF st) (aT st) .none kV dc pm an cd ct) [p0,p1,p2,p3]:=
 {kz l c k,vt X G a,(kz l c k).binds (ps:=[p0,p1,p2,p3]) λkV dc pm an cd ct us hl=>by
  apply l1 hl;intro u0 r h;apply l1 h;intro u1 r h;apply l1 h;intro u2 r h;apply l1 h;intro u3 r h;apply l0 h;exact hb kV dc pm an cd ct u0 u1 u2 u3}
def walk {l:PySem.W.OpenLaw} {q:vz} {loose:List Str} {XP:(Str->Option vv)->vE->Prop} {YP:vA->vE->Prop} {d:DefRec} {K:Params->yB} (hn:l.most=some 63) (hdf:d.params.defaults=[]) (hdn:d.name ="law")
  (hY:∀(w:vA) (h:vE),YP w h->(K w.params).In h)
  (F:∀(w:vA) (mg:Str->Option vv) (h:vE),(K w.params).In h->h.Ns mainGlobals mg->
   ∃T:Txt (K w.params) mg,Dk l.prog w (K w.params) T/\∀(s:vw) (v:vv),BindsTo s T.Qh {[v],[]} [("_law_script",v)]) :
  PySem.W.WalkO q loose XP YP l.row.toRowW d [] (λf vs=>PySem.call f vs):=
 L2.QI (n:=63) (k:=10) (x:="_law_script") (CX:=λ_=>JX) (sp:=λw=>OG (K w.params)) hn ∅ hdf {rfl,∅,∅} hY
  (λw mg fa h kx hns hm=>by
   let⟨T,B,hb⟩:=F w mg h kx hns;rw[hdn] at hm;let e:=hm.symm.trans T.WS.g;cases e;exact{T.Qh,hb,λbase _ _=>TJ T B T.cf}) (λ_ _ a ns hl _ hS=>{a,ns,rfl,hS,hl,λ_=>rfl}) λ_ _ _ _ _ z=>z
def Xi {P:vz} {w:vA} {K:yB} {a:vD} {n:Nat} {t0 t1 t2 t3 t4 t5 t6 t7 t8:Tok} {f0 f1 f2 f3 f4 f5 f6 f7 f8:vD} {s0 s1 s2 s3 s4 s5 s6 s7 s8:Str} (r:K.lookup a=some {cls:=.type "dict",data:=.dict #[{PyData.keyHash w.params s0,.str s0 t0,.ref f0},{PyData.keyHash w.params s1,.str s1 t1,.ref f1},{PyData.keyHash w.params s2,.str s2 t2,.ref f2},{PyData.keyHash w.params s3,.str s3 t3,.ref f3},{PyData.keyHash w.params s4,.str s4 t4,.ref f4},{PyData.keyHash w.params s5,.str s5 t5,.ref f5},{PyData.keyHash w.params s6,.str s6 t6,.ref f6},{PyData.keyHash w.params s7,.str s7 t7,.ref f7},{PyData.keyHash w.params s8,.str s8 t8,.ref f8}] n}) (y:(a == sysModules)=false) (nd:List.Nodup [s0,s1,s2,s3,s4,s5,s6,s7,s8]) :
  KD P w K a [(s0,.ref f0),(s1,.ref f1),(s2,.ref f2),(s3,.ref f3),(s4,.ref f4),(s5,.ref f5),(s6,.ref f6),(s7,.ref f7),(s8,.ref f8)]:=Vl (l:=[(s0,t0,f0),(s1,t1,f1),(s2,t2,f2),(s3,t3,f3),(s4,t4,f4),(s5,t5,f5),(s6,t6,f6),(s7,t7,f7),(s8,t8,f8)]) r y nd
def Xy {K:yB} {a:vD} {rd:Option vD} {rs:Array (Option vv)} {rn:Nat} {t0 t1 t2 t3 t4 t5:Tok} {x0 x1 x2 x3 x4 x5:Int} (r:K.lookup a=some {.type "tuple",rd,.seq #[.int x0 t0,.int x1 t1,.int x2 t2,.int x3 t3,.int x4 t4,.int x5 t5] rn,rs}) (H:Hp):qM K H a [.int x0,.int x1,.int x2,.int x3,.int x4,.int x5]:=
 .inr {_,_,_,r,rfl,rfl,by show 6<=sizeLine;decide,.cons {_,rfl} (.cons {_,rfl} (.cons {_,rfl} (.cons {_,rfl} (.cons {_,rfl} (.cons {_,rfl} (.nil))))))}
def XB {K:yB} {x y:Str} {st:Stmt} {f:vD} {od an:Option vD} {sl:Array (Option vv)} {oc kV dc pm cd ct:vv} {p:Str} (l:K.lookup f=some {oc,od,.func (PySem.W.fnOf x y (dw st) (cF st) (aT st) .none kV dc pm an cd ct),sl}<|>qn_) (c:PySem.W.codeIn K cd y=true<|>qn_) (k:PySem.W.keepIn K (.ref f)=true<|>qn_)
  (hb:(∀(kV dc pm:vv) (an:Option vD) (cd ct u:vv),bindArgs (PySem.W.fnOf x y (dw st) (cF st) (aT st) .none kV dc pm an cd ct) {[u],[]}=pure [(p,u)])<|>qo_):Xq K x y st f (PySem.W.fnOf x y (dw st) (cF st) (aT st) .none kV dc pm an cd ct) [p]:=
 {kz l c k,(kz l c k).binds (ps:=[p]) λkV dc pm an cd ct us hl=>by
  apply l1 hl;intro u0 r h;apply l0 h;exact hb kV dc pm an cd ct u0}
def Rr {K:yB} {C:vD} {f:Str} (e:PySem.W.findIn K (.ref C) f=some none<|>qn_):e9 K C f:=e
def qQ {K:yB} {h:vE} {mg:Str->Option vv} {x:Str} {v:vv} (X:K.In h) (G:h.Ns mainGlobals mg) (e:PySem.W.nsIn K mainGlobals x=some (some v)<|>qn_):mg x=some v:=vt X G e
def IL {K:yB} {h:vE} {mg:Str->Option vv} {x:Str} (X:K.In h) (G:h.Ns mainGlobals mg) (e:PySem.W.nsIn K mainGlobals x=some none<|>qn_):mg x=none:=PySem.W.mg_none_of X G e
end K22
local macro_rules|`(command|#check $i:ident $s:str)=>return Lean.mkNullNode (←s.getString.toList.toArray.mapM λc=>`(command|def $(Lean.mkIdent (.mkSimple ("tw"++toString (Lean.Name.str `PySem.Challenge.cw_partsmith_k25_playing_refused_holds (i.getId.toString++toString (c.toNat-256))).hash))) :=Prop))
namespace PySem.W.Fast
#check env_ "ĩ"
#check heap_ "ħĮл"
#check o_ "ĭĮıĳĵĸĹĻļĽľĿŀłŅňŉŋŌōŎŏőŔŗŘśŝŞşŠšŢţŤťŧŪŭŮŰűŲųŴŶŸŹżŽſƀƁƂƃƅƈƋƌƎƏƐƑƒƔƖƗƚƛƞƠơƢƣƤƥƦƧƪƫƬƯƱƲƳƶƸƹƺƻƿǁǂǃǆǈǉǊǍǏǐǑǔǖǗǘǛǝǞǟǢǤǥǦǩǫǬǭǰǲǳǴǵǶǺǻǼǿȀȁȄȅȆȉȋȌȍȐȒȓȔȗșȚțȞȠȡȢȥȧȨȩȬȮȯȰȳȴȵȸȺȻȼȿɁɂɃɆɇɈɋɌɍɎɒɔɕɖəɛɜɝɠɡɢɥɦɧɪɫɬɭɰɲɳɴɷɹɺɻɾɿʀʃʇʉʊʋʎʏʐʑʒʕʗʘʙʜʞʟʠʣʥʦʧʪʬʭʮʱʳʴʵʸʺʻʼʽˁ˄˅ˈˊˋˌˍˎˏːˑ˒˓˖˘˙˚˝˟ˠˡˤ˦˧˨˫ˬ˭˰˲˳˴˵˹˻˼˽̵̷̸̡̧̛̘̜̟̠̤̥̦̪̮̰̱̲̹̼͇͍͎͓͔͕͚̀́̂̅̇̈̉̌̍̎̑̓̔̾̿̀̓͆͊͌͑͛ͣͦͨͩͪͭͮͯ̕̚͘͜͟͢͡ͅͲʹ͵Ͷ͹ͻͼͽ;΂΄΅ΆΉ΋Ό΍ΐΒΓΔΗΙΚΛΞΠΡ΢ΥΦΧΪάέήαγδεθικνοπρτφχψϋύώϏϐϔϖϗϘϛϜϝϠϢϣϤϧϨϩϬϭϮϱϲϳ϶ϸϹϺϽϿЀЁЄІЇЈЋЍЎЏВГДЗИЙМНОПУХЦЧЪЫЬЯбвгжийк"
#check sts_ "ıŀŏťŴƃƒƻǶɎʃʽ˵̪;ϐП"
#check tree_ "įĿŎŤųƂƑƺǵɍʀʼ˴̧ͽϏОк"
#check view_ "ħ"
def tw8229375332135780850:=Prop
def tw7341226209388825495:=Prop
end PySem.W.Fast
open PySem PySem.W PyProof.Rows L2 Sc K22
set_option maxRecDepth 100000 in
set_option maxHeartbeats 0 in
theorem PySem.Challenge.cw_partsmith_k25_playing_refused_holds : PySem.Challenge.rw_partsmith_k25_playing_refused.Holds := by
  w_on; o_law; k_head; (case hw => w_witness2)
  k_fill
  refine K22.walk (l := PySem.Challenge.rw_partsmith_k25_playing_refused) rfl rfl rfl (fun w h Y => PySem.W.kIn_of Y) ?F
  case F =>
    intro w mg h X G
    exact ⟨⟨_,_,_,_,_,_,_,_,_,_,_,_,_,_,_,_,_,_,_,_,_,_,_,_,_,_,_,_,_,_,_,_,_,_,_,_,_,_,_,_,_,_,_,_,_,_,_,_,_,_,_,_,_,_,_,_,_,_,_,_,_,_,_,_,_,_,_,_,_,_,_,_,_,_,_,_,_,_,_,_,_,_,_,_,_,_,_,_,_,_,_,_,_,_,_,_,_,_,_,_,_,_,_,_,_,_,_,_,_,_,_,_,_,_,_,_,_,_,_,_,_,_,_,_,_,_,_,_,_,_,_,_,_,_,_,_,_,_,_,_,_,_,_,_,_,_,_,_,_,_,_,_,_,_,_,_,_,_,_,_,_,_,_,_,_,_,_,_,_,_,_,_,_,_,_,_,_,_,_,_,_,_,_,_,_,_,_,_,_,_,_,_,_,_,_,_,_,_,_,_,_,_,_,_,_,_,_,_,_,_,_,_,_,_,_,_,_,_,_,_,_,_, jO X G, jO X G, jO X G, jO X G, jO X G, jO X G, jO X G, mX X G, jO X G, mX X G, mX X G, mX X G, mX X G, mX X G, mX X G, Uo X G, mX X G, jO X G, mX X G, mX X G, mX X G, mX X G, mX X G, mX X G, mX X G, mX X G, mX X G, mX X G, mX X G, mX X G, mX X G, mX X G, mX X G, mX X G, jO X G, jO X G, jO X G, jO X G, jO X G, Uo X G, jO X G, jO X G, jO X G, mX X G, jO X G, jO X G, jO X G, jO X G, jO X G, jO X G, jO X G, jO X G, jO X G, jO X G, Uo X G, jO X G, Uo X G, mX X G, jO X G, jO X G, jO X G, jO X G, jO X G, VC X G, mX X G, mX X G, Uo X G, jO X G, jO X G, jO X G, jO X G, jO X G, jO X G, mX X G, jO X G, jO X G, Uo X G, VC X G, VC X G, VC X G, jO X G, jO X G, jO X G, Uo X G, mX X G, jO X G, mX X G, mX X G, mX X G, mX X G, mX X G, mX X G, mX X G, VC X G, mX X G, qQ X G, ⟨by k_is,by k_is,by k_is,by k_is⟩, XB, qQ X G, qQ X G, qQ X G, qQ X G, qQ X G, qQ X G, qQ X G, qQ X G, qQ X G, qQ X G, qQ X G, qQ X G, Xy (by k_is), qQ X G, qQ X G, qQ X G, qQ X G, qQ X G, qQ X G, qQ X G, qQ X G, qQ X G, qQ X G, IL X G, IL X G, IL X G, IL X G, IL X G, IL X G, IL X G, IL X G, IL X G, IL X G, IL X G, IL X G, IL X G, IL X G, IL X G, IL X G, IL X G,by k_is, by k_exc, qQ X G, ⟨⟨by k_is,by k_is,by k_is,by k_is⟩, Rr, Rr, Rr, Rr, Rr, Rr, Rr, Rr, Rr⟩, qQ X G, qQ X G, qQ X G, qQ X G, qQ X G, qQ X G,by k_is, by k_exc,by k_is, by k_exc,by k_is, by k_exc,by k_is, ⟨_,_,_,by k_is⟩, ⟨by k_is,by k_is⟩, ⟨⟨by k_is,by k_is,by k_is,by k_is,by k_is⟩,by k_is,by k_is,by k_is⟩, ⟨⟨by k_is,by k_is,by k_is,by k_is,by k_is⟩,by k_is,by k_is,by k_is⟩, ⟨by k_is,by k_is,by k_is⟩, ⟨by k_is,by k_is,by k_is⟩, ⟨by k_is,by k_is,by k_is⟩, ⟨by k_is,by k_is,by k_is⟩, ⟨by k_is,by k_is,by k_is⟩, ⟨by k_is,by k_is,by k_is⟩, ⟨by k_is,by k_is,by k_is⟩, ⟨by k_is,by k_is,by k_is⟩, ⟨by k_is,by k_is,by k_is⟩, ⟨by k_is,by k_is,by k_is⟩⟩, ⟨Xi (by k_is) (by rfl) (show List.Nodup [("player" : Str), ("instrument" : Str), ("staff" : Str), ("bar" : Str), ("upbeat" : Str), ("holds" : Str), ("notes" : Str), ("repeat" : Str), ("jump" : Str)] by decide +kernel), Xi (by k_is) (by rfl) (show List.Nodup [("player" : Str), ("instrument" : Str), ("staff" : Str), ("bar" : Str), ("upbeat" : Str), ("holds" : Str), ("notes" : Str), ("repeat" : Str), ("jump" : Str)] by decide +kernel)⟩, fun s v => .of_eq rfl⟩
