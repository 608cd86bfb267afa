import PyProof.Rows.All
import KE.KNestM
import Wide.FinOn
import KE.KItem
import PyProof.EqAt
import PyProof.EqKinds
import PyProof.TupleCall
import PyProof.ZipIter
import PyProof.WalksMore
import PyProof.CompFree
import PyProof.NeKinds
import KE.KRevIter
import PyProof.Rows.Range3
import KE.KIntText
import OpenK.KOwn
import PyProof.NsDelKeeps
import KE.KIsAll
import PyProof.CompMap
import PyProof.Cells
import PyProof.ConsumeWalk
import PyProof.SumWalk
import PyProof.Rows.SortShell
import PyProof.MeetsStr
import PyProof.StrOps2
import PyProof.DictWalks
import PyProof.Rows.SetFrom
import PyProof.SetRoads
import PyProof.ListRange
import PyProof.ListNew
import PySem.Challenge.RW_partsmith_k21_how_manieth_time
local macro_rules|`(tactic|omega)=>`(tactic|lia)
local macro_rules|`(tactic|ext)=>`(tactic|omega)
local macro_rules|`(())=>`(by omega)
local macro_rules|`(∅)=>`(by decide)
local macro_rules|`(↑$s)=>`(($s).heap.objs.size)
local macro_rules|`($a <|> $b)=>`(autoParam $a $b)
local macro_rules (kind:=«term{_}»)|`({$xs,*})=>`(⟨$xs,*⟩)
local macro_rules|`(⇑$x)=>`(($x).length)
def tpt:Nat->Lean.Term->Lean.MacroM (Lean.TSyntax `rcasesPat)
|0,_=>Lean.Macro.throwUnsupported
|n+1,p=>match p with
 |`(⟨$ps,*⟩)=>do let qs<-ps.getElems.mapM (tpt n);`(rcasesPat|⟨$[$qs],*⟩)
 |`($i:ident)=>`(rcasesPat|$i:ident)
 |_=>`(rcasesPat|_)
local macro_rules|`(tactic|let $d:letDecl)=>`(tactic|have $d:letDecl)
local macro_rules|`(tactic|let $p:term:=$v:term)=>do let q<-tpt 9 p;`(tactic|obtain $q:rcasesPat:=$v)
set_option compiler.extract_closed false
set_option Elab.async false
set_option linter.all false
set_option maxRecDepth 100000
set_option maxHeartbeats 8000000
def qa_1(h:True:=by first | exact .inl rfl | exact .inr rfl | assumption):=h
def qa_:=qa_1._auto_1
def qb_1(h:True:=by decide):=h
def qb_:=qb_1._auto_1
def qc_1(h:True:=by first | exact HN _ (by decide) (by decide) | rfl):=h
def qc_:=qc_1._auto_1
def qd_1(h:True:=by intro _;rfl):=h
def qd_:=qd_1._auto_1
def qe_1(h:True:=by rfl):=h
def qe_:=qe_1._auto_1
def qf_1(h:True:=by with_unfolding_all rfl):=h
def qf_:=qf_1._auto_1
def qg_1(h:True:=by first | exact Or.inl rfl | exact Or.inr (Or.inl rfl) | exact Or.inr (Or.inr rfl)):=h
def qg_:=qg_1._auto_1
def qh_1(h:True:=by repeat constructor):=h
def qh_:=qh_1._auto_1
def qi_1(h:True:=by first | exact Or.inl rfl | exact Or.inr rfl):=h
def qi_:=qi_1._auto_1
def qj_1(h:True:=by exact fun _ _=>rfl):=h
def qj_:=qj_1._auto_1
def qk_1(h:True:=by intro vs H Q E h;first | (obtain⟨_,rfl,_⟩:=h;rfl) | (cases h;subst_vars;rfl)):=h
def qk_:=qk_1._auto_1
def ql_1(h:True:=by decide +kernel):=h
def ql_:=ql_1._auto_1
def qm_1(h:True:=by repeat' (first | exact trivial | exact .inl rfl | exact rfl | constructor)):=h
def qm_:=qm_1._auto_1
def qn_1(h:True:=by k_is):=h
def qn_:=qn_1._auto_1
def qo_1(h:True:=by intros;rfl):=h
def qo_:=qo_1._auto_1
def za:=@List.length_map
def zd:=@List.getElem?_eq_getElem
def ze:=@decide_eq_false
def zg:=@decide_eq_true
def zh:=@List.length_append
def zj:=@List.map_cons
def zk:=@List.map_append
def zm:=@Nat.le_refl
def zp:=@List.mem_cons_of_mem
def zr:=@List.mem_cons_self
def zt:=@Int.emod_lt_of_pos
def zv:=@List.length_cons
def zw:=@Int.emod_nonneg
def zy:=@List.getElem?_eq_some_iff
def zA:=@List.mem_singleton
def zB:=@List.map_map
def zC:=@List.mem_of_getElem?
def zD:=@List.mem_cons
def zE:=@List.not_mem_nil
def zF:=@List.append_assoc
def zG:=@List.mem_append
def zH:=@List.mem_map
def zI:=@List.mem_append_right
def zJ:=@List.mem_append_left
def zK:=@List.getElem?_map
def zL:=@Bool.false_ne_true
def zM:=@Nat.le_trans
def zN:=@List.take_length
def zO:=@Bool.and_eq_true
def zP:=@List.mem_map_of_mem
def zQ:=@List.length_take
def zR:=@List.length_range
def zT:=@List.nodup_append
def zU:=@List.pairwise_append
def zV:=@List.append_nil
def zW:=@Int.ediv_nonneg
def zX:=@Int.ediv_le_self
def zY:=@List.foldl_append
def zZ:=@List.take_append_drop
def z9:=@List.getElem?_append_right
def ya:=@List.flatten_cons
def yb:=@List.size_toArray
def yc:=@Nat.lt_of_lt_of_le
def yd:=@List.nodup_cons
def ye:=@of_decide_eq_true
def yf:=@Nat.lt_irrefl
def yg:=@Nat.zero_le
def yh:=@Nat.le_of_lt
def yi:=@Nat.ne_of_gt
def yj:=@Nat.ne_of_lt
def yk:=@Option.some.inj
def ym:=@List.getElem_mem
def yn:=@List.map_nil
def yo:=@List.any_eq_true
def yp:=@List.all_eq_true
def yq:=@List.lookup_cons
def yr:=@List.length_pos_iff
def yt:=@List.length_eq_zero_iff
def yu:=@PySem.wpAny_bind
def yv:=@PySem.Heap.get?_push_of_some
def yw:=@PySem.wpAny_pure
def yx:=@PySem.Heap.get?_push_size
def yy:=@PySem.Heap.lt_size
def yz:=@PySem.Heap.get?_update_other
def yA:=@PySem.Heap.get?_update_self
abbrev yB:=PySem.W.Frag
def yC:=@PySem.sizeLine_eq
def yD:=@PySem.F.plainAttrs_list
def yE:=@PySem.F.type_list_append
def yF:=@PySem.F.slot_list_append
def yG:=@PySem.F.plainAttrs_str
def yH:=@PySem.F.type_str_join
def yI:=@PySem.F.slot_str_join
def yJ:=@PySem.F.type_str_split
def yK:=@PySem.F.slot_str_split
def yL:=@Int.eq_ofNat_of_zero_le
def yM:=@PyProof.Rows.callWith_type1
def yN:=@if_neg
def yO:=@if_pos
def yP:=@PySem.PassesOwn.never
def yQ:=@Array.length_toList
def yR:=@Int.le_refl
def yS:=@List.mem_range
def yT:=@List.find?_cons
def yU:=@Bool.false_and
def yV:=@or_false
def yW:=@Bool.true_and
def yX:=@List.zip_cons_cons
def yY:=@List.filter_append
def yZ:=@PySem.wpAny_callSpecial?_slot
def y6:=@congrArg
def y7:=@PySem.wpAny_field
def y8:=@PySem.F.type_list_extend
def y9:=@PySem.F.slot_list_extend
def xa:=@Int.le_of_lt
def xb:=@PySem.wpAny_call_entry
def xc:=@List.pairwise_cons
def xf:=@PySem.wpAny_newObj_type
def xg:=@PySem.wpAny_mono
def xh:=@List.flatten_append
def xi:=@PySem.wpAny_truthy_bool
def xj:=@List.length_filter_le
def xk:=@Array.getElem?_toList
def xm:=@PySem.Heap.size_push
def xn:=@PySem.W.kia_one
def xo:=@Option.map_some
def xq:=@List.length_nil
def xt:=@PySem.wpAny_Call_Name_kw
def xu:=@List.any_cons
def xw:=@PySem.wpAny_seqItems
def xx:=@List.take_add_one
def xy:=@List.take_of_length_le
def xA:=@List.map_congr_left
def xB:=@Int.mul_pos
def xC:=@List.length_zip
def xD:=@List.length_drop
def xE:=@Int.mul_comm
def xF:=@decide_eq_true_eq
def xG:=@beq_eq_false_iff_ne
def xH:=@Nat.lt_trans
def xI:=@Nat.lt_or_ge
def xJ:=@PySem.wpAny_holding
def xK:=@List.filter_cons
def xM:=@PySem.wpAny_setField_rec
def xN:=@PySem.F.slot_zip_next
def xO:=@Bool.eq_iff_iff
def xP:=@Option.some.injEq
def xQ:=@PyProof.Rows.slot_tuple_getitem
def xR:=@Nat.lt_succ_self
def xS:=@PyProof.Rows.part_short
def xT:=@PySem.wpAny_typeNameOfWhole_keyiter
def xU:=@PySem.codeAny_mono
def xV:=@List.find?_eq_none
def xW:=@PySem.wpAny_passesOwn
def xX:=@PySem.codeAny_builtin
def xY:=@List.dropLast_concat_getLast
def xZ:=@PySem.F.slot_dict_keyiterator_next
def x6:=@PySem.Paired.length
def x8:=@Int.toNat_natCast
def x9:=@Nat.le_succ
def wa:=@List.nodup_nil
def wc:=@Int.mul_nonneg
def wd:=@Int.mul_le_mul
def wg:=@PySem.F.slot_tuple_iterator_next
def wj:=@List.all_map
def wk:=@beq_self_eq_true
def wm:=@List.mem_flatten
def wo:=@List.getLast?_eq_getElem?
def wq:=@List.getElem?_append_left
def wt:=@PySem.mem_of_lookup
def wu:=@if_false
def wx:=@PySem.wpAny_typeNameOf_keyiter
def wy:=@PySem.wpAny_execs_nil
def wz:=@List.of_mem_zip
def wA:=@List.mem_filter
def wB:=@PySem.call_meets
def wC:=@PySem.tupleKind_room_in1
def wD:=@List.lookup_append
def wF:=@PySem.Calls.spliced_cons
def wG:=@Bool.false_eq_true
def wH:=@List.any_map
def wI:=@Nat.mul_le_mul
def wJ:=@List.take_zero
def wK:=@Bool.and_false
def wL:=@PySem.wpAny_pyIter_list
def wM:=@Nat.lt_succ_of_lt
def wN:=@Int.mul_left_comm
def wO:=@PySem.Calls.callWith_builtin
def wQ:=@List.getElem?_eq_none
def wR:=@PySem.typeIs_str
def wU:=@List.cons_append
def wV:=@Int.mul_le_mul_of_nonneg_right
def wW:=@PySem.wpAny_attempt
def wX:=@List.sum_cons
def wY:=@List.all_cons
def wZ:=@Int.mul_assoc
def w6:=@Sum.inr.inj
def vb:=@List.mem_of_getLast?
def vc:=@PySem.Around.under_plainId
def vd:=@PySem.W.hideAll_get
def ve:=@List.take_succ_cons
def vf:=@List.filterMap_cons
def vg:=@PySem.Heap.SameBut.update
def vh:=@PySem.F.plain_extend_loop
def vi:=@if_true
def vj:=@PySem.wpAny_typeOf
def vk:=@beq_iff_eq
def vm:=@Nat.mod_lt
def vn:=@PySem.W.callWith_K
def vo:=@PySem.Obj.data_mapFields
def vq:=@List.mem_filterMap
def vt:=@Int.fdiv_eq_ediv_of_nonneg
def vv:=@List.any_eq_false
def vw:=@PySem.F.args_zip_next_1
def vx:=@PySem.Calls.spliced_nil
def vy:=@PySem.W.mg_of
abbrev vz:=PySem.Value
abbrev vA:=PySem.Shared
abbrev vB:=PySem.Program
abbrev vC:=PySem.World
abbrev vD:=PySem.Around
abbrev vE:=PySem.FuncData
abbrev vF:=PySem.Addr
abbrev vG:=PySem.Heap
namespace L2
open PySem PySem.Spec PyProof.Rows
abbrev Key:=Sum Int Str
def DN:Key->vz->Bool
 | .inl k,v=>Value.isInt k v
 | .inr x,v=>Value.isStrOf x v
def Wl (w:vC):Key->Int
 | .inl k=>hashInt k
 | .inr x=>hashStr w x
def df:∀{k:Key} {v:vz},DN k v=true->(∃i t,k=Sum.inl i/\v=Value.int i t)\/(∃x t,k=Sum.inr x/\v=Value.str x t)
 | .inl i,v,h=>by
  let⟨t,e⟩:=Value.isInt_shape (k:=i) (v:=v) h;exact .inl {(i),t,rfl,e}
 | .inr x,v,h=>by
  let⟨t,e⟩:=Value.isStrOf_shape (x:=x) (v:=v) h;exact .inr {(x),t,rfl,e}
def MB (i:Int) (t:Tok):DN (.inl i) (.int i t)=true:=by simp[DN,Value.isInt]
def nQ (x:Str) (t:Tok):DN (.inr x) (.str x t)=true:=by simp[DN,Value.isStrOf]
def Th (a b:Int):decide ((Sum.inl a:Key)=Sum.inl b)=(a == b):=by
 by_cases e:a=b
 ·subst e;simp
 ·let h:¬(Sum.inl a:Key)=Sum.inl b:=λq=>e (Sum.inl.inj q)
  rw[ze h];exact(xG.mpr e).symm
def Te (a b:Str):decide ((Sum.inr a:Key)=Sum.inr b)=decide (a=b):=by
 by_cases e:a=b
 ·subst e;simp
 ·let h:¬(Sum.inr a:Key)=Sum.inr b:=λq=>e (w6 q)
  rw[ze h,ze e]
def Tg (a:Int) (b:Str):decide ((Sum.inl a:Key)=Sum.inr b)=false:=ze (λq=>nomatch q)
def Tf (a:Str) (b:Int):decide ((Sum.inr a:Key)=Sum.inl b)=false:=ze (λq=>nomatch q)
def cX (prog:vB) (w:vC):PySem.KeyKind prog w Key where
 is:=DN
 hash:=Wl w
 inj:=λv a b ha hb=>by
  rcases df ha with⟨i,t,rfl,rfl⟩ | ⟨x,t,rfl,rfl⟩
  ·rcases df hb with⟨j,u,rfl,e⟩ | ⟨y,u,rfl,e⟩
   ·injection e with e1 _;rw[e1]
   ·exact nomatch e
  ·rcases df hb with⟨j,u,rfl,e⟩ | ⟨y,u,rfl,e⟩
   ·exact nomatch e
   ·injection e with e1 _;rw[e1]
 byValue:=λk v h=>by
  rcases df h with⟨i,t,rfl,rfl⟩ | ⟨x,t,rfl,rfl⟩ <;> rfl
 pyHash:=λhv h=>by
  rcases df hv with⟨i,t,rfl,rfl⟩ | ⟨x,t,rfl,rfl⟩
  ·exact wpAny_pyHash_int h
  ·exact wpAny_pyHash_str h
 eqBool:=λhu hv h=>by
  rcases df hu with⟨i,t,rfl,rfl⟩ | ⟨x,t,rfl,rfl⟩
  ·rcases df hv with⟨j,u,rfl,rfl⟩ | ⟨y,u,rfl,rfl⟩
   ·rw[Th] at h;exact wpAny_eqBool_int h
   ·rw[Tg] at h;exact SeqAt.EqAt.int_str i t y u _ _ _ _ h
  ·rcases df hv with⟨j,u,rfl,rfl⟩ | ⟨y,u,rfl,rfl⟩
   ·rw[Tf] at h;exact SeqAt.EqAt.str_int x t j u _ _ _ _ h
   ·rw[Te] at h;exact wpAny_eqBool_str h
 «strs»:=λk x t v h=>by
  rcases df h with⟨i,u,rfl,e⟩ | ⟨y,u,rfl,e⟩
  ·exact nomatch e
  ·injection e with e1 _
   subst e1;cases v <;> rfl
def HQ (prog:vB) (w:vC) (i:Int) (t:Tok):(cX prog w).is (.inl i) (.int i t)=true:=MB i t
def tU (prog:vB) (w:vC) (x:Str) (t:Tok):(cX prog w).is (.inr x) (.str x t)=true:=nQ x t
end L2
namespace L2
open PySem PySem.Spec PyProof.Rows
inductive V where
 | bH | bl (b:Bool) | int (i:Int) | str (x:Str) | LA (b:Array UInt8) | Q0 (b:UInt64) | ref (a:vF) | ty (n:String)
 deriving DecidableEq
def RelV:V->vz->Prop
 | .bH,u=>u=Value.none
 | .bl b,u=>u=Value.bool b
 | .int i,u=>∃t,u=Value.int i t
 | .str x,u=>∃t,u=Value.str x t
 | .LA b,u=>∃t,u=Value.bytes b t
 | .Q0 b,u=>∃t,u=Value.float b t
 | .ref a,u=>u=Value.ref a
 | .ty n,u=>u=Value.type n
abbrev Vals:List V->List vz->Prop:=Paired RelV
theorem Vals.length (r:Vals xs us):⇑xs=⇑us:=x6 r
theorem Vals.get:∀{xs:List V} {us:List vz} {i:Nat} {x:V},Vals xs us->xs[i]?=some x->∃u,us[i]?=some u/\RelV x u
 | _,_,_,_,.nil,e=>by simp at e
 | _,_,0,_,.cons r _,e=>by simp at e;subst e;exact{_,rfl,r}
 | _,_,i+1,x,.cons _ t,e=>by
  let⟨u,h1,h2⟩:=Vals.get (i:=i) (x:=x) t (by simpa using e);exact{u,by simpa using h1,h2}
theorem Vals.set {x:V} {u:vz} (r:RelV x u):∀{xs:List V} {us:List vz} (i:Nat),Vals xs us->Vals (xs.set i x) (us.set i u)
 | _,_,_,.nil=>.nil
 | _,_,0,.cons _ t=>.cons r t
 | _,_,i+1,.cons q t=>.cons q (Vals.set r i t)
theorem Vals.append:∀{xs ys:List V} {us ws:List vz},Vals xs us->Vals ys ws->Vals (xs++ys) (us++ws)
 | _,_,_,_,.nil,s=>s
 | _,_,_,_,.cons r t,s=>.cons r (Vals.append t s)
theorem Vals.take:∀{xs:List V} {us:List vz} (n:Nat),Vals xs us->Vals (xs.take n) (us.take n)
 | _,_,0,_=>.nil
 | _,_,_+1,.nil=>.nil
 | _,_,n+1,.cons r t=>.cons r (Vals.take n t)
theorem Vals.drop:∀{xs:List V} {us:List vz} (n:Nat),Vals xs us->Vals (xs.drop n) (us.drop n)
 | _,_,0,r=>r
 | _,_,_+1,.nil=>.nil
 | _,_,n+1,.cons _ t=>Vals.drop n t
def lR:Option V->Option vz->Prop
 | some v,some u=>RelV v u
 | none,none=>True
 | _,_=>False
def KV:List (κ×V)->List (κ×vz)->Prop:=Paired λ(p:κ×V) (q:κ×vz)=>p.1=q.1/\RelV p.2 q.2
def kV:Key->V
 | .inl i=>.int i
 | .inr x=>.str x
inductive HO where
 | lst (xs:List V)
 | tup (xs:List V)
 | dK (kvs:List (Key×V)) | dT (kvs:List (List Key×V))
 | set (S:Int->Bool) (n:Nat)
 | ins (C dx:vF) (fs:List (Str×V))
 | own (x:vF)
 | xd (fs:List (Str×V))
 | met (f x:vF)
 | K5 (lo hi:Int)
 | mG (o:Obj) (u:HO)
 | NM (ps:Array vz)
 | ext (φ:vG->Prop)
abbrev Hp:=vF->Option HO
def upd (H:Hp) (a:vF) (o:HO):Hp:=λb=>if b=a then some o else H b
def aC:upd H a o a=some o:=by unfold upd;rw[yO rfl]
def aE (h:b≠a):upd H a o b=H b:=by unfold upd;rw[yN h]
def aZ {H:Hp} {a b:vF} {o u:HO} (h:H a=some o) (h':H b=some u) (d:o≠u):a≠b:=by
 intro e;subst e;rw[h] at h';exact d (yk h')
def bu {H:Hp} {a b:vF} {o:HO} (h:H a=some o) (h':H b=none):a≠b:=by
 intro e;subst e;rw[h] at h';cases h'
section
variable (P:vB) (w:vC)
def cB (H:Hp) (h:vG) (a:vF):HO->Prop
 | .lst xs=>⇑xs<=sizeLine/\∃(its:List vz) (n:Nat),Vals xs its/\h.get? a=some {cls:=.type "list",data:=.seq its.toArray n}
 | .tup xs=>⇑xs<=sizeLine/\∃its:List vz,Vals xs its/\IsTup h a its.toArray
 | .dK kvs=>⇑kvs<=sizeLine/\(a == sysModules)=false/\∃vs,KV kvs vs/\h.DictOf (cX P w) a vs
 | .dT kvs=>⇑kvs<=sizeLine/\(a == sysModules)=false/\∃xs:List (List Key×vF×vz),
   Paired (λ(p:List Key×V) (q:List Key×vF×vz)=>p.1=q.1/\H q.2.1=some (.tup (p.1.map kV))/\RelV p.2 q.2.2) kvs xs/\
   ∃o es ep,h.get? a=some o/\o.ExactDict/\o.data=.dict es ep/\es.toList=xs.map (entryOfKey (tupleKind (cX P w)))/\(xs.map (·.1)).Nodup
 | .set S n=>h.SetOf (intKind P w) a S n
 | .ins C dx fs=>H dx=some (.own a)/\⇑fs<=1000/\dx≠a/\h.get? a=some (PySem.W.instObj C dx)/\
   ∃mA,h.Ns1 dx mA/\(∀f,lR (fs.lookup f) (mA f))/\PySem.Within mA (fs.map (·.1))
 | .own _=>∃o,h.get? a=some o
 | .xd fs=>∃mA,h.Ns1 a mA/\∀f,lR (fs.lookup f) (mA f)
 | .K5 lo hi=>∃t u v,h.get? a=some {cls:=.type "range",data:=.fields #[.int lo t,.int hi u,.int 1 v]}
 | .mG o u=>h.get? a=some o/\cB H h a u
 | .NM ps=>h.get? a=some {cls:=.none,data:=.fields ps}
 | .met f x=>h.get? a=some (PySem.W.methodObj (.ref f) (.ref x))
 | .ext φ=>φ h/\(∃o,h.get? a=some o)/\∀h1 h2:vG,φ h1->(∀o,h1.get? a=some o->h2.get? a=some o)->φ h2
def pM (H:Hp) (h:vG):Prop:=∀a o,H a=some o->cB P w H h a o
end
section
variable {P:vB} {w:vC} {H H':Hp} {h h':vG} {a:vF} {o:HO}
theorem cB.lt (x:cB P w H h a o):a<h.objs.size:=by
 cases o with
 | lst xs=>let⟨_,_,_,_,e⟩:=x;exact yy e
 | tup xs=>let⟨_,_,_,p⟩:=x;exact p.lt
 | dK kvs=>let⟨_,_,_,_,o,_,_,e,_⟩:=x;exact yy e
 | dT kvs=>let⟨_,_,_,_,o,_,_,e,_⟩:=x;exact yy e
 | set S n=>let⟨o,_,_,_,e,_⟩:=x;exact yy e
 | ins C dx fs=>let⟨_,_,_,e,_⟩:=x;exact yy e
 | own y=>let⟨_,e⟩:=x;exact yy e
 | xd fs=>let⟨_,⟨_,_,_,e,_⟩,_⟩:=x;exact yy e
 | K5 lo hi=>let⟨_,_,_,e⟩:=x;exact yy e
 | mG ob u=>let⟨e,_⟩:=x;exact yy e
 | NM ps=>exact yy (show h.get? a=some _ from x)
 | met f y=>exact yy (show h.get? a=some _ from x)
 | ext φ=>let⟨_,⟨_,e⟩,_⟩:=x;exact yy e
theorem Paired.S7:∀{l₁:List α} {l₂:List β},Paired F l₁ l₂->(∀a b,F a b->G a b)->Paired G l₁ l₂
 | _,_,.nil,_=>.nil
 | _,_,.cons r t,f=>.cons (f _ _ r) (Paired.S7 t f)
def cB.kQ (x:cB P w H h a o) (k:∀b u,(b=a\/H b=some (.own a))->h.get? b=some u->h'.get? b=some u)
  (ho:∀b,H b=some (.own a)->H' b=some (.own a)) (ht:∀b xs,H b=some (.tup xs)->H' b=some (.tup xs)):cB P w H' h' a o:=by
 induction o with
 | lst xs=>let⟨z,its,n,r,e⟩:=x;exact{z,its,n,r,k _ _ (.inl rfl) e}
 | tup xs=>let⟨z,its,r,ob,e,c⟩:=x;exact{z,its,r,ob,k _ _ (.inl rfl) e,c}
 | dK kvs=>let⟨z,y,vs,r,ob,es,ep,e,c⟩:=x;exact{z,y,vs,r,ob,es,ep,k _ _ (.inl rfl) e,c}
 | dT kvs=>
  let⟨z,y,xs,r,ob,es,ep,e,c⟩:=x;exact{z,y,xs,Paired.S7 r λp q z=>{z.1,ht _ _ z.2.1,z.2.2},ob,es,ep,k _ _ (.inl rfl) e,c}
 | set S n=>let⟨ob,es,ep,t,e,c⟩:=x;exact{ob,es,ep,t,k _ _ (.inl rfl) e,c}
 | ins C dx fs=>
  let⟨d,z,ne,e,mA,⟨od,es,ep,e2,c⟩,r⟩:=x;exact{ho _ d,z,ne,k _ _ (.inl rfl) e,mA,{od,es,ep,k _ _ (.inr d) e2,c},r}
 | own y=>let⟨ob,e⟩:=x;exact{ob,k _ _ (.inl rfl) e}
 | xd fs=>let⟨mA,⟨od,es,ep,e,c⟩,r⟩:=x;exact{mA,{od,es,ep,k _ _ (.inl rfl) e,c},r}
 | K5 lo hi=>let⟨t,u,v,e⟩:=x;exact{t,u,v,k _ _ (.inl rfl) e}
 | mG ob u ih=>let⟨e,q⟩:=x;exact{k _ _ (.inl rfl) e,ih q}
 | NM ps=>
  let e:h.get? a=some {cls:=.none,data:=.fields ps}:=x;show h'.get? a=some {cls:=.none,data:=.fields ps};exact k a _ (.inl rfl) e
 | met f y=>
  let e:h.get? a=some (PySem.W.methodObj (.ref f) (.ref y)):=x;show h'.get? a=some (PySem.W.methodObj (.ref f) (.ref y));exact k a _ (.inl rfl) e
 | ext φ=>let⟨p,⟨o,e⟩,st⟩:=x;exact{st _ _ p λo q=>k _ _ (.inl rfl) q,{o,k _ _ (.inl rfl) e},st}
theorem pM.lt (x:pM P w H h) (e:H a=some o):a<h.objs.size:=(x a o e).lt
def pM.fresh (x:pM P w H h) (e:h.objs.size<=a):H a=none:=by
 cases q:H a with
 | none=>rfl
 | some u=>exact absurd (yc (x.lt q) e) (yf _)
def pM.kept (x:pM P w H h) (k:∀b u,h.get? b=some u->h'.get? b=some u):pM P w H h':=λa o e=>
 (x a o e).kQ (λb u _ q=>k b u q) (λ_ q=>q) λ_ _ q=>q
def pM.laid (x:pM P w H h) (k:∀b u,h.get? b=some u->h'.get? b=some u) (hp:h.objs.size<=a) (new:cB P w (upd H a o) h' a o):pM P w (upd H a o) h':=λb u e=>by
 let hn:=x.fresh hp
 by_cases hb:b=a
 ·subst hb;rw[aC] at e;cases e;exact new
 ·rw[aE hb] at e
  exact(x b u e).kQ (λc v _ q=>k c v q) (λc q=>by rw[aE (bu q hn)];exact q) λc xs q=>by rw[aE (bu q hn)];exact q
end
def Rd (H:Hp) (a:vF) (u:HO):Prop:=H a=some u\/∃o,H a=some (.mG o u)
def Rd.ok (r:Rd H a u) (x:pM P w H h):cB P w H h a u:=by
 rcases r with r | ⟨o,r⟩
 ·exact x a u r
 ·let⟨_,q⟩:=x a _ r
  exact q
def Vd:Option HO->Prop
 | some (.lst _)=>True
 | some (.dK _)=>True
 | some (.dT _)=>True
 | some (.set _ _)=>True
 | some (.ins _ _ _)=>True
 | some (.ext _)=>True
 | _=>False
section
variable {P:vB} {w:vC} {H:Hp} {h h':vG} {x e:vF} {o':HO}
def pM.write (ok:pM P w H h) (mu:Vd (H x)) (he:e=x\/H e=some (.own x)) (k:∀b u,b≠e->h.get? b=some u->h'.get? b=some u) (heo:∃u,h'.get? e=some u)
  (new:cB P w (upd H x o') h' x o'):pM P w (upd H x o') h':=λb u q=>by
 let nown:∀c y,H c=some (.own y)->c≠x:=λc y r z=>by subst z;rw[r] at mu;exact mu
 let ntup:∀c xs,H c=some (.tup xs)->c≠x:=λc xs r z=>by subst z;rw[r] at mu;exact mu
 by_cases hb:b=x
 ·subst hb;rw[aC] at q;cases q;exact new
 ·rw[aE hb] at q
  by_cases hbe:b=e
  ·let q':H b=some (.own x):=by
    rcases he with z | z
    ·exact absurd (hbe.trans z) hb
    ·rw[hbe];exact z
   rw[q] at q';cases q';let⟨v,hv⟩:=heo;exact{v,by rw[hbe];exact hv}
  ·refine(ok b u q).kQ (λc v hc r=>k c v ?_ r) (λc r=>by rw[aE (nown c b r)];exact r) λc xs r=>by rw[aE (ntup c xs r)];exact r
   rcases hc with rfl | hc
   ·exact hbe
   ·rintro rfl
    rcases he with z | z
    ·exact nown c b hc z
    ·rw[hc] at z;cases z;exact hb rfl
end
structure Un (fs ex:List vF) (H H':Hp) (h h':vG):Prop where
 keep:∀b o,h.get? b=some o->H b=none->b∉fs->b∉ex->h'.get? b=some o
 slot:∀b o,h.get? b=some o->H b=none->b∈fs->b∉ex->∃sl,h'.get? b=some {o with slots:=sl}
 free:∀b o,h.get? b=some o->H b=none->b∉ex->H' b=none
 there:∀b o,h.get? b=some o->b∉ex->∃o',h'.get? b=some o'
 nZ:∀b xs,H b=some (.tup xs)->H' b=some (.tup xs)
 mC:∀b o u,H b=some (.mG o u)->H' b=some (.mG o u)
 oa:∀b ps,H b=some (.NM ps)->∃more,H' b=some (.NM (ps++more))
section
variable {fs fs' ex ex':List vF} {H H1 H2:Hp} {h h1 h2 h':vG} {a x e:vF} {o:HO}
def Un.any (u:Un fs ex H H1 h h1) (q:h.get? b=some ob) (n:H b=none) (hx:b∉ex):∃sl,h1.get? b=some {ob with slots:=sl}:=by
 by_cases hb:b∈fs
 ·exact u.slot b ob q n hb hx
 ·exact{ob.slots,u.keep b ob q n hb hx}
def Un.kept (k:∀b u,h.get? b=some u->h'.get? b=some u):Un fs ex H H h h':=
 {λb ob q _ _ _=>k b ob q,λb ob q _ _ _=>{ob.slots,k b ob q},λ_ _ _ n _=>n,λb ob q _=>{ob,k b ob q},λ_ _ q=>q,λ_ _ _ q=>q,λ_ ps q=>{#[],by rw[q];simp}}
def Un.refl:Un fs ex H H h h:=Un.kept λ_ _ q=>q
def Un.laid (k:∀b u,h.get? b=some u->h'.get? b=some u) (hp:h.objs.size<=a) (hn:H a=none):Un fs ex H (upd H a o) h h' where
 keep:=λb u q _ _ _=>k b u q
 slot:=λb u q _ _ _=>{u.slots,k b u q}
 free:=λb u q n _=>by rw[aE (yj (yc (yy q) hp))];exact n
 there:=λb u q _=>{u,k b u q}
 nZ:=λb xs q=>by rw[aE (bu q hn)];exact q
 mC:=λb u xs q=>by rw[aE (bu q hn)];exact q
 oa:=λb ps q=>{#[],by rw[aE (bu q hn),q];simp}
def Un.write (mu:Vd (H x)) (he:e=x\/H e=some (.own x)) (k:∀b u,b≠e->h.get? b=some u->h'.get? b=some u) (heo:∃u,h'.get? e=some u):Un fs ex H (upd H x o) h h':=by
 let hx:∀b,H b=none->b≠x:=λb n z=>by subst z;rw[n] at mu;exact mu
 let hb:∀b,H b=none->b≠e:=λb n z=>by
  subst z;rcases he with r | r
  ·exact hx b n r
  ·rw[n] at r;cases r
 let hm:∀b u,H b=some u->¬Vd (some u)->b≠x:=λb u q nm z=>by subst z;rw[q] at mu;exact nm mu
 refine{λb u q n _ _=>k b u (hb b n) q,λb u q n _ _=>{u.slots,k b u (hb b n) q},λb u q n _=>by rw[aE (hx b n)];exact n,λb u q _=>?_,
  λb xs q=>by rw[aE (hm b _ q λz=>z)];exact q,λb u xs q=>by rw[aE (hm b _ q λz=>z)];exact q,λb ps q=>{#[],by rw[aE (hm b _ q λz=>z),q];simp}}
 by_cases hbe:b=e
 ·subst hbe;exact heo
 ·exact{u,k b u hbe q}
end
def Vp (h:vG) (H:Hp):List vF:=(List.range h.objs.size).filter λa=>(H a).isSome
def Fu (h:vG) (H:Hp):vG:=PySem.W.hideAll h (Vp h H)
def MG (h:vG) (H:Hp):(Fu h H).objs.size=h.objs.size:=PySem.W.hideAll_size _ _
def O4 (e:h.get? b=some o) (n:H b=none):(Fu h H).get? b=some o:=
 vd _ e λhm=>by
  let q:(H b).isSome=true:=(wA.mp hm).2;rw[n] at q;simp at q
def QO (e:(Fu h H).get? b=some o):h.get? b=some o/\H b=none:=by
 let e':h.get? b=some o:=PySem.W.of_hideAll (Vp h H) e;refine{e',?_};cases q:H b with
 | none=>rfl
 | some x=>
  let hm:b∈Vp h H:=wA.mpr {yS.mpr (yy e'),by simp[q]};let z:(Fu h H).get? b=none:=PySem.W.hideAll_none (Vp h H) hm;rw[z] at e;cases e
end L2
namespace L2
open PySem PySem.Spec PyProof.Rows
structure Mod (K:yB) (mg:Str->Option vz) (base:vG):Prop where
 Td:K.In base
 glob:base.Ns mainGlobals mg
 blt:∃mb,base.Ns builtinsNs mb/\∀x:Str,x≠ "__name__"->mb x=bootBuiltins x
 nolimit:base.NoLimit
set_option genInjectivity false in
structure Cx where
 prog:vB
 w:vC
 K:yB
 mg:Str->Option vz
 base:vG
 A:vD
 N:List Str
 s₀:vA
 H₀:Hp
 env:Env
 outer:List Env
 stack:List Env
 ex:List vF
 fn:Str->Bool
 calm:Bool
 pn:List (vF×Obj)
 xe:vz->vA->Prop
def oE (l:List Env):List vF:=l.filterMap (·.frame)
abbrev Cx.fs (X:Cx):List vF:=oE X.outer
def TQ (sc:Scope) (x:Str):Prop:=sc.names.lookup x=some .local\/sc.names.lookup x=some .cell\/sc.names.lookup x=some .free
def Loc (sc:Scope) (x:Str):Prop:=sc.names.lookup x=some .local\/sc.names.lookup x=some .cell
def Look (env:Env) (h:vG) (m:Str->Option vz) (x:Str) (u:vz):Prop:=
 (env.kindOf x=some .local/\m x=some u)\/((env.kindOf x=some .cell\/env.kindOf x=some .free)/\∃c,env.cells.lookup x=some c/\h.IsCell c (some u))
structure Cx.Ok (X:Cx):Prop where
 mod:Mod X.K X.mg X.base
 kind:X.env.scope.kind=.function
 glob:X.env.globals=mainGlobals
 blt:X.env.builtins=builtinsNs
 above:X.s₀.heap.objs.size<=X.env.locals
 inj:∀x y c,X.env.cells.lookup x=some c->X.env.cells.lookup y=some c->x=y
 has:∀x,(X.env.kindOf x=some .cell\/X.env.kindOf x=some .free)->∃c,X.env.cells.lookup x=some c
 TK:∀x c,X.fn x=true->X.env.cells.lookup x=some c->X.s₀.heap.objs.size<=c
 hd:X.calm=true->X.A.handled=none
 frames:X.A.frames=some X.stack
 T5:X.stack=X.outer\/(X.stack=X.env::X.outer/\X.env.frame=some X.env.locals)
 Vu:∀b∈X.ex,b≠X.env.locals/\∀x c,X.env.cells.lookup x=some c->c≠b
 bs:∀b o,X.base.get? b=some o->X.s₀.heap.get? b=some o/\X.H₀ b=none
 Nq:X.base.objs.size<=X.s₀.heap.objs.size
 uQ:∀b o,X.base.get? b=some o->b∉X.ex
 J2:∀b∈X.ex,b∉X.fs
 oo:X.s₀.heap.FunFrames X.base X.outer
 HY:∀b∈X.fs,X.H₀ b=none
structure Inv (X:Cx) (pins:List (vF×Obj)) (U:List (Option V)) (H:Hp) (s:vA):Prop where
 ok:X.Ok
 os:s.os=X.s₀.os
 bare:AllBare s.gens
 base:Un X.fs X.ex X.H₀ H X.s₀.heap s.heap
 loc:∃m,s.heap.Ns X.env.locals m/\∀(i:Nat) (x:Str) (v:V),X.N[i]?=some x->U[i]?=some (some v)->TQ X.env.scope x->∃u,RelV v u/\Look X.env s.heap m x u
 cell:∀x c,X.env.cells.lookup x=some c->∃v,s.heap.IsCell c v
 free:H X.env.locals=none
 jR:∀x c,X.env.cells.lookup x=some c->H c=none
 pin:∀p∈X.pn++pins,s.heap.get? p.1=some p.2/\H p.1=none/\p.1≠X.env.locals/\p.1∉X.fs/\∀v,p.2.data≠.cell v
 bZ:pM X.prog X.w H s.heap
 len:U.length=⇑X.N
section
variable {X:Cx} {pins:List (vF×Obj)} {U:List (Option V)} {H H':Hp} {s:vA} {h':vG}
def Cx.Ok.Wj (ok:X.Ok) (e:X.base.get? b=some o):b∉X.fs:=λhb=>by
 have:=(ok.oo.mem hb).1;rw[e] at this;cases this
theorem Inv.bs (I:Inv X pins U H s):∀b o,X.base.get? b=some o->s.heap.get? b=some o/\H b=none:=λb o e=>
 {I.base.keep b o (I.ok.bs b o e).1 (I.ok.bs b o e).2 (I.ok.Wj e) (I.ok.uQ b o e),I.base.free b o (I.ok.bs b o e).1 (I.ok.bs b o e).2 (I.ok.uQ b o e)}
def Inv.bk (I:Inv X pins U H s):∀b o,X.base.get? b=some o->s.heap.get? b=some o:=λb o e=>(I.bs b o e).1
theorem Inv.mod (I:Inv X pins U H s):Mod X.K X.mg X.base:=I.ok.mod
def Inv.qR (I:Inv X pins U H s):X.K.In s.heap:=I.ok.mod.Td.keeps I.bk
theorem Inv.lt (I:Inv X pins U H s):X.env.locals<↑s:=let ⟨_,hn,_⟩:=I.loc;hn.lt
def Inv.sz (I:Inv X pins U H s):X.s₀.heap.objs.size<=↑s:=zM I.ok.above (yh I.lt)
def Inv.UG (I:Inv X pins U H s) (h:↑s<=a):a∉X.fs:=λhb=>by
 let⟨_,o,ho,_⟩:=I.ok.oo.mem hb;exact absurd (yc (yy ho) (zM I.sz h)) (yf _)
def Inv.P6 (I:Inv X pins U H s):∀x c,X.env.cells.lookup x=some c->c≠X.env.locals:=λx c e z=>by
 let⟨v,o,ho,hd⟩:=I.cell x c e;let⟨m,⟨o',es,ep,ho',hd',_⟩,_⟩:=I.loc;rw[z,ho'] at ho;cases ho;rw[hd'] at hd;cases hd
theorem Inv.oo (I:Inv X pins U H s):s.heap.FunFrames X.base X.outer:=by
 let all:∀(l:List Env),(∀b∈oE l,b∈X.fs)->X.s₀.heap.FunFrames X.base l->s.heap.FunFrames X.base l:=by
  intro l
  induction l with
  | nil=>intro _ _;trivial
  | cons env r ih=>
   intro hs hl;let⟨hk,⟨L,o,hf,hn,ho,hd⟩,hr⟩:=hl;let hL:L∈X.fs:=hs L (by unfold oE;rw[vf,hf];exact zr);let⟨sl,e⟩:=I.base.slot L o ho (I.ok.HY L hL) hL λz=>I.ok.J2 L z hL;exact{hk,{L,_,hf,hn,e,hd},ih (λb hb=>hs b (by unfold oE;rw[vf,hf];exact zp _ hb)) hr}
 exact all X.outer (λ_ hb=>hb) I.ok.oo
theorem Inv.stack (I:Inv X pins U H s):s.heap.FunFrames X.base X.stack:=by
 rcases I.ok.T5 with e | ⟨e,hf⟩
 ·rw[e];exact I.oo
 ·rw[e]
  let⟨m,hn,_⟩:=I.loc;refine .cons (by rw[I.ok.kind];decide) hf hn ?_ I.oo;exact Heap.get?_none_of_le (zM I.ok.Nq I.ok.above)
def Inv.Ex (I:Inv X pins U H s):∀b∈oE X.stack,b∈X.env.locals::X.fs:=λb hb=>by
 rcases I.ok.T5 with e | ⟨e,hf⟩
 ·rw[e] at hb;exact zp _ hb
 ·rw[e] at hb
  unfold oE at hb;rw[vf,hf] at hb;exact hb
def Inv.pR (I:Inv X pins U H s):∀b∈oE X.stack,H b=none:=λb hb=>by
 rcases zD.mp (I.Ex b hb) with e | hb
 ·rw[e];exact I.free
 ·let⟨_,o,ho,_⟩:=I.ok.oo.mem hb
  exact I.base.free b o ho (I.ok.HY b hb) λz=>I.ok.J2 b z hb
def Inv.step {g':Array GenState} {t':Nat} {d':Drawn} {ch:List vF} (I:Inv X pins U H s)
  (hch:∀b∈ch,(b∈X.ex\/X.s₀.heap.objs.size<=b)/\b≠X.env.locals/\(∀x c,X.env.cells.lookup x=some c->c≠b)/\∀p∈X.pn++pins,p.1≠b)
  (keep:∀b o,b≠X.env.locals->b∉X.fs->b∉ch->s.heap.get? b=some o->H b=none->h'.get? b=some o)
  (slot:∀b o,b≠X.env.locals->b∈X.fs->b∉ch->s.heap.get? b=some o->H b=none->∃sl,h'.get? b=some {o with slots:=sl}) (free:∀b o,b∉ch->s.heap.get? b=some o->H b=none->H' b=none)
  (there:∀b o,b∉ch->s.heap.get? b=some o->∃o',h'.get? b=some o')
  (nZ:∀b xs,H b=some (.tup xs)->H' b=some (.tup xs)) (mC:∀b o u,H b=some (.mG o u)->H' b=some (.mG o u)) (oa:∀b ps,H b=some (.NM ps)->∃more,H' b=some (.NM (ps++more)))
  (ns:∀m,s.heap.Ns X.env.locals m->h'.Ns X.env.locals m) (bZ:pM X.prog X.w H' h') (hg:AllBare g') :
  Inv X pins U H' {s with heap:=h',gens:=g',drawn:=d',toks:=t'}:=by
 let neL:∀b o,X.s₀.heap.get? b=some o->b≠X.env.locals:=λb o e=>yj (yc (yy e) I.ok.above);let neC:∀b o,X.s₀.heap.get? b=some o->b∉X.ex->b∉ch:=λb o e hx hb=>by
  rcases(hch b hb).1 with z | z
  ·exact hx z
  ·exact absurd (yc (yy e) z) (yf _)
 let cellK:∀x c,X.env.cells.lookup x=some c->∀v,s.heap.IsCell c v->h'.IsCell c v:=λx c e v ⟨o,ho,hd⟩=>by
  let nch:c∉ch:=λz=>(hch c z).2.2.1 x c e rfl
  by_cases hc:c∈X.fs
  ·let⟨sl,q⟩:=slot c o (I.P6 x c e) hc nch ho (I.jR x c e)
   exact{_,q,hd}
  ·exact{o,keep c o (I.P6 x c e) hc nch ho (I.jR x c e),hd}
 refine{I.ok,I.os,hg,{λb o e n hb hx=>?_,λb o e n hb hx=>?_,λb o e n hx=>?_,λb o e hx=>?_,λb xs e=>nZ b xs (I.base.nZ b xs e),λb o xs e=>mC b o xs (I.base.mC b o xs e),λb ps e=>?_},?_,λx c e=>?_,?_,λx c e=>?_,λp hp=>?_,bZ,I.len}
 ·exact keep b o (neL b o e) hb (neC b o e hx) (I.base.keep b o e n hb hx) (I.base.free b o e n hx)
 ·let⟨sl,e1⟩:=I.base.slot b o e n hb hx
  let⟨sl',e2⟩:=slot b _ (neL b o e) hb (neC b o e hx) e1 (I.base.free b o e n hx);exact{(sl'),e2}
 ·let⟨o',e1⟩:=I.base.there b o e hx
  exact free b o' (neC b o e hx) e1 (I.base.free b o e n hx)
 ·let⟨o',e1⟩:=I.base.there b o e hx
  exact there b o' (neC b o e hx) e1
 ·let⟨m1,e1⟩:=I.base.oa b ps e
  let⟨m2,e2⟩:=oa b _ e1;exact{m1++m2,by rw[e2,Array.append_assoc]}
 ·let⟨m,hn,hl⟩:=I.loc
  refine{m,ns m hn,λi x v e1 e2 e3=>?_};let⟨u,r,l⟩:=hl i x v e1 e2 e3;refine{u,r,?_};rcases l with l | ⟨k,c,e,z⟩
  ·exact .inl l
  ·exact .inr {k,c,e,cellK x c e _ z}
 ·let⟨v,z⟩:=I.cell x c e
  exact{v,cellK x c e v z}
 ·let⟨m,⟨o,_,_,ho,_⟩,_⟩:=I.loc
  exact free _ o (λz=>(hch _ z).2.1 rfl) ho I.free
 ·let⟨v,o,ho,hd⟩:=I.cell x c e
  exact free c o (λz=>(hch c z).2.2.1 x c e rfl) ho (I.jR x c e)
 ·let⟨e,n,ne,nf,d⟩:=I.pin p hp
  let nch:p.1∉ch:=λz=>(hch p.1 z).2.2.2 p hp rfl;exact{keep p.1 p.2 ne nf nch e n,free p.1 p.2 nch e n,ne,nf,d}
def Inv.un {t':Nat} (I:Inv X pins U H s) (u:Un X.fs [] H H' s.heap h') (bZ:pM X.prog X.w H' h'):Inv X pins U H' {s with heap:=h',toks:=t'}:=by
 let⟨m,⟨o,es,ep,ho,r⟩,_⟩:=id I.loc;let⟨sl,hL⟩:=u.any ho I.free (by simp);exact I.step (g':=s.gens) (d':=s.drawn) (ch:=[]) (λ_ z=>nomatch z) (λb o _ hb _ e n=>u.keep b o e n hb (by simp)) (λb o _ hb _ e n=>u.slot b o e n hb (by simp)) (λb o _ e n=>u.free b o e n (by simp)) (λb o _ e=>u.there b o e (by simp)) u.nZ u.mC u.oa (λm' hm=>by
  let⟨o',es',ep',ho',r'⟩:=hm;rw[ho] at ho';cases ho';exact{_,es',ep',hL,r'}) bZ I.bare
def Inv.call {g':Array GenState} {t':Nat} {d':Drawn} {ch:List vF} (I:Inv X pins U H s) (u:Un (oE X.stack) ch H H' s.heap h') (bZ:pM X.prog X.w H' h') (hg:AllBare g')
  (hch:∀b∈ch,(b∈X.ex\/X.s₀.heap.objs.size<=b)/\b≠X.env.locals/\(∀x c,X.env.cells.lookup x=some c->c≠b)/\∀p∈X.pn++pins,p.1≠b) :
  Inv X pins U H' {s with heap:=h',gens:=g',drawn:=d',toks:=t'}:=by
 let⟨m,⟨o,es,ep,ho,r⟩,_⟩:=id I.loc;let⟨sl,hL⟩:=u.any ho I.free λz=>(hch _ z).2.1 rfl;exact I.step (ch:=ch) hch (λb o hL hb hc e n=>u.keep b o e n (λz=>(zD.mp (I.Ex b z)).elim hL hb) hc) (λb o _ _ hc e n=>u.any e n hc) (λb o hc e n=>u.free b o e n hc) (λb o hc e=>u.there b o e hc) u.nZ u.mC u.oa (λm' hm=>by
  let⟨o',es',ep',ho',r'⟩:=hm;rw[ho] at ho';cases ho';exact{_,es',ep',hL,r'}) bZ hg
def Inv.turned {t':Nat} {it:vF} (I:Inv X pins U H s) (k:∀b o,b≠it->s.heap.get? b=some o->h'.get? b=some o) (hn:H it=none) (hL:it≠X.env.locals)
  (h1:it∈X.ex\/X.s₀.heap.objs.size<=it) (h2:∀x c,X.env.cells.lookup x=some c->c≠it) (h3:∀p∈X.pn++pins,p.1≠it):Inv X pins U H {s with heap:=h',toks:=t'}:=by
 let nit:∀b u,H b=some u->b≠it:=λb u e z=>by rw[z,hn] at e;cases e
 refine I.step (g':=s.gens) (d':=s.drawn) (ch:=[it]) (λb hb=>?_) (λb o _ _ hc e _=>k b o (λz=>hc (by simp[z])) e) (λb o _ _ hc e _=>{o.slots,k b o (λz=>hc (by simp[z])) e}) (λ_ _ _ _ n=>n)
  (λb o hc e=>{o,k b o (λz=>hc (by simp[z])) e}) (λ_ _ e=>e) (λ_ _ _ e=>e) (λb ps e=>{#[],by rw[e];simp}) (λm hm=>?_) (λb u e=>?_) I.bare
 ·let e:b=it:=by simpa using hb
  subst e;exact{(h1),hL,h2,h3}
 ·let⟨o,es,ep,ho,r⟩:=hm
  exact{o,es,ep,k _ o (Ne.symm hL) ho,r}
 ·refine(I.bZ b u e).kQ (λc v hc q=>k c v ?_ q) (λ_ q=>q) λ_ _ q=>q
  rcases hc with z | z
  ·rw[z];exact nit b u e
  ·exact nit c _ z
def Inv.tok (I:Inv X pins U H s) (t:Nat):Inv X pins U H {s with toks:=t}:=I.un (h':=s.heap) (t':=t) Un.refl I.bZ
theorem Inv.kept (I:Inv X pins U H s) (k:∀b u,s.heap.get? b=some u->h'.get? b=some u):Inv X pins U H {s with heap:=h',toks:=t'}:=I.un (Un.kept k) (I.bZ.kept k)
theorem Inv.laid (I:Inv X pins U H s) (k:∀b u,s.heap.get? b=some u->h'.get? b=some u) (hp:↑s<=a) (new:cB X.prog X.w (upd H a o) h' a o) :
  Inv X pins U (upd H a o) {s with heap:=h',toks:=t'}:=I.un (Un.laid k hp (I.bZ.fresh hp)) (I.bZ.laid k hp new)
theorem Inv.write (I:Inv X pins U H s) (mu:Vd (H x)) (he:e=x\/H e=some (.own x)) (k:∀b u,b≠e->s.heap.get? b=some u->h'.get? b=some u) (heo:∃u,h'.get? e=some u)
  (new:cB X.prog X.w (upd H x o) h' x o):Inv X pins U (upd H x o) {s with heap:=h',toks:=t'}:=I.un (Un.write mu he k heo) (I.bZ.write mu he k heo new)
def Inv.nI (I:Inv X pins U H s) (h:∀p∈pins',s.heap.get? p.1=some p.2/\H p.1=none/\p.1≠X.env.locals/\p.1∉X.fs/\∀v,p.2.data≠.cell v):Inv X pins' U H s:=
 {I.ok,I.os,I.bare,I.base,I.loc,I.cell,I.free,I.jR,λp hp=>(zG.mp hp).elim (λz=>I.pin p (zJ _ z)) (h p),I.bZ,I.len}
def HL {N:List Str} (hN:N.Nodup) {i j:Nat} {x:Str} (a:N[i]?=some x) (b:N[j]?=some x):i=j:=by
 let⟨h1,e1⟩:=zy.mp a;let⟨h2,e2⟩:=zy.mp b;exact(List.getElem_inj hN).mp (e1.trans e2.symm)
def Dy {M:Model} {A:vD} {E:vz->vA->Prop} {i:Nat} {x:Str} {v:V} {u:vz} {Q:Unit->vA->Prop} (I:Inv X pins U H s) (hN:X.N.Nodup) (hi:X.N[i]?=some x) (hx:Loc X.env.scope x) (r:RelV v u)
  (h:∀s',Inv X pins (U.set i (some v)) H s'->(∃a,Heap.SameBut a s.heap s'.heap/\(a=X.env.locals\/X.env.cells.lookup x=some a))->Q .unit s') (hf:X.fn x=true\/X.env.scope.names.lookup x=some .local<|>qa_):wpAny M A (storeName X.env x u) Q E s:=by
 let⟨m,hn,hl⟩:=id I.loc;let hcls:(X.env.scope.kind == .class||(X.env.scope.kind == .module&&X.env.locals != X.env.globals))=false:=by rw[I.ok.kind];rfl
 let hiU:i<U.length:=by rw[I.len];exact(zy.mp hi).1
 let P6:=I.P6;let tracked:∀{a:vF} {h':vG},(∃o,s.heap.get? a=some o/\H a=none)->Heap.SameBut a s.heap h'->pM X.prog X.w H h':=λ{a h'} ha hs b ob e=>by
  let⟨_,_,hfree⟩:=ha;refine(I.bZ b ob e).kQ (λc w' hc q=>(hs.2 c ?_).trans q) (λ_ q=>q) λ_ _ q=>q;rintro rfl;rcases hc with rfl | hc
  ·rw[hfree] at e;cases e
  ·rw[hfree] at hc;cases hc
 rcases hx with hk | hk
 ·refine wpAny_storeName_local hk hn (λh' hn' hs=>?_) hcls
  let⟨oL,_,_,hoL,_⟩:=id hn;refine h _ {I.ok,I.os,I.bare,{λb o e n hb hx=>?_,λb o e n hb hx=>?_,I.base.free,λb o e hx=>?_,I.base.nZ,I.base.mC,I.base.oa},{_,hn',λj y v' e1 e2 e3=>?_},λy c e=>?_,I.free,I.jR,λp hp=>?_,tracked {(oL),hoL,I.free} hs,by simpa using I.len} {_,hs,.inl rfl}
  ·exact(hs.2 b (yj (yc (yy e) I.ok.above))).trans (I.base.keep b o e n hb hx)
  ·let⟨sl,e1⟩:=I.base.slot b o e n hb hx
   exact{sl,(hs.2 b (yj (yc (yy e) I.ok.above))).trans e1}
  ·let⟨o',e1⟩:=I.base.there b o e hx
   exact{o',(hs.2 b (yj (yc (yy e) I.ok.above))).trans e1}
  ·by_cases hj:j=i
   ·subst hj
    rw[hi] at e1;cases e1;rw[List.getElem?_set_self hiU] at e2;cases e2;exact{u,r,.inl {hk,by simp}}
   ·rw[List.getElem?_set_ne (Ne.symm hj)] at e2
    let⟨u',r',q⟩:=hl j y v' e1 e2 e3;refine{u',r',?_};rcases q with⟨k,e⟩ | ⟨k,c,e,z⟩
    ·refine .inl {k,?_}
     have:y≠x:=λe=>hj (HL hN e1 (e▸hi));simp[this,e]
    ·exact .inr {k,c,e,z.sameBut hs (P6 y c e)}
  ·let⟨w',z⟩:=I.cell y c e
   exact{w',z.sameBut hs (P6 y c e)}
  ·let⟨e,n,ne,nf,d⟩:=I.pin p hp
   exact{(hs.2 p.1 ne).trans e,n,ne,nf,d}
 ·let hfn:X.fn x=true:=by
   rcases hf with z | z
   ·exact z
   ·rw[z] at hk;cases hk
  let⟨c,hc⟩:=I.ok.has x (.inl hk);let⟨w',z⟩:=I.cell x c hc;refine wpAny_storeName_cell I.ok.kind hk hc z (λh' hc' hs=>?_);let⟨oc,hoc,hocd⟩:=id z;refine h {s with heap:=h'} {I.ok,I.os,I.bare,{λb o e n hb hx=>?_,λb o e n hb hx=>?_,I.base.free,λb o e hx=>?_,I.base.nZ,I.base.mC,I.base.oa},{m,hn.sameBut hs (Ne.symm (P6 x c hc)),λj y v' e1 e2 e3=>?_},λy c' e=>?_,I.free,I.jR,λp hp=>?_,tracked {oc,hoc,I.jR x c hc} hs,by simpa using I.len} {c,hs,.inr hc}
  ·exact(hs.2 b (yj (yc (yy e) (I.ok.TK x c hfn hc)))).trans (I.base.keep b o e n hb hx)
  ·let⟨sl,e1⟩:=I.base.slot b o e n hb hx
   exact{sl,(hs.2 b (yj (yc (yy e) (I.ok.TK x c hfn hc)))).trans e1}
  ·let⟨o',e1⟩:=I.base.there b o e hx
   exact{o',(hs.2 b (yj (yc (yy e) (I.ok.TK x c hfn hc)))).trans e1}
  ·by_cases hj:j=i
   ·subst hj
    rw[hi] at e1;cases e1;rw[List.getElem?_set_self hiU] at e2;cases e2;exact{u,r,.inr {.inl hk,c,hc,hc'}}
   ·rw[List.getElem?_set_ne (Ne.symm hj)] at e2
    let⟨u',r',q⟩:=hl j y v' e1 e2 e3;refine{u',r',?_};rcases q with q | ⟨k,c',e,z'⟩
    ·exact .inl q
    ·refine .inr {k,c',e,z'.sameBut hs ?_}
     rintro rfl;exact hj (HL hN e1 (I.ok.inj _ _ _ e hc▸hi))
  ·by_cases hcc:c'=c
   ·subst hcc;exact{_,hc'}
   ·let⟨w2,z2⟩:=I.cell y c' e
    exact{w2,z2.sameBut hs hcc}
  ·let⟨e,n,ne,nf,d⟩:=I.pin p hp
   refine{(hs.2 p.1 ?_).trans e,n,ne,nf,d};intro q;rw[q,hoc] at e;let q':oc=p.2:=yk e;exact d w' (by rw[<-q'];exact hocd)
def mL (I:Inv X pins U H s) (hN:X.N.Nodup) (hi:X.N[i]?=some x) (hx:Loc X.env.scope x) (r:RelV v u)
  (h:∀s',Inv X pins (U.set i (some v)) H s'->Q .unit s') (hf:X.fn x=true\/X.env.scope.names.lookup x=some .local<|>qa_):wpAny M A (storeName X.env x u) Q E s:=
 Dy I hN hi hx r (λs' I' _=>h s' I') hf
def Inv.PB (I:Inv X pins U H s) (ho:s'.os=s.os) (u:Un (oE X.stack) ch H H' s.heap s'.heap) (bZ:pM X.prog X.w H' s'.heap) (hg:AllBare s'.gens)
  (hch:∀b∈ch,(b∈X.ex\/X.s₀.heap.objs.size<=b)/\b≠X.env.locals/\(∀x c,X.env.cells.lookup x=some c->c≠b)/\∀p∈X.pn++pins,p.1≠b):Inv X pins U H' s':=by
 let⟨h',g',d',t',o'⟩:=s';let e:o'=s.os:=ho;subst e;exact I.call (g':=g') (t':=t') (d':=d') u bZ hg hch
end
abbrev XK:=vz->Option vF->Hp->Prop
abbrev St:=List (Option V)
abbrev VK:=V->Hp->Prop
abbrev TE:=St->Hp->VK->Prop
abbrev TT:=St->Hp->(Bool->Hp->Prop)->Prop
abbrev TA:=St->Hp->(List V->Hp->Prop)->Prop
structure Ends where
 nx:St->Hp->Prop
 rt:VK
 bk:St->Hp->Prop:=λ_ _=>False
 ct:St->Hp->Prop:=λ_ _=>False
abbrev TS:=Ends->St->Hp->Prop
def EP (X:Cx) (pins:List (vF×Obj)) (U:St) (Q:VK) (u:vz) (s':vA):Prop:=∃v H',Inv X pins U H' s'/\RelV v u/\Q v H'
def TP (X:Cx) (pins:List (vF×Obj)) (U:St) (Q:Bool->Hp->Prop) (b:Bool) (s':vA):Prop:=∃H',Inv X pins U H' s'/\Q b H'
def AP (X:Cx) (pins:List (vF×Obj)) (U:St) (Q:List V->Hp->Prop) (us:List vz) (s':vA):Prop:=∃vs H',Inv X pins U H' s'/\Vals vs us/\Q vs H'
def SP (X:Cx) (pins:List (vF×Obj)) (D:Ends) (f:Flow) (s':vA):Prop:=
 match f with
 | .next=>∃U' H',Inv X pins U' H' s'/\D.nx U' H'
 | .brk=>∃U' H',Inv X pins U' H' s'/\D.bk U' H'
 | .cont=>∃U' H',Inv X pins U' H' s'/\D.ct U' H'
 | .ret u=>∃v U' H',Inv X pins U' H' s'/\RelV v u/\D.rt v H'
def PE (X:Cx) (e:Expr) (t:TE):Prop:=
 ∀(pins:List (vF×Obj)) (s:vA) (U:St) (H:Hp) (Q:VK),Inv X pins U H s->t U H Q->wpAny (model X.prog X.w) X.A (eval e X.env) (EP X pins U Q) X.xe s
def PT (X:Cx) (e:Expr) (t:TT):Prop:=
 ∀(pins:List (vF×Obj)) (s:vA) (U:St) (H:Hp) (Q:Bool->Hp->Prop),Inv X pins U H s->t U H Q->wpAny (model X.prog X.w) X.A (isTrue e X.env (eval e X.env)) (TP X pins U Q) X.xe s
def PW (X:Cx) (e:Expr) (t:TT):Prop:=
 ∀(whole:Sem vz) (pins:List (vF×Obj)) (s:vA) (U:St) (H:Hp) (Q:Bool->Hp->Prop),Inv X pins U H s->t U H Q->wpAny (model X.prog X.w) X.A (isTrue e X.env whole) (TP X pins U Q) X.xe s
def PW.pt (h:PW X e t):PT X e t:=h _
def PA (X:Cx) (es:List Expr) (t:TA):Prop:=
 ∀(pos:Pos) (pins:List (vF×Obj)) (s:vA) (U:St) (H:Hp) (Q:List V->Hp->Prop),Inv X pins U H s->t U H Q->wpAny (model X.prog X.w) X.A (spliced (backTo pos (starEach es X.env))) (AP X pins U Q) X.xe s
def PS (X:Cx) (st:Stmt) (t:TS):Prop:=
 ∀(pins:List (vF×Obj)) (s:vA) (U:St) (H:Hp) (D:Ends),Inv X pins U H s->t D U H->wpAny (model X.prog X.w) X.A (exec st X.env) (SP X pins D) X.xe s
def Em (X:Cx) (st:List Stmt) (t:TS):Prop:=
 ∀(pins:List (vF×Obj)) (s:vA) (U:St) (H:Hp) (D:Ends),Inv X pins U H s->t D U H->wpAny (model X.prog X.w) X.A (execs st X.env) (SP X pins D) X.xe s
def cM (h:wpAny M A t Q E s) (hQ:∀a s,Q a s->Q' a s):wpAny M A t Q' E s:=xg h hQ λ_ _ x=>x
end L2
namespace L2
open PySem PySem.Spec PyProof.Rows
section
variable {X:Cx}
def aY (i:Nat):TE:=λU H Q=>∃v,U[i]?=some (some v)/\Q v H
def tC (v:V):TE:=λ_ H Q=>Q v H
def SK (hN:X.N[i]?=some x) (hv:TQ X.env.scope x) (hd:(x == ("__debug__": Str))=false<|>qb_) (hcd:(x == ("__classdict__": Str))=false<|>qb_):PE X (.Name x pos) (aY i):=by
 intro pins s U H Q I h;let⟨v,e,h⟩:=h;let⟨m,hn,hl⟩:=I.loc;let⟨u,r,l⟩:=hl i x v hN e hv;let fin:EP X pins U Q u s:={(v),H,I,r,h}
 rcases l with⟨hk,hm⟩ | ⟨hk,c,hc,hcell⟩
 ·exact wpAny_Name (wpAny_loadName_local I.ok.kind hk hn hm fin) hd
 ·rcases hk with hk | hk
  ·exact wpAny_Name (wpAny_loadName_cell I.ok.kind hk hc hcell fin) hd
  ·exact wpAny_Name (wpAny_loadName_free I.ok.kind hk hc hcell fin hcd) hd
def ae:PE X (.Constant (.int i) j pos) (tC (.int i)):=λ_ _ _ H _ I h=>wpAny_Constant_int {.int i,H,I.tok _,{_,rfl},h}
def ky:PE X (.Constant (.bool b) j pos) (tC (.bl b)):=λ_ _ _ H _ I h=>Constant_bool {.bl b,H,I,rfl,h}
def aS:PE X (.Constant .none j pos) (tC .bH):=λ_ _ _ H _ I h=>Constant_none {.bH,H,I,rfl,h}
def aN:PE X (.Constant (.str x) j pos) (tC (.str x)):=λ_ _ _ H _ I h=>Calls.Constant_str {.str x,H,I.tok _,{_,rfl},h}
def Gl (X:Cx) (x:Str):Prop:=X.env.kindOf x=some .globalImplicit
def jO (I:Inv X pins U H s) (hg:Gl X x) (hm:X.mg x=some u) (h:Q u s)
  (hd:(x == ("__debug__": Str))=false<|>qb_):wpAny (model X.prog X.w) X.A (eval (.Name x pos) X.env) Q E s:=
 Calls.Name_function_global I.ok.kind hg (Calls.loadGlobal_global (by rw[I.ok.glob];exact I.mod.glob.keeps I.bk) hm h) hd
def jd (I:Inv X pins U H s) (hg:Gl X x) (hm:X.mg x=none) (hv:bootBuiltins x=some u) (h:Q u s)
  (hn:x≠ "__name__"<|>qb_) (hd:(x == ("__debug__": Str))=false<|>qb_):wpAny (model X.prog X.w) X.A (eval (.Name x pos) X.env) Q E s:=by
 let⟨mb,h1,h2⟩:=I.mod.blt;exact Calls.Name_function_global I.ok.kind hg (Calls.loadGlobal_builtin (by rw[I.ok.glob];exact I.mod.glob.keeps I.bk) hm (by rw[I.ok.blt];exact h1.keeps I.bk) ((h2 x hn).trans hv) h) hd
def bX (hg:Gl X x) (hm:X.mg x=some u) (r:RelV v u) (hd:(x == ("__debug__": Str))=false<|>qb_):PE X (.Name x pos) (tC v):=
 λ_ _ _ H _ I h=>jO I hg hm {(v),H,I,r,h} hd
def QG (hg:Gl X x) (hm:X.mg x=none) (hv:bootBuiltins x=some u) (r:RelV v u) (hn:x≠ "__name__"<|>qb_) (hd:(x == ("__debug__": Str))=false<|>qb_):PE X (.Name x pos) (tC v):=
 λ_ _ _ H _ I h=>jd I hg hm hv {(v),H,I,r,h} hn hd
variable {a b:Expr} {ta tb:TE} {pos:Pos}
def PC (X:Cx) (op:CmpOp) (a b:Expr) (t:TE):Prop:=
 ∀(pins:List (vF×Obj)) (s:vA) (U:St) (H:Hp) (Q:VK),Inv X pins U H s->t U H Q->
  wpAny (model X.prog X.w) X.A (eval a X.env) (λv s₁=>wpAny (model X.prog X.w) X.A (eval b X.env) (λu s₂=>wpAny (model X.prog X.w) X.A (compareOp op v u) (EP X pins U Q) X.xe s₂) X.xe s₁) X.xe s
def HN (b:Expr) (h:op≠.In) (h2:op≠.NotIn):behindInMarks op b=false:=by
 let e1:(op == CmpOp.In)=false:=by cases op <;> first | rfl | exact absurd rfl h
 let e2:(op == CmpOp.NotIn)=false:=by cases op <;> first | rfl | exact absurd rfl h2
 cases b <;> simp[behindInMarks,e1,e2]
def NQ (ta:TE):TE:=λU H Q=>ta U H λx H1=>Q (.bl (decide (x=.bH))) H1
def NP (ta:TE):TE:=λU H Q=>ta U H λx H1=>Q (.bl (!decide (x=.bH))) H1
def RelV.HK (r:RelV x v):(v == Value.none)=decide (x=.bH):=by
 cases x with
 | bH=>cases r;rfl
 | bl _=>cases r;rfl
 | int _=>let⟨t,rfl⟩:=r;rfl
 | str _=>let⟨t,rfl⟩:=r;rfl
 | LA _=>let⟨t,rfl⟩:=r;rfl
 | Q0 _=>let⟨t,rfl⟩:=r;rfl
 | ref _=>cases r;rfl
 | ty _=>cases r;rfl
def cC (ha:PE X a ta):PC X .Is a (.Constant .none j pos') (NQ ta):=by
 intro pins s U H Q I h;refine cM (ha pins s U H _ I h) λv s1 zz=>?_;let⟨x,H1,I1,r1,q1⟩:=zz;exact Constant_none (is_none_gen {.bl _,H1,I1,by rw[r1.HK];rfl,q1})
def fN (ha:PE X a ta):PC X .IsNot a (.Constant .none j pos') (NP ta):=by
 intro pins s U H Q I h;refine cM (ha pins s U H _ I h) λv s1 zz=>?_;let⟨x,H1,I1,r1,q1⟩:=zz;exact Constant_none (isnot_none_gen {.bl _,H1,I1,by rw[r1.HK];rfl,q1})
def tB (t:TE):TT:=λU H Q=>t U H λx H1=>∃c,x=.bl c/\Q c H1
def sF (h:PC X op a b t) (h1:behindInMarks op b=false<|>qc_):PE X (.Compare a [op] [b] pos) t:=λpins s U H Q I hw=>wpAny_Compare1 (h pins s U H Q I hw) h1
def bC (h:PC X op a b t) (h1:behindInMarks op b=false<|>qc_):PT X (.Compare a [op] [b] pos) (tB t):=by
 intro pins s U H Q I hw;refine wpAny_isTrue_Compare1 (cM (h pins s U H _ I hw) λv s1 h1=>cM h1 λu s2 h2=>cM h2 λc s3 ⟨x,H1,I1,r1,q1⟩=>?_) h1;let⟨d,rfl,q⟩:=q1;cases r1;exact xi {(H1),I1,q}
def cR (h:PE X e t) (he:(∀whole,isTrue e X.env whole=(do let v <-whole;standAt e.pos;holding [v] (truthy v)))<|>qd_):PT X e (tB t):=by
 intro pins s U H Q I hw;refine isTrue_plain (cM (h pins s U H _ I hw) λv s1 ⟨x,H1,I1,r1,q1⟩=>?_) (he _);let⟨d,rfl,q⟩:=q1;cases r1;exact xi {(H1),I1,q}
variable {tA tB':TT} {rest:List Expr}
def So (t u:TT):TT:=λU H Q=>t U H λc H1=>if c=true then u U H1 Q else Q false H1
def V3 (t u:TT):TT:=λU H Q=>t U H λc H1=>if c=true then Q true H1 else u U H1 Q
def Qf (t:TT):TT:=λU H Q=>t U H λc H1=>Q (!c) H1
def cW (ha:PT X a tA):PW X (.BoolOp .And [a] pos) tA:=by
 intro wh pins s U H Q I h;refine isTrue_and (cM (ha pins s U H Q I h) λc s1 e=>?_);cases c with
 | true=>exact isTrue_and_nil e
 | false=>exact e
def dy (ha:PT X a tA):PW X (.BoolOp .Or [a] pos) tA:=by
 intro wh pins s U H Q I h;refine isTrue_or (cM (ha pins s U H Q I h) λc s1 e=>?_);cases c with
 | false=>exact isTrue_or_nil e
 | true=>exact e
def dt (ha:PT X a tA) (hb:PW X (.BoolOp .And (b::rest) pos) tB'):PW X (.BoolOp .And (a::b::rest) pos) (So tA tB'):=by
 intro wh pins s U H Q I h;refine isTrue_and (cM (ha pins s U H _ I h) λc s1 ⟨H1,I1,q1⟩=>?_);cases c with
 | true=>exact hb wh pins s1 U H1 Q I1 q1
 | false=>exact{(H1),I1,q1}
def eF (ha:PT X a tA) (hb:PW X (.BoolOp .Or (b::rest) pos) tB'):PW X (.BoolOp .Or (a::b::rest) pos) (V3 tA tB'):=by
 intro wh pins s U H Q I h;refine isTrue_or (cM (ha pins s U H _ I h) λc s1 ⟨H1,I1,q1⟩=>?_);cases c with
 | true=>exact{(H1),I1,q1}
 | false=>exact hb wh pins s1 U H1 Q I1 q1
def fu (ha:PT X a tA):PT X (.UnaryOp .Not a pos) (Qf tA):=by
 intro pins s U H Q I h;exact isTrue_not (ha pins s U H (λc H1=>Q (!c) H1) I h)
def Rz (ta tb:TE):TE:=λU H Q=>ta U H λx H1=>∃c,x=.bl c/\if c=true then tb U H1 Q else Q (.bl false) H1
def Uq (ta tb:TE):TE:=λU H Q=>ta U H λx H1=>∃c,x=.bl c/\if c=true then Q (.bl true) H1 else tb U H1 Q
def Rw (ta:TE):TE:=λU H Q=>ta U H λx H1=>∃c,x=.bl c/\Q (.bl (!c)) H1
def mT (h:PE X a t):PE X (.BoolOp op [a] pos) t:=λpins s U H Q I hw=>BoolOp_one (h pins s U H Q I hw)
def o9 (ha:PE X a ta) (hb:PE X (.BoolOp .And (b::rest) pos) tb):PE X (.BoolOp .And (a::b::rest) pos) (Rz ta tb):=by
 intro pins s U H Q I h;refine BoolOp_and (cM (ha pins s U H _ I h) λv s1 zz=>?_);let⟨x,H1,I1,r1,q1⟩:=zz;let⟨c,rfl,q1⟩:=q1;cases r1;refine xi ?_;cases c with
 | true=>exact hb pins s1 U H1 Q I1 q1
 | false=>exact{.bl false,H1,I1,rfl,q1}
def OA (ha:PE X a ta) (hb:PE X (.BoolOp .Or (b::rest) pos) tb):PE X (.BoolOp .Or (a::b::rest) pos) (Uq ta tb):=by
 intro pins s U H Q I h;refine BoolOp_or (cM (ha pins s U H _ I h) λv s1 zz=>?_);let⟨x,H1,I1,r1,q1⟩:=zz;let⟨c,rfl,q1⟩:=q1;cases r1;refine xi ?_;cases c with
 | false=>exact hb pins s1 U H1 Q I1 q1
 | true=>exact{.bl true,H1,I1,rfl,q1}
def SN (ha:PE X a ta):PE X (.UnaryOp .Not a pos) (Rw ta):=by
 intro pins s U H Q I h;refine UnaryOp_ (cM (ha pins s U H _ I h) λv s1 zz=>?_);let⟨x,H1,I1,r1,q1⟩:=zz;let⟨c,rfl,q1⟩:=q1;cases r1;exact not_of (xi {.bl (!c),H1,I1,rfl,q1})
def WH (t:TT) (ta tb:TE):TE:=λU H Q=>t U H λc H1=>if c=true then ta U H1 Q else tb U H1 Q
def AX (hc:PT X c tA) (ha:PE X a ta) (hb:PE X b tb):PE X (.IfExp c a b pos) (WH tA ta tb):=by
 intro pins s U H Q I h;refine wpAny_IfExp (cM (hc pins s U H _ I h) λd s1 ⟨H1,I1,q1⟩=>?_);cases d with
 | true=>exact ha pins s1 U H1 Q I1 q1
 | false=>exact hb pins s1 U H1 Q I1 q1
end
end L2
namespace L2
open PySem PySem.Spec PyProof.Rows
def aH (K:yB) (H:Hp) (a:vF) (xs:List V):Prop:=
 Rd H a (.lst xs)\/
  ∃(o:Obj) (its:Array vz) (n:Nat),K.lookup a=some o/\o.cls=.type "list"/\o.dict=none/\o.data=.seq its n/\its.size<=sizeLine/\Vals xs its.toList
def cU (K:yB) (H:Hp) (a:vF) (xs:List V):Prop:=
 Rd H a (.tup xs)\/
  ∃(o:Obj) (its:Array vz) (n:Nat),K.lookup a=some o/\o.cls=.type "tuple"/\o.data=.seq its n/\its.size<=sizeLine/\Vals xs its.toList
def Wy:vz->Option V
 | .none=>some .bH
 | .bool b=>some (.bl b)
 | .int i _=>some (.int i)
 | .str x _=>some (.str x)
 | .bytes b _=>some (.LA b)
 | .float b _=>some (.Q0 b)
 | .ref a=>some (.ref a)
 | .type n=>some (.ty n)
 | _=>none
def RelV.abs (r:RelV x u):Wy u=some x:=by
 cases x with
 | bH=>cases r;rfl
 | bl _=>cases r;rfl
 | int _=>let⟨t,rfl⟩:=r;rfl
 | str _=>let⟨t,rfl⟩:=r;rfl
 | LA _=>let⟨t,rfl⟩:=r;rfl
 | Q0 _=>let⟨t,rfl⟩:=r;rfl
 | ref _=>cases r;rfl
 | ty _=>cases r;rfl
def RelV.inj (r:RelV x u) (q:RelV y u):x=y:=yk (r.abs.symm.trans q.abs)
theorem Vals.inj:∀{xs ys:List V} {us:List vz},Vals xs us->Vals ys us->xs=ys
 | _,_,_,.nil,.nil=>rfl
 | _,_,_,.cons r t,.cons r' t'=>by rw[r.inj r',Vals.inj t t']
section
variable {X:Cx} {pins:List (vF×Obj)} {U:St} {H:Hp} {s:vA} {a:vF} {xs ys:List V}
def aH.of {K:yB} (h:H a=some (.lst xs)):aH K H a xs:=.inl (.inl h)
def cU.of {K:yB} (h:H a=some (.tup xs)):cU K H a xs:=.inl (.inl h)
def Inv.list (I:Inv X pins U H s) (h:aH X.K H a xs):∃its:List vz,Vals xs its/\PlainL s.heap a its.toArray/\⇑xs<=sizeLine:=by
 rcases h with h | ⟨o,its,n,hk,hc,hd,hs,hz,r⟩
 ·let⟨z,its,n,r,e⟩:=h.ok I.bZ
  exact{its,r,{_,n,e,rfl,rfl,rfl},z}
 ·refine{its.toList,r,{o,n,I.qR a o hk,hc,hd,by simpa using hs},?_}
  let e:=⇑r;simp only[yQ] at e;ext
def Inv.tuple (I:Inv X pins U H s) (h:cU X.K H a xs):∃its:List vz,Vals xs its/\IsTup s.heap a its.toArray/\⇑xs<=sizeLine:=by
 rcases h with h | ⟨o,its,n,hk,hc,hs,hz,r⟩
 ·let⟨z,its,r,p⟩:=h.ok I.bZ
  exact{(its),r,p,z}
 ·refine{its.toList,r,{o,I.qR a o hk,hc,n,by simpa using hs},?_}
  let e:=⇑r;simp only[yQ] at e;ext
def Inv.Ba (I:Inv X pins U H s) (h:aH X.K H a xs) (h':aH X.K H a ys):xs=ys:=by
 let⟨its,r,⟨o,n,e,_,_,d⟩,_⟩:=I.list h;let⟨its',r',⟨o',n',e',_,_,d'⟩,_⟩:=I.list h';rw[e] at e';cases e';rw[d] at d';injection d' with d1 _;have:its=its':=by simpa using y6 Array.toList d1
 subst this;exact r.inj r'
def Inv.Dv (I:Inv X pins U H s) (h:cU X.K H a xs) (h':cU X.K H a ys):xs=ys:=by
 let⟨its,r,⟨o,e,_,n,d⟩,_⟩:=I.tuple h;let⟨its',r',⟨o',e',_,n',d'⟩,_⟩:=I.tuple h';rw[e] at e';cases e';rw[d] at d';injection d' with d1 _;have:its=its':=by simpa using y6 Array.toList d1
 subst this;exact r.inj r'
end
abbrev Cx.pO (X:Cx) (E:vz->vA->Prop):Cx:={X with xe:=E}
abbrev Cx.JP (X:Cx):Cx:=X.pO λ_ _=>False
theorem Cx.Ok.pO {X:Cx} (ok:X.Ok) (E:vz->vA->Prop):(X.pO E).Ok:=
 {(ok.mod),ok.kind,ok.glob,ok.blt,ok.above,ok.inj,ok.has,ok.TK,ok.hd,ok.frames,ok.T5,ok.Vu,ok.bs,ok.Nq,ok.uQ,ok.J2,ok.oo,ok.HY}
def Cx.Ok.gQ {X:Cx} {E:vz->vA->Prop} (ok:(X.pO E).Ok):X.Ok:=
 {(ok.mod),ok.kind,ok.glob,ok.blt,ok.above,ok.inj,ok.has,ok.TK,ok.hd,ok.frames,ok.T5,ok.Vu,ok.bs,ok.Nq,ok.uQ,ok.J2,ok.oo,ok.HY}
section
variable {X:Cx} {pins:List (vF×Obj)} {U:St} {H:Hp} {s:vA} {E:vz->vA->Prop}
theorem Inv.pO (I:Inv X pins U H s) (E:vz->vA->Prop):Inv (X.pO E) pins U H s:={I.ok.pO E,I.os,I.bare,I.base,I.loc,I.cell,I.free,I.jR,I.pin,I.bZ,I.len}
theorem Inv.gQ (I:Inv (X.pO E) pins U H s):Inv X pins U H s:={(I.ok.gQ),I.os,I.bare,I.base,I.loc,I.cell,I.free,I.jR,I.pin,I.bZ,I.len}
theorem SP.gQ (h:SP (X.pO E) pins D f s'):SP X pins D f s':=by
 cases f with
 | next=>let⟨U',H',I,q⟩:=h;exact{U',H',I.gQ,q}
 | brk=>let⟨U',H',I,q⟩:=h;exact{U',H',I.gQ,q}
 | cont=>let⟨U',H',I,q⟩:=h;exact{U',H',I.gQ,q}
 | ret u=>let⟨v,U',H',I,r,q⟩:=h;exact{v,U',H',I.gQ,r,q}
theorem Em.JP {st:List Stmt} {t:TS} (h:Em X.JP st t):Em X st t:=λpins s U H D I hw=>
 xg (h pins s U H D (I.pO _) hw) (λ_ _ q=>q.gQ) λ_ _ z=>False.elim z
end
section
variable {X:Cx} {st:Stmt} {rest:List Stmt} {t u:TS} {e:Expr} {te:TE} {pos:Pos}
def Rx:TS:=λD U H=>D.nx U H
def Sb (t u:TS):TS:=λD U H=>t {D with nx:=u D} U H
def aB:Em X [] Rx:=λ_ _ U H _ I h=>wy {U,H,I,h}
def af (h1:PS X st t) (h2:Em X rest u):Em X (st::rest) (Sb t u):=by
 intro pins s U H D I h;refine wpAny_execs_cons (cM (h1 pins s U H {D with nx:=u D} I h) λf s1 q=>?_);cases f with
 | next=>
  let⟨U',H',I',q⟩:=q;exact h2 pins s1 U' H' D I' q
 | ret v=>exact q
 | brk=>exact q
 | cont=>exact q
def ak (h1:PS X st t):Em X [st] t:=by
 intro pins s U H D I h;refine wpAny_execs_cons (cM (h1 pins s U H D I h) λf s1 q=>?_);cases f with
 | next=>exact wy q
 | ret v=>exact q
 | brk=>exact q
 | cont=>exact q
def Inv.quiet (I:Inv X pins U H s):interactive X.env=false:=by simp[interactive,I.ok.kind]
def Ry (te:TE):TS:=λD U H=>te U H λ_ H1=>D.nx U H1
def bG (he:PE X e te) (hs:swapsWith e none pos.line X.env=pure false<|>qe_):PS X (.Expr e pos) (Ry te):=by
 intro pins s U H D I h;exact wpAny_Expr_any (cM (he pins s U H _ I h) λv s1 ⟨x,H1,I1,r1,q1⟩=>{U,H1,I1,q1}) I.quiet hs
def Sd (te:TE):TS:=λD U H=>te U H D.rt
def aq (he:PE X e te):PS X (.Return (some e) pos) (Sd te):=by
 intro pins s U H D I h;exact wpAny_Return_some (cM (he pins s U H _ I h) λv s1 ⟨x,H1,I1,r1,q1⟩=>{x,U,H1,I1,r1,q1})
def Qg (c:TT) (t u:TS):TS:=λD U H=>c U H λb H1=>if b=true then t D U H1 else u D U H1
def aI (hc:PT X c tc) (ha:Em X a t) (hb:Em X b u):PS X (.If c a b pos) (Qg tc t u):=by
 intro pins s U H D I h;refine wpAny_If (cM (hc pins s U H _ I h) λd s1 ⟨H1,I1,q1⟩=>?_);cases d with
 | true=>exact ha pins s1 U H1 D I1 q1
 | false=>exact hb pins s1 U H1 D I1 q1
def Sf:TS:=λ_ _ _=>False
def Ot:PS X st Sf:=λ_ _ _ _ _ _ h=>h.elim
end
abbrev TG:=V->St->Hp->(St->Hp->Prop)->Prop
abbrev U9:=List V->St->Hp->(St->Hp->Prop)->Prop
def PG (X:Cx) (target:Expr) (t:TG):Prop:=
 ∀(pins:List (vF×Obj)) (s:vA) (U:St) (H:Hp) (v:V) (u:vz) (Q:St->Hp->Prop),Inv X pins U H s->RelV v u->t v U H Q->
  wpAny (model X.prog X.w) X.A (assign target X.env u) (λ_ s'=>∃U' H',Inv X pins U' H' s'/\Q U' H') X.xe s
def Vy (X:Cx) (ts:List Expr) (t:U9):Prop:=
 ∀(pins:List (vF×Obj)) (s:vA) (U:St) (H:Hp) (vs:List V) (us:List vz) (Q:St->Hp->Prop),Inv X pins U H s->Vals vs us->t vs U H Q->
  wpAny (model X.prog X.w) X.A (assignInOrder ((assignEach ts X.env).map (·.2)) us) (λ_ s'=>∃U' H',Inv X pins U' H' s'/\Q U' H') X.xe s
abbrev TR:=V->V->V->Hp->(Hp->Prop)->Prop
def Vc (X:Cx) (t:TR):Prop:=
 ∀(pins:List (vF×Obj)) (s:vA) (U:St) (H:Hp) (o i v:V) (ov iv u:vz) (Q:Hp->Prop),Inv X pins U H s->RelV o ov->RelV i iv->RelV v u->t o i v H Q->
  wpAny (model X.prog X.w) X.A (setItem ov iv u) (λ_ s'=>∃H',Inv X pins U H' s'/\Q H') X.xe s
section
variable {X:Cx} {pos:Pos}
def bO (i:Nat):TG:=λv U H Q=>Q (U.set i (some v)) H
def La (hN:X.N.Nodup) (hi:X.N[i]?=some x) (hx:Loc X.env.scope x) (hf:X.fn x=true\/X.env.scope.names.lookup x=some .local<|>qa_):PG X (.Name x pos) (bO i):=by
 intro pins s U H v u Q I r h;exact wpAny_assign_Name (mL I hN hi hx r (λs' I'=>{_,H,I',h}) hf)
def CS:U9:=λvs U H Q=>vs=[]/\Q U H
def eK (t:TG) (u:U9):U9:=λvs U H Q=>∃v r,vs=v::r/\t v U H λU' H'=>u r U' H' Q
def cJ:Vy X [] CS:=by
 intro pins s U H vs us Q I r h;let⟨e,h⟩:=h;subst e;cases r;exact assignInOrder_nil {U,H,I,h}
def aK (h1:PG X e t) (h2:Vy X es u)
  (hs:(assignEach (e::es) X.env).map (·.2)=assign e X.env::(assignEach es X.env).map (·.2)<|>qe_):Vy X (e::es) (eK t u):=by
 intro pins s U H vs us Q I r h;let⟨v,vr,e1,h⟩:=h;subst e1;cases r with
 | cons r rr=>
  rw[hs];refine assignInOrder_cons (cM (h1 pins s U H _ _ _ I r h) λ_ s1 ⟨σ1,H1,I1,q1⟩=>?_);exact h2 pins s1 σ1 H1 _ _ Q I1 rr q1
def CQ (K:yB) (n:Nat) (t:U9):TG:=λv U H Q=>∃a xs,v=.ref a/\cU K H a xs/\⇑xs=n/\t xs U H Q
def dz (hc:X.calm=true) (h:Vy X es t)
  (hn:⇑(assignEach es X.env)=n<|>qe_) (hst:(assignEach es X.env).findIdx? (·.1)=none<|>qe_):PG X (.Tuple es k pos) (CQ X.K n t):=by
 intro pins s U H v u Q I r hw;let⟨a,xs,e1,hq,hl,hw⟩:=hw;subst e1;cases r;let⟨its,rv,ht,hz⟩:=I.tuple hq;refine assign_Tuple_tuple (I.ok.hd hc) ht (by simp[hn,<-hl,⇑rv]) hst λh' hx=>?_;let I1:Inv X pins U H {s with heap:=h'}:=I.kept (t':=s.toks) λb o e=>hx b o (yj (yy e)) e;exact h pins _ U H xs _ Q I1 (by simpa using rv) hw
def UW (to ti:TE) (t:TR):TG:=λv U H Q=>to U H λo H1=>ti U H1 λi H2=>t o i v H2 λH3=>Q U H3
def SJ {o i:Expr} {to ti:TE} {t:TR} (ho:PE X o to) (hi:PE X i ti) (hs:Vc X t)
  (ha:(∀v,assign (.Subscript o i pos) X.env v=(do
   let ov <-holding [v] (eval o X.env)
   let iv <-holding [v,ov] (eval i X.env)
   standAt pos
   holding [v,ov,iv] (setItem ov iv v)
   release [v,ov,iv] []))<|>qd_):PG X (.Subscript o i pos) (UW to ti t):=by
 intro pins s U H v u Q I r h;rw[ha];refine yu (xJ (cM (ho pins s U H _ I h) λov s1 zz=>?_));let⟨x,H1,I1,r1,q1⟩:=zz;refine yu (xJ (cM (hi pins s1 U H1 _ I1 q1) λiv s2 zz=>?_));let⟨y,H2,I2,r2,q2⟩:=zz;refine yu (wpAny_standAt (yu (xJ (cM (hs pins s2 U H2 x y v ov iv u _ I2 r1 r2 r q2) λ_ s3 ⟨H3,I3,q3⟩=>?_))));exact wpAny_release {U,H3,I3,q3}
def Ca (te:TE) (g:TG):TS:=λD U H=>te U H λx H1=>g x U H1 D.nx
def SG {tg e:Expr} {te:TE} {g:TG} (he:PE X e te) (hg:PG X tg g) (hs:swapsWithSole [tg] e pos.line X.env=pure false<|>qe_) (hw:swappedStores [tg] e X.env=pure none<|>qe_)
  (h1:(assignEach [tg] X.env).map (·.2)=[assign tg X.env]<|>qe_):PS X (.Assign [tg] e pos) (Ca te g):=by
 intro pins s U H D I h;refine wpAny_Assign_stores (cM (he pins s U H _ I h) λv s1 ⟨x,H1,I1,r1,q1⟩=>?_) hs hw;rw[h1];exact cM (hg pins s1 U H1 x v _ I1 r1 q1) λ_ s2 q=>q
def Oo (hN:X.N.Nodup) (hi:X.N[i]?=some x) (hx:Loc X.env.scope x) (he:PE X e te) (hs:swapsWith e (some (.Name x pos')) pos.line X.env=pure false<|>qe_) (hf:X.fn x=true\/X.env.scope.names.lookup x=some .local<|>qa_) :
  PS X (.Assign [.Name x pos'] e pos) (Ca te (bO i)):=by
 intro pins s U H D I h;refine wpAny_Assign_Name (cM (he pins s U H _ I h) λv s1 ⟨y,H1,I1,r1,q1⟩=>?_) hs;exact mL I1 hN hi hx r1 (λs2 I2=>{_,H1,I2,q1}) hf
def V2 (i j:Nat) (ta:TA):TS:=λD U H=>ta U H λvs H1=>∃v w,vs=[v,w]/\D.nx ((U.set i (some v)).set j (some w)) H1
def Oq (hc:X.calm=true) (hN:X.N.Nodup) (hi:X.N[i]?=some x) (hj:X.N[j]?=some y) (hij:i≠j)
  (hx:X.env.scope.names.lookup x=some .local) (hy:X.env.scope.names.lookup y=some .local) (ha:PA X [a,b] ta)
  (hw:swappedStores [.Tuple [.Name x px,.Name y py] kt pt] (.Tuple [a,b] k2 pt2) X.env=pure (some [x,y]))
  (hs:swapsWithSole [.Tuple [.Name x px,.Name y py] kt pt] (.Tuple [a,b] k2 pt2) pos.line X.env=pure false<|>qe_) :
  PS X (.Assign [.Tuple [.Name x px,.Name y py] kt pt] (.Tuple [a,b] k2 pt2) pos) (V2 i j ta):=by
 intro pins s U H D I h;rw[exec_Assign_arm];refine yu (wpAny_standAt ?_);rw[hs];refine yu (yw ?_);rw[yN ∅];refine yu (Tuple_ (cM (ha _ pins s U H _ I h) λus s1 zz=>?_));let⟨vs,H1,I1,r1,q1⟩:=zz;let⟨v,w,e1,q1⟩:=q1;subst e1;obtain⟨u1,u2,rfl,rv,rw'⟩:∃u1 u2,us=[u1,u2]/\RelV v u1/\RelV w u2:=by
  cases r1 with
  | cons p q=>
   cases q with
   | cons p' q'=>
    cases q';exact{_,_,rfl,p,p'}
 refine xf ?_ (by show 2<=sizeLine;decide);let I2:Inv X pins U H1 {s1 with heap:=s1.heap.push {cls:=.type "tuple",data:=.seq [u1,u2].toArray}}:=I1.kept (t':=s1.toks) λb o e=>yv _ e;rw[hw];refine yu (yw ?_);show wpAny (model X.prog X.w) X.A (do rule "assign.swapped-stores";let items <-unpackItems (.ref ↑s1) 2 none;assignInOrder [λv=>bindName X.env y v,λv=>bindName X.env x v] items.reverse;pure Flow.next) _ _ _;refine yu (wpAny_rule (yu (unpackItems_tuple (items:=#[u1,u2]) (I.ok.hd hc) (IsTup.new s1.heap _) λh' hx'=>?_)));let I3:=I2.kept (h':=h') (t':=s1.toks) λb o e=>hx' b o (yj (yy e)) e;show wpAny _ _ (assignInOrder [λv=>bindName X.env y v,λv=>bindName X.env x v] [u2,u1] >>= λ_=>pure Flow.next) _ _ _;refine yu (assignInOrder_cons (wpAny_bindName (mL I3 hN hj (.inl hy) rw' (λs2 I4=>?_) (.inr hy))));refine assignInOrder_cons (wpAny_bindName (mL I4 hN hi (.inl hx) rv (λs3 I5=>assignInOrder_nil (yw ?_)) (.inr hx)));rw[List.set_comm _ _ (Ne.symm hij)] at I5;exact{_,H1,I5,q1}
end
section
variable {X:Cx} {pos:Pos}
def NN (c:TT) (tb:TS):TS:=λD U H=>∃W:Nat->St->Hp->Prop,(∃m,W m U H)/\∀m U H,W m U H->
 c U H λb H1=>if b=true then∃N:St->Hp->Prop,(∀U' H',N U' H'->∃m',m'<m/\W m' U' H')/\tb {D with nx:=N,ct:=N,bk:=D.nx} U H1 else D.nx U H1
def qB (hp:PassesOwn (model X.prog X.w) X.A X.env X.xe) (hc:PT X c tc) (hb:Em X body tb):PS X (.While c body [] pos) (NN tc tb):=by
 intro pins s U H D I h;let⟨W,⟨m0,w0⟩,turn⟩:=h;refine wpAny_While (codeAny_whileLoop (λn s'=>∃U' H',Inv X pins U' H' s'/\W n U' H') ?_ m0 {U,H,I,w0});rintro n s1 ⟨σ1,H1,I1,w1⟩;refine xW hp (cM (hc pins s1 σ1 H1 _ I1 (turn n σ1 H1 w1)) λb s2 ⟨H2,I2,q2⟩=>?_);cases b with
 | true=>
  let⟨N,hN,q2⟩:=q2;rw[yO rfl];refine xW hp (cM (hb pins s2 σ1 H2 _ I2 q2) λf s3 q3=>?_);cases f with
  | next=>
   let⟨σ3,H3,I3,n3⟩:=q3;let⟨m',hm,w3⟩:=hN σ3 H3 n3;exact{m',hm,σ3,H3,I3,w3}
  | cont=>
   let⟨σ3,H3,I3,n3⟩:=q3;let⟨m',hm,w3⟩:=hN σ3 H3 n3;exact{m',hm,σ3,H3,I3,w3}
  | brk=>exact q3
  | ret v=>exact q3
 | false=>
  rw[yN zL];exact wy {σ1,H2,I2,q2}
end
structure It where
 go:Nat->Hp->Prop
 Jg:Nat->Hp->V->Hp->Prop
 stop:Nat->Hp->Prop
def pN (X:Cx) (pins:List (vF×Obj)) (H:Hp) (b:vF):Prop:=
 H b=none/\b≠X.env.locals/\b∉X.fs/\(b∈X.ex\/X.s₀.heap.objs.size<=b)/\(∀x c,X.env.cells.lookup x=some c->c≠b)/\∀p∈X.pn++pins,p.1≠b
def Inv.uT (I:Inv X pins U H s) (hb:↑s<=b) (hn:H' b=none):pN X pins H' b:=by
 refine{hn,yi (yc I.lt hb),I.UG hb,.inr (zM I.sz hb),λx c e z=>?_,λp hp z=>?_}
 ·let⟨v,q⟩:=I.cell x c e
  exact absurd (yc q.lt (by rw[z];exact hb)) (yf _)
 ·exact absurd (yc (yy (I.pin p hp).1) (by rw[z];exact hb)) (yf _)
structure Turn (P:vB) (w:vC) (K:yB) (tg:Expr) (J:It) (fp:List vF) (it:vF) (tn:Nat->vG->Prop):Prop where
 mem:it∈fp
 obj:∀i h,tn i h->∀b∈fp,∃o,h.get? b=some o/\∀v,o.data≠.cell v
 keep:∀i h h',tn i h->(∀b∈fp,∀o,h.get? b=some o->h'.get? b=some o)->tn i h'
 item:∀(X:Cx),X.prog=P->X.w=w->X.K=K->X.calm=true->∀(i:Nat) (pins:List (vF×Obj)) (s:vA) (U:St) (H:Hp) (E:vz->vA->Prop),Inv X pins U H s->(∀b∈fp,pN X pins H b)->tn i s.heap->J.go i H->
  wpAny (model P w) X.A (pyNext (.ref it)) (λr s1=>∃u,r=some u/\
   wpAny (model P w) X.A (letOwnedTupleGo tg (.ref it) u) (λ_ s2=>∃x H',Inv X pins U H' s2/\RelV x u/\J.Jg i H x H'/\tn (i+1) s2.heap/\∀b∈fp,H' b=none) E s1) E s
 done:∀(X:Cx),X.prog=P->X.w=w->X.K=K->X.calm=true->∀(i:Nat) (pins:List (vF×Obj)) (s:vA) (U:St) (H:Hp) (E:vz->vA->Prop),Inv X pins U H s->(∀b∈fp,pN X pins H b)->tn i s.heap->J.stop i H->
  wpAny (model P w) X.A (pyNext (.ref it)) (λr s1=>r=none/\Inv X pins U H s1) E s
 self:∀(A:vD) (i:Nat) (s:vA) (Q:vz->vA->Prop) (E:vz->vA->Prop),tn i s.heap->Q (.ref it) s->wpAny (model P w) A (pyIter (.ref it)) Q E s
abbrev TI:=St->Hp->(It->Hp->Prop)->Prop
def WO (X:Cx) (pins:List (vF×Obj)) (U:St) (tg:Expr) (R:It->Hp->Prop) (itv:vz) (s2:vA):Prop:=
 ∃(it:vF) (fp:List vF) (tn:Nat->vG->Prop) (J:It) (H':Hp),itv=.ref it/\Inv X pins U H' s2/\Turn X.prog X.w X.K tg J fp it tn/\tn 0 s2.heap/\(∀b∈fp,pN X pins H' b)/\R J H'
def PI (X:Cx) (tg iter:Expr) (wi:TI):Prop:=
 ∀(pins:List (vF×Obj)) (s:vA) (U:St) (H:Hp) (R:It->Hp->Prop),Inv X pins U H s->wi U H R->
  wpAny (model X.prog X.w) X.A (eval iter X.env) (λv s1=>wpAny (model X.prog X.w) X.A (pyIter v) (WO X pins U tg R) X.xe s1) X.xe s
def DW (ho:s.heap.get? it=some o) (hc:o.cls=.type n) (hd:o.data=.fields vs)
    (hn:["enumerate","zip","dict_itemiterator","dict_reverseitemiterator","odict_iterator","itertools.zip_longest","itertools.pairwise"].contains n=false) (hQ:Q .unit s):wpAny M A (letOwnedTupleGo tg (.ref it) u) Q E s:=by
  unfold letOwnedTupleGo;cases tg <;> first
    | exact yw hQ
    | (cases u <;> first
        | exact yw hQ
        | (refine yu (wpAny_load ho ?_)
           rw[hc,hd];show wpAny M A (if(["enumerate","zip","dict_itemiterator","dict_reverseitemiterator","odict_iterator","itertools.zip_longest","itertools.pairwise"].contains n&&vs[0]? == some (rawInt _))=true then _ else _) Q E s;rw[yN (by intro h;rw[hn,yU] at h;cases h)];exact yw hQ))
def Jd (K:yB) (a:vF):It:=
 {λi H=>∃xs x,aH K H a xs/\xs[i]?=some x,λi H x H'=>H'=H/\∀xs,aH K H a xs->xs[i]?=some x,λi H=>∃xs,aH K H a xs/\⇑xs<=i}
def P9 (K:yB) (a:vF):It:=
 {λi H=>∃xs x,cU K H a xs/\xs[i]?=some x,λi H x H'=>H'=H/\∀xs,cU K H a xs->xs[i]?=some x,λi H=>∃xs,cU K H a xs/\⇑xs<=i}
def LI (lo:Int) (n:Nat):It:={λi _=>i<n,λi H x H'=>H'=H/\x=.int (lo+i),λi _=>n<=i}
def LQ {P:vB} {w:vC} {K:yB} {tg:Expr} (a it:vF):Turn P w K tg (Jd K a) [it] it (λi h=>h.IsListIter it a i) where
 mem:=by simp
 obj:=λi h st b hb=>by
  let e:b=it:=by simpa using hb
  subst e;let⟨o,e,c,d⟩:=st;exact{o,e,λv z=>by rw[d] at z;cases z}
 keep:=λi h h' st k=>st.at λo e=>k it (by simp) o e
 item:=by
  intro X hP hw hK hc i pins s U H E I hf st hg;subst hP hw hK;let⟨xs,x,hq,hx⟩:=hg;let⟨its,rv,p,hz⟩:=I.list hq;let⟨u,hu,ru⟩:=rv.get hx;let⟨f0,f1,f2,f3,f4,f5⟩:=hf it (by simp);refine wpAny_pyNext_list_item st p.isList (x:=u) (by simpa using hu) λh' st' sb=>?_;let I1:Inv X pins U H {s with heap:=h'}:=I.turned (t':=s.toks) (λb o hb e=>(sb.2 b hb).trans e) f0 f1 f3 f4 f5;let⟨o,e,c,d⟩:=id st';exact{u,rfl,DW (s:={s with heap:=h'}) e c d ∅ {x,H,I1,ru,{rfl,λys hy=>by rw[I.Ba hy hq];exact hx},st',λb hb=>(hf b hb).1}}
 done:=by
  intro X hP hw hK hc i pins s U H E I hf st hg;subst hP hw hK;let⟨xs,hq,hx⟩:=hg;let⟨its,rv,p,hz⟩:=I.list hq;let⟨f0,f1,f2,f3,f4,f5⟩:=hf it (by simp);let hl:=⇑rv;exact wpAny_pyNext_list_end (I.ok.hd hc) st p.isList (by simp;ext) λh' eb=>{rfl,I.turned (t':=s.toks) (λb o hb e=>eb b o hb e) f0 f1 f3 f4 f5}
 self:=λ_ _ _ _ _ st h=>wpAny_pyIter_listiter st h
def Jl {P:vB} {w:vC} {K:yB} {tg:Expr} (a it:vF):Turn P w K tg (P9 K a) [it] it (λi h=>h.IsTupleIter it a i) where
 mem:=by simp
 obj:=λi h st b hb=>by
  let e:b=it:=by simpa using hb
  subst e;let⟨o,e,c,d⟩:=st;exact{o,e,λv z=>by rw[d] at z;cases z}
 keep:=λi h h' st k=>st.at λo e=>k it (by simp) o e
 item:=by
  intro X hP hw hK hc i pins s U H E I hf st hg;subst hP hw hK;let⟨xs,x,hq,hx⟩:=hg;let⟨its,rv,p,hz⟩:=I.tuple hq;let⟨u,hu,ru⟩:=rv.get hx;let⟨f0,f1,f2,f3,f4,f5⟩:=hf it (by simp);refine wpAny_pyNext_tuple_item st (show s.heap.IsTuple a its.toArray from p) (x:=u) (by simpa using hu) λh' st' sb=>?_;let I1:Inv X pins U H {s with heap:=h'}:=I.turned (t':=s.toks) (λb o hb e=>(sb.2 b hb).trans e) f0 f1 f3 f4 f5;let⟨o,e,c,d⟩:=id st';exact{u,rfl,DW (s:={s with heap:=h'}) e c d ∅ {x,H,I1,ru,{rfl,λys hy=>by rw[I.Dv hy hq];exact hx},st',λb hb=>(hf b hb).1}}
 done:=by
  intro X hP hw hK hc i pins s U H E I hf st hg;subst hP hw hK;let⟨xs,hq,hx⟩:=hg;let⟨its,rv,p,hz⟩:=I.tuple hq;let⟨f0,f1,f2,f3,f4,f5⟩:=hf it (by simp);let hl:=⇑rv;exact wpAny_pyNext_tuple_end (I.ok.hd hc) st (show s.heap.IsTuple a its.toArray from p) (by simp;ext) λh' eb=>{rfl,I.turned (t':=s.toks) (λb o hb e=>eb b o hb e) f0 f1 f3 f4 f5}
 self:=λ_ _ _ _ _ st h=>wpAny_pyIter_tupleiter st h
def Jm {P:vB} {w:vC} {K:yB} {tg:Expr} (it:vF) (lo:Int) (n:Nat):Turn P w K tg (LI lo n) [it] it (λi h=>IsRangeIter h it (lo+(i:Nat)*1) ((n:Int)-(i:Nat)) 1) where
 mem:=by simp
 obj:=λi h st b hb=>by
  let e:b=it:=by simpa using hb
  subst e;exact{_,st,λv z=>by
   let z':Data.fields _=Data.cell v:=z;cases z'}
 keep:=λi h h' st k=>k it (by simp) _ st
 item:=by
  intro X hP hw hK hc i pins s U H E I hf st hg;subst hP hw hK;let⟨f0,f1,f2,f3,f4,f5⟩:=hf it (by simp);let W:=Walks.range (prog:=X.prog) (w:=X.w) (I.ok.hd hc) it lo 1 n;refine W.item i s _ _ hg st λv h' tk hv st' kk=>?_;let⟨t,rfl⟩:=hv;let I1:Inv X pins U H {s with heap:=h',toks:=tk}:=I.turned (λb o hb e=>kk b o (by simpa using hb) e) f0 f1 f3 f4 f5;refine{_,rfl,DW (s:={s with heap:=h',toks:=tk}) (n:="range_iterator") st' rfl rfl ∅ {.int (lo+i),H,I1,{t,?_},{(rfl),rfl},st',λb hb=>(hf b hb).1}};rw[Int.mul_one]
 done:=by
  intro X hP hw hK hc i pins s U H E I hf st hg;subst hP hw hK;let⟨f0,f1,f2,f3,f4,f5⟩:=hf it (by simp);exact wpAny_pyNext_range_end (I.ok.hd hc) st (by have:n<=i:=hg;ext) λh' eb=>{rfl,I.turned (t':=s.toks) (λb o hb e=>eb b o hb e) f0 f1 f3 f4 f5}
 self:=λ_ _ _ _ _ st h=>wpAny_pyIter_rangeiter st h
end L2
namespace L2
open PySem PySem.Spec PyProof.Rows
section
variable {X:Cx} {tg:Expr}
def Lk (K:yB) (tl:TE):TI:=λU H R=>tl U H λx H1=>∃a,x=.ref a/\(∃xs,aH K H1 a xs)/\R (Jd K a) H1
def Wq (K:yB) (tl:TE):TI:=λU H R=>tl U H λx H1=>∃a,x=.ref a/\(∃xs,cU K H1 a xs)/\R (P9 K a) H1
def bf {l:Expr} {tl:TE} (hl:PE X l tl):PI X tg l (Lk X.K tl):=by
 intro pins s U H R I h;refine cM (hl pins s U H _ I h) λv s1 zz=>?_;let⟨x,H1,I1,r1,q1⟩:=zz;let⟨a,e,⟨xs,hq⟩,q⟩:=q1;subst e;cases r1;let⟨its,rv,p,hz⟩:=I1.list hq;refine wL p.isList ?_;refine{↑s1,[↑s1],_,_,H1,rfl,I1.kept (t':=s1.toks) λb o e=>yv _ e,LQ a _,{_,yx _ rfl,rfl,rfl},λb hb=>?_,q};let e:b=↑s1:=by simpa using hb
 subst e;exact I1.uT (zm _) (I1.bZ.fresh (zm _))
def iW {l:Expr} {tl:TE} (hl:PE X l tl):PI X tg l (Wq X.K tl):=by
 intro pins s U H R I h;refine cM (hl pins s U H _ I h) λv s1 zz=>?_;let⟨x,H1,I1,r1,q1⟩:=zz;let⟨a,e,⟨xs,hq⟩,q⟩:=q1;subst e;cases r1;let⟨its,rv,p,hz⟩:=I1.tuple hq;refine wpAny_pyIter_tuple (show s1.heap.IsTuple a its.toArray from p) ?_;refine{↑s1,[↑s1],_,_,H1,rfl,I1.kept (t':=s1.toks) λb o e=>yv _ e,Jl a _,{_,yx _ rfl,rfl,rfl},λb hb=>?_,q};let e:b=↑s1:=by simpa using hb
 subst e;exact I1.uT (zm _) (I1.bZ.fresh (zm _))
def Hj {pins:List (vF×Obj)} {U:St} {H:Hp} {s:vA} {R:It->Hp->Prop} {E:vz->vA->Prop} {lo hi:Int} {t u v:Tok} {tk:Nat} (I:Inv X pins U H s) (h1:-(2^62)<=lo) (h2:lo<2^62) (h3:-(2^62)<=hi) (h4:hi<2^62)
  (q:R (LI lo (hi-lo).toNat) H):wpAny (model X.prog X.w) X.A (pyIter (.ref ↑s)) (WO X pins U tg R) E {s with heap:=s.heap.push {cls:=.type "range",data:=.fields #[.int lo t,.int hi u,.int 1 v]},toks:=tk}:=by
 refine wpAny_pyIter_range (IsRange.new ..) (small_one h1 h2 h3 h4) ?_;let I1:Inv X pins U H {s with heap:=s.heap.push {cls:=.type "range",data:=.fields #[.int lo t,.int hi u,.int 1 v]},toks:=tk}:=I.kept λb o e=>yv _ e;refine{(s.heap.push {cls:=.type "range",data:=.fields #[.int lo t,.int hi u,.int 1 v]}).objs.size,[(s.heap.push {cls:=.type "range",data:=.fields #[.int lo t,.int hi u,.int 1 v]}).objs.size],_,_,H,rfl,
  I1.kept (t':=tk) λb o e=>yv _ e,Jm _ lo (hi-lo).toNat,?_,λb hb=>?_,q}
 ·let e1:lo+((0:Nat):Int)*1=lo:=by simp
  let e2:(((hi-lo).toNat:Nat):Int)-((0:Nat):Int)=Builtin.Range.rangeSize lo hi 1:=by rw[rangeSize_one];split <;> ext
  show IsRangeIter _ _ (lo+((0:Nat):Int)*1) ((((hi-lo).toNat:Nat):Int)-((0:Nat):Int)) 1;rw[e1,e2];exact yx _ rfl
 ·let e:b=(s.heap.push {cls:=.type "range",data:=.fields #[.int lo t,.int hi u,.int 1 v]}).objs.size:=by simpa using hb
  subst e;exact I1.uT (zm _) (I1.bZ.fresh (zm _))
def O3 (ta:TA):TI:=λU H R=>ta U H λvs H1=>∃j:Int,vs=[.int j]/\-(2^62)<=j/\j<2^62/\R (LI 0 j.toNat) H1
def US (ta:TA):TI:=λU H R=>ta U H λvs H1=>∃i j:Int,vs=[.int i,.int j]/\(-(2^62)<=i/\i<2^62/\-(2^62)<=j/\j<2^62)/\R (LI i (j-i).toNat) H1
def dj {a:Expr} {ta:TA} {p pos:Pos} (hg:Gl X "range") (hm:X.mg "range"= none) (ha:PA X [a] ta) (hs:starEach [a] X.env=[(false,eval a X.env)]<|>qe_):PI X tg (.Call (.Name "range" p) [a] [] pos) (O3 ta):=by
 intro pins s U H R I h;refine Call_ (jd I hg hm boot_range (yM (cM (ha pos pins s U H _ I h) λus s1 ⟨vs,H1,I1,r1,q1⟩=>?_) hs rfl));let⟨j,e,q1,q2,q⟩:=q1;subst e;cases r1 with
 | cons r rr=>
  cases rr;let⟨t,rfl⟩:=r;exact call_range_1 (Hj I1 () () q1 q2 (by simpa using q))
def nJ (hg:Gl X "range") (hm:X.mg "range"= none) (ha:PA X [a,b] ta) (hs:starEach [a,b] X.env=[(false,eval a X.env),(false,eval b X.env)]<|>qe_) (hs2:starEach [b] X.env=[(false,eval b X.env)]<|>qe_) :
  PI X tg (.Call (.Name "range" p) [a,b] [] pos) (US ta):=by
 intro pins s U H R I h;refine Call_ (jd I hg hm boot_range (yM (cM (ha pos pins s U H _ I h) λus s1 ⟨vs,H1,I1,r1,q1⟩=>?_) (by rw[hs,hs2]) (by rw[hs2];rfl)));let⟨i,j,e,⟨q1,q2,q3,q4⟩,q⟩:=q1;subst e;cases r1 with
 | cons r rr=>
  cases rr with
  | cons r' rr=>
   cases rr;let⟨t,rfl⟩:=r;let⟨t',rfl⟩:=r';exact call_range_2 (Hj I1 q1 q2 q3 q4 q)
def Si (wi:TI) (g:TG) (tb:TS):TS:=λD U H=>wi U H λJ H1=>∃W:Nat->Nat->St->Hp->Prop,(∃m,W 0 m U H1)/\∀i m U H,W i m U H->
 (J.stop i H/\D.nx U H)\/(J.go i H/\∃N:St->Hp->Prop,(∀U' H',N U' H'->∃m',m'<m/\W (i+1) m' U' H')/\∀x H',J.Jg i H x H'->g x U H' λσ2 H2=>tb {D with nx:=N,ct:=N,bk:=D.nx} σ2 H2)
def sE (fp:List vF) (h:vG):List (vF×Obj):=fp.filterMap λb=>(h.get? b).map λo=>(b,o)
def gg (hb:b∈fp) (e:h.get? b=some o):(b,o)∈sE fp h:=vq.mpr {b,hb,by rw[e];rfl}
def Mt (hp:p∈sE fp h):p.1∈fp/\h.get? p.1=some p.2:=by
 let⟨b,hb,e⟩:=vq.mp hp;cases q:h.get? b with
 | none=>rw[q] at e;cases e
 | some o=>
  rw[q] at e;let e':(b,o)=p:=yk e;subst e';exact{(hb),q}
def Inv.pinned (I:Inv X pins U H s) (hf:∀b∈fp,pN X pins H b) (ho:∀b∈fp,∃o,s.heap.get? b=some o/\∀v,o.data≠.cell v):Inv X (pins++sE fp s.heap) U H s:=
 I.nI λp hp=>(zG.mp hp).elim (λz=>I.pin p (zI _ z)) λz=>by
  let⟨hb,e⟩:=Mt z;let⟨f0,f1,f2,_⟩:=hf p.1 hb;let⟨o,e',d⟩:=ho p.1 hb;rw[e] at e';cases e';exact{(e),f0,f1,f2,d}
def Inv.Ae (I:Inv X (pins++pl) U H s):Inv X pins U H s:=I.nI λp hp=>I.pin p (zI _ (zJ _ hp))
def cj (hp:PassesOwn (model X.prog X.w) X.A X.env X.xe) (hc:X.calm=true) (hi:PI X tg iter wi) (hg:PG X tg g) (hb:Em X body tb)
  (hs:(∀x,foldedSetIterable iter X.env x=pure x)<|>qd_):PS X (.For tg iter body [] pos) (Si wi g tb):=by
 intro pins s U H D I h;refine wpAny_For (cM (hi pins s U H _ I h) λv s1 h1=>cM h1 λitv s2 h2=>?_) hs;let⟨it,fp,tn,J,H2,e,I2,T,st2,f2,W,⟨m0,w0⟩,turn⟩:=h2;subst e;let stat:∀{H':Hp},(∀b∈fp,H' b=none)->∀b∈fp,pN X pins H' b:=λhn b hb=>{hn b hb,(f2 b hb).2}
 refine codeAny_forLoop_any (λn s'=>∃i U' H',Inv X pins U' H' s'/\tn i s'.heap/\(∀b∈fp,H' b=none)/\W i n U' H') ?_ m0 {0,U,H2,I2,st2,λb hb=>(f2 b hb).1,w0};rintro n s3 ⟨i,σ3,H3,I3,st3,fr3,w3⟩;rcases turn i n σ3 H3 w3 with⟨stop,qn⟩ | ⟨go,N,hN,step⟩
 ·refine xW hp (cM (T.done X rfl rfl rfl hc i pins s3 σ3 H3 X.xe I3 (stat fr3) st3 stop) λr s4 ⟨hr,I4⟩=>?_)
  subst hr;exact wy {σ3,H3,I4,qn}
 ·refine xW hp (cM (T.item X rfl rfl rfl hc i pins s3 σ3 H3 X.xe I3 (stat fr3) st3 go) λr s4 ⟨u,hr,h4⟩=>?_)
  subst hr;refine xW hp (cM h4 λ_ s5 zz=>?_);let⟨x,H5,I5,r5,y5,st5,fr5⟩:=zz;let I5':=I5.pinned (stat fr5) (T.obj _ _ st5);refine xW hp (cM (hg _ s5 σ3 H5 x u _ I5' r5 (step x H5 y5)) λ_ s6 ⟨σ6,H6,I6,q6⟩=>?_);refine xW hp (cM (hb _ s6 σ6 H6 _ I6 q6) λf s7 q7=>?_);let again:∀{σ7:St} {H7:Hp},Inv X (pins++sE fp s5.heap) σ7 H7 s7->N σ7 H7->∃m,m<n/\∃i U' H',Inv X pins U' H' s7/\tn i s7.heap/\(∀b∈fp,H' b=none)/\W i m U' H':=λ{σ7 H7} I7 n7=>by
   let⟨m',hm,w7⟩:=hN σ7 H7 n7;refine{m',hm,i+1,σ7,H7,I7.Ae,T.keep _ _ _ st5 λb hb o e=>(I7.pin (b,o) (zI _ (zI _ (gg hb e)))).1,λb hb=>?_,w7};let⟨o,e,d⟩:=T.obj _ _ st5 b hb;exact(I7.pin (b,o) (zI _ (zI _ (gg hb e)))).2.1
  cases f with
  | next=>let⟨σ7,H7,I7,n7⟩:=q7;exact again I7 n7
  | cont=>let⟨σ7,H7,I7,n7⟩:=q7;exact again I7 n7
  | brk=>let⟨σ7,H7,I7,q7⟩:=q7;exact{σ7,H7,I7.Ae,q7}
  | ret v=>let⟨x7,σ7,H7,I7,r7,q7⟩:=q7;exact{x7,σ7,H7,I7.Ae,r7,q7}
end
def fj {K:yB} {a:vF} {xs:List V} {g:TG} {tb:TS} {D:Ends} {U:St} {H:Hp} (Pv:Nat->St->Hp->Prop) (h0:Pv 0 U H) (hl:∀i U H,i<=⇑xs->Pv i U H->aH K H a xs)
  (hs:∀i x U H,xs[i]?=some x->Pv i U H->g x U H λσ2 H2=>tb {D with nx:=Pv (i+1),ct:=Pv (i+1),bk:=D.nx} σ2 H2) (hd:∀U H,Pv ⇑xs U H->D.nx U H) :
  ∃W:Nat->Nat->St->Hp->Prop,(∃m,W 0 m U H)/\∀i m U H,W i m U H->
   ((Jd K a).stop i H/\D.nx U H)\/((Jd K a).go i H/\∃N:St->Hp->Prop,(∀U' H',N U' H'->∃m',m'<m/\W (i+1) m' U' H')/\∀x H',(Jd K a).Jg i H x H'->g x U H' λσ2 H2=>tb {D with nx:=N,ct:=N,bk:=D.nx} σ2 H2):=by
 refine{λi m U H=>m=⇑xs-i/\i<=⇑xs/\Pv i U H,{⇑xs,by simp,yg _,h0},?_};rintro i m U H ⟨rfl,hi,p⟩;let q:=hl i U H hi p
 by_cases hlt:i<⇑xs
 ·refine .inr {{xs,xs[i],q,by simp[hlt]},Pv (i+1),λU' H' p'=>{⇑xs-(i+1),(),rfl,hlt,p'},λx H' y=>?_}
  let⟨e,y⟩:=y;subst e;exact hs i x U _ (y xs q) p
 ·let e:i=⇑xs:=()
  subst e;exact .inl {{xs,q,zm _},hd U H p}
def Ln {K:yB} {a:vF} {xs:List V} {g:TG} {tb:TS} {D:Ends} {U:St} {H:Hp} (Pv:Nat->St->Hp->Prop) (h0:Pv 0 U H) (hl:∀i U H,i<=⇑xs->Pv i U H->cU K H a xs)
  (hs:∀i x U H,xs[i]?=some x->Pv i U H->g x U H λσ2 H2=>tb {D with nx:=Pv (i+1),ct:=Pv (i+1),bk:=D.nx} σ2 H2) (hd:∀U H,Pv ⇑xs U H->D.nx U H) :
  ∃W:Nat->Nat->St->Hp->Prop,(∃m,W 0 m U H)/\∀i m U H,W i m U H->
   ((P9 K a).stop i H/\D.nx U H)\/((P9 K a).go i H/\∃N:St->Hp->Prop,(∀U' H',N U' H'->∃m',m'<m/\W (i+1) m' U' H')/\∀x H',(P9 K a).Jg i H x H'->g x U H' λσ2 H2=>tb {D with nx:=N,ct:=N,bk:=D.nx} σ2 H2):=by
 refine{λi m U H=>m=⇑xs-i/\i<=⇑xs/\Pv i U H,{⇑xs,by simp,yg _,h0},?_};rintro i m U H ⟨rfl,hi,p⟩;let q:=hl i U H hi p
 by_cases hlt:i<⇑xs
 ·refine .inr {{xs,xs[i],q,by simp[hlt]},Pv (i+1),λU' H' p'=>{⇑xs-(i+1),(),rfl,hlt,p'},λx H' y=>?_}
  let⟨e,y⟩:=y;subst e;exact hs i x U _ (y xs q) p
 ·let e:i=⇑xs:=()
  subst e;exact .inl {{xs,q,zm _},hd U H p}
def gi {lo:Int} {n:Nat} {g:TG} {tb:TS} {D:Ends} {U:St} {H:Hp} (Pv:Nat->St->Hp->Prop) (h0:Pv 0 U H)
  (hs:∀i U H,i<n->Pv i U H->g (.int (lo+i)) U H λσ2 H2=>tb {D with nx:=Pv (i+1),ct:=Pv (i+1),bk:=D.nx} σ2 H2) (hd:∀U H,Pv n U H->D.nx U H) :
  ∃W:Nat->Nat->St->Hp->Prop,(∃m,W 0 m U H)/\∀i m U H,W i m U H->
   ((LI lo n).stop i H/\D.nx U H)\/((LI lo n).go i H/\∃N:St->Hp->Prop,(∀U' H',N U' H'->∃m',m'<m/\W (i+1) m' U' H')/\∀x H',(LI lo n).Jg i H x H'->g x U H' λσ2 H2=>tb {D with nx:=N,ct:=N,bk:=D.nx} σ2 H2):=by
 refine{λi m U H=>m=n-i/\i<=n/\Pv i U H,{n,by simp,yg _,h0},?_};rintro i m U H ⟨rfl,hi,p⟩
 by_cases hlt:i<n
 ·refine .inr {hlt,Pv (i+1),λU' H' p'=>{n-(i+1),(),rfl,hlt,p'},λx H' y=>?_}
  let⟨e,y⟩:=y;subst e y;exact hs i U _ hlt p
 ·let e:i=n:=()
  subst e;exact .inl {zm _,hd U H p}
end L2
namespace L2
open PySem PySem.Spec PyProof.Rows
abbrev R2:=V->V->Hp->VK->Prop
def ng (X:Cx) (f:vz->vz->Sem vz) (r:R2):Prop:=
 ∀(pins:List (vF×Obj)) (s:vA) (U:St) (H:Hp) (x y:V) (v u:vz) (Q:VK),Inv X pins U H s->RelV x v->RelV y u->r x y H Q->
  wpAny (model X.prog X.w) X.A (f v u) (EP X pins U Q) X.xe s
def Wz (X:Cx) (f:vz->Sem vz) (r:V->Hp->VK->Prop):Prop:=
 ∀(pins:List (vF×Obj)) (s:vA) (U:St) (H:Hp) (x:V) (v:vz) (Q:VK),Inv X pins U H s->RelV x v->r x H Q->
  wpAny (model X.prog X.w) X.A (f v) (EP X pins U Q) X.xe s
def fk (X:Cx) (f:vz) (r:List V->Hp->VK->Prop):Prop:=
 ∀(pins:List (vF×Obj)) (s:vA) (U:St) (H:Hp) (xs:List V) (us:List vz) (Q:VK),Inv X pins U H s->Vals xs us->r xs H Q->
  wpAny (model X.prog X.w) X.A (call f us) (EP X pins U Q) X.xe s
def e9 (r:R2) (ta tb:TE):TE:=λU H Q=>ta U H λx H1=>tb U H1 λy H2=>r x y H2 Q
def WZ (r:V->Hp->VK->Prop) (ta:TE):TE:=λU H Q=>ta U H λx H1=>r x H1 Q
def rI (C:Int->Int->Prop) (g:Int->Int->V):R2:=λx y H Q=>∃i j,x=.int i/\y=.int j/\C i j/\Q (g i j) H
def rL (g:Int->Int->V):R2:=λx y H Q=>∃i j,x=.int i/\y=.int j/\Q (g i j) H
def rU (g:Int->V):V->Hp->VK->Prop:=λx H Q=>∃i,x=.int i/\Q (g i) H
section
variable {X:Cx} {a b c:Expr} {ta tb tc:TE} {pos:Pos}
def TL (ha:PE X a ta) (hb:PE X b tb) {pins:List (vF×Obj)} {s:vA} {U:St} {H:Hp} {R:V->V->Hp->Prop} (I:Inv X pins U H s)
  (h:ta U H λx H1=>tb U H1 λy H2=>R x y H2) {Q:vz->vA->Prop} {f:vz->vz->Sem vz}
  (hf:∀v u s2 x y H2,Inv X pins U H2 s2->RelV x v->RelV y u->R x y H2->wpAny (model X.prog X.w) X.A (f v u) Q X.xe s2) :
  wpAny (model X.prog X.w) X.A (eval a X.env) (λv s₁=>wpAny (model X.prog X.w) X.A (eval b X.env) (λu s₂=>wpAny (model X.prog X.w) X.A (f v u) Q X.xe s₂) X.xe s₁) X.xe s:=by
 refine cM (ha pins s U H _ I h) λv s1 zz=>?_;let⟨x,H1,I1,r1,q1⟩:=zz;refine cM (hb pins s1 U H1 _ I1 q1) λu s2 zz=>?_;let⟨y,H2,I2,r2,q2⟩:=zz;exact hf v u s2 x y H2 I2 r1 r2 q2
def au {op:Operator} {r:R2} (ho:ng X (binaryOp op) r) (ha:PE X a ta) (hb:PE X b tb):PE X (.BinOp a op b pos) (e9 r ta tb):=by
 intro pins s U H Q I h;exact wpAny_BinOp (TL ha hb I h λv u s2 x y H2 I2 rx ry q=>ho pins s2 U H2 x y v u Q I2 rx ry q)
def oA (ho:Wz X (unaryOp op) r) (ha:PE X a ta):PE X (.UnaryOp op a pos) (WZ r ta):=by
 intro pins s U H Q I h;exact UnaryOp_ (cM (ha pins s U H _ I h) λv s1 ⟨x,H1,I1,r1,q1⟩=>ho pins s1 U H1 x v Q I1 r1 q1)
def T8 {f:vz->vz->Sem vz} {C:Int->Int->Prop} {g:Int->Int->Int}
  (rule:∀(i j:Int) (t u:Tok) (s:vA) (Q:vz->vA->Prop) (E:vz->vA->Prop),C i j->Q (.int (g i j) s.toks) {s with toks:=s.toks+1}->wpAny (model X.prog X.w) X.A (f (.int i t) (.int j u)) Q E s) :
  ng X f (rI C λi j=>.int (g i j)):=by
 intro pins s U H x y v u Q I rx ry h;let⟨i,j,rfl,rfl,hc,q⟩:=h;let⟨t,rfl⟩:=rx;let⟨t',rfl⟩:=ry;exact rule i j t t' s _ _ hc {.int (g i j),H,I.tok _,{_,rfl},q}
def SW {f:vz->vz->Sem vz} {g:Int->Int->Int}
  (rule:∀(i j:Int) (t u:Tok) (s:vA) (Q:vz->vA->Prop) (E:vz->vA->Prop),Q (.int (g i j) s.toks) {s with toks:=s.toks+1}->wpAny (model X.prog X.w) X.A (f (.int i t) (.int j u)) Q E s) :
  ng X f (rL λi j=>.int (g i j)):=by
 intro pins s U H x y v u Q I rx ry h;let⟨i,j,rfl,rfl,q⟩:=h;let⟨t,rfl⟩:=rx;let⟨t',rfl⟩:=ry;exact rule i j t t' s _ _ {.int (g i j),H,I.tok _,{_,rfl},q}
def QN {f:vz->vz->Sem vz} {g:Int->Int->Bool}
  (rule:∀(i j:Int) (t u:Tok) (s:vA) (Q:vz->vA->Prop) (E:vz->vA->Prop),Q (.bool (g i j)) s->wpAny (model X.prog X.w) X.A (f (.int i t) (.int j u)) Q E s) :
  ng X f (rL λi j=>.bl (g i j)):=by
 intro pins s U H x y v u Q I rx ry h;let⟨i,j,rfl,rfl,q⟩:=h;let⟨t,rfl⟩:=rx;let⟨t',rfl⟩:=ry;exact rule i j t t' s _ _ {.bl (g i j),H,I,rfl,q}
def T3 (i j:Int):Prop:=0<j/\j<1073741824
def Nl (i j:Int):Prop:=(-(2^64)<i/\i<2^64)\/(-(2^64)<j/\j<2^64)
def Nl.ok (h:Nl i j):IntMulOk i j:=by
 rcases h with⟨h1,h2⟩ | ⟨h1,h2⟩
 ·exact .of_left (intBits_le_64 h1 h2)
 ·exact .of_right (intBits_le_64 h1 h2)
def Jk (k:Nat):(0:Int)<=2^k:=by
 rw[two_pow_cast];exact Int.natCast_nonneg _
def aT:ng X (binaryOp .Add) (rL λi j=>.int (i+j)):=SW λ_ _ _ _ _ _ _ q=>add_int q
def iX:ng X (binaryOp .Sub) (rL λi j=>.int (i-j)):=SW λ_ _ _ _ _ _ _ q=>sub_int q
def dS:ng X (binaryOp .Mult) (rI Nl λi j=>.int (i*j)):=T8 λ_ _ _ _ _ _ _ hc q=>mul_int q hc.ok
def aV:ng X (binaryOp .FloorDiv) (rI T3 λi j=>.int (i/j)):=T8 λi j _ _ _ _ _ hc q=>by
 let h1:(0:Int)<j:=hc.1;let h2:j<1073741824:=hc.2;exact floordiv_int () (by rw[vt i ()];exact q) (.inl (PyProof.noPylong_small ()))
def aR:ng X (binaryOp .Mod) (rI (λ_ j=>0<j) λi j=>.int (i%j)):=T8 λi j _ _ _ _ _ hc q=>by
 let h1:(0:Int)<j:=hc;exact mod_int' () (by rw[Int.fmod_eq_emod_of_nonneg i ()];exact q)
def SU:ng X (binaryOp .RShift) (rI (λ_ j=>0<=j) λi j=>.int (i/2^j.toNat)):=T8 λi j _ _ _ _ _ hc q=>
 rshift_int hc (by rw[vt i (Jk _)];exact q)
def SV:ng X (binaryOp .BitAnd) (rL λi j=>.int (Builtin.bitAnd i j)):=SW λ_ _ _ _ _ _ _ q=>and_int q
def WY {f:vz->Sem vz} {g:Int->Int}
  (rule:∀(i:Int) (t:Tok) (s:vA) (Q:vz->vA->Prop) (E:vz->vA->Prop),Q (.int (g i) s.toks) {s with toks:=s.toks+1}->wpAny (model X.prog X.w) X.A (f (.int i t)) Q E s) :
  Wz X f (rU λi=>.int (g i)):=by
 intro pins s U H x v Q I rx h;let⟨i,rfl,q⟩:=h;let⟨t,rfl⟩:=rx;exact rule i t s _ _ {.int (g i),H,I.tok _,{_,rfl},q}
def jW:Wz X (unaryOp .USub) (rU λi=>.int (-i)):=WY λ_ _ _ _ _ q=>neg_int q
end
def Qp:V->V->Bool
 | .bH,.bH=>true | .bH,.int _=>true | .int _,.bH=>true | .bH,.bl _=>true | .bl _,.bH=>true | .bH,.str _=>true | .str _,.bH=>true
 | .int _,.int _=>true | .bl _,.bl _=>true | .str _,.str _=>true | .LA _,.LA _=>true
 | .int _,.str _=>true | .str _,.int _=>true | .bl _,.str _=>true | .str _,.bl _=>true
 | _,_=>false
def Wf:R2:=λx y H Q=>Qp x y=true/\Q (.bl (decide (x=y))) H
def Wd:R2:=λx y H Q=>Qp x y=true/\Q (.bl (!decide (x=y))) H
def Fz:decide (V.int i=V.int j)=(i == j):=by
 rw[xO];simp
def Pr:decide (V.bl i=V.bl j)=(i == j):=by
 rw[xO];simp
def Fx:decide (V.str i=V.str j)=(i == j):=by
 rw[xO];simp
def Lu:decide (V.LA i=V.LA j)=(i.toList == j.toList):=by
 rw[xO];cases i;cases j;simp
section
variable {X:Cx} {a b c:Expr} {ta tb tc:TE} {pos:Pos}
def b8 (I:Inv X pins U H s) (q:Q (.bl k) H) (e:k=k'):EP X pins U Q (.bool k') s:=by
 subst e;exact{.bl k,H,I,rfl,q}
def de:ng X (compareOp .Eq) Wf:=by
 intro pins s U H x y v u Q I rx ry h;let⟨hs,q⟩:=h;cases x with
 | bH=>
  cases rx;cases y with
  | bH=>cases ry;exact PySem.EqNone.eq_none_none (b8 I q (by simp))
  | bl j=>cases ry;exact PySem.EqNone.eq_none_bool (b8 I q (by simp))
  | int j=>let⟨t',rfl⟩:=ry;exact PySem.EqNone.eq_none_int (b8 I q (by simp))
  | str j=>let⟨t',rfl⟩:=ry;exact PySem.EqNone.eq_none_str (b8 I q (by simp))
  | _=>exact absurd (show false=true from hs) zL
 | bl i=>
  cases rx;cases y with
  | bH=>cases ry;exact PySem.EqNone.eq_bool_none (b8 I q (by simp))
  | bl j=>cases ry;exact eq_bool (b8 I q Pr)
  | str j=>let⟨t',rfl⟩:=ry;exact PySem.EqMixed.eq_bool_str (b8 I q (by simp))
  | _=>exact absurd (show false=true from hs) zL
 | int i=>
  let⟨t,rfl⟩:=rx;cases y with
  | bH=>cases ry;exact PySem.EqNone.eq_int_none (b8 I q (by simp))
  | int j=>let⟨t',rfl⟩:=ry;exact eq_int (b8 I q Fz)
  | str j=>let⟨t',rfl⟩:=ry;exact PySem.EqMixed.eq_int_str (b8 I q (by simp))
  | _=>exact absurd (show false=true from hs) zL
 | str i=>
  let⟨t,rfl⟩:=rx;cases y with
  | bH=>cases ry;exact PySem.EqNone.eq_str_none (b8 I q (by simp))
  | bl j=>cases ry;exact PySem.EqMixed.eq_str_bool (b8 I q (by simp))
  | int j=>let⟨t',rfl⟩:=ry;exact PySem.EqMixed.eq_str_int (b8 I q (by simp))
  | str j=>let⟨t',rfl⟩:=ry;exact eq_str (b8 I q Fx)
  | _=>exact absurd (show false=true from hs) zL
 | LA i=>
  let⟨t,rfl⟩:=rx;cases y with
  | LA j=>let⟨t',rfl⟩:=ry;exact PySem.W.eq_bytes (b8 I q Lu)
  | _=>exact absurd (show false=true from hs) zL
 | _=>cases y <;> exact absurd (show false=true from hs) zL
def jJ:ng X (compareOp .NotEq) Wd:=by
 intro pins s U H x y v u Q I rx ry h;let⟨hs,q⟩:=h;cases x with
 | bH=>
  cases rx;cases y with
  | bH=>cases ry;exact PySem.EqNone.ne_none_none (b8 I q (by simp))
  | bl j=>cases ry;exact PySem.EqNone.ne_none_bool (b8 I q (by simp))
  | int j=>let⟨t',rfl⟩:=ry;exact PySem.EqNone.ne_none_int (b8 I q (by simp))
  | str j=>let⟨t',rfl⟩:=ry;exact PySem.EqNone.ne_none_str (b8 I q (by simp))
  | _=>exact absurd (show false=true from hs) zL
 | bl i=>
  cases rx;cases y with
  | bH=>cases ry;exact PySem.EqNone.ne_bool_none (b8 I q (by simp))
  | bl j=>cases ry;exact ne_bool (b8 I q (y6 not Pr))
  | str j=>let⟨t',rfl⟩:=ry;exact PySem.EqMixed.ne_bool_str (b8 I q (by simp))
  | _=>exact absurd (show false=true from hs) zL
 | int i=>
  let⟨t,rfl⟩:=rx;cases y with
  | bH=>cases ry;exact PySem.EqNone.ne_int_none (b8 I q (by simp))
  | int j=>let⟨t',rfl⟩:=ry;exact ne_int (b8 I q (y6 not Fz))
  | str j=>let⟨t',rfl⟩:=ry;exact PySem.EqMixed.ne_int_str (b8 I q (by simp))
  | _=>exact absurd (show false=true from hs) zL
 | str i=>
  let⟨t,rfl⟩:=rx;cases y with
  | bH=>cases ry;exact PySem.EqNone.ne_str_none (b8 I q (by simp))
  | bl j=>cases ry;exact PySem.EqMixed.ne_str_bool (b8 I q (by simp))
  | int j=>let⟨t',rfl⟩:=ry;exact PySem.EqMixed.ne_str_int (b8 I q (by simp))
  | str j=>let⟨t',rfl⟩:=ry;exact ne_str (b8 I q (y6 not Fx))
  | _=>exact absurd (show false=true from hs) zL
 | LA i=>
  let⟨t,rfl⟩:=rx;cases y with
  | LA j=>let⟨t',rfl⟩:=ry;exact PySem.W.ne_bytes (b8 I q (y6 not Lu))
  | _=>exact absurd (show false=true from hs) zL
 | _=>cases y <;> exact absurd (show false=true from hs) zL
def fe:ng X (compareOp .Lt) (rL λi j=>.bl (decide (i<j))):=QN λ_ _ _ _ _ _ _ q=>lt_int q
def fO:ng X (compareOp .LtE) (rL λi j=>.bl (decide (i<=j))):=QN λ_ _ _ _ _ _ _ q=>le_int q
def fg:ng X (compareOp .Gt) (rL λi j=>.bl (decide (j<i))):=QN λ_ _ _ _ _ _ _ q=>gt_int q
def Hv:ng X (compareOp .GtE) (rL λi j=>.bl (decide (j<=i))):=QN λ_ _ _ _ _ _ _ q=>ge_int q
def DJ:ng X (compareOp .In) (λx y H Q=>∃i j,x=.str i/\y=.str j/\Q (.bl (!(Builtin.Str.occurrences j i 0 ⇑j 1).isEmpty)) H):=by
 intro pins s U H x y v u Q I rx ry h;let⟨i,j,rfl,rfl,q⟩:=h;let⟨t,rfl⟩:=rx;let⟨t',rfl⟩:=ry;exact in_str (b8 I q rfl)
def gW (b:Expr) (h:op≠.In<|>qb_) (h2:op≠.NotIn<|>qb_):behindInMarks op b=false:=by
 let e1:(op == CmpOp.In)=false:=by cases op <;> first | rfl | exact absurd rfl h
 let e2:(op == CmpOp.NotIn)=false:=by cases op <;> first | rfl | exact absurd rfl h2
 cases b <;> simp[behindInMarks,e1,e2]
def dE (ho:ng X (compareOp op) r) (ha:PE X a ta) (hb:PE X b tb) (hm:behindInMarks op b=false):PE X (.Compare a [op] [b] pos) (e9 r ta tb):=by
 intro pins s U H Q I h;exact wpAny_Compare1 (TL ha hb I h λv u s2 x y H2 I2 rx ry q=>ho pins s2 U H2 x y v u Q I2 rx ry q) hm
def jB (t:TE):TT:=λU H Q=>t U H λx H'=>∃k,x=.bl k/\Q k H'
def hZ (ho:ng X (compareOp op) r) (ha:PE X a ta) (hb:PE X b tb) (hm:behindInMarks op b=false):PT X (.Compare a [op] [b] pos) (jB (e9 r ta tb)):=by
 intro pins s U H Q I h;refine wpAny_isTrue_Compare1 (cM (ha pins s U H _ I h) λv s1 ⟨x,H1,I1,r1,q1⟩=>cM (hb pins s1 U H1 _ I1 q1) λu s2 ⟨y,H2,I2,r2,q2⟩=>
  cM (ho pins s2 U H2 x y v u _ I2 r1 r2 q2) λc s3 ⟨z,H3,I3,r3,k,e,q3⟩=>?_) hm
 subst e;cases r3;exact xi {(H3),I3,q3}
def An (r r':R2) (ta tb tc:TE):TE:=λU H Q=>ta U H λx H1=>tb U H1 λy H2=>r x y H2 λz H3=>∃k,z=.bl k/\
 (if k=true then tc U H3 λw' H4=>r' y w' H4 Q else Q (.bl false) H3)
def Hr (ho:ng X (compareOp op) r) (ho':ng X (compareOp op') r') (ha:PE X a ta) (hb:PE X b tb) (hc:PE X c tc)
  (hm:lastMarks [op,op'] [b,c]=false<|>qf_):PE X (.Compare a [op,op'] [b,c] pos) (An r r' ta tb tc):=by
 intro pins s U H Q I h;refine Compare_chain (cM (ha pins s U H _ I h) λv s1 ⟨x,H1,I1,r1,q1⟩=>chain_link (cM (hb pins s1 U H1 _ I1 q1) λu s2 ⟨y,H2,I2,r2,q2⟩=>
  cM (ho pins s2 U H2 x y v u _ I2 r1 r2 q2) λd s3 ⟨z,H3,I3,r3,k,e,q3⟩=>?_)) hm
 subst e;cases r3;refine xi ?_;cases k with
 | false=>exact ite_ff {.bl false,H3,I3,rfl,q3}
 | true=>exact ite_tt (chain_last (cM (hc pins s3 U H3 _ I3 q3) λw' s4 ⟨z',H4,I4,r4,q4⟩=>ho' pins s4 U H4 y z' u w' Q I4 r2 r4 q4))
def Om (ho:ng X (compareOp op) r) (ho':ng X (compareOp op') r') (ha:PE X a ta) (hb:PE X b tb) (hc:PE X c tc)
  (hm:lastMarks [op,op'] [b,c]=false<|>qf_):PT X (.Compare a [op,op'] [b,c] pos) (jB (An r r' ta tb tc)):=by
 intro pins s U H Q I h;refine isTrue_chain (cM (ha pins s U H _ I h) λv s1 ⟨x,H1,I1,r1,q1⟩=>test_link (cM (hb pins s1 U H1 _ I1 q1) λu s2 ⟨y,H2,I2,r2,q2⟩=>
  cM (ho pins s2 U H2 x y v u _ I2 r1 r2 q2) λd s3 ⟨z,H3,I3,r3,k,e,q3⟩=>?_)) hm
 subst e;cases r3;refine xi ?_;cases k with
 | false=>
  let⟨k',e',q'⟩:=q3;cases e';exact ite_ff {(H3),I3,q'}
 | true=>
  refine ite_tt (test_last (cM (hc pins s3 U H3 _ I3 q3) λw' s4 ⟨z',H4,I4,r4,q4⟩=>cM (ho' pins s4 U H4 y z' u w' _ I4 r2 r4 q4) λd' s5 zz=>?_));let⟨z2,H5,I5,r5,k2,e2,q5⟩:=zz;subst e2;cases r5;exact xi {(H5),I5,q5}
def sQ:(sizeLine:Nat)<2^63:=by rw[yC];decide
def bV:ng X (binaryOp .Add) (λx y H Q=>∃i j,x=.str i/\y=.str j/\⇑i+⇑j<=sizeLine/\Q (.str (i++j)) H):=by
 intro pins s U H x y v u Q I rx ry h;let⟨i,j,rfl,rfl,hz,q⟩:=h;let⟨t,rfl⟩:=rx;let⟨t',rfl⟩:=ry;exact add_str (λt' tk=>{.str (i++j),H,I.tok _,{_,rfl},q}) hz
def vals1 (r:Vals [x] us):∃u,us=[u]/\RelV x u:=by
 cases r with
 | cons r1 r2=>cases r2;exact{_,rfl,r1}
def vals2 (r:Vals [x,y] us):∃u w',us=[u,w']/\RelV x u/\RelV y w':=by
 cases r with
 | cons r1 r2=>
  cases r2 with
  | cons r3 r4=>cases r4;exact{_,_,rfl,r1,r3}
def IJ:fk X (.builtin "abs") (λxs H Q=>∃i,xs=[.int i]/\Q (.int (if i<0 then -i else i)) H):=by
 intro pins s U H xs us Q I r h;let⟨i,rfl,q⟩:=h;let⟨u,rfl,t,rfl⟩:=vals1 r;exact call_abs_int λu tk=>{.int (if i<0 then -i else i),H,I.tok _,{_,rfl},q}
def M1 (hc:X.calm=true):fk X (.builtin "max") (λxs H Q=>∃i j,xs=[.int i,.int j]/\Q (.int (if j>i then j else i)) H):=by
 intro pins s U H xs us Q I r h;let⟨i,j,rfl,q⟩:=h;let⟨u,w',rfl,⟨t,rfl⟩,⟨t',rfl⟩⟩:=vals2 r;refine max_two_ints (I.ok.hd hc) λh' tk k=>{_,H,I.kept k,?_,q}
 by_cases hj:j>i
 ·rw[yO hj,yO hj];exact{_,rfl}
 ·rw[yN hj,yN hj];exact{_,rfl}
def M0 (hc:X.calm=true):fk X (.builtin "min") (λxs H Q=>∃i j,xs=[.int i,.int j]/\Q (.int (if j<i then j else i)) H):=by
 intro pins s U H xs us Q I r h;let⟨i,j,rfl,q⟩:=h;let⟨u,w',rfl,⟨t,rfl⟩,⟨t',rfl⟩⟩:=vals2 r;refine min_two_ints (I.ok.hd hc) λh' tk k=>{_,H,I.kept k,?_,q}
 by_cases hj:j<i
 ·rw[yO hj,yO hj];exact{_,rfl}
 ·rw[yN hj,yN hj];exact{_,rfl}
def aW:fk X (.type "str") (λxs H Q=>∃i,xs=[.int i]/\i.natAbs.log2<1920/\Q (.str (toString i)) H):=by
 intro pins s U H xs us Q I r h;let⟨i,rfl,hz,q⟩:=h;let⟨u,rfl,t,rfl⟩:=vals1 r;exact PySem.P.str_of_int hz {.str _,H,I.tok _,{_,rfl},q}
end
end L2
namespace L2
open PySem PySem.Spec PyProof.Rows
structure Ni (h:vG) (x dx C:vF) (mA:Str->Option vz):Prop where
 obj:h.get? x=some (PySem.W.instObj C dx)
 ns:h.Ns1 dx mA
 ne:dx≠x
def My {h:vG} {dx:vF} {mA:Str->Option vz} (n:h.Ns1 dx mA):∃od,h.get? dx=some od/\∀name,PySem.W.lookIn name od=some (mA name):=by
 let⟨o,es,ep,ho,hd,hk,_,hm⟩:=n;refine{o,ho,λname=>?_};let e:=hm name;unfold nsFind findBy at e;rw[<-Array.find?_toList] at e;unfold PySem.W.lookIn;rw[hd];dsimp only;split
 ·rename_i y q
  rw[q] at e;exact y6 some e
 ·rename_i q
  rw[q] at e;let a:es.toList.any (·.refKey)=false:=by
   rw[vv];intro y hy;let⟨z,t,hkey⟩:=hk y (Array.mem_toList_iff.mp hy);simp[DictEntry.refKey,hkey]
  let a':¬es.toList.any (·.refKey)=true:=by rw[a];exact zL
  rw[yN a'];exact y6 some e
def Ni.look (I:Ni h x dx C mA):∃od,PySem.W.InstAt h x (PySem.W.instObj C dx) C (some od)/\∀name,PySem.W.lookIn name od=some (mA name):=
 let ⟨od,ho,hl⟩:=My I.ns
 {od,{(I.obj),rfl,rfl,ho},hl}
section
variable {prog:vB} {w:vC} {A:vD} {E:vz->vA->Prop} {s:vA} {K:yB} {x dx C f:vF} {mA:Str->Option vz} {name:Str} {v:vz}
def get_map (X:K.In s.heap) (I:Ni s.heap x dx C mA) (hg:PySem.W.plainGet K C name=true) (hh:PySem.W.hasDictIn K C=true)
  (ha:PySem.W.findIn K (.ref C) name=some none) (hv:mA name=some v) (hv':PySem.W.handedIn v=true) (h:Q v {s with toks:=s.toks+1}) :
  wpAny (model prog w) A (getAttr (.ref x) name expr) Q E s:=by
 let⟨od,J,hl⟩:=I.look;exact PySem.W.get_value X J (PySem.W.plainGet_of hg).1 (PySem.W.findObj_own hh ha rfl (by rw[hl,hv])) hv' h
def Qo (X:K.In s.heap) (I:Ni s.heap x dx C mA)
  (hs:PySem.W.findIn K (.ref C) "__setattr__"= some (some (.builtin "object.__setattr__"))) (hp:PySem.W.plainOver K C=true) (ht:PySem.W.takerIn K C name=some none) (hh:PySem.W.hasDictIn K C=true)
  (hw:PySem.Within mA ns) (hsz:⇑ns<=sizeLine)
  (h:∀h',Ni h' x dx C (λy=>if y=name then some v else mA y)->Heap.SameBut dx s.heap h'->Q .unit {s with heap:=h',toks:=s.toks+2}) :
  wpAny (model prog w) A (setAttr (.ref x) name v) Q E s:=by
 let⟨od,J,hl⟩:=I.look;refine PySem.W.set_plain X J hs (PySem.W.osa_open (s:={s with toks:=s.toks+1}) (r:=none) X J hp ht λb=>?_);let⟨cd,hc,hd'⟩:=PySem.W.any_some hh;let hx:s.heap.get? x=some ⟨.ref C,some dx,.plain,#[]⟩:=I.obj;refine yu (yw (yu (yu (wpAny_loadPart hx (yu (PySem.W.Looks.here (s:={s with toks:=s.toks+1}) (PySem.W.looks_clsIn X hc) ?_))))));rw[hd'];refine yw (a:=some dx) (yu (yw (yu ?_)));refine wpAny_nsSet1 (s:={s with toks:=s.toks+1}) I.ns λh' hn2 hs2=>?_;let⟨oD,esD,epD,hoD,hdD,hcD⟩:=hn2.count (PySem.Within.cons name v hw);refine yu (wpAny_lookBehind hoD (by rw[hdD];exact pastItsLine_dict (zM hcD (by rw[zv];ext))) ?_);exact yw (h _ {(hs2.2 _ (Ne.symm I.ne)).trans I.obj,hn2,I.ne} hs2)
def OQ (X:K.In s.heap) (hm:PySem.W.makesIn K C=true)
  (hi:PySem.W.findIn K (.ref C) "__init__"= some (some (.ref f))) (hf:PySem.W.typeIn K (.ref f)=some (.type "function"))
  (h:codeAny (model prog w) (A.under (.builtin "type.__call__" {.ref C::vs,kw})) (.call (.ref f) {.ref (↑s+1)::vs,kw}) (PySem.W.InitBack (↑s+1) R)
   {s with heap:=(s.heap.push PySem.W.emptyDict).push (PySem.W.instObj C ↑s)}) :
  codeAny (model prog w) A (.call (.ref C) {(vs),kw}) R s:=by
 let⟨hh,g,d,t,os⟩:=s;exact PySem.W.make_core (PySem.W.makes_of X hm) (PySem.W.looks_findIn X hi) (λself=>PySem.W.bind_fn X self hf) (.inl rfl) h
end
def aX (f:Str) (v:V):List (Str×V)->List (Str×V)
 | []=>[(f,v)]
 | (g,x)::r=>if g=f then(g,v)::r else(g,x)::aX f v r
theorem tW (f g:Str) (v:V):∀fs:List (Str×V),(aX f v fs).lookup g=if g=f then some v else fs.lookup g
 | []=>by
  show List.lookup g [(f,v)]=_
  by_cases h:g=f
  ·let hb:(g == f)=true:=vk.mpr h
   simp only[List.lookup,hb,yO h]
  ·let hb:(g == f)=false:=xG.mpr h
   simp only[List.lookup,hb,yN h]
 | (k,x)::r=>by
  let ih:=tW f g v r;rw[show aX f v ((k,x)::r)=(if k=f then(k,v)::r else(k,x)::aX f v r) from rfl]
  by_cases hk:k=f
  ·rw[yO hk]
   by_cases h:g=k
   ·let hb:(g == k)=true:=vk.mpr h
    simp only[List.lookup,hb,yO (h.trans hk)]
   ·let hb:(g == k)=false:=xG.mpr h
    simp only[List.lookup,hb,yN (λe:g=f=>h (e.trans hk.symm))]
  ·rw[yN hk]
   by_cases h:g=k
   ·let hb:(g == k)=true:=vk.mpr h
    simp only[List.lookup,hb,yN (λe:g=f=>hk (h.symm.trans e))]
   ·let hb:(g == k)=false:=xG.mpr h
    simp only[List.lookup,hb];exact ih
theorem sR (f:Str) (v:V):∀fs:List (Str×V),f∈(aX f v fs).map (·.1)/\∀g,g∈fs.map (·.1)->g∈(aX f v fs).map (·.1)
 | []=>{by simp[aX],λg h=>by simp at h}
 | (k,x)::r=>by
  let⟨i1,i2⟩:=sR f v r;rw[show aX f v ((k,x)::r)=(if k=f then(k,v)::r else(k,x)::aX f v r) from rfl]
  by_cases hk:k=f
  ·rw[yO hk]
   subst hk;exact{by simp,λg h=>by simpa using h}
  ·rw[yN hk]
   refine{?_,λg h=>?_}
   ·rw[zj]
    exact zp _ i1
   ·rw[zj] at h ⊢
    rcases zD.mp h with e | e
    ·exact zD.mpr (.inl e)
    ·exact zp _ (i2 g e)
theorem tX (f:Str) (v:V):∀fs:List (Str×V),⇑(aX f v fs)<=⇑fs+1
 | []=>by simp[aX]
 | (k,x)::r=>by
  let ih:=tX f v r;rw[show aX f v ((k,x)::r)=(if k=f then(k,v)::r else(k,x)::aX f v r) from rfl]
  by_cases hk:k=f
  ·rw[yO hk,zv,zv];ext
  ·rw[yN hk,zv,zv];ext
def lR.some_of (r:lR (some v) o):∃u,o=some u/\RelV v u:=by
 cases o with
 | none=>exact(show False from r).elim
 | some u=>exact{(u),rfl,r}
def MH (r:RelV v u):PySem.W.handedIn u=true:=by
 cases v with
 | bH=>cases(show u=Value.none from r);rfl
 | bl b=>cases(show u=Value.bool b from r);rfl
 | int i=>let⟨t,e⟩:=(show∃t,u=Value.int i t from r);cases e;rfl
 | str x=>let⟨t,e⟩:=(show∃t,u=Value.str x t from r);cases e;rfl
 | LA b=>let⟨t,e⟩:=(show∃t,u=Value.bytes b t from r);cases e;rfl
 | Q0 b=>let⟨t,e⟩:=(show∃t,u=Value.float b t from r);cases e;rfl
 | ref a=>cases(show u=Value.ref a from r);rfl
 | ty n=>cases(show u=Value.type n from r);rfl
section
variable {P:vB} {w:vC} {H H':Hp} {h h':vG} {a C dx:vF} {fs fs':List (Str×V)}
def Fs (bZ:pM P w H h) (e:H a=some (.ins C dx fs)):∃mA,Ni h a dx C mA/\(∀f,lR (fs.lookup f) (mA f))/\PySem.Within mA (fs.map (·.1))/\⇑fs<=1000/\H dx=some (.own a):=by
 let⟨d,z,ne,ob,mA,n,r,q⟩:=(show cB P w H h a (.ins C dx fs) from bZ a _ e)
 exact{mA,{(ob),n,ne},r,q,z,d}
end
structure Rv (K:yB) (C:vF):Prop where
 pg:PySem.W.plainGet K C Str.empty=true
 hd:PySem.W.hasDictIn K C=true
 po:PySem.W.plainOver K C=true
 sa:PySem.W.findIn K (.ref C) "__setattr__"= some (some (.builtin "object.__setattr__"))
def Rv.get {K:yB} {C:vF} (c:Rv K C) (f:Str):PySem.W.plainGet K C f=true:=c.pg
def eM (K:yB) (C:vF) (f:Str):Prop:=PySem.W.findIn K (.ref C) f=some none
def eM.Um {K:yB} {C:vF} {f:Str} (n:eM K C f):PySem.W.takerIn K C f=some none:=by
 unfold PySem.W.takerIn;rw[show PySem.W.findIn K (.ref C) f=some none from n];rfl
section
variable {X:Cx} {pins:List (vF×Obj)} {U:St} {H:Hp} {s:vA} {a C dx:vF} {fs:List (Str×V)} {f:Str} {v:V} {A:vD} {E:vz->vA->Prop}
def J0 (I:Inv X pins U H s) (e:H a=some (.ins C dx fs)) (c:Rv X.K C) (n:eM X.K C f) (l:fs.lookup f=some v)
  (h:∀u s',Inv X pins U H s'->RelV v u->Q u s'):wpAny (model X.prog X.w) A (getAttr (.ref a) f b) Q E s:=by
 let⟨mA,O,r,_,_,_⟩:=Fs I.bZ e;let⟨u,hu,ru⟩:=lR.some_of (v:=v) (o:=mA f) (by rw[<-l];exact r f);exact get_map I.qR O (c.get f) c.hd n hu (MH ru) (h u _ (I.tok _) ru)
def Jw (I:Inv X pins U H s) (e:H a=some (.ins C dx fs)) (c:Rv X.K C) (n:eM X.K C f) (hl:⇑fs<1000) (ry:RelV y u)
  (h:∀s',Inv X pins U (upd H a (.ins C dx (aX f y fs))) s'->Q .unit s'):wpAny (model X.prog X.w) A (setAttr (.ref a) f u) Q E s:=by
 let⟨mA,O,r,wi,_,ho⟩:=Fs I.bZ e;let hz:⇑(fs.map (·.1))<=sizeLine:=by rw[za,yC];ext
 refine Qo I.qR O c.sa c.po n.Um c.hd wi hz λh' O' sb=>h _ ?_;let hd:∃o,h'.get? dx=some o:=let ⟨o,_,_,e',_⟩:=O'.ns;{(o),e'};refine I.write (x:=a) (e:=dx) (by rw[e];exact True.intro) (.inr ho) (λb q hb z=>(sb.2 b hb).trans z) hd ?_;refine{by rw[aE O.ne];exact ho,?_,O.ne,O'.obj,_,O'.ns,λg=>?_,λg hg=>?_}
 ·have:=tX f y fs;ext
 ·show lR ((aX f y fs).lookup g) (if g=f then some u else mA g)
  rw[tW]
  by_cases q:g=f
  ·rw[yO q,yO q];exact ry
  ·rw[yN q,yN q];exact r g
 ·by_cases q:g=f
  ·rw[q];exact(sR f y fs).1
  ·refine(sR f y fs).2 g (wi g λz=>hg ?_)
   show(if g=f then some u else mA g)=none;rw[yN q];exact z
def Inv.made (I:Inv X pins U H s):Inv X pins U (upd (upd H ↑s (.own (↑s+1))) (↑s+1) (.ins C ↑s []))
  {s with heap:=(s.heap.push PySem.W.emptyDict).push (PySem.W.instObj C ↑s)}:=by
 let e1:(s.heap.push PySem.W.emptyDict).get? ↑s=some PySem.W.emptyDict:=yx s.heap rfl;let e2:((s.heap.push PySem.W.emptyDict).push (PySem.W.instObj C ↑s)).get? (↑s+1)=some (PySem.W.instObj C ↑s):=by
  have:=yx (s.heap.push PySem.W.emptyDict) (o:=PySem.W.instObj C ↑s) rfl
  rwa [xm] at this
 let e3:(s.heap.push PySem.W.emptyDict).Ns ↑s (λ_=>none):={PySem.W.emptyDict,#[],_,e1,rfl,(λe he=>absurd he (by simp)),λ_=>rfl}
 let I1:=I.laid (a:=↑s) (o:=.own (↑s+1)) (h':=s.heap.push PySem.W.emptyDict) (t':=s.toks) (λb u q=>yv _ q) (zm _) {_,e1};refine I1.laid (a:=↑s+1) (o:=.ins C ↑s []) (t':=s.toks) (λb u q=>yv _ q) (Nat.le_of_eq (xm _ _)) ?_;let ne:↑s≠↑s+1:=yj (xR _);refine{by rw[aE ne,aC],yg _,ne,e2,λ_=>none,(Heap.Ns1.of_empty e3).at λo q=>yv _ q,λ_=>True.intro,λy hy=>absurd rfl hy}
def Rh (hb:attributeBase e f env (eval e env)=eval e env)
  (h:wpAny (model prog w) A (eval e env) (λo s₁=>wpAny (model prog w) A (getAttr o f true) Q E s₁) E s):wpAny (model prog w) A (eval (.Attribute e f pos) env) Q E s:=
 Attribute_any_ h (by rw[arm_eval_Attribute,hb])
end
def Qh (K:yB) (ta:TE) (f:Str):TE:=λU H Q=>ta U H λx H1=>∃a C dx fs v,x=.ref a/\H1 a=some (.ins C dx fs)/\Rv K C/\eM K C f/\fs.lookup f=some v/\Q v H1
def Wb (K:yB) (ta tv:TE) (f:Str):TS:=λD U H=>tv U H λy H1=>ta U H1 λx H2=>∃a C dx fs,x=.ref a/\H2 a=some (.ins C dx fs)/\Rv K C/\eM K C f/\⇑fs<1000/\
 D.nx U (upd H2 a (.ins C dx (aX f y fs)))
section
variable {X:Cx} {o e value:Expr} {f:Str} {pos pos' tpos:Pos} {ta tv:TE}
def bI (he:PE X e ta) (hb:attributeBase e f X.env (eval e X.env)=eval e X.env):PE X (.Attribute e f pos) (Qh X.K ta f):=by
 intro pins s U H Q I h;refine Rh hb (cM (he pins s U H _ I h) λu s1 zz=>?_);let⟨x,H1,I1,rx,a,C,dx,fs,v,ex,ea,c,n,l,q⟩:=zz;subst ex;obtain rfl:u=Value.ref a:=rx;exact J0 I1 ea c n l λu' s2 I2 ru=>{(v),H1,I2,ru,q}
def iV (ha:PE X o ta) (hv:PE X value tv) (hs:swapsWith value (some (.Attribute o f pos')) pos.line X.env=pure false):PS X (.Assign [.Attribute o f pos'] value pos) (Wb X.K ta tv f):=by
 intro pins s U H D I h;refine plainObj_wpAny_Assign_Attribute (cM (hv pins s U H _ I h) λu s1 ⟨y,H1,I1,ry,q⟩=>cM (ha pins s1 U H1 _ I1 q) λov s2 ⟨x,H2,I2,rx,a,C,dx,fs,ex,ea,c,n,l,q2⟩=>?_) hs;subst ex;obtain rfl:ov=Value.ref a:=rx;exact Jw I2 ea c n l ry λs3 I3=>{U,_,I3,q2}
end
section
variable {X:Cx} {pins:List (vF×Obj)} {U:St} {H:Hp} {s:vA} {A:vD} {E:vz->vA->Prop} {Q:vz->vA->Prop} {c:vz} {b:Bool}
inductive tK (K:yB) (H:Hp):V->vz->Prop where
 | bH:tK K H .bH (.type "NoneType")
 | bl (x:Bool):tK K H (.bl x) (.type "bool")
 | int (i:Int):tK K H (.int i) (.type "int")
 | str (x:Str):tK K H (.str x) (.type "str")
 | Q0 (x:UInt64):tK K H (.Q0 x) (.type "float")
 | lst {a:vF} {xs:List V} (e:H a=some (.lst xs)):tK K H (.ref a) (.type "list")
 | mG {a:vF} {o:Obj} {xs:List V} (e:H a=some (.mG o (.lst xs))):tK K H (.ref a) (.type "list")
 | tup {a:vF} {xs:List V} (e:H a=some (.tup xs)):tK K H (.ref a) (.type "tuple")
 | dK {a:vF} {kvs:List (Key×V)} (e:H a=some (.dK kvs)):tK K H (.ref a) (.type "dict")
 | dT {a:vF} {kvs:List (List Key×V)} (e:H a=some (.dT kvs)):tK K H (.ref a) (.type "dict")
 | ins {a C dx:vF} {fs:List (Str×V)} (e:H a=some (.ins C dx fs)) (cl:Rv K C) (ha:PySem.W.findIn K (.ref C) "__class__"= some (some (.builtin "object.__class__")))
   (hn:PySem.W.specialIn K (.builtin "object.__class__") "__get__"= some (some (.builtin "getset_descriptor.__get__"))) (htk:PySem.W.takesIn K (.builtin "object.__class__")=some true)
   (hm:PySem.W.mroIn K C (.type "object")=some true):tK K H (.ref a) (.ref C)
def MD (I:Inv X pins U H s) (rx:RelV x u) (ty:tK X.K H x t) (e:PySem.W.kitOne X.K t c=some b) (h:∀tk,Q (.bool b) {s with toks:=tk}) :
  wpAny (model X.prog X.w) A (call (.builtin "isinstance") [u,c]) Q E s:=by
 cases ty with
 | bH=>cases(show u=Value.none from rx);exact xn PySem.W.kitx_none I.qR True.intro e (λz=>nomatch z) h
 | bl y=>cases(show u=Value.bool y from rx);exact xn PySem.W.kitx_bool I.qR True.intro e (λz=>nomatch z) h
 | int i=>let⟨t,q⟩:=(show∃t,u=Value.int i t from rx);cases q;exact xn PySem.W.kitx_int I.qR True.intro e (λz=>nomatch z) h
 | str y=>let⟨t,q⟩:=(show∃t,u=Value.str y t from rx);cases q;exact xn PySem.W.kitx_str I.qR True.intro e (λz=>nomatch z) h
 | Q0 y=>let⟨t,q⟩:=(show∃t,u=Value.float y t from rx);cases q;exact xn PySem.W.kitx_float I.qR True.intro e (λz=>nomatch z) h
 | @lst a xs ea=>
  cases(show u=Value.ref a from rx);let⟨_,_,n,_,h1⟩:=(show cB X.prog X.w H s.heap a (.lst xs) from I.bZ a _ ea)
  exact xn PySem.W.kitx_list I.qR {_,h1,rfl} e (λz=>nomatch z) h
 | @mG a ob xs ea=>
  cases(show u=Value.ref a from rx);let⟨_,_,_,n,_,h1⟩:=(show cB X.prog X.w H s.heap a (.mG ob (.lst xs)) from I.bZ a _ ea)
  exact xn PySem.W.kitx_list I.qR {_,h1,rfl} e (λz=>nomatch z) h
 | @tup a xs ea=>
  cases(show u=Value.ref a from rx);let⟨_,_,_,p⟩:=(show cB X.prog X.w H s.heap a (.tup xs) from I.bZ a _ ea)
  let⟨o,h1,h2,_⟩:=p;exact xn PySem.W.kitx_tuple I.qR {(o),h1,h2} e (λz=>nomatch z) h
 | @dK a kvs ea=>
  cases(show u=Value.ref a from rx);let⟨_,_,vs,_,p⟩:=(show cB X.prog X.w H s.heap a (.dK kvs) from I.bZ a _ ea)
  let⟨o,es,ep,h1,h2,_⟩:=p;exact xn PySem.W.kitx_dict I.qR {(o),h1,h2.1} e (λz=>nomatch z) h
 | @dT a kvs ea=>
  cases(show u=Value.ref a from rx);let⟨_,_,xs,_,o,es,ep,h1,h2,_⟩:=(show cB X.prog X.w H s.heap a (.dT kvs) from I.bZ a _ ea)
  exact xn PySem.W.kitx_dict I.qR {(o),h1,h2.1} e (λz=>nomatch z) h
 | @ins a C dx fs ea cl ha hn htk hm=>
  cases(show u=Value.ref a from rx);let⟨mA,O,_⟩:=Fs I.bZ ea;let⟨od,J,_⟩:=O.look;exact xn (PySem.W.kitx_own (cl.get _) cl.hd ha hn htk hm) I.qR J e (λz=>nomatch z) h
end
end L2
namespace L2
open PySem PySem.Spec PyProof.Rows
structure fI (k:Nat) (A:vD):Prop where
 hd:A.handled=none
 dp:A.depth+3*k+5<recursionLimit
 un:A.units+16*k+200<cLine
def fI.mono (r:fI k A) (h:j<=k):fI j A:={r.hd,by have:=r.dp;ext,by have:=r.un;ext}
theorem fI.deeper (r:fI (k+1) A) (env:Env):fI k (A.deeper env):=
 {r.hd,by have:=r.dp;show A.depth+1+3*k+5<_;ext,by have:=r.un;show A.units+3+16*k+200<_;ext}
def JW {A:vD} {C:vF} {us:List vz} {kw:List (Str×vz)}:(A.under (.builtin "type.__call__" {.ref C::us,kw})).depth=A.depth+1:=by
 first | rfl | simp[Around.under,Code.weight,Code.isCreation,Code.isGuard,Code.isCaller,Code.frames,Code.isFrame,guardIds]
def JV {A:vD} {C:vF} {us:List vz} {kw:List (Str×vz)}:(A.under (.builtin "type.__call__" {.ref C::us,kw})).units=A.units+1:=by
 first | rfl | simp[Around.under,Code.cUnits,Code.frames,Code.isFrame]
def fI.make (r:fI (k+1) A) (C:vF) (us:List vz) (kw:List (Str×vz)):fI k (A.under (.builtin "type.__call__" {.ref C::us,kw})):=
 {r.hd,by have:=r.dp;rw[JW];ext,by have:=r.un;rw[JV];ext}
theorem fI.depth (r:fI k A):A.depth<recursionLimit:=by have:=r.dp;ext
theorem fI.units (r:fI k A):A.units+64<cLine:=by have:=r.un;ext
def eC:TA:=λ_ H Q=>Q [] H
def bR (ta:TE) (tr:TA):TA:=λU H Q=>ta U H λx H1=>tr U H1 λxs H2=>Q (x::xs) H2
section
variable {X:Cx} {e:Expr} {es:List Expr} {te:TE} {t:TA} {pos:Pos}
def ag:PA X [] eC:=λ_ _ _ _ H Q I h=>vx {[],H,I,.nil,h}
def ah (ha:PE X e te) (hr:PA X es t) (hs:starEach (e::es) X.env=(false,eval e X.env)::starEach es X.env<|>qe_):PA X (e::es) (bR te t):=by
 intro pos pins s U H Q I h;rw[hs];show wpAny _ _ (spliced ((false,eval e X.env)::backTo pos (starEach es X.env))) _ _ s;refine wF (cM (ha pins s U H _ I h) λu s1 zz=>?_);let⟨x,H1,I1,r1,q1⟩:=zz;exact cM (hr pos pins s1 U H1 _ I1 q1) λus s2 ⟨xs,H2,I2,r2,q2⟩=>{x::xs,H2,I2,.cons r1 r2,q2}
def GC (t:TA):TE:=λU H Q=>t U H λxs H1=>⇑xs<=sizeLine/\∀p,H1 p=none->Q (.ref p) (upd H1 p (.tup xs))
def GF (t:TA):TE:=λU H Q=>t U H λxs H1=>⇑xs<=sizeLine/\∀p,H1 p=none->Q (.ref p) (upd H1 p (.lst xs))
def bE {x1} (h:PA X es t):PE X (.Tuple es x1 pos) (GC t):=by
 intro pins s U H Q I hq;refine wpAny_Tuple_spliced (cM (h pos pins s U H _ I hq) λus s1 ⟨xs,H1,I1,r,z,q⟩=>{by rw[<-⇑r];exact z,?_});let hf:H1 ↑s1=none:=I1.bZ.fresh (zm _);refine{.ref ↑s1,upd H1 ↑s1 (.tup xs),I1.laid (t':=s1.toks) (λb u e=>yv _ e) (zm _) ?_,rfl,q _ hf};exact{z,us,r,{_,yx _ rfl,rfl,_,rfl}}
def bz (h:PA X es t):PE X (.List es pos) (GF t):=by
 intro pins s U H Q I hq;refine wpAny_List_spliced (cM (h pos pins s U H _ I hq) λus s1 ⟨xs,H1,I1,r,z,q⟩=>{by rw[<-⇑r];exact z,?_});let hf:H1 ↑s1=none:=I1.bZ.fresh (zm _);refine{.ref ↑s1,upd H1 ↑s1 (.lst xs),I1.laid (t':=s1.toks) (λb u e=>yv _ e) (zm _) ?_,rfl,q _ hf};exact{z,us,0,r,yx _ rfl}
end
abbrev Sp:=List V->Hp->VK->XK->Prop
abbrev KI:=List Env->Hp->vA->XK->vz->vA->Prop
structure I9 (P:vB) (w:vC) (K:yB) (mg:Str->Option vz) (base:vG) (A:vD) (outer:List Env) (s:vA) (H:Hp):Prop where
 frames:A.frames=some outer
 mod:Mod K mg base
 bs:∀b o,base.get? b=some o->s.heap.get? b=some o/\H b=none
 Nq:base.objs.size<=↑s
 oo:s.heap.FunFrames base outer
 HY:∀b∈oE outer,H b=none
 bZ:pM P w H s.heap
 bare:AllBare s.gens
def CE (outer:List Env) (P:vB) (w:vC) (H:Hp) (s:vA) (Q:VK) (u:vz) (s':vA):Prop:=
 ∃v H',s'.os=s.os/\AllBare s'.gens/\Un (oE outer) [] H H' s.heap s'.heap/\pM P w H' s'.heap/\RelV v u/\Q v H'
def CR (CX:KI) (outer:List Env) (P:vB) (w:vC) (H:Hp) (s:vA) (Q:VK) (E:XK) (r:Result) (s':vA):Prop:=
 match r with
 | .ok (.ret u)=>CE outer P w H s Q u s'
 | .ok _=>False
 | .error e=>CX outer H s E e s'
structure dB (P:vB) (w:vC) (K:yB) (mg:Str->Option vz) (base:vG) (CX:KI) (k:Nat) (f:vF) (fd:vE) (ps:List Str) (sp:Sp):Prop where
 len:∀vs H Q E,sp vs H Q E->⇑vs=⇑ps
 run:∀(A:vD) (outer:List Env) (s:vA) (H:Hp) (args:Args) (us:List vz) (vs:List V) (Q:VK) (E:XK),fI k A->I9 P w K mg base A outer s H->BindsTo s fd args (ps.zip us)->Vals vs us->sp vs H Q E->
  codeAny (model P w) A (.call (.ref f) args) (CR CX outer P w H s Q E) s
theorem dB.mono {P:vB} {w:vC} {K:yB} {mg:Str->Option vz} {base:vG} {CX:KI} {j k:Nat} {f:vF} {fd:vE} {ps:List Str} {sp:Sp} (F:dB P w K mg base CX j f fd ps sp) (h:j<=k) :
  dB P w K mg base CX k f fd ps sp:={F.len,λA outer s H args us vs Q E hr=>F.run A outer s H args us vs Q E (hr.mono h)}
def I9.make {P:vB} {w:vC} {K:yB} {mg:Str->Option vz} {base:vG} {A:vD} {outer:List Env} {s:vA} {H:Hp} (e:I9 P w K mg base A outer s H) (C:vF) (us:List vz) (kw:List (Str×vz)) :
  I9 P w K mg base (A.under (.builtin "type.__call__" {.ref C::us,kw})) outer s H:={by first | exact e.frames | (simpa[Around.under,Code.envs,Code.isFrame,pushEnvs] using e.frames),e.mod,e.bs,e.Nq,e.oo,e.HY,e.bZ,e.bare}
section
variable {X:Cx} {pins:List (vF×Obj)} {U:St} {H:Hp} {s s':vA}
def Inv.Q3 (I:Inv X pins U H s):I9 X.prog X.w X.K X.mg X.base X.A X.stack s H:=
 {I.ok.frames,I.ok.mod,I.bs,zM I.ok.Nq I.sz,I.stack,I.pR,I.bZ,I.bare}
def Inv.after (I:Inv X pins U H s) (h:CE X.stack X.prog X.w H s Q u s'):EP X pins U Q u s':=by
 let⟨v,H',os,bare,un,bZ,r,q⟩:=h;let⟨hh,g,d,t,os'⟩:=s';obtain rfl:os'=s.os:=os;exact{v,H',I.call (h':=hh) (g':=g) (d':=d) (t':=t) (ch:=[]) un bZ bare (λb z=>absurd z (by simp)),r,q}
end
def gG (sp:Sp) (dvs:List V) (E:XK) (t:TA):TE:=λU H Q=>t U H λvs H1=>sp (vs++dvs) H1 Q E
def Ur (C:vF) (sp:Sp) (dvs:List V) (E:XK) (t:TA):TE:=λU H Q=>t U H λvs H1=>∀x dx,H1 x=none->H1 dx=none->dx≠x->
 sp (.ref x::(vs++dvs)) (upd (upd H1 dx (.own x)) x (.ins C dx [])) (λv H2=>v=.bH/\Q (.ref x) H2) E
def Binds (K:yB) (fd:vE) (ps:List Str) (ds:List vz):Prop:=
 ∀(s:vA) (us:List vz),K.In s.heap->⇑(us++ds)=⇑ps->BindsTo s fd {us,[]} (ps.zip (us++ds))
def Binds.all {K:yB} {fd:vE} {ps:List Str} (h:∀us:List vz,⇑us=⇑ps->bindArgs fd {us,[]}=pure (ps.zip us)):Binds K fd ps []:=λs us _ hl=>by
 rw[zV] at hl ⊢;exact .of_eq (h us hl)
def Passes (CX:KI) (X:Cx) (E:XK):Prop:=∀(pins:List (vF×Obj)) (U:St) (H:Hp) (s:vA) (e:vz) (s':vA),Inv X pins U H s->CX X.stack H s E e s'->X.xe e s'
section
variable {X:Cx} {CX:KI} {k:Nat} {f C:vF} {fd:vE} {ps:List Str} {sp:Sp} {dvs:List V} {ds:List vz} {E:XK} {x m:Str} {p pos apos:Pos} {e o:Expr} {es:List Expr} {ta:TE} {t:TA}
def N7 (F:dB X.prog X.w X.K X.mg X.base CX k f fd ps sp) (hr:fI k X.A) (hb:Binds X.K fd ps ds) (hd:Vals dvs ds) (hx:Passes CX X E)
  (I:Inv X pins U H s) (r:Vals vs us) (h:sp (vs++dvs) H Q E):wpAny (model X.prog X.w) X.A (call (.ref f) us) (EP X pins U Q) X.xe s:=by
 let r2:Vals (vs++dvs) (us++ds):=r.append hd;let hl:⇑(us++ds)=⇑ps:=by rw[<-⇑r2];exact F.len _ _ _ _ h
 refine wpAny_call (xU (F.run X.A X.stack s H {us,[]} (us++ds) (vs++dvs) Q E hr I.Q3 (hb s us I.qR hl) r2 h) λr s' hq=>?_);cases r with
 | error e=>exact hx pins U H s e s' I hq
 | ok fl=>
  cases fl with
  | ret u=>exact I.after hq
  | next=>exact False.elim hq
  | brk=>exact False.elim hq
  | cont=>exact False.elim hq
def QF (F:dB X.prog X.w X.K X.mg X.base CX k f fd ps sp) (hr:fI k X.A) (hg:Gl X x) (hm:X.mg x=some (.ref f)) (hk:PySem.W.keepIn X.K (.ref f)=true) (hb:Binds X.K fd ps ds) (hd:Vals dvs ds) (hx:Passes CX X E)
  (ha:PA X (e::es) t) (hdb:(x == ("__debug__": Str))=false<|>qb_) (he:starEach (e::es) X.env=(false,eval e X.env)::starEach es X.env<|>qe_) (hpl:(backTo pos (starEach es X.env)).any (·.1)=false<|>qe_) :
  PE X (.Call (.Name x p) (e::es) [] pos) (gG sp dvs E t):=by
 intro pins s U H Q I h;refine xt (jO I hg hm ?_ hdb);refine vn (h₀:=X.base) I.ok.mod.Td hk (cM (ha pos pins s U H _ I h) λus s1 ⟨vs,H1,I1,r,q⟩=>{I1.qR,?_}) he hpl;exact N7 F hr hb hd hx I1 r q
structure Mk (K:yB) (C f:vF):Prop where
 makes:PySem.W.makesIn K C=true
 init:PySem.W.findIn K (.ref C) "__init__"= some (some (.ref f))
 fn:PySem.W.isFn K (.ref f)=true
 kp:PySem.W.keepIn K (.ref C)=true
def N6 (M:Mk X.K C f) (F:dB X.prog X.w X.K X.mg X.base CX k f fd ps sp) (hr:fI (k+1) X.A) (hb:Binds X.K fd ps ds) (hd:Vals dvs ds)
  (hx:Passes CX X E) (I:Inv X pins U H s) (r:Vals vs us)
  (h:∀x dx,H x=none->H dx=none->dx≠x->sp (.ref x::(vs++dvs)) (upd (upd H dx (.own x)) x (.ins C dx [])) (λv H2=>v=.bH/\Q (.ref x) H2) E) :
  wpAny (model X.prog X.w) X.A (call (.ref C) us) (EP X pins U Q) X.xe s:=by
 let hq:=h (↑s+1) ↑s (I.bZ.fresh (x9 _)) (I.bZ.fresh (zm _)) (yj (xR _));let I2:=Inv.made (C:=C) I;let r2:Vals (V.ref (↑s+1)::(vs++dvs)) (Value.ref (↑s+1)::(us++ds)):=.cons rfl (r.append hd);let hl:⇑(Value.ref (↑s+1)::us++ds)=⇑ps:=by
  let e:=⇑r2;rw[F.len _ _ _ _ hq] at e;exact e.symm
 refine wpAny_call (OQ (f:=f) I.qR M.makes M.init (vk.mp M.fn) (xU (F.run _ X.stack _ _ {Value.ref (↑s+1)::us,[]} (Value.ref (↑s+1)::(us++ds)) _ _ E (hr.make C us [])
  (I2.Q3.make C us []) (hb _ (Value.ref (↑s+1)::us) I2.qR hl) r2 hq) λr s' hq'=>?_))
 cases r with
 | error e=>exact hx pins U _ _ e s' I2 hq'
 | ok fl=>
  cases fl with
  | ret u=>
   let⟨v,H',I3,rv,ev,q3⟩:=I2.after hq';subst ev;exact{rv,{V.ref (↑s+1),H',I3,rfl,q3}}
  | next=>exact False.elim hq'
  | brk=>exact False.elim hq'
  | cont=>exact False.elim hq'
def OB (M:Mk X.K C f) (F:dB X.prog X.w X.K X.mg X.base CX k f fd ps sp) (hr:fI (k+1) X.A) (hg:Gl X x) (hm:X.mg x=some (.ref C)) (hb:Binds X.K fd ps ds) (hd:Vals dvs ds) (hx:Passes CX X E)
  (hdb:(x == ("__debug__": Str))=false<|>qb_):PE X (.Call (.Name x p) [] [] pos) (Ur C sp dvs E eC):=by
 intro pins s U H Q I h;refine xt (jO I hg hm ?_ hdb);exact PySem.W.callWith_K0 I.qR M.kp (N6 (us:=[]) M F hr hb hd hx I .nil h)
end
section
variable {X:Cx} {CX:KI} {k:Nat} {f C:vF} {fd:vE} {ps ks:List Str} {sp:Sp} {E:XK} {x m:Str} {p pos apos kpos:Pos} {e o:Expr} {es:List Expr} {kws:List Keyword} {te ta:TE} {t tk:TA} {nm:Option Str}
variable {g:List vz->List vz->List vz} {gV:List V->List V->List V}
end
structure fZ (N P:List Str) (sc:Scope):Prop where
 kind:sc.kind=.function
 co:sc.isCoroutine=false
 gen:sc.isGenerator=false
 nd:N.Nodup
 pre:N.take P.length=P
 par:∀x∈P,sc.names.lookup x=some .local\/sc.names.lookup x=some .cell
 S5:∀y∈sc.names,y.2≠.free
theorem Eg {kindOf:Str->Option NameKind} {x:Str}:∀{binds:List (Str×vz)} {m:Str->Option vz},(∀v,(x,v)∉binds)->bindL kindOf binds m x=m x
 | [],_,_=>rfl
 | (n,v)::r,m,h=>by
  unfold bindL;rw[Eg λw hw=>h w (zp _ hw)];split
  ·have:x≠n:=by rintro rfl;exact h v zr
   simp[this]
  ·rfl
theorem Ei {kindOf:Str->Option NameKind} {x:Str}:∀{binds:List (Str×vz)} {m:Str->Option vz},(∀v,(x,v)∉binds)->bindC kindOf binds m x=m x
 | [],_,_=>rfl
 | (n,v)::r,m,h=>by
  unfold bindC;rw[Ei λw hw=>h w (zp _ hw)];split
  ·rfl
  ·have:x≠n:=by rintro rfl;exact h v zr
   simp[this]
theorem Eh {kindOf:Str->Option NameKind} {x:Str} {v:vz}:∀{P:List Str} {vs:List vz} {i:Nat} {m:Str->Option vz},P.Nodup->P[i]?=some x->vs[i]?=some v->kindOf x=some .local->
  bindL kindOf (P.zip vs) m x=some v
 | [],_,_,_,_,h,_,_=>by simp at h
 | _::_,[],_,_,_,_,h,_=>by simp at h
 | p::P,w::vs,0,m,nd,h1,h2,hk=>by
  simp at h1 h2;subst h1;subst h2;show bindL kindOf ((p,w)::P.zip vs) m p=_;unfold bindL;rw[Eg λv hv=>(yd.mp nd).1 (wz hv).1,yO hk];simp
 | p::P,w::vs,i+1,m,nd,h1,h2,hk=>by
  show bindL kindOf ((p,w)::P.zip vs) m x=_;unfold bindL;exact Eh (i:=i) (yd.mp nd).2 (by simpa using h1) (by simpa using h2) hk
theorem Ej {kindOf:Str->Option NameKind} {x:Str} {v:vz}:∀{P:List Str} {vs:List vz} {i:Nat} {m:Str->Option vz},P.Nodup->P[i]?=some x->vs[i]?=some v->kindOf x≠some .local->
  bindC kindOf (P.zip vs) m x=some v
 | [],_,_,_,_,h,_,_=>by simp at h
 | _::_,[],_,_,_,_,h,_=>by simp at h
 | p::P,w::vs,0,m,nd,h1,h2,hk=>by
  simp at h1 h2;subst h1;subst h2;show bindC kindOf ((p,w)::P.zip vs) m p=_;unfold bindC;rw[Ei λv hv=>(yd.mp nd).1 (wz hv).1,yN hk];simp
 | p::P,w::vs,i+1,m,nd,h1,h2,hk=>by
  show bindC kindOf ((p,w)::P.zip vs) m x=_;unfold bindC;exact Ej (i:=i) (yd.mp nd).2 (by simpa using h1) (by simpa using h2) hk
def start (N:List Str) (vs:List V):St:=vs.map some++List.replicate (N.length-⇑vs) none
def kc (CX:KI) (P:vB) (w:vC) (K:yB) (mg:Str->Option vz) (base:vG) (N:List Str) (qual:Str) (scope:Scope) (f:vF) (cd:vz) (A:vD) (outer:List Env) (s:vA) (H:Hp) (E:XK):Cx where
 prog:=P
 w:=w
 K:=K
 mg:=mg
 base:=base
 A:=A.deeper (envOfC qual scope ↑s f cd)
 N:=N
 s₀:=s
 H₀:=H
 env:=envOfC qual scope ↑s f cd
 outer:=outer
 stack:=envOfC qual scope ↑s f cd::outer
 ex:=[]
 calm:=true
 fn:=λ_=>true
 pn:=[]
 xe:=λe s'=>wpAny (model P w) (A.deeper (envOfC qual scope ↑s f cd)) (leaving (envOfC qual scope ↑s f cd) e) (λ_ s''=>CX outer H s E e s'') (λe' s''=>CX outer H s E e' s'') s'
def II {sc:Scope} {n:Nat} {x:Str} (h:sc.names.lookup x=some .cell):∃c,(cellsFrom n sc.names []).lookup x=some c:=by
 let q:=PySem.W.cellsFrom_some sc.names n [] (.inl h);exact Option.isSome_iff_exists.mp q
def ME {CX:KI} {P:vB} {w:vC} {K:yB} {mg:Str->Option vz} {base:vG} {N ps:List Str} {qual:Str} {scope:Scope} {f:vF} {cd:vz} {A:vD} {outer:List Env} {s s1:vA} {H:Hp} {E:XK} {us:List vz} {vs:List V}
  (S:fZ N ps scope) (hd:A.handled=none) (e0:I9 P w K mg base A outer s H) (hl:⇑vs=⇑ps) (r:Vals vs us)
  (x:InCallC s ↑s (bindL (envOfC qual scope ↑s f cd).kindOf (ps.zip us) λ_=>none) (cellsFrom (↑s+1) scope.names []) (bindC (envOfC qual scope ↑s f cd).kindOf (ps.zip us) λ_=>none) s1) :
  Inv (kc CX P w K mg base N qual scope f cd A outer s H E) [] (start N vs) H s1:=by
 let hpl:⇑ps<=N.length:=by have:=y6 List.length S.pre;rw[zQ] at this;ext
 let⟨h1,tk,rfl,hk⟩:=x.done;let noA:∀b:vF,b∉(kc CX P w K mg base N qual scope f cd A outer s H E).ex:=λb z=>absurd (show b∈([]:List vF) from z) (by simp);refine{{e0.mod,S.kind,rfl,rfl,zm _,λy z c h1 h2=>?_,λy hy=>?_,λy c _ h=>?_,λ_=>hd,Around.frames_deeper e0.frames,.inr {(rfl),rfl},λb z=>absurd z (noA b),e0.bs,e0.Nq,λb _ _=>noA b,λb z=>absurd z (noA b),e0.oo,e0.HY},
  rfl,e0.bare,Un.kept hk,{_,x.toInCall.ns,λi y v h1 h2 h3=>?_},λy c h=>{_,x.cell y c h},e0.bZ.fresh (zm _),λy c h=>?_,λp hp=>absurd (show p∈([]:List (vF×Obj)) from hp) (by simp),e0.bZ.kept hk,?_}
 ·exact name_of_addr x.apart (wt h1) (wt h2)
 ·let hy:scope.names.lookup y=some .cell\/scope.names.lookup y=some .free:=hy
  rcases hy with hy | hy
  ·exact II hy
  ·exact absurd rfl (S.S5 _ (wt hy))
 ·exact yh (x.above y c (wt h))
 ·let hi:i<⇑vs:=by
   unfold start at h2
   by_cases hi:i<⇑vs
   ·exact hi
   ·rw[z9 (by simpa using hi)] at h2
    rw[List.getElem?_replicate] at h2;split at h2 <;> cases h2
  let ha:vs[i]?=some v:=by
   unfold start at h2;rw[wq (by simpa using hi),zK] at h2;cases e:vs[i]? with
   | none=>rw[e] at h2;cases h2
   | some a=>rw[e] at h2;cases h2;rfl
  let⟨u,hu,rv⟩:=r.get ha;let hp:ps[i]?=some y:=by
   rw[<-S.pre,List.getElem?_take_of_lt ()];exact h1
  let ndP:ps.Nodup:=by rw[<-S.pre];exact S.nd.sublist (List.take_sublist _ _)
  refine{u,rv,?_};rcases S.par y (zC hp) with k | k
  ·exact .inl {k,Eh ndP hp hu k}
  ·let⟨c,e⟩:=II (n:=↑s+1) k
   refine .inr {.inl k,c,e,?_};let q:=x.cell y c e;rw[Ej ndP hp hu (by show scope.names.lookup y≠_;rw[k];decide)] at q;exact q
 ·exact e0.bZ.fresh (yh (x.above y c (wt h)))
 ·unfold start
  show _=N.length;rw[zh,za,List.length_replicate];ext
def RQ {CX:KI} {P:vB} {w:vC} {K:yB} {mg:Str->Option vz} {base:vG} {k:Nat} {f:vF} {name qual:Str} {params:Arguments} {body:List Stmt} {scope:Scope} {dV kV doc pm cdv ct oc:vz} {an od:Option vF}
  {osl:Array (Option vz)} {N ps:List Str} {sp:Sp} (lk:K.lookup f=some {oc,od,.func (PySem.W.fnOf name qual params body scope dV kV doc pm an cdv ct),osl}) (hcd:PySem.W.codeIn K cdv qual=true) (S:fZ N ps scope)
  (len:∀vs H Q E,sp vs H Q E->⇑vs=⇑ps)
  (hbody:∀(A:vD) (outer:List Env) (s:vA) (H:Hp) (vs:List V) (Q:VK) (E:XK),fI k (A.deeper (envOfC qual scope ↑s f cdv))->sp vs H Q E->
   ∃t,Em (kc CX P w K mg base N qual scope f cdv A outer s H E) body t/\t {nx:=λ_ H'=>Q .bH H',rt:=Q} (start N vs) H) :
  dB P w K mg base CX (k+1) f (PySem.W.fnOf name qual params body scope dV kV doc pm an cdv ct) ps sp:=by
 refine{len,λA outer s H args us vs Q E hr e0 hb r hsp=>?_};let hl:=len _ _ _ _ hsp;let KX:K.In s.heap:=e0.mod.Td.keeps λb o e=>(e0.bs b o e).1;let lim:s.heap.NoLimit:=e0.mod.nolimit.keeps λb o e=>(e0.bs b o e).1;let hkind:∀y∈ps.zip us,scope.names.lookup y.1=some .local\/(scope.names.lookup y.1=some .cell/\((cellsFrom (↑s+1) scope.names []).lookup y.1).isSome=true):=λ⟨n,v⟩ hy=>by
  rcases S.par n (wz hy).1 with q | q
  ·exact .inl q
  ·exact .inr {q,PySem.W.cellsFrom_some _ _ _ (.inl q)}
 refine codeAny_call_function hr.depth (KX _ _ lk) rfl S.co S.gen rfl (PySem.W.codeRec_of KX hcd) (hb _ _ _ _ ?_);refine wpAny_newFunctionEnv_cells S.kind hkind λenv he s1 x=>?_;subst he;refine{lim.keeps x.toInCall.keep,codeAny_func ?_};let⟨t,ht,hq⟩:=hbody A outer s H vs Q E (hr.deeper _) hsp;let I:Inv (kc CX P w K mg base N qual scope f cdv A outer s H E) [] (start N vs) H s1:=ME S hr.hd e0 hl r x;refine xg (ht [] s1 (start N vs) H _ I hq) (λfl s' hs=>?_) λe s' hs=>hs;let fin:∀{U':St} {H':Hp} {v:V} {u:vz},Inv (kc CX P w K mg base N qual scope f cdv A outer s H E) [] U' H' s'->RelV v u->Q v H'->CE outer P w H s Q u s':=
  λ{U' H' v u} J rv q=>{(v),H',J.os,J.bare,J.base,J.bZ,rv,q}
 cases fl with
 | ret u=>
  let⟨v,U',H',J,rv,q⟩:=hs;exact fin J rv q
 | next=>
  let⟨U',H',J,q⟩:=hs;exact fin (v:=V.bH) (u:=Value.none) J rfl q
 | brk=>
  let⟨_,_,_,q⟩:=hs;exact False.elim q
 | cont=>
  let⟨_,_,_,q⟩:=hs;exact False.elim q
end L2
namespace L2
open PySem PySem.Spec PyProof.Rows
section
variable {X:Cx} {x:Str} {p pos:Pos} {e:Expr} {es:List Expr} {t:TA} {id T:String} {r:List V->Hp->VK->Prop}
def LW (r:List V->Hp->VK->Prop) (t:TA):TE:=λU H Q=>t U H λvs H1=>r vs H1 Q
def Ht (hc:fk X (.builtin id) r) (hg:Gl X x) (hm:X.mg x=none) (hv:bootBuiltins x=some (.builtin id)) (ha:PA X (e::es) t) (hn:x≠ "__name__"<|>qb_) (hdb:(x == ("__debug__": Str))=false<|>qb_)
  (he:starEach (e::es) X.env=(false,eval e X.env)::starEach es X.env<|>qe_) (hpl:(backTo pos (starEach es X.env)).any (·.1)=false<|>qe_):PE X (.Call (.Name x p) (e::es) [] pos) (LW r t):=by
 intro pins s U H Q I h;refine xt (jd I hg hm hv ?_ hn hdb);exact PyProof.Rows.callWith_builtin1 (cM (ha pos pins s U H _ I h) λus s1 ⟨vs,H1,I1,r1,q1⟩=>hc pins s1 U H1 vs us Q I1 r1 q1) he hpl
def Mn (hc:fk X (.type T) r) (hg:Gl X x) (hm:X.mg x=none) (hv:bootBuiltins x=some (.type T)) (ha:PA X (e::es) t) (hn:x≠ "__name__"<|>qb_) (hdb:(x == ("__debug__": Str))=false<|>qb_)
  (he:starEach (e::es) X.env=(false,eval e X.env)::starEach es X.env<|>qe_) (hpl:(backTo pos (starEach es X.env)).any (·.1)=false<|>qe_):PE X (.Call (.Name x p) (e::es) [] pos) (LW r t):=by
 intro pins s U H Q I h;refine xt (jd I hg hm hv ?_ hn hdb);exact yM (cM (ha pos pins s U H _ I h) λus s1 ⟨vs,H1,I1,r1,q1⟩=>hc pins s1 U H1 vs us Q I1 r1 q1) he hpl
end
end L2
namespace HT
open PySem PyProof.Rows
section
open PySem.SeqAt
open PySem.AutoSeq1 (wpAny_loadPart')
open PySem.MeetsSeq PySem.MeetsSeq2 PySem.MeetsSeq3
end
section
variable {prog:vB} {w:vC} {A:vD} {E:vz->vA->Prop} {s:vA}
def Rg {t b:vF} {vs ws:List vz} {Q:vz->vA->Prop} (ht:IsTup s.heap t vs.toArray) (hb:IsTup s.heap b ws.toArray) (hv:vs≠[])
  (h1:ws=[]->Q (.ref t) s) (h2:ws≠[]->Q (.ref ↑s) {s with heap:=s.heap.push {cls:=.type "tuple",data:=.seq (vs++ws).toArray}})
  (hsz:⇑vs+⇑ws<=sizeLine):wpAny (model prog w) A (binaryOp .Add (.ref t) (.ref b)) Q E s:=by
 let⟨⟨cls,dd,data,sl⟩,ho,hc,n,hd⟩:=id ht;let⟨⟨cls2,dd2,data2,sl2⟩,ho2,hc2,n2,hd2⟩:=id hb;simp only at hc hd hc2 hd2;subst hc hd hc2 hd2;let e:vs.toArray++ws.toArray=(vs++ws).toArray:=by simp
 by_cases hw:ws=[]
 ·exact concat_meets {_,ho,rfl} {_,ho2,rfl} noFill_tuple_add seq_tuple_add PySem.F.slot_tuple_add PySem.F.entry_tuple_add (PySem.F.args_tuple_add_2 _ _)
   (tuple_addW1 t b vs.toArray ws.toArray n n2 dd dd2 sl sl2 (by simpa using hv) (by simp[hw])) {ho,ho2,h1 hw}
 ·refine concat_meets {_,ho,rfl} {_,ho2,rfl} noFill_tuple_add seq_tuple_add PySem.F.slot_tuple_add PySem.F.entry_tuple_add (PySem.F.args_tuple_add_2 _ _)
   (tuple_addW2 t b vs.toArray ws.toArray n n2 dd dd2 sl sl2 (by simpa using hv) (by simpa using hw) (by rw[yb,yb];exact hsz)) {ho,ho2,?_}
  rw[e];exact h2 hw
def eV (n d:Nat):Option Int->Nat
 | none=>d
 | some v=>if v<0 then(v+(n:Int)).toNat else min v.toNat n
def G6 (n d:Nat):eV n d none=d:=rfl
def Sv (n d:Nat) (hd:d<=n) (o:Option Int):eV n d o<=n:=by
 cases o with
 | none=>exact hd
 | some v=>
  show(if v<0 then(v+(n:Int)).toNat else min v.toNat n)<=n
  by_cases hv:v<0
  ·rw[yO hv];ext
  ·rw[yN hv];exact Nat.min_le_right _ _
def Lz (v:Int) (n d:Nat):(if v<0 then max (v+(n:Int)) 0 else min v (n:Int))=((eV n d (some v):Nat):Int):=by
 show(if v<0 then max (v+(n:Int)) 0 else min v (n:Int))=(((if v<0 then(v+(n:Int)).toNat else min v.toNat n):Nat):Int)
 by_cases hv:v<0
 ·simp only[yO hv];ext
 ·simp only[yN hv];ext
def Ko (lo hi:Option Int) (n:Nat):Builtin.Slice.sliceAdjust lo hi 1 (n:Int)=(((eV n 0 lo:Nat):Int),((eV n n hi:Nat):Int)):=by
 let h1:¬((1:Int)<0):=()
 unfold Builtin.Slice.sliceAdjust;simp only[h1,wu];refine Prod.ext ?_ ?_
 ·cases lo with
  | none=>rfl
  | some v=>exact Lz v n 0
 ·cases hi with
  | none=>rfl
  | some v=>exact Lz v n n
def JM (i j:Nat):Builtin.Slice.slicePlaces (i:Int) (j:Int) 1=j-i:=by
 unfold Builtin.Slice.slicePlaces;let h1:(1:Int)>0:=()
 simp only[h1,vi,Int.ediv_one];split <;> ext
def As (p:IsPart v o) (h:Q o s):wpAny (model prog w) A (Builtin.Slice.slicePartIndex v) Q E s:=by
 cases p with
 | none=>exact slicePart_none h
 | int i t=>exact slicePart_int h
def kr {sl:vF} {vl vu:vz} {lo hi:Option Int} {n:Nat} {Q:Int×Int×Nat->vA->Prop} (hs:s.heap.IsSliceOf sl vl vu .none) (pl:IsPart vl lo) (pu:IsPart vu hi)
  (h:Q (((eV n 0 lo:Nat):Int),1,eV n n hi-eV n 0 lo) s):wpAny (model prog w) A (Builtin.Slice.sliceApplied (.ref sl) (pure (n:Int))) Q E s:=by
 let⟨os,hos,hcs,hds⟩:=id hs;unfold Builtin.Slice.sliceApplied Builtin.Slice.sliceFields;refine yu (yu (y7 hos hds (x:=vl) rfl (yu (y7 hos hds (x:=vu) rfl (yu (y7 hos hds (x:=.none) rfl (yw ?_)))))));refine yu (slicePart_none ?_);show wpAny _ _ (if((1:Int) == 0)=true then _ else _) _ _ s;rw[yN ∅];refine yu (As pl (yu (As pu (yu (yw ?_)))));show wpAny _ _ (match Builtin.Slice.sliceAdjust lo hi 1 (n:Int) with | (lo,hi)=>pure (lo,(1:Int),Builtin.Slice.slicePlaces lo hi 1)) _ _ s;rw[Ko lo hi n];show wpAny _ _ (pure (((eV n 0 lo:Nat):Int),(1:Int),Builtin.Slice.slicePlaces ((eV n 0 lo:Nat):Int) ((eV n n hi:Nat):Int) 1)) _ _ s;rw[JM];exact yw h
def Ox (xs:Array vz) (i k:Nat):((List.range k).filterMap λ(m:Nat)=>xs[((i:Int)+(m:Int)*1).toNat]?).toArray=((xs.toList.drop i).take k).toArray:=by
 let e:(λ(m:Nat)=>xs[((i:Int)+(m:Int)*1).toNat]?)=λm=>xs[i+m]?:=by
  funext m
  have:((i:Int)+(m:Int)*1).toNat=i+m:=()
  rw[this]
 rw[e];have:=pick_run xs i k;rw[List.filterMap_map] at this;let e2:((λx=>xs[x]?)∘λx=>i+x)=λm=>xs[i+m]?:=rfl;rw[e2] at this;rw[this]
def qZ {t sl:vF} {items:Array vz} {vl vu:vz} {lo hi:Option Int} {Q:vz->vA->Prop} (ht:IsTup s.heap t items) (hs:s.heap.IsSliceOf sl vl vu .none) (pl:IsPart vl lo) (pu:IsPart vu hi)
  (hw:¬(eV items.size 0 lo=0/\eV items.size items.size hi=items.size))
  (h:Q (.ref ↑s) {s with heap:=s.heap.push {cls:=.type "tuple",data:=.seq ((items.toList.drop (eV items.size 0 lo)).take (eV items.size items.size hi-eV items.size 0 lo)).toArray}})
  (hsz:items.size<=sizeLine):wpAny (model prog w) A (getItem (.ref t) (.ref sl)) Q E s:=by
 let htake:sizeOk (.seq ((items.toList.drop (eV items.size 0 lo)).take (eV items.size items.size hi-eV items.size 0 lo)).toArray):=by
  show((items.toList.drop (eV items.size 0 lo)).take (eV items.size items.size hi-eV items.size 0 lo)).toArray.size<=sizeLine;rw[yb,zQ,xD,yQ];ext
 let hj:eV items.size items.size hi<=items.size:=Sv _ _ (zm _) hi;let⟨os,hos,hcs,hds⟩:=id hs;let hTs:s.TypeIs (.ref sl) "slice":={(os),hos,hcs}
 unfold getItem
 try with_reducible refine xJ ?_
 first | refine yu (yw ?_) | skip
 refine yu (wpAny_sequenceKey ht.typeIs ∅ ?_);refine yu (yZ (name:=Str.ofString "__getitem__") ht.typeIs xQ
  (xb xQ ht.typeIs entry_tuple_getitem ?_ (args_tuple_getitem _ _)))
 show wpAny _ _ (Builtin.Tuple.tupleItemsOf (.ref t) >>= _) _ _ s;refine yu (tupleItemsOf_ ht ?_);refine yu (vj hTs ?_);rw[yO ∅];refine yu (kr hs pl pu ?_);let hno:¬((((eV items.size 0 lo:Nat):Int) == 0&&(1:Int) == 1&&(eV items.size items.size hi-eV items.size 0 lo) == items.size)=true):=by
  intro q;rw[zO,zO] at q;let q1:((eV items.size 0 lo:Nat):Int)=0:=eq_of_beq q.1.1;let q2:eV items.size items.size hi-eV items.size 0 lo=items.size:=eq_of_beq q.2;exact hw {(()),()}
 show wpAny _ _ (if(((eV items.size 0 lo:Nat):Int) == 0&&(1:Int) == 1&&(eV items.size items.size hi-eV items.size 0 lo) == items.size)=true then _ else _) _ _ s;rw[yN hno,Ox]
 first
  | exact yu (m:=Builtin.Tuple.tupleExact _) (xf (yw {_,rfl,yw h}) htake)
  | exact yu (m:=Builtin.Tuple.tupleExact _) (xf (yu (yw (yw {_,rfl,yw h}))) htake)
  | exact yu (yu (m:=Builtin.Tuple.tupleExact _) (xf (yw (yw {_,rfl,yw h})) htake))
  | exact yu (yu (m:=Builtin.Tuple.tupleExact _) (xf (yw {_,rfl,yw h}) htake))
end
end HT
namespace L2
open PySem PySem.Spec PyProof.Rows
abbrev TO:=St->Hp->(Option Int->Hp->Prop)->Prop
def PO (X:Cx) (e:Option Expr) (t:TO):Prop:=
 ∀(pins:List (vF×Obj)) (s:vA) (U:St) (H:Hp) (Q:Option Int->Hp->Prop),Inv X pins U H s->t U H Q->
  wpAny (model X.prog X.w) X.A (evalPart e X.env) (λu s'=>∃o H',Inv X pins U H' s'/\IsPart u o/\Q o H') X.xe s
def Eu:TO:=λ_ H Q=>Q none H
def NO (t:TE):TO:=λU H Q=>t U H λx H1=>∃i,x=.int i/\Q (some i) H1
def intsAre_of:∀{us:List vz},Vals (ns.map V.int) us->IntsAre us ns:=by
 induction ns with
 | nil=>intro us r;rw[yn] at r;cases r;exact .nil
 | cons n ns ih=>
  intro us r;rw[zj] at r;cases r with
  | cons r1 r2=>
   let⟨t,e⟩:=r1;subst e;exact .cons n t (ih r2)
section
variable {X:Cx} {e:Expr} {te:TE} {lo hi:Option Expr} {tl th:TO} {pos p2:Pos}
def dR:PO X none Eu:=by
 intro pins s U H Q I h;rw[evalPart_none];exact yw {none,H,I,.none,h}
def dQ (h:PE X e te):PO X (some e) (NO te):=by
 intro pins s U H Q I hw;rw[evalPart_some];refine cM (h pins s U H _ I hw) λu s1 zz=>?_;let⟨x,H1,I1,r1,q1⟩:=zz;let⟨i,rfl,q⟩:=q1;let⟨t,rfl⟩:=r1;exact{some i,H1,I1,.int i t,q}
def PX (X:Cx) (r:V->Option Int->Option Int->Hp->VK->Prop):Prop:=
 ∀(pins:List (vF×Obj)) (s:vA) (U:St) (H:Hp) (x:V) (v vl vu:vz) (lo hi:Option Int) (sl:vF) (Q:VK),Inv X pins U H s->RelV x v->s.heap.IsSliceOf sl vl vu .none->IsPart vl lo->IsPart vu hi->r x lo hi H Q->
  ∃T id,typeLookup (.type T) "__getitem__"= pure (some (.builtin id))/\s.TypeIs v T/\wpAny (model X.prog X.w) X.A (getItem v (.ref sl)) (EP X pins U Q) X.xe s
def PX.or (h:PX X r) (h':PX X r'):PX X (λx lo hi H Q=>r x lo hi H Q\/r' x lo hi H Q):=by
 intro pins s U H x v vl vu lo hi sl Q I rx hs pl pu q;rcases q with q | q
 ·exact h pins s U H x v vl vu lo hi sl Q I rx hs pl pu q
 ·exact h' pins s U H x v vl vu lo hi sl Q I rx hs pl pu q
def V1 (r:V->Option Int->Option Int->Hp->VK->Prop) (te:TE) (tl th:TO):TE:=λU H Q=>te U H λx H1=>tl U H1 λl H2=>th U H2 λu H3=>r x l u H3 Q
def dn (hr:PX X r) (he:PE X e te) (hl:PO X lo tl) (hu:PO X hi th):PE X (.Subscript e (.Slice lo hi none p2) pos) (V1 r te tl th):=by
 intro pins s U H Q I h;refine Subscript_ (cM (he pins s U H _ I h) λv s1 zz=>?_);let⟨x,H1,I1,r1,q1⟩:=zz;refine wpAny_Slice (cM (hl pins s1 U H1 _ I1 q1) λvl s2 ⟨l,H2,I2,pl,q2⟩=>cM (hu pins s2 U H2 _ I2 q2) λvu s3 zz=>?_);let⟨u,H3,I3,pu,q3⟩:=zz;rw[evalPart_none];refine yw ?_;let I4:Inv X pins U H3 {s3 with heap:=s3.heap.push {cls:=.type "slice",data:=.fields #[vl,vu,.none]}}:=I3.kept (t':=s3.toks) λb ob q=>yv _ q;let⟨T,id,hT,ht,hg⟩:=hr pins {s3 with heap:=s3.heap.push {cls:=.type "slice",data:=.fields #[vl,vu,.none]}} U H3 x v vl vu l u ↑s3 Q I4 r1 (Heap.IsSliceOf.new ..) pl pu q3;show wpAny (model X.prog X.w) X.A (subscriptTail e (.Slice lo hi none p2) v (.ref ↑s3)) (EP X pins U Q) X.xe {s3 with heap:=s3.heap.push {cls:=.type "slice",data:=.fields #[vl,vu,.none]}};exact tail_any (ops:=[.ref ↑s3,v]) ht hT hg (by with_unfolding_all rfl)
def ke (xs:List V) (lo hi:Option Int):List V:=(xs.drop (HT.eV ⇑xs 0 lo)).take (HT.eV ⇑xs ⇑xs hi-HT.eV ⇑xs 0 lo)
def ug (xs:List V) (lo hi:Option Int):⇑(ke xs lo hi)<=⇑xs:=by
 unfold ke;rw[zQ,xD];ext
def UA (K:yB):V->Option Int->Option Int->Hp->VK->Prop:=λx lo hi H Q=>∃a xs,x=.ref a/\cU K H a xs/\
 ¬(HT.eV ⇑xs 0 lo=0/\HT.eV ⇑xs ⇑xs hi=⇑xs)/\∀p,H p=none->Q (.ref p) (upd H p (.tup (ke xs lo hi)))
def Ss:PX X (UA X.K):=by
 intro pins s U H x v vl vu lo hi sl Q I rx hs pl pu h;let⟨a,xs,rfl,hx,hw,q⟩:=h;cases rx;let⟨its,r,ht,hz⟩:=I.tuple hx;let hlen:its.toArray.size=⇑xs:=by rw[yb];exact r.length.symm
 refine{"tuple",_,xQ.lookup,ht.typeIs,?_};refine HT.qZ ht hs pl pu (by rw[hlen];exact hw) ?_ (by rw[hlen];exact hz);rw[hlen];refine{.ref ↑s,_,I.laid (t':=s.toks) (o:=.tup (ke xs lo hi)) (λb ob q=>yv _ q) (zm _) ?_,rfl,q _ (I.bZ.fresh (zm _))};exact{zM (ug xs lo hi) hz,_,(r.drop (HT.eV ⇑xs 0 lo)).take (HT.eV ⇑xs ⇑xs hi-HT.eV ⇑xs 0 lo),IsTup.new _ _}
def UB (K:yB):R2:=λx y H Q=>∃a b xs ys,x=.ref a/\y=.ref b/\cU K H a xs/\cU K H b ys/\xs≠[]/\⇑xs+⇑ys<=sizeLine/\
 (ys=[]->Q (.ref a) H)/\(ys≠[]->∀p,H p=none->Q (.ref p) (upd H p (.tup (xs++ys))))
def Vals.Fl {xs:List V} {us:List vz} (r:Vals xs us):us=[]↔xs=[]:=by
 cases r with
 | nil=>simp
 | cons _ _=>simp
def QM:ng X (binaryOp .Add) (UB X.K):=by
 intro pins s U H x y v u Q I rx ry h;let⟨a,b,xs,ys,rfl,rfl,ha,hb,hx,hz,q1,q2⟩:=h;cases rx;cases ry;let⟨its,r1,p1,_⟩:=I.tuple ha;let⟨its2,r2,p2,_⟩:=I.tuple hb;refine HT.Rg p1 p2 (λz=>hx (r1.Fl.mp z)) (λz=>{.ref a,H,I,rfl,q1 (r2.Fl.mp z)}) (λz=>?_) (by rw[<-⇑r1,<-⇑r2];exact hz);refine{.ref ↑s,_,I.laid (t':=s.toks) (o:=.tup (xs++ys)) (λb ob q=>yv _ q) (zm _) ?_,rfl,q2 (λw=>z (r2.Fl.mpr w)) _ (I.bZ.fresh (zm _))};exact{by rw[zh];exact hz,_,r1.append r2,IsTup.new _ _}
end
end L2
namespace L2
open PySem PySem.Spec PyProof.Rows
def O1 (n:Nat) (i:Int):Option Nat:=if 0<=i then(if i<n then some i.toNat else none) else if -(n:Int)<=i then some (i+n).toNat else none
def Ek (xs:List α) (i:Int):Option α:=(O1 ⇑xs i).bind λj=>xs[j]?
def Li (h:O1 n i=some j):seqIndex? i n=some j/\j<n/\-(n:Int)<=i/\i<n:=by
 unfold O1 at h
 by_cases h0:0<=i
 ·rw[yO h0] at h
  by_cases h1:i<n
  ·rw[yO h1] at h
   let e:i.toNat=j:=yk h;exact{by rw[seqIndex_of h0 h1,e],(),(),h1}
  ·rw[yN h1] at h;cases h
 ·rw[yN h0] at h
  by_cases h1:-(n:Int)<=i
  ·rw[yO h1] at h
   let e:(i+n).toNat=j:=yk h;exact{by rw[seqIndex_neg () h1,e],(),h1,()}
  ·rw[yN h1] at h;cases h
def FZ (h:Ek xs i=some v):∃j,seqIndex? i ⇑xs=some j/\xs[j]?=some v/\j<⇑xs/\-(⇑xs:Int)<=i/\i<⇑xs:=by
 unfold Ek at h;cases e:O1 ⇑xs i with
 | none=>rw[e] at h;cases h
 | some j=>
  rw[e] at h;let⟨h1,h2,h3,h4⟩:=Li e;exact{(j),h1,h,h2,h3,h4}
def bA {α:Type} {xs:List α} {j:Nat} {v:α} (h:xs[j]?=some v):Ek xs (j:Int)=some v:=by
 let hj:j<⇑xs:=(zy.mp h).1;let e:O1 ⇑xs (j:Int)=some j:=by
  unfold O1;rw[yO (),yO ()];simp
 unfold Ek;rw[e];exact h
def BN (xs:List α) (v:α):Ek (xs++[v]) (-1)=some v:=by
 let hl:⇑(xs++[v])=⇑xs+1:=by simp
 let e:O1 ⇑(xs++[v]) (-1)=some ⇑xs:=by
  unfold O1;rw[hl,yN ∅,yO ()]
  congr 1
  ext
 unfold Ek;rw[e];show(xs++[v])[⇑xs]?=some v;simp
def rK (b:Expr):Prop:=∀o i,subscripted b false o i=operate [o,i] (getItem o i)
def VA (X:Cx) (r:R2):Prop:=
 ∀(value slice:Expr) (pins:List (vF×Obj)) (s:vA) (U:St) (H:Hp) (x y:V) (v u:vz) (Q:VK),Inv X pins U H s->RelV x v->RelV y u->r x y H Q->
  subscripted slice false v u=operate [v,u] (getItem v u)->wpAny (model X.prog X.w) X.A (subscriptTail value slice v u) (EP X pins U Q) X.xe s
def WQ (X:Cx) (id:String) (r:V->List V->Hp->VK->Prop):Prop:=
 ∀(pins:List (vF×Obj)) (s:vA) (U:St) (H:Hp) (x:V) (xs:List V) (v:vz) (us:List vz) (Q:VK),Inv X pins U H s->RelV x v->Vals xs us->r x xs H Q->
  wpAny (model X.prog X.w) X.A (call (.builtin id) (v::us)) (EP X pins U Q) X.xe s
section
variable {X:Cx} {a b:Expr} {ta tb:TE} {pos:Pos}
def AW (hr:VA X r) (ha:PE X a ta) (hb:PE X b tb) (hs:rK b):PE X (.Subscript a b pos) (e9 r ta tb):=by
 intro pins s U H Q I h;exact Subscript_ (TL ha hb I h λv u s2 x y H2 I2 rx ry q=>hr a b pins s2 U H2 x y v u Q I2 rx ry q (hs _ _))
inductive Qy (K:yB) (x y:V) (H:Hp) (Q:VK):Prop
 | mk (p:vF) (xs:List V) (i:Int) (v:V) (_:x=.ref p) (_:y=.int i) (_:aH K H p xs) (_:Ek xs i=some v) (_:Q v H)
inductive o7 (K:yB) (x y:V) (H:Hp) (Q:VK):Prop
 | mk (p:vF) (xs:List V) (i:Int) (v:V) (_:x=.ref p) (_:y=.int i) (_:cU K H p xs) (_:Ek xs i=some v) (_:Q v H)
def Qx:R2:=λx y H Q=>∃z i c,x=.str z/\y=.int i/\⇑z<=sizeLine/\Ek z.cps.toList i=some c/\Q (.str {#[c]}) H
def Lh:VA X (Qy X.K):=by
 intro value slice pins s U H x y v u Q I rx ry h hs;let⟨p,xs,i,z,rfl,rfl,hq,he,q⟩:=h;cases rx;let⟨t,rfl⟩:=ry;let⟨its,r,pl,hz⟩:=I.list hq;let⟨j,h1,h2,h3,h4,h5⟩:=FZ he;let⟨w,ew,rw'⟩:=r.get h2;let hl:=⇑r;let hn:=sQ;let fin:EP X pins U Q w s:={(z),H,I,rw',q}
 by_cases h0:0<=i
 ·let hj:i.toNat=j:=by
   rw[seqIndex_of h0 h5] at h1;exact yk h1
  exact item_listR pl.isList h0 () (by rw[hj];simpa using ew) fin hs
 ·let hj:(i+(its.toArray.size:Int)).toNat=j:=by
   rw[seqIndex_neg () h4] at h1;rw[yb,<-hl];exact yk h1
  exact subscriptTail_builtinR (x:=w) pl.isList.typeIs slot_list_getitem.lookup
   (wpAny_getItem_list_neg (Q:=λr s'=>r=w/\EP X pins U Q r s') pl.isList () (by rw[yb] <;> ext) () (by rw[hj];simpa using ew) {(rfl),fin}) hs
def Tj:VA X (o7 X.K):=by
 intro value slice pins s U H x y v u Q I rx ry h hs;let⟨p,xs,i,z,rfl,rfl,hq,he,q⟩:=h;cases rx;let⟨t,rfl⟩:=ry;let⟨its,r,pl,hz⟩:=I.tuple hq;let⟨j,h1,h2,h3,h4,h5⟩:=FZ he;let⟨w,ew,rw'⟩:=r.get h2;let hl:=⇑r;let hn:=sQ;let fin:EP X pins U Q w s:={(z),H,I,rw',q}
 exact subscriptTail_builtinR (x:=w) pl.typeIs slot_tuple_getitem.lookup
  (getItem_tuple (j:=j) (Q:=λr s'=>r=w/\EP X pins U Q r s') pl () () (by rw[yb,<-hl];exact h1) (by simpa using ew) {(rfl),fin}) hs
def Fq:VA X Qx:=by
 intro value slice pins s U H x y v u Q I rx ry h hs;let⟨z,i,c,rfl,rfl,hz,he,q⟩:=h;let⟨t,rfl⟩:=rx;let⟨t',rfl⟩:=ry;let⟨j,h1,h2,h3,h4,h5⟩:=FZ he;let hl:⇑z.cps.toList=⇑z:=by simp[Str.length]
 rw[hl] at h1 h4 h5;let hn:=sQ;exact tail_any (wR s z t) slot_str_getitem.lookup (getItem_str (c:=c) (by
  let e1:decide (i < -(2^63:Int))=false:=ze ();let e2:decide (i≥2^63)=false:=ze ();rw[e1,e2,Bool.or_false]) (by rw[h1];simpa using h2) {.str {#[c]},H,I.tok _,{_,rfl},q}) hs
def JU (its:List vz) (n j:Nat) (u:vz):Obj.mapSeq (·.setIfInBounds j u) {cls:=.type "list",data:=.seq its.toArray n}={cls:=.type "list",data:=.seq (its.set j u).toArray n}:=by
 simp[Obj.mapSeq]
theorem Inv.lst {pins:List (vF×Obj)} {U:St} {H:Hp} {s:vA} {p:vF} {xs:List V} (I:Inv X pins U H s) (h:H p=some (.lst xs)) :
  ∃(its:List vz) (n:Nat),Vals xs its/\s.heap.get? p=some {cls:=.type "list",data:=.seq its.toArray n}/\⇑xs<=sizeLine:=by
 let⟨z,its,n,r,e⟩:=I.bZ p _ h;exact{(its),n,r,e,z}
def Inv.S8 {pins:List (vF×Obj)} {U:St} {H:Hp} {s:vA} {p:vF} {xs ys:List V} {its its':List vz} {n n':Nat} {f:Obj->Obj} (I:Inv X pins U H s) (h:H p=some (.lst xs))
  (ho:s.heap.get? p=some {cls:=.type "list",data:=.seq its.toArray n}) (hf:f {cls:=.type "list",data:=.seq its.toArray n}={cls:=.type "list",data:=.seq its'.toArray n'}) (r:Vals ys its') (hz:⇑ys<=sizeLine) (t:Nat) :
  Inv X pins U (upd H p (.lst ys)) {s with heap:=s.heap.update p f,toks:=t}:=by
 let e:(s.heap.update p f).get? p=some {cls:=.type "list",data:=.seq its'.toArray n'}:=by
  rw[yA f ho (by rw[hf] <;> rfl),hf]
 refine I.write (x:=p) (e:=p) (by rw[h];trivial) (.inl rfl) (λb u hb q=>(yz _ _ (Ne.symm hb)).trans q) {_,e} ?_;exact{(hz),its',n',r,e}
def RF:V->V->V->Hp->(Hp->Prop)->Prop:=λo i v H Q=>∃p xs k j,o=.ref p/\i=.int k/\H p=some (.lst xs)/\O1 ⇑xs k=some j/\Q (upd H p (.lst (xs.set j v)))
def set_list:Vc X RF:=by
 intro pins s U H o i v ov iv u Q I ro ri rv h;let⟨p,xs,k,j,rfl,rfl,hp,hj,q⟩:=h;cases ro;let⟨t,rfl⟩:=ri;let⟨its,n,r,ho,hz⟩:=I.lst hp;let⟨h1,h2,h3,h4⟩:=Li hj;let hl:=⇑r;let hn:=sQ;let I':Inv X pins U (upd H p (.lst (xs.set j v))) {s with heap:=s.heap.update p (Obj.mapSeq (·.setIfInBounds j u))}:=
  I.S8 hp ho (JU its n j u) (r.set rv j) (by rw[List.length_set];exact hz) s.toks
 by_cases h0:0<=k
 ·let hk:k.toNat=j:=by
   rw[seqIndex_of h0 h4] at h1;exact yk h1
  exact PySem.W.ki_setAt ho h0 () (by rw[yb,<-hl];exact h4) (by rw[hk];exact{_,I',q})
 ·let hk:(k+(its.toArray.size:Int)).toNat=j:=by
   rw[seqIndex_neg () h3] at h1;rw[yb,<-hl];exact yk h1
  exact PySem.W.ki_setBack ho () (by rw[yb,<-hl];exact h3) () (by rw[hk];exact{_,I',q})
def EI (lo hi:Option Int) (n:Nat):(sliceBounds lo hi none n).1=((HT.eV n 0 lo:Nat):Int)/\(sliceBounds lo hi none n).2.1=((HT.eV n n hi:Nat):Int)/\(sliceBounds lo hi none n).2.2=1:=by
 refine{?_,?_,rfl}
 ·cases lo with
  | none=>simp[sliceBounds,HT.eV]
  | some i=>
   simp only[sliceBounds,HT.eV,Option.getD_none,show(1:Int)>0 by decide,vi]
   by_cases h:i<0
   ·simp only[h,vi] <;> ext
   ·simp only[h,wu] <;> ext
 ·cases hi with
  | none=>simp[sliceBounds,HT.eV]
  | some i=>
   simp only[sliceBounds,HT.eV,Option.getD_none,show(1:Int)>0 by decide,vi]
   by_cases h:i<0
   ·simp only[h,vi] <;> ext
   ·simp only[h,wu] <;> ext
def Cn (its:List vz) (lo hi:Option Int):slicePick its.toArray lo hi none=((its.drop (HT.eV ⇑its 0 lo)).take (HT.eV ⇑its ⇑its hi-HT.eV ⇑its 0 lo)).toArray:=by
 let⟨h1,h2,h3⟩:=EI lo hi its.toArray.size;unfold slicePick;rw[h1,h2,h3];simp only[sliceRange_one,pick_run,yb] <;> rfl
def Wc (K:yB):V->Option Int->Option Int->Hp->VK->Prop:=λx lo hi H Q=>∃a xs,x=.ref a/\aH K H a xs/\∀p,H p=none->Q (.ref p) (upd H p (.lst (ke xs lo hi)))
def gz:PX X (Wc X.K):=by
 intro pins s U H x v vl vu lo hi sl Q I rx hs pl pu h;let⟨a,xs,rfl,hx,q⟩:=h;cases rx;let⟨its,r,ht,hz⟩:=I.list hx;let hlen:=⇑r;refine{"list",_,slot_list_getitem.lookup,ht.isList.typeIs,?_};refine wpAny_getItem_list_slice ht.isList hs pl pu .none (by simp) ?_ (by rw[yb] <;> ext);rw[Cn,<-hlen];refine{.ref ↑s,_,I.laid (t':=s.toks) (o:=.lst (ke xs lo hi)) (λb ob q=>yv _ q) (zm _) ?_,rfl,q _ (I.bZ.fresh (zm _))};exact{zM (ug xs lo hi) hz,_,0,(r.drop (HT.eV ⇑xs 0 lo)).take (HT.eV ⇑xs ⇑xs hi-HT.eV ⇑xs 0 lo),yx _ rfl}
def mj:V->Bool
 | .bH=>true
 | .bl _=>true
 | .int _=>true
 | .str _=>true
 | _=>false
def J3:V->V->Bool
 | .bH,.bH=>true
 | .bl a,.bl b=>a == b
 | .bl a,.int b=>(if a then 1 else 0) == b
 | .int a,.bl b=>a == (if b then 1 else 0)
 | .int a,.int b=>a == b
 | .str a,.str b=>a == b
 | _,_=>false
def Pk (ry:RelV y u) (rx:RelV x v) (fy:mj y=true) (fx:mj x=true):SeqAt.EqAt A s u v (J3 y x):=by
 cases y with
 | bH=>
  cases ry;cases x with
  | bH=>cases rx;exact SeqAt.EqAt.same _
  | bl b=>cases rx;exact SeqAt.EqAt.none_bool b
  | int b=>let⟨t,rfl⟩:=rx;exact SeqAt.EqAt.none_int b t
  | str b=>let⟨t,rfl⟩:=rx;exact SeqAt.EqAt.none_str b t
  | _=>exact absurd (show false=true from fx) zL
 | bl a=>
  cases ry;cases x with
  | bH=>cases rx;exact SeqAt.EqAt.bool_none a
  | bl b=>cases rx;exact SeqAt.EqAt.bool_bool a b
  | int b=>let⟨t,rfl⟩:=rx;exact SeqAt.EqAt.bool_int a b t
  | str b=>let⟨t,rfl⟩:=rx;exact SeqAt.EqAt.bool_str a b t
  | _=>exact absurd (show false=true from fx) zL
 | int a=>
  let⟨t',rfl⟩:=ry;cases x with
  | bH=>cases rx;exact SeqAt.EqAt.int_none a t'
  | bl b=>cases rx;exact SeqAt.EqAt.int_bool a t' b
  | int b=>let⟨t,rfl⟩:=rx;exact SeqAt.EqAt.int_int a t' b t
  | str b=>let⟨t,rfl⟩:=rx;exact SeqAt.EqAt.int_str a t' b t
  | _=>exact absurd (show false=true from fx) zL
 | str a=>
  let⟨t',rfl⟩:=ry;cases x with
  | bH=>cases rx;exact SeqAt.EqAt.str_none a t'
  | bl b=>cases rx;exact SeqAt.EqAt.str_bool a t' b
  | int b=>let⟨t,rfl⟩:=rx;exact SeqAt.EqAt.str_int a t' b t
  | str b=>let⟨t,rfl⟩:=rx;exact SeqAt.EqAt.str_str a t' b t
  | _=>exact absurd (show false=true from fx) zL
 | _=>exact absurd (show false=true from fy) zL
def J4 (x:V) (u:vz):Bool:=match u with
 | .none=>J3 .bH x
 | .bool b=>J3 (.bl b) x
 | .int i _=>J3 (.int i) x
 | .str z _=>J3 (.str z) x
 | _=>false
def Pj (r:RelV y u) (f:mj y=true):J4 x u=J3 y x:=by
 cases y with
 | bH=>cases r;rfl
 | bl b=>cases r;rfl
 | int i=>let⟨t,rfl⟩:=r;rfl
 | str z=>let⟨t,rfl⟩:=r;rfl
 | _=>exact absurd (show false=true from f) zL
theorem rD:∀{xs:List V} {us:List vz},Vals xs us->xs.all mj=true->us.any (J4 x)=xs.any λy=>J3 y x
 | _,_,.nil,_=>rfl
 | y::xs,u::us,.cons r t,f=>by
  rw[wY,zO] at f;rw[xu,xu,Pj r f.1,rD t f.2]
theorem mZ (rx:RelV x v) (fx:mj x=true):∀{xs:List V} {us:List vz},Vals xs us->xs.all mj=true->∀u∈us,SeqAt.EqAt A s u v (J4 x u)
 | _,_,.nil,_=>λu hu=>by cases hu
 | y::xs,u::us,.cons r t,f=>λu' hu=>by
  rw[wY,zO] at f;rcases zD.mp hu with rfl | hu
  ·rw[Pj r f.1];exact Pk r rx f.1 fx
  ·exact mZ rx fx t f.2 u' hu
def Gk (x:V) (xs:List V):Bool:=xs.any λy=>J3 y x
inductive T6 (K:yB) (neg:Bool) (x y:V) (H:Hp) (Q:VK):Prop
 | mk (p:vF) (xs:List V) (_:y=.ref p) (_:aH K H p xs\/cU K H p xs) (_:mj x=true) (_:xs.all mj=true) (_:Q (.bl (if neg then !Gk x xs else Gk x xs)) H)
def kA:ng X (compareOp .In) (T6 X.K false):=by
 intro pins s U H x y v u Q I rx ry h;let⟨p,xs,rfl,hq,fx,fs,q⟩:=h;cases ry;rcases hq with hq | hq
 ·let⟨its,r,pl,hz⟩:=I.list hq
  refine SeqAt.in_listAt (J4 x) pl.isList (λw hw=>mZ rx fx r fs w (by simpa using hw)) {.bl _,H,I,rfl,?_};rw[show its.toArray.any (J4 x)=its.any (J4 x) by simp,rD r fs];exact q
 ·let⟨its,r,pl,hz⟩:=I.tuple hq
  refine SeqAt.in_tupleAt (J4 x) pl (λw hw=>mZ rx fx r fs w (by simpa using hw)) {.bl _,H,I,rfl,?_};rw[show its.toArray.any (J4 x)=its.any (J4 x) by simp,rD r fs];exact q
def eP:ng X (compareOp .NotIn) (T6 X.K true):=by
 intro pins s U H x y v u Q I rx ry h;let⟨p,xs,rfl,hq,fx,fs,q⟩:=h;cases ry;rcases hq with hq | hq
 ·let⟨its,r,pl,hz⟩:=I.list hq
  refine SeqAt.notIn_listAt (J4 x) pl.isList (λw hw=>mZ rx fx r fs w (by simpa using hw)) {.bl _,H,I,rfl,?_};rw[show its.toArray.any (J4 x)=its.any (J4 x) by simp,rD r fs];exact q
 ·let⟨its,r,pl,hz⟩:=I.tuple hq
  refine SeqAt.notIn_tupleAt (J4 x) pl (λw hw=>mZ rx fx r fs w (by simpa using hw)) {.bl _,H,I,rfl,?_};rw[show its.toArray.any (J4 x)=its.any (J4 x) by simp,rD r fs];exact q
def aF:fk X (.builtin "len") (λxs H Q=>∃p ys,xs=[.ref p]/\(aH X.K H p ys\/cU X.K H p ys)/\Q (.int ⇑ys) H):=by
 intro pins s U H xs us Q I r h;let⟨p,ys,rfl,hq,q⟩:=h;let⟨u,rfl,rx⟩:=vals1 r;cases rx;let hn:=sQ;rcases hq with hq | hq
 ·let⟨its,r',pl,hz⟩:=I.list hq
  let hlen:=⇑r';exact Calls.call_len_list pl.isList (by simp only[yb] <;> ext) {.int ⇑ys,H,I.tok _,{s.toks+1,by rw[yb,hlen]},q}
 ·let⟨its,r',pl,hz⟩:=I.tuple hq
  let hlen:=⇑r';exact len_tuple pl (by simp only[yb] <;> ext) {.int ⇑ys,H,I.tok _,{s.toks+1,by rw[yb,hlen]},q}
def fV:fk X (.builtin "len") (λxs H Q=>∃z,xs=[.str z]/\⇑z<=sizeLine/\Q (.int ⇑z) H):=by
 intro pins s U H xs us Q I r h;let⟨z,rfl,hz,q⟩:=h;let⟨u,rfl,t,rfl⟩:=vals1 r;let hn:=sQ;exact len_str () {.int ⇑z,H,I.tok _,{_,rfl},q}
def iB:fk X (.type "list") (λxs H Q=>∃p ys,xs=[.ref p]/\(aH X.K H p ys\/cU X.K H p ys)/\∀l,H l=none->Q (.ref l) (upd H l (.lst ys))):=by
 intro pins s U H xs us Q I r h;let⟨p,ys,rfl,hq,q⟩:=h;let⟨u,rfl,rx⟩:=vals1 r;cases rx;let fin:∀(its:List vz),Vals ys its->⇑ys<=sizeLine->∀(h':vG) (c':Nat),(∀b o',s.heap.get? b=some o'->h'.get? b=some o')->
   h'.get? ↑s=some {cls:=.type "list",dict:=none,data:=.seq its.toArray c',slots:=#[]}->EP X pins U Q (.ref ↑s) {s with heap:=h'}:=λits r' hz h' c' kp e=>
  {.ref ↑s,_,I.laid (t':=s.toks) kp (zm _) (show cB X.prog X.w _ h' _ (.lst ys) from{(hz),its,c',r',e}),rfl,q _ (I.bZ.fresh (zm _))}
 rcases hq with hq | hq
 ·let⟨its,r',pl,hz⟩:=I.list hq
  let hlen:=⇑r';let⟨o,ho,hc,n,hd⟩:=pl.isList;exact call_list_seq p (.inl rfl) ho hc hd (λh' c' kp e=>fin its r' hz h' c' kp e) (by simp only[yb] <;> ext)
 ·let⟨its,r',pl,hz⟩:=I.tuple hq
  let hlen:=⇑r';let⟨o,ho,hc,n,hd⟩:=pl;exact call_list_seq p (.inr rfl) ho hc hd (λh' c' kp e=>fin its r' hz h' c' kp e) (by simp only[yb] <;> ext)
def cL:fk X (.type "tuple") (λxs H Q=>∃p ys,xs=[.ref p]/\((aH X.K H p ys/\∀l,H l=none->Q (.ref l) (upd H l (.tup ys)))\/(cU X.K H p ys/\Q (.ref p) H))):=by
 intro pins s U H xs us Q I r h;let⟨p,ys,rfl,h⟩:=h;let⟨u,rfl,rx⟩:=vals1 r;cases rx;rcases h with⟨hq,q⟩ | ⟨hq,q⟩
 ·let⟨its,r',pl,hz⟩:=I.list hq
  let hlen:=⇑r';refine call_tuple_list pl.isList (λh' kp=>?_) (by simp only[yb] <;> ext);let I1:Inv X pins U H {s with heap:=h'}:=I.kept (t':=s.toks) kp;let I2:Inv X pins U (upd H h'.objs.size (.tup ys)) {s with heap:=h'.push {cls:=.type "tuple",data:=.seq its.toArray}}:=
   I1.laid (t':=s.toks) (λb o e=>yv _ e) (zm _) (show cB X.prog X.w _ _ _ (.tup ys) from{hz,its,r',IsTup.new _ _})
  exact{.ref h'.objs.size,_,I2,rfl,q _ (I1.bZ.fresh (zm _))}
 ·let⟨its,r',pl,hz⟩:=I.tuple hq
  exact call_tuple_same pl {.ref p,H,I,rfl,q}
def Vo (K:yB) (T:String) (x:V) (H:Hp):Prop:=match x with
 | .str _=>T ="str"
 | .int _=>T ="int"
 | .ref p=>(T ="list"/\∃xs,aH K H p xs)\/(T ="tuple"/\∃o,K.lookup p=some o/\o.cls=.type "tuple"/\o.dict=none)\/
   (T ="dict"/\((∃kvs,H p=some (.dK kvs))\/∃kvs,H p=some (.dT kvs)))\/(T ="set"/\∃S n,H p=some (.set S n))
 | _=>False
def NG (I:Inv X pins U H s) (r:RelV x v) (ty:Vo X.K T x H) :
  s.TypeIs v T/\∀a,v=.ref a->∃ob,s.heap.get? a=some ob/\ob.dict=none:=by
 cases x with
 | str z=>
  let⟨t,rfl⟩:=r;cases(show T ="str" from ty);exact{wR s z t,λ_ e=>nomatch e}
 | int i=>
  let⟨t,rfl⟩:=r;cases(show T ="int" from ty);exact{typeIs_int s i t,λ_ e=>nomatch e}
 | ref p=>
  cases r;rcases ty with⟨rfl,xs,hq⟩ | ⟨rfl,o,hk,hc,hd⟩ | ⟨rfl,hk⟩ | ⟨rfl,S,n,hk⟩
  ·let⟨its,_,pl,_⟩:=I.list hq
   refine{pl.isList.typeIs,λa e=>?_};cases e;let⟨o,n,e,c,hd,_⟩:=pl;exact{(o),e,hd}
  ·refine{{o,I.qR p o hk,hc},λa e=>?_}
   cases e;exact{o,I.qR _ o hk,hd}
  ·let z:∃o,s.heap.get? p=some o/\o.ExactDict:=by
    rcases hk with⟨kvs,hk⟩ | ⟨kvs,hk⟩
    ·let⟨_,_,_,_,o,_,_,e,ex,_⟩:=I.bZ p _ hk
     exact{(o),e,ex}
    ·let⟨_,_,_,_,o,_,_,e,ex,_⟩:=I.bZ p _ hk
     exact{(o),e,ex}
   let⟨o,e,ex⟩:=z;refine{{(o),e,ex.1},λa e2=>?_};cases e2;exact{(o),e,ex.2.1}
  ·let⟨o,_,_,_,e,ex,_⟩:=I.bZ p _ hk
   refine{{(o),e,ex.1},λa e2=>?_};cases e2;exact{(o),e,ex.2.1}
 | _=>exact False.elim ty
def V6 (K:yB) (T:String) (r:V->List V->Hp->VK->Prop) (to:TE):TE:=λU H Q=>to U H λx H1=>Vo K T x H1/\r x [] H1 Q
def Vs (K:yB) (T:String) (r:V->List V->Hp->VK->Prop) (to:TE) (t:TA):TE:=λU H Q=>to U H λx H1=>Vo K T x H1/\t U H1 λxs H2=>r x xs H2 Q
variable {o e:Expr} {es:List Expr} {to:TE} {t:TA} {name:Str} {apos cpos:Pos} {T id:String} {r:V->List V->Hp->VK->Prop}
def SQ (pa:PlainAttrs T) (slot:Slot T name id) (hty:typeOf (.builtin id)=pure (.type "method_descriptor")) (hm:WQ X id r) (ho:PE X o to)
  (hbase:attributeBase o name X.env (eval o X.env)=eval o X.env<|>qe_) (hline:(apos.endLine == cpos.line)=true<|>qe_):PE X (.Call (.Attribute o name apos) [] [] cpos) (V6 X.K T r to):=by
 intro pins s U H Q I h;refine wpAny_Call_method0_late hbase hline (cM (ho pins s U H _ I h) λv s1 zz=>?_);let⟨x,H1,I1,r1,ty,q1⟩:=zz;let⟨h1,h2⟩:=NG I1 r1 ty;exact{T,id,pa,slot,hty,h1,h2,wO rfl (PySem.evalArgs_none (hm pins s1 U H1 x [] v [] Q I1 r1 .nil q1))}
def bT (pa:PlainAttrs T) (slot:Slot T name id) (hty:typeOf (.builtin id)=pure (.type "method_descriptor")) (hm:WQ X id r) (ho:PE X o to) (ha:PA X (e::es) t)
  (hbase:attributeBase o name X.env (eval o X.env)=eval o X.env<|>qe_)
  (hfew:((backTo cpos (starEach (e::es) X.env)).all (λx=>!x.1)&&(backToKw cpos (keywordEach [] X.env)).all (λx=>x.1.isSome)
   &&decide (⇑(e::es)+⇑([]:List Keyword)+(if([]:List Keyword).isEmpty then 0 else 1)<30))=true<|>qe_)
  (hline:(apos.endLine == cpos.line)=true<|>qe_) (hs:starEach (e::es) X.env=(false,eval e X.env)::starEach es X.env<|>qe_) (hplain:(backTo cpos (starEach es X.env)).any (·.1)=false<|>qe_) :
  PE X (.Call (.Attribute o name apos) (e::es) [] cpos) (Vs X.K T r to t):=by
 intro pins s U H Q I h;refine wpAny_Call_method_late hbase hfew hline rfl (cM (ho pins s U H _ I h) λv s1 zz=>?_);let⟨x,H1,I1,r1,ty,q1⟩:=zz;let⟨h1,h2⟩:=NG I1 r1 ty;refine{T,id,pa,slot,hty,h1,h2,?_};let hA:=ha cpos pins s1 U H1 _ I1 q1;rw[hs] at hA ⊢;refine wO (by show(false||(backTo cpos (starEach es X.env)).any (·.1))=false;rw[hplain] <;> rfl) (Calls.evalArgs_plain ?_);exact cM hA λus s2 ⟨vs,H2,I2,r2,q2⟩=>hm pins s2 U H2 x vs v us Q I2 r1 r2 q2
end
end L2
namespace L2
open PySem PySem.Spec PyProof.Rows
def RW (X:Cx) (id:String) (r:V->List V->Hp->VK->Prop):Prop:=
 ∀(pins:List (vF×Obj)) (s:vA) (U:St) (H:Hp) (x:V) (xs:List V) (v:vz) (us:List vz) (Q:VK),Inv X pins U H s->RelV x v->Vals xs us->r x xs H Q->
  wpAny (model X.prog X.w) X.A (call (.builtin id) (v::us)) (EP X pins U Q) X.xe s
theorem Vals.one:∀{x:V} {us:List vz},Vals [x] us->∃u,us=[u]/\RelV x u
 | _,_,.cons r .nil=>{_,rfl,r}
theorem Vals.zero:∀{us:List vz},Vals [] us->us=[]
 | _,.nil=>rfl
theorem Vals.reverse (h:Vals xs us):Vals xs.reverse us.reverse:=by
 induction h with
 | nil=>exact .nil
 | cons r t ih=>rw[List.reverse_cons,List.reverse_cons];exact Vals.append ih (.cons r .nil)
section
variable {X:Cx} {pins:List (vF×Obj)} {U:St} {H:Hp} {s:vA} {l b:vF} {xs ys zs:List V}
def Inv.QS {its its':List vz} {n:Nat} {f:Array vz->Array vz} {t':Nat} (I:Inv X pins U H s) (hH:H l=some (.lst xs))
  (e:s.heap.get? l=some {cls:=.type "list",data:=.seq its.toArray n}) (hf:f its.toArray=its'.toArray) (hv:Vals ys its') (hz:⇑ys<=sizeLine) :
  Inv X pins U (upd H l (.lst ys)) {s with heap:=s.heap.update l (Obj.mapSeq f),toks:=t'}:=by
 let q:=PySem.IsL.update e f;rw[hf] at q;refine I.write (x:=l) (e:=l) (by rw[hH];exact trivial) (.inl rfl) (λb' u hb hu=>(yz s.heap (Obj.mapSeq f) (Ne.symm hb)).trans hu) {_,q} ?_;exact{hz,its',_,hv,q}
def Inv.UL (I:Inv X pins U H s) (hv:Vals ys its) (hz:⇑ys<=sizeLine) :
  Inv X pins U (upd H ↑s (.lst ys)) {s with heap:=s.heap.push {cls:=.type "list",data:=.seq its.toArray},toks:=t'}:=
 I.laid (λ_ _ q=>yv _ q) (zm _) {hz,its,0,hv,yx _ rfl}
theorem Inv.fresh (I:Inv X pins U H s):H ↑s=none:=I.bZ.fresh (zm _)
def Inv.OR (I:Inv X pins U H s) (hH:H l=some (.lst xs)):⇑xs<=sizeLine/\∃(its:List vz) (n:Nat),Vals xs its/\⇑xs=⇑its/\s.heap.get? l=some {cls:=.type "list",data:=.seq its.toArray n}:=by
 let⟨z,its,n,r,e⟩:=I.bZ l _ hH;exact{(z),its,n,r,⇑r,e}
def HJ (h:n<=sizeLine):Builtin.List.listTooLong n=false:=by
 unfold Builtin.List.listTooLong;exact ze ()
end
section
variable {X:Cx}
inductive Qz (x:V) (vs:List V) (H:Hp) (Q:VK):Prop
 | mk (l:vF) (xs:List V) (y:V) (_:x=.ref l) (_:vs=[y]) (_:H l=some (.lst xs)) (_:⇑xs<sizeLine) (_:Q .bH (upd H l (.lst (xs++[y]))))
def bD:RW X "list.append" Qz:=by
 intro pins s U H x vs v us Q I rx rv h;let⟨l,xs,y,rfl,rfl,hH,hz,q⟩:=h;cases rx;let⟨u,rfl,ru⟩:=rv.one;let⟨z,its,n,r,hl,e⟩:=I.OR hH;refine wB F.slot_list_append {_,e,rfl} F.entry_list_append (F.args_list_append_2 _ _) (PySem.list_append l its.toArray n u (by rw[yb];ext)) {e,?_};refine{.bH,_,I.QS (its':=its++[u]) hH e (by simp) (r.append (.cons ru .nil)) ?_,rfl,q};rw[zh,List.length_singleton];ext
inductive K8 (x:V) (vs:List V) (H:Hp) (Q:VK):Prop
 | mk (l b:vF) (xs zs:List V) (_:x=.ref l) (_:vs=[.ref b]) (_:H l=some (.lst xs)) (_:H b=some (.lst zs)) (_:⇑xs+⇑zs<=sizeLine) (_:Q .bH (upd H l (.lst (xs++zs))))
def Mv:RW X "list.extend" K8:=by
 intro pins s U H x vs v us Q I rx rv h;let⟨l,b,xs,zs,rfl,rfl,hH,hB,hz,q⟩:=h;cases rx;let⟨u,rfl,ru⟩:=rv.one;cases ru;let⟨z,its,n,r,hl,e⟩:=I.OR hH;let⟨z2,its2,n2,r2,hl2,e2⟩:=I.OR hB;let hsz:its.toArray.size+its2.toArray.size<=sizeLine:=by rw[yb,yb];ext
 let hlong:¬(!its.toArray.isEmpty&&Builtin.List.listTooLong (its.toArray.size+its2.toArray.size))=true:=by
  rw[HJ hsz,wK];exact zL
 refine wB F.slot_list_extend {_,e,rfl} F.entry_list_extend (F.args_list_extend_2 _ _)
  (AutoSeq1.list_extend_list_list_0 l its.toArray n b its2.toArray n2 hlong (by rw[yb];ext) ()) {e,e2,?_}
 refine{.bH,_,I.QS (its':=its++its2) hH e (by simp) (r.append r2) ?_,rfl,q};rw[zh];ext
def Oi:V->List V->Hp->VK->Prop:=λx vs H Q=>∃l xs,x=.ref l/\vs=[]/\H l=some (.lst xs)/\Q .bH (upd H l (.lst xs.reverse))
def JR:RW X "list.reverse" Oi:=by
 intro pins s U H x vs v us Q I rx rv h;let⟨l,xs,rfl,rfl,hH,q⟩:=h;cases rx;let hus:=rv.zero;subst hus;let⟨z,its,n,r,hl,e⟩:=I.OR hH;refine wB F.slot_list_reverse {_,e,rfl} F.entry_list_reverse (F.args_list_reverse_1 _) (AutoSeq1.list_reverse_list_0 l its.toArray n (by rw[yb];ext)) {e,?_};refine{.bH,_,I.QS (its':=its.reverse) hH e (by simp) r.reverse ?_,rfl,q};rw[List.length_reverse];ext
end
section
variable {prog:vB} {w:vC} {A:vD} {E:vz->vA->Prop} {s:vA}
end
section
variable {X:Cx}
end
end L2
namespace WV
open PySem PySem.W PySem.Calls PyProof.Rows
def uS:∀(ns:List Int) (vs:List vz),WellAll P h vs (ns.map WData.int)->IntsAre vs ns:=by
 intro ns
 induction ns with
 | nil=>
  intro vs w;rw[yn] at w;cases w;exact .nil
 | cons n ns ih=>
  intro vs w;rw[zj] at w;cases w with
  | cons a b=>
   cases a;exact .cons _ _ (ih _ b)
def L7 {l:OpenLaw} {n:Nat} (hn:l.most=some n) {P:Params} {h:vG} {args:List WData} {vals:List vz}
  (hpre:l.row.toRowW.claim.pre args=true) (hwl:WellAll P h vals args) :
  ∃a vs ns,vals=[Value.ref a]/\args=[WData.list (ns.map WData.int)]/\h.get? a=some {cls:=.type "list",data:=.seq vs.toArray}/\IntsAre vs ns/\⇑ns<=n:=by
 let hsh:WShape.hasAll [] args [.list .int]=true:=(pre_splitW hpre).1;let hc:l.pre.holds [] {args:=args}=true:=(pre_splitW hpre).2;let⟨d,r,rfl,h1,h2⟩:=hasAllW_cons hsh;obtain rfl:=hasAllW_nil h2;let⟨xs,rfl,h3⟩:=hasW_list h1;let⟨ns,rfl⟩:=items_int h3;let hlen:⇑ns<=n:=by
  unfold OpenLaw.pre at hc;let h4:(WTm.not (.lt (.lit (.int (n:Int))) (.len (.arg 0)))).holds [] {args:=[.list (ns.map .int)]}=true:=by
   let h4:=(holds_andW hc).1;rw[hn] at h4;exact h4
  let h5:=condW_of h4 (w_not (w_lt w_lit (w_len_list (w_arg rfl))));rw[za] at h5;refine Nat.le_of_not_lt λq=>?_;let q':(n:Int)<((⇑ns:Nat):Int):=()
  first
   | (rw[zg q'] at h5;exact absurd h5 ∅)
   | (simp at h5;ext)
 cases hwl with
 | cons w1 w2=>
  cases w2;cases w1 with
  | list ho hall=>exact{_,_,ns,rfl,rfl,ho,uS ns _ hall,hlen}
def Mi (l:OpenLaw) (args:List WData):l.row.toRowW.claim.post args (.bool true) args=true:=
 postW_of (r:=l.row.toRowW) (X:=(true == true))
  (show WShape.has [] (.bool true) .bool=true by first | rfl | decide | simp[WShape.has,WShape.arms,WShape.armsAll])
  (show(WTm.eq .res (.lit (.bool true))).value [] {args:=args,res:=some (.bool true),after:=args}=some (.bool (true == true)) from w_eq_bool (w_res rfl) w_lit) rfl
def IL {l:OpenLaw} {n:Nat} {q:vB} {loose:List Str} {XP:(Str->Option vz)->vG->Prop} {YP:vC->vG->Prop} {d:DefRec}
  (hn:l.most=some n) (hdf:d.params.defaults=[])
  (call:∀(w:vC) (s₀ s₁:vA) (mg mb:Str->Option vz) (fa:vF) (o:Obj) (pm cd doc:vz) (a:vF) (vs:List vz) (ns:List Int),
   Ground q loose [] XP w s₀ mg mb s₁.heap->YP w s₁.heap->
   s₁.heap.get? fa=some o->o.data=.func (docDef d.name d.params d.body d.scope pm cd doc)->s₁.heap.CodeRec cd d.name->mg d.name=some (.ref fa)->
   s₁.heap.get? a=some {cls:=.type "list",data:=.seq vs.toArray}->IntsAre vs ns->⇑ns<=n->s₁.gens=#[]->
   codeAny (model l.prog w) callerA (.call (.ref fa) {[.ref a],[]}) (λr s'=>r=.ok (.ret (.bool true))/\OldK s₁.heap s'.heap/\s'.os=s₁.os/\AllBare s'.gens) s₁) :
  WalkO q loose XP YP l.row.toRowW d [] (λf vs=>PySem.call f vs):=by
 intro w s₀ s₁ mg mb G Y fa o pm cd doc dV kV ho hd hcd hD hmg hg args vals as hpre hlay hrd hwl hlo;obtain rfl:dV=.none:=Dflts.none hD hdf;obtain rfl:kV=.none:=Dflts.noKw hD;let⟨a,vs,ns,rfl,rfl,hobj,hints,hlen⟩:=L7 hn hpre hwl;refine enter_call (xU (call w s₀ s₁ mg mb fa o pm cd doc a vs ns G Y ho (fd_plain hd) hcd hmg hobj hints hlen hg) λr s' hq=>?_);let⟨rfl,h2,h3,h4⟩:=hq;exact{.inl {.bool true,.bool true,[],rfl,λ_=>rfl,.bool true,Mi l _,λ_=>{List.Pairwise.nil,λ_ hm=>(nomatch hm)}},h2,h3,h4}
section
variable {prog:vB} {w:vC} {A:vD} {E:vz->vA->Prop} {s:vA} {K:Frag}
end
end WV
namespace L2
open PySem PySem.Spec PyProof.Rows
theorem Ds:∀{vs:List vz} {ns:List Int},IntsAre vs ns->Vals (ns.map V.int) vs
 | _,_,.nil=>.nil
 | _,_,.cons n t h=>.cons {(t),rfl} (Ds h)
def TV (H:Hp):Prop:=∀b,H b=none\/∃o xs,H b=some (.mG o (.lst xs))
def OY {P:vB} {w:vC} {K:yB} {mg mb:Str->Option vz} {CX:KI} {k:Nat} {fa a:vF} {fd:vE} {x:Str} {sp:Sp} {s₁:vA} {vs:List vz} {ns:List Int}
  (KX:K.In s₁.heap) (hns:s₁.heap.Ns mainGlobals mg) (hb:s₁.heap.Ns builtinsNs mb) (hbb:∀x:Str,x≠ "__name__"->mb x=bootBuiltins x) (hlim:s₁.heap.NoLimit) (hg:s₁.gens=#[])
  (ha:s₁.heap.get? a=some {cls:=.type "list",data:=.seq vs.toArray}) (hi:IntsAre vs ns) (hl:⇑ns<=sizeLine) (hr:fI k callerA)
  (F:∀base:vG,K.In base->base.Ns mainGlobals mg->dB P w K mg base CX k fa fd [x] sp) (hbind:∀(s:vA) (u:vz),BindsTo s fd {[u],[]} [(x,u)])
  (hsp:∀H:Hp,TV H->aH K H a (ns.map V.int)->sp [.ref a] H (λv _=>v=.bl true) λ_ _ _=>False)
  (hCX:∀H e s',CX [] H s₁ (λ_ _ _=>False) e s'->False) :
  codeAny (model P w) callerA (.call (.ref fa) {[.ref a],[]}) (λr s'=>r=.ok (.ret (.bool true))/\OldK s₁.heap s'.heap/\s'.os=s₁.os/\AllBare s'.gens) s₁:=by
 let rv:=Ds hi;let lenV:=⇑hi;let core:∀H:Hp,TV H->aH K H a (ns.map V.int)->pM P w H s₁.heap->(∀b,H b≠none->b=a)->(H a≠none->K.lookup a=none)->
   codeAny (model P w) callerA (.call (.ref fa) {[.ref a],[]}) (λr s'=>r=.ok (.ret (.bool true))/\OldK s₁.heap s'.heap/\s'.os=s₁.os/\AllBare s'.gens) s₁:=by
  intro H hO hS bZ hA hK;let base_of:∀{b:vF} {o:Obj},s₁.heap.get? b=some o->H b=none->(Fu s₁.heap H).get? b=some o:=λe n=>O4 e n;let noA:∀{b:vF} {o:Obj} {es:Array DictEntry} {ep:Nat},s₁.heap.get? b=some o->o.data=.dict es ep->H b=none:=λ{b o es ep} e d=>by
   cases q:H b with
   | none=>rfl
   | some u=>
    let e':b=a:=hA b (by rw[q];simp);subst e';rw[ha] at e;cases e;let d':Data.seq vs.toArray _=Data.dict es ep:=d;cases d'
  let nsK:∀{b:vF} {m:Str->Option vz},s₁.heap.Ns b m->(Fu s₁.heap H).Ns b m:=λ{b m} ⟨o,es,ep,e,d,r⟩=>{o,es,ep,base_of e (noA e d),d,r}
  let hKb:K.In (Fu s₁.heap H):=λb o e=>base_of (KX b o e) (by
   cases q:H b with
   | none=>rfl
   | some u=>
    let e':b=a:=hA b (by rw[q];simp);subst e';rw[hK (by rw[q];simp)] at e;cases e)
  let hM:Mod K mg (Fu s₁.heap H):={hKb,nsK hns,{mb,nsK hb,hbb},let ⟨mc,h1,h2⟩:=hlim;{mc,nsK h1,h2}}
  let e0:I9 P w K mg (Fu s₁.heap H) callerA [] s₁ H:={rfl,hM,λb o e=>QO e,Nat.le_of_eq (MG _ _),trivial,λb hb=>absurd (show b∈([]:List vF) from hb) (by simp),bZ,.of_eq hg}
  refine xU ((F _ hKb (nsK hns)).run callerA [] s₁ H {[.ref a],[]} [.ref a] [.ref a] _ _ hr e0 (hbind s₁ (.ref a)) (.cons rfl .nil) (hsp H hO hS)) λr s' h=>?_;cases r with
  | error e=>exact(hCX H e s' h).elim
  | ok fl=>
   cases fl with
   | next=>exact False.elim h
   | brk=>exact False.elim h
   | cont=>exact False.elim h
   | ret u=>
    let⟨v,H',os,bare,un,hok',r',q⟩:=h;let q':v=.bl true:=q;subst q';obtain rfl:u=Value.bool true:=r';refine{rfl,OldK.of_keep λb o e=>?_,os,bare};cases q:H b with
    | none=>exact un.keep b o e q (by intro z;exact absurd (show b∈([]:List vF) from z) (by simp)) (by simp)
    | some u=>
     rcases hO b with z | ⟨ob,xs,z⟩
     ·rw[q] at z;cases z
     ·let z2:=un.mC b ob _ z
      let⟨e1,_⟩:=bZ b _ z;let⟨e2,_⟩:=hok' b _ z2;rw[e] at e1;cases e1;exact e2
 cases hk:K.lookup a with
 | some o=>
  let e:=KX a o hk;rw[ha] at e;cases e;refine core (λ_=>none) (λ_=>.inl rfl) (.inr {_,vs.toArray,_,hk,rfl,rfl,rfl,by rw[yb,lenV];exact hl,by simpa using rv}) (λb u z=>by let z':(none:Option HO)=some u:=z;cases z') (λb z=>absurd rfl z) λz=>absurd rfl z
 | none=>
  refine core (λb=>if b=a then some (.mG {cls:=.type "list",data:=.seq vs.toArray} (.lst (ns.map V.int))) else none) (λb=>?_) (.inl (.inr {{cls:=.type "list",data:=.seq vs.toArray},yO rfl})) (λb u z=>?_) (λb z=>?_) λ_=>hk
  ·by_cases hb:b=a
   ·exact .inr {_,_,yO hb}
   ·exact .inl (yN hb)
  ·by_cases hb:b=a
   ·let z':=(yO hb).symm.trans z
    cases z';subst hb;exact{ha,by rw[za];exact hl,vs,_,rv,ha}
   ·let z':=(yN hb).symm.trans z
    cases z'
  ·by_cases hb:b=a
   ·exact hb
   ·exact absurd (yN hb) z
end L2
namespace L2
open PySem PySem.Spec PyProof.Rows
def Qc {l:PySem.W.OpenLaw} {n k:Nat} {q:vB} {loose:List Str} {XP:(Str->Option vz)->vG->Prop} {YP:vC->vG->Prop} {d:DefRec} {K:Params->yB} {CX:vC->KI} {sp:vC->Sp} {x:Str}
  (hn:l.most=some n) (hn2:n<=sizeLine) (hdf:d.params.defaults=[]) (hr:fI k callerA)
  (hY:∀(w:vC) (h:vG),YP w h->(K w.params).In h)
  (F:∀(w:vC) (mg:Str->Option vz) (fa:vF) (h:vG),(K w.params).In h->h.Ns mainGlobals mg->mg d.name=some (.ref fa)->
   ∃fd:vE,(∀(s:vA) (u:vz),BindsTo s fd {[u],[]} [(x,u)])/\
    ∀base:vG,(K w.params).In base->base.Ns mainGlobals mg->dB l.prog w (K w.params) mg base (CX w) k fa fd [x] (sp w))
  (hsp:∀(w:vC) (H:Hp) (a:vF) (ns:List Int),⇑ns<=n->TV H->aH (K w.params) H a (ns.map V.int)->sp w [.ref a] H (λv _=>v=.bl true) λ_ _ _=>False)
  (hCX:∀(w:vC) (H:Hp) (s:vA) (e:vz) (s':vA),CX w [] H s (λ_ _ _=>False) e s'->False) :
  PySem.W.WalkO q loose XP YP l.row.toRowW d [] (λf vs=>PySem.call f vs):=by
 refine WV.IL hn hdf λw s₀ s₁ mg mb fa o pm cd doc a vs ns G Y ho hd hcd hmg hobj hints hlen hg=>?_;let KX:=hY w _ Y;let⟨fd,hb,hF⟩:=F w mg fa _ KX G.T.g hmg;exact OY KX G.T.g G.T.b G.T.builtins G.T.nolimit hg hobj hints (zM hlen hn2) hr hF hb (λH hO hS=>hsp w H a ns hlen hO hS) λH e s'=>hCX w H s₁ e s'
end L2
namespace L2
open PySem PySem.Spec PyProof.Rows
def inClass (s:Stmt) (j:Nat):Stmt:=match s with
 | .ClassDef _ _ _ body _ _ _ _ _ _ _=>body.getD j (.Pass {0,0,0,0})
 | _=>.Pass {0,0,0,0}
def cZ (s:Stmt):Arguments:=match s with
 | .FunctionDef _ a _ _ _ _ _ _ _ _=>a
 | _=>{posonlyargs:=[],args:=[],vararg:=none,kwonlyargs:=[],kw_defaults:=[],kwarg:=none,defaults:=[]}
def cx (s:Stmt):List Stmt:=match s with
 | .FunctionDef _ _ b _ _ _ _ _ _ _=>b
 | _=>[]
def aU (s:Stmt):Scope:=match s with
 | .FunctionDef _ _ _ _ _ _ sc _ _ _=>sc
 | _=>{kind:=.function,names:=[],isGenerator:=false,isCoroutine:=false}
abbrev Jb:KI:=λ_ _ _ _ _ _=>False
abbrev E0:XK:=λ_ _ _=>False
def Lb:Passes Jb X E0:=λ_ _ _ _ _ _ _ h=>h.elim
structure P1 (K:yB) (x qual:Str) (st:Stmt) (f:vF) (fd:vE):Prop where
 ex:∃(oc:vz) (od:Option vF) (kV doc pm:vz) (an:Option vF) (cdv ct:vz) (osl:Array (Option vz)),
  fd=PySem.W.fnOf x qual (cZ st) (cx st) (aU st) .none kV doc pm an cdv ct/\K.lookup f=some {oc,od,.func fd,osl}/\PySem.W.codeIn K cdv qual=true
 kp:PySem.W.keepIn K (.ref f)=true
section
variable {P:vB} {w:vC} {K:yB} {mg:Str->Option vz} {base:vG}
def P1.ok {x qual:Str} {st:Stmt} {f:vF} {fd:vE} {N ps:List Str} {k:Nat} {sp:Sp} (F:P1 K x qual st f fd) (S:fZ N ps (aU st)) (len:∀vs H Q E,sp vs H Q E->⇑vs=⇑ps)
  (hbody:∀(cdv:vz) (A:vD) (outer:List Env) (s:vA) (H:Hp) (vs:List V) (Q:VK) (E:XK),fI k (A.deeper (envOfC qual (aU st) ↑s f cdv))->sp vs H Q E->
   ∃t,Em (kc Jb P w K mg base N qual (aU st) f cdv A outer s H E).JP (cx st) t/\t {nx:=λ_ H'=>Q .bH H',rt:=Q} (start N vs) H):dB P w K mg base Jb (k+1) f fd ps sp:=by
 let⟨oc,od,kV,doc,pm,an,cdv,ct,osl,rfl,lk,hcd⟩:=F.ex;refine RQ lk hcd S len λA outer s H vs Q E hr hsp=>?_;let⟨t,h,q⟩:=hbody cdv A outer s H vs Q E hr hsp;exact{(t),h.JP,q}
def P1.binds {x qual:Str} {st:Stmt} {f:vF} {fd:vE} {ps:List Str} (F:P1 K x qual st f fd)
  (h:∀(kV doc pm:vz) (an:Option vF) (cdv ct:vz) (us:List vz),⇑us=⇑ps->bindArgs (PySem.W.fnOf x qual (cZ st) (cx st) (aU st) .none kV doc pm an cdv ct) {us,[]}=pure (ps.zip us)):Binds K fd ps []:=by
 let⟨oc,od,kV,doc,pm,an,cdv,ct,osl,rfl,lk,hcd⟩:=F.ex;exact .all (h kV doc pm an cdv ct)
def ka {x qual:Str} {st:Stmt} {f:vF} {oc:vz} {od an:Option vF} {osl:Array (Option vz)} {kV doc pm cdv ct:vz} (l:K.lookup f=some {oc,od,.func (PySem.W.fnOf x qual (cZ st) (cx st) (aU st) .none kV doc pm an cdv ct),osl})
  (c:PySem.W.codeIn K cdv qual=true) (k:PySem.W.keepIn K (.ref f)=true):P1 K x qual st f (PySem.W.fnOf x qual (cZ st) (cx st) (aU st) .none kV doc pm an cdv ct):={{(oc),od,kV,doc,pm,an,cdv,ct,osl,rfl,l,c},k}
end
def fC (hr:fI k A):A.units+1<cLine:=Nat.lt_of_le_of_lt (Nat.add_le_add_left (by decide:1<=64) _) hr.units
section
variable {X:Cx}
def pv (i:Nat) (hN:X.N[i]?=some x<|>qe_) (hv:TQ X.env.scope x<|>qg_) (hd:(x == ("__debug__": Str))=false<|>qb_)
  (hcd:(x == ("__classdict__": Str))=false<|>qb_):PE X (.Name x pos) (aY i):=SK hN hv hd hcd
end
def UO {A B:Prop} (h:B):if false=true then A else B:=by
 rw[yN zL];exact h
def Wm {A B:Prop} (h:A):if true=true then A else B:=by
 rw[yO rfl];exact h
def uR {c A B:Prop} [Decidable c] (h1:c->A) (h2:¬c->B):if c then A else B:=by
 by_cases h:c
 ·rw[yO h]
  exact h1 h
 ·rw[yN h]
  exact h2 h
def RM {c A B:Prop} [Decidable c] (hc:c) (h:B):if(!decide c)=true then A else B:=by
 rw[zg hc];exact UO h
def ax (H H':Hp):Prop:=∀b o,H b=some o->H' b=some o
def ax.refl (H:Hp):ax H H:=λ_ _ h=>h
def ax.trans (a:ax H H1) (b:ax H1 H2):ax H H2:=λc o h=>b c o (a c o h)
def ax.seq {K:yB} {H H':Hp} {a:vF} {xs:List V} (e:ax H H') (h:aH K H a xs):aH K H' a xs:=by
 rcases h with(h | ⟨o,h⟩) | h
 ·exact .inl (.inl (e _ _ h))
 ·exact .inl (.inr {o,e _ _ h})
 ·exact .inr h
end L2
namespace Lm
def red (t b:Int):Int×Int:=(t/(Int.gcd t b:Int),b/(Int.gcd t b:Int))
def vY {t b:Int} (hb:0<b):0<(Int.gcd t b:Int):=by
 have:0<Int.gcd t b:=Int.gcd_pos_of_ne_zero_right t ();ext
def kY {t b k:Int} (hk:0<k) (hb:0<b):red (k*t) (k*b)=red t b:=by
 let g0:=vY (t:=t) hb;let e:(Int.gcd (k*t) (k*b):Int)=k*(Int.gcd t b:Int):=by
  rw[Int.gcd_mul_left];simp only[Int.natCast_mul];rw[Int.natAbs_of_nonneg ()]
 unfold red;rw[e,Int.mul_ediv_mul_of_pos _ _ hk,Int.mul_ediv_mul_of_pos _ _ hk]
def iT {t b:Int} (hb:0<b):∃g,0<g/\t=g*(red t b).1/\b=g*(red t b).2/\0<(red t b).2/\(red t b).2<=b:=by
 let g0:=vY (t:=t) hb;let d1:(Int.gcd t b:Int) ∣ t:=Int.gcd_dvd_left ..;let d2:(Int.gcd t b:Int) ∣ b:=Int.gcd_dvd_right ..;let e1:(Int.gcd t b:Int)*(t/(Int.gcd t b:Int))=t:=Int.mul_ediv_cancel' d1;let e2:(Int.gcd t b:Int)*(b/(Int.gcd t b:Int))=b:=Int.mul_ediv_cancel' d2;refine{_,g0,e1.symm,e2.symm,?_,?_}
 ·exact Int.ediv_pos_of_pos_of_dvd hb () d2
 ·exact zX _ ()
def AO {t b:Int} (ht:0<=t):0<=(red t b).1:=zW ht (Int.natCast_nonneg _)
def AQ {t b:Int} (ht:0<=t):(red t b).1<=t:=zX _ ht
def Qu {t b:Int} (hb:0<b):red (red t b).1 (red t b).2=red t b:=by
 let⟨g,g0,e1,e2,p,_⟩:=iT (t:=t) hb;let h:=kY (t:=(red t b).1) (b:=(red t b).2) g0 p;rw[<-e1,<-e2] at h;exact h.symm
def Sy {t b s c:Int} (hb:0<b) (hc:0<c) (h:t*c=s*b):red t b=red s c:=by
 let h1:red (c*t) (c*b)=red t b:=kY hc hb;let h2:red (b*s) (b*c)=red s c:=kY hb hc;rw[<-h1,<-h2,xE c t,h,xE s b,xE c b]
def add (x y:Int×Int):Int×Int:=red (x.1*y.2+y.1*x.2) (x.2*y.2)
def Rj {t b s c:Int} (hb:0<b) (hc:0<c):add (red t b) (red s c)=red (t*c+s*b) (b*c):=by
 let⟨g,g0,e1,e2,p,_⟩:=iT (t:=t) hb;let⟨k,k0,f1,f2,q,_⟩:=iT (t:=s) hc;unfold add;generalize hx:red t b=x at *;generalize hy:red s c=y at *;let h:=kY (t:=x.1*y.2+y.1*x.2) (b:=x.2*y.2) (xB g0 k0) (xB p q);rw[<-h]
 congr 1
 ·rw[e1,e2,f1,f2,Int.mul_add]
  congr 1 <;> simp only[wZ,wN,xE]
 ·rw[e2,f2];simp only[wZ,wN,xE]
end Lm
namespace Lm
def Rd (x:Int×Int):Prop:=∃t b,0<=t/\0<b/\x=red t b
def Rd.of {t b:Int} (ht:0<=t) (hb:0<b):Rd (red t b):={(t),b,ht,hb,rfl}
def Rd.pos {x:Int×Int} (h:Rd x):0<=x.1/\0<x.2/\red x.1 x.2=x:=by
 let⟨t,b,ht,hb,rfl⟩:=h;let⟨g,g0,e1,e2,p,_⟩:=iT (t:=t) hb;exact{AO ht,p,Qu hb}
def Rd.zero:Rd (0,1):={0,1,∅,∅,∅}
theorem Rd.add {x y:Int×Int} (h:Rd x) (k:Rd y):Rd (add x y):=by
 let⟨a,b,_⟩:=h.pos;let⟨c,d,_⟩:=k.pos;refine{_,_,?_,xB b d,rfl};exact Int.add_nonneg (wc a ()) (wc c ())
def HX {x y:Int} (hx:0<=x) (hy:0<y):Int.gcd y (x%y)=Int.gcd x y:=by
 let e:(x%y).natAbs=x.natAbs%y.natAbs:=by
  let⟨a,rfl⟩:=yL hx;let⟨b,rfl⟩:=yL (xa hy);rfl
 show Nat.gcd y.natAbs (x%y).natAbs=Nat.gcd x.natAbs y.natAbs;rw[e,Nat.gcd_comm x.natAbs,Nat.gcd_rec y.natAbs x.natAbs,Nat.gcd_comm]
def O8 {t b:Int} (hb:0<b):(Int.gcd t b:Int)<=b:=by
 let h:Int.gcd t b<=b.natAbs:=Nat.gcd_le_right _ ();ext
end Lm
namespace Lm
end Lm
namespace Lm
theorem Ly {c:Nat}:∀{p q A B:List Nat},c∉p->c∉q->p++c::A=q++c::B->p=q/\A=B
 | [],[],A,B,_,_,h=>{rfl,by simpa using h}
 | [],y::q,A,B,_,hq,h=>by
  simp at h;exact absurd (by rw[h.1];exact zr) hq
 | x::p,[],A,B,hp,_,h=>by
  simp at h;exact absurd (by rw[<-h.1];exact zr) hp
 | x::p,y::q,A,B,hp,hq,h=>by
  simp only[wU,List.cons.injEq] at h;let⟨e,h⟩:=h;let⟨e1,e2⟩:=Ly (λz=>hp (zp _ z)) (λz=>hq (zp _ z)) h;exact{by rw[e,e1],e2}
def O5:∀(n:Nat),0<n->∃c r,Nat.toDigits 10 n=c::r/\c≠'0':=by
 intro n
 induction n using Nat.strongRecOn with
 | _ n ih=>
  intro hn
  by_cases h:n<10
  ·rw[Nat.toDigits_of_lt_base h]
   refine{_,[],rfl,?_};exact(by decide:∀n<10,0<n->Nat.digitChar n≠'0') n h hn
  ·let hd:n%10<10:=vm _ ∅
   let⟨c,r,e,hc⟩:=ih (n/10) () ();let t:=Nat.toDigits_append_toDigits (b:=10) (n:=n/10) (d:=n%10) ∅ () hd;rw[Nat.div_add_mod,e] at t;exact{c,r++Nat.toDigits 10 (n%10),by rw[<-t];rfl,hc}
def Ta {n k:Nat} (hk:0<k):n<10^k->⇑(Nat.toDigits 10 n)<=k:=by
 intro h
 induction k generalizing n with
 | zero=>ext
 | succ k ih=>
  by_cases h10:n<10
  ·rw[Nat.toDigits_of_lt_base h10];simp
  ·let hd:n%10<10:=vm _ ∅
   let hk0:0<k:=by
    rcases Nat.eq_zero_or_pos k with rfl | z
    ·simp at h;ext
    ·exact z
   have:=ih hk0 (n:=n/10) (by rw[Nat.div_lt_iff_lt_mul ∅];rw[Nat.pow_succ] at h;exact h);let t:=Nat.toDigits_append_toDigits (b:=10) (n:=n/10) (d:=n%10) ∅ () hd;rw[Nat.div_add_mod] at t;rw[<-t,zh,Nat.toDigits_of_lt_base hd];simp;ext
end Lm
namespace L2
open PySem
def eZ (t:Bool) (h:vG) (a:vF) (items:Array vz):Prop:=match t with
 | true=>h.IsTuple a items
 | false=>h.IsList a items
def dr (t:Bool) (h:vG) (it a:vF) (k:Nat):Prop:=match t with
 | true=>h.IsTupleIter it a k
 | false=>h.IsListIter it a k
def qU (t:Bool) (a:vF):Obj:=match t with
 | true=>{cls:=.type "tuple_iterator",data:=.fields #[.ref a,.int 0 0]}
 | false=>{cls:=.type "list_iterator",data:=.fields #[.ref a,.int 0 0]}
theorem eZ.at {t:Bool} {h h':vG} {a:vF} {items:Array vz} (x:eZ t h a items) (e:∀o,h.get? a=some o->h'.get? a=some o):eZ t h' a items:=by
 cases t
 ·exact Heap.IsList.at x e
 ·let⟨o,ho,r⟩:=x;exact{o,e o ho,r}
theorem dr.at {t:Bool} {h h':vG} {it a:vF} {k:Nat} (x:dr t h it a k) (e:∀o,h.get? it=some o->h'.get? it=some o):dr t h' it a k:=by
 cases t
 ·exact Heap.IsListIter.at x e
 ·exact Heap.IsTupleIter.at x e
def eZ.but {t:Bool} {h h':vG} {a b:vF} {items:Array vz} (x:eZ t h a items) (hs:Heap.SameBut b h h') (n:a≠b):eZ t h' a items:=x.at λo e=>hs.extBut a o n e
def dr.but {t:Bool} {h h':vG} {it a b:vF} {k:Nat} (x:dr t h it a k) (hs:Heap.SameBut b h h') (n:it≠b):dr t h' it a k:=x.at λo e=>hs.extBut it o n e
theorem dr.get {t:Bool} {h:vG} {it a:vF} {k:Nat} (x:dr t h it a k):∃o,h.get? it=some o/\∀v,o.data≠.cell v:=by
 cases t
 ·let⟨o,e,_,d⟩:=x;exact{o,e,λv z=>by rw[d] at z;cases z}
 ·let⟨o,e,_,d⟩:=x;exact{o,e,λv z=>by rw[d] at z;cases z}
def dr.new (t:Bool) (h:vG) (a:vF):dr t (h.push (qU t a)) h.objs.size a 0:=by
 cases t
 ·exact{_,yx _ rfl,rfl,rfl}
 ·exact{_,yx _ rfl,rfl,rfl}
section
variable {prog:vB} {w:vC} {A:vD} {E:vz->vA->Prop} {s:vA}
def KY {t:Bool} {a:vF} {items:Array vz} {Q:vz->vA->Prop} (hl:eZ t s.heap a items) (hQ:Q (.ref ↑s) {s with heap:=s.heap.push (qU t a)}) :
  wpAny (model prog w) A (pyIter (.ref a)) Q E s:=by
 cases t
 ·exact wL hl hQ
 ·exact wpAny_pyIter_tuple hl hQ
def pS {t:Bool} {it a:vF} {i:Nat} {items:Array vz} {x:vz} {Q:vz->vA->Prop} (hit:dr t s.heap it a i) (hl:eZ t s.heap a items) (hx:items[i]?=some x)
  (hQ:∀h',dr t h' it a (i+1)->Heap.SameBut it s.heap h'->Q x {s with heap:=h'}):wpAny (model prog w) A (Builtin.SmallTypes.nextOf (.ref it)) Q E s:=by
 cases t
 ·exact wpAny_nextOf_list_item hit hl hx hQ
 ·let hit':s.heap.IsTupleIter it a i:=hit
  let⟨o,ho,hc,hd⟩:=id hit';let⟨ol,hol,_,nl,hdl⟩:=(show s.heap.IsTuple a items from hl)
  unfold Builtin.SmallTypes.nextOf;refine yu (yZ (name:=Str.ofString "__next__") hit'.typeIs wg (xb wg hit'.typeIs F.entry_tuple_iterator_next ?_ (F.args_tuple_iterator_next_1 _)));show wpAny _ _ (field (.ref it) 0 >>= _) _ _ s;refine yu (y7 ho hd (x:=.ref a) rfl ?_);show wpAny _ _ (if(Value.ref a == Value.none)=true then _ else _) _ _ s;rw[yN (show¬((Value.ref a == Value.none)=true) from zL)];show wpAny _ _ (field (.ref it) 1 >>= _) _ _ s;refine yu (y7 ho hd (x:=.int i 0) rfl ?_);show wpAny _ _ (seqItems? (.ref a) >>= _) _ _ s;refine yu (xw hol hdl ?_);simp only[x8,hx];refine yu (wpAny_setField ho hd (by simp) (yw {x,rfl,yw (hQ _ ?_ (vg ..))}));exact{_,yA _ ho (Obj.isFreed_of_fields (vo hd _)),(Obj.cls_mapFields ..).trans hc,by rw[vo hd];simp[rawInt]}
def Ez {t:Bool} {it a:vF} {i:Nat} {items:Array vz} {Q:vz->vA->Prop} (hh:A.handled=none) (hit:dr t s.heap it a i) (hl:eZ t s.heap a items) (hx:items[i]?=none)
  (hE:∀h' e,Heap.ExtBut it s.heap h'->(∃o,h'.get? e=some o/\o.cls=.type "StopIteration")->E (.ref e) {s with heap:=h'}):wpAny (model prog w) A (Builtin.SmallTypes.nextOf (.ref it)) Q E s:=by
 cases t
 ·exact wpAny_nextOf_list_end hh hit hl hx hE
 ·let hit':s.heap.IsTupleIter it a i:=hit
  let⟨o,ho,hc,hd⟩:=id hit';let⟨ol,hol,_,nl,hdl⟩:=(show s.heap.IsTuple a items from hl)
  unfold Builtin.SmallTypes.nextOf;refine yu (yZ (name:=Str.ofString "__next__") hit'.typeIs wg (xb wg hit'.typeIs F.entry_tuple_iterator_next ?_ (F.args_tuple_iterator_next_1 _)));show wpAny _ _ (field (.ref it) 0 >>= _) _ _ s;refine yu (y7 ho hd (x:=.ref a) rfl ?_);show wpAny _ _ (if(Value.ref a == Value.none)=true then _ else _) _ _ s;rw[yN (show¬((Value.ref a == Value.none)=true) from zL)];show wpAny _ _ (field (.ref it) 1 >>= _) _ _ s;refine yu (y7 ho hd (x:=.int i 0) rfl ?_);show wpAny _ _ (seqItems? (.ref a) >>= _) _ _ s;refine yu (xw hol hdl ?_);simp only[x8,hx];refine yu (wpAny_rule (yu (wpAny_setField ho hd (by simp) ?_)));show wpAny _ _ (newExc (.type "StopIteration") [] >>= _) _ _ _;refine yu ?_;simp only[newExc,newTuple];refine yu (xf ?_ (by size_fits));refine yu (m:=firstArgMember _ _) (wpAny_of_eq (a:=Value.none) (by first | rfl | (simp only[firstArgMember];rfl)) (xf ?_ (by size_fits)));simp only[raiseNew];refine yu (wpAny_handled ?_)
  first | rw[show A.in1.handled=none from hh] | rw[hh]
  exact yu (yw (wpAny_throw (hE _ _ (((vg ..).extBut.push _).push _) {_,yx _ rfl,rfl})))
structure Nf (z TI TO i1 i2:vF):Prop where
 a1:TI≠z
 a2:TO≠z
 a3:i1≠z
 a4:i2≠z
 a5:TI≠TO
 a6:TI≠i1
 a7:TI≠i2
 a8:TO≠i1
 a9:TO≠i2
 b1:i1≠i2
structure B5 (l z TO i1 i2:vF):Prop where
 a1:l≠z
 a2:l≠TO
 a3:l≠i1
 a4:l≠i2
def rH (z TO i1 i2:vF) (h h':vG):Prop:=∀c o,c≠z->c≠TO->c≠i1->c≠i2->h.get? c=some o->h'.get? c=some o
structure P7 (t1 t2:Bool) (h:vG) (z TI TO i1 i2 l1 l2:vF) (k:Nat) (f0:vz):Prop where
 z:IsZip h z TI TO f0
 ti:IsPair h TI (.ref i1) (.ref i2)
 to:∃a b,IsPair h TO a b
 i1:dr t1 h i1 l1 k
 i2:dr t2 h i2 l2 k
def Ny {t1 t2:Bool} {z TI TO i1 i2 l1 l2:vF} {k:Nat} {xs ys:Array vz} {x y:vz} {Q:vz->vA->Prop} (D:Nf z TI TO i1 i2) (L1:B5 l1 z TO i1 i2) (L2:B5 l2 z TO i1 i2)
  (S:P7 t1 t2 s.heap z TI TO i1 i2 l1 l2 k .none) (hl1:eZ t1 s.heap l1 xs) (hl2:eZ t2 s.heap l2 ys) (hx:xs[k]?=some x) (hy:ys[k]?=some y)
  (hQ:∀h',P7 t1 t2 h' z TI TO i1 i2 l1 l2 (k+1) (rawInt ↑s)->IsPair h' ↑s x y->rH z TO i1 i2 s.heap h'->Q (.ref ↑s) {s with heap:=h'}) :
  wpAny (model prog w) A (Builtin.«zip.__next__» {[.ref z],[]}) (λfin s'=>∃v,fin=.done (.ret v)/\Q v s') E s:=by
 let⟨hz,hTI,⟨a,b,hTO⟩,h1,h2⟩:=S;show wpAny _ _ (field (.ref z) 2 >>= _) _ _ _;refine yu (y7 hz rfl (x:=.bool false) rfl ?_);show wpAny _ _ (field (.ref z) 3 >>= _) _ _ _;refine yu (y7 hz rfl (x:=.ref TI) rfl (yu (xw hTI rfl ?_)));show wpAny _ _ (Builtin.SmallTypes.ownedTupleIsFree (.ref z) >>= _) _ _ _;refine yu ?_;unfold Builtin.SmallTypes.ownedTupleIsFree;refine yu (y7 hz rfl (x:=.none) rfl (yw ?_));simp only[vi];refine yu (wpAny_rule (yu (y7 hz rfl (x:=.ref TO) rfl (yu (xM hz (by simp) λg1 z1 q1=>?_)))));replace z1:IsZip g1 z TI TO .ellipsis:=z1;refine yu ?_;simp only[List.zipIdx_cons,List.zipIdx_nil,List.forIn_cons,List.forIn_nil];refine yu (yu (wpAny_onRaise ?_));show wpAny _ _ (Builtin.SmallTypes.nextOf (.ref i1) >>= _) _ _ _;refine yu (pS (h1.but q1 D.a3) (hl1.but q1 L1.a1) hx λg2 p2 q2=>yw ?_);let o2:IsPair g2 TO a b:=q2.extBut _ _ D.a8 (q1.extBut _ _ D.a2 hTO);refine yu (xw o2 rfl (yu (wpAny_updateSeq_pair o2 λg3 o3 q3=>yu (wpAny_letGo (yw (yu (yu (wpAny_onRaise ?_))))))));replace o3:IsPair g3 TO x b:=o3;show wpAny _ _ (Builtin.SmallTypes.nextOf (.ref i2) >>= _) _ _ _;refine yu (pS (((h2.but q1 D.a4).but q2 D.b1.symm).but q3 D.a9.symm) (((hl2.but q1 L2.a1).but q2 L2.a3).but q3 L2.a2) hy λg4 p4 q4=>yw ?_);let o4:IsPair g4 TO x b:=q4.extBut _ _ D.a9 o3;refine yu (xw o4 rfl (yu (wpAny_updateSeq_pair o4 λg5 o5 q5=>yu (wpAny_letGo (yw (yw ?_))))));replace o5:IsPair g5 TO x y:=o5;refine yu (xw o5 rfl (yu (wpAny_newTuple ?_)));let sz:g5.objs.size=↑s:=by rw[q5.1,q4.1,q3.1,q2.1,q1.1]
 let z5:IsZip g5 z TI TO .ellipsis:=q5.extBut _ _ D.a2.symm (q4.extBut _ _ D.a4.symm (q3.extBut _ _ D.a2.symm (q2.extBut _ _ D.a3.symm z1)));let k5:rH z TO i1 i2 s.heap g5:=λc o c1 c2 c3 c4 e=>q5.extBut _ _ c2 (q4.extBut _ _ c4 (q3.extBut _ _ c2 (q2.extBut _ _ c3 (q1.extBut _ _ c1 e))));let r1:dr t1 g5 i1 l1 (k+1):=((p2.but q3 D.a8.symm).but q4 D.b1).but q5 D.a8.symm;let r2:dr t2 g5 i2 l2 (k+1):=p4.but q5 D.a9.symm;let zl:z<g5.objs.size:=yy z5;show wpAny _ _ (Builtin.SmallTypes.ownedTupleHandOut (.ref z) (.ref g5.objs.size) >>= _) _ _ _;refine yu ?_;unfold Builtin.SmallTypes.ownedTupleHandOut;let z6:IsZip (g5.push {cls:=.type "tuple",data:=.seq #[x,y]}) z TI TO .ellipsis:=yv _ z5;refine yu (xM z6 (by simp) λg7 z7 q7=>?_);replace z7:IsZip g7 z TI TO (rawInt g5.objs.size):=z7;refine xM z7 (by simp) λg8 z8 q8=>?_;replace z8:IsZip g8 z TI TO (rawInt g5.objs.size):=z8;let up:∀c o,c≠z->g5.get? c=some o->g8.get? c=some o:=λc o c1 e=>q8.extBut _ _ c1 (q7.extBut _ _ c1 (yv _ e));let t8:IsPair g8 g5.objs.size x y:=q8.extBut _ _ (yi zl) (q7.extBut _ _ (yi zl) (yx _ rfl));rw[sz] at z8 t8;refine yw {_,rfl,?_};show Q (.ref g5.objs.size) _;rw[sz];exact hQ g8 {z8,up _ _ D.a1 (k5 _ _ D.a1 D.a5 D.a6 D.a7 hTI),{_,_,up _ _ D.a2 o5},r1.at λo e=>up _ o D.a3 e,r2.at λo e=>up _ o D.a4 e} t8 λc o c1 c2 c3 c4 e=>up c o c1 (k5 c o c1 c2 c3 c4 e)
def Nw {t1 t2:Bool} {z TI TO i1 i2 l1 l2:vF} {k:Nat} {xs ys:Array vz} {Q:Fin->vA->Prop} (hh:A.handled=none) (D:Nf z TI TO i1 i2) (L1:B5 l1 z TO i1 i2) (L2:B5 l2 z TO i1 i2)
  (S:P7 t1 t2 s.heap z TI TO i1 i2 l1 l2 k .none) (hl1:eZ t1 s.heap l1 xs) (hl2:eZ t2 s.heap l2 ys) (hend:xs[k]?=none\/ys[k]?=none)
  (hE:∀h' e,rH z TO i1 i2 s.heap h'->(∃o,h'.get? e=some o/\o.cls=.type "StopIteration")->E (.ref e) {s with heap:=h'}) :
  wpAny (model prog w) A (Builtin.«zip.__next__» {[.ref z],[]}) Q E s:=by
 let⟨hz,hTI,⟨a,b,hTO⟩,h1,h2⟩:=S;show wpAny _ _ (field (.ref z) 2 >>= _) _ _ _;refine yu (y7 hz rfl (x:=.bool false) rfl ?_);show wpAny _ _ (field (.ref z) 3 >>= _) _ _ _;refine yu (y7 hz rfl (x:=.ref TI) rfl (yu (xw hTI rfl ?_)));show wpAny _ _ (Builtin.SmallTypes.ownedTupleIsFree (.ref z) >>= _) _ _ _;refine yu ?_;unfold Builtin.SmallTypes.ownedTupleIsFree;refine yu (y7 hz rfl (x:=.none) rfl (yw ?_));simp only[vi];refine yu (wpAny_rule (yu (y7 hz rfl (x:=.ref TO) rfl (yu (xM hz (by simp) λg1 z1 q1=>?_)))));replace z1:IsZip g1 z TI TO .ellipsis:=z1;refine yu ?_;simp only[List.zipIdx_cons,List.zipIdx_nil,List.forIn_cons,List.forIn_nil];refine yu (yu (wpAny_onRaise ?_));show wpAny _ _ (Builtin.SmallTypes.nextOf (.ref i1) >>= _) _ _ _;cases hx:xs[k]? with
 | none=>
  refine yu (Ez hh (h1.but q1 D.a3) (hl1.but q1 L1.a1) hx λg2 e q2 he=>?_);let⟨oe,hoe,hce⟩:=he;let z2:IsZip g2 z TI TO .ellipsis:=q2 _ _ D.a3.symm z1;let hez:e≠z:=λx=>by subst x;rw[z2] at hoe;cases hoe;simp at hce
  exact xM z2 (by simp) λg3 _ q3=>hE g3 e (λc o c1 _ c3 _ x=>q3.extBut _ _ c1 (q2 _ _ c3 (q1.extBut _ _ c1 x))) {oe,q3.extBut _ _ hez hoe,hce}
 | some x=>
  let hy:ys[k]?=none:=by rcases hend with h | h;rw[hx] at h;cases h;exact h
  refine yu (pS (h1.but q1 D.a3) (hl1.but q1 L1.a1) hx λg2 p2 q2=>yw ?_);let o2:IsPair g2 TO a b:=q2.extBut _ _ D.a8 (q1.extBut _ _ D.a2 hTO);refine yu (xw o2 rfl (yu (wpAny_updateSeq_pair o2 λg3 o3 q3=>yu (wpAny_letGo (yw (yu (yu (wpAny_onRaise ?_))))))));show wpAny _ _ (Builtin.SmallTypes.nextOf (.ref i2) >>= _) _ _ _;refine yu (Ez hh (((h2.but q1 D.a4).but q2 D.b1.symm).but q3 D.a9.symm) (((hl2.but q1 L2.a1).but q2 L2.a3).but q3 L2.a2) hy λg4 e q4 he=>?_);let⟨oe,hoe,hce⟩:=he;let z4:IsZip g4 z TI TO .ellipsis:=q4 _ _ D.a4.symm (q3.extBut _ _ D.a2.symm (q2.extBut _ _ D.a3.symm z1));let hez:e≠z:=λx=>by subst x;rw[z4] at hoe;cases hoe;simp at hce
  exact xM z4 (by simp) λg5 _ q5=>hE g5 e (λc o c1 c2 c3 c4 x=>q5.extBut _ _ c1 (q4 _ _ c4 (q3.extBut _ _ c2 (q2.extBut _ _ c3 (q1.extBut _ _ c1 x))))) {oe,q5.extBut _ _ hez hoe,hce}
def Gs {t1 t2:Bool} {z TI TO i1 i2 l1 l2:vF} {k:Nat} {xs ys:Array vz} {x y:vz} {Q:Option vz->vA->Prop} (D:Nf z TI TO i1 i2) (L1:B5 l1 z TO i1 i2) (L2:B5 l2 z TO i1 i2)
  (S:P7 t1 t2 s.heap z TI TO i1 i2 l1 l2 k .none) (hl1:eZ t1 s.heap l1 xs) (hl2:eZ t2 s.heap l2 ys) (hx:xs[k]?=some x) (hy:ys[k]?=some y)
  (hQ:∀h',P7 t1 t2 h' z TI TO i1 i2 l1 l2 (k+1) (rawInt ↑s)->IsPair h' ↑s x y->rH z TO i1 i2 s.heap h'->Q (some (.ref ↑s)) {s with heap:=h'}) :
  wpAny (model prog w) A (pyNext (.ref z)) Q E s:=by
 let hT:s.TypeIs (.ref z) "zip":={_,S.z,rfl}
 unfold pyNext;exact yu (wW (yZ (name:=Str.ofString "__next__") hT xN (xb xN hT F.entry_zip_next (Ny D L1 L2 S hl1 hl2 hx hy λh' a1 a2 a3=>yw (hQ h' a1 a2 a3)) (vw _))))
def Gq {t1 t2:Bool} {z TI TO i1 i2 l1 l2:vF} {k:Nat} {xs ys:Array vz} {Q:Option vz->vA->Prop} (hh:A.handled=none) (D:Nf z TI TO i1 i2) (L1:B5 l1 z TO i1 i2) (L2:B5 l2 z TO i1 i2)
  (S:P7 t1 t2 s.heap z TI TO i1 i2 l1 l2 k .none) (hl1:eZ t1 s.heap l1 xs) (hl2:eZ t2 s.heap l2 ys) (hend:xs[k]?=none\/ys[k]?=none)
  (hQ:∀h',rH z TO i1 i2 s.heap h'->Q none {s with heap:=h'}):wpAny (model prog w) A (pyNext (.ref z)) Q E s:=by
 let hT:s.TypeIs (.ref z) "zip":={_,S.z,rfl}
 unfold pyNext;refine yu (wW (yZ (name:=Str.ofString "__next__") hT xN (xb xN hT F.entry_zip_next (Nw hh D L1 L2 S hl1 hl2 hend λh' e hk he=>?_) (vw _))));let⟨o,ho,hc⟩:=he;exact yu (wpAny_isInstance (T:="StopIteration") (b:=true) {(o),ho,hc} isSubtype_stop (yw (hQ _ hk)))
end
abbrev Vn (t1:Bool) (h:vG) (l1:vF):vG:=h.push (qU t1 l1)
abbrev Ua (t1 t2:Bool) (h:vG) (l1 l2:vF):vG:=(Vn t1 h l1).push (qU t2 l2)
abbrev Vm (t1 t2:Bool) (h:vG) (l1 l2:vF):vG:=(Ua t1 t2 h l1 l2).push {cls:=.type "tuple",data:=.seq #[.ref h.objs.size,.ref (Vn t1 h l1).objs.size]}
abbrev Vl (t1 t2:Bool) (h:vG) (l1 l2:vF):vG:=(Vm t1 t2 h l1 l2).push {cls:=.type "tuple",data:=.seq #[.none,.none]}
abbrev RY (t1 t2:Bool) (h:vG) (l1 l2:vF):vG:=(Vl t1 t2 h l1 l2).push {cls:=.type "zip",data:=.fields #[.none,.bool false,.bool false,.ref (Ua t1 t2 h l1 l2).objs.size,.ref (Vm t1 t2 h l1 l2).objs.size]}
def NA (t1 t2:Bool) (l1 l2:vF) (xs ys:Array vz) :
  Meets (Builtin.«zip.__new__» {[.type "zip",.ref l1,.ref l2],[]}) (λ_ R s=>eZ t1 s.heap l1 xs/\eZ t2 s.heap l2 ys/\R (.ok (.ret (.ref (Vl t1 t2 s.heap l1 l2).objs.size))) {s with heap:=RY t1 t2 s.heap l1 l2}):=
 .of_wp λprog w A R s h=>by
  let⟨hp,g,d,tk,os⟩:=s;let⟨a1,a2,h⟩:=h;let hsub:=sub_zip;let b1:eZ t1 (Shared.heap {(hp),g,d,tk,os}) l1 xs:=a1;let b2:eZ t2 (Shared.heap {hp.push (qU t1 l1),g,d,tk,os}) l2 ys:=a2.at λo e=>yv _ e;wp_walk using KY b1,KY b2;exact{_,rfl,h}
def Gu {prog:vB} {w:vC} {A:vD} {E:vz->vA->Prop} {s:vA} {t1 t2:Bool} {l1 l2:vF} {xs ys:Array vz} {Q:vz->vA->Prop} (hl1:eZ t1 s.heap l1 xs) (hl2:eZ t2 s.heap l2 ys)
  (h:∀h',P7 t1 t2 h' (↑s+4) (↑s+2) (↑s+3) ↑s (↑s+1) l1 l2 0 .none->(∀c o,s.heap.get? c=some o->h'.get? c=some o)->Q (.ref (↑s+4)) {s with heap:=h'}) :
  wpAny (model prog w) A (call (.type "zip") [.ref l1,.ref l2]) Q E s:=by
 refine callType_new F.called_zip ∅ (F.typeCall_zip_2 _ _) (F.newCall_zip_2 _ _) (λobj=>F.args_object_init_3 obj _ _) F.entry_zip_new (NA t1 t2 l1 l2 xs ys) {hl1,hl2,?_};let z1:(Vn t1 s.heap l1).objs.size=↑s+1:=xm ..;let z2:(Ua t1 t2 s.heap l1 l2).objs.size=↑s+2:=by rw[xm,z1]
 let z3:(Vm t1 t2 s.heap l1 l2).objs.size=↑s+3:=by rw[xm,z2]
 let z4:(Vl t1 t2 s.heap l1 l2).objs.size=↑s+4:=by rw[xm,z3]
 let up:∀c o,(Ua t1 t2 s.heap l1 l2).get? c=some o->(RY t1 t2 s.heap l1 l2).get? c=some o:=λc o e=>yv _ (yv _ (yv _ e));let g5:(RY t1 t2 s.heap l1 l2).get? (Vl t1 t2 s.heap l1 l2).objs.size=some _:=yx _ rfl;let g4:(RY t1 t2 s.heap l1 l2).get? (Vm t1 t2 s.heap l1 l2).objs.size=some _:=yv _ (yx _ rfl);let g3:(RY t1 t2 s.heap l1 l2).get? (Ua t1 t2 s.heap l1 l2).objs.size=some _:=yv _ (yv _ (yx _ rfl));let g2:dr t2 (RY t1 t2 s.heap l1 l2) (Vn t1 s.heap l1).objs.size l2 0:=(dr.new t2 _ l2).at (up _);let g1:dr t1 (RY t1 t2 s.heap l1 l2) ↑s l1 0:=((dr.new t1 _ l1).at λo e=>yv _ e).at (up _);show _/\_;rw[z2,z3,z4] at g5;rw[z1,z2] at g3;rw[z3] at g4;rw[z1] at g2;rw[z4];exact{{_,g5,rfl},h _ {g5,g3,{_,_,g4},g1,g2} λc o x=>up c o (yv _ (yv _ x))}
end L2
namespace L2
open PySem PySem.Spec PyProof.Rows
def bj (h:H p=none):ax H (upd H p o):=λb u e=>by rw[aE (bu e h)];exact e
def laid {H:Hp} {o:HO} {Q:VK} (k:∀p H',ax H H'->H' p=some o->Q (.ref p) H'):∀p,H p=none->Q (.ref p) (upd H p o):=λp hp=>k p _ (bj hp) aC
def ax.tup {K:yB} {H H':Hp} {a:vF} {xs:List V} (e:ax H H') (h:cU K H a xs):cU K H' a xs:=by
 rcases h with(h | ⟨o,h⟩) | h
 ·exact .inl (.inl (e _ _ h))
 ·exact .inl (.inr {o,e _ _ h})
 ·exact .inr h
section
variable {X:Cx} {pins:List (vF×Obj)} {U:St} {H:Hp} {s:vA} {h':vG}
def Inv.Af {T:vF} {o:HO} {ch:List vF} {t':Nat} (I:Inv X pins U H s) (hf:∀b∈ch,pN X pins H b) (hT:↑s<=T) (k:∀b u,b∉ch->s.heap.get? b=some u->h'.get? b=some u)
  (new:cB X.prog X.w (upd H T o) h' T o):Inv X pins U (upd H T o) {s with heap:=h',toks:=t'}:=by
 let hn:H T=none:=I.bZ.fresh hT;let neT:∀b u,s.heap.get? b=some u->b≠T:=λb u e=>yj (yc (yy e) hT);let nch:∀b u,H b=some u->b∉ch:=λb u e hb=>by rw[(hf b hb).1] at e;cases e
 refine I.step (g':=s.gens) (d':=s.drawn) (ch:=ch) (λb hb=>?_) (λb u _ _ hc e _=>k b u hc e) (λb u _ _ hc e _=>{u.slots,k b u hc e}) (λb u hc e n=>by rw[aE (neT b u e)];exact n) (λb u hc e=>{u,k b u hc e})
  (λb xs e=>by rw[aE (bu e hn)];exact e) (λb ob u e=>by rw[aE (bu e hn)];exact e) (λb ps e=>{#[],by rw[aE (bu e hn),e];simp}) (λm hm=>?_) (λb u e=>?_) I.bare
 ·let⟨f0,f1,f2,f3,f4,f5⟩:=hf b hb
  exact{(f3),f1,f4,f5}
 ·let⟨ob,es,ep,ho,r⟩:=hm
  exact{ob,es,ep,k _ _ (λz=>(hf _ z).2.1 rfl) ho,r}
 ·by_cases hb:b=T
  ·subst hb;rw[aC] at e;cases e;exact new
  ·rw[aE hb] at e
   refine(I.bZ b u e).kQ (λc v hc q=>k c v ?_ q) (λc q=>by rw[aE (bu q hn)];exact q) λc xs q=>by rw[aE (bu q hn)];exact q
   rcases hc with z | z
   ·rw[z];exact nch b u e
   ·exact nch c _ z
def Inv.turns {ch:List vF} {t':Nat} (I:Inv X pins U H s) (hf:∀b∈ch,pN X pins H b) (k:∀b u,b∉ch->s.heap.get? b=some u->h'.get? b=some u):Inv X pins U H {s with heap:=h',toks:=t'}:=by
 let nch:∀b u,H b=some u->b∉ch:=λb u e hb=>by rw[(hf b hb).1] at e;cases e
 refine I.step (g':=s.gens) (d':=s.drawn) (ch:=ch) (λb hb=>?_) (λb u _ _ hc e _=>k b u hc e) (λb u _ _ hc e _=>{u.slots,k b u hc e}) (λb u hc e n=>n) (λb u hc e=>{u,k b u hc e})
  (λb xs e=>e) (λb ob u e=>e) (λb ps e=>{#[],by rw[e];simp}) (λm hm=>?_) (λb u e=>?_) I.bare
 ·let⟨f0,f1,f2,f3,f4,f5⟩:=hf b hb
  exact{(f3),f1,f4,f5}
 ·let⟨ob,es,ep,ho,r⟩:=hm
  exact{ob,es,ep,k _ _ (λz=>(hf _ z).2.1 rfl) ho,r}
 ·refine(I.bZ b u e).kQ (λc v hc q=>k c v ?_ q) (λc q=>q) λc xs q=>q
  rcases hc with z | z
  ·rw[z];exact nch b u e
  ·exact nch c _ z
def FX:bootBuiltins "enumerate"= some (.type "enumerate"):=by decide +kernel
def PF:bootBuiltins "zip"= some (.type "zip"):=by decide +kernel
def TY (K:yB) (a:vF):It:=
 {λi H=>∃xs x,aH K H a xs/\xs[i]?=some x,λi H x H'=>∃p v,H p=none/\x=.ref p/\H'=upd H p (.tup [.int (i:Int),v])/\∀xs,aH K H a xs->xs[i]?=some v,λi H=>∃xs,aH K H a xs/\⇑xs<=i}
def LS {P:vB} {w:vC} {K:yB} {es:List Expr} {kt:Nat} {tp:Pos} (a it e:vF) (hne:e≠it) :
  Turn P w K (.Tuple es kt tp) (TY K a) [e,it] e (λi h=>(∃old,IsEnum h e it (i:Int) old)/\h.IsListIter it a i) where
 mem:=by simp
 obj:=λi h st b hb=>by
  let⟨⟨old,he⟩,o,e1,c,d⟩:=st;rcases zD.mp hb with z | z
  ·subst z;exact{_,he,λv z=>by cases z}
  ·let z':b=it:=by simpa using z
   subst z';exact{o,e1,λv z=>by rw[d] at z;cases z}
 keep:=λi h h' st k=>{let ⟨old,he⟩:=st.1;{old,k e (by simp) _ he},st.2.at λo e=>k it (by simp) o e}
 item:=by
  intro X hP hw hK hc i pins s U H E I hf st hg;subst hP hw hK;let⟨xs,x,hq,hx⟩:=hg;let⟨its,rv,p,hz⟩:=I.list hq;let⟨u,hu,ru⟩:=rv.get hx;let⟨⟨old,he⟩,hit⟩:=st;refine wpAny_pyNext_enum_item he hit p.isList (x:=u) (by simpa using hu) hne λg1 ho hit1 hT hsz hk=>?_;refine{_,rfl,wpAny_letOwnedTupleGo_enum (s:={s with heap:=g1,toks:=s.toks+1}) ho λg2 he2 hs2=>?_};let hel:e<↑s:=yy he;let gT:g2.get? ↑s=some {cls:=.type "tuple",data:=.seq #[.int i s.toks,u]}:=hs2.extBut _ _ (yi hel) hT;let I1:Inv X pins U (upd H ↑s (.tup [.int (i:Int),x])) {s with heap:=g2,toks:=s.toks+1}:=
   I.Af hf (zm _) (λb ob hb q=>hs2.extBut _ _ (λz=>hb (by simp[z])) (hk b ob (λz=>hb (by simp[z])) (λz=>hb (by simp[z])) q))
    {by show 2<=sizeLine;decide,[.int i s.toks,u],.cons {_,rfl} (.cons ru .nil),{_,gT,rfl,_,rfl}}
  refine{.ref ↑s,_,I1,rfl,{_,x,I.bZ.fresh (zm _),rfl,rfl,λys hy=>by rw[I.Ba hy hq];exact hx},{{_,by simpa using he2},hit1.at λo q=>hs2.extBut _ _ hne.symm q},λb hb=>?_};let hb':=(hf b hb).1;obtain⟨o,ho',_⟩:∃o,s.heap.get? b=some o/\True:=by
   rcases zD.mp hb with z | z
   ·subst z;exact{_,he,trivial}
   ·let z':b=it:=by simpa using z
    subst z';let⟨o,e1,_⟩:=hit;exact{(o),e1,trivial}
  rw[aE (yj (yy ho'))];exact hb'
 done:=by
  intro X hP hw hK hc i pins s U H E I hf st hg;subst hP hw hK;let⟨xs,hq,hx⟩:=hg;let⟨its,rv,p,hz⟩:=I.list hq;let⟨⟨old,he⟩,hit⟩:=st;let hl:=⇑rv;exact wpAny_pyNext_enum_end (I.ok.hd hc) he hit p.isList (by simp;ext) λg1 eb=>{rfl,I.turns (t':=s.toks) hf λb o hb q=>eb b o (λz=>hb (by simp[z])) q}
 self:=λ_ _ _ _ _ st h=>let ⟨_,he⟩:=st.1;wpAny_pyIter_enum he h
def RN (K:yB) (ta:TA):TI:=λU H R=>ta U H λvs H1=>∃a xs,vs=[.ref a]/\aH K H1 a xs/\R (TY K a) H1
def vS {a:Expr} {ta:TA} {es:List Expr} {kt:Nat} {tp p pos:Pos} (hg:Gl X "enumerate") (hm:X.mg "enumerate"= none) (ha:PA X [a] ta) (hs:starEach [a] X.env=[(false,eval a X.env)]<|>qe_) :
  PI X (.Tuple es kt tp) (.Call (.Name "enumerate" p) [a] [] pos) (RN X.K ta):=by
 intro pins s U H R I h;refine Call_ (jd I hg hm FX (yM (cM (ha pos pins s U H _ I h) λus s1 ⟨vs,H1,I1,r1,q1⟩=>?_) hs rfl));let⟨l,xs,e,hq,q⟩:=q1;subst e;cases r1 with
 | cons r rr=>
  cases rr;cases r;let⟨its,rv,pl,hz⟩:=I1.list hq;refine call_enumerate_list pl.isList λg he hit hsz hk=>?_;refine wpAny_pyIter_enum (s:={s1 with heap:=g}) he ?_;let I2:Inv X pins U H1 {s1 with heap:=g}:=I1.kept (t':=s1.toks) hk;refine{↑s1+1,[↑s1+1,↑s1],_,TY X.K l,H1,rfl,I2,LS l ↑s1 (↑s1+1) (yi (xR _)),{{_,by simpa using he},hit},λb hb=>?_,q};let hb':↑s1<=b:=by
   rcases zD.mp hb with z | z
   ·subst z;exact x9 _
   ·let z':b=↑s1:=by simpa using z
    subst z';exact zm _
  exact I1.uT hb' (I1.bZ.fresh hb')
def Dm (t:Bool) (K:yB) (H:Hp) (a:vF) (xs:List V):Prop:=match t with
 | true=>cU K H a xs
 | false=>aH K H a xs
def Inv.sq (I:Inv X pins U H s) (h:Dm t X.K H a xs):∃its:List vz,Vals xs its/\eZ t s.heap a its.toArray/\⇑xs<=sizeLine:=by
 cases t
 ·let⟨its,r,p,z⟩:=I.list h;exact{(its),r,p.isList,z}
 ·let⟨its,r,p,z⟩:=I.tuple h;exact{(its),r,p,z}
def Inv.NZ (I:Inv X pins U H s) (h:Dm t X.K H a xs) (h':Dm t X.K H a ys):xs=ys:=by
 cases t
 ·exact I.Ba h h'
 ·exact I.Dv h h'
def eZ.lt (x:eZ t h a items):a<h.objs.size:=by
 cases t
 ·let⟨o,e,_⟩:=x;exact yy e
 ·let⟨o,e,_⟩:=x;exact yy e
def VB (t1 t2:Bool) (K:yB) (a b:vF):It:=
  {λi H=>∃xs ys x y,Dm t1 K H a xs/\Dm t2 K H b ys/\xs[i]?=some x/\ys[i]?=some y,
   λi H x H'=>∃p u v,H p=none/\x=.ref p/\H'=upd H p (.tup [u,v])/\(∀xs,Dm t1 K H a xs->xs[i]?=some u)/\∀ys,Dm t2 K H b ys->ys[i]?=some v,
   λi H=>∃xs ys,Dm t1 K H a xs/\Dm t2 K H b ys/\(⇑xs<=i\/⇑ys<=i)}
def NI {P:vB} {w:vC} {K:yB} {es:List Expr} {kt:Nat} {tp:Pos} (t1 t2:Bool) (a b z TI TO i1 i2:vF) (D:Nf z TI TO i1 i2) (L1:B5 a z TO i1 i2) (L2:B5 b z TO i1 i2) :
  Turn P w K (.Tuple es kt tp) (VB t1 t2 K a b) [z,TI,TO,i1,i2] z (λi h=>P7 t1 t2 h z TI TO i1 i2 a b i .none) where
 mem:=by simp
 obj:=λi h st c hc=>by
  let⟨hz,hi,⟨_,_,ho⟩,h1,h2⟩:=st;simp only[zD,zE,yV] at hc;rcases hc with e | e | e | e | e
  ·subst e;exact{_,hz,λv q=>by cases q}
  ·subst e;exact{_,hi,λv q=>by cases q}
  ·subst e;exact{_,ho,λv q=>by cases q}
  ·subst e;exact h1.get
  ·subst e;exact h2.get
 keep:=λi h h' st k=>{k z (by simp) _ st.z,k TI (by simp) _ st.ti,let ⟨x,y,e⟩:=st.to;{x,y,k TO (by simp) _ e},st.i1.at λo e=>k i1 (by simp) o e,st.i2.at λo e=>k i2 (by simp) o e}
 item:=by
  intro X hP hw hK hc i pins s U H E I hf st hg;subst hP hw hK;let⟨xs,ys,x,y,hq,hq',hx,hy⟩:=hg;let⟨its,rv,p,hz⟩:=I.sq hq;let⟨jts,rw',p',hz'⟩:=I.sq hq';let⟨u,hu,ru⟩:=rv.get hx;let⟨u',hu',ru'⟩:=rw'.get hy;refine Gs D L1 L2 st p p' (x:=u) (y:=u') (by simpa using hu) (by simpa using hu') λg1 S1 hT hk=>?_;refine{_,rfl,wpAny_letOwnedTupleGo_zip (s:={s with heap:=g1}) S1.z λg2 z2 hs2=>?_};let zl:z<↑s:=yy st.z;let gT:g2.get? ↑s=some {cls:=.type "tuple",data:=.seq #[u,u']}:=hs2.extBut _ _ (yi zl) hT;let I1:Inv X pins U (upd H ↑s (.tup [x,y])) {s with heap:=g2}:=
   I.Af (t':=s.toks) hf (zm _) (λc ob hb q=>hs2.extBut _ _ (λe=>hb (by simp[e])) (hk c ob (λe=>hb (by simp[e])) (λe=>hb (by simp[e])) (λe=>hb (by simp[e])) (λe=>hb (by simp[e])) q))
    {by show 2<=sizeLine;decide,[u,u'],.cons ru (.cons ru' .nil),{_,gT,rfl,_,rfl}}
  refine{.ref ↑s,_,I1,rfl,{_,x,y,I.bZ.fresh (zm _),rfl,rfl,λzs h=>by rw[I.NZ h hq];exact hx,λzs h=>by rw[I.NZ h hq'];exact hy},{z2,hs2.extBut _ _ D.a1 S1.ti,let ⟨x,y,e⟩:=S1.to;{x,y,hs2.extBut _ _ D.a2 e},S1.i1.but hs2 D.a3,S1.i2.but hs2 D.a4},λc hc=>?_};let hb':=(hf c hc).1;obtain⟨o,ho',_⟩:∃o,s.heap.get? c=some o/\True:=by
   obtain⟨hz,hi,⟨_,_,ho⟩,⟨q1,e1,_⟩,⟨q2,e2,_⟩⟩:_/\_/\_/\_/\_:={(st.z),st.ti,st.to,st.i1.get,st.i2.get}
   simp only[zD,zE,yV] at hc;rcases hc with e | e | e | e | e
   ·subst e;exact{_,hz,trivial}
   ·subst e;exact{_,hi,trivial}
   ·subst e;exact{_,ho,trivial}
   ·subst e;exact{_,e1,trivial}
   ·subst e;exact{_,e2,trivial}
  rw[aE (yj (yy ho'))];exact hb'
 done:=by
  intro X hP hw hK hc i pins s U H E I hf st hg;subst hP hw hK;let⟨xs,ys,hq,hq',hx⟩:=hg;let⟨its,rv,p,hz⟩:=I.sq hq;let⟨jts,rw',p',hz'⟩:=I.sq hq';let hl:=⇑rv;let hl':=⇑rw';refine Gq (I.ok.hd hc) D L1 L2 st p p' ?_ λg1 eb=>{rfl,I.turns (t':=s.toks) hf λc o hb q=>eb c o (λe=>hb (by simp[e])) (λe=>hb (by simp[e])) (λe=>hb (by simp[e])) (λe=>hb (by simp[e])) q}
  rcases hx with h | h
  ·exact .inl (by simp;ext)
  ·exact .inr (by simp;ext)
 self:=λ_ _ _ _ _ st h=>wpAny_pyIter_zip st.z h
def Wo (K:yB) (ta:TA):TI:=λU H R=>ta U H λvs H1=>∃t1 t2 a b xs ys,vs=[.ref a,.ref b]/\Dm t1 K H1 a xs/\Dm t2 K H1 b ys/\R (VB t1 t2 K a b) H1
def Oy {a b:Expr} {ta:TA} {es:List Expr} {kt:Nat} {tp p pos:Pos} (hg:Gl X "zip") (hm:X.mg "zip"= none) (ha:PA X [a,b] ta)
  (hs:starEach [a,b] X.env=[(false,eval a X.env),(false,eval b X.env)]<|>qe_) (hs2:starEach [b] X.env=[(false,eval b X.env)]<|>qe_) :
  PI X (.Tuple es kt tp) (.Call (.Name "zip" p) [a,b] [] pos) (Wo X.K ta):=by
 intro pins s U H R I h;refine Call_ (jd I hg hm PF (yM (cM (ha pos pins s U H _ I h) λus s1 ⟨vs,H1,I1,r1,q1⟩=>?_) (by rw[hs,hs2]) (by rw[hs2];rfl)));let⟨t1,t2,a,b,xs,ys,e,hq,hq',q⟩:=q1;subst e;cases r1 with
 | cons r rr=>
  cases rr with
  | cons r' rr=>
   cases rr;cases r;cases r';let⟨its,rv,pl,hz⟩:=I1.sq hq;let⟨jts,rv',pl',hz'⟩:=I1.sq hq';let la:=pl.lt;let lb:=pl'.lt;refine Gu pl pl' λg S hk=>?_;refine wpAny_pyIter_zip (s:={s1 with heap:=g}) S.z ?_;let I2:Inv X pins U H1 {s1 with heap:=g}:=I1.kept (t':=s1.toks) hk;let D:Nf (↑s1+4) (↑s1+2) (↑s1+3) ↑s1 (↑s1+1):=by
    constructor <;> (show _≠(_:Nat)) <;> ext
   let L:∀c,c<↑s1->B5 c (↑s1+4) (↑s1+3) ↑s1 (↑s1+1):=λc hc=>by
    constructor <;> (show _≠(_:Nat)) <;> ext
   refine{↑s1+4,[_,_,_,_,_],_,VB t1 t2 X.K a b,H1,rfl,I2,NI t1 t2 a b _ _ _ _ _ D (L a la) (L b lb),S,λc hc=>?_,q};let hb':↑s1<=c:=by
    simp only[zD,zE,yV] at hc;rcases hc with e | e | e | e | e <;> (subst e;first | exact Nat.le_add_right _ _ | exact zm _)
   exact I1.uT hb' (I1.bZ.fresh hb')
def E2 (bs:List Bool):((List.range ⇑bs).all λi=>(bs[i]?).getD true)=bs.all id:=by
 rw[xO,yp,yp];constructor
 ·intro h b hb
  let⟨i,hi,e⟩:=List.mem_iff_getElem.mp hb;have:=h i (yS.mpr hi);rw[zd hi,e] at this;exact this
 ·intro h i hi
  let hi':=yS.mp hi;rw[zd hi'];exact h _ (ym hi')
def nV (hc:X.calm=true):fk X (.builtin "all") (λxs H Q=>∃(a:vF) (bs:List Bool),xs=[.ref a]/\aH X.K H a (bs.map V.bl)/\Q (.bl (bs.all id)) H):=by
 intro pins s U H xs us Q I r h;let⟨a,bs,e,hq,q⟩:=h;subst e;cases r with
 | cons r rr=>
  cases rr;cases r;let⟨its,rv,p,hz⟩:=I.list hq;let hlt:a<↑s:=by let⟨o,n,e,_⟩:=p;exact yy e
  let hlen:⇑bs=⇑its:=by have:=⇑rv;rw[za] at this;exact this
  refine call_all_walk (wL p.isList ?_);refine{↑s,[↑s,a],[↑s],its.toArray.size,_,_,λi=>(bs[i]?).getD true,rfl,Walks.list (A:=X.A.in1) (I.ok.hd hc) _ a (yj hlt) its.toArray,
   {{_,yx _ rfl,rfl,rfl},p.isList.push _},λi v s' Q' E' hP hQ=>?_,λh' tk hk=>?_}
  ·let hP':its[i]?=some v:=by simpa using hP
   let hi:i<⇑bs:=by rw[hlen];exact(zy.mp hP').1
   let hm:(bs.map V.bl)[i]?=some (.bl bs[i]):=by rw[zK,zd hi];rfl
   let⟨u,hu,ru⟩:=rv.get hm;rw[hP'] at hu;cases hu;cases ru;dsimp only at hQ;rw[zd hi] at hQ;exact xi hQ
  ·let e:((List.range its.toArray.size).all λi=>(bs[i]?).getD true)=bs.all id:=by rw[yb,<-hlen];exact E2 bs
   rw[e];exact{.bl _,H,I.kept λb o x=>hk b o (λhm=>by rw[zA.mp hm] at x;exact yf _ (yy x)) (yv _ x),rfl,q}
end
section
variable {X:Cx} {pos:Pos}
end
inductive Ty where
 | bH | bl | int | str | tup | lst | U6
def Ty.name:Ty->String
 | .bH=> "NoneType" | .bl=> "bool" | .int=> "int" | .str=> "str" | .tup=> "tuple" | .lst=> "list" | .U6=> "dict"
def tag (H:Hp):V->Option Ty
 | .bH=>some .bH
 | .bl _=>some .bl
 | .int _=>some .int
 | .str _=>some .str
 | .ref a=>match H a with
  | some (.tup _)=>some .tup
  | some (.lst _)=>some .lst
  | some (.mG _ (.lst _))=>some .lst
  | some (.dK _)=>some .U6
  | some (.dT _)=>some .U6
  | _=>none
 | _=>none
def Sa {K:yB} {H:Hp} {x:V} {n:Ty} (h:tag H x=some n):tK K H x (.type n.name):=by
 cases x with
 | bH=>cases h;exact .bH
 | bl b=>cases h;exact .bl b
 | int i=>cases h;exact .int i
 | str y=>cases h;exact .str y
 | LA _=>cases h
 | Q0 _=>cases h
 | ty _=>cases h
 | ref a=>
  simp only[tag] at h;split at h
  ·cases h;exact .tup ‹_›
  ·cases h;exact .lst ‹_›
  ·cases h;exact .mG ‹_›
  ·cases h;exact .dK ‹_›
  ·cases h;exact .dT ‹_›
  ·cases h
def Ty.sub:Ty->Ty->Bool
 | .bl,.bl=>true | .int,.int=>true | .str,.str=>true | .tup,.tup=>true | .lst,.lst=>true | .U6,.U6=>true | .bH,.bH=>true
 | .bl,.int=>true
 | _,_=>false
def QV (K:yB) (a b:Ty):PySem.W.kitOne K (.type a.name) (.type b.name)=some (a.sub b):=by
 cases a <;> cases b <;> first | rfl | decide +kernel | kernel_rfl
def V4 (c:Ty) (ta:TE):TE:=λU H Q=>ta U H λx H1=>∃n,tag H1 x=some n/\Q (.bl (n.sub c)) H1
section
variable {X:Cx}
def OD (c:Ty) (hx:bootBuiltins x=some (.type c.name)) (ha:PE X a ta) (hm:X.mg "isinstance"= none) (hm2:X.mg x=none)
  (hg:Gl X "isinstance"<|>qe_) (hg2:Gl X x<|>qe_) (hn:x≠ "__name__"<|>qb_) (hd:(x == ("__debug__": Str))=false<|>qb_)
  (hs:starEach [a,.Name x p2] X.env=(false,eval a X.env)::starEach [.Name x p2] X.env<|>qe_) (hs2:starEach [.Name x p2] X.env=[(false,eval (.Name x p2) X.env)]<|>qe_) :
  PE X (.Call (.Name "isinstance" p1) [a,.Name x p2] [] pos) (V4 c ta):=by
 let hc:fk X (.builtin "isinstance") (λxs H Q=>∃v n,xs=[v,.ty c.name]/\tag H v=some n/\Q (.bl (n.sub c)) H):=by
  intro pins s U H xs us Q I r h;let⟨v,n,e,ht,q⟩:=h;subst e;cases r with
  | cons r rr=>
   cases rr with
   | cons r' rr=>
    cases rr;cases r';exact MD I r (Sa ht) (QV _ _ _) λtk=>{.bl _,H,I.tok tk,rfl,q}
 let hb:PE X (.Name x p2) (tC (.ty c.name)):=QG (u:=.type c.name) hg2 hm2 hx rfl hn hd;let ht:=Ht (p:=p1) (pos:=pos) hc hg hm (by decide +kernel) (ah ha (ah hb ag hs2) hs) (he:=hs) (hpl:=by rw[hs2];rfl);intro pins s U H Q I h;let mono:ta U H (λx H1=>∃n,tag H1 x=some n/\Q (.bl (n.sub c)) H1)->LW (λxs H Q=>∃v n,xs=[v,.ty c.name]/\tag H v=some n/\Q (.bl (n.sub c)) H) (bR ta (bR (tC (.ty c.name)) eC)) U H Q:=λz=>by
  show ta U H λx H1=>∃v n,[x,V.ty c.name]=[v,.ty c.name]/\tag H1 v=some n/\Q (.bl (n.sub c)) H1;let e:(λx H1=>∃n,tag H1 x=some n/\Q (.bl (n.sub c)) H1)=(λ(x:V) (H1:Hp)=>∃v n,[x,V.ty c.name]=[v,V.ty c.name]/\tag H1 v=some n/\Q (.bl (n.sub c)) H1):=by
   funext x H1
   apply propext;constructor
   ·rintro⟨n,h1,h2⟩;exact{(x),n,rfl,h1,h2}
   ·rintro⟨v,n,e,h1,h2⟩;cases e;exact{(n),h1,h2}
  rw[<-e];exact z
 exact ht pins s U H Q I (mono h)
end
inductive Dt where
 | bH | bl (b:Bool) | int (i:Int) | str (x:Str) | tup (l:List Dt)
mutual
def Is (H:Hp):Dt->V->Prop
 | .bH,v=>v=.bH
 | .bl b,v=>v=.bl b
 | .int i,v=>v=.int i
 | .str x,v=>v=.str x
 | .tup l,v=>∃a vs,v=.ref a/\H a=some (.tup vs)/\aD H l vs
def aD (H:Hp):List Dt->List V->Prop
 | [],vs=>vs=[]
 | d::l,vs=>∃v r,vs=v::r/\Is H d v/\aD H l r
end
mutual
theorem Is.mono (s:ax H H'):∀{d:Dt} {v:V},Is H d v->Is H' d v
 | .bH,_,h=>by unfold Is at h ⊢;exact h
 | .bl _,_,h=>by unfold Is at h ⊢;exact h
 | .int _,_,h=>by unfold Is at h ⊢;exact h
 | .str _,_,h=>by unfold Is at h ⊢;exact h
 | .tup l,_,h=>by
  unfold Is at h ⊢;let⟨a,vs,e,ha,hl⟩:=h;exact{a,vs,e,s _ _ ha,aD.mono s hl}
theorem aD.mono (s:ax H H'):∀{l:List Dt} {vs:List V},aD H l vs->aD H' l vs
 | [],_,h=>by unfold aD at h ⊢;exact h
 | d::l,_,h=>by
  unfold aD at h ⊢;let⟨v,r,e,hv,hr⟩:=h;exact{v,r,e,Is.mono s hv,aD.mono s hr}
end
theorem aD.len:∀{l:List Dt} {vs:List V},aD H l vs->⇑vs=⇑l
 | [],_,h=>by unfold aD at h;rw[h];rfl
 | d::l,_,h=>by
  unfold aD at h;let⟨v,r,e,_,hr⟩:=h;rw[e,zv,zv,aD.len hr]
theorem aD.get:∀{l:List Dt} {vs:List V} {i:Nat} {v:V},aD H l vs->vs[i]?=some v->∃d,l[i]?=some d/\Is H d v
 | [],_,i,v,h,e=>by unfold aD at h;rw[h] at e;simp at e
 | d::l,_,i,v,h,e=>by
  unfold aD at h;let⟨u,r,e1,hv,hr⟩:=h;subst e1;cases i with
  | zero=>simp at e;subst e;exact{(d),rfl,hv}
  | succ i=>
   let⟨d',h1,h2⟩:=aD.get (i:=i) hr (by simpa using e);exact{d',by simpa using h1,h2}
def ax.i6 (e:upd H p o=H') (h:H p=none):ax H H':=e▸bj h
def jq (e:upd H p o=H'):H' p=some o:=e▸aC
def bW {c:Bool} {A B:Prop} (h:c=true) (q:A):if c=true then A else B:=by rw[yO h];exact q
def b9 {c:Bool} {A B:Prop} (h:c=false) (q:B):if c=true then A else B:=by rw[yN (by rw[h];decide)];exact q
def dm:⇑[a,b]<=sizeLine:=by show 2<=sizeLine;decide
def mR:⇑[a,b,c]<=sizeLine:=by show 3<=sizeLine;decide
def ax.on {H H':Hp} {a:vF} {o:HO} (s:ax H H') (h:H a=some o):H' a=some o:=s a o h
def iw (h:H p=some (.tup [.int a,.int b])):Is H (.tup [.int a,.int b]) (.ref p):=by
 unfold Is;exact{p,_,rfl,h,by simp only[aD,Is];exact{_,_,rfl,rfl,_,_,rfl,rfl,rfl}}
def q9 {K:yB} {a:vF} {xs:List V} {g:TG} {tb:TS} {D:Ends} {U:St} {H:Hp} (Pv:Nat->St->Hp->Prop) (h0:Pv 0 U H) (hl:∀i U H,i<=⇑xs->Pv i U H->aH K H a xs)
  (hs:∀i x U H p H',xs[i]?=some x->Pv i U H->ax H H'->H' p=some (.tup [.int (i:Int),x])->g (.ref p) U H' λσ2 H2=>tb {D with nx:=Pv (i+1),ct:=Pv (i+1),bk:=D.nx} σ2 H2) (hd:∀U H,Pv ⇑xs U H->D.nx U H) :
  ∃W:Nat->Nat->St->Hp->Prop,(∃m,W 0 m U H)/\∀i m U H,W i m U H->
   ((TY K a).stop i H/\D.nx U H)\/((TY K a).go i H/\∃N:St->Hp->Prop,(∀U' H',N U' H'->∃m',m'<m/\W (i+1) m' U' H')/\∀x H',(TY K a).Jg i H x H'->g x U H' λσ2 H2=>tb {D with nx:=N,ct:=N,bk:=D.nx} σ2 H2):=by
 refine{λi m U H=>m=⇑xs-i/\i<=⇑xs/\Pv i U H,{⇑xs,by simp,yg _,h0},?_};rintro i m U H ⟨rfl,hi,p⟩;let q:=hl i U H hi p
 by_cases hlt:i<⇑xs
 ·refine .inr {{xs,xs[i],q,by simp[hlt]},Pv (i+1),λU' H' p'=>{⇑xs-(i+1),(),rfl,hlt,p'},λx H' y=>?_}
  let⟨pp,v,hp,e1,e2,y⟩:=y;subst e1 e2;exact hs i v U H pp _ (y xs q) p (bj hp) aC
 ·let e:i=⇑xs:=()
  subst e;exact .inl {{xs,q,zm _},hd U H p}
section
variable {X:Cx} {pos:Pos}
def Inv.UM (I2:Inv X pins σ2 H2 s2) (hC:↑s2<=C) (I:Inv X pins U H s) (hn:H C=none) (hs:Heap.SameBut C s.heap h'):Inv X pins U H {s with heap:=h'}:=by
 let⟨f0,f1,f2,f3,f4,f5⟩:=I2.uT hC hn;exact I.turned (t':=s.toks) (λb o hb e=>hs.extBut b o hb e) f0 f1 f3 f4 f5
end
section
variable {X:Cx} {pins:List (vF×Obj)} {U:St} {H:Hp} {s:vA}
def Sz (n:Nat) (i:Int):Prop:=i.natAbs<2^n
def Sz.mono (h:Sz n i) (k:n<=m):Sz m i:=yc h (Nat.pow_le_pow_right ∅ k)
def Sz.mul (h:Sz n i) (k:Sz m j):Sz (n+m) (i*j):=by
 unfold Sz at *;rw[Int.natAbs_mul,Nat.pow_add];exact Nat.mul_lt_mul'' h k
def Sz.add (h:Sz n i) (k:Sz n j):Sz (n+1) (i+j):=by
 unfold Sz at *;have:=Int.natAbs_add_le i j;rw[Nat.pow_succ];ext
def Sz.le (h:Sz n j) (h0:0<=i) (hl:i<=j):Sz n i:=by
 unfold Sz at *;have:i.natAbs<=j.natAbs:=()
 ext
def Sz.bits (h:Sz n i):Builtin.Int.intBits i<=n:=by
 unfold Builtin.Int.intBits;split
 ·exact yg _
 ·rename_i hz
  have:i.natAbs≠0:=by
   intro e;have:i=0:=Int.natAbs_eq_zero.mp e;subst this;exact hz rfl
  have:=(Nat.log2_lt this).mpr h;ext
def Vj (i j:Int):Prop:=Sz 20000 i/\Sz 20000 j
def Vk (_ j:Int):Prop:=0<j/\Sz 8999 j
def qF:ng X (binaryOp .Mult) (rI Vj λi j=>.int (i*j)):=T8 λ_ _ _ _ _ _ _ hc q=>mul_int q (.of_bits (zM hc.1.bits ∅) (zM hc.2.bits ∅))
def qG:ng X (binaryOp .FloorDiv) (rI Vk λi j=>.int (i/j)):=T8 λi j _ _ _ _ _ hc q=>by
 let h1:(0:Int)<j:=hc.1;refine floordiv_int () (by rw[vt i ()];exact q) (.inl (PyProof.noPylong_of_log2 ?_));let h2:j.natAbs<2^8999:=hc.2;let h3:j.natAbs≠0:=()
 exact xH ((Nat.log2_lt h3).mpr h2) ∅
def PK {ns:List Int} {j:Int} (h0:0<=j) (h1:j<⇑ns):Ek (ns.map V.int) j=some (.int (ns.getD j.toNat 0)):=by
 let⟨k,rfl⟩:=yL h0;refine bA ?_;let hk:k<⇑ns:=()
 rw[zK,zd hk];simp[List.getD,hk]
end
section
variable {X:Cx} {pos:Pos}
def RH (K:yB):R2:=λx y H Q=>∃l b xs zs,x=.ref l/\y=.ref b/\aH K H l xs/\aH K H b zs/\⇑xs+⇑zs<=sizeLine/\∀p,H p=none->Q (.ref p) (upd H p (.lst (xs++zs)))
def fP:ng X (binaryOp .Add) (RH X.K):=by
 intro pins s U H x y v u Q I rx ry h;let⟨l,b,xs,zs,rfl,rfl,hH,hB,hz,q⟩:=h;cases rx;cases ry;let⟨its,r,p,z⟩:=I.list hH;let⟨jts,r',p',z'⟩:=I.list hB;let l1:=⇑r;let l2:=⇑r';let⟨⟨cls,dd,data,sl⟩,ho,hc,n,hd⟩:=id p.isList;let⟨⟨cls2,dd2,data2,sl2⟩,ho2,hc2,n2,hd2⟩:=id p'.isList;simp only at hc hd hc2 hd2;subst hc hd hc2 hd2;refine concat_meets {_,ho,rfl} {_,ho2,rfl} noFill_list_add seq_list_add PySem.F.slot_list_add PySem.F.entry_list_add (PySem.F.args_list_add_2 _ _) (list_addW l b its.toArray jts.toArray n n2 dd dd2 sl sl2 (by rw[yb,yb];ext)) {ho,ho2,?_};let ea:its.toArray++jts.toArray=(its++jts).toArray:=by simp
 rw[ea];exact{.ref _,_,I.UL (t':=s.toks) (r.append r') (by rw[zh];ext),rfl,q _ I.fresh}
end
def B6 (n:Nat) (x:Int×Int):Prop:=Sz n x.1/\Sz n x.2
theorem B6.red (ht:0<=t) (hb:0<b) (h1:Sz n t) (h2:Sz n b):B6 n (Lm.red t b):=by
 let⟨g,g0,_,_,p,l⟩:=Lm.iT (t:=t) hb;exact{h1.le (Lm.AO ht) (Lm.AQ ht),h2.le (xa p) l}
theorem B6.add (hx:Lm.Rd x) (hy:Lm.Rd y) (h:B6 n x) (k:B6 m y):B6 (n+m+1) (Lm.add x y):=by
 let⟨a,b,_⟩:=hx.pos;let⟨c,d,_⟩:=hy.pos;refine B6.red (Int.add_nonneg (wc a ()) (wc c ())) (xB b d) ?_ ((h.2.mul k.2).mono ());refine Sz.add (h.1.mul k.2) ?_;have:=k.1.mul h.2;rw[Nat.add_comm] at this;exact this
def dec (n:Int):Str:=Str.ofString (toString n)
def kP {x y:Str} (h:x.cps.toList=y.cps.toList):x=y:=by
 cases x;cases y;simp only[Str.mk.injEq];exact Array.toList_inj.mp h
def cF (x y:Str):(x++y).cps.toList=x.cps.toList++y.cps.toList:=Array.toList_append ..
def len_app (x y:Str):⇑(x++y)=⇑x+⇑y:=Array.size_append ..
def M5 (x y z:Str):x++y++z=x++(y++z):=kP (by rw[cF,cF,cF,cF,zF])
def Aa (m:Nat):(dec (m:Int)).cps.toList=(Nat.toDigits 10 m).map Char.toNat:=PySem.W.KIN.signs_num m
def Fy (m:Nat):⇑(dec (m:Int))=⇑(Nat.toDigits 10 m):=by
 let h:=y6 List.length (Aa m);rw[za,yQ] at h;exact h
def Q7 (h:c∈(Nat.toDigits 10 m).map Char.toNat):48<=c/\c<=57:=by
 let⟨ch,hc,e⟩:=zH.mp h;let r:=Nat.isDigit_of_mem_toDigits ∅ ∅ hc;rw[<-e];simp only[Char.isDigit,zO,xF] at r;exact{(r.1),r.2}
section
variable {X:Cx}
end
section
variable {X:Cx}
def SD:V->Option Int->Option Int->Hp->VK->Prop:=λx lo hi H Q=>∃t:Str,x=.str t/\⇑t<=sizeLine/\Q (.str (PySem.Txt.slice t lo hi)) H
def Jv:PX X SD:=by
 intro pins s U H x v vl vu lo hi sl Q I rx hs pl pu h;let⟨t,rfl,hz,q⟩:=h;let⟨tk,rfl⟩:=rx;let⟨o,ho,hc,hd⟩:=hs;let fin:∀(l u:Option (Int×Tok)),l.map (·.1)=lo->u.map (·.1)=hi->partValue l=vl->partValue u=vu->
   ∃T id,typeLookup (.type T) "__getitem__"= pure (some (.builtin id))/\s.TypeIs (.str t tk) T/\wpAny (model X.prog X.w) X.A (getItem (.str t tk) (.ref sl)) (EP X pins U Q) X.xe s:=by
  intro l u e1 e2 e3 e4;subst e1 e2 e3 e4;exact{"str",_,F.slot_str_getitem.lookup,wR _ _ _,wpAny_getItem_str_slice (l:=l) (u:=u) (st:=none) {(o),ho,hc,hd} rfl
   (post_val_or_str {zM (PySem.Txt.slice_le t _ _) hz,λt' k=>{.str _,H,I.tok _,{_,rfl},q}})}
 cases pl with
 | none=>
  cases pu with
  | none=>exact fin none none rfl rfl rfl rfl
  | int j tj=>exact fin none (some (j,tj)) rfl rfl rfl rfl
 | int i ti=>
  cases pu with
  | none=>exact fin (some (i,ti)) none rfl rfl rfl rfl
  | int j tj=>exact fin (some (i,ti)) (some (j,tj)) rfl rfl rfl rfl
def Vg (x:Str):It:={λi _=>i<⇑x,λi H v H'=>H'=H/\∃c,x.cps[i]?=some c/\v=.str {#[c]},λi _=>⇑x<=i}
def NJ {P:vB} {w:vC} {K:yB} {tg:Expr} (x:Str) (t:Tok) (it:vF) (ty:String) (hty:ty ="str_ascii_iterator"\/ty ="str_iterator"):Turn P w K tg (Vg x) [it] it (λi h=>i<=⇑x/\h.IsStrIter it ty x t i) where
 mem:=by simp
 obj:=λi h st b hb=>by
  let e:b=it:=by simpa using hb
  subst e;let⟨_,o,e,c,d⟩:=st;exact{o,e,λv z=>by rw[d] at z;cases z}
 keep:=λi h h' st k=>{st.1,let ⟨o,ho,r⟩:=st.2;{o,k it (by simp) o ho,r}}
 item:=by
  intro X hP hw hK hc i pins s U H E I hf st hg;subst hP hw hK;let W:Walks X.prog X.w X.A it [it] [it] x.cps.size (SignAt x) (λi h=>h.IsStrIter it ty x t i):=by
   rcases hty with rfl | rfl
   ·exact Walks.strAscii (I.ok.hd hc) it x t
   ·exact Walks.strWide (I.ok.hd hc) it x t
  refine W.item i s _ _ hg st.2 λv h' tk hv z' kk=>?_;let⟨c,u,hcx,rfl⟩:=hv;let I1:Inv X pins U H {s with heap:=h',toks:=tk}:=I.turns hf λb o hb e=>kk b o (by simpa using hb) e;let⟨o,e,cc,d⟩:=id z';let hgl:i<⇑x:=hg;refine{_,rfl,DW (s:={s with heap:=h',toks:=tk}) (n:=ty) e cc d ?_ {.str {#[c]},H,I1,{(u),rfl},{(rfl),c,hcx,rfl},{(hgl),z'},λb hb=>(hf b hb).1}};rcases hty with rfl | rfl <;> decide
 done:=by
  intro X hP hw hK hc i pins s U H E I hf st hg;subst hP hw hK;let hi:i=x.cps.size:=Nat.le_antisymm st.1 hg;subst hi;let W:Walks X.prog X.w X.A it [it] [it] x.cps.size (SignAt x) (λi h=>h.IsStrIter it ty x t i):=by
   rcases hty with rfl | rfl
   ·exact Walks.strAscii (I.ok.hd hc) it x t
   ·exact Walks.strWide (I.ok.hd hc) it x t
  exact W.done s _ _ st.2 λh' tk eb=>{rfl,I.turns hf λb o hb e=>eb b o (by simpa using hb) e}
 self:=λA i s Q E z h=>by
  rcases hty with rfl | rfl
  ·exact wpAny_pyIter_striter_ascii z.2 h
  ·exact wpAny_pyIter_striter_wide z.2 h
def Wr (tl:TE):TI:=λU H R=>tl U H λx H1=>∃t,x=.str t/\R (Vg t) H1
def Oz {tg l:Expr} {tl:TE} (hl:PE X l tl):PI X tg l (Wr tl):=by
 intro pins s U H R I h;refine cM (hl pins s U H _ I h) λv s1 zz=>?_;let⟨x,H1,I1,r1,q1⟩:=zz;let⟨t,e,q⟩:=q1;subst e;let⟨tk,rfl⟩:=r1;refine wpAny_pyIter_strU ?_;refine{↑s1,[↑s1],_,_,H1,rfl,I1.kept (t':=s1.toks) λb o e=>yv _ e,NJ t tk _ (strIterType t) ?_,{yg _,_,yx _ rfl,rfl,rfl},λb hb=>?_,q}
 ·unfold strIterType
  split
  ·exact .inl rfl
  ·exact .inr rfl
 ·let e:b=↑s1:=by simpa using hb
  subst e;exact I1.uT (zm _) (I1.bZ.fresh (zm _))
theorem Dr:∀(l:List (Str×Tok)),Vals ((l.map (·.1)).map V.str) (strValues l)
 | []=>.nil
 | (x,t)::r=>.cons {(t),rfl} (Dr r)
def SA:V->List V->Hp->VK->Prop:=λx vs H Q=>∃(t y:Str),x=.str t/\vs=[.str y]/\⇑y=1/\⇑t+2<=sizeLine/\∀l,H l=none->Q (.ref l) (upd H l (.lst ((PySem.Txt.split t y).map V.str)))
def i7:RW X "str.split" SA:=by
 intro pins s U H x vs v us Q I rx rv h;let⟨t,y,rfl,rfl,hy,hz,q⟩:=h;let⟨tk,rfl⟩:=rx;let⟨u,rfl,tk',rfl⟩:=rv.one;let hy':(⇑y == 0)=false:=by rw[hy];rfl
 let hle:=split_le t y;let fin:∀(l:List (Str×Tok)) (k:Nat),l.map (·.1)=PySem.Txt.split t y->
   EP X pins U Q (.ref ↑s) {s with heap:=s.heap.push {cls:=.type "list",data:=.seq (strValues l).toArray},toks:=k}:=λl k e=>
  {.ref _,_,I.UL (t':=k) (by rw[<-e];exact Dr l) (by rw[za];ext),rfl,q _ I.fresh}
 cases h1:(decide (⇑t<⇑y)||decide (Builtin.Str.strKind t<Builtin.Str.strKind y))
 ·cases hf:(Builtin.Str.occurrences t y 0 ⇑t (⇑t+1)).isEmpty
  ·let es:PySem.Txt.split t y=Builtin.Str.partsBetween t (Builtin.Str.occurrences t y 0 ⇑t (⇑t+1)) ⇑y:=by
    unfold PySem.Txt.split;rw[h1,hf];rfl
   refine wB F.slot_str_split (wR s t tk) F.entry_str_split (F.args_str_split_2 _ _) (meets_str_split_sep t y tk tk' h1 hy' hf () (by rw[<-es];ext)) ?_;rw[strsFrom_eq];exact fin (numbered s.toks _) _ ((numbered_texts _ _).trans es.symm)
  ·let es:PySem.Txt.split t y=[t]:=by
    unfold PySem.Txt.split;rw[h1,hf];rfl
   refine wB F.slot_str_split (wR s t tk) F.entry_str_split (F.args_str_split_2 _ _) (meets_str_split_not_found t y tk tk' h1 hy' hf) ?_;exact fin [(t,tk)] _ es.symm
 ·let es:PySem.Txt.split t y=[t]:=by
   unfold PySem.Txt.split;rw[h1];rfl
  refine wB F.slot_str_split (wR s t tk) F.entry_str_split (F.args_str_split_2 _ _) (meets_str_split_cannot_occur t y tk tk' h1) ?_;exact fin [(t,tk)] _ es.symm
def Qw:V->List V->Hp->VK->Prop:=λx vs H Q=>∃(t y:Str),x=.str t/\vs=[.str y]/\Q (.bl (decide (0+⇑y<=⇑t)&&Builtin.Str.subAt t y 0)) H
def CO:RW X "str.startswith" Qw:=by
 intro pins s U H x vs v us Q I rx rv h;let⟨t,y,rfl,rfl,q⟩:=h;let⟨tk,rfl⟩:=rx;let⟨u,rfl,tk',rfl⟩:=rv.one;exact wB F.slot_str_startswith (wR s t tk) F.entry_str_startswith (F.args_str_startswith_2 _ _) (gives_str_startswith t y tk tk').meets {.bl _,H,I,rfl,q}
def FR:fk X (.type "int") (λxs H Q=>∃(t:Str) (n:Int),xs=[.str t]/\PySem.intText? t=some n/\⇑t<=640/\Q (.int n) H):=by
 intro pins s U H xs us Q I r h;let⟨t,n,rfl,hn,hl,q⟩:=h;let⟨u,rfl,tk,rfl⟩:=vals1 r;exact PySem.W.KIN.call_text hn hl {.int n,H,I.tok _,{_,rfl},q}
end
def join_one (sep x:Str):Str.join sep [x]=x:=rfl
def eR (sep x y:Str) (r:List Str):Str.join sep (x::y::r)=x++sep++Str.join sep (y::r):=rfl
theorem HU:∀{ps qs:List Str},ps≠[]->qs≠[]->(∀p∈ps,c∉p.cps.toList)->(∀q∈qs,c∉q.cps.toList)->Str.join {#[c]} ps=Str.join {#[c]} qs->ps=qs
 | [],_,h,_,_,_,_=>absurd rfl h
 | _,[],_,h,_,_,_=>absurd rfl h
 | [p],[q],_,_,_,_,h=>by rw[join_one,join_one] at h;rw[h]
 | [p],q::q2::r,_,_,hp,_,h=>by
  rw[join_one,eR] at h;let e:=y6 (λz:Str=>z.cps.toList) h;simp only[cF] at e;exact absurd (show c∈p.cps.toList by rw[e];simp) (hp p zr)
 | p::p2::r,[q],_,_,_,hq,h=>by
  rw[join_one,eR] at h;let e:=y6 (λz:Str=>z.cps.toList) h;simp only[cF] at e;exact absurd (show c∈q.cps.toList by rw[<-e];simp) (hq q zr)
 | p::p2::r,q::q2::r',_,_,hp,hq,h=>by
  rw[eR,eR] at h;let e:=y6 (λz:Str=>z.cps.toList) h;simp only[cF,zF] at e;let⟨e1,e2⟩:=Lm.Ly (hp p zr) (hq q zr) (show p.cps.toList++c::(Str.join {#[c]} (p2::r)).cps.toList=q.cps.toList++c::(Str.join {#[c]} (q2::r')).cps.toList from e);let ih:=HU (ps:=p2::r) (qs:=q2::r') (by simp) (by simp) (λz hz=>hp z (zp _ hz)) (λz hz=>hq z (zp _ hz)) (kP e2);rw[ih,kP e1]
def gf (ne:ps≠[]) (fr:∀p∈ps,c∉p.cps.toList):PySem.Txt.split (Str.join {#[c]} ps) {#[c]}=ps:=by
 refine HU ?_ ne (PySem.StrLaws.split_free _ c) fr (PySem.StrLaws.join_split _ _);intro z;have:=split_pos (Str.join {#[c]} ps) {#[c]};rw[z] at this;exact absurd this ∅
def EA (ha:c∉a.cps.toList) (hb:c∉b.cps.toList):PySem.Txt.split (a++{#[c]}++b) {#[c]}=[a,b]:=by
 refine gf (ps:=[a,b]) (by simp) λp hp=>?_;rcases zD.mp hp with rfl | hp
 ·exact ha
 ·rw[zA.mp hp];exact hb
def split1 (ha:c∉a.cps.toList):PySem.Txt.split a {#[c]}=[a]:=by
 refine gf (ps:=[a]) (by simp) λp hp=>?_;rw[zA.mp hp];exact ha
def Sr (ha:c∉a.cps.toList) (hb:c∉b.cps.toList) (hd:c∉d.cps.toList):PySem.Txt.split (a++{#[c]}++b++{#[c]}++d) {#[c]}=[a,b,d]:=by
 let e:a++({#[c]}:Str)++b++⟨#[c]⟩++d=Str.join ⟨#[c]⟩ [a,b,d]:=by
  rw[eR,eR,join_one];simp only[M5]
 rw[e];refine gf (ps:=[a,b,d]) (by simp) λp hp=>?_;rcases zD.mp hp with rfl | hp
 ·exact ha
 rcases zD.mp hp with rfl | hp
 ·exact hb
 ·rw[zA.mp hp];exact hd
def v8 (h:n<0):dec n ="-" ++ dec (-n):=by
 obtain⟨m,rfl⟩:∃m:Nat,n=Int.negSucc m:={(-n-1).toNat,()}
 refine kP ?_;rw[cF];let e1:(dec (Int.negSucc m)).cps.toList=("-" ++ toString (m+1)).toList.map Char.toNat:=PyProof.Rows.signs_ofString _;let e2:(dec (-(Int.negSucc m))).cps.toList=(toString (m+1)).toList.map Char.toNat:=PyProof.Rows.signs_ofString _;rw[e1,e2,String.toList_append,zk];rfl
def kG {n:Nat} {c:Nat} (h:c∈(dec (n:Int)).cps.toList):48<=c/\c<=57:=by
 rw[Aa] at h;exact Q7 h
def MQ {n:Nat} (h:(dec (n:Int)).cps[0]?=some 48):⇑(dec (n:Int))=1:=by
 rcases Nat.eq_zero_or_pos n with rfl | hn
 ·rw[Fy];decide
 ·let⟨c,r,e,hc⟩:=Lm.O5 n hn
  rw[<-xk,Aa,e] at h;simp only[zj,List.getElem?_cons_zero,xP] at h;exact absurd (Char.toNat_inj.mp (by rw[h];rfl)) hc
def Iq {n:Nat}:1<=⇑(dec (n:Int)):=by
 rw[Fy];exact PySem.toDigits_len_ge 10 n
def Ed {n k:Nat} (hk:0<k) (h:n<10^k):⇑(dec (n:Int))<=k:=by rw[Fy];exact Lm.Ta hk h
def Tq (a:Option Int) (n:Nat):Builtin.Str.strSliceIndices a none 1 n=Builtin.Str.strSliceIndices a (some (n:Int)) 1 n:=by
 let h:¬((n:Int)<0):=()
 let e:max (0:Int) (min (n:Int) (n:Int))=n:=()
 simp only[Builtin.Str.strSliceIndices,h,wu,e,show((1:Int)>0)=True from by simp,vi]
def Tp (b:Option Int) (n:Nat):Builtin.Str.strSliceIndices none b 1 n=Builtin.Str.strSliceIndices (some ((0:Nat):Int)) b 1 n:=by
 let h:¬(((0:Nat):Int)<0):=()
 let e:max (0:Int) (min ((0:Nat):Int) (n:Int))=0:=()
 simp only[Builtin.Str.strSliceIndices,h,wu,e,show((1:Int)>0)=True from by simp,vi]
def DB (x:Str) (hab:a<=b) (hb:b<=⇑x):(PySem.Txt.slice x (some (a:Int)) (some (b:Int))).cps.toList=(x.cps.toList.drop a).take (b-a):=by
 unfold PySem.Txt.slice;split
 ·rename_i h
  rw[PySem.StrLaws.strSliceIndices_plain hab hb] at h;simp only[wk,yW,vk,za,zR] at h;let hl:⇑x.cps.toList=⇑x:=yQ;let ea:a=0:=()
  let eb:b-a=⇑x.cps.toList:=()
  rw[eb,ea,List.drop_zero,zN]
 ·exact PySem.StrLaws.sliced_plain x hab hb
def oO (x:Str) (h:a<=⇑x):(PySem.Txt.slice x (some (a:Int)) none).cps.toList=x.cps.toList.drop a:=by
 let e:PySem.Txt.slice x (some (a:Int)) none=PySem.Txt.slice x (some (a:Int)) (some ((⇑x:Nat):Int)):=by
  unfold PySem.Txt.slice;rw[Tq]
 let hl:⇑x.cps.toList=⇑x:=yQ;rw[e,DB x h (zm _),xy (by rw[xD];ext)]
def GR (x:Str) (h:b<=⇑x):(PySem.Txt.slice x none (some (b:Int))).cps.toList=x.cps.toList.take b:=by
 let e:PySem.Txt.slice x none (some (b:Int))=PySem.Txt.slice x (some ((0:Nat):Int)) (some (b:Int)):=by
  unfold PySem.Txt.slice;rw[Tp]
 rw[e,DB x (yg _) h,List.drop_zero,Nat.sub_zero]
def pf {K:yB} {mg:Str->Option vz} {base:vG} {x:Str} {C:vF} {bm:List vz} {newId:String} (P:vB) (m:Mod K mg base) (e:PySem.W.nsIn K mainGlobals x=some (some (.ref C)))
  (q:PySem.W.excIn K C bm newId=true):OwnCls x C bm newId mg base:=by
 let⟨mb,hb,hbb⟩:=m.blt;let⟨o0,es0,ep0,hg0,hd0,sk0,look⟩:=m.glob;let fr:∀y,y∉(es0.toList.filterMap λ(d:DictEntry)=>match d.key with | .str z _=>some z | _=>none)->mg y=none:=λy hy=>by
  rw[<-look y];show(es0.find? λd=>d.key.isStr y).map (·.val)=none;cases hf:es0.find? λd=>d.key.isStr y with
  | none=>rfl
  | some d=>
   exfalso;let hm:=Array.mem_of_find?_eq_some hf;let hk:=Array.find?_some hf;let⟨z,t,ez⟩:=sk0 d hm;let ezy:z=y:=by rw[ez] at hk;exact eq_of_beq (show(z == y)=true from hk)
   exact hy (vq.mpr {d,by simpa using hm,by rw[ez,ezy]})
 exact PySem.W.own_of_in (p:=P) (loose:=es0.toList.filterMap λ(d:DictEntry)=>match d.key with | .str z _=>some z | _=>none) m.Td {m.glob,hb,m.nolimit,hbb,λy _ hl _ _ _=>fr y hl} e q
structure Nu (P:vB) (w:vC) (fs:List vF) (H H':Hp) (h B h':vG):Prop where
 keep:∀b o,h.get? b=some o->H b=none->b∉fs->B.get? b=some o
 slot:∀b o,h.get? b=some o->H b=none->b∈fs->∃sl,h'.get? b=some {o with slots:=sl}
 free:∀b o,h.get? b=some o->H b=none->H' b=none
 there:∀b o,h.get? b=some o->b∉fs->∃o',B.get? b=some o'
 nZ:∀b xs,H b=some (.tup xs)->H' b=some (.tup xs)
 mC:∀b o u,H b=some (.mG o u)->H' b=some (.mG o u)
 oa:∀b ps,H b=some (.NM ps)->∃more,H' b=some (.NM (ps++more))
 bZ:pM P w H' B
 kQ:B.StaysIn h'
section
variable {P:vB} {w:vC} {fs:List vF} {H H':Hp} {h B h' h2:vG}
def Nu.un (f:Nu P w fs H H' h B h') (HY:∀b∈fs,H b=none):Un fs [] H H' h h' where
 keep:=λb o e n hb _=>f.kQ b o (f.keep b o e n hb)
 slot:=λb o e n hb _=>f.slot b o e n hb
 free:=λb o e n _=>f.free b o e n
 there:=λb o e _=>by
  by_cases hb:b∈fs
  ·let⟨sl,q⟩:=f.slot b o e (HY b hb) hb
   exact{_,q}
  ·let⟨o',q⟩:=f.there b o e hb
   exact{o',f.kQ b o' q}
 nZ:=f.nZ
 mC:=f.mC
 oa:=f.oa
def Nu.on (f:Nu P w fs H H' h B h') (u:h'.UpToSlots h2) (st:B.StaysIn h2) (nf:∀b∈fs,∃o,h'.get? b=some o/\∀vs,o.data≠.fields vs):Nu P w fs H H' h B h2:=
 {f.keep,λb o e n hb=>by
  let⟨sl,q⟩:=f.slot b o e n hb;let⟨o1,q1,nd⟩:=nf b hb;rw[q] at q1;cases q1;let⟨sl2,q2⟩:=u b _ q nd;exact{(sl2),q2},f.free,f.there,f.nZ,f.mC,f.oa,f.bZ,st}
end
def Ja (P:vB) (w:vC):KI:=λouter H s E e s'=>∃(a:vF) (cls a0:vz) (B:vG) (H':Hp),e=.ref a/\s'.os=s.os/\AllBare s'.gens/\Heap.FlyingW B outer a cls a0 s'.heap/\Nu P w (oE outer) H H' s.heap B s'.heap/\E cls none H'
def Pb (hf:env.frame=some L):oE (env::outer)=L::oE outer:=by
 unfold oE;rw[vf,hf]
def Se (C:vF) (te:TA) (E:XK):TS:=λ_ U H=>te U H λvs H1=>⇑vs<=sizeLine/\E (.ref C) none H1
section
variable {P:vB} {w:vC} {K:yB} {mg:Str->Option vz} {base:vG} {N:List Str} {qual:Str} {scope:Scope} {f:vF} {cdv:vz} {A:vD} {outer:List Env} {s₀:vA} {H₀:Hp} {E:XK}
def Hm
  (hC0:PySem.W.nsIn K mainGlobals x=some (some (.ref C))) (hQ0:PySem.W.excIn K C bm newId=true) (FB:ExcBaseFacts Bn newId initId bm) (hg:Gl (kc (Ja P w) P w K mg base N qual scope f cdv A outer s₀ H₀ E) x)
  (ha:PA (kc (Ja P w) P w K mg base N qual scope f cdv A outer s₀ H₀ E) (e₀::es) ta) (hd:(x == ("__debug__": Str))=false<|>qb_)
  (hs:starEach (e₀::es) (kc (Ja P w) P w K mg base N qual scope f cdv A outer s₀ H₀ E).env=(false,eval e₀ (kc (Ja P w) P w K mg base N qual scope f cdv A outer s₀ H₀ E).env)::starEach es (kc (Ja P w) P w K mg base N qual scope f cdv A outer s₀ H₀ E).env<|>qe_)
  (hpl:(backTo cpos (starEach es (kc (Ja P w) P w K mg base N qual scope f cdv A outer s₀ H₀ E).env)).any (·.1)=false<|>qe_) :
  PS (kc (Ja P w) P w K mg base N qual scope f cdv A outer s₀ H₀ E) (.Raise (some (.Call (.Name x np) (e₀::es) [] cpos)) none pos) (Se C ta E):=by
 intro pins s U H D I h;let O:OwnCls x C bm newId mg base:=pf P I.ok.mod hC0 hQ0;let⟨tl,Nn,nm,q,bs,hdct,sn,sub,ab,col,dd,k0,k1,k2,k3,k5,mN,hC,hN,hni,T⟩:=O.obj;refine wpAny_Raise_call_subT (C:=C) (nm:=nm) (q:=q) (N:=Nn) (bs:=bs) (bm:=tl) (hdct:=hdct) (sn:=sn) (sub:=sub) (ab:=ab) (col:=col) (dd:=dd) (k0:=k0) (k1:=k1) (k2:=k2) (k3:=k3) (k5:=k5)
  FB (mN:=mN) (T.hasType FB.hasBase) (I.ok.hd rfl) (by rw[hs];show(false||(backTo cpos (starEach es (kc (Ja P w) P w K mg base N qual scope f cdv A outer s₀ H₀ E).env)).any (·.1))=false;rw[hpl];rfl) hni (jO I hg O.bound {rfl,?_} hd)
 let hA:=ha cpos pins s U H _ I h;rw[hs] at hA ⊢;refine Calls.evalArgs_plain (xg hA (λus s2 ⟨vs,H2,I2,r2,hl,q2⟩=>{rfl,?_,I2.bk _ _ hC,hN.keeps I2.bk,T.keeps I2.bk,λh' e mk=>?_}) λ_ _ y=>y)
 ·show ⇑us<=sizeLine
  rw[<-⇑r2];exact hl
 show wpAny (model P w) (A.deeper (envOfC qual scope ↑s₀ f cdv)) (leaving (envOfC qual scope ↑s₀ f cdv) (.ref e)) (λ_ s''=>Ja P w outer H₀ s₀ E (.ref e) s'') (λe' s''=>Ja P w outer H₀ s₀ E e' s'') {s2 with heap:=h'};let hfr:oE (envOfC qual scope ↑s₀ f cdv::outer)=↑s₀::oE outer:=Pb rfl;let hst:s2.heap.FunFrames base (envOfC qual scope ↑s₀ f cdv::outer):=I2.stack;let hin:∀env∈(envOfC qual scope ↑s₀ f cdv::outer),∀a,env.frame=some a->a∈oE (envOfC qual scope ↑s₀ f cdv::outer):=λenv he a hf=>vq.mpr {(env),he,hf};let hl:=PySem.W.funFrames_hide (as:=oE (envOfC qual scope ↑s₀ f cdv::outer)) hst hin;refine wpAny_leaves_madeW (base:=PySem.W.hideAll s2.heap (oE (envOfC qual scope ↑s₀ f cdv::outer))) (h:=s2.heap) I2.ok.frames rfl (λb o q=>PySem.W.of_hideAll _ q) hl mk (λh'' t fl _ _ ups=>?_);let low:∀b o,s₀.heap.get? b=some o->b≠↑s₀:=λb o e z=>absurd (yy e) (by rw[z];exact yf _);let nin:∀b o,s₀.heap.get? b=some o->b∉oE outer->b∉oE (envOfC qual scope ↑s₀ f cdv::outer):=λb o e n z=>by
  rw[hfr] at z;rcases zD.mp z with z | z
  ·exact low b o e z
  ·exact n z
 let uQ:∀b:vF,b∉(kc (Ja P w) P w K mg base N qual scope f cdv A outer s₀ H₀ E).ex:=λb z=>absurd (show b∈([]:List vF) from z) (by simp);refine{e,.ref C,.ref t,_,H2,rfl,I2.os,I2.bare,fl,{λb o q n hb=>vd _ (I2.base.keep b o q n hb (uQ b)) (nin b o q hb),λb o q n hb=>?_,λb o q n=>I2.base.free b o q n (uQ b),λb o q hb=>?_,I2.base.nZ,I2.base.mC,I2.base.oa,λa o q=>?_,fl.1},q2}
 ·let⟨sl,e1⟩:=I2.base.slot b o q n hb (uQ b)
  let⟨_,o1,e2,nd⟩:=I2.ok.oo.mem hb;let e3:=mk.keeps _ _ e1;let e2':s₀.heap.get? b=some o1:=e2;rw[q] at e2';cases e2';let⟨sl2,e4⟩:=ups b _ e3 nd;exact{(sl2),e4}
 ·let⟨o',e1⟩:=I2.base.there b o q (uQ b)
  exact{o',vd _ e1 (nin b o q hb)}
 ·refine(I2.bZ a o q).kQ (λb u hb e1=>vd _ e1 λz=>?_) (λ_ z=>z) λ_ _ z=>z
  let n:=I2.pR b z;rcases hb with rfl | hb
  ·rw[q] at n;cases n
  ·rw[hb] at n;cases n
def P1.W3 {x:Str} {st:Stmt} {fd:vE} {ps:List Str} {k:Nat} {sp:Sp} (F:P1 K x qual st f fd) (S:fZ N ps (aU st)) (len:∀vs H Q E,sp vs H Q E->⇑vs=⇑ps)
  (hbody:∀(cdv:vz) (A:vD) (outer:List Env) (s:vA) (H:Hp) (vs:List V) (Q:VK) (E:XK),fI k (A.deeper (envOfC qual (aU st) ↑s f cdv))->sp vs H Q E->
   ∃t,Em (kc (Ja P w) P w K mg base N qual (aU st) f cdv A outer s H E) (cx st) t/\t {nx:=λ_ H'=>Q .bH H',rt:=Q} (start N vs) H):dB P w K mg base (Ja P w) (k+1) f fd ps sp:=by
 let⟨oc,od,kV,doc,pm,an,cdv,ct,osl,rfl,lk,hcd⟩:=F.ex;exact RQ lk hcd S len λA outer s H vs Q E hr hsp=>hbody cdv A outer s H vs Q E hr hsp
end
abbrev Cx.held (X:Cx) (e:vz):Cx:={X with A:=X.A.mark (some e),calm:=false}
theorem Cx.Ok.held {X:Cx} (ok:X.Ok) (e:vz):(X.held e).Ok:=
 {ok.mod,ok.kind,ok.glob,ok.blt,ok.above,ok.inj,ok.has,ok.TK,λz=>(nomatch (show false=true from z)),ok.frames,ok.T5,ok.Vu,ok.bs,ok.Nq,ok.uQ,ok.J2,ok.oo,ok.HY}
def Cx.Ok.kO {X:Cx} {e:vz} (ok:(X.held e).Ok) (hd:X.calm=true->X.A.handled=none):X.Ok:=
 {(ok.mod),ok.kind,ok.glob,ok.blt,ok.above,ok.inj,ok.has,ok.TK,hd,ok.frames,ok.T5,ok.Vu,ok.bs,ok.Nq,ok.uQ,ok.J2,ok.oo,ok.HY}
section
variable {X:Cx} {pins:List (vF×Obj)} {U:St} {H:Hp} {s:vA} {e:vz}
theorem Inv.held (I:Inv X pins U H s) (e:vz):Inv (X.held e) pins U H s:={I.ok.held e,I.os,I.bare,I.base,I.loc,I.cell,I.free,I.jR,I.pin,I.bZ,I.len}
theorem Inv.kO (I:Inv (X.held e) pins U H s) (hd:X.calm=true->X.A.handled=none):Inv X pins U H s:={I.ok.kO hd,I.os,I.bare,I.base,I.loc,I.cell,I.free,I.jR,I.pin,I.bZ,I.len}
theorem SP.kO (hd:X.calm=true->X.A.handled=none) (h:SP (X.held e) pins D f s'):SP X pins D f s':=by
 cases f with
 | next=>let⟨U',H',I,q⟩:=h;exact{U',H',I.kO hd,q}
 | brk=>let⟨U',H',I,q⟩:=h;exact{U',H',I.kO hd,q}
 | cont=>let⟨U',H',I,q⟩:=h;exact{U',H',I.kO hd,q}
 | ret u=>let⟨v,U',H',I,r,q⟩:=h;exact{v,U',H',I.kO hd,r,q}
end
def Up (i:Nat) (sp:Sp) (t:TA) (C:vF) (th:TS):TS:=λD U H=>t U H λvs H1=>sp vs H1 (λv H2=>bO i v U H2 D.nx) λcls _ H2=>cls=.ref C/\th D U H2
section
variable {X:Cx} {k:Nat} {f:vF} {fd:vE} {ps:List Str} {sp:Sp} {fx cn x:Str} {p pos cpos pa tpos np hpos:Pos} {e₀:Expr} {es:List Expr} {t:TA} {i:Nat} {C:vF} {bm:List vz} {newId:String} {b₀:Stmt} {suite:List Stmt} {th:TS}
def QB (F:dB X.prog X.w X.K X.mg X.base (Ja X.prog X.w) k f fd ps sp) (hr:fI k X.A) (hg:Gl X fx) (hm:X.mg fx=some (.ref f)) (hk:PySem.W.keepIn X.K (.ref f)=true) (hb:Binds X.K fd ps []) (ha:PA X.JP (e₀::es) t)
  (hc:X.calm=true) (hN:X.N.Nodup) (hi:X.N[i]?=some x) (hx:Loc X.env.scope x) (hgc:Gl X cn) (hC0:PySem.W.nsIn X.K mainGlobals cn=some (some (.ref C))) (hQ0:PySem.W.excIn X.K C bm newId=true) (hbase:bm.contains (.type "BaseException")=true) (hstk:X.stack=X.env::X.outer) (hfrm:X.env.frame=some X.env.locals)
  (hsu:∀e,Em (X.held e).JP (b₀::suite) th)
  (hdb:(fx == ("__debug__": Str))=false<|>qb_) (hdc:(cn == ("__debug__": Str))=false<|>qb_) (he:starEach (e₀::es) X.env=(false,eval e₀ X.env)::starEach es X.env<|>qe_) (hpl:(backTo cpos (starEach es X.env)).any (·.1)=false<|>qe_)
  (hs:swapsWith (.Call (.Name fx p) (e₀::es) [] cpos) (some (.Name x tpos)) pa.line X.env=pure false<|>qe_) (hf:X.fn x=true\/X.env.scope.names.lookup x=some .local<|>qa_) :
  PS X (.Try [.Assign [.Name x tpos] (.Call (.Name fx p) (e₀::es) [] cpos) pa] [.ExceptHandler (some (.Name cn np)) none (b₀::suite) hpos] [] [] pos) (Up i sp t C th):=by
 intro pins s U H D I h;let O:OwnCls cn C bm newId X.mg X.base:=pf X.prog I.ok.mod hC0 hQ0;refine wpAny_Try_except (wpAny_execs_cons ?_);refine wpAny_Assign_Name ?_ hs;refine xt (jO I hg hm ?_ hdb);let hA:wpAny (model X.prog X.w) X.A (spliced (backTo cpos (starEach (e₀::es) X.env))) (AP X.JP pins U _) (λ_ _=>False) s:=ha cpos pins s U H _ (I.pO _) h;refine vn (h₀:=X.base) I.ok.mod.Td hk (xg hA (λus s1 ⟨vs,H1,I1',r,q⟩=>{I1'.qR,?_}) λ_ _ z=>z.elim) he hpl;let I1:Inv X pins U H1 s1:=I1'.gQ;let hl:⇑us=⇑ps:=by rw[<-⇑r];exact F.len _ _ _ _ q
 refine wpAny_call (xU (F.run X.A X.stack s1 H1 {us,[]} us vs _ _ hr I1.Q3 (by have:=hb s1 us I1.qR (by rw[zV];exact hl);rw[zV] at this;exact this) r q) λrr s' hq=>?_);cases rr with
 | ok fl=>
  cases fl with
  | ret u=>
   let⟨v,H2,I2,r2,q2⟩:=I1.after hq;refine mL I2 hN hi hx r2 (λs2 I3=>?_) hf;exact wy (wy {_,H2,I3,q2})
  | next=>exact False.elim hq
  | brk=>exact False.elim hq
  | cont=>exact False.elim hq
 | error ev=>
  let⟨a,cls,a0,B,H',rfl,os,bare,fl,fly,⟨rfl,q2⟩⟩:=hq;let HY:∀b∈oE X.stack,H1 b=none:=I1.pR;let nf:∀{hh:vG},Heap.FunFrames hh B X.stack->∀b∈oE X.stack,∃o,hh.get? b=some o/\∀vs,o.data≠.fields vs:=λhF b hb=>(hF.mem hb).2;let back:∀(hh:vG),Nu X.prog X.w (oE X.stack) H1 H' s1.heap B hh->Inv X pins U H' {s' with heap:=hh}:=λhh fy=>
   I1.PB (s':={s' with heap:=hh}) (ch:=[]) os (fy.un HY) (fy.bZ.kept fy.kQ) bare λb z=>absurd z (by simp)
  let hfr:X.A.frames=some (X.env::X.outer):=by rw[<-hstk];exact I1.ok.frames
  refine wpAny_looks_onW hfr hfrm (by rw[<-hstk];exact fl) λh4 held4 up4=>?_;refine wpAny_landsW held4 λh5 fl5 up5=>?_;let fl5':Heap.FlyingW B X.stack a (.ref C) a0 h5:=by rw[hstk];exact fl5
  let fy5:Nu X.prog X.w (oE X.stack) H1 H' s1.heap B h5:=fly.on (up4.trans up5) fl5.1 (nf fl.2.2.1);let I5:=back h5 fy5;let⟨ob,hob,hobc⟩:=fl5'.there;let⟨tl,Nn,nm,qn,bs,hdct,sn,sub,ab,col,dd,k0,k1,k2,k3,k5,mN,hC,hN',hni,T⟩:=O.obj;refine wpAny_handleBy_cons (codeAny_handlers_test (jO (X:=X.held (.ref a)) (I5.held _) hgc O.bound ?_ hdc)) (by intro q;cases q);refine wpAny_excMatches_sub_self (I5.bk _ _ hC) hob hobc (T.hasType hbase) (codeAny_handlers_suite ?_);refine lands_againW fl5' λh6 fl6 up6=>?_;let fy6:Nu X.prog X.w (oE X.stack) H1 H' s1.heap B h6:=fy5.on up6 fl6.1 (nf fl5'.2.2.1);let I6:=back h6 fy6;refine xg (hsu (.ref a) pins _ U H' D ((I6.held _).pO _) q2) (λfl s7 z=>?_) λ_ _ z=>z.elim;exact SP.kO I.ok.hd (SP.gQ z)
end
section
variable {X:Cx}
def NU {zs:List Str} {its:List vz} (r:Vals (zs.map V.str) its) {j:Nat} (h:j<⇑its):∃z t,zs[j]?=some z/\its[j]=.str z t:=by
 let hl:⇑zs=⇑its:=by have:=⇑r;rw[za] at this;exact this
 let⟨u,hu,ru⟩:=r.get (i:=j) (x:=.str (zs[j]'())) (by rw[zK,zd ()];rfl);let⟨t,rfl⟩:=ru;rw[zd h] at hu;exact{_,t,zd (),yk hu}
end
section
variable {K:yB} {D x:vF} {prog:vB} {w:vC} {A:vD} {E:vz->vA->Prop} {h:vG} {g:Array GenState} {d:Drawn} {t:Nat} {os:OsState}
open Builtin Builtin.ObjectAttr Builtin.Getset_descriptor in
end
section
variable {X:Cx}
end
def cB.here (x:cB P w H h a o):∃ob,h.get? a=some ob:=by
 cases o with
 | lst xs=>let⟨_,_,_,_,e⟩:=x;exact{_,e}
 | tup xs=>let⟨_,_,_,o,e,_⟩:=x;exact{_,e}
 | dK kvs=>let⟨_,_,_,_,o,_,_,e,_⟩:=x;exact{_,e}
 | dT kvs=>let⟨_,_,_,_,o,_,_,e,_⟩:=x;exact{_,e}
 | set S n=>let⟨o,_,_,_,e,_⟩:=x;exact{_,e}
 | ins C dx fs=>let⟨_,_,_,e,_⟩:=x;exact{_,e}
 | own y=>exact x
 | xd fs=>let⟨_,⟨_,_,_,e,_⟩,_⟩:=x;exact{_,e}
 | K5 lo hi=>let⟨_,_,_,e⟩:=x;exact{_,e}
 | mG ob u=>let⟨e,_⟩:=x;exact{_,e}
 | NM ps=>exact{_,x}
 | met f y=>exact{_,x}
 | ext φ=>exact x.2.1
section
variable {X:Cx} {pins:List (vF×Obj)} {U:St} {H:Hp} {s:vA}
def Inv.Uk (I:Inv X pins U H s) (hn:H a=none) (h0:X.s₀.heap.get? a=none) (hl:a≠X.env.locals) (hc:∀x c,X.env.cells.lookup x=some c->c≠a) (hp:∀p∈X.pn++pins,p.1≠a)
  (new:cB X.prog X.w (upd H a o) s.heap a o):Inv X pins U (upd H a o) s where
 ok:=I.ok
 os:=I.os
 bare:=I.bare
 base:={I.base.keep,I.base.slot,λb ob e n hx=>by rw[aE (λz=>by rw[z,h0] at e;cases e)];exact I.base.free b ob e n hx,I.base.there,
  λb xs e=>by have:=I.base.nZ b xs e;rw[aE (bu this hn)];exact this,λb ob u e=>by have:=I.base.mC b ob u e;rw[aE (bu this hn)];exact this,
  λb ps e=>by let⟨m,e1⟩:=I.base.oa b ps e;exact{m,by rw[aE (bu e1 hn)];exact e1}}
 loc:=I.loc
 cell:=I.cell
 free:=by rw[aE (Ne.symm hl)];exact I.free
 jR:=λx c e=>by rw[aE (hc x c e)];exact I.jR x c e
 pin:=λp hpp=>by let⟨e,n,ne,nf,d⟩:=I.pin p hpp;exact{e,by rw[aE (hp p hpp)];exact n,ne,nf,d}
 bZ:=λb u e=>by
  by_cases hb:b=a
  ·subst hb
   rw[aC] at e;cases e;exact new
  ·rw[aE hb] at e
   refine(I.bZ b u e).kQ (λ_ _ _ q=>q) (λc q=>?_) λc xs q=>?_
   ·rw[aE (bu q hn)];exact q
   ·rw[aE (bu q hn)];exact q
 len:=I.len
end
section
variable {X:Cx} {k:Nat} {f:vF} {fd:vE} {ps:List Str} {sp:Sp} {fx cn n x:Str} {p pos cpos pa tpos np hpos:Pos} {e₀:Expr} {es:List Expr} {t:TA} {i j:Nat} {C S:vF} {bm bmS:List vz} {newId newIdS:String} {b₀:Stmt} {suite:List Stmt} {th:TS}
end
end L2
namespace L2
open PySem PySem.Spec PyProof.Rows
section
variable {κ:Type} [DecidableEq κ]
def di (kvs:List (κ×V)) (k:κ):Option V:=(kvs.find? λkv=>decide (kv.1=k)).map (·.2)
def putK (kvs:List (κ×V)) (k:κ) (v:V):List (κ×V):=
 if(kvs.any λkv=>decide (kv.1=k))=true then kvs.map (λkv=>if kv.1=k then(kv.1,v) else kv) else kvs++[(k,v)]
def Gv {k:κ}:di ([]:List (κ×V)) k=none:=rfl
def eA {p:κ×V} {r:List (κ×V)} {k:κ} (e:p.1=k):di (p::r) k=some p.2:=by simp[di,yT,e]
def eB {p:κ×V} {r:List (κ×V)} {k:κ} (e:¬p.1=k):di (p::r) k=di r k:=by simp[di,yT,e]
theorem mI (k:κ):∀kvs:List (κ×V),(kvs.any λkv=>decide (kv.1=k))=(di kvs k).isSome
 | []=>rfl
 | p::r=>by
  rw[xu]
  by_cases e:p.1=k
  ·simp only[eA e,zg e,Bool.true_or,Option.isSome_some]
  ·rw[eB e,ze e,Bool.false_or];exact mI k r
theorem Gw (k j:κ) (y:V):∀kvs:List (κ×V),di (kvs.map λkv=>if kv.1=k then(kv.1,y) else kv) j=(di kvs j).map λx=>if j=k then y else x
 | []=>rfl
 | p::r=>by
  let ih:=Gw k j y r;rw[zj]
  by_cases h:p.1=k
  ·rw[yO h]
   by_cases e:p.1=j
   ·rw[eA (p:=(p.1,y)) e,eA e,xo,yO (e.symm.trans h)]
   ·rw[eB (p:=(p.1,y)) e,eB e,ih]
  ·rw[yN h]
   by_cases e:p.1=j
   ·rw[eA (p:=p) e,eA e,xo,yN (λz=>h (e.trans z))]
   ·rw[eB (p:=p) e,eB e,ih]
theorem Du (k j:κ) (y:V):∀kvs:List (κ×V),di kvs k=none->di (kvs++[(k,y)]) j=if j=k then some y else di kvs j
 | [],_=>by
  by_cases e:k=j
  ·rw[yO e.symm];exact eA (p:=(k,y)) e
  ·rw[yN (λz=>e z.symm)];exact eB (p:=(k,y)) e
 | p::r,hn=>by
  rw[wU];let hk:¬p.1=k:=λz=>by rw[eA z] at hn;cases hn
  rw[eB hk] at hn;let ih:=Du k j y r hn
  by_cases e:p.1=j
  ·rw[eA e,eA e,yN (λz=>hk (e.trans z))]
  ·rw[eB e,eB e,ih]
def mH (kvs:List (κ×V)) (k j:κ) (y:V):di (putK kvs k y) j=if j=k then some y else di kvs j:=by
 unfold putK
 by_cases a:(kvs.any λkv=>decide (kv.1=k))=true
 ·rw[yO a,Gw]
  rw[mI] at a
  by_cases e:j=k
  ·let⟨x,hx⟩:=Option.isSome_iff_exists.mp a
   rw[yO e,e,hx,xo,yO rfl]
  ·rw[yN e]
   cases di kvs j with
   | none=>rfl
   | some x=>rw[xo,yN e]
 ·rw[yN a]
  refine Du k j y kvs ?_;rw[mI] at a;cases q:di kvs k with
  | none=>rfl
  | some x=>rw[q] at a;exact(a rfl).elim
def gM (kvs:List (κ×V)) (k:κ) (v:V):⇑(putK kvs k v)<=⇑kvs+1:=by
 unfold putK;split
 ·rw[za];ext
 ·rw[zh,zv,xq];ext
def Ol {kvs:List (κ×V)} {k:κ} (v:V) (h:di kvs k=none):putK kvs k v=kvs++[(k,v)]:=by
 unfold putK;rw[mI,h];exact yN ∅
def lR.kC (r:lR o u):o.isSome=u.isSome:=by
 cases o with
 | none=>cases u with
  | none=>rfl
  | some _=>exact(show False from r).elim
 | some _=>cases u with
  | none=>exact(show False from r).elim
  | some _=>rfl
theorem lR.getD (r:lR o u) (rd:RelV d d'):RelV (o.getD d) (u.getD d'):=by
 cases o with
 | none=>cases u with
  | none=>exact rd
  | some _=>exact(show False from r).elim
 | some _=>cases u with
  | none=>exact(show False from r).elim
  | some _=>exact r
def KV.val {kvs:List (κ×V)} {vs:List (κ×vz)} (r:KV kvs vs) (k:κ):lR (di kvs k) (valueAt vs k):=by
 unfold KV at r
 induction r with
 | nil=>exact True.intro
 | @cons p q ps qs h t ih=>
  let⟨h1,h2⟩:=h
  by_cases e:p.1=k
  ·let e':q.1=k:=h1.symm.trans e
   let b:valueAt (q::qs) k=some q.2:=by simp[valueAt,yT,e']
   rw[eA e,b];exact h2
  ·let e':¬q.1=k:=λz=>e (h1.trans z)
   let b:valueAt (q::qs) k=valueAt qs k:=by simp[valueAt,yT,e']
   rw[eB e,b];exact ih
theorem KV.any (r:KV kvs vs) (k:κ):(kvs.any λkv=>decide (kv.1=k))=vs.any λkv=>decide (kv.1=k):=by
 unfold KV at r
 induction r with
 | nil=>rfl
 | cons h t ih=>rw[xu,xu,ih,h.1]
def KV.Sx (r:KV kvs vs) (k:κ) (ry:RelV y u) :
  KV (kvs.map λkv=>if kv.1=k then(kv.1,y) else kv) (vs.map λkv=>if kv.1=k then(kv.1,u) else kv):=by
 unfold KV at r ⊢
 induction r with
 | nil=>exact .nil
 | @cons p q ps qs h t ih=>
  rw[zj,zj];refine .cons ?_ ih;let⟨h1,h2⟩:=h
  by_cases e:p.1=k
  ·rw[yO e,yO (h1.symm.trans e)];exact{(h1),ry}
  ·rw[yN e,yN (λz=>e (h1.trans z))];exact{(h1),h2}
def KV.put (r:KV kvs vs) (k:κ) (ry:RelV y u):KV (putK kvs k y) (stored vs k u):=by
 unfold putK stored;rw[r.any k]
 by_cases e:(vs.any λkv=>decide (kv.1=k))=true
 ·rw[yO e,yO e];exact r.Sx k ry
 ·rw[yN e,yN e];exact Paired.snoc r {(rfl),ry}
theorem KV.length (r:KV kvs vs):⇑kvs=⇑vs:=x6 r
end
def DO (r:RelV (kV k) u):(cX P w).is k u=true:=by
 cases k with
 | inl i=>let⟨t,e⟩:=(show∃t,u=Value.int i t from r);subst e;exact HQ P w i t
 | inr x=>let⟨t,e⟩:=(show∃t,u=Value.str x t from r);subst e;exact tU P w x t
theorem DP:∀{ks:List Key} {us:List vz},Vals (ks.map kV) us->ItemsAre (cX P w) ks us
 | [],_,r=>by rw[yn] at r;cases r;exact .nil
 | k::ks,_,r=>by
  rw[zj] at r;cases r with
  | cons h t=>exact .cons (DO h) (DP t)
abbrev KT (H:Hp):List (List Key×V)->List (List Key×vF×vz)->Prop:=Paired λp q=>p.1=q.1/\H q.2.1=some (.tup (p.1.map kV))/\RelV p.2 q.2.2
def KT.val {H:Hp} {kvs:List (List Key×V)} {xs:List (List Key×vF×vz)} (r:KT H kvs xs) (k:List Key):lR (di kvs k) ((atKey xs k).map (·.2)):=by
 induction r with
 | nil=>exact True.intro
 | @cons p q ps qs h t ih=>
  let⟨h1,_,h2⟩:=h
  by_cases e:p.1=k
  ·let e':q.1=k:=h1.symm.trans e
   let b:atKey (q::qs) k=some q.2:=by simp[atKey,yT,e']
   rw[eA e,b];exact h2
  ·let e':¬q.1=k:=λz=>e (h1.trans z)
   let b:atKey (q::qs) k=atKey qs k:=by simp[atKey,yT,e']
   rw[eB e,b];exact ih
def KT.Sx (r:KT H kvs xs) (k:List Key) (ry:RelV y u) :
  KT H (kvs.map λkv=>if kv.1=k then(kv.1,y) else kv) (xs.map (putAt k u)):=by
 induction r with
 | nil=>exact .nil
 | @cons p q ps qs h t ih=>
  rw[zj,zj];refine .cons ?_ ih;let⟨h1,h2,h3⟩:=h;unfold putAt
  by_cases e:p.1=k
  ·rw[yO e,yO (h1.symm.trans e)];exact{(h1),h2,ry}
  ·rw[yN e,yN (λz=>e (h1.trans z))];exact{(h1),h2,h3}
def KT.put (r:KT H kvs xs) (k:List Key) (hb:H b=some (.tup (k.map kV))) (ry:RelV y u) :
  KT H (putK kvs k y) (storedH xs k b u):=by
 let e:(kvs.any λkv=>decide (kv.1=k))=(atKey xs k).isSome:=by
  rw[mI,(r.val k).kC,Option.isSome_map]
 unfold putK storedH;rw[e]
 by_cases q:(atKey xs k).isSome=true
 ·rw[yO q,yO q];exact r.Sx k ry
 ·rw[yN q,yN q];exact Paired.snoc r {(rfl),hb,ry}
def KT.keeps (r:KT H kvs xs) (ht:∀b ys,H b=some (.tup ys)->H' b=some (.tup ys)):KT H' kvs xs:=
 Paired.S7 r λ_ _ z=>{z.1,ht _ _ z.2.1,z.2.2}
section
variable {P:vB} {w:vC} {H:Hp} {h:vG} {a:vF}
def RC (ok:pM P w H h) (e:Rd H a u):cB P w H h a u:=e.ok ok
def ud (ok:pM P w H h) (e:Rd H a (.dK kvs)):⇑kvs<=sizeLine/\(a == sysModules)=false/\∃vs,KV kvs vs/\h.DictOf (cX P w) a vs:=
 show cB P w H h a (.dK kvs) from RC ok e
def U5 (ok:pM P w H h) (e:H a=some (.dK kvs)):⇑kvs<=sizeLine/\(a == sysModules)=false/\∃vs,KV kvs vs/\h.DictOf (cX P w) a vs:=ud ok (.inl e)
def sS (ok:pM P w H h) (e:H a=some (.tup (ks.map kV))):(tupleKind (cX P w)).is h ks a:=by
 let⟨_,its,r,o,h1,h2,n,h3⟩:=(show cB P w H h a (.tup (ks.map kV)) from ok a _ e)
 exact{o,its.toArray,n,h1,h2,h3,by simpa using DP r}
def Bp (ok:pM P w H h) (e:Rd H a (.dT kvs)):⇑kvs<=sizeLine/\(a == sysModules)=false/\
  ∃xs,KT H kvs xs/\h.DictOfH (tupleKind (cX P w)) a xs:=by
 let⟨z,y,xs,r,o,es,ep,h1,h2,h3,h4,h5⟩:=(show cB P w H h a (.dT kvs) from RC ok e)
 refine{z,y,xs,r,o,es,ep,h1,h2,h3,h4,λx hx=>?_,h5};let all:∀{l:List (List Key×V)} {m:List (List Key×vF×vz)},KT H l m->∀x∈m,(tupleKind (cX P w)).is h x.1 x.2.1:=by
  intro l m q
  induction q with
  | nil=>intro x hx;exact nomatch hx
  | @cons p q ps qs hq t ih=>
   intro x hx;rcases zD.mp hx with e | hx
   ·subst e
    exact sS ok (by rw[<-hq.1];exact hq.2.1)
   ·exact ih x hx
 exact all r x hx
def U4 (ok:pM P w H h) (e:H a=some (.dT kvs)):⇑kvs<=sizeLine/\(a == sysModules)=false/\
  ∃xs,KT H kvs xs/\h.DictOfH (tupleKind (cX P w)) a xs:=Bp ok (.inl e)
end
def Gi (H:Hp) (a:vF) (y:V) (r:Option V):Prop:=
 (∃kvs k,Rd H a (.dK kvs)/\y=kV k/\r=di kvs k)\/∃kvs k b,Rd H a (.dT kvs)/\y=.ref b/\H b=some (.tup (k.map kV))/\r=di kvs k
def Vi (H:Hp) (a:vF) (y v:V) (H':Hp):Prop:=
 (∃kvs k,H a=some (.dK kvs)/\y=kV k/\⇑kvs<sizeLine/\H'=upd H a (.dK (putK kvs k v)))\/
 ∃kvs k b,H a=some (.dT kvs)/\y=.ref b/\H b=some (.tup (k.map kV))/\⇑kvs<sizeLine/\H'=upd H a (.dT (putK kvs k v))
section
variable {X:Cx} {pins:List (vF×Obj)} {U:St} {H:Hp} {s:vA} {a:vF} {y v:V} {u r:vz} {o:Option V} {A:vD} {E:vz->vA->Prop}
def Inv.big (I:Inv X pins U H s):sysModules<↑s:=by
 let h:mainGlobals<↑s:=(I.mod.glob.keeps I.bk).lt;exact xH ∅ h
def MT (hu:A.units+1<cLine) (I:Inv X pins U H s) (g:Gi H a y (some v)) (ry:RelV y u) (h:∀w' s',Inv X pins U H s'->RelV v w'->Q w' s') :
  wpAny (model X.prog X.w) A (getItem (.ref a) u) Q E s:=by
 rcases g with⟨kvs,k,e,ey,l⟩ | ⟨kvs,k,b,e,ey,eb,l⟩
 ·subst ey
  let⟨z,hd,vs,rel,dd⟩:=ud I.bZ e;let⟨w',hw,rw'⟩:=lR.some_of (v:=v) (o:=valueAt vs k) (by rw[l];exact rel.val k);exact wpAny_getItem_of (DO ry) dd.mapOf hw (h w' _ (I.tok _) rw')
 ·subst ey
  cases(show u=Value.ref b from ry);let⟨z,hd,xs,rel,dd⟩:=Bp I.bZ e;let⟨w',hw,rw'⟩:=lR.some_of (v:=v) (o:=(atKey xs k).map (·.2)) (by rw[l];exact rel.val k);let⟨p,hp,hp2⟩:=Option.map_eq_some_iff.mp hw;refine wpAny_getItem_heap (wC hu) (sS I.bZ eb) dd hp ?_;rw[hp2];exact h w' _ (I.tok _) rw'
def Wx (hu:A.units+1<cLine) (I:Inv X pins U H s) (g:Gi H a y o) (ry:RelV y u) (h:∀s',Inv X pins U H s'->Q (.bool o.isSome) s') :
  wpAny (model X.prog X.w) A (compareOp .In u (.ref a)) Q E s:=by
 rcases g with⟨kvs,k,e,ey,l⟩ | ⟨kvs,k,b,e,ey,eb,l⟩
 ·subst ey
  let⟨z,hd,vs,rel,dd⟩:=ud I.bZ e;refine wpAny_in_of (DO ry) hd dd.mapOf ?_;rw[<-(rel.val k).kC,<-l];exact h _ (I.tok _)
 ·subst ey
  cases(show u=Value.ref b from ry);let⟨z,hd,xs,rel,dd⟩:=Bp I.bZ e;refine wpAny_in_heap (wC hu) (sS I.bZ eb) hd dd ?_;let q:=(rel.val k).kC;rw[Option.isSome_map] at q;rw[<-q,<-l];exact h _ (I.tok _)
def Q8 (hu:A.units+1<cLine) (I:Inv X pins U H s) (g:Gi H a y o) (ry:RelV y u) (h:∀s',Inv X pins U H s'->Q (.bool (!o.isSome)) s') :
  wpAny (model X.prog X.w) A (compareOp .NotIn u (.ref a)) Q E s:=by
 rcases g with⟨kvs,k,e,ey,l⟩ | ⟨kvs,k,b,e,ey,eb,l⟩
 ·subst ey
  let⟨z,hd,vs,rel,dd⟩:=ud I.bZ e;refine wpAny_notIn_of (DO ry) hd dd.mapOf ?_;rw[<-(rel.val k).kC,<-l];exact h _ (I.tok _)
 ·subst ey
  cases(show u=Value.ref b from ry);let⟨z,hd,xs,rel,dd⟩:=Bp I.bZ e;refine wpAny_notIn_heap (wC hu) (sS I.bZ eb) hd dd ?_;let q:=(rel.val k).kC;rw[Option.isSome_map] at q;rw[<-q,<-l];exact h _ (I.tok _)
def Lw (I:Inv X pins U H s) (mu:Vd (H a)) (hs:Heap.SameBut a s.heap h') (he:∃q,h'.get? a=some q) (new:cB X.prog X.w (upd H a ob) h' a ob) :
  Inv X pins U (upd H a ob) {s with heap:=h',toks:=t'}:=
 I.write (x:=a) (e:=a) mu (.inl rfl) (λb q hb z=>(hs.2 b hb).trans z) he new
def TH (z:⇑kvs<=sizeLine) (hd:(a == sysModules)=false) (rel:KV kvs vs) (dd:h'.DictOf (cX P w) a vs) :
  cB P w H' h' a (.dK kvs):={(z),hd,vs,rel,dd}
def MS (hu:A.units+1<cLine) (I:Inv X pins U H s) (g:Vi H a y v H') (ry:RelV y u) (rv:RelV v r) (h:∀s',Inv X pins U H' s'->Q .unit s') :
  wpAny (model X.prog X.w) A (setItem (.ref a) u r) Q E s:=by
 rcases g with⟨kvs,k,e,ey,l,eH⟩ | ⟨kvs,k,b,e,ey,eb,l,eH⟩
 ·subst ey eH
  let⟨z,hd,vs,rel,dd⟩:=U5 I.bZ e;let hz:⇑vs<=sizeLine:=by rw[<-⇑rel];exact z
  let hl:⇑(putK kvs k v)<=sizeLine:=by have:=gM kvs k v;ext
  refine wpAny_setItem_pairs (hsz:=hz) (DO ry) dd λh' dd' hs=>h _ ?_;let he:∃q,h'.get? a=some q:=let ⟨q,_,_,hq,_⟩:=dd';{(q),hq};exact Lw I (by rw[e];exact True.intro) hs he (TH hl hd (rel.put k rv) dd')
 ·subst ey eH
  cases(show u=Value.ref b from ry);let⟨z,hd,xs,rel,dd⟩:=U4 I.bZ e;let hz:⇑xs<=sizeLine:=by rw[<-x6 rel];exact z
  let hl:⇑(putK kvs k v)<=sizeLine:=by have:=gM kvs k v;ext
  refine wpAny_setItem_heap (hsz:=hz) (wC hu) (sS I.bZ eb) dd λh' dd' hs=>h _ ?_;let⟨q,es,ep,hq,h2,h3,h4,_,h5⟩:=dd';refine Lw I (by rw[e];exact True.intro) hs ⟨q,hq⟩ ⟨hl,hd,_,(rel.put k eb rv).keeps λc ys ec=>?_,q,es,ep,hq,h2,h3,h4,h5⟩;rw[aE (aZ ec e (λz=>nomatch z))];exact ec
end
section
variable {X:Cx} {pins:List (vF×Obj)} {U:St} {H:Hp} {s:vA} {a:vF} {kvs:List (Key×V)} {k:Key} {u:vz} {A:vD} {E:vz->vA->Prop}
def U7 (I:Inv X pins U H s) (e:Rd H a (.dK kvs)) (h:∀t s',Inv X pins U H s'->Q (.int ⇑kvs t) s'):wpAny (model X.prog X.w) A (call (.builtin "len") [.ref a]) Q E s:=by
 let⟨z,hd,vs,rel,dd⟩:=ud I.bZ e;refine call_len_dict hd dd (by rw[<-⇑rel];rw[yC] at z;ext) ?_;rw[<-⇑rel];exact h _ _ (I.tok _)
end
def TX (i:Expr):Prop:=∀ov iv,subscripted i false ov iv=operate [ov,iv] (getItem ov iv)
def KS {prog:vB} {w:vC} {A:vD} {E:vz->vA->Prop} {s:vA} {env:Env} {value slice:Expr} {pos:Pos} {T id:String} {Q:vz->vA->Prop}
  (hl:typeLookup (.type T) "__getitem__"= pure (some (.builtin id))) (hs:TX slice)
  (h:wpAny (model prog w) A (eval value env) (λo s₁=>wpAny (model prog w) A (eval slice env) (λi s₂=>s₂.TypeIs o T/\wpAny (model prog w) A (getItem o i) Q E s₂) E s₁) E s) :
  wpAny (model prog w) A (eval (.Subscript value slice pos) env) Q E s:=by
 refine Subscript_ (xg h (λo s₁ h₁=>xg h₁ (λi s₂ h₂=>?_) λ_ _ x=>x) λ_ _ x=>x);let⟨hT,h₂⟩:=h₂;unfold subscriptTail;refine yu ?_;rw[getitemInPython_of_ne hT.not_modules];refine yu (wpAny_specialOf hT hl ?_);let fin:wpAny (model prog w) A (subscripted slice false o i) (λr s₃=>wpAny (model prog w) A (letTemporaryGo value o r >>= λ_=>pure r) Q E s₃) E s₂:=by
  rw[hs o i];exact wpAny_operating (xg h₂ (λr s₃ h₃=>yu (wpAny_letTemporaryGo (yw h₃))) λ_ _ x=>x)
 first
  | exact yw (yu fin)
  | exact yu (yw (yu fin))
  | exact yu fin
def Io (I:Inv X pins U H s) (g:Gi H a y o):s.TypeIs (.ref a) "dict":=by
 rcases g with⟨kvs,k,e,_,_⟩ | ⟨kvs,k,b,e,_,_,_⟩
 ·let⟨_,_,vs,_,dd⟩:=ud I.bZ e
  exact dd.typeIs
 ·let⟨_,_,xs,_,dd⟩:=Bp I.bZ e
  exact dd.typeIs
def Ut (td ty:TE):TE:=λU H Q=>td U H λx H1=>ty U H1 λy H2=>∃a v,x=.ref a/\Gi H2 a y (some v)/\Q v H2
def V5 (ty td:TE):TE:=λU H Q=>ty U H λy H1=>td U H1 λx H2=>∃a o,x=.ref a/\Gi H2 a y o/\Q (.bl o.isSome) H2
def Qj (ty td:TE):TE:=λU H Q=>ty U H λy H1=>td U H1 λx H2=>∃a o,x=.ref a/\Gi H2 a y o/\Q (.bl (!o.isSome)) H2
def Uz (td ty tv:TE):TS:=λD U H=>tv U H λv H1=>td U H1 λx H2=>ty U H2 λy H3=>∃a H4,x=.ref a/\Vi H3 a y v H4/\D.nx U H4
section
variable {X:Cx} {o i e value:Expr} {pos pos' tpos:Pos} {td ty tv:TE}
def vT (hu:X.A.units+1<cLine) (ho:PE X o td) (hi:PE X i ty) (hs:TX i):PE X (.Subscript o i pos) (Ut td ty):=by
 intro pins s U H Q I h;refine KS PySem.F.slot_dict_getitem.lookup hs (cM (ho pins s U H _ I h) λu s1 ⟨x,H1,I1,rx,q1⟩=>cM (hi pins s1 U H1 _ I1 q1) λiv s2 zz=>?_);let⟨y,H2,I2,ry,a,v,ex,g,q2⟩:=zz;subst ex;obtain rfl:u=Value.ref a:=rx;exact{Io I2 g,MT hu I2 g ry λw' s3 I3 rw'=>{(v),H2,I3,rw',q2}}
def E5 (hu:X.A.units+1<cLine) (hi:PE X i ty) (ho:PE X o td):PC X .In i o (V5 ty td):=by
 intro pins s U H Q I h;refine cM (hi pins s U H _ I h) λiv s1 ⟨y,H1,I1,ry,q1⟩=>cM (ho pins s1 U H1 _ I1 q1) λu s2 zz=>?_;let⟨x,H2,I2,rx,a,ov,ex,g,q2⟩:=zz;subst ex;obtain rfl:u=Value.ref a:=rx;exact Wx hu I2 g ry λs3 I3=>{.bl ov.isSome,H2,I3,rfl,q2}
def DG (hu:X.A.units+1<cLine) (hi:PE X i ty) (ho:PE X o td):PC X .NotIn i o (Qj ty td):=by
 intro pins s U H Q I h;refine cM (hi pins s U H _ I h) λiv s1 ⟨y,H1,I1,ry,q1⟩=>cM (ho pins s1 U H1 _ I1 q1) λu s2 zz=>?_;let⟨x,H2,I2,rx,a,ov,ex,g,q2⟩:=zz;subst ex;obtain rfl:u=Value.ref a:=rx;exact Q8 hu I2 g ry λs3 I3=>{.bl (!ov.isSome),H2,I3,rfl,q2}
def ly (hu:X.A.units+1<cLine) (ho:PE X o td) (hi:PE X i ty) (hv:PE X value tv) (hs:swapsWith value (some (.Subscript o i pos')) pos.line X.env=pure false) :
  PS X (.Assign [.Subscript o i pos'] value pos) (Uz td ty tv):=by
 intro pins s U H D I h;refine wpAny_Assign_Subscript (cM (hv pins s U H _ I h) λr s1 ⟨v,H1,I1,rv,q1⟩=>cM (ho pins s1 U H1 _ I1 q1) λu s2 ⟨x,H2,I2,rx,q2⟩=>cM (hi pins s2 U H2 _ I2 q2) λiv s3 ⟨y,H3,I3,ry,a,H4,ex,g,q3⟩=>?_) hs;subst ex;obtain rfl:u=Value.ref a:=rx;exact MS hu I3 g ry rv λs4 I4=>{U,H4,I4,q3}
end
def Pq (h:vG) (hb:sysModules<h.objs.size):cB P w H (h.push {cls:=.type "dict",data:=.dict #[]}) h.objs.size (.dK []):=
 {yg _,xG.mpr (Ne.symm (yj hb)),[],.nil,Heap.DictOf.new h}
def Po (h:vG) (hb:sysModules<h.objs.size):cB P w H (h.push {cls:=.type "dict",data:=.dict #[]}) h.objs.size (.dT []):=
 {yg _,xG.mpr (Ne.symm (yj hb)),[],.nil,_,#[],0,yx _ rfl,{(rfl),rfl,rfl},rfl,rfl,wa}
def Sk:TE:=λ_ H Q=>∀p,H p=none->Q (.ref p) (upd H p (.dK []))
def Sj:TE:=λ_ H Q=>∀p,H p=none->Q (.ref p) (upd H p (.dT []))
section
variable {X:Cx} {pos:Pos}
def ku:PE X (.Dict [] [] pos) Sk:=λpins s U H Q I h=>
 wpAny_Dict_empty {.ref ↑s,_,I.laid (a:=↑s) (o:=.dK []) (t':=s.toks) (λ_ _ q=>yv _ q) (zm _) (Pq s.heap I.big),rfl,h _ (I.bZ.fresh (zm _))}
def OE:PE X (.Dict [] [] pos) Sj:=λpins s U H Q I h=>
 wpAny_Dict_empty {.ref ↑s,_,I.laid (a:=↑s) (o:=.dT []) (t':=s.toks) (λ_ _ q=>yv _ q) (zm _) (Po s.heap I.big),rfl,h _ (I.bZ.fresh (zm _))}
end
structure M2 (X:Cx) (o:Expr) (m:Str) (apos:Pos) (e f:Expr) (cpos:Pos):Prop where
 base:attributeBase o m X.env (eval o X.env)=eval o X.env
 W6:((backTo cpos (starEach [e,f] X.env)).all (λx=>!x.1)&&(backToKw cpos (keywordEach [] X.env)).all (λx=>x.1.isSome)
  &&decide (⇑([e,f]:List Expr)+⇑([]:List Keyword)+(if([]:List Keyword).isEmpty then 0 else 1)<30))=true
 line:(apos.endLine == cpos.line)=true
 trees:backTo cpos (starEach [e,f] X.env)=[(false,eval e X.env),(false,eval f X.env)]
def WS (H:Hp) (a:vF):Prop:=(∃kvs,Rd H a (.dK kvs))\/∃kvs,Rd H a (.dT kvs)
def To (I:Inv X pins U H s) (d:WS H a) :
  s.TypeIs (.ref a) "dict"/\(∀b,Value.ref a=.ref b->∃ob,s.heap.get? b=some ob/\ob.dict=none)/\(a == sysModules)=false:=by
 rcases d with⟨kvs,e⟩ | ⟨kvs,e⟩
 ·let⟨_,hd,vs,_,dd⟩:=ud I.bZ e
  refine{dd.typeIs,λb q=>?_,hd};cases q;let⟨ob,_,_,h1,h2,_⟩:=dd;exact{(ob),h1,h2.2.1}
 ·let⟨_,hd,xs,_,dd⟩:=Bp I.bZ e
  refine{dd.typeIs,λb q=>?_,hd};cases q;let⟨ob,_,_,h1,h2,_⟩:=dd;exact{(ob),h1,h2.2.1}
section
variable {X:Cx} {pins:List (vF×Obj)} {U:St} {H:Hp} {s:vA} {a:vF} {y d:V} {u r:vz} {o:Option V} {A:vD} {E:vz->vA->Prop}
def TJ (hu:A.units+1<cLine) (I:Inv X pins U H s) (g:Gi H a y o) (ry:RelV y u) (rd:RelV d r) (h:∀w' s',Inv X pins U H s'->RelV (o.getD d) w'->Q w' s') :
  wpAny (model X.prog X.w) A (call (.builtin "dict.get") [.ref a,u,r]) Q E s:=by
 rcases g with⟨kvs,k,e,ey,l⟩ | ⟨kvs,k,b,e,ey,eb,l⟩
 ·subst ey
  let⟨z,hd,vs,rel,dd⟩:=ud I.bZ e;refine call_meetsIn PySem.F.slot_dict_get dd.typeIs PySem.F.entry_dict_get (PySem.F.args_dict_get_3 _ _ _) (meets_dict_get_default (cX X.prog X.w) a (DO ry) hd r) {_,dd.mapOf,h _ _ (I.tok _) ?_};rw[l];exact(rel.val k).getD rd
 ·subst ey
  cases(show u=Value.ref b from ry);let⟨z,hd,xs,rel,dd⟩:=Bp I.bZ e;refine call_meetsIn PySem.F.slot_dict_get dd.typeIs PySem.F.entry_dict_get (PySem.F.args_dict_get_3 _ _ _) (meetsH_dict_get_default (tupleKind (cX X.prog X.w)) a b hd r) {wC hu,k,xs,sS I.bZ eb,dd,h _ _ (I.tok _) ?_};rw[l];exact(rel.val k).getD rd
end
def Sm (td ty tx:TE):TE:=λU H Q=>td U H λx H1=>∃a,x=.ref a/\WS H1 a/\ty U H1 λy H2=>tx U H2 λz H3=>∃o,Gi H3 a y o/\Q (o.getD z) H3
section
variable {X:Cx} {o e f:Expr} {apos cpos:Pos} {td ty tx:TE}
def AY (hu:X.A.units+1<cLine) (ho:PE X o td) (he:PE X e ty) (hf:PE X f tx) (m:M2 X o "get" apos e f cpos):PE X (.Call (.Attribute o "get" apos) [e,f] [] cpos) (Sm td ty tx):=by
 intro pins s U H Q I h;refine wpAny_Call_method m.base m.W6 m.line PySem.F.plainAttrs_dict PySem.F.slot_dict_get PySem.F.type_dict_get (cM (ho pins s U H _ I h) λu s1 zz=>?_);let⟨x,H1,I1,rx,a,ex,d,q1⟩:=zz;subst ex;obtain rfl:u=Value.ref a:=rx;let⟨t1,t2,_⟩:=To I1 d;refine{t1,t2,?_};rw[m.trees];refine wO rfl (Calls.evalArgs_plain (wF (cM (he pins s1 U H1 _ I1 q1) λiv s2 ⟨y,H2,I2,ry,q2⟩=>
  wF (cM (hf pins s2 U H2 _ I2 q2) λfv s3 ⟨z,H3,I3,rz,ov,g,q3⟩=>vx ?_))))
 exact TJ hu I3 g ry rz λw' s4 I4 rw'=>{_,H3,I4,rw',q3}
end
section
variable {X:Cx} {pins:List (vF×Obj)} {U:St} {H:Hp} {s:vA} {a:vF} {kvs:List (Key×V)} {A:vD} {E:vz->vA->Prop}
end
section
variable {X:Cx} {pins:List (vF×Obj)} {U:St} {H:Hp} {s:vA} {a:vF} {y:V} {u:vz} {A:vD} {E:vz->vA->Prop}
end
end L2
namespace L2
open PySem PySem.Spec PyProof.Rows
section
variable {κ:Type} [DecidableEq κ]
end
end L2
namespace L2
open PySem PySem.Spec PyProof.Rows
def cP (U₀:St) (g:TG) (tc:TT) (te:TE) (Q:VK) (J:It) (H1:Hp):Prop:=∃W:Nat->Nat->List V->St->Hp->Prop,(∃m,W 0 m [] U₀ H1)/\∀i m xs U' H',W i m xs U' H'->
 (J.stop i H'/\⇑xs<=sizeLine/\∀D,H' D=none->Q (.ref D) (upd H' D (.lst xs)))\/
 (J.go i H'/\⇑xs<sizeLine/\∀x H2,J.Jg i H' x H2->g x U' H2 λσ3 H3=>tc σ3 H3 λb H4=>if b=true then te σ3 H4 λy H5=>∃m',m'<m/\W (i+1) m' (xs++[y]) σ3 H5 else∃m',m'<m/\W (i+1) m' xs σ3 H4)
def cO (X:Cx) (N:List Str) (scope:Scope) (cl:List (Str×vF)) (C:vF) (s₀:vA) (H₀:Hp) (ex:List vF):Cx:=
 {X with N:=N,s₀:=s₀,H₀:=H₀,env:=compEnvC scope (cellsFrom (C+1) scope.names cl) C X.env,outer:=X.stack,stack:=X.stack,ex:=ex,fn:=λx=>((cellsFrom (C+1) scope.names []).lookup x).isSome,pn:=[],xe:=λ_ _=>False}
def mK (fr:List (Option Nat)) (wi:TI) (g:TG) (tc:TT) (te:TE):TE:=λU H Q=>wi U H λJ H1=>cP (fr.map λo=>o.bind λj=>(U[j]?).join) g tc te Q J H1
def Rn (X:Cx) (ifs:List Expr) (tc:TT):Prop:=∀(pins:List (vF×Obj)) (s:vA) (U:St) (H:Hp) (Q:Bool->Hp->Prop),Inv X pins U H s->tc U H Q->
 wpAny (model X.prog X.w) X.A (forIn ifs true λc r=>if r=true then do let ok <-isTrue c X.env (eval c X.env);pure (ForInStep.yield ok) else pure (ForInStep.yield r)) (TP X pins U Q) X.xe s
def rQ:TT:=λ_ H Q=>Q true H
def bq:Rn X [] rQ:=λ_ _ _ H _ I h=>wpAny_tests_nil {(H),I,h}
def fM (h:PT X c tc):Rn X [c] tc:=λpins s U H Q I q=>wpAny_tests_one (h pins s U H Q I q)
theorem dg:∀(names:List (Str×NameKind)) (n:Nat) (acc:List (Str×vF)),cellsFrom n names acc=cellsFrom n names []++acc
 | [],_,_=>rfl
 | (x,k)::r,n,acc=>by
  unfold cellsFrom;split
  ·rw[dg r (n+1) ((x,n)::acc),dg r (n+1) [(x,n)],zF];rfl
  ·exact dg r n acc
def QK {h:vG} {lo:Nat} {cs:List (Str×vF)} (ok:CellsOk h lo cs) {x y:Str} {c:vF} (e:cs.lookup x=some c) (e':cs.lookup y=some c):x=y:=by
 let key:∀(l:List (Str×vF)),l.Pairwise (λx y=>x.2≠y.2)->(x,c)∈l->(y,c)∈l->x=y:=by
  intro l
  induction l with
  | nil=>intro _ h;cases h
  | cons p r ih=>
   intro hp h1 h2;rw[xc] at hp;rcases zD.mp h1 with h1 | h1
   ·rcases zD.mp h2 with h2 | h2
    ·rw[<-h1] at h2;exact(Prod.mk.inj h2).1.symm
    ·exact absurd rfl (by have:=hp.1 _ h2;rw[<-h1] at this;exact this)
   ·rcases zD.mp h2 with h2 | h2
    ·exact absurd rfl (by have:=hp.1 _ h1;rw[<-h2] at this;exact this)
    ·exact ih hp.2 h1 h2
 exact key cs ok.apart (mem_of_lookup e) (mem_of_lookup e')
def Fm
  (hQ:∀g1:vG,g1.Ns ↑s (λ_=>none)->(∀b o,s.heap.get? b=some o->g1.get? b=some o)->CellsOk g1 (↑s+1) (cellsFrom (↑s+1) scope.names [])->
   Q (newEnv scope ↑s globals (cellsFrom (↑s+1) scope.names cl) qual none .none (some outer) builtinsNs) {s with heap:=g1}) :
  wpAny M A (newFunctionEnv scope globals cl [] qual none .none (some outer)) Q E s:=by
 simp only[newFunctionEnv,Option.isSome_some,vi];refine yu (wpAny_alloc ?_);refine yu (wpAny_layCells _ (λname kind cells=>by cases hkc:kind == NameKind.cell <;> simp[hkc]) _ _ _ _ ?_);let ok:=cellsFrom_ok scope.names (s.heap.push {cls:=.type "dict",data:=.dict #[]}) (↑s+1) [] {λ_ _ hm=>(nomatch hm),List.Pairwise.nil} (by rw[xm];exact zm _);rw[xm] at ok;rw[show({s with heap:=s.heap.push {cls:=.type "dict",data:=.dict #[]}}:vA).heap.objs.size=↑s+1 from xm ..];exact yu (yw (yw (hQ _ ((Heap.Ns.new s.heap (.type "dict")).keeps (pushCells_keeps _ _)) (λb o e=>pushCells_keeps _ _ b o (yv _ e)) ok)))
def Kg (I:Nat->vA->Prop)
  (turn:∀n s,I n s->wpAny (model prog w) A (pyNext it) (λr s1=>match r with
   | none=>R (.ok .next) s1
   | some v=>wpAny (model prog w) A (letOwnedTupleGo target it v) (λ_ s2=>wpAny (model prog w) A (assign target env v) (λ_ s3=>
     wpAny (model prog w) A (forIn ifs true λc r=>if r=true then do let ok <-isTrue c env (eval c env);pure (ForInStep.yield ok) else pure (ForInStep.yield r)) (λok s3'=>if ok=true then wpAny (model prog w) A (eval elt env) (λx s4=>
     wpAny (model prog w) A (call (.builtin "list.append") [acc,x]) (λ_ s5=>∃m,m<n/\I m s5) (λ_ _=>False) s4) (λ_ _=>False) s3' else∃m,m<n/\I m s3') (λ_ _=>False) s3) (λ_ _=>False) s2) (λ_ _=>False) s1) (λ_ _=>False) s)
  (n:Nat) (h:I n s):codeAny (model prog w) A (.compLoop (.ListComp elt [{target,iter,ifs,0}] scope pos) 0 it acc env) R s:=by
 refine codeAny_loop rfl I (λn s hI=>?_) n h;show wpAny _ _ ((compTurn (.ListComp elt [{target,iter,ifs,0}] scope pos) 0 it acc env).onRaise (λx=>do noteFrame x env;theTreesLotGoes x)) _ _ s;refine wpAny_noted ?_;rw[compTurn_list];let no:∀(E:vz->vA->Prop) (x:vz) (s':vA),False->E x s':=λ_ _ _ f=>f.elim;refine yu (wpAny_standAt (yu (xg (turn n s hI) (λr s1 h1=>?_) (no _))));cases r with
 | none=>exact yw h1
 | some v=>
  refine yu (xg h1 (λ_ s2 h2=>yu (xg h2 (λ_ s3 h3=>yu (xg h3 (λok s3' h3'=>?_) (no _))) (no _))) (no _));cases ok with
  | false=>
   rw[yN ∅] at h3';exact yw {(rfl),h3'}
  | true=>
   rw[yO rfl] at h3';exact yu (yu (xg h3' (λx s4 h4=>yu (xg h4 (λ_ s5 h5=>yw (yw {(rfl),h5})) (no _))) (no _)))
section
variable {X:Cx} {pos:Pos}
def BG {elt target iter:Expr} {scope:Scope} {N:List Str} {fr:List (Option Nat)} {cl:List (Str×vF)} {g:TG} {tc:TT} {te:TE} {ifs:List Expr} (hc:X.calm=true) (hsub:∀x c,cl.lookup x=some c->X.env.cells.lookup x=some c) (hhas:∀C x,((compEnvC scope cl C X.env).kindOf x=some .cell\/(compEnvC scope cl C X.env).kindOf x=some .free)->(∃c,cl.lookup x=some c)\/∃c,(cellsFrom (C+1) scope.names []).lookup x=some c)
  (hlen:⇑fr=N.length) (hfr:∀(i:Nat) x j,N[i]?=some x->fr[i]?=some (some j)->X.N[j]?=some x/\TQ X.env.scope x/\X.env.kindOf x≠some .local/\(∀C,(compEnvC scope cl C X.env).kindOf x=some .cell\/(compEnvC scope cl C X.env).kindOf x=some .free)/\(∀c,X.env.cells.lookup x=some c->cl.lookup x=some c)/\∀C,(cellsFrom (C+1) scope.names []).lookup x=none) (hkind:scope.kind=.function)
  (hg:∀C s₀ H₀ ex,PG (cO X N scope cl C s₀ H₀ ex) target g) (hif:∀C s₀ H₀ ex,Rn (cO X N scope cl C s₀ H₀ ex) ifs tc) (he:∀C s₀ H₀ ex,PE (cO X N scope cl C s₀ H₀ ex) elt te)
  {pins:List (vF×Obj)} {U:St} {s2:vA} {it:vF} {fp:List vF} {tn:Nat->vG->Prop} {J:It} {H2:Hp} {Q:VK} {RR:vz->vF->Result->vA->Prop} (I2:Inv X pins U H2 s2) (T:Turn X.prog X.w X.K target J fp it tn) (st2:tn 0 s2.heap) (f2:∀b∈fp,pN X pins H2 b)
  (ok:cP (fr.map λo=>o.bind λj=>(U[j]?).join) g tc te Q J H2)
  (fin:∀D C s4 H' xs,↑s2<=D->↑s2<=C->C≠D->Inv X pins U (upd H' D (.lst xs)) s4->H' D=none->H' C=none->(∃m,s4.heap.Ns C m)->(∀D,H' D=none->Q (.ref D) (upd H' D (.lst xs)))->RR (.ref D) C (.ok .next) s4) :
  wpAny (model X.prog X.w) X.A (newList []) (λacc s3=>wpAny (model X.prog X.w) X.A (newFunctionEnv scope X.env.globals cl [] X.env.qual none .none (some X.env)) (λcenv s4=>
   codeAny (model X.prog X.w) X.A (.compStart (.ListComp elt [{target,iter,ifs,0}] scope pos) 0 (.ref it) acc {cenv with scope:=relabel scope X.env}) (RR acc cenv.locals) s4) X.xe s3) X.xe s2:=by
 let⟨W,⟨m0,w0⟩,turn⟩:=ok;refine xf (Fm λg1 hns hold hown=>?_);dsimp only at hns hold hown ⊢;generalize hG:s2.heap.push {cls:=.type "list",dict:=none,data:=.seq ([]:List vz).toArray}=G2 at hns hold hown ⊢;let hC:G2.objs.size=↑s2+1:=by rw[<-hG,xm]
 let below:∀b,b<↑s2->b≠G2.objs.size/\b≠↑s2:=λb hb=>{by rw[hC];exact yj (wM hb),yj hb}
 let hDC:↑s2≠G2.objs.size:=by rw[hC];exact yj (xR _)
 let old:∀b o,s2.heap.get? b=some o->g1.get? b=some o:=λb o e=>hold b o (hG▸yv _ e);let hacc:g1.get? ↑s2=some {cls:=.type "list",data:=.seq ([]:List vz).toArray 0}:=hold _ _ (hG▸yx _ rfl);let hsC:↑s2<G2.objs.size:=by rw[hC];exact xR _
 let csl:∀x c,(cellsFrom (G2.objs.size+1) scope.names cl).lookup x=some c->((cellsFrom (G2.objs.size+1) scope.names []).lookup x=some c/\G2.objs.size<c/\g1.IsCell c none)\/((cellsFrom (G2.objs.size+1) scope.names []).lookup x=none/\cl.lookup x=some c/\X.env.cells.lookup x=some c/\c<↑s2):=λx c e=>by
  rw[dg,wD] at e;cases q:(cellsFrom (G2.objs.size+1) scope.names []).lookup x with
  | some d=>
   rw[q] at e;cases e;let⟨z1,z2⟩:=hown.empty x _ (mem_of_lookup q);exact .inl {(rfl),z2,z1}
  | none=>
   rw[q] at e;let⟨v,z⟩:=I2.cell x c (hsub x c e);exact .inr {rfl,e,hsub x c e,z.lt}
 let fplt:∀b∈fp,b<↑s2:=λb hb=>let ⟨o,e,_⟩:=T.obj _ _ st2 b hb;yy e;let P6:∀b∈fp,∀x c,(cellsFrom (G2.objs.size+1) scope.names cl).lookup x=some c->c≠b:=λb hb x c e=>by
  rcases csl x c e with⟨_,l,_⟩ | ⟨_,_,z,_⟩
  ·exact yi (xH (fplt b hb) (xH hsC l))
  ·exact(f2 b hb).2.2.2.2.1 x c z
 letI Y:Cx:=cO X N scope cl G2.objs.size s2 H2 fp
 let okY:Y.Ok:=by
  refine{I2.ok.mod,hkind,I2.ok.glob,I2.ok.blt,?_,λx y c e e'=>?_,λx hx=>?_,λx c hf e=>?_,I2.ok.hd,I2.ok.frames,.inl rfl,λb hb=>{(below b (fplt b hb)).1,λx c e=>P6 b hb x c e},I2.bs,zM I2.ok.Nq I2.sz,λb o e hb=>?_,λb hb hf=>?_,I2.stack,I2.pR}
  ·show ↑s2<=G2.objs.size
   rw[hC];exact x9 _
  ·rcases csl x c e with⟨q,l,_⟩ | ⟨_,q,z,l⟩
   ·rcases csl y c e' with⟨q',l',_⟩ | ⟨_,q',z',l'⟩
    ·exact QK hown q q'
    ·exact absurd (xH (xH hsC l) l') (yf _)
   ·rcases csl y c e' with⟨q',l',_⟩ | ⟨_,q',z',l'⟩
    ·exact absurd (xH (xH hsC l') l) (yf _)
    ·exact I2.ok.inj x y c z z'
  ·show∃c,(cellsFrom (G2.objs.size+1) scope.names cl).lookup x=some c
   rw[dg,wD];rcases hhas G2.objs.size x hx with⟨c,e⟩ | ⟨c,e⟩
   ·rw[e];cases(cellsFrom (G2.objs.size+1) scope.names []).lookup x with
    | none=>exact{(c),rfl}
    | some d=>exact{(d),rfl}
   ·rw[e];exact{(c),rfl}
  ·let hf':((cellsFrom (G2.objs.size+1) scope.names []).lookup x).isSome=true:=hf
   rcases csl x c e with⟨q,l,_⟩ | ⟨q,_⟩
   ·exact yh (xH hsC l)
   ·rw[q] at hf';cases hf'
  ·rcases(f2 b hb).2.2.2.1 with z | z
   ·exact I2.ok.uQ b o e z
   ·exact absurd (yc (yy e) (zM I2.ok.Nq z)) (yf _)
  ·rcases zD.mp (I2.Ex b hf) with z | z
   ·exact(f2 b hb).2.1 z
   ·exact(f2 b hb).2.2.1 z
 let cl2:∀x c,(cellsFrom (G2.objs.size+1) scope.names cl).lookup x=some c->(∃v,g1.IsCell c v)/\H2 c=none/\c≠↑s2:=λx c e=>by
  rcases csl x c e with⟨_,l,z⟩ | ⟨_,_,z,l⟩
  ·exact{{_,z},I2.bZ.fresh (yh (xH hsC l)),yi (xH hsC l)}
  ·let⟨v,oc,hoc,hd⟩:=I2.cell x c z
   exact{{v,oc,old _ _ hoc,hd},I2.jR x c z,yj l}
 let Dfs:↑s2∉Y.fs:=λhb=>by
  rcases zD.mp (I2.Ex _ hb) with z | z
  ·exact absurd (z▸I2.lt) (yf _)
  ·exact I2.UG (zm _) z
 let hCf:H2 G2.objs.size=none:=I2.bZ.fresh (by rw[hC];exact x9 _);let start:∀tk,Inv Y [(↑s2,{cls:=.type "list",data:=.seq ([]:List vz).toArray 0})] (fr.map λo=>o.bind λj=>(U[j]?).join) H2 {s2 with heap:=g1,toks:=tk}:=λtk=>
  {okY,rfl,I2.bare,Un.kept old,{_,hns,λi x v e1 e2 _=>by
    rw[zK] at e2;cases ef:fr[i]? with
    | none=>rw[ef] at e2;cases e2
    | some o=>
     cases o with
     | none=>rw[ef] at e2;cases e2
     | some j=>
      rw[ef] at e2;let e2':(U[j]?).join=some v:=by simpa using e2
      let ej:U[j]?=some (some v):=by
       cases q:U[j]? with
       | none=>rw[q] at e2';cases e2'
       | some w=>rw[q] at e2';cases w with
        | none=>cases e2'
        | some w=>cases e2';rfl
      let⟨k1,k2,k3,k4,k5,k6⟩:=hfr i x j e1 ef;let⟨m,_,hl⟩:=I2.loc;let⟨u,r,l⟩:=hl j x v k1 ej k2;refine{u,r,?_};rcases l with l | ⟨_,c,ec,z⟩
      ·exact absurd l.1 k3
      ·let⟨oc,hoc,hd⟩:=z
       exact .inr {k4 G2.objs.size,c,by show(cellsFrom (G2.objs.size+1) scope.names cl).lookup x=some c;rw[dg,wD,k6];exact k5 c ec,oc,old _ _ hoc,hd}},
   λx c e=>(cl2 x c e).1,hCf,λx c e=>(cl2 x c e).2.1,
   λp hp=>by
    let e:p=(↑s2,{cls:=.type "list",data:=.seq ([]:List vz).toArray 0}):=by simpa using (show p∈[]++[_] from hp)
    subst e;exact{hacc,I2.bZ.fresh (zm _),hDC,Dfs,λv z=>by cases z},I2.bZ.kept old,by rw[za,hlen];rfl}
 let stat:∀{H':Hp} {ob:Obj},(∀b∈fp,H' b=none)->∀b∈fp,pN Y [(↑s2,ob)] H' b:=λ{H' ob} hn b hb=>by
  refine{hn b hb,(below b (fplt b hb)).1,λz=>okY.J2 b hb z,.inl hb,P6 b hb,λp hp=>?_};let e:p=(↑s2,ob):=by simpa using (show p∈[]++[_] from hp)
  subst e;exact(below b (fplt b hb)).2.symm
 let loop:∀tk,codeAny (model X.prog X.w) X.A (.compLoop (.ListComp elt [{target,iter,ifs,0}] scope pos) 0 (.ref it) (.ref ↑s2) (compEnvC scope (cellsFrom (G2.objs.size+1) scope.names cl) G2.objs.size X.env))
   (RR (.ref ↑s2) G2.objs.size) {s2 with heap:=g1,toks:=tk}:=by
  intro tk;refine Kg (λn s'=>∃i U' H' xs its k,Inv Y [(↑s2,{cls:=.type "list",data:=.seq its.toArray k})] U' H' s'/\tn i s'.heap/\(∀b∈fp,H' b=none)/\Vals xs its/\W i n xs U' H') ?_ m0
   {0,_,H2,[],[],0,start tk,T.keep _ _ _ st2 λb _ o e=>old b o e,λb hb=>(f2 b hb).1,.nil,w0}
  rintro n s3 ⟨i,σ3,H3,xs,its,k,I3,st3,fr3,rv3,w3⟩;rcases turn i n xs σ3 H3 w3 with⟨stop,hz,qn⟩ | ⟨go,hz,step⟩
  ·refine cM (T.done Y rfl rfl rfl hc i _ s3 σ3 H3 _ I3 (stat fr3) st3 stop) λr s4 ⟨hr,I4⟩=>?_
   subst hr;let⟨m,hm,_⟩:=id I4.loc;let⟨pD,nD,neD,fD,_⟩:=I4.pin (↑s2,{cls:=.type "list",data:=.seq its.toArray k}) (by show _∈[]++[_];simp);refine fin ↑s2 G2.objs.size s4 H3 xs (zm _) (by rw[hC];exact x9 _) hDC.symm (I2.PB (s':=s4) (ch:=fp) I4.os ?_ ?_ I4.bare (λb hb=>{(f2 b hb).2.2.2.1,(f2 b hb).2.1,(f2 b hb).2.2.2.2.1,(f2 b hb).2.2.2.2.2})) nD I4.free {(m),hm} qn
   ·let ub:Un Y.fs Y.ex H2 H3 s2.heap s4.heap:=I4.base
    let lt:∀b o,s2.heap.get? b=some o->b≠G2.objs.size/\b≠↑s2:=λb o e=>below b (yy e);refine{λb o e n hb hx=>ub.keep b o e n hb hx,λb o e n hb hx=>ub.slot b o e n hb hx,λb o e n hx=>?_,λb o e hx=>ub.there b o e hx,λb ys e=>?_,λb o u e=>?_,λb ps e=>?_}
    ·rw[aE (lt b o e).2];exact ub.free b o e n hx
    ·let q:=ub.nZ b ys e
     rw[aE (bu q nD)];exact q
    ·let q:=ub.mC b o u e
     rw[aE (bu q nD)];exact q
    ·let⟨more,q⟩:=ub.oa b ps e
     exact{more,by rw[aE (bu q nD)];exact q}
   ·intro b u e
    by_cases hb:b=↑s2
    ·subst hb;rw[aC] at e;cases e
     exact{(hz),its,k,rv3,pD}
    ·rw[aE hb] at e
     exact(I4.bZ b u e).kQ (λc v hc' q=>q) (λc q=>by rw[aE (bu q nD)];exact q) λc ys q=>by rw[aE (bu q nD)];exact q
  ·refine cM (T.item Y rfl rfl rfl hc i _ s3 σ3 H3 _ I3 (stat fr3) st3 go) λr s4 ⟨u,hr,h4⟩=>?_
   subst hr;refine cM h4 λ_ s5 zz=>?_;let⟨x,H5,I5,r5,y5,st5,fr5⟩:=zz;let I5':=I5.pinned (stat fr5) (T.obj _ _ st5);refine cM (hg G2.objs.size s2 H2 fp _ s5 σ3 H5 x u _ I5' r5 (step x H5 y5)) λ_ s6 ⟨σ6,H6,I6,q6⟩=>?_;refine cM (hif G2.objs.size s2 H2 fp _ s6 σ6 H6 _ I6 q6) λb s6' ⟨H6',I6',q6'⟩=>?_;cases b with
   | false=>
    rw[yN ∅] at q6' ⊢;let⟨m',hm,w7⟩:=q6';let inD:(↑s2,({cls:=.type "list",data:=.seq its.toArray k}:Obj))∈Y.pn++([(↑s2,({cls:=.type "list",data:=.seq its.toArray k}:Obj))]++sE fp s5.heap):=by show _∈[]++_;simp
    let⟨pD,nD,neD,fD,dD⟩:=I6'.pin _ inD;let I7':Inv Y [] σ6 H6' s6':=I6'.nI λp hp=>nomatch hp;refine{m',hm,i+1,σ6,H6',xs,its,k,I7'.nI λp hp=>?_,T.keep _ _ _ st5 (λb hb o e=>(I6'.pin (b,o) (zI _ (zI _ (gg hb e)))).1),λb hb=>?_,rv3,w7}
    ·let e:p=(↑s2,{cls:=.type "list",data:=.seq its.toArray k}):=by simpa using hp
     subst e;exact{(pD),nD,neD,fD,dD}
    ·let⟨o,e,d⟩:=T.obj _ _ st5 b hb
     exact(I6'.pin (b,o) (zI _ (zI _ (gg hb e)))).2.1
   | true=>
   rw[yO rfl] at q6' ⊢;refine cM (he G2.objs.size s2 H2 fp _ s6' σ6 H6' _ I6' q6') λv s7 zz=>?_;let⟨y,H7,I7,r7,m',hm,w7⟩:=zz;let inD:(↑s2,({cls:=.type "list",data:=.seq its.toArray k}:Obj))∈Y.pn++([(↑s2,({cls:=.type "list",data:=.seq its.toArray k}:Obj))]++sE fp s5.heap):=by show _∈[]++_;simp
   let⟨pD,nD,neD,fD,dD⟩:=I7.pin _ inD;let hlen:=⇑rv3;refine wpAny_list_append_plain (items:=its.toArray) (hsz:=by rw[yb];ext) {(k),pD} λg8 pl8 sb8=>?_;let⟨k8,e8⟩:=pl8;let I7':Inv Y [] σ6 H7 s7:=I7.nI λp hp=>nomatch hp;let I8:Inv Y [] σ6 H7 {s7 with heap:=g8}:=I7'.turned (t':=s7.toks) (λb o hb e=>sb8.extBut b o hb e) nD neD (.inr (zm _)) (λx c e=>(cl2 x c e).2.2) (λp hp=>(nomatch (show p∈([]:List (vF×Obj)) from hp)));let e8':g8.get? ↑s2=some {cls:=.type "list",data:=.seq (its++[v]).toArray k8}:=by rw[e8];simp
   let fpD:∀b∈fp,∀o,s5.heap.get? b=some o->g8.get? b=some o:=λb hb o e=>sb8.extBut b o (below b (fplt b hb)).2 (I7.pin (b,o) (zI _ (zI _ (gg hb e)))).1;refine{m',hm,i+1,σ6,H7,xs++[y],its++[v],k8,I8.nI λp hp=>?_,T.keep _ _ _ st5 fpD,λb hb=>?_,rv3.append (.cons r7 .nil),w7}
   ·let e:p=(↑s2,{cls:=.type "list",data:=.seq (its++[v]).toArray k8}):=by simpa using hp
    subst e;exact{e8',nD,neD,fD,λv z=>by cases z}
   ·let⟨o,e,d⟩:=T.obj _ _ st5 b hb
    exact(I7.pin (b,o) (zI _ (zI _ (gg hb e)))).2.1
 exact codeAny_compStart_list (loop _) (T.self _ _ _ _ _ (T.keep _ _ _ st2 λb _ o e=>old b o e) (loop _))
def Mm {elt target iter:Expr} {scope:Scope} {N:List Str} {fr:List (Option Nat)} {cl:List (Str×vF)} {wi:TI} {g:TG} {tc:TT} {te:TE} {ifs:List Expr} (hc:X.calm=true) (hclos:closureFor scope X.env=pure cl) (hsub:∀x c,cl.lookup x=some c->X.env.cells.lookup x=some c) (hhas:∀C x,((compEnvC scope cl C X.env).kindOf x=some .cell\/(compEnvC scope cl C X.env).kindOf x=some .free)->(∃c,cl.lookup x=some c)\/∃c,(cellsFrom (C+1) scope.names []).lookup x=some c)
  (hlen:⇑fr=N.length) (hfr:∀(i:Nat) x j,N[i]?=some x->fr[i]?=some (some j)->X.N[j]?=some x/\TQ X.env.scope x/\X.env.kindOf x≠some .local/\(∀C,(compEnvC scope cl C X.env).kindOf x=some .cell\/(compEnvC scope cl C X.env).kindOf x=some .free)/\(∀c,X.env.cells.lookup x=some c->cl.lookup x=some c)/\∀C,(cellsFrom (C+1) scope.names []).lookup x=none) (hkind:scope.kind=.function)
  (hnames:∀y∈scope.names,y.2=.local->scope.names.lookup y.1=some .local) (hi:PI X target iter wi)
  (hg:∀C s₀ H₀ ex,PG (cO X N scope cl C s₀ H₀ ex) target g) (hif:∀C s₀ H₀ ex,Rn (cO X N scope cl C s₀ H₀ ex) ifs tc) (he:∀C s₀ H₀ ex,PE (cO X N scope cl C s₀ H₀ ex) elt te) (hs:(∀x,foldedSetIterable iter X.env x=pure x)<|>qd_) :
  PE X (.ListComp elt [{target,iter,ifs,0}] scope pos) (mK fr wi g tc te):=by
 intro pins s U H Q I h;rw[eval_ListComp];refine wpAny_comprehension_free (use:=none) (cl:=cl) rfl hs hclos hkind hnames (cM (hi pins s U H _ I h) λxv s1 h1=>cM h1 λitv s2 h2=>?_);let⟨it,fp,tn,J,H2,e,I2,T,st2,f2,ok⟩:=h2;subst e;refine BG (RR:=λacc C=>compPost (model X.prog X.w) X.A X.xe none (EP X pins U Q) acc C) hc hsub hhas hlen hfr hkind hg hif he I2 T st2 f2 ok ?_;intro D C s4 H' xs hD hC hne I4 nD nC ⟨m,hm⟩ qn;refine{m,hm,λg5 hs5=>{.ref D,upd H' D (.lst xs),I2.UM hC I4 (by rw[aE hne];exact nC) hs5,rfl,qn D nD}}
def Mh {elt target iter:Expr} {scope:Scope} {N:List Str} {fr:List (Option Nat)} {cl:List (Str×vF)} {wi:TI} {g:TG} {tc:TT} {te:TE} {ifs:List Expr} (hc:X.calm=true) (hclos:closureFor scope X.env=pure cl) (hsub:∀x c,cl.lookup x=some c->X.env.cells.lookup x=some c) (hhas:∀C x,((compEnvC scope cl C X.env).kindOf x=some .cell\/(compEnvC scope cl C X.env).kindOf x=some .free)->(∃c,cl.lookup x=some c)\/∃c,(cellsFrom (C+1) scope.names []).lookup x=some c)
  (hlen:⇑fr=N.length) (hfr:∀(i:Nat) x j,N[i]?=some x->fr[i]?=some (some j)->X.N[j]?=some x/\TQ X.env.scope x/\X.env.kindOf x≠some .local/\(∀C,(compEnvC scope cl C X.env).kindOf x=some .cell\/(compEnvC scope cl C X.env).kindOf x=some .free)/\(∀c,X.env.cells.lookup x=some c->cl.lookup x=some c)/\∀C,(cellsFrom (C+1) scope.names []).lookup x=none) (hkind:scope.kind=.function)
  (hnames:∀y∈scope.names,y.2=.local->scope.names.lookup y.1=some .local) (hi:PI X target iter wi)
  (hg:∀C s₀ H₀ ex,PG (cO X N scope cl C s₀ H₀ ex) target g) (hif:∀C s₀ H₀ ex,Rn (cO X N scope cl C s₀ H₀ ex) ifs tc) (he:∀C s₀ H₀ ex,PE (cO X N scope cl C s₀ H₀ ex) elt te) (hs:(∀x,foldedSetIterable iter X.env x=pure x)<|>qd_)  {i:Nat} {x:Str} {ps pa:Pos} (hN:X.N.Nodup) (hx1:X.N[i]?=some x) (hx2:Loc X.env.scope x) (hsw:swapsWith (.ListComp elt [{target,iter,ifs,0}] scope pos) (some (.Name x ps)) pa.line X.env=pure true<|>qe_)
  (hf:X.fn x=true\/X.env.scope.names.lookup x=some .local<|>qa_) :
  PS X (.Assign [.Name x ps] (.ListComp elt [{target,iter,ifs,0}] scope pos) pa) (Ca (mK fr wi g tc te) (bO i)):=by
 intro pins s U H D I h;rw[exec_Assign_Name_used _ _ _ _ hsw];refine yu (wpAny_standAt (yu ?_));show wpAny _ X.A (do let _ <-comprehension (.ListComp elt [{target,iter,ifs,0}] scope pos) scope X.env _ (newList []) false (eval iter X.env) (some (assign (.Name x ps) X.env))) _ _ s;refine yu (xg (wpAny_comprehension_free (use:=some (assign (.Name x ps) X.env)) (cl:=cl) (Q:=λ_ s'=>SP X pins D .next s') rfl hs hclos hkind hnames (cM (hi pins s U H _ I h) λxv s1 h1=>cM h1 λitv s2 h2=>?_)) (λ_ s' hq=>yw (yw hq)) λ_ _ e=>e);let⟨it,fp,tn,J,H2,e,I2,T,st2,f2,ok⟩:=h2;subst e;refine BG (RR:=λacc C=>compPost (model X.prog X.w) X.A X.xe (some (assign (.Name x ps) X.env)) (λ_ s'=>SP X pins D .next s') acc C) hc hsub hhas hlen hfr hkind hg hif he I2 T st2 f2 ok ?_;intro E C s4 H' xs hE hC hne I4 nE nC ⟨m,hm⟩ qn;show wpAny _ X.A (assign (.Name x ps) X.env (.ref E)) _ _ s4;refine wpAny_assign_Name (Dy I4 hN hx1 hx2 (v:=.ref E) rfl (λs5 I5 hw=>?_) hf);let⟨aw,sb,ha⟩:=hw;let hCn:(upd H' E (.lst xs)) C=none:=by rw[aE hne];exact nC
 let⟨f0,f1,f2',f3,f4,f5⟩:=I2.uT hC hCn;let neC:C≠aw:=by
  rcases ha with z | z
  ·rw[z];exact f1
  ·exact λq=>f4 x aw z q.symm
 refine{m,hm.sameBut sb neC,λg6 hs6=>?_};exact{_,_,I2.UM hC I5 hCn hs6,qn E nE}
end
def Gb (cells:List (Str×vF)):List (Str×vF)->Prop
 | []=>True
 | p::r=>cells.lookup p.1=some p.2/\Gb cells r
theorem Gb.sub:∀{cl:List (Str×vF)},Gb cells cl->∀x c,cl.lookup x=some c->cells.lookup x=some c
 | [],_,x,c,e=>by cases e
 | (y,d)::r,h,x,c,e=>by
  rw[yq] at e;split at e
  ·rename_i q
   cases e;rw[eq_of_beq q];exact h.1
  ·exact Gb.sub h.2 x c e
def Nk (X:Cx) (scope:Scope) (cl:List (Str×vF)):List Str->List Nat->Prop
 | [],[]=>True
 | y::ys,j::js=>(X.N[j]?=some y/\(X.env.kindOf y=some .cell\/X.env.kindOf y=some .free)/\((relabel scope X.env).names.lookup y=some .cell\/(relabel scope X.env).names.lookup y=some .free)/\∃c,X.env.cells.lookup y=some c/\cl.lookup y=some c)/\Nk X scope cl ys js
 | _,_=>False
theorem Nk.len:∀{ys:List Str} {js:List Nat},Nk X scope cl ys js->⇑js=⇑ys
 | [],[],_=>rfl
 | _::_,_::_,h=>by rw[zv,zv,Nk.len h.2]
 | [],_::_,h=>h.elim
 | _::_,[],h=>h.elim
theorem Nk.get:∀{ys:List Str} {js:List Nat} {i:Nat} {y:Str} {j:Nat},Nk X scope cl ys js->ys[i]?=some y->js[i]?=some j->
  X.N[j]?=some y/\(X.env.kindOf y=some .cell\/X.env.kindOf y=some .free)/\((relabel scope X.env).names.lookup y=some .cell\/(relabel scope X.env).names.lookup y=some .free)/\∃c,X.env.cells.lookup y=some c/\cl.lookup y=some c
 | [],_,_,_,_,_,e,_=>by simp at e
 | _::_,[],_,_,_,h,_,_=>h.elim
 | y::ys,j::js,0,_,_,h,e,e'=>by simp at e e';subst e e';exact h.1
 | y::ys,j::js,i+1,_,_,h,e,e'=>Nk.get (i:=i) h.2 (by simpa using e) (by simpa using e')
theorem Kk:∀{names:List (Str×NameKind)} {n:Nat} {x:Str} {c:vF},(cellsFrom n names []).lookup x=some c->(x,NameKind.cell)∈names
 | [],_,_,_,e=>by cases e
 | (y,k)::r,n,x,c,e=>by
  unfold cellsFrom at e;split at e
  ·rename_i hk
   rw[dg,wD] at e;cases q:(cellsFrom (n+1) r []).lookup x with
   | some d=>exact zp _ (Kk q)
   | none=>
    rw[q] at e;let e':([(y,n)]:List (Str×vF)).lookup x=some c:=e;rw[yq] at e';split at e'
    ·rename_i z
     rw[eq_of_beq z,eq_of_beq hk];exact zr
    ·cases e'
  ·exact zp _ (Kk e)
theorem Kl:∀{names:List (Str×NameKind)} {n:Nat} {x:Str},(x,NameKind.cell)∈names->∃c,(cellsFrom n names []).lookup x=some c
 | [],_,_,h=>by cases h
 | (y,k)::r,n,x,h=>by
  unfold cellsFrom;split
  ·rw[dg,wD]
   cases q:(cellsFrom (n+1) r []).lookup x with
   | some d=>exact{(d),rfl}
   | none=>
    rcases zD.mp h with h | h
    ·let⟨e1,_⟩:=Prod.mk.inj h
     exact{n,by show([(y,n)]:List (Str×vF)).lookup x=some n;rw[e1,yq,wk]}
    ·let⟨c,e⟩:=Kl (n:=n+1) h
     rw[q] at e;cases e
  ·rename_i hk
   rcases zD.mp h with h | h
   ·cases h;exact absurd rfl hk
   ·exact Kl h
theorem tV:∀{L:List (Str×NameKind)} {x:Str} {k:NameKind},L.lookup x=some k->(x,k)∈L
 | [],_,_,h=>by cases h
 | (y,j)::r,x,k,h=>by
  rw[yq] at h;split at h
  ·rename_i q;cases h;rw[eq_of_beq q];exact zr
  ·exact zp _ (tV h)
section
variable {X:Cx} {pos:Pos} {elt target iter:Expr} {ifs:List Expr} {scope:Scope} {ts ys:List Str} {js:List Nat} {cl:List (Str×vF)} {wi:TI} {g:TG} {tc:TT} {te:TE}
def Ee (hcl:Gb X.env.cells cl) (hLo:((relabel scope X.env).names.all λp=>(p.2 != .cell&&p.2 != .free)||ys.contains p.1||scope.names.contains (p.1,.cell))=true) (hno:∀p∈scope.names,p.2=.cell->p.1∉ys) (hfr:Nk X scope cl ys js) :
  (∀(C:vF) x,((compEnvC scope cl C X.env).kindOf x=some .cell\/(compEnvC scope cl C X.env).kindOf x=some .free)->(∃c,cl.lookup x=some c)\/∃c,(cellsFrom (C+1) scope.names []).lookup x=some c)/\
  ⇑(ts.map (λ_=>(none:Option Nat))++js.map some)=⇑(ts++ys)/\
  (∀(i:Nat) x j,(ts++ys)[i]?=some x->(ts.map (λ_=>(none:Option Nat))++js.map some)[i]?=some (some j)->X.N[j]?=some x/\TQ X.env.scope x/\X.env.kindOf x≠some .local/\(∀C,(compEnvC scope cl C X.env).kindOf x=some .cell\/(compEnvC scope cl C X.env).kindOf x=some .free)/\(∀c,X.env.cells.lookup x=some c->cl.lookup x=some c)/\∀C,(cellsFrom (C+1) scope.names []).lookup x=none):=by
 refine{λC x hx=>?_,by simp[Nk.len hfr],λi x j h1 h2=>?_}
 ·let key:∀k,(relabel scope X.env).names.lookup x=some k->(k=.cell\/k=.free)->(∃c,cl.lookup x=some c)\/∃c,(cellsFrom (C+1) scope.names []).lookup x=some c:=λk hk hk'=>by
   have:=(yp.mp hLo) _ (tV hk);rw[Bool.or_eq_true,Bool.or_eq_true] at this;rcases this with(z | z) | z
   ·rcases hk' with rfl | rfl <;> simp at z
   ·let hm:x∈ys:=List.contains_iff_mem.mp z
    let⟨n,hn⟩:=List.getElem?_of_mem hm;let hl:n<⇑js:=by rw[hfr.len];exact(zy.mp hn).1
    let⟨_,_,_,c,_,e⟩:=hfr.get hn (zd hl);exact .inl {(c),e}
   ·exact .inr (Kl (List.contains_iff_mem.mp z))
  rcases hx with hx | hx
  ·exact key _ hx (.inl rfl)
  ·exact key _ hx (.inr rfl)
 ·let hi:⇑ts<=i:=by
   rcases xI i ⇑ts with h | h
   ·rw[wq (by simpa using h),zK] at h2
    cases q:ts[i]? with
    | none=>rw[q] at h2;cases h2
    | some z=>rw[q] at h2;cases h2
   ·exact h
  rw[z9 hi] at h1;rw[z9 (by simpa using hi),za,zK] at h2;let h2':js[i-⇑ts]?=some j:=by
   cases q:js[i-⇑ts]? with
   | none=>rw[q] at h2;cases h2
   | some z=>rw[q] at h2;cases h2;rfl
  let⟨k1,k2,k3,c,k4,k5⟩:=hfr.get h1 h2';refine{k1,.inr k2,λz=>?_,λC=>k3,λd hd=>?_,λC=>?_}
  ·rcases k2 with k2 | k2 <;> (rw[z] at k2;cases k2)
  ·rw[k4] at hd;cases hd;exact k5
  ·cases q:(cellsFrom (C+1) scope.names []).lookup x with
   | none=>rfl
   | some d=>exact absurd (zC h1) (hno _ (Kk q) rfl)
def OF (hc:X.calm=true) (hclos:closureFor scope X.env=pure cl) (hcl:Gb X.env.cells cl) (hLo:((relabel scope X.env).names.all λp=>(p.2 != .cell&&p.2 != .free)||ys.contains p.1||scope.names.contains (p.1,.cell))=true) (hno:∀p∈scope.names,p.2=.cell->p.1∉ys) (hfr:Nk X scope cl ys js) (hkind:scope.kind=.function)
  (hnames:∀y∈scope.names,y.2=.local->scope.names.lookup y.1=some .local) (hi:PI X target iter wi)
  (hg:∀C s₀ H₀ ex,PG (cO X (ts++ys) scope cl C s₀ H₀ ex) target g) (hif:∀C s₀ H₀ ex,Rn (cO X (ts++ys) scope cl C s₀ H₀ ex) ifs tc) (he:∀C s₀ H₀ ex,PE (cO X (ts++ys) scope cl C s₀ H₀ ex) elt te) (hs:(∀x,foldedSetIterable iter X.env x=pure x)<|>qd_) :
  PE X (.ListComp elt [{target,iter,ifs,0}] scope pos) (mK (ts.map (λ_=>none)++js.map some) wi g tc te):=by
 let⟨a,b,c⟩:=Ee (ts:=ts) hcl hLo hno hfr;exact Mm hc hclos hcl.sub a b c hkind hnames hi hg hif he hs
def Ou (hc:X.calm=true) (hclos:closureFor scope X.env=pure cl) (hcl:Gb X.env.cells cl) (hLo:((relabel scope X.env).names.all λp=>(p.2 != .cell&&p.2 != .free)||ys.contains p.1||scope.names.contains (p.1,.cell))=true) (hno:∀p∈scope.names,p.2=.cell->p.1∉ys) (hfr:Nk X scope cl ys js) (hkind:scope.kind=.function)
  (hnames:∀y∈scope.names,y.2=.local->scope.names.lookup y.1=some .local) (hi:PI X target iter wi)
  (hg:∀C s₀ H₀ ex,PG (cO X (ts++ys) scope cl C s₀ H₀ ex) target g) (hif:∀C s₀ H₀ ex,Rn (cO X (ts++ys) scope cl C s₀ H₀ ex) ifs tc) (he:∀C s₀ H₀ ex,PE (cO X (ts++ys) scope cl C s₀ H₀ ex) elt te) (hN:X.N.Nodup) (hx1:X.N[i]?=some x) (hx2:Loc X.env.scope x) (hs:(∀x,foldedSetIterable iter X.env x=pure x)<|>qd_) (hsw:swapsWith (.ListComp elt [{target,iter,ifs,0}] scope pos) (some (.Name x ps)) pa.line X.env=pure true<|>qe_)
  (hf:X.fn x=true\/X.env.scope.names.lookup x=some .local<|>qa_) :
  PS X (.Assign [.Name x ps] (.ListComp elt [{target,iter,ifs,0}] scope pos) pa) (Ca (mK (ts.map (λ_=>none)++js.map some) wi g tc te) (bO i)):=by
 let⟨a,b,c⟩:=Ee (ts:=ts) hcl hLo hno hfr;exact Mh hc hclos hcl.sub a b c hkind hnames hi hg hif he hs hN hx1 hx2 hsw hf
end
def Jc (n:Nat) (f:Nat->List V) (Pv:Nat->St->Hp->Prop) (i m:Nat) (xs:List V) (U:St) (H:Hp):Prop:=m=n-i/\i<=n/\xs=f i/\Pv i U H
def Jc.push (hi:i<n) (e:f (i+1)=f i++[y]) (p:Pv (i+1) U H):∃m',m'<n-i/\Jc n f Pv (i+1) m' (f i++[y]) U H:={n-(i+1),(),rfl,hi,e.symm,p}
def Jc.skip (hi:i<n) (e:f (i+1)=f i) (p:Pv (i+1) U H):∃m',m'<n-i/\Jc n f Pv (i+1) m' (f i) U H:={n-(i+1),(),rfl,hi,e.symm,p}
def m8 (n:Nat) (f:Nat->List V) (Pv:Nat->St->Hp->Prop) (hz:∀i,i<=n->⇑(f i)<=i) (hn:n<=sizeLine) (f0:f 0=[]) (h0:Pv 0 U₀ H1)
  (go:∀i U H,i<n->Pv i U H->J.go i H) (stop:∀U H,Pv n U H->J.stop n H)
  (turn:∀i x U H H2,i<n->Pv i U H->J.Jg i H x H2->g x U H2 λσ3 H3=>tc σ3 H3 λb H4=>if b=true then te σ3 H4 λy H5=>∃m',m'<n-i/\Jc n f Pv (i+1) m' (f i++[y]) σ3 H5 else∃m',m'<n-i/\Jc n f Pv (i+1) m' (f i) σ3 H4)
  (fin:∀U H,Pv n U H->∀D,H D=none->Q (.ref D) (upd H D (.lst (f n)))):cP U₀ g tc te Q J H1:=by
 refine{Jc n f Pv,{n,by simp,yg _,f0.symm,h0},?_};rintro i m xs U H ⟨rfl,hi,rfl,p⟩;have:=hz i hi;rcases xI i n with hlt | hge
 ·exact .inr {go i U H hlt p,(),λx H2 y=>turn i x U H H2 hlt p y}
 ·let e:i=n:=()
  subst e;exact .inl {stop U H p,(),fin U H p}
section
variable {X:Cx}
def E1 (bs:List Bool):((List.range ⇑bs).any λi=>(bs[i]?).getD false)=bs.any id:=by
 rw[xO,yo,yo];constructor
 ·rintro⟨i,hi,e⟩
  let hi':=yS.mp hi;rw[zd hi'] at e;exact{_,ym hi',e}
 ·rintro⟨b,hb,e⟩
  let⟨i,hi,e'⟩:=List.mem_iff_getElem.mp hb;exact{i,yS.mpr hi,by rw[zd hi,e'];exact e}
def gw (hc:X.calm=true):fk X (.builtin "any") (λxs H Q=>∃(a:vF) (bs:List Bool),xs=[.ref a]/\aH X.K H a (bs.map V.bl)/\Q (.bl (bs.any id)) H):=by
 intro pins s U H xs us Q I r h;let⟨a,bs,e,hq,q⟩:=h;subst e;cases r with
 | cons r rr=>
  cases rr;cases r;let⟨its,rv,p,hz⟩:=I.list hq;let hlt:a<↑s:=by let⟨o,n,e,_⟩:=p;exact yy e
  let hlen:⇑bs=⇑its:=by have:=⇑rv;rw[za] at this;exact this
  refine call_any_walk (wL p.isList ?_);refine{↑s,[↑s,a],[↑s],its.toArray.size,_,_,λi=>(bs[i]?).getD false,rfl,Walks.list (A:=X.A.in1) (I.ok.hd hc) _ a (yj hlt) its.toArray,
   {{_,yx _ rfl,rfl,rfl},p.isList.push _},λi v s' Q' E' hP hQ=>?_,λh' tk hk=>?_}
  ·let hP':its[i]?=some v:=by simpa using hP
   let hi:i<⇑bs:=by rw[hlen];exact(zy.mp hP').1
   let hm:(bs.map V.bl)[i]?=some (.bl bs[i]):=by rw[zK,zd hi];rfl
   let⟨u,hu,ru⟩:=rv.get hm;rw[hP'] at hu;cases hu;cases ru;dsimp only at hQ;rw[zd hi] at hQ;exact xi hQ
  ·let e:((List.range its.toArray.size).any λi=>(bs[i]?).getD false)=bs.any id:=by rw[yb,<-hlen];exact E1 bs
   rw[e];exact{.bl _,H,I.kept λb o x=>hk b o (λhm=>by rw[zA.mp hm] at x;exact yf _ (yy x)) (yv _ x),rfl,q}
def tT (ns:List Int):∀k,k<=⇑ns->preSum (λi=>(ns[i]?).getD 0) k=(ns.take k).sum:=by
 intro k
 induction k with
 | zero=>intro _;simp[preSum]
 | succ k ih=>
  intro hk;let hk':k<⇑ns:=hk;let e:=ih (yh hk');rw[List.take_succ,List.sum_append,<-e,zd hk'];simp[preSum,zd hk']
def MY (hc:X.calm=true):fk X (.builtin "sum") (λxs H Q=>∃(a:vF) (ns:List Int),xs=[.ref a]/\aH X.K H a (ns.map V.int)/\(∀n∈ns,0<=n/\n<1000000)/\⇑ns<=1000/\Q (.int ns.sum) H):=by
 intro pins s U H xs us Q I r h;let⟨a,ns,e,hq,hb,hl,q⟩:=h;subst e;cases r with
 | cons r rr=>
  cases rr;cases r;let⟨its,rv,p,hz⟩:=I.list hq;let hlt:a<↑s:=by let⟨o,n,e,_⟩:=p;exact yy e
  let hlen:⇑ns=⇑its:=by have:=⇑rv;rw[za] at this;exact this
  let bnd:∀k,k<=⇑ns->0<=(ns.take k).sum/\(ns.take k).sum<=1000000*k:=by
   intro k
   induction k with
   | zero=>intro _;simp
   | succ k ih=>
    intro hk;let hk':k<⇑ns:=hk;have:=ih (yh hk');rw[List.take_succ,List.sum_append,zd hk'];let hb':=hb _ (ym hk');simp only[Option.toList_some,wX,List.sum_nil];ext
  refine call_sum_walk (wL p.isList ?_);refine{↑s,[↑s,a],[↑s],its.toArray.size,_,_,λi=>(ns[i]?).getD 0,rfl,Walks.list (A:=X.A.in1) (I.ok.hd hc) _ a (yj hlt) its.toArray,
   {{_,yx _ rfl,rfl,rfl},p.isList.push _},λb hb'=>?_,λi v hP=>?_,λj hj=>?_,λh' tk t' hk=>?_}
  ·rw[xm]
   rcases zD.mp hb' with e | e
   ·rw[e];exact xR _
   ·rw[zA.mp e];exact wM hlt
  ·let hP':its[i]?=some v:=by simpa using hP
   let hi:i<⇑ns:=by rw[hlen];exact(zy.mp hP').1
   let hm:(ns.map V.int)[i]?=some (.int ns[i]):=by rw[zK,zd hi];rfl
   let⟨u,hu,ru⟩:=rv.get hm;rw[hP'] at hu;cases hu;dsimp only;rw[zd hi];exact ru
  ·let hj':j<⇑ns:=by rw[hlen];simpa using hj
   let b1:=hb _ (ym hj');let b2:=bnd (j+1) hj';rw[tT ns (j+1) hj'];dsimp only;rw[zd hj'];simp only[Option.getD_some];constructor <;> (unfold InLong;ext)
  ·let e:preSum (λi=>(ns[i]?).getD 0) its.toArray.size=ns.sum:=by rw[yb,<-hlen,tT ns _ (zm _),zN]
   rw[e];exact{.int _,H,I.kept λb o x=>hk b o (λhm=>by rw[zA.mp hm] at x;exact yf _ (yy x)) (yv _ x),{_,rfl},q}
end
section
variable {prog:vB} {w:vC} {A:vD} {E:vz->vA->Prop} {s:vA}
def C6 (hl:IsTup s.heap l vs.toArray)
  (h:Q vs {s with heap:=(s.heap.push (seqObj "list" #[] 0)).update ↑s (Obj.mapSeq (·++vs.toArray))}) (hsz:⇑vs<=sizeLine) :
  wpAny (model prog w) A (collect (.ref l)) Q E s:=by
 let⟨o,ho,hc,n,hd⟩:=id hl;unfold collect;refine yu (wpAny_runValue (xX entry_proto_collect' ?_));show wpAny _ _ (do again (.builtin "list.__iadd__" {[<-newList [],.ref l],[]})) _ _ s;refine yu (wpAny_newList (yw {Code.quiet_builtin _ (by decide +kernel),xX entry_list_iadd' ?_}));show wpAny _ _ (Builtin.List.listExtendWith (.ref ↑s) (.ref l) (.ref ↑s)) _ _ {s with heap:=s.heap.push (seqObj "list" #[] 0)};unfold Builtin.List.listExtendWith;let ho':(s.heap.push (seqObj "list" #[] 0)).get? l=some o:=yv _ ho;refine yu (vj (T:="tuple") {(o),ho',hc} ?_);let ht:(Value.type "tuple"== Value.type "tuple")=true:=by rfl
 rw[yO (by rw[ht];simp)];refine yu (listItems_at ho' hd ?_);refine yu (listItems_at (xs:=#[]) (n:=0) (yx _ rfl) rfl ?_);rw[yN (by simp)];refine yu (listUpdate_at (xs:=#[]) (n:=0) (yx _ rfl) rfl ?_ (yg _) (by show(#[]++vs.toArray).size<=sizeLine+1;simp only[Array.size_append,yb,xq];ext));refine yw ?_;show wpAny (model prog w) A (do
   let o <-load ↑s
   match o.data with
   | .seq xs _=>pure xs.toList
   | _=>unsupported "internal:collect") Q E {s with heap:=(s.heap.push (seqObj "list" #[] 0)).update ↑s (Obj.mapSeq (·++vs.toArray))}
 refine yu (wpAny_load (get?_update_seq (yx _ rfl) _) ?_);show wpAny _ _ (pure ((#[]:Array vz)++vs.toArray).toList) Q E _;rw[show((#[]:Array vz)++vs.toArray).toList=vs by simp];exact yw h
def Ju (hl:IsTup s.heap l vs.toArray) (hI:IntsAre vs ns) (h64:⇑vs<64)
  (h:∀(out:Array vz) (ns':List Int),IntsAre out.toList ns'->ns'.Perm ns->ns'.Pairwise (·<=·)->Q (.ref (↑s+1)) {s with heap:=sortedAll s.heap vs out}) :
  wpAny (model prog w) A (call (.builtin "sorted") [.ref l]) Q E s:=by
 refine Calls.call_function_entry kind_sorted plain_sorted entry_sorted (args_sorted1 _) ?_;unfold Builtin.«sorted»;refine yu (m:=checkCount "sorted" 1 1 _) (yw ?_);refine yu (C6 hl ?_ (by rw[yC];ext));refine yu (wpAny_newList ?_);let hsz:((s.heap.push (seqObj "list" #[] 0)).update ↑s (Obj.mapSeq (·++vs.toArray))).objs.size=↑s+1:=by
  rw[Heap.size_update,size_push']
 let hoL:(((s.heap.push (seqObj "list" #[] 0)).update ↑s (Obj.mapSeq (·++vs.toArray))).push (seqObj "list" vs.toArray 0)).get? (↑s+1)=some (seqObj "list" vs.toArray 0):=by
  rw[<-hsz];exact yx _ rfl
 show wpAny _ _ _ _ _ {s with heap:=((s.heap.push (seqObj "list" #[] 0)).update ↑s (Obj.mapSeq (·++vs.toArray))).push (seqObj "list" vs.toArray 0)};rw[hsz];refine yu (xJ (xb slot_list_sort {_,hoL,rfl} entry_list_sort (list_sort_tree hoL hI h64 λout ns' a1 a2 a3=>{_,rfl,?_}) (args_list_sort _)));exact yw {_,rfl,h out ns' a1 a2 a3}
def Cm (h:vG) (vs:List vz) (out:Array vz):∃n,(sortedAll h vs out).get? (h.objs.size+1)=some {cls:=.type "list",data:=.seq out n}:=by
 let hsz:((h.push (seqObj "list" #[] 0)).update h.objs.size (Obj.mapSeq (·++vs.toArray))).objs.size=h.objs.size+1:=by rw[Heap.size_update,size_push']
 let h1:(((h.push (seqObj "list" #[] 0)).update h.objs.size (Obj.mapSeq (·++vs.toArray))).push (seqObj "list" vs.toArray 0)).get? (h.objs.size+1)=some (seqObj "list" vs.toArray 0):=by
  rw[<-hsz];exact yx _ rfl
 unfold sortedAll sortedHeap;let h2:=get?_update_seq h1 (λ_=>#[]);let h3:=yv (seqObj "list" #[] 0) (yv (seqObj "tuple" vs.toArray 0) h2);exact{_,get?_update_seq h3 (λ_=>out)}
def uB (h:vG) (vs:List vz) (out:Array vz) (b:vF) (o:Obj) (e:h.get? b=some o):(sortedAll h vs out).get? b=some o:=by
 let hb:b<h.objs.size:=yy e;unfold sortedAll sortedHeap;let n1:h.objs.size≠b:=yi hb;let n2:h.objs.size+1≠b:=yi (wM hb);rw[yz _ _ n2];refine yv _ (yv _ ?_);rw[yz _ _ n2];refine yv _ ?_;rw[yz _ _ n1];exact yv _ e
end
theorem pP:∀{us:List vz} {ns:List Int},IntsAre us ns->Vals (ns.map V.int) us
 | _,_,.nil=>.nil
 | _,_,.cons r t h=>.cons {_,rfl} (pP h)
section
variable {X:Cx}
def rC:fk X (.builtin "sorted") (λxs H Q=>∃(a:vF) (ns:List Int),xs=[.ref a]/\(aH X.K H a (ns.map V.int)\/cU X.K H a (ns.map V.int))/\⇑ns<64/\∀ns':List Int,ns'.Perm ns->ns'.Pairwise (·<=·)->∀l,H l=none->Q (.ref l) (upd H l (.lst (ns'.map V.int)))):=by
 intro pins s U H xs us Q I r h;let⟨a,ns,rfl,hq,h64,q⟩:=h;let⟨u,rfl,rx⟩:=vals1 r;cases rx;let fin:∀(its:List vz),⇑ns=⇑its->∀(out:Array vz) (ns':List Int),IntsAre out.toList ns'->ns'.Perm ns->ns'.Pairwise (·<=·)->EP X pins U Q (.ref (↑s+1)) {s with heap:=sortedAll s.heap its out}:=λits hl out ns' a1 a2 a3=>by
  let⟨n,hn⟩:=Cm s.heap its out;refine{.ref _,_,I.laid (t':=s.toks) (a:=↑s+1) (o:=.lst (ns'.map V.int)) (uB s.heap its out) (x9 _) ?_,rfl,q ns' a2 a3 _ (I.bZ.fresh (x9 _))};refine{by rw[za,a2.length_eq,yC];ext,out.toList,n,pP a1,by simpa using hn}
 rcases hq with hq | hq
 ·let⟨its,rv,p,_⟩:=I.list hq
  let hl:⇑ns=⇑its:=by have:=⇑rv;rw[za] at this;exact this
  exact sorted_ints p.isList (intsAre_of rv) () (fin its hl)
 ·let⟨its,rv,p,_⟩:=I.tuple hq
  let hl:⇑ns=⇑its:=by have:=⇑rv;rw[za] at this;exact this
  exact Ju p (intsAre_of rv) () (fin its hl)
theorem KU:∀{zs:List Str} {us:List vz},Vals (zs.map V.str) us->∃l:List (Str×Tok),us=strValues l/\l.map (·.1)=zs
 | [],_,.nil=>{[],rfl,rfl}
 | z::zs,_,.cons ⟨t,e⟩ r=>by
  let⟨l,e1,e2⟩:=KU r;subst e e1 e2;exact{(z,t)::l,rfl,rfl}
def rJoin (K:yB):V->List V->Hp->VK->Prop:=λx vs H Q=>∃(sep:Str) (a:vF) (zs:List Str),x=.str sep/\vs=[.ref a]/\aH K H a (zs.map V.str)/\(zs.map (λz:Str=>⇑z+⇑sep)).sum<=sizeLine/\Q (.str (Str.join sep zs)) H
theorem HZ (sep:Str):∀(zs:List Str) (k:Nat),zs.foldl (λn z=>n+⇑z+⇑sep) k=k+(zs.map (λz:Str=>⇑z+⇑sep)).sum
 | [],k=>by simp
 | z::zs,k=>by
  rw[List.foldl_cons,HZ sep zs,zj,wX];ext
theorem KR (sep:Str):∀zs:List Str,(zs.map (·.length)).sum+⇑zs*⇑sep=(zs.map (λz:Str=>⇑z+⇑sep)).sum
 | []=>by simp
 | z::zs=>by
  let ih:=KR sep zs;simp only[zj,wX,zv,Nat.succ_mul] at ih ⊢;ext
def gA:RW X "str.join" (rJoin X.K):=by
 intro pins s U H x vs v us Q I rx rv h;let⟨sep,a,zs,rfl,rfl,hq,hz,q⟩:=h;let⟨tk,rfl⟩:=rx;let⟨u,rfl,ru⟩:=rv.one;cases ru;let⟨its,ri,p,_⟩:=I.list hq;let⟨l,e1,e2⟩:=KU ri;subst e1;let hl:Builtin.Str.tooLong ((l.map (·.1)).toArray.foldl (·+·.length+⇑sep) 0)=false:=by
  rw[e2,List.foldl_toArray,HZ,Nat.zero_add];exact ze ()
 let hj:Builtin.Str.glued sep (l.map (·.1))=Str.join sep zs:=by rw[e2];exact StrLaws.glued_eq_join sep zs
 let jl:⇑(Str.join sep zs)<=sizeLine:=by
  exact zM (StrLaws.join_length_le sep zs) (zM (Nat.le_of_eq (KR sep zs)) hz)
 refine wB F.slot_str_join (wR s sep tk) F.entry_str_join (F.args_str_join_2 _ _) (meets_str_join_list sep tk a l hl) {p.isList,?_}
 match l,e2,hj with
 | [],e2,hj=>
  subst e2;exact{by rw[hj];exact jl,.str _,H,I.tok _,{_,rfl},by rw[hj];exact q}
 | [z],e2,hj=>
  subst e2;exact{.str _,H,I,{_,rfl},q}
 | z::z'::r,e2,hj=>
  subst e2;exact{by rw[hj];exact jl,.str _,H,I.tok _,{_,rfl},by rw[hj];exact q}
def oX (x:Str) (n:Nat):Str:={(List.replicate n x.cps).foldl (·++·) #[]}
def RG:R2:=λx y H Q=>∃(t:Str) (n:Int),x=.str t/\y=.int n/\0<=n/\n<=1000/\⇑t<=1000/\Q (.str (oX t n.toNat)) H
def qk (x:Str) (n:Nat):(oX x n).cps.toList=(List.replicate n x.cps.toList).flatten:=by
 let key:∀(n:Nat) (a:Array Nat),((List.replicate n x.cps).foldl (·++·) a).toList=a.toList++(List.replicate n x.cps.toList).flatten:=by
  intro n
  induction n with
  | zero=>intro a;simp
  | succ n ih=>intro a;rw[List.replicate_succ,List.foldl_cons,ih,List.replicate_succ,ya];simp
 have:=key n #[];show((List.replicate n x.cps).foldl (·++·) #[]).toList=_;rw[this];rfl
def Hi (x:Str) (n:Nat):⇑(oX x n)=n*⇑x:=by
 let e:⇑(oX x n)=⇑(oX x n).cps.toList:=yQ.symm;rw[e,qk];let e2:⇑x.cps.toList=⇑x:=yQ;simp[e2]
def Oc (x:Str):oX x 1=x:=kP (by rw[qk];simp)
def QL:ng X (binaryOp .Mult) RG:=by
 intro pins s U H x y v u Q I rx ry h;let⟨t,n,rfl,rfl,h0,h1,hl,q⟩:=h;let⟨tk,rfl⟩:=rx;let⟨tk',rfl⟩:=ry;let sl:=yC;let hm:⇑t*n.toNat<=1000000:=by
  have:⇑t*n.toNat<=1000*1000:=wI hl ();ext
 refine P.mul_str (by rw[ze (),ze ()];rfl) (λh2 _=>?_) (λ_ _=>ze ()) ?_
 ·have:(2^63-1)/1000<=((2:Int)^63-1)/n:=by
   rw[Int.le_ediv_iff_mul_le ()];have:n*9223372036854775<=1000*9223372036854775:=wV h1 ∅;ext
  ext
 ·by_cases c1:n<1
  ·let e:n.toNat=0:=()
   rw[yO c1];rw[e] at q;exact{∅,.str _,H,I.tok _,{_,rfl},q}
  ·rw[yN c1]
   refine post_val_or_str {?_,λt' k=>{.str _,H,I.tok _,{_,rfl},?_}}
   ·split
    ·ext
    ·have:=Hi t n.toNat
     let e:n.toNat*⇑t=⇑t*n.toNat:=Nat.mul_comm _ _;show(oX t n.toNat).length<=sizeLine;ext
   ·let ee:(if(n == 1||⇑t == 0)=true then t else oX t n.toNat)=oX t n.toNat:=by
     split
     ·rename_i c2
      rw[Bool.or_eq_true,vk,vk] at c2;rcases c2 with rfl | c2
      ·exact(Oc t).symm
      ·refine kP ?_
       let e2:t.cps.toList=[]:=yt.mp (by rw[yQ];exact c2);rw[qk,e2];simp
     ·rfl
    show Q (.str (if(n == 1||⇑t == 0)=true then t else oX t n.toNat)) H;rw[ee];exact q
end
def KD (P:vB) (w:vC) (K:yB) (a:vF) (kvs:List (Str×V)):Prop:=
 (a == sysModules)=false/\(kvs.map (·.1)).Nodup/\∀h:vG,K.In h->∃vs:List (Key×vz),KV (kvs.map λp=>((Sum.inr p.1:Key),p.2)) vs/\h.DictOf (cX P w) a vs
def Ij (Pm:Params) (l:List (Str×Tok×vF)):List DictEntry:=l.map λp=>{PyData.keyHash Pm p.1,.str p.1 p.2.1,.ref p.2.2}
theorem ON:∀{l:List Str},l.Nodup->(l.map (Sum.inr:Str->Key)).Nodup
 | [],_=>wa
 | x::r,h=>by
  rw[yd] at h;rw[zj,yd];exact{λz=>by let⟨y,hy,e⟩:=zH.mp z;exact h.1 (w6 e▸hy),ON h.2}
def UN {P:vB} {w:vC} {K:yB} {a:vF} {l:List (Str×Tok×vF)} {n:Nat} (hl:K.lookup a=some {cls:=.type "dict",data:=.dict (Ij w.params l).toArray n}) (hs:(a == sysModules)=false) (nd:(l.map (·.1)).Nodup) :
  KD P w K a (l.map λp=>(p.1,V.ref p.2.2)):=by
 let e1:(l.map λp=>(p.1,V.ref p.2.2)).map (·.1)=l.map (·.1):=by rw[zB];rfl
 refine{hs,by rw[e1];exact nd,λh X=>{l.map λp=>(Sum.inr p.1,.ref p.2.2),?_,_,_,_,X _ _ hl,{(rfl),rfl,rfl},rfl,?_,?_,?_}}
 ·clear hl nd e1
  induction l with
  | nil=>exact .nil
  | cons p r ih=>exact .cons {(rfl),rfl} ih
 ·intro e he
  rw[List.mem_toArray] at he;let⟨p,_,rfl⟩:=zH.mp he;exact{Sum.inr p.1,nQ p.1 p.2.1,rfl}
 ·show PySem.Pairs _ (Ij w.params l) _
  clear hl nd e1
  induction l with
  | nil=>exact .nil
  | cons p r ih=>exact .cons (nQ p.1 p.2.1) rfl ih
 ·let e2:(l.map λp=>((Sum.inr p.1:Key),(Value.ref p.2.2))).map (·.1)=(l.map (·.1)).map Sum.inr:=by rw[zB,zB];rfl
  rw[e2];exact ON nd
def rN (kvs:List (Str×V)) (k:Str):Option V:=(kvs.find? λp=>decide (p.1=k)).map (·.2)
theorem JY:∀{kvs:List (Str×V)} {vs:List (Key×vz)} (k:Str),KV (kvs.map λp=>((Sum.inr p.1:Key),p.2)) vs->lR (rN kvs k) (valueAt vs (Sum.inr k))
 | [],_,_,.nil=>trivial
 | (x,v)::r,_,k,.cons (b:=b) h t=>by
  let⟨h1,h2⟩:=h;let⟨bk,bv⟩:=b;dsimp only at h1 h2;subst h1
  by_cases e:x=k
  ·subst e
   simp only[rN,valueAt,yT,decide_true];exact h2
  ·let ih:=JY k t
   let e':¬((Sum.inr x:Key)=Sum.inr k):=λz=>e (w6 z);simp only[rN,valueAt,yT,e,e',decide_false] at ih ⊢;exact ih
def Sl (P:vB) (w:vC) (K:yB) (td ty:TE):TE:=λU H Q=>td U H λx H1=>ty U H1 λy H2=>∃a kvs k v,x=.ref a/\KD P w K a kvs/\y=.str k/\rN kvs k=some v/\Q v H2
def Us (P:vB) (w:vC) (K:yB) (b:Bool) (ty td:TE):TE:=λU H Q=>ty U H λy H1=>td U H1 λx H2=>∃a kvs k,x=.ref a/\KD P w K a kvs/\y=.str k/\Q (.bl (b ^^ (rN kvs k).isSome)) H2
section
variable {X:Cx} {pos:Pos} {o i:Expr} {td ty:TE}
theorem lR.JZ:∀{a:Option V} {b:Option vz},lR a b->a.isSome=b.isSome
 | some _,some _,_=>rfl
 | none,none,_=>rfl
 | some _,none,h=>h.elim
 | none,some _,h=>h.elim
def Ho (ho:PE X o td) (hi:PE X i ty) (hs:TX i):PE X (.Subscript o i pos) (Sl X.prog X.w X.K td ty):=by
 intro pins s U H Q I h;refine KS PySem.F.slot_dict_getitem.lookup hs (cM (ho pins s U H _ I h) λu s1 ⟨x,H1,I1,rx,q1⟩=>cM (hi pins s1 U H1 _ I1 q1) λiv s2 zz=>?_);let⟨y,H2,I2,ry,a,kvs,k,v,ex,kd,ey,hv,q2⟩:=zz;subst ex ey;obtain rfl:u=Value.ref a:=rx;let⟨tk,rfl⟩:=ry;let⟨hd,_,hk⟩:=kd;let⟨vs,rel,dd⟩:=hk _ I2.qR;let rv:=JY k rel;rw[hv] at rv;cases hw:valueAt vs (Sum.inr k) with
 | none=>rw[hw] at rv;exact rv.elim
 | some w'=>
  rw[hw] at rv;exact{dd.typeIs,wpAny_getItem_of (nQ k tk) dd.mapOf hw {v,H2,I2.tok _,rv,q2}}
def QH (hi:PE X i ty) (ho:PE X o td):PC X .In i o (Us X.prog X.w X.K false ty td):=by
 intro pins s U H Q I h;refine cM (hi pins s U H _ I h) λiv s1 ⟨y,H1,I1,ry,q1⟩=>cM (ho pins s1 U H1 _ I1 q1) λu s2 zz=>?_;let⟨x,H2,I2,rx,a,kvs,k,ex,kd,ey,q2⟩:=zz;subst ex ey;obtain rfl:u=Value.ref a:=rx;let⟨tk,rfl⟩:=ry;let⟨hd,_,hk⟩:=kd;let⟨vs,rel,dd⟩:=hk _ I2.qR;refine wpAny_in_of (tU _ _ k tk) hd dd.mapOf ?_;let e:=lR.JZ (JY k rel);exact{.bl _,H2,I2.tok _,rfl,by rw[e,Bool.false_xor] at q2;exact q2}
end
structure TZ (X:Cx) (CX:KI) (k:Nat) (f:vF) (sp:Sp):Prop where
 ok:∃fd ps,dB X.prog X.w X.K X.mg X.base CX k f fd ps sp/\PySem.W.keepIn X.K (.ref f)=true/\Binds X.K fd ps []
def Sn (Tb:vF->Sp->Prop) (E:XK) (i:Nat) (t:TA):TE:=λU H Q=>∃f sp,U[i]?=some (some (.ref f))/\Tb f sp/\t U H λvs H1=>sp vs H1 Q E
section
variable {X:Cx} {CX:KI} {k:Nat} {x:Str} {i:Nat} {p pos:Pos} {e:Expr} {es:List Expr} {t:TA} {E:XK}
def Hs (Tb:vF->Sp->Prop) (hT:∀f sp,Tb f sp->TZ X CX k f sp) (hr:fI k X.A) (hv:PE X (.Name x p) (aY i)) (hx:Passes CX X E)
  (ha:PA X (e::es) t) (he:starEach (e::es) X.env=(false,eval e X.env)::starEach es X.env<|>qe_) (hpl:(backTo pos (starEach es X.env)).any (·.1)=false<|>qe_) :
  PE X (.Call (.Name x p) (e::es) [] pos) (Sn Tb E i t):=by
 intro pins s U H Q I h;let⟨f,sp,hf,hTb,h⟩:=h;let⟨fd,ps,F,hk,hb⟩:=(hT f sp hTb).ok;refine xt (cM (hv pins s U H (λv H1=>v=.ref f/\H1=H) I {_,hf,rfl,rfl}) λu s1 zz=>?_);let⟨v,H1,I1,rv,ev,eH⟩:=zz;subst ev eH;obtain rfl:u=Value.ref f:=rv;refine vn (h₀:=X.base) I1.ok.mod.Td hk (cM (ha pos pins s1 U _ _ I1 h) λus s2 ⟨vs,H2,I2,r,q⟩=>{I2.qR,?_}) he hpl;exact N7 F hr hb .nil hx I2 r (by rw[zV];exact q)
end
def Uo (sp:Sp) (t:TA) (C:vF) (th:TS):TS:=λD U H=>t U H λvs H1=>sp vs H1 (λv H2=>D.rt v H2) λcls _ H2=>cls=.ref C/\th D U H2
section
variable {X:Cx} {k:Nat} {f:vF} {fd:vE} {ps:List Str} {sp:Sp} {fx cn:Str} {p pos cpos pa np hpos:Pos} {e₀:Expr} {es:List Expr} {t:TA} {C:vF} {bm:List vz} {newId:String} {b₀:Stmt} {suite:List Stmt} {th:TS}
def QA (F:dB X.prog X.w X.K X.mg X.base (Ja X.prog X.w) k f fd ps sp) (hr:fI k X.A) (hg:Gl X fx) (hm:X.mg fx=some (.ref f)) (hk:PySem.W.keepIn X.K (.ref f)=true) (hb:Binds X.K fd ps []) (ha:PA X.JP (e₀::es) t)
  (hc:X.calm=true) (hgc:Gl X cn) (hC0:PySem.W.nsIn X.K mainGlobals cn=some (some (.ref C))) (hQ0:PySem.W.excIn X.K C bm newId=true) (hbase:bm.contains (.type "BaseException")=true) (hstk:X.stack=X.env::X.outer) (hfrm:X.env.frame=some X.env.locals)
  (hsu:∀e,Em (X.held e).JP (b₀::suite) th)
  (hdb:(fx == ("__debug__": Str))=false<|>qb_) (hdc:(cn == ("__debug__": Str))=false<|>qb_) (he:starEach (e₀::es) X.env=(false,eval e₀ X.env)::starEach es X.env<|>qe_) (hpl:(backTo cpos (starEach es X.env)).any (·.1)=false<|>qe_) :
  PS X (.Try [.Return (some (.Call (.Name fx p) (e₀::es) [] cpos)) pa] [.ExceptHandler (some (.Name cn np)) none (b₀::suite) hpos] [] [] pos) (Uo sp t C th):=by
 intro pins s U H D I h;let O:OwnCls cn C bm newId X.mg X.base:=pf X.prog I.ok.mod hC0 hQ0;refine wpAny_Try_except (wpAny_execs_cons ?_);refine wpAny_Return_some ?_;refine xt (jO I hg hm ?_ hdb);let hA:wpAny (model X.prog X.w) X.A (spliced (backTo cpos (starEach (e₀::es) X.env))) (AP X.JP pins U _) (λ_ _=>False) s:=ha cpos pins s U H _ (I.pO _) h;refine vn (h₀:=X.base) I.ok.mod.Td hk (xg hA (λus s1 ⟨vs,H1,I1',r,q⟩=>{I1'.qR,?_}) λ_ _ z=>z.elim) he hpl;let I1:Inv X pins U H1 s1:=I1'.gQ;let hl:⇑us=⇑ps:=by rw[<-⇑r];exact F.len _ _ _ _ q
 refine wpAny_call (xU (F.run X.A X.stack s1 H1 {us,[]} us vs _ _ hr I1.Q3 (by have:=hb s1 us I1.qR (by rw[zV];exact hl);rw[zV] at this;exact this) r q) λrr s' hq=>?_);cases rr with
 | ok fl=>
  cases fl with
  | ret u=>
   let⟨v,H2,I2,r2,q2⟩:=I1.after hq;exact{v,U,H2,I2,r2,q2}
  | next=>exact False.elim hq
  | brk=>exact False.elim hq
  | cont=>exact False.elim hq
 | error ev=>
  let⟨a,cls,a0,B,H',rfl,os,bare,fl,fly,⟨rfl,q2⟩⟩:=hq;let HY:∀b∈oE X.stack,H1 b=none:=I1.pR;let nf:∀{hh:vG},Heap.FunFrames hh B X.stack->∀b∈oE X.stack,∃o,hh.get? b=some o/\∀vs,o.data≠.fields vs:=λhF b hb=>(hF.mem hb).2;let back:∀(hh:vG),Nu X.prog X.w (oE X.stack) H1 H' s1.heap B hh->Inv X pins U H' {s' with heap:=hh}:=λhh fy=>
   I1.PB (s':={s' with heap:=hh}) (ch:=[]) os (fy.un HY) (fy.bZ.kept fy.kQ) bare λb z=>absurd z (by simp)
  let hfr:X.A.frames=some (X.env::X.outer):=by rw[<-hstk];exact I1.ok.frames
  refine wpAny_looks_onW hfr hfrm (by rw[<-hstk];exact fl) λh4 held4 up4=>?_;refine wpAny_landsW held4 λh5 fl5 up5=>?_;let fl5':Heap.FlyingW B X.stack a (.ref C) a0 h5:=by rw[hstk];exact fl5
  let fy5:Nu X.prog X.w (oE X.stack) H1 H' s1.heap B h5:=fly.on (up4.trans up5) fl5.1 (nf fl.2.2.1);let I5:=back h5 fy5;let⟨ob,hob,hobc⟩:=fl5'.there;let⟨tl,Nn,nm,qn,bs,hdct,sn,sub,ab,col,dd,k0,k1,k2,k3,k5,mN,hC,hN',hni,T⟩:=O.obj;refine wpAny_handleBy_cons (codeAny_handlers_test (jO (X:=X.held (.ref a)) (I5.held _) hgc O.bound ?_ hdc)) (by intro q;cases q);refine wpAny_excMatches_sub_self (I5.bk _ _ hC) hob hobc (T.hasType hbase) (codeAny_handlers_suite ?_);refine lands_againW fl5' λh6 fl6 up6=>?_;let fy6:Nu X.prog X.w (oE X.stack) H1 H' s1.heap B h6:=fy5.on up6 fl6.1 (nf fl5'.2.2.1);let I6:=back h6 fy6;refine xg (hsu (.ref a) pins _ U H' D ((I6.held _).pO _) q2) (λfl s7 z=>?_) λ_ _ z=>z.elim;exact SP.kO I.ok.hd (SP.gQ z)
end
section
variable {prog:vB} {w:vC} {A:vD} {E:vz->vA->Prop} {s:vA}
def Og (hd:(d == sysModules)=false) (ho:s.heap.get? d=some o) (hx:o.ExactDict) (hdat:o.data=.dict es ep)
  (hQ:Q (.ref ↑s) {s with heap:=s.heap.push {cls:=.type "dict_keyiterator",data:=.fields #[.ref d,.int 0 0,.int es.size 0,.int ep 0]}}) :
  wpAny (model prog w) A (pyIter (.ref d)) Q E s:=by
 let hT:s.TypeIs (.ref d) "dict":={(o),ho,hx.1}
 refine wpAny_pyIter_slot hT F.slot_dict_iter (xb F.slot_dict_iter hT F.entry_dict_iter ?_ (F.args_dict_iter_1 _));unfold Builtin.«dict.__iter__»;refine yu ?_;unfold Builtin.Dict.dictSlotNone;refine yu (wpAny_notOrdered_dict hT ?_);show wpAny _ _ (pure (Value.ref d)) _ _ s;refine yw ?_;show wpAny _ _ (Builtin.Dict.showsAll d >>= _) _ _ s;unfold Builtin.Dict.showsAll;rw[yN (by rw[hd];exact zL)];refine yu (yw ?_);refine yu (wpAny_dictEntries ho hdat ?_);refine yu (wpAny_dictEpoch ho hdat ?_);refine yu (xf (yw {_,rfl,"dict_keyiterator",_,{_,yx _ rfl,rfl},xZ.lookup,?_}))
 simpa[rawInt] using hQ
def Oh (hit:s.heap.IsKeyIter it d i es.size ep)
  (hod:s.heap.get? d=some od) (hdd:od.data=.dict es ep) (hx:es[i]?=some e)
  (hQ:∀h',h'.IsKeyIter it d (i+1) es.size ep->Heap.SameBut it s.heap h'->Q (some e.key) {s with heap:=h'}) :
  wpAny (model prog w) A (pyNext (.ref it)) Q E s:=by
 let⟨o,ho,hc,hd⟩:=id hit;unfold pyNext;refine yu (wW (yZ (name:=Str.ofString "__next__") hit.typeIs xZ
  (xb xZ hit.typeIs F.entry_dict_keyiterator_next ?_ (F.args_dict_keyiterator_next_1 _))))
 refine yu (yw ?_);refine yu ?_;refine yu ?_
 first | refine yu (xT hit.typeIs (yw ?_)) | refine yu (wx hit.typeIs (yw ?_))
 refine yu (wpAny_fieldsOf ho hd ?_);let hown:Builtin.Dict_items.ownsTuple "dict_keyiterator"= false:=by decide
 simp only[hown,wG,wu];show wpAny _ _ (if(Value.ref d == Value.none)=true then _ else _) _ _ s;rw[yN (show¬((Value.ref d == Value.none)=true) from zL)];refine yu (yw ?_);refine yu (wpAny_dictEntries hod hdd ?_);rw[yN (by simp)];refine yu (yw ?_);refine yu (wpAny_dictEpoch hod hdd ?_);rw[yN (by simp)];refine yw ?_;simp only[show¬((i:Int)<0) from by ext,wu,x8,hx];refine yu ?_
 first | refine yu (xT hit.typeIs (yw ?_)) | refine yu (wx hit.typeIs (yw ?_))
 refine yu (wpAny_isOneOf_keyiter hit.typeIs ?_);show wpAny _ _ (setField (.ref it) 1 (rawInt ((i:Int)+1)) >>= _) _ _ s;refine yu (wpAny_setField ho hd (by simp) ?_);let hit':(s.heap.update it (Obj.mapFields (·.setIfInBounds 1 (rawInt ((i:Int)+1))))).IsKeyIter it d (i+1) es.size ep:=
  {_,yA _ ho (Obj.isFreed_of_fields (vo hd _)),(Obj.cls_mapFields ..).trans hc,by rw[vo hd];simp[rawInt]}
 refine yu (xJ ?_);refine yu (wpAny_isOneOf_keyiter (s:={s with heap:=s.heap.update it (Obj.mapFields (·.setIfInBounds 1 (rawInt ((i:Int)+1))))}) hit'.typeIs ?_);show wpAny _ _ (pure e.key) _ _ _;exact yw (yw {_,rfl,yw (hQ _ hit' (vg ..))})
def Qv (hh:A.handled=none) (hit:s.heap.IsKeyIter it d i es.size ep)
  (hod:s.heap.get? d=some od) (hdd:od.data=.dict es ep) (hx:es.size<=i)
  (hQ:∀h',Heap.ExtBut it s.heap h'->Q none {s with heap:=h'}):wpAny (model prog w) A (pyNext (.ref it)) Q E s:=by
 let⟨o,ho,hc,hd⟩:=id hit;unfold pyNext;refine yu (wW (yZ (name:=Str.ofString "__next__") hit.typeIs xZ
  (xb xZ hit.typeIs F.entry_dict_keyiterator_next ?_ (F.args_dict_keyiterator_next_1 _))))
 refine yu (yw ?_);refine yu ?_;refine yu ?_
 first | refine yu (xT hit.typeIs (yw ?_)) | refine yu (wx hit.typeIs (yw ?_))
 refine yu (wpAny_fieldsOf ho hd ?_);let hown:Builtin.Dict_items.ownsTuple "dict_keyiterator"= false:=by decide
 simp only[hown,wG,wu];show wpAny _ _ (if(Value.ref d == Value.none)=true then _ else _) _ _ s;rw[yN (show¬((Value.ref d == Value.none)=true) from zL)];refine yu (yw ?_);refine yu (wpAny_dictEntries hod hdd ?_);rw[yN (by simp)];refine yu (yw ?_);refine yu (wpAny_dictEpoch hod hdd ?_);rw[yN (by simp)];refine yw ?_;simp only[show¬((i:Int)<0) from by ext,wu,x8,Array.getElem?_eq_none hx];refine yu ?_
 first | refine yu (xT hit.typeIs (yw ?_)) | refine yu (wx hit.typeIs (yw ?_))
 show wpAny _ _ (setField (.ref it) 0 .none >>= _) _ _ s;refine yu (wpAny_setField ho hd (by simp) ?_);show wpAny _ _ (newExc (.type "StopIteration") [] >>= _) _ _ _;refine yu ?_;simp only[newExc,newTuple];refine yu (xf ?_ (by size_fits));refine yu (m:=firstArgMember _ _) (wpAny_of_eq (a:=Value.none) (by first | rfl | (simp only[firstArgMember];rfl)) ?_);refine xf ?_ (by size_fits);simp only[raiseNew];refine yu (wpAny_handled ?_);rw[show A.in1.handled=none from hh];refine yu (yw (wpAny_throw ?_));refine yu (wpAny_isInstance (T:="StopIteration") (b:=true) {_,yx _ rfl,rfl} isSubtype_stop ?_);exact yw (hQ _ (((vg ..).extBut.push _).push _))
end
def P2 (H:Hp) (d:vF) (o:Obj) (n:Nat) (kat:Hp->Nat->V->Prop):Prop:=∃u,H d=some (.mG o u)/\((∃kvs:List (Key×V),u=.dK kvs/\n=⇑kvs/\kat=λ_ i x=>∃p,kvs[i]?=some p/\x=kV p.1)\/
 ∃kvs:List (List Key×V),u=.dT kvs/\n=⇑kvs/\kat=λH i x=>∃p b,kvs[i]?=some p/\H b=some (.tup (p.1.map kV))/\x=.ref b)
theorem DI {K:Type} [DecidableEq K] {prog:vB} {w:vC} {knd:KeyKind prog w K}:∀{es:List DictEntry} {kvs:List (K×vz)} {i:Nat} {e:DictEntry},PySem.Pairs knd es kvs->es[i]?=some e->∃kv,kvs[i]?=some kv/\knd.is kv.1 e.key=true/\e.val=kv.2
 | _,_,_,_,.nil,h=>by simp at h
 | _,_,0,_,.cons a b _,h=>by simp at h;subst h;exact{_,rfl,a,b}
 | _,_,i+1,_,.cons _ _ t,h=>by
  let⟨kv,h1,h2⟩:=DI (i:=i) t (by simpa using h);exact{kv,by simpa using h1,h2}
theorem lz:∀{l:List α} {m:List β} {i:Nat} {b:β},Paired F l m->m[i]?=some b->∃a,l[i]?=some a/\F a b
 | _,_,_,_,.nil,h=>by simp at h
 | _,_,0,_,.cons r _,h=>by simp at h;subst h;exact{_,rfl,r}
 | _,_,i+1,_,.cons _ t,h=>by
  let⟨a,h1,h2⟩:=lz (i:=i) t (by simpa using h);exact{a,by simpa using h1,h2}
section
variable {X:Cx} {pins:List (vF×Obj)} {U:St} {H:Hp} {s:vA} {d:vF} {o:Obj} {n:Nat} {kat:Hp->Nat->V->Prop}
def P2.raw (f:P2 H d o n kat) (I:Inv X pins U H s):(d == sysModules)=false/\∃es ep,s.heap.get? d=some o/\o.ExactDict/\o.data=.dict es ep/\es.size=n/\∀i e,es[i]?=some e->∃x,RelV x e.key/\kat H i x:=by
 let⟨u,hH,hu⟩:=f;let⟨ho,ok⟩:=(show cB X.prog X.w H s.heap d (.mG o u) from I.bZ d _ hH)
 rcases hu with⟨kvs,rfl,rfl,rfl⟩ | ⟨kvs,rfl,rfl,rfl⟩
 ·let⟨_,hd,vs,rel,o',es,ep,ho',hx,hdat,_,hp,_⟩:=ok
  let hl:es.size=⇑kvs:=by
   let h1:=⇑hp;let h2:⇑kvs=⇑vs:=x6 rel;let h3:⇑es.toList=es.size:=yQ;ext
  rw[ho] at ho';cases ho';refine{hd,es,ep,ho,hx,hdat,hl,λi e he=>?_};let⟨kv,h1,h2,_⟩:=DI hp (i:=i) (e:=e) (by rw[xk];exact he);let⟨p,h3,h4,_⟩:=lz rel h1;refine{kV p.1,?_,p,h3,rfl};rw[<-h4] at h2;rcases df h2 with⟨j,t,e1,e2⟩ | ⟨y,t,e1,e2⟩
  ·rw[e1,e2];exact{(t),rfl}
  ·rw[e1,e2];exact{(t),rfl}
 ·let⟨_,hd,xs,rel,o',es,ep,ho',hx,hdat,he,_⟩:=ok
  let h3:⇑es.toList=es.size:=yQ;let hl:es.size=⇑kvs:=by
   let h2:⇑kvs=⇑xs:=x6 rel;rw[he,za] at h3;ext
  rw[ho] at ho';cases ho';refine{hd,es,ep,ho,hx,hdat,hl,λi e hi=>?_};rw[<-xk,he,zK] at hi;cases q:xs[i]? with
  | none=>rw[q] at hi;cases hi
  | some y=>
   rw[q] at hi;cases hi;let⟨p,h4,h5,h6,_⟩:=lz rel q;exact{.ref y.2.1,rfl,p,y.2.1,h4,h6,rfl}
end
def WR (d:vF) (o:Obj) (n:Nat) (kat:Hp->Nat->V->Prop):It:={λi H=>P2 H d o n kat/\i<n,λi H x H'=>H'=H/\kat H i x,λi H=>P2 H d o n kat/\n<=i}
def LR {P:vB} {w:vC} {K:yB} {tg:Expr} (d it:vF) (n:Nat) (kat:Hp->Nat->V->Prop) (o:Obj) (es:Array DictEntry) (ep:Nat) (hdat:o.data=.dict es ep) (hn:es.size=n) :
  Turn P w K tg (WR d o n kat) [it] it (λi h=>h.IsKeyIter it d i n ep) where
 mem:=by simp
 obj:=λi h st b hb=>by
  let e:b=it:=by simpa using hb
  subst e;let⟨o,e,c,d⟩:=st;exact{o,e,λv z=>by rw[d] at z;cases z}
 keep:=λi h h' st k=>st.at λo e=>k it (by simp) o e
 item:=by
  intro X hP hw hK hc i pins s U H E I hf st hg;subst hP hw hK hn;let⟨fz,hlt⟩:=hg;let⟨hd,es',ep',ho,hx,hdat',hsz,hk⟩:=fz.raw I;rw[hdat] at hdat';cases hdat';let⟨f0,f1,f2,f3,f4,f5⟩:=hf it (by simp);let he:es[i]?=some es[i]:=Array.getElem?_eq_getElem hlt;let⟨x,rx,kx⟩:=hk i _ he;refine Oh st ho hdat he λh' st' sb=>?_;let I1:Inv X pins U H {s with heap:=h'}:=I.turned (t':=s.toks) (λb o hb e=>(sb.2 b hb).trans e) f0 f1 f3 f4 f5;let⟨oi,e,c,dd⟩:=id st';exact{_,rfl,DW (s:={s with heap:=h'}) e c dd ∅ {x,H,I1,rx,{(rfl),kx},st',λb hb=>(hf b hb).1}}
 done:=by
  intro X hP hw hK hc i pins s U H E I hf st hg;subst hP hw hK hn;let⟨fz,hge⟩:=hg;let⟨hd,es',ep',ho,hx,hdat',hsz,hk⟩:=fz.raw I;rw[hdat] at hdat';cases hdat';let⟨f0,f1,f2,f3,f4,f5⟩:=hf it (by simp);exact Qv (I.ok.hd hc) st ho hdat hge λh' eb=>{rfl,I.turned (t':=s.toks) (λb o hb e=>eb b o hb e) f0 f1 f3 f4 f5}
 self:=λ_ _ _ _ _ st h=>wpAny_pyIter_keyiter st h
def UT (td:TE):TI:=λU H R=>td U H λx H1=>∃d o n kat,x=.ref d/\P2 H1 d o n kat/\R (WR d o n kat) H1
section
variable {X:Cx} {tg l:Expr} {tl:TE}
def QD (hl:PE X l tl):PI X tg l (UT tl):=by
 intro pins s U H R I h;refine cM (hl pins s U H _ I h) λv s1 zz=>?_;let⟨x,H1,I1,r1,q1⟩:=zz;let⟨d,o,n,kat,e,fz,q⟩:=q1;subst e;cases r1;let⟨hd,es,ep,ho,hx,hdat,hsz,hk⟩:=fz.raw I1;refine Og hd ho hx hdat ?_;refine{↑s1,[↑s1],_,_,H1,rfl,I1.kept (t':=s1.toks) λb o e=>yv _ e,LR d _ n kat o es ep hdat hsz,{_,yx _ rfl,rfl,by rw[hsz];rfl},λb hb=>?_,q};let e:b=↑s1:=by simpa using hb
 subst e;exact I1.uT (zm _) (I1.bZ.fresh (zm _))
end
def KG (H:Hp) (d:vF) (o:Obj) (kvs:List (Key×V)):Prop:=H d=some (.mG o (.dK kvs))
def P0 (d:vF) (o:Obj) (kvs:List (Key×V)):It:={λi H=>KG H d o kvs/\i<⇑kvs,λi H x H'=>H'=H/\∃p,kvs[i]?=some p/\x=p.2,λi H=>KG H d o kvs/\⇑kvs<=i}
section
variable {X:Cx} {pins:List (vF×Obj)} {U:St} {H:Hp} {s:vA} {d:vF} {o:Obj} {kvs:List (Key×V)}
def KG.at' (f:KG H d o kvs) (I:Inv X pins U H s):(d == sysModules)=false/\∃vs es ep,KV kvs vs/\o.data=.dict es ep/\s.heap.DictAt (cX X.prog X.w) d vs ep:=by
 let⟨ho,ok⟩:=(show cB X.prog X.w H s.heap d (.mG o (.dK kvs)) from I.bZ d _ f)
 let⟨_,hd,vs,rel,o',es,ep,ho',hx,hdat,hk,hp,nd⟩:=ok;rw[ho] at ho';cases ho';exact{(hd),vs,es,ep,rel,hdat,o,es,ho,hx,hdat,hk,hp,nd}
end
def Gy {P:vB} {w:vC} {K:yB} {tg:Expr} (d it:vF) (o:Obj) (kvs:List (Key×V)) (es:Array DictEntry) (ep:Nat) (hdat:o.data=.dict es ep) :
  Turn P w K tg (P0 d o kvs) [it] it (λi h=>h.IsValIter it d i ⇑kvs ep) where
 mem:=by simp
 obj:=λi h st b hb=>by
  let e:b=it:=by simpa using hb
  subst e;let⟨o,e,c,d⟩:=st;exact{o,e,λv z=>by rw[d] at z;cases z}
 keep:=λi h h' st k=>st.at λo e=>k it (by simp) o e
 item:=by
  intro X hP hw hK hc i pins s U H E I hf st hg;subst hP hw hK;let⟨fz,hlt⟩:=hg;let⟨hd,vs,es',ep',rel,hdat',da⟩:=fz.at' I;rw[hdat] at hdat';cases hdat';let⟨f0,f1,f2,f3,f4,f5⟩:=hf it (by simp);let hl:⇑kvs=⇑vs:=x6 rel;let hi:vs[i]?=some (vs[i]'()):=zd ();let⟨p,h3,h4,h5⟩:=lz rel hi;refine wpAny_pyNext_values_item (by rw[<-hl];exact st) da hi λh' st' sb=>?_;let I1:Inv X pins U H {s with heap:=h'}:=I.turned (t':=s.toks) (λb o hb e=>(sb.2 b hb).trans e) f0 f1 f3 f4 f5;let⟨oi,e,c,dd⟩:=id st';exact{_,rfl,DW (s:={s with heap:=h'}) e c dd ∅ {p.2,H,I1,h5,{(rfl),p,h3,rfl},by rw[hl];exact st',λb hb=>(hf b hb).1}}
 done:=by
  intro X hP hw hK hc i pins s U H E I hf st hg;subst hP hw hK;let⟨fz,hge⟩:=hg;let⟨hd,vs,es',ep',rel,hdat',da⟩:=fz.at' I;rw[hdat] at hdat';cases hdat';let⟨f0,f1,f2,f3,f4,f5⟩:=hf it (by simp);let hl:⇑kvs=⇑vs:=x6 rel;exact wpAny_pyNext_values_end (I.ok.hd hc) (by rw[<-hl];exact st) da (by simp;ext) λh' eb=>{rfl,I.turned (t':=s.toks) (λb o hb e=>eb b o hb e) f0 f1 f3 f4 f5}
 self:=λ_ _ _ _ _ st h=>wpAny_pyIter_valiter st h
def QZ (td:TE):TI:=λU H R=>td U H λx H1=>∃d o kvs,x=.ref d/\KG H1 d o kvs/\R (P0 d o kvs) H1
section
variable {X:Cx} {tg l:Expr} {tl:TE} {apos cpos:Pos}
def Ml (hl:PE X l tl) (hbase:attributeBase l "values" X.env (eval l X.env)=eval l X.env<|>qe_) (hline:(apos.endLine == cpos.line)=true<|>qe_):PI X tg (.Call (.Attribute l "values" apos) [] [] cpos) (QZ tl):=by
 intro pins s U H R I h;refine wpAny_Call_method0_late hbase hline (cM (hl pins s U H _ I h) λv s1 zz=>?_);let⟨x,H1,I1,r1,q1⟩:=zz;let⟨d,o,kvs,e,fz,q⟩:=q1;subst e;cases r1;let⟨hd,vs,es,ep,rel,hdat,da⟩:=fz.at' I1;refine{"dict","dict.values",F.plainAttrs_dict,F.slot_dict_values,F.type_dict_values,da.dictOf.typeIs,da.dictOf.mapOf.noDict,wO rfl (PySem.evalArgs_none ?_)};refine call_meetsIn F.slot_dict_values da.dictOf.typeIs F.entry_dict_values (F.args_dict_values_1 _) (meets_dict_values (cX X.prog X.w) d hd) {{(vs),da.dictOf},?_};let I2:Inv X pins U H1 {s1 with heap:=s1.heap.push {cls:=.type "dict_values",data:=.fields #[.ref d]}}:=I1.kept (t':=s1.toks) λb o e=>yv _ e;let⟨_,vs2,es2,ep2,rel2,hdat2,da2⟩:=fz.at' I2;rw[hdat] at hdat2;cases hdat2;let hl2:⇑kvs=⇑vs2:=x6 rel2;refine wpAny_pyIter_values (knd:=cX X.prog X.w) {_,yx _ rfl,rfl,rfl} da2 ?_;refine{_,[_],_,_,H1,rfl,I2.kept (t':=s1.toks) λb o e=>yv _ e,Gy d _ o kvs es ep hdat,{_,yx _ rfl,rfl,by rw[hl2];rfl},λb hb=>?_,q};rw[zA.mp hb];exact I2.uT (zm _) (I2.bZ.fresh (zm _))
end
def J1 {d:vF} {o:Obj} {kvs:List (Key×V)} {g:TG} {tb:TS} {D:Ends} {U:St} {H:Hp} (Pv:Nat->St->Hp->Prop) (h0:Pv 0 U H) (hf:∀i U H,i<=⇑kvs->Pv i U H->KG H d o kvs)
  (hs:∀i p U H,kvs[i]?=some p->Pv i U H->g p.2 U H λσ2 H2=>tb {D with nx:=Pv (i+1),ct:=Pv (i+1),bk:=D.nx} σ2 H2) (hd:∀U H,Pv ⇑kvs U H->D.nx U H) :
  ∃W:Nat->Nat->St->Hp->Prop,(∃m,W 0 m U H)/\∀i m U H,W i m U H->
   ((P0 d o kvs).stop i H/\D.nx U H)\/((P0 d o kvs).go i H/\∃Nn:St->Hp->Prop,(∀U' H',Nn U' H'->∃m',m'<m/\W (i+1) m' U' H')/\∀v H',(P0 d o kvs).Jg i H v H'->g v U H' λσ2 H2=>tb {D with nx:=Nn,ct:=Nn,bk:=D.nx} σ2 H2):=by
 refine{λi m U H=>m=⇑kvs-i/\i<=⇑kvs/\Pv i U H,{⇑kvs,by simp,yg _,h0},?_};rintro i m U H ⟨rfl,hi,pv'⟩;rcases xI i ⇑kvs with hlt | hge
 ·refine .inr {{hf i U H hi pv',hlt},Pv (i+1),λU' H' p'=>{⇑kvs-(i+1),(),rfl,hlt,p'},λv H' y=>?_}
  let⟨e1,p,hp,e2⟩:=y;rw[e1,e2];exact hs i p U H hp pv'
 ·let e:i=⇑kvs:=()
  subst e;exact .inl {{hf _ U H hi pv',zm _},hd U H pv'}
def UR:HO->Bool
 | .dK _=>true
 | .dT _=>true
 | _=>false
def dB.RA {P:vB} {w:vC} {K:yB} {mg:Str->Option vz} {base:vG} {k:Nat} {f:vF} {fd:vE} {ps:List Str} {sp sp':Sp} (F:dB P w K mg base Jb k f fd ps sp) (len:∀vs H Q E,sp' vs H Q E->⇑vs=⇑ps)
  (h:∀vs H Q E,sp' vs H Q E->∃d u,H d=some u/\UR u=true/\∀o,sp vs (upd H d (.mG o u)) (λv H'=>Q v (upd H' d u)) E):dB P w K mg base Jb k f fd ps sp':=by
 refine{len,λA outer s H args us vs Q E hr e hb hv hs=>?_};let⟨d,u,hd,hu,hsp⟩:=h vs H Q E hs;let okd:=e.bZ d u hd;let⟨o,ho⟩:=okd.here;let nt:∀xs,u≠.tup xs:=λxs z=>by rw[z] at hu;cases hu
 let no:∀x,u≠.own x:=λx z=>by rw[z] at hu;cases hu
 let nf:∀a b,u≠.mG a b:=λa b z=>by rw[z] at hu;cases hu
 let nb:∀a,u≠.NM a:=λa z=>by rw[z] at hu;cases hu
 let off:∀b,H b=none->b≠d:=λb n z=>by rw[z,hd] at n;cases n
 let tup1:∀b xs,H b=some (.tup xs)->upd H d (.mG o u) b=some (.tup xs):=λb xs q=>by rw[aE (λz=>by rw[z,hd] at q;exact nt xs (yk q))];exact q
 let own1:∀b x,H b=some (.own x)->upd H d (.mG o u) b=some (.own x):=λb x q=>by rw[aE (λz=>by rw[z,hd] at q;exact no x (yk q))];exact q
 let e1:I9 P w K mg base A outer s (upd H d (.mG o u)):=by
  refine{e.frames,e.mod,λb ob q=>{(e.bs b ob q).1,by rw[aE (off b (e.bs b ob q).2)];exact(e.bs b ob q).2},e.Nq,e.oo,λb hb=>by rw[aE (off b (e.HY b hb))];exact e.HY b hb,λb ub q=>?_,e.bare}
  by_cases hbd:b=d
  ·subst hbd
   rw[aC] at q;cases q;exact{ho,okd.kQ (λ_ _ _ z=>z) (λc z=>own1 c _ z) tup1}
  ·rw[aE hbd] at q
   exact(e.bZ b ub q).kQ (λ_ _ _ z=>z) (λc z=>own1 c _ z) tup1
 refine xU (F.run A outer s _ args us vs _ E hr e1 hb hv (hsp o)) λr s' hq=>?_;cases r with
 | error x=>exact hq
 | ok fl=>
  cases fl with
  | next=>exact hq
  | brk=>exact hq
  | cont=>exact hq
  | ret uv=>
   let⟨v,H',os,bare,un,bZ,rv,q⟩:=hq;let hd':H' d=some (.mG o u):=un.mC d o u aC;let off1:∀b,H b=none->upd H d (.mG o u) b=none:=λb n=>by rw[aE (off b n)];exact n
   let back:∀b z,H b=some z->b≠d->upd H d (.mG o u) b=some z:=λb z q n=>by rw[aE n];exact q
   refine{v,upd H' d u,os,bare,{λb ob q n hb hx=>un.keep b ob q (off1 b n) hb hx,λb ob q n hb hx=>un.slot b ob q (off1 b n) hb hx,λb ob q n hx=>by rw[aE (off b n)];exact un.free b ob q (off1 b n) hx,un.there,
    λb xs q=>?_,λb ob uu q=>?_,λb ps' q=>?_},λb ub q=>?_,rv,q}
   ·let n:b≠d:=λz=>by rw[z,hd] at q;exact nt xs (yk q)
    rw[aE n];exact un.nZ b xs (back b _ q n)
   ·let n:b≠d:=λz=>by rw[z,hd] at q;exact nf ob uu (yk q)
    rw[aE n];exact un.mC b ob uu (back b _ q n)
   ·let n:b≠d:=λz=>by rw[z,hd] at q;exact nb ps' (yk q)
    let⟨m,z⟩:=un.oa b ps' (back b _ q n);exact{m,by rw[aE n];exact z}
   ·let own2:∀c x,H' c=some (.own x)->upd H' d u c=some (.own x):=λc x z=>by rw[aE (λy=>by rw[y,hd'] at z;cases z)];exact z
    let tup2:∀c xs,H' c=some (.tup xs)->upd H' d u c=some (.tup xs):=λc xs z=>by rw[aE (λy=>by rw[y,hd'] at z;cases z)];exact z
    by_cases hbd:b=d
    ·subst hbd
     rw[aC] at q;cases q;let⟨_,ok'⟩:=(show cB P w H' s'.heap b (.mG o u) from bZ b _ hd')
     exact ok'.kQ (λ_ _ _ z=>z) (λc z=>own2 c _ z) tup2
    ·rw[aE hbd] at q
     exact(bZ b ub q).kQ (λ_ _ _ z=>z) (λc z=>own2 c _ z) tup2
def Hl (U:List Str) (x:Str):List Str:=if x∈U then U else U++[x]
def gj (l:List Str):List Str:=l.foldl Hl []
def Ip (l:List Str):⇑(gj l)<=⇑l/\(⇑(gj l)=⇑l↔l.Nodup):=by
 let key:∀(l U:List Str),U.Nodup->⇑(l.foldl Hl U)<=U.length+⇑l/\(⇑(l.foldl Hl U)=U.length+⇑l↔(U++l).Nodup):=by
  intro l
  induction l with
  | nil=>intro U h;simp[h]
  | cons x l ih=>
   intro U h;rw[List.foldl_cons,zv]
   by_cases hx:x∈U
   ·rw[show Hl U x=U from yO hx]
    have:=ih U h;refine{(),{λe=>(),λe=>?_}};exact absurd hx (λz=>(zT.mp e).2.2 x z x zr rfl)
   ·rw[show Hl U x=U++[x] from yN hx]
    let hn:(U++[x]).Nodup:=zT.mpr {h,by simp,λa ha b hb e=>by rw[zA.mp hb] at e;exact hx (e▸ha)};have:=ih (U++[x]) hn;rw[zh,List.length_singleton,zF,List.singleton_append] at this;exact{(),{λe=>this.2.mp (),λe=>by have:=this.2.mpr e;ext}}
 have:=key l [] wa
 simpa[gj] using this
def sub_tuple_set:isSubtype (.type "tuple") (.type "set")=pure false:=by rw[isSubtype_type];kernel_rfl
def sub_tuple_frozenset:isSubtype (.type "tuple") (.type "frozenset")=pure false:=by rw[isSubtype_type];kernel_rfl
section
variable {prog:vB} {w:vC}
def N3 {A:vD} {R:Result->vA->Prop} {I:vF} {fp wr:List vF} {G:Array GenState->Array GenState->Prop} {n:Nat} {P:Nat->vz->Prop} {St:Nat->vA->Prop} (W:WalksS prog w A.in1 I fp wr G n P St) (S:vF) (hSf:S∉fp)
  (zs:List Str) (hn:n=⇑zs) (hval:∀i v,P i v->∃z t,zs[i]?=some z/\v=.str z t) (hb:n+1<scanBound) :
  ∀(k i:Nat) (s:vA),n-i=k->i<=n->St i s->s.heap.SetOf (PySem.strKind prog w) S (λx=>decide (x∈gj (zs.take i))) ⇑(gj (zs.take i))->
   (∀s',Moved (S::wr) G s s'->s'.heap.SetOf (PySem.strKind prog w) S (λx=>decide (x∈gj zs)) ⇑(gj zs)->R (.ok (.ret .none)) s')->
   codeAny (model prog w) A (.builtin "set.update.loop" {[.ref S,.ref I],[]}) R s:=by
 let hSw:S∉wr:=λh=>hSf (W.sub _ h);let hsub:∀b∈wr,b∈S::wr:=λb hb=>zp _ hb;intro k
 induction k with
 | zero=>
  intro i s hk hi hst hS hR;let hin:i=n:=()
  subst hin;rw[hn,zN] at hS;refine xX F.entry_set_update_loop ?_;rw[vc F.plain_set_update_loop _];show wpAny _ A.in1 (pyNext (.ref I) >>= _) _ _ s;refine yu (W.done s _ _ hst λs' hm=>?_);let⟨o,es,ep,t,ho,rest⟩:=hS;exact yw (hR s' (hm.mono hsub) {o,es,ep,t,hm.heap S _ hSw ho,rest})
 | succ k ih=>
  intro i s hk hi hst hS hR;let hlt:i<n:=()
  refine xX F.entry_set_update_loop ?_;rw[vc F.plain_set_update_loop _];show wpAny _ A.in1 (pyNext (.ref I) >>= _) _ _ s;refine yu (W.item i s _ _ hlt hst λv s' hP hst' hm=>?_);let⟨z,t,hz,rfl⟩:=hval i v hP;let⟨o,es,ep,tb,ho,rest⟩:=hS;let hS':s'.heap.SetOf (PySem.strKind prog w) S (λx=>decide (x∈gj (zs.take i))) ⇑(gj (zs.take i)):={o,es,ep,tb,hm.heap S _ hSw ho,rest}
  show wpAny _ A.in1 (holding [Value.str z t] (setAdd S (.str z t)) >>= _) _ _ s';refine yu (xJ ?_);unfold setAdd;refine xJ ?_;refine yu ((PySem.strKind prog w).pyHash (k:=z) (strKind_is _ _ _ _) ?_);let hl:=(Ip (zs.take i)).1;rw[zQ] at hl;refine wpAny_setAddHashed_of (knd:=PySem.strKind prog w) (s:={s' with toks:=s'.toks+1}) (strKind_is _ _ _ _) rfl hS' () λh' hsb hS2=>?_;let et:zs.take (i+1)=zs.take i++[z]:=by rw[List.take_succ,hz];rfl
  let ed:gj (zs.take (i+1))=Hl (gj (zs.take i)) z:=by rw[et];unfold gj;rw[zY];rfl
  let hSi:h'.SetOf (PySem.strKind prog w) S (λx=>decide (x∈gj (zs.take (i+1)))) ⇑(gj (zs.take (i+1))):=by
   refine SetOf_congr hS2 (λx=>?_) ?_
   ·rw[ed]
    unfold Hl
    by_cases hx:z∈gj (zs.take i)
    ·rw[yO hx]
     by_cases e:x=z
     ·subst e;simp[hx]
     ·simp[e]
    ·rw[yN hx];simp[zG]
   ·rw[ed]
    unfold Hl
    by_cases hx:z∈gj (zs.take i) <;> simp[hx]
  refine yw {plainId_quiet F.plain_set_update_loop _,ih (i+1) _ () hlt (W.frame _ s' _ _ hst' (x9 _) λb hb o e=>?_) hSi λs'' hm'' hS''=>?_}
  ·rw[hsb.2 b (λh:b=S=>hSf (by rw[<-h];exact hb))];exact e
  ·refine hR s'' (Moved.trans W.gtrans ((hm.mono hsub).then_heap (x9 _) λb o hb e=>?_) hm'') hS''
   rw[hsb.2 b (λh:b=S=>hb (by rw[h];exact zr))];exact e
variable {A:vD} {E:vz->vA->Prop} {s:vA}
def Jx {l:vF} {items:Array vz} {zs:List Str} {Q:vz->vA->Prop} (hh:A.handled=none) (hl:IsTup s.heap l items) (hi:∀(i:Nat) (v:vz),items[i]?=some v->∃z t,zs[i]?=some z/\v=.str z t) (hn:items.size=⇑zs) (hb:items.size+1<scanBound)
  (h:∀(h':vG) (tk:Nat),h'.SetOf (PySem.strKind prog w) ↑s (λx=>decide (x∈gj zs)) ⇑(gj zs)->(∀b o,b<↑s->s.heap.get? b=some o->h'.get? b=some o)->Q (.ref ↑s) {s with heap:=h',toks:=tk}) :
  wpAny (model prog w) A (call (.type "set") [.ref l]) Q E s:=by
 let⟨c,tl,hmro⟩:=F.called_set.mro;let hmade:=F.called_set.made;let hsub:=F.called_set.sub;refine wpAny_call (codeAny_of_tree ?_);show wpAny _ _ (callAny (.type "set") _) _ _ _;refine yw {Code.quiet_builtin _ (by decide +kernel),xX F.entry_type_call ?_};rw[Around.under_plain (weight_type_call_type "set" [.ref l] []) rfl];let h1:=F.called_set.notType;let h2:=F.called_set.canCreate;let hct:=F.typeCall_set_1 (.ref l)
 repeat (any_goals (first | assumption | wp_step))
 letI fresh:Bool->Obj:=λled=>{cls:=.type "set",dict:=none,data:=.set #[] 0 (.fresh 0 0 led)}
 refine xU (code_set_new_1 (.ref l) (E:=E) (Q₁:=λobj s₁=>∃led:Bool,obj=.ref ↑s/\s₁={s with heap:=s.heap.push (fresh led)}) λled=>{(led),rfl,rfl}) λr s₁ hr=>?_;cases r with
 | error e=>exact hr
 | ok fl=>
  cases fl with
  | next=>exact hr.elim
  | brk=>exact hr.elim
  | cont=>exact hr.elim
  | ret obj=>
   let⟨led,rfl,rfl⟩:=hr;let hS:(s.heap.push (fresh led)).get? ↑s=some (fresh led):=yx _ rfl;let hT:Shared.TypeIs {s with heap:=s.heap.push (fresh led)} (.ref ↑s) "set":={_,hS,rfl}
   let hli:=F.called_set.init.lookup;let hbi:=F.called_set.init.bind (.ref ↑s)
   repeat (any_goals (first | assumption | wp_step))
   refine xU (codeAny_call_builtin (R:=wants (λr s₂=>r=.none/\∃h' tk,s₂={s with heap:=h',toks:=tk}/\h'.SetOf (PySem.strKind prog w) ↑s (λx=>decide (x∈gj zs)) ⇑(gj zs)/\
     (∀b o,b<↑s->s.heap.get? b=some o->h'.get? b=some o)) E) F.called_set.init.plain F.entry_set_init (check_set_init_1 hT ?_)) λr₂ s₂ hr₂=>?_
   ·let⟨⟨ocls,odict,odata,oslots⟩,hol,hcl,nl,hdl⟩:=hl
    simp only at hcl hdl;subst hcl hdl;let hol':(s.heap.push (fresh led)).get? l=some {cls:=.type "tuple",dict:=odict,data:=.seq items nl,slots:=oslots}:=yv _ hol;let hsls:=sub_tuple_set;let hslf:=sub_tuple_frozenset;let hne:(Value.type "tuple"== Value.type "dict")=false:=by decide
    let hl1:(s.heap.push (fresh led)).IsTuple l items:={_,hol',rfl,nl,rfl}
    unfold Builtin.«set.__init__» noKeywords Builtin.Frozenset.updateFrom;generalize hPI:pyIter=PI;wp_walk;subst hPI;refine wpAny_pyIter_tuple hl1 ?_;refine yu (wpAny_runValue ?_);let hlS:l<↑s:=yy hol;let hh3:A.in1.in1.in1.handled=none:=by simp[hh]
    let hz:(s.heap.push (fresh led)).objs.size=↑s+1:=xm ..;let hSf:↑s∉[(s.heap.push (fresh led)).objs.size,l]:=by
     rw[hz];simp only[zD,zE,yV,not_or];exact{yj (xR _),yi hlS}
    refine N3 ((Walks.tuple hh3 _ l (by rw[hz];exact yj (wM hlS)) items).toS) ↑s hSf zs hn hi hb (items.size-0) 0 _ () (yg _)
     {{_,yx _ rfl,rfl,rfl},(hl1.push _)} ?hS0 ?hR
    case hS0=>
     exact SetOf_congr ((setObjOf_fresh (knd:=PySem.strKind prog w) led).setOf (yv _ hS) (by unfold scanBound;ext)) (λ_=>rfl) rfl
    case hR=>
     intro s' hm hS';let⟨h',g',d',tk',os'⟩:=s';let eg:g'=s.gens:=hm.gens;let ed:d'=s.drawn:=hm.drawn;let eo:os'=s.os:=hm.os;subst eg ed eo;refine yw (yw {rfl,h',tk',rfl,hS',λb o hb e=>?_});refine hm.heap b o ?_ (yv _ (yv _ e));simp only[zD,zE,yV,not_or];exact{yj hb,by rw[hz];exact yj (wM hb)}
   ·cases r₂ with
    | error e=>exact hr₂
    | ok fl₂=>
     cases fl₂ with
     | next=>exact hr₂.elim
     | brk=>exact hr₂.elim
     | cont=>exact hr₂.elim
     | ret r=>
      let⟨rfl,h',tk,rfl,hS',hk'⟩:=hr₂
      repeat (any_goals (first | assumption | wp_step))
      exact h _ _ hS' hk'
end
def I0 (a:vF) (n:Nat):HO:=.ext λh=>∃o es ep t,h.get? a=some o/\o.ExactSet/\o.data=.set es ep t/\t.fits es.size=true/\es.size=n
section
variable {X:Cx}
def MZ (hc:X.calm=true):fk X (.type "set") (λxs H Q=>∃(a:vF) (zs:List Str),xs=[.ref a]/\cU X.K H a (zs.map V.str)/\⇑zs<=1000/\∀p,H p=none->Q (.ref p) (upd H p (I0 p ⇑(gj zs)))):=by
 intro pins s U H xs us Q I r h;let⟨a,zs,rfl,hq,hz,q⟩:=h;let⟨u,rfl,rx⟩:=vals1 r;cases rx;let⟨its,rv,p,_⟩:=I.tuple hq;let hl:⇑zs=⇑its:=by have:=⇑rv;rw[za] at this;exact this
 refine Jx (zs:=zs) (I.ok.hd hc) p (λi v hv=>?_) (by rw[yb,hl]) (by rw[yb];unfold scanBound;ext) λh' tk hS hk=>?_
 ·let hv':its[i]?=some v:=by simpa using hv
  let hi:i<⇑its:=(zy.mp hv').1;let⟨z,t,e1,e2⟩:=NU rv hi;have:=(zy.mp hv').2;exact{z,t,e1,by rw[<-this,e2]}
 ·let⟨o,es,ep,t,ho,hex,hd,hel,hmem,hb,hf,hn⟩:=hS
  refine{.ref _,_,I.laid (t':=tk) (a:=↑s) (o:=I0 ↑s ⇑(gj zs)) (λb ob e=>hk b ob (yy e) e) (zm _) ?_,rfl,q _ (I.bZ.fresh (zm _))};exact{{(o),es,ep,t,ho,hex,hd,hf,hn},{(o),ho},λh1 h2 ⟨o,es,ep,t,e1,r⟩ kk=>{o,es,ep,t,kk o e1,r}}
def M3:fk X (.builtin "len") (λxs H Q=>∃(p:vF) (n:Nat),xs=[.ref p]/\H p=some (I0 p n)/\n<=1000/\Q (.int n) H):=by
 intro pins s U H xs us Q I r h;let⟨p,n,rfl,hp,hn,q⟩:=h;let⟨u,rfl,rx⟩:=vals1 r;cases rx;let⟨⟨o,es,ep,t,ho,hex,hd,hf,rfl⟩,_⟩:=(show cB X.prog X.w H s.heap p (I0 p n) from I.bZ p _ hp)
 exact call_len_set ho hex hd hf () {.int _,H,I.tok _,{_,rfl},q}
end
def QC:V->Bool
 | .bH=>true
 | .int _=>true
 | .str _=>true
 | _=>false
def Hn (h:QC x=true):mj x=true:=by cases x <;> first | rfl | cases h
def SI {x y:V} (a:QC x=true) (b:QC y=true):J3 x y=decide (x=y):=by
 cases x <;> first | cases a;done | skip
 all_goals (cases y <;> first | rfl | exact Fz.symm | exact Fx.symm | cases b)
def WM (K:yB) (H:Hp) (a b:vF) (xs ys:List V):Prop:=(aH K H a xs/\aH K H b ys)\/(cU K H a xs/\cU K H b ys)
def WB (xs ys:List V):Prop:=xs=[]\/ys=[]\/(xs.all QC=true/\ys.all QC=true)
inductive We (K:yB) (x y:V) (H:Hp) (Q:VK):Prop
 | mk (a b:vF) (xs ys:List V) (_:x=.ref a) (_:y=.ref b) (_:WM K H a b xs ys) (_:WB xs ys) (_:Q (.bl (decide (xs=ys))) H)
inductive SE (K:yB) (x y:V) (H:Hp) (Q:VK):Prop
 | mk (a b:vF) (xs ys:List V) (_:x=.ref a) (_:y=.ref b) (_:WM K H a b xs ys) (_:WB xs ys) (_:Q (.bl (!decide (xs=ys))) H)
def KP (r:Vals xs its) (h:j<⇑its):∃x,xs[j]?=some x/\RelV x its[j]:=by
 let hl:=⇑r;let⟨u,hu,ru⟩:=r.get (i:=j) (x:=xs[j]'()) (zd ());rw[zd h] at hu;cases hu;exact{_,zd (),ru}
section
variable {X:Cx}
def Fw (r:Vals xs its) (r':Vals ys jts) (p:WB xs ys):∀j (h1:j<its.toArray.size) (h2:j<jts.toArray.size),SeqAt.EqAt A s its.toArray[j] jts.toArray[j] (decide (xs[j]?=ys[j]?)):=by
 intro j h1 h2;let h1':j<⇑its:=by simpa using h1
 let h2':j<⇑jts:=by simpa using h2
 let⟨x,ex,rx⟩:=KP r h1';let⟨y,ey,ry⟩:=KP r' h2';let l1:=⇑r;let l2:=⇑r';let hp:QC x=true/\QC y=true:=by
  rcases p with e | e | ⟨q1,q2⟩
  ·rw[e] at ex;simp at ex
  ·rw[e] at ey;simp at ey
  ·exact{yp.mp q1 x (zC ex),yp.mp q2 y (zC ey)}
 let g1:its.toArray[j]=its[j]:=by simp
 let g2:jts.toArray[j]=jts[j]:=by simp
 let z:=Pk (A:=A) (s:=s) rx ry (Hn hp.1) (Hn hp.2);rw[SI hp.1 hp.2] at z;let e:decide (xs[j]?=ys[j]?)=decide (x=y):=by rw[ex,ey,xO];simp
 rw[g1,g2,e];exact z
def all_eq {xs ys:List V} (h:⇑xs=⇑ys):((List.range ⇑xs).all λj=>decide (xs[j]?=ys[j]?))=decide (xs=ys):=by
 rw[xO,yp,xF];constructor
 ·intro hh
  refine List.ext_getElem? λj=>?_;rcases xI j ⇑xs with hj | hj
  ·exact ye (hh j (yS.mpr hj))
  ·rw[wQ hj,wQ ()]
 ·intro hh j _
  rw[hh];exact zg rfl
def Fn {xs ys:List V} (h:⇑xs≠⇑ys):decide (xs=ys)=false:=ze λe=>h (by rw[e])
def sG (hu:X.A.units+64<cLine):ng X (compareOp .Eq) (We X.K):=by
 intro pins s U H x y v u Q I rx ry h;let⟨a,b,xs,ys,rfl,rfl,hs,pl,q⟩:=h;cases rx;cases ry;rcases hs with⟨ha,hb⟩ | ⟨ha,hb⟩
 ·let⟨its,r,p,_⟩:=I.list ha
  let⟨jts,r',p',_⟩:=I.list hb;let l1:=⇑r;let l2:=⇑r'
  by_cases hl:⇑xs=⇑ys
  ·let z:=SeqAt.RcAt.lists (A:=X.A) (s:=s) p.isList p'.isList (by rw[yb,yb];ext) () (Fw r r' pl)
   rw[yb,<-l1,all_eq hl] at z;exact z _ _ _ _ {.bl _,H,I,rfl,q}
  ·let z:=SeqAt.RcAt.lists_lengths (A:=X.A) (s:=s) p.isList p'.isList (by rw[yb,yb];simp;ext) ()
   rw[Fn hl] at q;exact z _ _ _ _ {.bl false,H,I,rfl,q}
 ·let⟨its,r,p,_⟩:=I.tuple ha
  let⟨jts,r',p',_⟩:=I.tuple hb;let l1:=⇑r;let l2:=⇑r';let z:=SeqAt.RcAt.tuples (A:=X.A) (s:=s) p p' () (Fw r r' pl);rw[yb,yb,<-l1,<-l2] at z
  by_cases hl:⇑xs=⇑ys
  ·let em:min ⇑xs ⇑ys=⇑xs:=()
   rw[em,all_eq hl,hl,wk,Bool.and_true] at z;exact z _ _ _ _ {.bl _,H,I,rfl,q}
  ·rw[show(⇑xs == ⇑ys)=false by simpa using hl,wK] at z
   rw[Fn hl] at q;exact z _ _ _ _ {.bl false,H,I,rfl,q}
def E7 (hu:X.A.units+64<cLine):ng X (compareOp .NotEq) (SE X.K):=by
 intro pins s U H x y v u Q I rx ry h;let⟨a,b,xs,ys,rfl,rfl,hs,pl,q⟩:=h;cases rx;cases ry;rcases hs with⟨ha,hb⟩ | ⟨ha,hb⟩
 ·let⟨its,r,p,_⟩:=I.list ha
  let⟨jts,r',p',_⟩:=I.list hb;let l1:=⇑r;let l2:=⇑r'
  by_cases hl:⇑xs=⇑ys
  ·let z:=SeqAt.RcNeAt.lists (A:=X.A) (s:=s) p.isList p'.isList (by rw[yb,yb];ext) () (Fw r r' pl)
   rw[yb,<-l1,all_eq hl] at z;exact z _ _ _ _ {.bl _,H,I,rfl,q}
  ·let z:=SeqAt.RcNeAt.lists_lengths (A:=X.A) (s:=s) p.isList p'.isList (by rw[yb,yb];simp;ext) ()
   rw[Fn hl] at q;exact z _ _ _ _ {.bl true,H,I,rfl,q}
 ·let⟨its,r,p,_⟩:=I.tuple ha
  let⟨jts,r',p',_⟩:=I.tuple hb;let l1:=⇑r;let l2:=⇑r';let z:=SeqAt.RcNeAt.tuples (A:=X.A) (s:=s) p p' () (Fw r r' pl);rw[yb,yb,<-l1,<-l2] at z
  by_cases hl:⇑xs=⇑ys
  ·let em:min ⇑xs ⇑ys=⇑xs:=()
   rw[em,all_eq hl,hl,wk,Bool.and_true] at z;exact z _ _ _ _ {.bl _,H,I,rfl,q}
  ·rw[show(⇑xs == ⇑ys)=false by simpa using hl,wK] at z
   rw[Fn hl] at q;exact z _ _ _ _ {.bl true,H,I,rfl,q}
def RD (K:yB):V->Option Int->Option Int->Hp->VK->Prop:=λx lo hi H Q=>∃a xs,x=.ref a/\cU K H a xs/\(HT.eV ⇑xs 0 lo=0/\HT.eV ⇑xs ⇑xs hi=⇑xs)/\Q (.ref a) H
def Ql:PX X (RD X.K):=by
 intro pins s U H x v vl vu lo hi sl Q I rx hs pl pu h;let⟨a,xs,rfl,hx,hw,q⟩:=h;cases rx;let⟨its,r,ht,hz⟩:=I.tuple hx;let hlen:its.toArray.size=⇑xs:=by rw[yb];exact r.length.symm
 refine{"tuple",_,xQ.lookup,ht.typeIs,?_};rw[<-hlen] at hw;let⟨os,hos,hcs,hds⟩:=id hs;let hTs:s.TypeIs (.ref sl) "slice":={(os),hos,hcs}
 unfold getItem
 try with_reducible refine xJ ?_
 first | refine yu (yw ?_) | skip
 refine yu (wpAny_sequenceKey ht.typeIs ∅ ?_);refine yu (yZ (name:=Str.ofString "__getitem__") ht.typeIs xQ
  (xb xQ ht.typeIs entry_tuple_getitem ?_ (args_tuple_getitem _ _)))
 show wpAny _ _ (Builtin.Tuple.tupleItemsOf (.ref a) >>= _) _ _ s;refine yu (tupleItemsOf_ ht ?_);refine yu (vj hTs ?_);rw[yO ∅];refine yu (HT.kr hs pl pu ?_);show wpAny _ _ (if(((HT.eV its.toArray.size 0 lo:Nat):Int) == 0&&(1:Int) == 1&&(HT.eV its.toArray.size its.toArray.size hi-HT.eV its.toArray.size 0 lo) == its.toArray.size)=true then _ else _) _ _ s;rw[yO (by rw[hw.1,hw.2];simp)];unfold Builtin.Tuple.tupleIsExact;refine yu ?_
 repeat (any_goals (first | assumption | exact⟨_,rfl,yw ⟨.ref a,H,I,rfl,q⟩⟩ | refine yu (vj ht.typeIs ?_) | wp_step))
def RE (K:yB):V->Option Int->Option Int->Hp->VK->Prop:=λx lo hi H Q=>UA K x lo hi H Q\/RD K x lo hi H Q
def K0:PX X (RE X.K):=PX.or Ss Ql
def Hk (K:yB):V->List V->Hp->VK->Prop:=λx vs H Q=>∃l b xs zs,x=.ref l/\vs=[.ref b]/\H l=some (.lst xs)/\H b=some (.tup zs)/\⇑xs+⇑zs<=sizeLine/\Q .bH (upd H l (.lst (xs++zs)))
def Oj (K:yB):V->List V->Hp->VK->Prop:=λx vs H Q=>K8 x vs H Q\/Hk K x vs H Q
def JS:RW X "list.extend" (Hk X.K):=by
 intro pins s U H x vs v us Q I rx rv h;let⟨l,b,xs,zs,rfl,rfl,hH,hB,hz,q⟩:=h;cases rx;let⟨u,rfl,ru⟩:=rv.one;cases ru;let⟨z,its,n,r,hl,e⟩:=I.OR hH;let⟨_,its2,r2,⟨oc,od,oda,osl⟩,ho,hoc,n2,hod⟩:=(show cB X.prog X.w H s.heap b (.tup zs) from I.bZ b _ hB)
 let l1:=⇑r;let l2:=⇑r2;let hsz:its.toArray.size+its2.toArray.size<=sizeLine:=by rw[yb,yb];ext
 let hlong:¬(!its.toArray.isEmpty&&Builtin.List.listTooLong (its.toArray.size+its2.toArray.size))=true:=by
  rw[HJ hsz,wK];exact zL
 dsimp only at hoc hod;subst hoc hod;refine xb F.slot_list_extend {_,e,rfl} F.entry_list_extend ?_ (F.args_list_extend_2 _ _);show wpAny _ _ (Builtin.List.listExtendWith (.ref l) (.ref b) .none) _ _ s;unfold Builtin.List.listExtendWith;refine yu (vj (T:="tuple") {_,ho,rfl} ?_);let ht:(Value.type "tuple"== Value.type "tuple")=true:=by rfl
 rw[yO (by rw[ht];simp)];refine yu (listItems_at ho rfl ?_);refine yu (listItems_at e rfl ?_);rw[yN hlong];refine yu (listUpdate_at e rfl ?_ (by rw[yb];ext) (by show(its.toArray++its2.toArray).size<=sizeLine+1;rw[Array.size_append];ext));refine yw {_,rfl,?_};refine{.bH,_,I.QS (its':=its++its2) hH e (by simp) (r.append r2) ?_,rfl,q};rw[zh];ext
def i9:RW X "list.extend" (Oj X.K):=by
 intro pins s U H x vs v us Q I rx rv h;rcases h with h | h
 ·exact Mv pins s U H x vs v us Q I rx rv h
 ·exact JS pins s U H x vs v us Q I rx rv h
def Km:fk X (.builtin "len") (λxs H Q=>∃p kvs,xs=[.ref p]/\H p=some (.dK kvs)/\Q (.int (⇑kvs:Nat)) H):=by
 intro pins s U H xs us Q I r h;let⟨p,kvs,rfl,hp,q⟩:=h;let⟨u,rfl,rx⟩:=vals1 r;cases rx;exact U7 I (.inl hp) λt s' I'=>{.int _,H,I',{_,rfl},q}
end
abbrev Wg (K:yB):List V->Hp->VK->Prop:=λxs H Q=>∃p ys,xs=[.ref p]/\(aH K H p ys\/cU K H p ys)/\Q (.int ⇑ys) H
abbrev Wh (K:yB):List V->Hp->VK->Prop:=λxs H Q=>∃(a:vF) (bs:List Bool),xs=[.ref a]/\aH K H a (bs.map V.bl)/\Q (.bl (bs.any id)) H
abbrev UC:List V->Hp->VK->Prop:=λxs H Q=>∃i,xs=[.int i]/\i.natAbs.log2<1920/\Q (.str (toString i)) H
abbrev SF (K:yB):List V->Hp->VK->Prop:=λxs H Q=>∃p ys,xs=[.ref p]/\((aH K H p ys/\∀l,H l=none->Q (.ref l) (upd H l (.tup ys)))\/(cU K H p ys/\Q (.ref p) H))
abbrev UD (K:yB):List V->Hp->VK->Prop:=λxs H Q=>∃p ys,xs=[.ref p]/\(aH K H p ys\/cU K H p ys)/\∀l,H l=none->Q (.ref l) (upd H l (.lst ys))
def cV (lo:Int) (n:Nat):List Int:=(List.range n).map λi=>lo+(i:Nat)
def Sh (ta:TA):TE:=λU H Q=>ta U H λvs H1=>∃i j:Int,vs=[.int i,.int j]/\(-(2^62)<=i/\i<2^62/\-(2^62)<=j/\j<2^62)/\(j-i).toNat<=1000000/\∀l,H1 l=none->Q (.ref l) (upd H1 l (.lst ((cV i (j-i).toNat).map V.int)))
theorem KO:∀{xs:List V} {us:List vz},⇑xs=⇑us->(∀(i:Nat) (x:V) (u:vz),xs[i]?=some x->us[i]?=some u->RelV x u)->Vals xs us
 | [],[],_,_=>.nil
 | x::xs,u::us,h,k=>.cons (k 0 x u rfl rfl) (KO (by simpa using h) λi y v e e'=>k (i+1) y v (by simpa using e) (by simpa using e'))
 | [],_::_,h,_=>by simp at h
 | _::_,[],h,_=>by simp at h
section
variable {X:Cx}
def qD (hc:X.calm=true) (hg0:Gl X "list") (hm0:X.mg "list"= none) (hg:Gl X "range") (hm:X.mg "range"= none) (ha:PA X [a,b] ta)
  (hs:starEach [a,b] X.env=[(false,eval a X.env),(false,eval b X.env)]<|>qe_) (hs2:starEach [b] X.env=[(false,eval b X.env)]<|>qe_)
  (hs1:starEach [.Call (.Name "range" p2) [a,b] [] pos2] X.env=[(false,eval (.Call (.Name "range" p2) [a,b] [] pos2) X.env)]<|>qe_) :
  PE X (.Call (.Name "list" p1) [.Call (.Name "range" p2) [a,b] [] pos2] [] pos1) (Sh ta):=by
 intro pins s U H Q I h;refine xt (jd I hg0 hm0 (by decide +kernel:bootBuiltins "list"= some (.type "list")) ?_ ∅ ∅);refine yM (Q:=_) ?_ hs1 rfl;rw[hs1];refine wF ?_;refine Call_ (jd I hg hm boot_range (yM (cM (ha pos2 pins s U H _ I h) λus s1 ⟨vs,H1,I1,r1,q1⟩=>?_) (by rw[hs,hs2]) (by rw[hs2];rfl)));let⟨i,j,e,⟨q1,q2,q3,q4⟩,hz,q⟩:=q1;subst e;cases r1 with
 | cons r rr=>
  cases rr with
  | cons r' rr=>
   cases rr;let⟨t,rfl⟩:=r;let⟨t',rfl⟩:=r';refine call_range_2 ?_;refine vx ?_;let I2:Inv X pins U H1 {s1 with heap:=s1.heap.push {cls:=.type "range",data:=.fields #[.int i t,.int j t',.int 1 s1.toks]},toks:=s1.toks+1}:=I1.kept λb o e=>yv _ e;let hn:Builtin.Range.rangeSize i j 1=(((j-i).toNat:Nat):Int):=by rw[rangeSize_one];split <;> ext
   refine call_list_range (I2.ok.hd hc) (IsRange.new ..) (small_one q1 q2 q3 q4) hn (zM hz ∅) λh' tk acc c hk hS hit=>?_;let rv:Vals ((cV i (j-i).toNat).map V.int) acc.toList:=by
    refine KO ?_ ?_
    ·let e1:⇑acc.toList=(j-i).toNat:=by rw[yQ];exact hit.1
     rw[za,e1];unfold cV;simp
    ·intro k x u hx hu
     rw[xk] at hu;let⟨tk',rfl⟩:=hit.2 k u hu;let hk':k<(j-i).toNat:=by
      have:=(Array.getElem?_eq_some_iff.mp hu).1;rw[hit.1] at this;exact this
     unfold cV at hx;rw[zB,zK,List.getElem?_range hk'] at hx;cases hx;exact{tk',by simp}
   let hl:H1 (s1.heap.push {cls:=.type "range",data:=.fields #[.int i t,.int j t',.int 1 s1.toks]}).objs.size=none:=I2.bZ.fresh (zm _);refine{.ref _,_,I2.laid (t':=tk) hk (zm _) (show cB X.prog X.w _ h' _ (.lst ((cV i (j-i).toNat).map V.int)) from{?_,acc.toList,c,rv,?_}),rfl,q _ hl}
   ·rw[za]
    let sl:=yC;unfold cV;simp;ext
   ·simpa using hS
end
def Je:typeLookup (.type "zip") "__len__"= pure none:=by rw[typeLookup_type,builtinLookup_eq_fast];kernel_rfl
def Gr:typeLookup (.type "zip") "__length_hint__"= pure none:=by rw[typeLookup_type,builtinLookup_eq_fast];kernel_rfl
section
variable {prog:vB} {w:vC} {A:vD} {E:vz->vA->Prop} {s:vA}
def uh (ho:s.heap.get? a=some o) (h:Q (some o) s):wpAny (model prog w) A (loadIfAlive a) Q E s:=
 λΓ p _=>by
  unfold loadIfAlive;rw[Sem.wp_loadIfAlive,ho];exact h
abbrev KC (h:vG) (z TI TO T:vF) (f1:Bool):Prop:=h.get? z=some {cls:=.type "zip",dict:=none,data:=.fields #[rawInt T,.bool f1,.bool false,.ref TI,.ref TO],slots:=#[]}
structure Vw (t1 t2:Bool) (h:vG) (z TI TO i1 i2 l1 l2:vF) (k:Nat):Prop where
 z:∃T f1,KC h z TI TO T f1/\(∃o,h.get? T=some o)/\T≠z/\T≠i1/\T≠i2
 ti:IsPair h TI (.ref i1) (.ref i2)
 to:∃o,h.get? TO=some o
 i1:dr t1 h i1 l1 k
 i2:dr t2 h i2 l2 k
def HI {z TI TO T:vF} {f1:Bool} {o:Obj} {Q:Bool->vA->Prop} (hz:KC s.heap z TI TO T f1) (hT:s.heap.get? T=some o)
  (hQ:∀h',KC h' z TI TO T true->Heap.SameBut z s.heap h'->Q false {s with heap:=h'}):wpAny (model prog w) A (Builtin.SmallTypes.ownedTupleIsFree (.ref z)) Q E s:=by
 unfold Builtin.SmallTypes.ownedTupleIsFree;refine yu (y7 hz rfl (x:=rawInt T) rfl ?_);show wpAny _ _ (loadIfAlive ((T:Int).toNat) >>= _) _ _ _;rw[x8];refine yu (uh hT ?_);show wpAny _ _ (field (.ref z) 1 >>= _) _ _ _;refine yu (y7 hz rfl (x:=.bool f1) rfl ?_);cases f1 with
 | true=>exact yw (hQ s.heap hz {rfl,λ_ _=>rfl})
 | false=>
  show wpAny _ _ (setField (.ref z) 1 (.bool true) >>= _) _ _ _;exact yu (xM hz (by simp) λg1 z1 q1=>yw (hQ g1 z1 q1))
def LO {t1 t2:Bool} {z TI TO i1 i2 l1 l2:vF} {k:Nat} {xs ys:Array vz} {x y:vz} {Q:vz->vA->Prop} (D:Nf z TI TO i1 i2) (L1:B5 l1 z TO i1 i2) (L2:B5 l2 z TO i1 i2)
  (S:Vw t1 t2 s.heap z TI TO i1 i2 l1 l2 k) (hl1:eZ t1 s.heap l1 xs) (hl2:eZ t2 s.heap l2 ys) (hx:xs[k]?=some x) (hy:ys[k]?=some y)
  (hQ:∀h',Vw t1 t2 h' z TI TO i1 i2 l1 l2 (k+1)->IsPair h' ↑s x y->rH z TO i1 i2 s.heap h'->Q (.ref ↑s) {s with heap:=h'}) :
  wpAny (model prog w) A (Builtin.«zip.__next__» {[.ref z],[]}) (λfin s'=>∃v,fin=.done (.ret v)/\Q v s') E s:=by
 let⟨⟨T,f1,hz,⟨o,hT⟩,n1,n2,n3⟩,hTI,⟨oT,hTO⟩,h1,h2⟩:=S;show wpAny _ _ (field (.ref z) 2 >>= _) _ _ _;refine yu (y7 hz rfl (x:=.bool false) rfl ?_);show wpAny _ _ (field (.ref z) 3 >>= _) _ _ _;refine yu (y7 hz rfl (x:=.ref TI) rfl (yu (xw hTI rfl ?_)));show wpAny _ _ (Builtin.SmallTypes.ownedTupleIsFree (.ref z) >>= _) _ _ _;refine yu (HI hz hT λg1 z1 q1=>?_);simp only[wG,wu];refine yu ?_;simp only[List.forIn_toArray,List.forIn_cons,List.forIn_nil];refine yu (yu (xJ ?_));show wpAny _ _ (Builtin.SmallTypes.nextOf (.ref i1) >>= _) _ _ _;refine yu (pS (h1.but q1 D.a3) (hl1.but q1 L1.a1) hx λg2 p2 q2=>yw ?_);refine yw ?_;refine yu (yu (xJ ?_));show wpAny _ _ (Builtin.SmallTypes.nextOf (.ref i2) >>= _) _ _ _;refine yu (pS ((h2.but q1 D.a4).but q2 D.b1.symm) ((hl2.but q1 L2.a1).but q2 L2.a3) hy λg3 p3 q3=>yw ?_);refine yw (yw ?_);let sz:g3.objs.size=↑s:=by rw[q3.1,q2.1,q1.1]
 let k3:∀c o,c≠z->c≠i1->c≠i2->s.heap.get? c=some o->g3.get? c=some o:=λc o c1 c3 c4 e=>q3.extBut _ _ c4 (q2.extBut _ _ c3 (q1.extBut _ _ c1 e));show wpAny _ _ (newTuple [x,y] >>= _) _ _ _;refine yu (wpAny_newTuple ?_);refine yw {_,rfl,?_};let up:∀c o,g3.get? c=some o->(g3.push {cls:=.type "tuple",data:=.seq #[x,y]}).get? c=some o:=λc o e=>yv _ e;let gp:(g3.push {cls:=.type "tuple",data:=.seq #[x,y]}).get? g3.objs.size=some {cls:=.type "tuple",data:=.seq #[x,y]}:=yx _ rfl;rw[sz] at gp;show Q (.ref g3.objs.size) _;rw[sz];refine hQ _ {{T,true,up _ _ (q3.extBut _ _ D.a4.symm (q2.extBut _ _ D.a3.symm z1)),{o,up _ _ (k3 _ _ n1 n2 n3 hT)},n1,n2,n3},up _ _ (k3 _ _ D.a1 D.a6 D.a7 hTI),{oT,up _ _ (k3 _ _ D.a2 D.a8 D.a9 hTO)},(p2.but q3 D.b1).at (up _),p3.at (up _)} gp λc o c1 c2 c3 c4 e=>up _ _ (k3 c o c1 c3 c4 e)
def LN {t1 t2:Bool} {z TI TO i1 i2 l1 l2:vF} {k:Nat} {xs:Array vz} {Q:Fin->vA->Prop} (hh:A.handled=none) (D:Nf z TI TO i1 i2) (L1:B5 l1 z TO i1 i2)
  (S:Vw t1 t2 s.heap z TI TO i1 i2 l1 l2 k) (hl1:eZ t1 s.heap l1 xs) (hx:xs[k]?=none)
  (hE:∀h' e,rH z TO i1 i2 s.heap h'->(∃o,h'.get? e=some o/\o.cls=.type "StopIteration")->E (.ref e) {s with heap:=h'}) :
  wpAny (model prog w) A (Builtin.«zip.__next__» {[.ref z],[]}) Q E s:=by
 let⟨⟨T,f1,hz,⟨o,hT⟩,n1,n2,n3⟩,hTI,⟨oT,hTO⟩,h1,h2⟩:=S;show wpAny _ _ (field (.ref z) 2 >>= _) _ _ _;refine yu (y7 hz rfl (x:=.bool false) rfl ?_);show wpAny _ _ (field (.ref z) 3 >>= _) _ _ _;refine yu (y7 hz rfl (x:=.ref TI) rfl (yu (xw hTI rfl ?_)));show wpAny _ _ (Builtin.SmallTypes.ownedTupleIsFree (.ref z) >>= _) _ _ _;refine yu (HI hz hT λg1 z1 q1=>?_);simp only[wG,wu];refine yu ?_;simp only[List.forIn_toArray,List.forIn_cons,List.forIn_nil];refine yu (yu (xJ ?_));show wpAny _ _ (Builtin.SmallTypes.nextOf (.ref i1) >>= _) _ _ _;refine yu (Ez hh (h1.but q1 D.a3) (hl1.but q1 L1.a1) hx λg2 e q2 he=>?_);exact hE g2 e (λc o c1 c2 c3 c4 x=>q2 _ _ c3 (q1.extBut _ _ c1 x)) he
def Nc (t1 t2:Bool) (h:vG) (z TI TO i1 i2 l1 l2:vF) (k:Nat):Prop:=(k=0/\P7 t1 t2 h z TI TO i1 i2 l1 l2 0 .none)\/Vw t1 t2 h z TI TO i1 i2 l1 l2 k
def Nc.type {t1 t2:Bool} {z TI TO i1 i2 l1 l2:vF} {k:Nat} (S:Nc t1 t2 s.heap z TI TO i1 i2 l1 l2 k):s.TypeIs (.ref z) "zip":=by
 rcases S with⟨_,S⟩ | S
 ·exact{_,S.z,rfl}
 ·let⟨_,_,e,_⟩:=S.z;exact{_,e,rfl}
theorem Nc.at {t1 t2:Bool} {h h':vG} {z TI TO i1 i2 l1 l2:vF} {k:Nat} (S:Nc t1 t2 h z TI TO i1 i2 l1 l2 k) {B:vF} (hk:∀c o,c≠B->h.get? c=some o->h'.get? c=some o) (hB:∃o,h'.get? B=some o) (nB:B∉[z,TI,TO,i1,i2]):Nc t1 t2 h' z TI TO i1 i2 l1 l2 k:=by
 simp only[zD,zE,yV,not_or] at nB;let⟨b1,b2,b3,b4,b5⟩:=nB;rcases S with⟨e,S⟩ | S
 ·exact .inl {e,hk _ _ (Ne.symm b1) S.z,hk _ _ (Ne.symm b2) S.ti,(let ⟨x,y,q⟩:=S.to;{x,y,hk _ _ (Ne.symm b3) q}),S.i1.at λo=>hk _ o (Ne.symm b4),S.i2.at λo=>hk _ o (Ne.symm b5)}
 ·let⟨T,f1,z1,⟨o,hT⟩,n1,n2,n3⟩:=S.z
  refine .inr {{T,f1,hk _ _ (Ne.symm b1) z1,?_,n1,n2,n3},hk _ _ (Ne.symm b2) S.ti,(let ⟨x,q⟩:=S.to;{x,hk _ _ (Ne.symm b3) q}),S.i1.at λo=>hk _ o (Ne.symm b4),S.i2.at λo=>hk _ o (Ne.symm b5)}
  by_cases e:T=B
  ·rw[e];exact hB
  ·exact{o,hk _ _ e hT}
def Nc.obj {t1 t2:Bool} {h:vG} {z TI TO i1 i2 l1 l2:vF} {k:Nat} (S:Nc t1 t2 h z TI TO i1 i2 l1 l2 k):∀b∈[z,TI,TO,i1,i2],∃o,h.get? b=some o:=by
 intro b hb;simp only[zD,zE,yV] at hb;rcases S with⟨e,S⟩ | S
 ·rcases hb with rfl | rfl | rfl | rfl | rfl
  ·exact{_,S.z}
  ·exact{_,S.ti}
  ·exact let ⟨x,y,q⟩:=S.to;{_,q}
  ·exact let ⟨o,e,_⟩:=S.i1.get;{(o),e}
  ·exact let ⟨o,e,_⟩:=S.i2.get;{(o),e}
 ·rcases hb with rfl | rfl | rfl | rfl | rfl
  ·let⟨_,_,e,_⟩:=S.z;exact{_,e}
  ·exact{_,S.ti}
  ·exact S.to
  ·exact let ⟨o,e,_⟩:=S.i1.get;{(o),e}
  ·exact let ⟨o,e,_⟩:=S.i2.get;{(o),e}
def LM {t1 t2:Bool} {z TI TO i1 i2 l1 l2:vF} {k:Nat} {xs ys:Array vz} {x y:vz} {Q:Option vz->vA->Prop} (D:Nf z TI TO i1 i2) (L1:B5 l1 z TO i1 i2) (L2:B5 l2 z TO i1 i2)
  (S:Nc t1 t2 s.heap z TI TO i1 i2 l1 l2 k) (hl1:eZ t1 s.heap l1 xs) (hl2:eZ t2 s.heap l2 ys) (hx:xs[k]?=some x) (hy:ys[k]?=some y)
  (hQ:∀h',Nc t1 t2 h' z TI TO i1 i2 l1 l2 (k+1)->IsPair h' ↑s x y->rH z TO i1 i2 s.heap h'->Q (some (.ref ↑s)) {s with heap:=h'}) :
  wpAny (model prog w) A (pyNext (.ref z)) Q E s:=by
 let ob:=S.obj;let lt:∀b∈[z,TI,TO,i1,i2],↑s≠b:=λb hb e=>by
  let⟨o,ho⟩:=ob b hb;rw[<-e] at ho;exact absurd (yy ho) (yf _)
 rcases S with⟨e,S⟩ | S
 ·subst e
  refine Gs D L1 L2 S hl1 hl2 hx hy λh' a1 a2 a3=>hQ h' (.inr {{_,false,a1.z,{_,a2},lt z (by simp),lt i1 (by simp),lt i2 (by simp)},a1.ti,(let ⟨x,y,q⟩:=a1.to;{_,q}),a1.i1,a1.i2}) a2 a3
 ·let hT:s.TypeIs (.ref z) "zip":=by let⟨_,_,e,_⟩:=S.z;exact{_,e,rfl}
  unfold pyNext;exact yu (wW (yZ (name:=Str.ofString "__next__") hT xN (xb xN hT F.entry_zip_next (LO D L1 L2 S hl1 hl2 hx hy λh' a1 a2 a3=>yw (hQ h' (.inr a1) a2 a3)) (vw _))))
def LL {t1 t2:Bool} {z TI TO i1 i2 l1 l2:vF} {k:Nat} {xs ys:Array vz} {Q:Option vz->vA->Prop} (hh:A.handled=none) (D:Nf z TI TO i1 i2) (L1:B5 l1 z TO i1 i2) (L2:B5 l2 z TO i1 i2)
  (S:Nc t1 t2 s.heap z TI TO i1 i2 l1 l2 k) (hl1:eZ t1 s.heap l1 xs) (hl2:eZ t2 s.heap l2 ys) (hx:xs[k]?=none)
  (hQ:∀h',rH z TO i1 i2 s.heap h'->Q none {s with heap:=h'}):wpAny (model prog w) A (pyNext (.ref z)) Q E s:=by
 rcases S with⟨e,S⟩ | S
 ·subst e
  exact Gq hh D L1 L2 S hl1 hl2 (.inl hx) hQ
 ·let hT:s.TypeIs (.ref z) "zip":=by let⟨_,_,e,_⟩:=S.z;exact{_,e,rfl}
  unfold pyNext;refine yu (wW (yZ (name:=Str.ofString "__next__") hT xN (xb xN hT F.entry_zip_next (LN hh D L1 S hl1 hx λh' e hk he=>?_) (vw _))));let⟨o,ho,hc⟩:=he;exact yu (wpAny_isInstance (T:="StopIteration") (b:=true) {(o),ho,hc} isSubtype_stop (yw (hQ _ hk)))
end
def Pairs (H:Hp) (xs ys us:List V) (k:Nat):Prop:=⇑us=k/\∀(j:Nat) (x y:V),j<k->xs[j]?=some x->ys[j]?=some y->∃q,us[j]?=some (.ref q)/\H q=some (.tup [x,y])
def ax.RB {t:Bool} {K:yB} {H H':Hp} {a:vF} {xs:List V} (e:ax H H') (h:Dm t K H a xs):Dm t K H' a xs:=by
 cases t
 ·exact e.seq h
 ·exact e.tup h
abbrev LJ (h:vG) (S:vF) (acc:Array vz) (c:Nat):Prop:=h.get? S=some {cls:=.type "list",dict:=none,data:=.seq acc c,slots:=#[]}
section
variable {X:Cx} {pins:List (vF×Obj)} {U:St}
def NC {A:vD} {R:Result->vA->Prop} {t1 t2:Bool} {a b z TI TO i1 i2 S:vF} {xs ys:List V} {res:vz} (hh:A.handled=none) (D:Nf z TI TO i1 i2) (L1:B5 a z TO i1 i2) (L2:B5 b z TO i1 i2) (hl:⇑xs=⇑ys) (hz:⇑xs<=sizeLine) (nS:S∉[z,TI,TO,i1,i2]) :
  ∀(n k:Nat) (s:vA) (H:Hp) (acc:Array vz) (c:Nat) (us:List V),⇑xs-k=n->k<=⇑xs->Inv X pins U H s->(∀b∈[z,TI,TO,i1,i2,S],pN X pins H b)->Nc t1 t2 s.heap z TI TO i1 i2 a b k->Dm t1 X.K H a xs->Dm t2 X.K H b ys->
  LJ s.heap S acc c->Vals us acc.toList->Pairs H xs ys us k->
  (∀(s':vA) (H':Hp) (us':List V) (acc':Array vz) (c':Nat),Inv X pins U H' s'->pN X pins H' S->ax H H'->LJ s'.heap S acc' c'->Vals us' acc'.toList->Pairs H' xs ys us' ⇑xs->R (.ok (.ret res)) s')->
  codeAny (model X.prog X.w) A (.builtin "list.extend.loop" {[.ref S,.ref z,res],[]}) R s:=by
 intro n
 induction n with
 | zero=>
  intro k s H acc c us hk hi I hf S0 q1 q2 hS rv pr hR;let e:k=⇑xs:=()
  subst e;let⟨its,rx,p1,_⟩:=I.sq q1;let⟨jts,ry,p2,_⟩:=I.sq q2;refine xX F.entry_extend_loop ?_;rw[vc vh _];show wpAny _ A.in1 (pyNext (.ref z) >>= _) _ _ s;let hl:=⇑rx;refine yu (LL (A:=A.in1) hh D L1 L2 S0 p1 p2 (by simp;ext) λh' hk'=>?_);let kk:∀b u,b∉[z,TI,TO,i1,i2,S]->s.heap.get? b=some u->h'.get? b=some u:=λb u hb e=>hk' b u (λz=>hb (by simp[z])) (λz=>hb (by simp[z])) (λz=>hb (by simp[z])) (λz=>hb (by simp[z])) e;let kS:LJ h' S acc c:=hk' S _ (λz=>nS (by simp[z])) (λz=>nS (by simp[z])) (λz=>nS (by simp[z])) (λz=>nS (by simp[z])) hS;exact yw (hR _ H us acc c (I.turns (t':=s.toks) hf kk) (hf S (by simp)) (λ_ _ e=>e) kS rv pr)
 | succ n ih=>
  intro k s H acc c us hk hi I hf S0 q1 q2 hS rv pr hR;let hlt:k<⇑xs:=()
  let⟨its,rx,p1,_⟩:=I.sq q1;let⟨jts,ry,p2,_⟩:=I.sq q2;let⟨u,hu,ru⟩:=rx.get (zd hlt);let⟨u',hu',ru'⟩:=ry.get (zd (show k<⇑ys by ext));refine xX F.entry_extend_loop ?_;rw[vc vh _];show wpAny _ A.in1 (pyNext (.ref z) >>= _) _ _ s;let ob:=S0.obj;let lt:∀b∈[z,TI,TO,i1,i2,S],b≠↑s:=λb hb e=>by
   obtain⟨o,ho⟩:∃o,s.heap.get? b=some o:=by
    rcases zG.mp (show b∈[z,TI,TO,i1,i2]++[S] from hb) with z' | z'
    ·exact ob b z'
    ·rw[zA.mp z'];exact{_,hS}
   rw[e] at ho;exact absurd (yy ho) (yf _)
  refine yu (LM (A:=A.in1) D L1 L2 S0 p1 p2 (x:=u) (y:=u') (by simpa using hu) (by simpa using hu') λh' S1 hT hk'=>?_);let kS:LJ h' S acc c:=hk' S _ (λz=>nS (by simp[z])) (λz=>nS (by simp[z])) (λz=>nS (by simp[z])) (λz=>nS (by simp[z])) hS;let az:acc.size=k:=by rw[<-yQ,<-⇑rv];exact pr.1
  show wpAny _ A.in1 (updateSeq S (·.push (.ref ↑s)) >>= _) _ _ _;refine yu ?_;let oth:∀b o,b≠S->h'.get? b=some o->(h'.update S (Obj.mapSeq (·.push (.ref ↑s)))).get? b=some o:=λb o hb e=>(yz _ _ (Ne.symm hb)).trans e;let S2:=yA (Obj.mapSeq (·.push (Value.ref ↑s))) kS rfl;let hn:H ↑s=none:=I.bZ.fresh (zm _);let hT2:=oth _ _ (Ne.symm (lt S (by simp))) hT;let I2:Inv X pins U (upd H ↑s (.tup [xs[k],ys[k]])) {s with heap:=h'.update S (Obj.mapSeq (·.push (.ref ↑s))),toks:=s.toks}:=
   I.Af (t':=s.toks) hf (zm _) (λb o hb e=>oth b o (λz=>hb (by simp[z])) (hk' b o (λz=>hb (by simp[z])) (λz=>hb (by simp[z])) (λz=>hb (by simp[z])) (λz=>hb (by simp[z])) e))
    {by show 2<=sizeLine;decide,[u,u'],.cons ru (.cons ru' .nil),{_,hT2,rfl,_,rfl}}
  let s1:ax H (upd H ↑s (.tup [xs[k],ys[k]])):=bj hn;refine wpAny_updateSeq kS rfl (yw {plainId_quiet vh _,ih (k+1) _ (upd H ↑s (.tup [xs[k],ys[k]])) (acc.push (.ref ↑s)) _ (us++[.ref ↑s]) () hlt I2 (λb hb=>?_) ?_ (s1.RB q1) (s1.RB q2) S2 ?_ ?_ ?_})
   (by rw[az];ext) (by show(acc.push _).size<=sizeLine+1;rw[Array.size_push,az];ext)
  ·let⟨f0,f1,f2,f3,f4,f5⟩:=hf b hb
   exact{by rw[aE (lt b hb)];exact f0,f1,f2,f3,f4,f5}
  ·exact S1.at (B:=S) oth {_,S2} nS
  ·rw[Array.toList_push]
   exact Vals.append rv (.cons rfl .nil)
  ·refine{by rw[zh,pr.1];rfl,λj x y hj hx hy=>?_}
   rcases xI j k with z' | z'
   ·let⟨q,e1,e2⟩:=pr.2 j x y z' hx hy
    exact{q,by rw[wq (by rw[pr.1];exact z')];exact e1,s1 _ _ e2}
   ·let e:j=k:=()
    subst e;rw[zd hlt] at hx;rw[zd (show j<⇑ys by ext)] at hy;cases hx;cases hy;exact{↑s,by rw[z9 (by rw[pr.1];exact zm _),pr.1,Nat.sub_self];rfl,aC}
  ·exact λs' H' us' acc' c' I' f' sm l' v' p'=>hR s' H' us' acc' c' I' f' (s1.trans sm) l' v' p'
def C7 {A:vD} {E:vz->vA->Prop} {s:vA} {H:Hp} {Q:vz->vA->Prop} {t1 t2:Bool} {a b z TI TO i1 i2:vF} {xs ys:List V} (hh:A.handled=none) (D:Nf z TI TO i1 i2) (L1:B5 a z TO i1 i2) (L2:B5 b z TO i1 i2) (hl:⇑xs=⇑ys) (hz:⇑xs<=sizeLine)
  (I:Inv X pins U H s) (hf:∀b∈[z,TI,TO,i1,i2],pN X pins H b) (Z0:P7 t1 t2 s.heap z TI TO i1 i2 a b 0 .none) (q1:Dm t1 X.K H a xs) (q2:Dm t2 X.K H b ys)
  (hQ:∀(s':vA) (H':Hp) (us':List V) (l:vF),Inv X pins U H' s'->H l=none->ax H H'->H' l=some (.lst us')->Pairs H' xs ys us' ⇑xs->Q (.ref l) s') :
  wpAny (model X.prog X.w) A (call (.type "list") [.ref z]) Q E s:=by
 let S0:Nc t1 t2 s.heap z TI TO i1 i2 a b 0:=.inl {(rfl),Z0};let nS:↑s∉[z,TI,TO,i1,i2]:=λhb=>by
  let⟨o,ho⟩:=S0.obj _ hb;exact absurd (yy ho) (yf _)
 refine callType_codes (Q₁:=λobj s₁=>obj=.ref ↑s/\s₁={s with heap:=s.heap.push {cls:=.type "list",data:=.seq #[]}}) F.called_list (F.typeCall_list_1 _) F.entry_list_init
  (code_list_new _ {(rfl),rfl}) λobj s₁ h₁=>?_
 let⟨rfl,rfl⟩:=h₁;let hS:(s.heap.push {cls:=.type "list",data:=.seq #[]}).get? ↑s=some {cls:=.type "list",data:=.seq #[]}:=yx _ rfl;refine{{_,hS,rfl},F.args_list_init_2 _ _,?_};let kp:∀b o,s.heap.get? b=some o->(s.heap.push {cls:=.type "list",data:=.seq #[]}).get? b=some o:=λb o e=>yv _ e;let fS:pN X pins H ↑s:=I.uT (zm _) (I.bZ.fresh (zm _));let hf6:∀b∈[z,TI,TO,i1,i2,↑s],pN X pins H b:=λb hb=>by
  rcases zG.mp (show b∈[z,TI,TO,i1,i2]++[↑s] from hb) with z' | z'
  ·exact hf b z'
  ·rw[zA.mp z'];exact fS
 let S1:Nc t1 t2 (s.heap.push {cls:=.type "list",data:=.seq #[]}) z TI TO i1 i2 a b 0:=S0.at (B:=↑s) (λc o _ e=>kp c o e) {_,hS} nS;let I1:Inv X pins U H {s with heap:=s.heap.push {cls:=.type "list",data:=.seq #[]}}:=I.kept (t':=s.toks) kp;let zz:IsZip (s.heap.push {cls:=.type "list",data:=.seq #[]}) z TI TO .none:=kp _ _ Z0.z;generalize hS0:↑s=S at hS nS fS hf6 ⊢;let s0S:X.s₀.heap.objs.size<=S:=by rw[<-hS0];exact I.sz
 let lo:↑s<=S:=Nat.le_of_eq hS0;clear kp;generalize (s.heap.push {cls:=.type "list",data:=.seq #[]}:vG)=h1 at hS S1 I1 zz;show wpAny _ A.in1.in1 (do let old <-Builtin.List.listItems (.ref S);Builtin.List.listUpdate (.ref S) (λ_=>#[]);letGo old.toList.reverse;Builtin.List.listExtendWith (.ref S) (.ref z) .none) _ _ _;refine yu ?_;unfold Builtin.List.listItems;refine yu (xw hS rfl (yw ?_));show wpAny _ A.in1.in1 (updateSeq S (λ_=>#[]) >>= λ_=>letGo (#[]:Array vz).toList.reverse >>= λ_=>Builtin.List.listExtendWith (.ref S) (.ref z) .none) _ _ _;refine yu (wpAny_updateSeq hS rfl ?_);let hS2:=yA (Obj.mapSeq (λ_=>(#[]:Array vz))) hS rfl;let oth:∀b o,b≠S->h1.get? b=some o->(h1.update S (Obj.mapSeq (λ_=>(#[]:Array vz)))).get? b=some o:=
  λb o hb e=>(yz _ _ (Ne.symm hb)).trans e
 refine yu (wpAny_letGo ?_);let hSI:S≠z:=λe=>nS (by rw[e];simp);replace zz:=oth _ _ hSI.symm zz;let S2:=S1.at (B:=S) oth {_,hS2} nS;let I2:=I1.turns (t':=s.toks) (ch:=[S]) (λb hb=>by rw[zA.mp hb];exact fS) (λb o hb e=>oth b o (λz=>hb (by simp[z])) e);clear oth S1 I1 hS;generalize (h1.update S (Obj.mapSeq (λ_=>(#[]:Array vz))):vG)=h2 at hS2 S2 I2 zz;dsimp only at I2 ⊢;unfold Builtin.List.listExtendWith;let hT:Shared.TypeIs {s with heap:=h2,toks:=s.toks} (.ref z) "zip":=S2.type (s:={s with heap:=h2,toks:=s.toks});refine yu (vj hT ?_);let e1:Builtin.List.listSameRef (.ref S) (.ref z)=false:=by simp[Builtin.List.listSameRef,hSI]
 let e2:(Value.type "zip"== Value.type "list")=false:=by decide
 let e3:(Value.type "zip"== Value.type "tuple")=false:=by decide
 simp only[e1,e2,e3,Bool.or_false,wG,wu];refine yu (wpAny_pyIter_zip (s:={s with heap:=h2,toks:=s.toks}) zz ?_);refine yu (xJ ?_);unfold Builtin.List.listLengthHint;refine yu (wpAny_specialOf hT Je ?_);show wpAny _ A.in1.in1 (specialOf (Value.ref z) (Str.ofString "__length_hint__") >>= _) _ _ _;refine yu (wpAny_specialOf hT Gr ?_);refine yw ?_;show wpAny _ A.in1.in1 (rule "list.extend.makes-room" >>= λ_=>Builtin.List.listTouch (.ref S) >>= λ_=>
  again (.builtin "list.extend.loop" {[.ref S,.ref z,.none],[]})) _ _ _
 refine yu (wpAny_rule ?_);refine yu ?_;show wpAny _ A.in1.in1 (updateSeq S (·.push .none) >>= λ_=>updateSeq S (·.pop)) _ _ _;refine yu (wpAny_updateSeq hS2 rfl ?_);let hS3:=yA (Obj.mapSeq (·.push Value.none)) hS2 rfl;refine wpAny_updateSeq (hz:=by seq_fits) hS3 rfl ?_;let hS4:=yA (Obj.mapSeq (·.pop)) hS3 rfl;let oth:∀b o,b≠S->h2.get? b=some o->((h2.update S (Obj.mapSeq (·.push Value.none))).update S (Obj.mapSeq (·.pop))).get? b=some o:=
  λb o hb e=>(yz _ _ (Ne.symm hb)).trans ((yz _ _ (Ne.symm hb)).trans e)
 let S4:=S2.at (B:=S) oth {_,hS4} nS;let I4:=I2.turns (t':=s.toks) (ch:=[S]) (λb hb=>by rw[zA.mp hb];exact fS) (λb o hb e=>oth b o (λz=>hb (by simp[z])) e);refine yw {plainId_quiet vh _,NC (X:=X) (pins:=pins) (U:=U) (A:=A.in1) hh D L1 L2 hl hz nS ⇑xs 0 _ H _ _ [] rfl (yg _) I4 hf6 S4 q1 q2 hS4 .nil {rfl,λj x y hj=>()} λs' H' us' acc' c' I' f' sm l' v' p'=>?_};refine{rfl,?_};let⟨f0,f1,f2,f3,f4,f5⟩:=f';let I5:Inv X pins U (upd H' S (.lst us')) s':=I'.Uk f0 (by
  cases q:X.s₀.heap.get? S with
  | none=>rfl
  | some o=>exact absurd (yy q) (Nat.not_lt.mpr s0S)) f1 f4 f5 {by rw[p'.1];exact hz,acc'.toList,c',v',l'}
 refine hQ s' _ us' S I5 fS.1 (sm.trans (bj f0)) aC {p'.1,λj x y hj hx hy=>?_};let⟨q,e1,e2⟩:=p'.2 j x y hj hx hy;exact{q,e1,bj f0 _ _ e2}
def Sg (K:yB) (ta:TA):TE:=λU H Q=>ta U H λvs H1=>∃t1 t2 a b xs ys,vs=[.ref a,.ref b]/\Dm t1 K H1 a xs/\Dm t2 K H1 b ys/\⇑xs=⇑ys/\∀l H2 us,ax H1 H2->H1 l=none->H2 l=some (.lst us)->Pairs H2 xs ys us ⇑xs->Q (.ref l) H2
def OC (hc:X.calm=true) (hg0:Gl X "list") (hm0:X.mg "list"= none) (hg:Gl X "zip") (hm:X.mg "zip"= none) (ha:PA X [a,b] ta)
  (hs:starEach [a,b] X.env=[(false,eval a X.env),(false,eval b X.env)]<|>qe_) (hs2:starEach [b] X.env=[(false,eval b X.env)]<|>qe_)
  (hs1:starEach [.Call (.Name "zip" p2) [a,b] [] pos2] X.env=[(false,eval (.Call (.Name "zip" p2) [a,b] [] pos2) X.env)]<|>qe_) :
  PE X (.Call (.Name "list" p1) [.Call (.Name "zip" p2) [a,b] [] pos2] [] pos1) (Sg X.K ta):=by
 intro pins s U H Q I h;refine xt (jd I hg0 hm0 (by decide +kernel:bootBuiltins "list"= some (.type "list")) ?_ ∅ ∅);refine yM (Q:=_) ?_ hs1 rfl;rw[hs1];refine wF ?_;refine Call_ (jd I hg hm PF (yM (cM (ha pos2 pins s U H _ I h) λus s1 ⟨vs,H1,I1,r1,q1⟩=>?_) (by rw[hs,hs2]) (by rw[hs2];rfl)));let⟨t1,t2,a,b,xs,ys,e,hq,hq',hl,q⟩:=q1;subst e;cases r1 with
 | cons r rr=>
  cases rr with
  | cons r' rr=>
   cases rr;cases r;cases r';let⟨its,rv,pl,hz⟩:=I1.sq hq;let⟨jts,rv',pl',hz'⟩:=I1.sq hq';let la:=pl.lt;let lb:=pl'.lt;refine Gu pl pl' λg S hk=>?_;refine vx ?_;let I2:Inv X pins U H1 {s1 with heap:=g}:=I1.kept (t':=s1.toks) hk;let D:Nf (↑s1+4) (↑s1+2) (↑s1+3) ↑s1 (↑s1+1):=by
    constructor <;> (show _≠(_:Nat)) <;> ext
   let L:∀c,c<↑s1->B5 c (↑s1+4) (↑s1+3) ↑s1 (↑s1+1):=λc hc=>by
    constructor <;> (show _≠(_:Nat)) <;> ext
   refine C7 (I2.ok.hd hc) D (L a la) (L b lb) hl hz I2 (λc hc=>?_) S hq hq' λs' H' us' l I' hn sm e pr=>{.ref l,H',I',rfl,q l H' us' sm hn e pr}
   let hb':↑s1<=c:=by
    simp only[zD,zE,yV] at hc;rcases hc with e | e | e | e | e <;> (subst e;first | exact Nat.le_add_right _ _ | exact zm _)
   exact I1.uT hb' (I1.bZ.fresh hb')
end
end L2
namespace Sc
open PySem L2 Lm
noncomputable def mixed (c k:Int):Int:=(c%2305843009213693951+1)*(k*k+48271)*40692%2147483399
def cq (h0:0<=i) (h1:i<2^n):Sz n i:=by
 unfold Sz;let e:((2^n:Nat):Int)=(2:Int)^n:=by simp
 rw[<-e] at h1;ext
def Tt (h1:48<=c) (h2:c<=57):c∈("0123456789": Str).cps.toList:=by
 have:c=48\/c=49\/c=50\/c=51\/c=52\/c=53\/c=54\/c=55\/c=56\/c=57:=()
 rcases this with rfl | rfl | rfl | rfl | rfl | rfl | rfl | rfl | rfl | rfl <;> decide
noncomputable def ik (x:Int×Int):Str:=if x.2=1 then dec x.1 else dec x.1 ++"/" ++ dec x.2
abbrev Item:=Option (Int×Int)×(Int×Int)
noncomputable def pz:Item->Str
 | (none,x)=> "r:" ++ ik x
 | (some q,x)=>dec q.1 ++":" ++ dec q.2 ++":" ++ ik x
def P8 (x:Int×Int):Prop:=Rd x/\0<x.1/\x.1<10000/\x.2<10000
def PY (q:Int×Int):Prop:=-100<q.1/\q.1<100/\-100<q.2/\q.2<100/\(q.2-7*q.1)%12=0
def Nj (it:Item):Prop:=P8 it.2/\∀q,it.1=some q->PY q
def fR (h1:c≠45) (h2:¬(48<=c/\c<=57)):c∉(dec n).cps.toList:=by
 intro z
 by_cases h0:0<=n
 ·let⟨m,rfl⟩:=yL h0
  exact h2 (kG z)
 ·obtain⟨m,em⟩:∃m:Nat,-n=(m:Int):={(-n).toNat,()}
  rw[v8 (),em,cF] at z;rcases zG.mp z with z | z
  ·let e:("-": Str).cps.toList=[45]:=rfl
   rw[e] at z;exact h1 (zA.mp z)
  ·exact h2 (kG z)
def DM (h:P8 x):58∉(ik x).cps.toList:=by
 unfold ik;split
 ·exact fR ∅ ∅
 ·rw[cF,cF]
  intro z;rcases zG.mp z with z | z
  ·rcases zG.mp z with z | z
   ·exact fR ∅ ∅ z
   ·let e:("/": Str).cps.toList=[47]:=rfl
    rw[e] at z;exact absurd (zA.mp z) ∅
  ·exact fR ∅ ∅ z
def Ir (h0:0<=n) (h:n<10000):⇑(dec n)<=4:=by
 let⟨m,rfl⟩:=yL h0;exact Ed ∅ ()
abbrev jy (x:Int×Int):HO:=.tup [.int x.1,.int x.2]
inductive Kz (H:Hp):V->Option (Int×Int)->Prop where
 | bH:Kz H .bH none
 | ref {b:vF} {q:Int×Int}:H b=some (jy q)->Kz H (.ref b) (some q)
def Kz.mono (s:ax H H') (h:Kz H v o):Kz H' v o:=by
 cases h with
 | bH=>exact .bH
 | ref h=>exact .ref (s _ _ h)
def WD (H:Hp) (v:V) (it:Item):Prop:=∃p pv a,v=.ref p/\H p=some (.tup [pv,.ref a])/\H a=some (jy it.2)/\Kz H pv it.1
noncomputable def uU:List Nat:=("0123456789": Str).cps.toList
noncomputable def rn (most:Int) (cs:List Nat):Option Int:=
 if(⇑cs:Int)<1 then none else if most<⇑cs then none else if cs.all (λc=>decide (c∈uU))=true then(if cs[0]?=some 48/\1<⇑cs then none else some ((NumText.digitsVal cs:Nat):Int)) else none
noncomputable def ov:Option Int->V
 | none=>.bH
 | some n=>.int n
noncomputable def rs (most:Int) (t:Str):Option Int:=if t.cps.toList[0]?=some 45 then(match rn most (t.cps.toList.drop 1) with | some n=>if n=0 then none else some (-n) | none=>none) else rn most t.cps.toList
noncomputable def rp (a b:Str):Option (Int×Int):=match rs 2 a,rs 2 b with
 | some f,some h=>if(h-7*f)%12=0 then some (f,h) else none
 | _,_=>none
noncomputable def P5 (t:Str):Option (Int×Int):=match Txt.split t "/" with
 | [a]=>(match rn 4 a.cps.toList with | some n=>some (red n 1) | none=>none)
 | [a,b]=>(match rn 4 a.cps.toList,rn 4 b.cps.toList with | some n,some m=>if m=0 then none else some (red n m) | _,_=>none)
 | _=>none
noncomputable def lr (t:Str):Option (Int×Int):=match P5 t with
 | some x=>if x.1=0 then none else some x
 | none=>none
noncomputable def ir (t:Str):Option Item:=match lr ((Txt.split t ":").getLast?.getD "") with
 | none=>none
 | some x=>if(Txt.split t ":").dropLast=[("r": Str)] then some (none,x) else match (Txt.split t ":").dropLast with
  | [a,b]=>(match rp a b with | some q=>some (some q,x) | none=>none)
  | _=>none
def Rq (H:Hp) (v:V):Option Item->Prop
 | none=>v=.bH
 | some it=>WD H v it
def Ih (h:c∈uU):48<=c/\c<=57:=by
 let e:uU=[48,49,50,51,52,53,54,55,56,57]:=rfl;rw[e] at h;simp at h;ext
def Oa (h:rn most cs=some n) (hm:most<=4):0<=n/\n<10000/\(cs.all (λc=>decide (c∈uU))=true):=by
 unfold rn at h;split at h
 ·cases h
 ·split at h
  ·cases h
  ·split at h
   ·rename_i h1 h2 h3
    split at h
    ·cases h
    ·cases h
     refine{Int.natCast_nonneg _,?_,h3};let hl:⇑cs<=4:=()
     let key:∀(l:List Nat) (a:Nat),l.all (λc=>decide (c∈uU))=true->l.foldl (λacc c=>acc*10+(c-48)) a<(a+1)*10^⇑l:=by
      intro l
      induction l with
      | nil=>intro a _;simp
      | cons c l ih=>
       intro a ha;rw[wY,zO] at ha;let i3:=Ih (ye ha.1);let i1:=ih (a*10+(c-48)) ha.2;let i2:(a*10+(c-48)+1)*10^⇑l<=((a+1)*10)*10^⇑l:=Nat.mul_le_mul_right _ ();rw[List.foldl_cons,zv,Nat.pow_succ,Nat.mul_comm (10^⇑l) 10,<-Nat.mul_assoc];exact yc i1 i2
     let k1:NumText.digitsVal cs<10^⇑cs:=by have:=key cs 0 h3;rw[Nat.zero_add,Nat.one_mul] at this;exact this
     let k2:10^⇑cs<=10^4:=Nat.pow_le_pow_right ∅ hl;ext
   ·cases h
def Kn (h:cs.all (λc=>decide (c∈uU))=true):NumText.AllDigits cs:=λc hc=>by
 have:=(yp.mp h) c hc;exact Ih (ye this)
inductive jC (vs:List V) (H:Hp) (Q:VK) (E:XK):Prop
 | mk (a b:Int) (_:vs=[.int a,.int b]) (_:0<=a) (_:0<=b) (_:Q (.int (Int.gcd a b:Nat)) H)
inductive fL (vs:List V) (H:Hp) (Q:VK) (E:XK):Prop
 | mk (t b:Int) (_:vs=[.int t,.int b]) (_:0<=t) (_:0<b) (_:Sz 8999 b) (_:∀p H',ax H H'->H' p=some (jy (red t b))->Q (.ref p) H')
inductive N1 (vs:List V) (H:Hp) (Q:VK) (E:XK):Prop
 | mk (x y:Int×Int) (p q:vF) (n m:Nat) (_:vs=[.ref p,.ref q]) (_:H p=some (jy x)) (_:H q=some (jy y)) (_:Rd x) (_:Rd y) (_:B6 n x) (_:B6 m y) (_:n+m<=8999) (_:∀r H',ax H H'->H' r=some (jy (add x y))->Q (.ref r) H')
inductive Jr (vs:List V) (H:Hp) (Q:VK) (E:XK):Prop
 | mk (x y:Int×Int) (p q:vF) (_:vs=[.ref p,.ref q]) (_:H p=some (jy x)) (_:H q=some (jy y)) (_:B6 8999 x) (_:B6 8999 y) (_:Q (.bl (decide (x.1*y.2<y.1*x.2))) H)
inductive Cj (vs:List V) (H:Hp) (Q:VK) (E:XK):Prop
 | mk (c k:Int) (_:vs=[.int c,.int k]) (_:0<=k) (_:k<1000000) (_:Q (.int (mixed c k)) H)
abbrev Ar:Sp:=fL
inductive gR (vs:List V) (H:Hp) (Q:VK) (E:XK):Prop
 | mk (t:Str) (most:Int) (_:vs=[.str t,.int most]) (_:⇑t<=600) (_:∀H',ax H H'->Q (ov (rn most t.cps.toList)) H')
inductive lU (vs:List V) (H:Hp) (Q:VK) (E:XK):Prop
 | mk (t:Str) (most:Int) (_:vs=[.str t,.int most]) (_:⇑t<=600) (_:∀H',ax H H'->Q (ov (rs most t)) H')
inductive mO (vs:List V) (H:Hp) (Q:VK) (E:XK):Prop
 | mk (a b:Str) (_:vs=[.str a,.str b]) (_:⇑a<=600) (_:⇑b<=600) (_:∀v H',ax H H'->Kz H' v (rp a b)->Q v H')
def lT (C:vF):Sp:=λvs H Q E=>∃(t:Str),vs=[.str t]/\⇑t<=600/\(∀x,P5 t=some x->∀p H',ax H H'->H' p=some (jy x)->Q (.ref p) H')/\(P5 t=none->∀H',ax H H'->E (.ref C) none H')
def gI:Sp:=λvs H Q _=>∃(t:Str),vs=[.str t]/\⇑t<=600/\∀v H',ax H H'->Kz H' v (lr t)->Q v H'
def ou:Sp:=λvs H Q _=>∃(t:Str),vs=[.str t]/\⇑t<=600/\∀v H',ax H H'->Rq H' v (ir t)->Q v H'
noncomputable def dL (x:Int×Int):Dt:=.tup [.int x.1,.int x.2]
noncomputable def dO (f:α->Dt):Option α->Dt
 | none=>.bH
 | some x=>f x
noncomputable def eL (it:Item):Dt:=.tup [dO dL it.1,dL it.2]
noncomputable def jf (l:List Int):Dt:=.tup (l.map .int)
noncomputable def mr (l:List Str):Dt:=.tup (l.map .str)
abbrev End:=Int×List Int
noncomputable def lH (e:End):Dt:=.tup [.int e.1,jf e.2]
structure Rep where
 first:Int
 last:Int
 times:Int
 ends:List End
noncomputable def gO (r:Rep):Dt:=.tup [.int r.first,.int r.last,.int r.times,.tup (r.ends.map lH)]
structure Nv where
 aQ:Int×Int
 key:Int
 marks:List Str
noncomputable def kI (b:Nv):Dt:=.tup [dL b.aQ,.int b.key,mr b.marks]
structure Jump where
 tY:Int
 vW:Int
 cY:Int
 fU:Option Int
noncomputable def jS (j:Jump):Dt:=.tup [.int j.tY,.int j.vW,.int j.cY,dO .int j.fU]
noncomputable def words (t:Str):List Str:=(Txt.split t " ").filter λw=>decide (w≠ "")
noncomputable def sgn:List Nat:=("abcdefghijklmnopqrstuvwxyz0123456789": Str).cps.toList
noncomputable def cH (t:Str):Option Str:=if(⇑t:Int)<1 then none else if(12:Int)<⇑t then none else if t.cps.toList.all (λc=>decide (c∈sgn))=true then some t else none
noncomputable def os:Option Str->V
 | none=>.bH
 | some x=>.str x
noncomputable def fA (t:Str):Option Int:=rn 3 t.cps.toList
noncomputable def lY (t:Str) (lo hi:Int):Option Int:=match fA t with
 | some n=>if n<lo then none else if hi<n then none else some n
 | none=>none
noncomputable def AL (a b:Str):Option (Int×Int):=match rp a b with
 | some q=>if 12<(if q.1<0 then -q.1 else q.1) then none else some q
 | none=>none
noncomputable def Dc:List Int:=[1,2,4,8,16,32]
noncomputable def iS (t:Str):Option (Int×Int):=match Txt.split t "/" with
 | [a,b]=>(match lY a 1 32,fA b with | some m,some n=>if n∈Dc then some (m,n) else none | _,_=>none)
 | _=>none
noncomputable def Hg (t:Str):Option Int:=match rs 3 t with
 | some k=>if 7<(if k<0 then -k else k) then none else some k
 | none=>none
noncomputable def nc:List (Option α)->Option (List α)
 | []=>some []
 | none::_=>none
 | some x::r=>match nc r with
  | some l=>some (x::l)
  | none=>none
noncomputable def AN (t:Str):Option End:=match Txt.split t ":" with
 | [a,b]=>(match fA a,nc ((Txt.split b ",").map fA) with | some n,some ps=>some (n,ps) | _,_=>none)
 | _=>none
noncomputable def lj:List Str->Option (Str×(Int×Int)×(Int×Int))
 | [a,b,c,d]=>(match cH a,AL b c,P5 d with | some n,some t,some l=>some (n,t,l) | _,_,_=>none)
 | _=>none
noncomputable def o6 (ws:List Str):Option (Str×List Str):=match ws with
 | a::b::r=>(match nc ((a::b::r).map cH) with | some (n::ps)=>some (n,ps) | _=>none)
 | _=>none
noncomputable def CC:List Str->Option Nv
 | m::k::ms=>(match nc (ms.map cH) with | some l=>(match iS m,Hg k with | some x,some y=>some {(x),y,l} | _,_=>none) | none=>none)
 | _=>none
noncomputable def qq:List Str->Option (Str×Int×Str)
 | [a,b,c]=>(match cH a,fA b,cH c with | some x,some y,some z=>some (x,y,z) | _,_,_=>none)
 | _=>none
noncomputable def j0:List Str->Option (Int×Str×List Item)
 | b::p::i::r=>(match nc ((i::r).map ir) with | some l=>if l.all (λit=>it.1.isNone)=true then none else(match fA b,cH p with | some x,some y=>some (x,y,l) | _,_=>none) | none=>none)
 | _=>none
noncomputable def jI:List Str->Option Rep
 | a::b::c::r=>(match nc (r.map AN) with | some l=>(match fA a,fA b,lY c 2 9 with | some x,some y,some z=>some {(x),y,z,l} | _,_,_=>none) | none=>none)
 | _=>none
noncomputable def tS:List Str->Option Jump
 | [a,b,c,d]=>(match fA a,fA b,fA c with | some x,some y,some z=>(match fA d with | some n=>some {x,y,z,some n} | none=>if d ="end" then some {(x),y,z,none} else none) | _,_,_=>none)
 | _=>none
noncomputable def one (f:Str->Option α):List Str->Option α
 | [w]=>f w
 | _=>none
inductive Told where
 | bF (n:Str)
 | cI (n:Str) (t l:Int×Int)
 | cu (n:Str) (ps:List Str)
 | bar (b:Nv)
 | aG (l:Int×Int)
 | holds (p:Str) (b:Int) (i:Str)
 | aJ (b:Int) (p:Str) (its:List Item)
 | rep (r:Rep)
 | bS (j:Jump)
noncomputable def nH:List Str->Option Told
 | []=>none
 | w::r=>
  if w ="player" then(one cH r).map .bF
  else if w ="instrument" then(lj r).map λx=>.cI x.1 x.2.1 x.2.2
  else if w ="staff" then(o6 r).map λx=>.cu x.1 x.2
  else if w ="bar" then(CC r).map .bar
  else if w ="upbeat" then(one lr r).map .aG
  else if w ="holds" then(qq r).map λx=>.holds x.1 x.2.1 x.2.2
  else if w ="notes" then(j0 r).map λx=>.aJ x.1 x.2.1 x.2.2
  else if w ="repeat" then(jI r).map .rep
  else if w ="jump" then(tS r).map .bS
  else none
noncomputable def du (r:Rep):List (Int×Int×List Int):=(r.ends.zip ((r.ends.drop 1).map (·.1)++[r.last+1])).map λp=>(p.1.1,p.2-1,p.1.2)
noncomputable def sortI (l:List Int):List Int:=l.mergeSort
noncomputable def eX:List End->Int->List Int->Option (Int×List Int)
 | [],a,ps=>some (a,ps)
 | e::r,a,ps=>if e.1<=a then none else if e.2≠sortI e.2 then none else eX r e.1 (ps++e.2)
noncomputable def K5 (lo:Int) (n:Nat):List Int:=(List.range n).map λi=>lo+(i:Nat)
noncomputable def dH (r:Rep):Bool:=match r.ends with
 | []=>true
 | _=>(match eX r.ends (r.first-1) [] with | none=>false | some (a,ps)=>decide (a<=r.last)&&decide (sortI ps=K5 1 (r.times+1-1).toNat))
noncomputable def kX (rs:List Rep) (r:Rep):Bool:=match rs.getLast? with
 | some q=>if r.first<=q.last then false else decide (r.first<=r.last)&&dH r
 | none=>decide (r.first<=r.last)&&dH r
noncomputable def dC (rs:List Rep) (b:Int):Option Rep:=rs.find? λr=>decide (r.first<=b)&&decide (b<=r.last)
noncomputable def gK (rs:List Rep) (b:Int):Bool:=match dC rs b with
 | none=>true
 | some r=>decide (b=r.last)
noncomputable def dZ (rs:List Rep) (b:Int):Bool:=match dC rs b with
 | none=>true
 | some r=>decide (b=r.first)
noncomputable def lE (rs:List Rep) (b:Int):Bool:=rs.all λr=>(du r).all λe=>!(decide (e.1<=b)&&decide (b<=e.2.1)&&!decide (r.times∈e.2.2))
noncomputable def gN (rs:List Rep) (j:Jump):Bool:=
 if j.cY<j.vW then false else if j.tY<j.cY then false else
 match j.fU with
 | some c=>(decide (j.tY<c)&&dZ rs c&&lE rs c)&&(gK rs j.tY&&dZ rs j.vW&&lE rs j.cY)
 | none=>gK rs j.tY&&dZ rs j.vW&&lE rs j.cY
structure bU where
 players:List Str:=[]
 ao:List (Str×(Int×Int)×(Int×Int)):=[]
 aM:List (Str×List Str):=[]
 aL:List Nv:=[]
 aG:Option (Int×Int):=none
 holds:List (Str×List (Int×Str)):=[]
 aJ:List ((Int×Str)×List Item):=[]
 repeats:List Rep:=[]
 bS:Option Jump:=none
noncomputable def bU.aQ (S:bU) (b:Nat):Int×Int:=match S.aL[b]? with
 | some x=>red x.aQ.1 x.aQ.2
 | none=>(0,1)
noncomputable def bU.len (S:bU) (b:Nat):Int×Int:=match S.aG with
 | some u=>if b=0 then u else S.aQ b
 | none=>S.aQ b
noncomputable def jX (l:List Item):Int×Int:=l.foldl (λt it=>add t it.2) (0,1)
noncomputable def bU.has (S:bU) (bs:List Int):Bool:=bs.all λb=>decide (b<⇑S.aL)
noncomputable def fault (S:bU):Told->Option Str
 | .bF n=>if n∈S.players then some "twice" else if 12<=⇑S.players then some "many" else none
 | .cI n _ _=>if n∈S.ao.map (·.1) then some "twice" else if 12<=⇑S.ao then some "many" else none
 | .cu n ps=>if n∈S.aM.map (·.1) then some "twice" else if¬ps.Nodup then some "twice" else if S.aM.any (λq=>ps.any λp=>decide (p∈q.2))=true then some "twice" else if ps.any (λp=>!decide (p∈S.players))=true then some "name" else none
 | .bar _=>if 200<=⇑S.aL then some "many" else none
 | .aG l=>if S.aG.isSome=true then some "twice" else if ⇑S.aL=0 then some "bar" else if¬l.1*(S.aQ 0).2<(S.aQ 0).1*l.2 then some "length" else if S.aJ.any (λp=>decide (p.1.1=0))=true then some "length" else none
 | .holds p b i=>
  let hs:=(S.holds.lookup p).getD []
  if(match hs.getLast? with | some q=>decide (b<=q.1) | none=>false)=true then some "twice" else if p∉S.players then some "name" else if i∉S.ao.map (·.1) then some "name" else if¬S.has [b]=true then some "bar" else if 20<=⇑hs then some "many" else none
 | .aJ b p its=>if(b,p)∈S.aJ.map (·.1) then some "twice" else if p∉S.players then some "name" else if¬S.has [b]=true then some "bar" else if jX its≠S.len b.toNat then some "length" else if 40<⇑its then some "many" else none
 | .rep r=>if¬S.has ([r.first,r.last]++r.ends.map (·.1))=true then some "bar" else if S.bS.isSome=true then some "form" else if¬kX S.repeats r=true then some "form" else if 20<=⇑S.repeats then some "many" else none
 | .bS j=>if S.bS.isSome=true then some "twice" else if¬S.has ([j.tY,j.vW,j.cY]++j.fU.toList)=true then some "bar" else if¬gN S.repeats j=true then some "form" else none
noncomputable def eU (hs:List (Str×List (Int×Str))) (p:Str) (h:Int×Str):List (Str×List (Int×Str)):=
 if p∈hs.map (·.1) then hs.map λq=>if q.1=p then(q.1,q.2++[h]) else q else hs++[(p,[h])]
noncomputable def bK (S:bU):Told->bU
 | .bF n=>{S with players:=S.players++[n]}
 | .cI n t l=>{S with ao:=S.ao++[(n,t,l)]}
 | .cu n ps=>{S with aM:=S.aM++[(n,ps)]}
 | .bar b=>{S with aL:=S.aL++[b]}
 | .aG l=>{S with aG:=some l}
 | .holds p b i=>{S with holds:=eU S.holds p (b,i)}
 | .aJ b p its=>{S with aJ:=S.aJ++[((b,p),its)]}
 | .rep r=>{S with repeats:=S.repeats++[r]}
 | .bS j=>{S with bS:=some j}
theorem cT (h:Is H d v):∀{ds:List Dt} {vs:List V},aD H ds vs->aD H (ds++[d]) (vs++[v])
 | [],_,q=>by unfold aD at q;subst q;show aD H [d] [v];unfold aD;exact{v,[],rfl,h,by unfold aD;rfl}
 | c::ds,_,q=>by
  unfold aD at q;let⟨u,r,rfl,h1,h2⟩:=q;show aD H (c::(ds++[d])) (u::(r++[v]));unfold aD;exact{u,_,rfl,h1,cT h h2}
def DV (h:aH K H p xs) (hi:i<⇑xs):(Jd K p).go i H:={xs,xs[i],h,zd hi}
def Fv (h:cU K H p xs) (hi:i<⇑xs):(P9 K p).go i H:={xs,xs[i],h,zd hi}
def eN (e:ax H H') (h:H a=some (.tup xs)):cU K H' a xs:=cU.of (e _ _ h)
theorem _root_.L2.ax.back (s:ax H H') (h:H' a=none):H a=none:=by
 cases q:H a with
 | none=>rfl
 | some u=>rw[s _ _ q] at h;cases h
def m7 {α:Type} {J:It} {ws:List α} {enc:α->V} {U₀:St} {g:TG} {te:TE} {Q:VK} {H1:Hp} (F:α->Dt) (Pσ:St->Prop) (hn:⇑ws<=sizeLine) (h0:Pσ U₀)
  (go:∀i H,i<⇑ws->ax H1 H->J.go i H) (stop:∀H,ax H1 H->J.stop ⇑ws H) (yl:∀(i:Nat) x H H2 (hi:i<⇑ws),ax H1 H->J.Jg i H x H2->H2=H/\x=enc ws[i])
  (turn:∀(a:α) (U:St) (H:Hp) (R:St->V->Hp->Prop),a∈ws->ax H1 H->Pσ U->(∀σ3 y H5,ax H H5->Is H5 (F a) y->Pσ σ3->R σ3 y H5)->g (enc a) U H λσ3 H3=>te σ3 H3 λy H5=>R σ3 y H5)
  (fin:∀D vs H,ax H1 H->H1 D=none->H D=some (.lst vs)->aD H (ws.map F) vs->Q (.ref D) H):cP U₀ g rQ te Q J H1:=by
 refine{λi m xs U H=>m=⇑ws-i/\i<=⇑ws/\⇑xs=i/\ax H1 H/\aD H ((ws.take i).map F) xs/\Pσ U,{_,rfl,yg _,rfl,ax.refl _,by simp[aD],h0},?_};rintro i m xs U H ⟨rfl,hi,hx,sm,il,pσ⟩;rcases xI i ⇑ws with hlt | hge
 ·refine .inr {go i H hlt sm,(),?_}
  intro x H2 hy;let⟨rfl,rfl⟩:=yl i x H H2 hlt sm hy;refine turn ws[i] U H2 (λσ3 y H5=>if true=true then∃m',m'<⇑ws-i/\(m'=⇑ws-(i+1)/\i+1<=⇑ws/\⇑(xs++[y])=i+1/\ax H1 H5/\aD H5 ((ws.take (i+1)).map F) (xs++[y])/\Pσ σ3) else False) (ym hlt) sm pσ ?_;rintro σ3 y H5 s5 iy p3;rw[yO rfl];refine{_,(),rfl,hlt,by simp[hx],sm.trans s5,?_,p3};rw[xx,zd hlt,zk];exact cT iy (il.mono s5)
 ·let e:i=⇑ws:=()
  subst e;refine .inl {stop H sm,(),λD hD=>?_};let il':aD H (ws.map F) xs:=by rw[zN] at il;exact il
  exact fin D xs _ (sm.trans (bj hD)) (sm.back hD) aC (il'.mono (bj hD))
def BF {α:Type} {J:It} {ws:List α} {enc:α->V} {U₀:St} {g:TG} {te:TE} {Q:VK} {H1:Hp} (F:α->Dt) (Pσ:St->Prop) (hn:⇑ws<=sizeLine) (h0:Pσ U₀)
  (go:∀i H,i<⇑ws->ax H1 H->J.go i H) (stop:∀H,ax H1 H->J.stop ⇑ws H) (yl:∀(i:Nat) x H H2 (hi:i<⇑ws),ax H1 H->J.Jg i H x H2->H2=H/\x=enc ws[i])
  (turn:∀(a:α) (U:St) (H:Hp) (R:St->V->Hp->Prop),a∈ws->ax H1 H->Pσ U->(∀σ3 y H5,ax H H5->Is H5 (F a) y->Pσ σ3->R σ3 y H5)->g (enc a) U H λσ3 H3=>te σ3 H3 λy H5=>R σ3 y H5)
  (fin:∀D vs H,ax H1 H->H D=some (.lst vs)->aD H (ws.map F) vs->Q (.ref D) H):cP U₀ g rQ te Q J H1:=m7 F Pσ hn h0 go stop yl turn λD vs H s _=>fin D vs H s
def dA {K:yB} {α:Type} {p:vF} {ws:List α} {enc:α->V} {U₀:St} {g:TG} {te:TE} {Q:VK} {H1:Hp} (F:α->Dt) (Pσ:St->Prop) (hn:⇑ws<=sizeLine) (hp:aH K H1 p (ws.map enc)) (h0:Pσ U₀)
  (turn:∀(a:α) (U:St) (H:Hp) (R:St->V->Hp->Prop),a∈ws->ax H1 H->Pσ U->(∀σ3 y H5,ax H H5->Is H5 (F a) y->Pσ σ3->R σ3 y H5)->g (enc a) U H λσ3 H3=>te σ3 H3 λy H5=>R σ3 y H5)
  (fin:∀D vs H,ax H1 H->H1 D=none->H D=some (.lst vs)->aD H (ws.map F) vs->Q (.ref D) H):cP U₀ g rQ te Q (Jd K p) H1:=by
 refine m7 F Pσ hn h0 (λi H hi sm=>DV (sm.seq hp) (by rw[za];exact hi)) (λH sm=>{_,sm.seq hp,by rw[za];exact zm _}) ?_ turn fin;rintro i x H H2 hi sm ⟨rfl,hy⟩;let hx':=hy _ (sm.seq hp);rw[zK,zd hi] at hx';cases hx';exact{(rfl),rfl}
def fG {K:yB} {α:Type} {p:vF} {ws:List α} {enc:α->V} {U₀:St} {g:TG} {te:TE} {Q:VK} {H1:Hp} (F:α->Dt) (Pσ:St->Prop) (hn:⇑ws<=sizeLine) (hp:aH K H1 p (ws.map enc)) (h0:Pσ U₀)
  (turn:∀(a:α) (U:St) (H:Hp) (R:St->V->Hp->Prop),a∈ws->ax H1 H->Pσ U->(∀σ3 y H5,ax H H5->Is H5 (F a) y->Pσ σ3->R σ3 y H5)->g (enc a) U H λσ3 H3=>te σ3 H3 λy H5=>R σ3 y H5)
  (fin:∀D vs H,ax H1 H->H D=some (.lst vs)->aD H (ws.map F) vs->Q (.ref D) H):cP U₀ g rQ te Q (Jd K p) H1:=by
 refine BF F Pσ hn h0 (λi H hi sm=>DV (sm.seq hp) (by rw[za];exact hi)) (λH sm=>{_,sm.seq hp,by rw[za];exact zm _}) ?_ turn fin;rintro i x H H2 hi sm ⟨rfl,hy⟩;let hx':=hy _ (sm.seq hp);rw[zK,zd hi] at hx';cases hx';exact{(rfl),rfl}
def gr {K:yB} {α:Type} {p:vF} {ws:List α} {enc:α->V} {U₀:St} {g:TG} {te:TE} {Q:VK} {H1:Hp} (F:α->Dt) (Pσ:St->Prop) (hn:⇑ws<=sizeLine) (hp:H1 p=some (.tup (ws.map enc))) (h0:Pσ U₀)
  (turn:∀(a:α) (U:St) (H:Hp) (R:St->V->Hp->Prop),a∈ws->ax H1 H->Pσ U->(∀σ3 y H5,ax H H5->Is H5 (F a) y->Pσ σ3->R σ3 y H5)->g (enc a) U H λσ3 H3=>te σ3 H3 λy H5=>R σ3 y H5)
  (fin:∀D vs H,ax H1 H->H D=some (.lst vs)->aD H (ws.map F) vs->Q (.ref D) H):cP U₀ g rQ te Q (P9 K p) H1:=by
 refine BF F Pσ hn h0 (λi H hi sm=>Fv (eN sm hp) (by rw[za];exact hi)) (λH sm=>{_,eN sm hp,by rw[za];exact zm _}) ?_ turn fin;rintro i x H H2 hi sm ⟨rfl,hy⟩;let hx':=hy _ (eN sm hp);rw[zK,zd hi] at hx';cases hx';exact{(rfl),rfl}
noncomputable def gd (v:V):Bool:=decide (v=.bH)
noncomputable def Dt.gd:Dt->Bool
 | .bH=>true
 | _=>false
def O2:∀{d:Dt} {v:V},Is H d v->gd v=Dt.gd d
 | .bH,_,h=>by unfold Is at h;subst h;rfl
 | .bl _,_,h=>by unfold Is at h;subst h;rfl
 | .int _,_,h=>by unfold Is at h;subst h;rfl
 | .str _,_,h=>by unfold Is at h;subst h;rfl
 | .tup _,_,h=>by unfold Is at h;let⟨a,vs,rfl,_⟩:=h;rfl
theorem jQ:∀{ds:List Dt} {vs:List V},aD H ds vs->vs.any gd=ds.any Dt.gd
 | [],_,h=>by unfold aD at h;subst h;rfl
 | d::ds,_,h=>by
  unfold aD at h;let⟨v,r,rfl,h1,h2⟩:=h;rw[xu,xu,O2 h1,jQ h2]
theorem j8:∀{bs:List Bool} {vs:List V},aD H (bs.map Dt.bl) vs->vs=bs.map V.bl
 | [],_,h=>by unfold aD at h;exact h
 | b::bs,_,h=>by
  rw[zj] at h;unfold aD at h;let⟨v,r,rfl,h1,h2⟩:=h;unfold Is at h1;rw[h1,j8 h2];rfl
theorem dG:∀{bs:List Str} {vs:List V},aD H (bs.map Dt.str) vs->vs=bs.map V.str
 | [],_,h=>by unfold aD at h;exact h
 | b::bs,_,h=>by
  rw[zj] at h;unfold aD at h;let⟨v,r,rfl,h1,h2⟩:=h;unfold Is at h1;rw[h1,dG h2];rfl
theorem dW:∀{bs:List Int} {vs:List V},aD H (bs.map Dt.int) vs->vs=bs.map V.int
 | [],_,h=>by unfold aD at h;exact h
 | b::bs,_,h=>by
  rw[zj] at h;unfold aD at h;let⟨v,r,rfl,h1,h2⟩:=h;unfold Is at h1;rw[h1,dW h2];rfl
theorem Ew:∀{bs:List Str},aD H (bs.map Dt.str) (bs.map V.str)
 | []=>by simp[aD]
 | b::bs=>by rw[zj,zj];unfold aD;exact{_,_,rfl,by unfold Is;rfl,Ew}
theorem qW:∀{bs:List Int},aD H (bs.map Dt.int) (bs.map V.int)
 | []=>by simp[aD]
 | b::bs=>by rw[zj,zj];unfold aD;exact{_,_,rfl,by unfold Is;rfl,qW}
def KH (d:α->Dt):Prop:=∀a,Dt.gd (d a)=false
theorem iQ {α:Type} {d:α->Dt} (f:KH d):∀{l:List (Option α)},(l.map (dO d)).any Dt.gd=true->nc l=none
 | [],h=>by cases h
 | none::_,_=>rfl
 | some x::r,h=>by
  rw[zj,xu] at h;let e:Dt.gd (dO d (some x))=false:=f x;rw[e,Bool.false_or] at h;show(match nc r with | some l=>some (x::l) | none=>none)=none;rw[iQ f h]
theorem iP:∀{l:List (Option α)},(l.map (dO d)).any Dt.gd=false->∃xs,nc l=some xs/\l.map (dO d)=xs.map d/\⇑xs=⇑l
 | [],_=>{[],rfl,rfl,rfl}
 | none::_,h=>by cases h
 | some x::r,h=>by
  rw[zj,xu,Bool.or_eq_false_iff] at h;let⟨xs,e1,e2,e3⟩:=iP h.2;refine{x::xs,?_,?_,by simp[e3]}
  ·show(match nc r with | some l=>some (x::l) | none=>none)=_
   rw[e1]
  ·rw[zj,zj,e2];rfl
def Ic:KH Dt.str:=λ_=>rfl
def Pd:KH Dt.int:=λ_=>rfl
def Ts:KH dL:=λ_=>rfl
def Pf:KH lH:=λ_=>rfl
def MI:KH eL:=λ_=>rfl
def Bd (h:Kz H v o):Is H (dO dL o) v:=by
 cases h with
 | bH=>unfold dO Is;rfl
 | ref h=>exact iw h
def eW (h:Is H (dO dL o) v):Kz H v o:=by
 cases o with
 | none=>unfold dO Is at h;subst h;exact .bH
 | some q=>
  unfold dO dL Is at h;let⟨a,vs,rfl,ha,hl⟩:=h;let e:[Dt.int q.1,Dt.int q.2]=[q.1,q.2].map Dt.int:=rfl;rw[e] at hl;rw[dW hl] at ha;exact .ref ha
def Be (o:Option Int):Is H (dO .int o) (ov o):=by cases o <;> (unfold dO Is;rfl)
def DQ (o:Option Str):Is H (dO .str o) (os o):=by cases o <;> (unfold dO Is;rfl)
def UP (h:Rq H v o):Is H (dO eL o) v:=by
 cases o with
 | none=>unfold dO Is;exact h
 | some it=>
  let⟨p,pv,a,rfl,h1,h2,h3⟩:=h;unfold dO eL;unfold Is;refine{p,_,rfl,h1,?_};unfold aD;refine{_,_,rfl,Bd h3,?_};unfold aD;exact{_,_,rfl,iw h2,by unfold aD;rfl}
def GJ:Sp:=λvs H Q _=>∃(t:Str),vs=[.str t]/\⇑t<=1000000/\∀p H',ax H H'->H' p=some (.lst ((words t).map V.str))->Q (.ref p) H'
def kR:Sp:=λvs H Q _=>∃(t:Str),vs=[.str t]/\⇑t<=600/\∀H',ax H H'->Q (os (cH t)) H'
def jY:Sp:=λvs H Q _=>∃(t:Str),vs=[.str t]/\⇑t<=600/\∀H',ax H H'->Q (ov (fA t)) H'
inductive Aq (vs:List V) (H:Hp) (Q:VK) (E:XK):Prop
 | mk (t:Str) (lo hi:Int) (_:vs=[.str t,.int lo,.int hi]) (_:⇑t<=600) (_:∀H',ax H H'->Q (ov (lY t lo hi)) H')
def ED:Sp:=λvs H Q _=>∃(t:Str),vs=[.str t]/\⇑t<=600/\∀v H',ax H H'->Kz H' v (P5 t)->Q v H'
inductive EC (vs:List V) (H:Hp) (Q:VK) (E:XK):Prop
 | mk (a b:Str) (_:vs=[.str a,.str b]) (_:⇑a<=600) (_:⇑b<=600) (_:∀v H',ax H H'->Kz H' v (AL a b)->Q v H')
def Cd (K:yB):Sp:=λvs H Q _=>∃(t:Str),vs=[.str t]/\⇑t<=600/\∀v H',ax H H'->Kz H' v (iS t)->Q v H'
def GN:Sp:=λvs H Q _=>∃(t:Str),vs=[.str t]/\⇑t<=600/\∀H',ax H H'->Q (ov (Hg t)) H'
inductive Cg (K:yB) (vs:List V) (H:Hp) (Q:VK) (E:XK):Prop
 | mk (a:vF) (us:List V) (_:vs=[.ref a]) (_:aH K H a us) (_:⇑us<=1000000) (_:∀H',ax H H'->Q (if us.any gd=true then .bH else .ref a) H')
inductive Ce (vs:List V) (H:Hp) (Q:VK) (E:XK):Prop
 | mk (a:vF) (us:List V) (_:vs=[.ref a]) (_:H a=some (.tup us)) (_:⇑us<=1000000) (_:∀H',ax H H'->Q (if us.any gd=true then .bH else .ref a) H')
def tM:Sp:=λvs H Q _=>∃(t:Str),vs=[.str t]/\⇑t<=600/\∀v H',ax H H'->Is H' (dO lH (AN t)) v->Q v H'
inductive fK (K:yB) (D:Hp->Hp->V->List Str->Prop) (vs:List V) (H:Hp) (Q:VK) (E:XK):Prop
 | mk (p:vF) (ws:List Str) (_:vs=[.ref p]) (_:aH K H p (ws.map V.str)) (_:⇑ws<=1000000) (_:(∀x∈ws,⇑x<=600)) (_:∀v H',ax H H'->D H H' v ws->Q v H')
noncomputable def d7 (x:Str×(Int×Int)×(Int×Int)):Dt:=.tup [.str x.1,dL x.2.1,dL x.2.2]
noncomputable def gq (x:Str×List Str):Dt:=.tup [.str x.1,mr x.2]
noncomputable def uf (x:Str×Int×Str):Dt:=.tup [.str x.1,.int x.2.1,.str x.2.2]
def LH (H:Hp) (v:V) (x:Int×Str×List Item):Prop:=∃a q vs,v=.ref a/\H a=some (.tup [.int x.1,.str x.2.1,.ref q])/\H q=some (.lst vs)/\aD H (x.2.2.map eL) vs
def iI (H0 H:Hp) (v:V) (x:Int×Str×List Item):Prop:=∃a q vs,v=.ref a/\H a=some (.tup [.int x.1,.str x.2.1,.ref q])/\H q=some (.lst vs)/\aD H (x.2.2.map eL) vs/\H0 q=none
def iI.at (h:iI H0 H v x):LH H v x:=by
 let⟨a,q,vs,h1,h2,h3,h4,_⟩:=h;exact{(a),q,vs,h1,h2,h3,h4}
theorem iI.back (s:ax H00 H0) (h:iI H0 H v x):iI H00 H v x:=by
 let⟨a,q,vs,h1,h2,h3,h4,h5⟩:=h;exact{a,q,vs,h1,h2,h3,h4,s.back h5}
def oF (d:α->Dt) (f:List Str->Option α) (_ H:Hp) (v:V) (ws:List Str):Prop:=Is H (dO d (f ws)) v
def Vb (H0 H:Hp) (v:V) (ws:List Str):Prop:=match j0 ws with
 | none=>v=.bH
 | some x=>iI H0 H v x
def m6 (h:Is H d v):aD H [d] [v]:=by unfold aD;exact{_,_,rfl,h,by unfold aD;rfl}
def aO (h:Is H d v) (r:aD H ds vs):aD H (d::ds) (v::vs):=by unfold aD;exact{_,_,rfl,h,r}
def cD:aD H [] []:=by unfold aD;rfl
def cw (h:H a=some (.tup vs)) (r:aD H ds vs):Is H (.tup ds) (.ref a):=by unfold Is;exact{_,_,rfl,h,r}
def eI:Is H (.str x) (.str x):=by unfold Is;rfl
def cE:Is H (.int x) (.int x):=by unfold Is;rfl
def dN:Is H .bH .bH:=by unfold Is;rfl
def fF (xs:List V) (k:Nat):ke xs (some (k:Int)) none=xs.drop k:=by
 unfold ke;rw[HT.G6];let e:HT.eV ⇑xs 0 (some (k:Int))=min k ⇑xs:=by unfold HT.eV;simp;ext
 rw[e];rcases Nat.le_total k ⇑xs with h | h
 ·rw[Nat.min_eq_left h]
  exact xy (by rw[xD];exact zm _)
 ·rw[Nat.min_eq_right h,List.drop_eq_nil_of_le (zm _),List.drop_eq_nil_of_le h,List.take_nil]
def FP (xs:List V) (k:Nat):ke xs none (some (k:Int))=xs.take k:=by
 unfold ke;rw[HT.G6,List.drop_zero,Nat.sub_zero];let e:HT.eV ⇑xs ⇑xs (some (k:Int))=min k ⇑xs:=by unfold HT.eV;simp;ext
 rw[e];rcases Nat.le_total k ⇑xs with h | h
 ·rw[Nat.min_eq_left h]
 ·rw[Nat.min_eq_right h,xy (zm _),xy h]
def oZ (a b:Str) (r:List Str):o6 (a::b::r)=(match nc ((a::b::r).map cH) with | some (n::ps)=>some (n,ps) | _=>none):=rfl
def gy (H0 H:Hp) (v:V):Option Told->Prop
 | none=>v=.bH
 | some (.bF n)=>v=.str n
 | some (.cI n t l)=>Is H (d7 (n,t,l)) v
 | some (.cu n ps)=>Is H (gq (n,ps)) v
 | some (.bar b)=>Is H (kI b) v
 | some (.aG l)=>Is H (dL l) v
 | some (.holds p b i)=>Is H (uf (p,b,i)) v
 | some (.aJ b p its)=>iI H0 H v (b,p,its)
 | some (.rep r)=>Is H (gO r) v
 | some (.bS j)=>Is H (jS j) v
inductive GL (K:yB) (vs:List V) (H:Hp) (Q:VK) (E:XK):Prop
 | mk (p:vF) (x:Str) (ws:List Str) (_:vs=[.ref p]) (_:aH K H p ((x::ws).map V.str)) (_:⇑ws<=999999) (_:(∀y∈x::ws,⇑y<=600)) (_:∀v H',ax H H'->gy H H' v (nH (x::ws))->Q v H')
def mJ (h:Is H (dO d o) v) (hg:∀x,Is H (d x) v->gy H0 H v (some (g x))):gy H0 H v (o.map g):=by
 cases o with
 | none=>unfold dO Is at h;exact h
 | some x=>exact hg x h
theorem gy.back (s:ax H00 H0):∀{t:Option Told},gy H0 H v t->gy H00 H v t
 | none,h=>h
 | some (.bF _),h=>h
 | some (.cI _ _ _),h=>h
 | some (.cu _ _),h=>h
 | some (.bar _),h=>h
 | some (.aG _),h=>h
 | some (.holds _ _ _),h=>h
 | some (.aJ _ _ _),h=>iI.back s h
 | some (.rep _),h=>h
 | some (.bS _),h=>h
def cg {α:Type} {l:List α} {i:Nat} {x:α} (h:l[i]?=some x):l.take (i+1)=l.take i++[x]:=by rw[xx,h];rfl
theorem Lq:∀{l:List α} {i:Nat} {x:α},l[i]?=some x->(l.take i).find? p=none->p x=true->l.find? p=some x
 | [],i,x,h,_,_=>by simp at h
 | y::l,0,x,h,_,hx=>by simp at h;subst h;rw[yT,hx]
 | y::l,i+1,x,h,hn,hx=>by
  rw[ve,yT] at hn;rw[yT];cases q:p y with
  | true=>rw[q] at hn;cases hn
  | false=>rw[q] at hn;exact Lq (by simpa using h) hn hx
def DX {α:Type} {p:α->Bool} {l:List α} {i:Nat} {x:α} (h:l[i]?=some x) (hn:(l.take i).find? p=none) (hx:p x=false):(l.take (i+1)).find? p=none:=by
 rw[cg h,List.find?_append,hn];simp[hx]
def Dn (K:yB) (H:Hp) (p:vF) (rs:List Rep):Prop:=∃vs,aH K H p vs/\aD H (rs.map gO) vs
theorem Dn.mono {K:yB} {H H':Hp} (s:ax H H') {p:vF} {rs:List Rep} (h:Dn K H p rs):Dn K H' p rs:=by
 let⟨vs,h1,h2⟩:=h;exact{vs,s.seq h1,h2.mono s}
def dP (h:Is H (gO r) v):∃a e,v=.ref a/\H a=some (.tup [.int r.first,.int r.last,.int r.times,.ref e])/\Is H (.tup (r.ends.map lH)) (.ref e):=by
 unfold gO Is at h;let⟨a,vs,rfl,ha,hl⟩:=h;unfold aD at hl;let⟨v1,r1,rfl,h1,hl⟩:=hl;unfold aD at hl;let⟨v2,r2,rfl,h2,hl⟩:=hl;unfold aD at hl;let⟨v3,r3,rfl,h3,hl⟩:=hl;unfold aD at hl;let⟨v4,r4,rfl,h4,hl⟩:=hl;unfold aD at hl;subst hl;unfold Is at h1 h2 h3;subst h1 h2 h3;let h4':=h4;unfold Is at h4;let⟨e,us,rfl,he,hle⟩:=h4;exact{(a),e,rfl,ha,h4'}
def pA (h:Is H (lH e) v):∃a q,v=.ref a/\H a=some (.tup [.int e.1,.ref q])/\H q=some (.tup (e.2.map V.int)):=by
 unfold lH Is at h;let⟨a,vs,rfl,ha,hl⟩:=h;unfold aD at hl;let⟨v1,r1,rfl,h1,hl⟩:=hl;unfold aD at hl;let⟨v2,r2,rfl,h2,hl⟩:=hl;unfold aD at hl;subst hl;unfold Is at h1;subst h1;unfold jf Is at h2;let⟨q,us,rfl,hq,hle⟩:=h2;rw[dW hle] at hq;exact{(a),q,rfl,ha,hq}
def cS {H:Hp} {α:Type} {d:α->Dt} {xs:List α} {vs:List V} {i:Nat} {v:V} (h:aD H (xs.map d) vs) (e:vs[i]?=some v):∃x,xs[i]?=some x/\Is H (d x) v:=by
 let⟨c,h1,h2⟩:=h.get e;rw[zK] at h1;cases q:xs[i]? with
 | none=>rw[q] at h1;cases h1
 | some x=>rw[q] at h1;cases h1;exact{(x),rfl,h2}
def aP {H:Hp} {α:Type} {d:α->Dt} {xs:List α} {vs:List V} (h:aD H (xs.map d) vs):⇑vs=⇑xs:=by rw[h.len,za]
inductive uk (K:yB) (vs:List V) (H:Hp) (Q:VK) (E:XK):Prop
 | mk (p:vF) (rs:List Rep) (b:Int) (_:vs=[.ref p,.int b]) (_:Dn K H p rs) (_:∀v,Is H (dO gO (dC rs b)) v->Q v H)
inductive EE (K:yB) (vs:List V) (H:Hp) (Q:VK) (E:XK):Prop
 | mk (p:vF) (rs:List Rep) (b:Int) (_:vs=[.ref p,.int b]) (_:Dn K H p rs) (_:Q (.bl (gK rs b)) H)
inductive EF (K:yB) (vs:List V) (H:Hp) (Q:VK) (E:XK):Prop
 | mk (p:vF) (rs:List Rep) (b:Int) (_:vs=[.ref p,.int b]) (_:Dn K H p rs) (_:Q (.bl (dZ rs b)) H)
noncomputable def MW (x:Int×Int×List Int):Dt:=.tup [.int x.1,.int x.2.1,jf x.2.2]
inductive Js (vs:List V) (H:Hp) (Q:VK) (E:XK):Prop
 | mk (v:V) (r:Rep) (_:vs=[v]) (_:Is H (gO r) v) (_:⇑r.ends<=1000000) (_:∀p us H',ax H H'->H' p=some (.lst us)->aD H' ((du r).map MW) us->Q (.ref p) H')
inductive uq (K:yB) (vs:List V) (H:Hp) (Q:VK) (E:XK):Prop
 | mk (p:vF) (rs:List Rep) (b:Int) (_:vs=[.ref p,.int b]) (_:Dn K H p rs) (_:(∀r∈rs,⇑r.ends<=1000000)) (_:∀H',ax H H'->Q (.bl (lE rs b)) H')
def BE {α:Type} {J:It} {ws:List α} {U₀:St} {g:TG} {te:TE} {Q:VK} {H1:Hp} (Y:α->V->Hp->Prop) (F:α->Dt) (Pσ:St->Prop) (hn:⇑ws<=sizeLine) (h0:Pσ U₀)
  (go:∀i H,i<⇑ws->ax H1 H->J.go i H) (stop:∀H,ax H1 H->J.stop ⇑ws H) (yl:∀(i:Nat) x H H2 (hi:i<⇑ws),ax H1 H->J.Jg i H x H2->ax H H2/\Y ws[i] x H2)
  (turn:∀(a:α) (x:V) (U:St) (H:Hp) (R:St->V->Hp->Prop),a∈ws->ax H1 H->Y a x H->Pσ U->(∀σ3 y H5,ax H H5->Is H5 (F a) y->Pσ σ3->R σ3 y H5)->g x U H λσ3 H3=>te σ3 H3 λy H5=>R σ3 y H5)
  (fin:∀D vs H,ax H1 H->H D=some (.lst vs)->aD H (ws.map F) vs->Q (.ref D) H):cP U₀ g rQ te Q J H1:=by
 refine{λi m xs U H=>m=⇑ws-i/\i<=⇑ws/\⇑xs=i/\ax H1 H/\aD H ((ws.take i).map F) xs/\Pσ U,{_,rfl,yg _,rfl,ax.refl _,by simp[aD],h0},?_};rintro i m xs U H ⟨rfl,hi,hx,sm,il,pσ⟩;rcases xI i ⇑ws with hlt | hge
 ·refine .inr {go i H hlt sm,(),?_}
  intro x H2 hy;let⟨s2,hY⟩:=yl i x H H2 hlt sm hy;refine turn ws[i] x U H2 (λσ3 y H5=>if true=true then∃m',m'<⇑ws-i/\(m'=⇑ws-(i+1)/\i+1<=⇑ws/\⇑(xs++[y])=i+1/\ax H1 H5/\aD H5 ((ws.take (i+1)).map F) (xs++[y])/\Pσ σ3) else False) (ym hlt) (sm.trans s2) hY pσ ?_;rintro σ3 y H5 s5 iy p3;rw[yO rfl];refine{_,(),rfl,hlt,by simp[hx],(sm.trans s2).trans s5,?_,p3};rw[xx,zd hlt,zk];exact cT iy (il.mono (s2.trans s5))
 ·let e:i=⇑ws:=()
  subst e;refine .inl {stop H sm,(),λD hD=>?_};let il':aD H (ws.map F) xs:=by rw[zN] at il;exact il
  exact fin D xs _ (sm.trans (bj hD)) aC (il'.mono (bj hD))
structure Ow where
 dx:vF
 pl:vF
 ins:vF
 st:vF
 ba:vF
 ho:vF
 no:vF
 re:vF
 hs:List vF
 ns:List vF
noncomputable def Ow.lists (o:Ow):List vF:=[o.pl,o.ba,o.re]++o.hs++o.ns
noncomputable def Qq (o:Ow) (ub jm:V):List (Str×V):=[("players",.ref o.pl),("instruments",.ref o.ins),("staffs",.ref o.st),("bars",.ref o.ba),("upbeat",ub),("holds",.ref o.ho),("notes",.ref o.no),("repeats",.ref o.re),("jump",jm)]
noncomputable def kS (x:Str):Key:=Sum.inr x
noncomputable def kN (x:Int×Str):List Key:=[Sum.inl x.1,Sum.inr x.2]
noncomputable def Py (x:Str×(Int×Int)×(Int×Int)):Dt:=.tup [dL x.2.1,dL x.2.2]
noncomputable def Ra (x:Str×List Str):Dt:=mr x.2
noncomputable def Lx (x:Int×Str):Dt:=.tup [.int x.1,.str x.2]
def cb (H:Hp) (d:α->Dt):List (List α)->List vF->Prop
 | [],as=>as=[]
 | l::r,as=>∃a t vs,as=a::t/\H a=some (.lst vs)/\aD H (l.map d) vs/\cb H d r t
inductive WN (C:vF) (H:Hp) (a:vF) (o:Ow) (u:Option (Int×Int)) (j:Option Jump):Prop
 | mk (ub jm:V) (_:H a=some (.ins C o.dx (Qq o ub jm))) (_:Is H (dO dL u) ub) (_:Is H (dO jS j) jm)
inductive PZ {α:Type} (H:Hp) (d:α->Dt) (a:vF) (l:List α):Prop
 | mk (vs:List V) (_:H a=some (.lst vs)) (_:aD H (l.map d) vs)
inductive Rt {α:Type} (H:Hp) (d:Str×α->Dt) (a:vF) (l:List (Str×α)):Prop
 | mk (vs:List V) (_:H a=some (.dK ((l.map λx=>kS x.1).zip vs))) (_:aD H (l.map d) vs)
structure bY (C:vF) (H:Hp) (a:vF) (S:bU) (o:Ow):Prop where
 obj:WN C H a o S.aG S.bS
 pl:H o.pl=some (.lst (S.players.map V.str))
 ins:Rt H Py o.ins S.ao
 st:Rt H Ra o.st S.aM
 ba:PZ H kI o.ba S.aL
 ho:H o.ho=some (.dK ((S.holds.map λx=>kS x.1).zip (o.hs.map V.ref)))/\cb H Lx (S.holds.map (·.2)) o.hs
 no:H o.no=some (.dT ((S.aJ.map λx=>kN x.1).zip (o.ns.map V.ref)))/\cb H eL (S.aJ.map (·.2)) o.ns
 re:PZ H gO o.re S.repeats
 nd:o.lists.Nodup
 dd:[o.ins,o.st,o.ho].Nodup
theorem cb.mono (s:ax H H'):∀{ls:List (List α)} {as:List vF},cb H d ls as->cb H' d ls as
 | [],_,h=>h
 | l::r,_,⟨a,t,vs,e,h1,h2,h3⟩=>{a,t,vs,e,s _ _ h1,h2.mono s,cb.mono s h3}
theorem bY.mono (s:ax H H') (h:bY C H a S o):bY C H' a S o where
 obj:=by let⟨ub,jm,h1,h2,h3⟩:=h.obj;exact{ub,jm,s _ _ h1,h2.mono s,h3.mono s}
 pl:=s _ _ h.pl
 ins:=by let⟨vs,h1,h2⟩:=h.ins;exact{vs,s _ _ h1,h2.mono s}
 st:=by let⟨vs,h1,h2⟩:=h.st;exact{vs,s _ _ h1,h2.mono s}
 ba:=by let⟨vs,h1,h2⟩:=h.ba;exact{vs,s _ _ h1,h2.mono s}
 ho:={s _ _ h.ho.1,h.ho.2.mono s}
 no:={s _ _ h.no.1,h.no.2.mono s}
 re:=by let⟨vs,h1,h2⟩:=h.re;exact{vs,s _ _ h1,h2.mono s}
 nd:=h.nd
 dd:=h.dd
def cA (o:Option HO):Prop:=∀vs,o≠some (.tup vs)
mutual
theorem Is.upd (hx:cA (H x)):∀{d:Dt} {v:V},Is H d v->Is (upd H x o) d v
 | .bH,_,h=>by unfold Is at h ⊢;exact h
 | .bl _,_,h=>by unfold Is at h ⊢;exact h
 | .int _,_,h=>by unfold Is at h ⊢;exact h
 | .str _,_,h=>by unfold Is at h ⊢;exact h
 | .tup l,_,h=>by
  unfold Is at h ⊢;let⟨a,vs,e,ha,hl⟩:=h;let ne:a≠x:=λz=>hx vs (by rw[<-z];exact ha);exact{a,vs,e,by rw[aE ne];exact ha,aD.upd hx hl}
theorem aD.upd (hx:cA (H x)):∀{l:List Dt} {vs:List V},aD H l vs->aD (L2.upd H x o) l vs
 | [],_,h=>by unfold aD at h ⊢;exact h
 | d::l,_,h=>by
  unfold aD at h ⊢;let⟨v,r,e,hv,hr⟩:=h;exact{v,r,e,Is.upd hx hv,aD.upd hx hr}
end
theorem cb.upd (hx:cA (H x)):∀{ls:List (List α)} {as:List vF},x∉as->cb H d ls as->cb (L2.upd H x o) d ls as
 | [],_,_,h=>h
 | l::r,_,nx,⟨a,t,vs,e,h1,h2,h3⟩=>by
  subst e;let ne:a≠x:=λz=>nx (by rw[z];exact zr);exact{a,t,vs,rfl,by rw[aE ne];exact h1,aD.upd hx h2,cb.upd hx (λz=>nx (zp _ z)) h3}
structure Cf (K:yB) (C:vF):Prop where
 cls:Rv K C
 players:eM K C "players"
 ao:eM K C "instruments"
 aM:eM K C "staffs"
 aL:eM K C "bars"
 aG:eM K C "upbeat"
 holds:eM K C "holds"
 aJ:eM K C "notes"
 repeats:eM K C "repeats"
 bS:eM K C "jump"
def Q6 (n:Nat):NumText.digitsVal (dec (n:Int)).cps.toList=n:=by rw[Aa];exact PySem.W.KIN.val_back n
def Sw {most:Int} {n k:Nat} (hk:0<k) (hm:(k:Int)<=most) (h:n<10^k):rn most (dec (n:Int)).cps.toList=some (n:Int):=by
 let l1:=Iq (n:=n);let l2:=Ed hk h;let el:⇑(dec (n:Int)).cps.toList=⇑(dec (n:Int)):=yQ;let ha:((dec (n:Int)).cps.toList.all λc=>decide (c∈uU))=true:=yp.mpr λc hc=>zg (Tt (kG hc).1 (kG hc).2);unfold rn;rw[yN (),yN (),yO ha,yN,Q6];rintro⟨z1,z2⟩;have:=MQ (n:=n) (by rw[<-xk];exact z1);ext
def nA {most n:Int} {k:Nat} (hk:0<k) (hm:(k:Int)<=most) (h0:0<=n) (h:n<10^k):rn most (dec n).cps.toList=some n:=by
 let⟨m,rfl⟩:=yL h0;exact Sw hk hm (by exact_mod_cast h)
def fm {n:Int} (h0:0<=n) (h:n<1000):fA (dec n)=some n:=nA (k:=3) ∅ ∅ h0 ()
def DC (h0:0<=n) (h:n<1000) (h1:lo<=n) (h2:n<=hi):lY (dec n) lo hi=some n:=by
 unfold lY;rw[fm h0 h];dsimp only;rw[yN (),yN ()]
def JG {most n:Int} {k:Nat} (hk:0<k) (hm:(k:Int)<=most) (h1:-(10^k)<n) (h2:n<10^k):rs most (dec n)=some n:=by
 unfold rs
 by_cases h0:0<=n
 ·rw[yN,nA hk hm h0 h2]
  intro z;let⟨m,rfl⟩:=yL h0;have:=kG (zC z);ext
 ·let e:(dec n).cps.toList=45::(dec (-n)).cps.toList:=by rw[v8 (),cF];rfl
  rw[e,yO (show(45::(dec (-n)).cps.toList)[0]?=some 45 from rfl)];show(match rn most (dec (-n)).cps.toList with | some n=>if n=0 then none else some (-n) | none=>none)=_;rw[nA hk hm () ()];dsimp only;rw[yN (),Int.neg_neg]
def N8 {q:Int×Int} (h:PY q):rp (dec q.1) (dec q.2)=some q:=by
 let⟨h1,h2,h3,h4,h5⟩:=h;unfold rp;rw[JG (k:=2) ∅ ∅ () (),JG (k:=2) ∅ ∅ () ()];dsimp only;rw[yO h5]
def Iu (n:Int):47∉(dec n).cps.toList:=fR ∅ ∅
def Lv (n:Int):58∉(dec n).cps.toList:=fR ∅ ∅
def HR {x:Int×Int} (h:Rd x) (h1:x.1<10000) (h2:x.2<10000):P5 (ik x)=some x:=by
 let⟨p1,p2,p3⟩:=h.pos;unfold ik P5
 by_cases c:x.2=1
 ·rw[yO c,show Txt.split (dec x.1) "/"= [dec x.1] from split1 (c:=47) (Iu _)]
  dsimp only;rw[nA (k:=4) ∅ ∅ p1 ()];dsimp only;rw[<-c,p3]
 ·rw[yN c,show Txt.split (dec x.1 ++"/" ++ dec x.2) "/"= [dec x.1,dec x.2] from EA (c:=47) (Iu _) (Iu _)]
  dsimp only;rw[nA (k:=4) ∅ ∅ p1 (),nA (k:=4) ∅ ∅ () ()];dsimp only;rw[yN (),p3]
def Fp (h:P8 x):lr (ik x)=some x:=by
 let⟨h1,h2,h3,h4⟩:=h;unfold lr;rw[HR h1 h3 h4];dsimp only;rw[yN ()]
def QX (h:Nj it):ir (pz it)=some it:=by
 let⟨o,x⟩:=it;let⟨h1,h2⟩:=h;cases o with
 | none=>
  let e:Txt.split (pz (none,x)) ":"= [("r": Str),ik x]:=EA (c:=58) (a:="r") ∅ (DM h1);unfold ir;rw[e];show(match lr (ik x) with | none=>none | some x=>_)=_;rw[Fp h1];exact yO rfl
 | some q=>
  let e:Txt.split (pz (some q,x)) ":"= [dec q.1,dec q.2,ik x]:=Sr (c:=58) (Lv _) (Lv _) (DM h1);unfold ir;rw[e];show(match lr (ik x) with | none=>none | some x=>_)=_;rw[Fp h1];dsimp only;rw[yN (by simp)];show(match rp (dec q.1) (dec q.2) with | some q=>some (some q,x) | none=>none)=_;rw[N8 (h2 q rfl)]
def JI (h1:1<=a) (h2:a<=32) (h3:b∈Dc):iS (dec a ++"/" ++ dec b)=some (a,b):=by
 let hb:0<=b/\b<1000:=by
  unfold Dc at h3;simp at h3;ext
 unfold iS;rw[show Txt.split (dec a ++"/" ++ dec b) "/"= [dec a,dec b] from EA (c:=47) (Iu _) (Iu _)];dsimp only;rw[DC () () h1 h2,fm hb.1 hb.2];dsimp only;rw[yO h3]
def Ob {k:Int} (h1:-7<=k) (h2:k<=7):Hg (dec k)=some k:=by
 unfold Hg;rw[JG (k:=3) ∅ ∅ () ()];dsimp only;rw[yN (by split <;> ext)]
def Mc (h:PY q) (h1:-12<=q.1) (h2:q.1<=12):AL (dec q.1) (dec q.2)=some q:=by
 unfold AL;rw[N8 h];dsimp only;rw[yN (by split <;> ext)]
theorem m9:∀{l:List α},(∀x∈l,f (g x)=some x)->nc ((l.map g).map f)=some l
 | [],_=>rfl
 | x::l,h=>by
  rw[zj,zj,h x zr];unfold nc;rw[m9 λy hy=>h y (zp _ hy)]
noncomputable def oq (e:End):Str:=dec e.1 ++":" ++ Str.join "," (e.2.map dec)
def WG (e:End):Prop:=0<=e.1/\e.1<1000/\e.2≠[]/\∀p∈e.2,0<=p/\p<1000
theorem nT (hs:c∉sep.cps.toList):∀{zs:List Str},(∀z∈zs,c∉z.cps.toList)->c∉(Str.join sep zs).cps.toList
 | [],_=>by show c∉("": Str).cps.toList;exact zE
 | [z],h=>h z zr
 | z::y::r,h=>by
  rw[eR,cF,cF];intro m;rcases zG.mp m with m | m
  ·rcases zG.mp m with m | m
   ·exact h z zr m
   ·exact hs m
  ·exact nT hs (λx hx=>h x (zp _ hx)) m
def Od (h:WG e):AN (oq e)=some e:=by
 let⟨h1,h2,h3,h4⟩:=h;let f:58∉(Str.join "," (e.2.map dec)).cps.toList:=nT ∅ λz hz=>by
  let⟨y,_,rfl⟩:=zH.mp hz;exact Lv _
 unfold AN oq;rw[show Txt.split (dec e.1 ++":" ++ Str.join "," (e.2.map dec)) ":"= [dec e.1,Str.join "," (e.2.map dec)] from EA (c:=58) (Lv _) f];dsimp only;rw[show Txt.split (Str.join "," (e.2.map dec)) ","= e.2.map dec from gf (c:=44) (by simpa using h3) λz hz=>by
  let⟨y,_,rfl⟩:=zH.mp hz;exact fR ∅ ∅]
 rw[fm h1 h2,m9 λx hx=>fm (h4 x hx).1 (h4 x hx).2]
def Ng (w:Str):Prop:=w≠ ""/\32∉w.cps.toList/\10∉w.cps.toList
def Ji (ne:ws≠[]) (h:∀w∈ws,Ng w):words (Str.join " " ws)=ws:=by
 unfold words;rw[show Txt.split (Str.join " " ws) " "= ws from gf (c:=32) ne λw hw=>(h w hw).2.1];exact List.filter_eq_self.mpr λw hw=>zg (h w hw).1
def fE (n:Int):Ng (dec n):=by
 refine{λz=>?_,fR ∅ ∅,fR ∅ ∅}
 by_cases h:0<=n
 ·let⟨m,rfl⟩:=yL h
  have:=Iq (n:=m);rw[z] at this;exact absurd this ∅
 ·let e:(dec n).cps.toList=45::(dec (-n)).cps.toList:=by rw[v8 (),cF];rfl
  rw[z] at e;cases e
def IM (ha:Ng a) (hb1:32∉b.cps.toList) (hb2:10∉b.cps.toList):Ng (a++b):=by
 refine{λz=>ha.1 (kP ?_),λm=>?_,λm=>?_}
 ·let e:(a++b).cps.toList=("": Str).cps.toList:=by rw[z]
  rw[cF] at e;exact(List.append_eq_nil_iff.mp e).1
 ·rw[cF] at m
  rcases zG.mp m with m | m
  ·exact ha.2.1 m
  ·exact hb1 m
 ·rw[cF] at m
  rcases zG.mp m with m | m
  ·exact ha.2.2 m
  ·exact hb2 m
def F0 (ha:Ng a) (hb1:32∉b.cps.toList) (hb2:10∉b.cps.toList) (hc:Ng c):Ng (a++b++c):=IM (IM ha hb1 hb2) hc.2.1 hc.2.2
def A9 (x:Int×Int):Ng (ik x):=by
 unfold ik;split
 ·exact fE _
 ·exact F0 (fE _) ∅ ∅ (fE _)
def Tn (it:Item):Ng (pz it):=by
 let⟨o,x⟩:=it;cases o with
 | none=>exact IM (a:="r:") {∅,∅,∅} (A9 x).2.1 (A9 x).2.2
 | some q=>exact F0 (F0 (fE _) ∅ ∅ (fE _)) ∅ ∅ (A9 x)
def TB (e:End):Ng (oq e):=by
 let f:∀c,c≠44->c≠45->¬(48<=c/\c<=57)->c∉(Str.join "," (e.2.map dec)).cps.toList:=λc h0 h1 h2=>nT (by show c∉[44];simpa using h0) λz hz=>by
  let⟨y,_,rfl⟩:=zH.mp hz;exact fR h1 h2
 unfold oq;exact IM (IM (fE _) ∅ ∅) (f 32 ∅ ∅ ∅) (f 10 ∅ ∅ ∅)
def gc (n:Str):Prop:=cH n=some n
def gc.w (h:gc n):Ng n:=by
 unfold gc cH at h;split at h
 ·cases h
 ·split at h
  ·cases h
  ·split at h
   ·rename_i h1 _ h3
    let hs:∀c,c∉sgn->c∉n.cps.toList:=λc hc m=>hc (ye (yp.mp h3 c m));refine{λz=>h1 (by rw[z];decide),hs 32 ∅,hs 10 ∅}
   ·cases h
noncomputable def ctxt:Option Int->Str
 | none=> "end"
 | some n=>dec n
noncomputable def wordsOf:Told->List Str
 | .bF n=>["player",n]
 | .cI n t l=>["instrument",n,dec t.1,dec t.2,ik l]
 | .cu n ps=> "staff":: n::ps
 | .bar b=> "bar":: (dec b.aQ.1 ++"/" ++ dec b.aQ.2)::dec b.key::b.marks
 | .aG l=>["upbeat",ik l]
 | .holds p b i=>["holds",p,dec b,i]
 | .aJ b p its=> "notes":: dec b::p::its.map pz
 | .rep r=> "repeat":: dec r.first::dec r.last::dec r.times::r.ends.map oq
 | .bS j=>["jump",dec j.tY,dec j.vW,dec j.cY,ctxt j.fU]
noncomputable def rowOf (t:Told):Str:=Str.join " " (wordsOf t)
def NB (n:Int):Prop:=0<=n/\n<1000
def RS:Told->Prop
 | .bF n=>gc n
 | .cI n t l=>gc n/\PY t/\-12<=t.1/\t.1<=12/\Lm.Rd l/\l.1<10000/\l.2<10000
 | .cu n ps=>gc n/\ps≠[]/\∀p∈ps,gc p
 | .bar b=>1<=b.aQ.1/\b.aQ.1<=32/\b.aQ.2∈Dc/\-7<=b.key/\b.key<=7/\∀m∈b.marks,gc m
 | .aG l=>P8 l
 | .holds p b i=>gc p/\NB b/\gc i
 | .aJ b p its=>NB b/\gc p/\(∀it∈its,Nj it)/\its.all (λit=>it.1.isNone)=false
 | .rep r=>NB r.first/\NB r.last/\2<=r.times/\r.times<=9/\∀e∈r.ends,WG e
 | .bS j=>NB j.tY/\NB j.vW/\NB j.cY/\∀c,j.fU=some c->NB c
def LF (h:∀p∈l,gc p):nc (l.map cH)=some l:=by
 have:=m9 (f:=cH) (g:=λx:Str=>x) (l:=l) h
 rwa [List.map_id'] at this
def JK (h:RS t):nH (wordsOf t)=some t:=by
 cases t with
 | bF n=>
  show(cH n).map Told.bF=_;rw[show cH n=some n from h];rfl
 | cI n t l=>
  let⟨h1,h2,h3,h4,h5,h6,h7⟩:=h;show(lj [n,dec t.1,dec t.2,ik l]).map (λx=>Told.cI x.1 x.2.1 x.2.2)=_;unfold lj;dsimp only;rw[show cH n=some n from h1,Mc h2 h3 h4,HR h5 h6 h7];rfl
 | cu n ps=>
  let⟨h1,h2,h3⟩:=h;show(o6 (n::ps)).map (λx=>Told.cu x.1 x.2)=_;let⟨b,r,rfl⟩:=List.exists_cons_of_ne_nil h2;rw[oZ,LF (l:=n::b::r) λp hp=>by
   rcases zD.mp hp with e | e
   ·rw[e];exact h1
   ·exact h3 p e]
  rfl
 | bar b=>
  let⟨h1,h2,h3,h4,h5,h6⟩:=h;show(CC ((dec b.aQ.1 ++"/" ++ dec b.aQ.2)::dec b.key::b.marks)).map Told.bar=_;unfold CC;dsimp only;rw[LF h6,JI h1 h2 h3,Ob h4 h5];rfl
 | aG l=>
  show(lr (ik l)).map Told.aG=_;rw[Fp h];rfl
 | holds p b i=>
  let⟨h1,h2,h3⟩:=h;show(qq [p,dec b,i]).map (λx=>Told.holds x.1 x.2.1 x.2.2)=_;unfold qq;dsimp only;rw[show cH p=some p from h1,fm h2.1 h2.2,show cH i=some i from h3];rfl
 | aJ b p its=>
  let⟨h1,h2,h3,h4⟩:=h;show(j0 (dec b::p::its.map pz)).map (λx=>Told.aJ x.1 x.2.1 x.2.2)=_;cases its with
  | nil=>cases h4
  | cons i r=>
   show(j0 (dec b::p::pz i::r.map pz)).map _=_;unfold j0;let e:=m9 (f:=ir) (g:=pz) (l:=i::r) λx hx=>QX (h3 x hx);rw[zj] at e;dsimp only;rw[e];dsimp only;rw[h4,fm h1.1 h1.2,show cH p=some p from h2];rfl
 | rep r=>
  let⟨h1,h2,h3,h4,h5⟩:=h;show(jI (dec r.first::dec r.last::dec r.times::r.ends.map oq)).map Told.rep=_;unfold jI;dsimp only;rw[m9 λx hx=>Od (h5 x hx),fm h1.1 h1.2,fm h2.1 h2.2,DC () () h3 h4];rfl
 | bS j=>
  let⟨h1,h2,h3,h4⟩:=h;show(tS [dec j.tY,dec j.vW,dec j.cY,ctxt j.fU]).map Told.bS=_;unfold tS;dsimp only;rw[fm h1.1 h1.2,fm h2.1 h2.2,fm h3.1 h3.2];let⟨a,b,c,d⟩:=j;cases d with
  | none=>rfl
  | some n=>
   dsimp only[ctxt];rw[fm (h4 n rfl).1 (h4 n rfl).2];rfl
def KN (h:RS t):∀w∈wordsOf t,Ng w:=by
 let lit:∀s:Str,s≠ ""->32∉s.cps.toList->10∉s.cps.toList->Ng s:=λs a b c=>{(a),b,c}
 cases t with
 | bF n=>
  intro w hw;simp only[wordsOf,zD,zE,yV] at hw;rcases hw with rfl | rfl
  ·exact lit _ ∅ ∅ ∅
  ·exact gc.w h
 | cI n t l=>
  intro w hw;simp only[wordsOf,zD,zE,yV] at hw;rcases hw with rfl | rfl | rfl | rfl | rfl
  ·exact lit _ ∅ ∅ ∅
  ·exact gc.w h.1
  ·exact fE _
  ·exact fE _
  ·exact A9 _
 | cu n ps=>
  intro w hw;simp only[wordsOf,zD] at hw;rcases hw with rfl | rfl | hw
  ·exact lit _ ∅ ∅ ∅
  ·exact gc.w h.1
  ·exact gc.w (h.2.2 _ hw)
 | bar b=>
  intro w hw;simp only[wordsOf,zD] at hw;rcases hw with rfl | rfl | rfl | hw
  ·exact lit _ ∅ ∅ ∅
  ·exact F0 (fE _) ∅ ∅ (fE _)
  ·exact fE _
  ·exact gc.w (h.2.2.2.2.2 _ hw)
 | aG l=>
  intro w hw;simp only[wordsOf,zD,zE,yV] at hw;rcases hw with rfl | rfl
  ·exact lit _ ∅ ∅ ∅
  ·exact A9 _
 | holds p b i=>
  intro w hw;simp only[wordsOf,zD,zE,yV] at hw;rcases hw with rfl | rfl | rfl | rfl
  ·exact lit _ ∅ ∅ ∅
  ·exact gc.w h.1
  ·exact fE _
  ·exact gc.w h.2.2
 | aJ b p its=>
  intro w hw;simp only[wordsOf,zD,zH] at hw;rcases hw with rfl | rfl | rfl | ⟨x,_,rfl⟩
  ·exact lit _ ∅ ∅ ∅
  ·exact fE _
  ·exact gc.w h.2.1
  ·exact Tn _
 | rep r=>
  intro w hw;simp only[wordsOf,zD,zH] at hw;rcases hw with rfl | rfl | rfl | rfl | ⟨x,_,rfl⟩
  ·exact lit _ ∅ ∅ ∅
  ·exact fE _
  ·exact fE _
  ·exact fE _
  ·exact TB _
 | bS j=>
  intro w hw;simp only[wordsOf,zD,zE,yV] at hw;rcases hw with rfl | rfl | rfl | rfl | rfl
  ·exact lit _ ∅ ∅ ∅
  ·exact fE _
  ·exact fE _
  ·exact fE _
  ·unfold ctxt
   cases j.fU with
   | none=>exact lit _ ∅ ∅ ∅
   | some n=>exact fE _
def Jj (t:Told):wordsOf t≠[]:=by cases t <;> simp[wordsOf]
def Md (h:RS t):words (rowOf t)=wordsOf t:=Ji (Jj t) (KN h)
def N9 (h:RS t):10∉(rowOf t).cps.toList:=nT ∅ λw hw=>(KN h w hw).2.2
noncomputable def kindOf:HO->Nat
 | .lst _=>0
 | .tup _=>1
 | .ins _ _ _=>2
 | .dK _=>3
 | .dT _=>4
 | _=>5
def aZ {H:Hp} {a b:vF} {u v:HO} (h1:H a=some u) (h2:H b=some v) (k:kindOf u≠kindOf v):a≠b:=λz=>by
 rw[z,h2] at h1;cases h1;exact k rfl
noncomputable def own (a:vF) (o:Ow):List vF:=[a,o.pl,o.ins,o.st,o.ba,o.ho,o.no,o.re]++o.hs++o.ns
def vR (L:List vF) (H H':Hp):Prop:=∀b u,b∉L->H b=some u->H' b=some u
def vR.of (s:ax H H'):vR L H H':=λb u _ h=>s b u h
def vR.trans (s:vR L H H') (t:vR L H' H''):vR L H H'':=λb u n h=>t b u n (s b u n h)
theorem vR.upd (h:x∈L):vR L H (L2.upd H x o):=λb u n e=>by
 rw[aE (λz=>n (by rw[z];exact h))];exact e
structure Nd (o:Ow):Prop where
 pb:o.pl≠o.ba
 pr:o.pl≠o.re
 ph:o.pl∉o.hs
 pn:o.pl∉o.ns
 br:o.ba≠o.re
 bh:o.ba∉o.hs
 bn:o.ba∉o.ns
 rh:o.re∉o.hs
 rn:o.re∉o.ns
 hh:o.hs.Nodup
 nn:o.ns.Nodup
 hn:∀x∈o.hs,x∉o.ns
def Nd.of (h:o.lists.Nodup):Nd o:=by
 unfold Ow.lists at h;rw[zT] at h;let⟨h1,h2,h3⟩:=h;rw[zT] at h1;let⟨h4,h5,h6⟩:=h1;simp only[yd,zD,zE,yV,not_or] at h4;refine{h4.1.1,h4.1.2,λz=>?_,λz=>?_,h4.2.1,λz=>?_,λz=>?_,λz=>?_,λz=>?_,h5,h2,λx hx z=>?_}
 ·exact h6 o.pl (by simp) o.pl z rfl
 ·exact h3 o.pl (by simp) o.pl z rfl
 ·exact h6 o.ba (by simp) o.ba z rfl
 ·exact h3 o.ba (by simp) o.ba z rfl
 ·exact h6 o.re (by simp) o.re z rfl
 ·exact h3 o.re (by simp) o.re z rfl
 ·exact h3 x (by simp[hx]) x z rfl
def Nd.to (h:Nd o):o.lists.Nodup:=by
 unfold Ow.lists;rw[zT];refine{?_,h.nn,?_}
 ·rw[zT]
  refine{?_,h.hh,?_}
  ·simp only[yd,zD,zE,yV,not_or]
   exact{{(h.pb),h.pr},h.br,λz=>z,wa}
  ·intro x hx y hy e
   subst e;simp only[zD,zE,yV] at hx;rcases hx with rfl | rfl | rfl
   ·exact h.ph hy
   ·exact h.bh hy
   ·exact h.rh hy
 ·intro x hx y hy e
  subst e;rw[zG] at hx;rcases hx with hx | hx
  ·simp only[zD,zE,yV] at hx
   rcases hx with rfl | rfl | rfl
   ·exact h.pn hy
   ·exact h.bn hy
   ·exact h.rn hy
  ·exact h.hn x hx hy
section
variable {C a x:vF} {H:Hp} {S:bU} {o:Ow} {u:HO}
def bY.DL (h:bY C H a S o) (nx:cA (H x)) (n:a≠x):WN C (L2.upd H x u) a o S.aG S.bS:=by
 let⟨ub,jm,h1,h2,h3⟩:=h.obj;exact{ub,jm,by rw[aE n];exact h1,Is.upd nx h2,Is.upd nx h3}
def bY.E4 (h:bY C H a S o) (n:o.pl≠x):L2.upd H x u o.pl=some (.lst (S.players.map V.str)):=by rw[aE n];exact h.pl
def bY.qX (h:bY C H a S o) (nx:cA (H x)) (n:o.ins≠x):Rt (L2.upd H x u) Py o.ins S.ao:=by
 let⟨vs,h1,h2⟩:=h.ins;exact{vs,by rw[aE n];exact h1,aD.upd nx h2}
def bY.Ey (h:bY C H a S o) (nx:cA (H x)) (n:o.st≠x):Rt (L2.upd H x u) Ra o.st S.aM:=by
 let⟨vs,h1,h2⟩:=h.st;exact{vs,by rw[aE n];exact h1,aD.upd nx h2}
def bY.FY (h:bY C H a S o) (nx:cA (H x)) (n:o.ba≠x):PZ (L2.upd H x u) kI o.ba S.aL:=by
 let⟨vs,h1,h2⟩:=h.ba;exact{vs,by rw[aE n];exact h1,aD.upd nx h2}
def bY.EZ (h:bY C H a S o) (nx:cA (H x)) (n:o.re≠x):PZ (L2.upd H x u) gO o.re S.repeats:=by
 let⟨vs,h1,h2⟩:=h.re;exact{vs,by rw[aE n];exact h1,aD.upd nx h2}
def bY.HW (h:bY C H a S o) (nx:cA (H x)) (n:o.ho≠x) (nn:x∉o.hs):L2.upd H x u o.ho=some (.dK ((S.holds.map λx=>kS x.1).zip (o.hs.map V.ref)))/\cb (L2.upd H x u) Lx (S.holds.map (·.2)) o.hs:=
 {by rw[aE n];exact h.ho.1,cb.upd nx nn h.ho.2}
def bY.Fj (h:bY C H a S o) (nx:cA (H x)) (n:o.no≠x) (nn:x∉o.ns):L2.upd H x u o.no=some (.dT ((S.aJ.map λx=>kN x.1).zip (o.ns.map V.ref)))/\cb (L2.upd H x u) eL (S.aJ.map (·.2)) o.ns:=
 {by rw[aE n];exact h.no.1,cb.upd nx nn h.no.2}
end
theorem cG:∀{ls:List (List α)} {as:List vF},cb H d ls as->x∈as->∃vs,H x=some (.lst vs)
 | [],_,h,hx=>by unfold cb at h;subst h;simp at hx
 | l::r,_,⟨a,t,vs,e,h1,_,h3⟩,hx=>by
  subst e;rcases zD.mp hx with rfl | hx
  ·exact{(vs),h1}
  ·exact cG h3 hx
theorem cb.snoc (hx:H x=some (.lst vs)) (im:aD H (m.map d) vs):∀{ls:List (List α)} {as:List vF},cb H d ls as->cb H d (ls++[m]) (as++[x])
 | [],_,h=>by unfold cb at h;subst h;exact{x,[],vs,rfl,hx,im,rfl}
 | l::r,_,⟨a,t,vs',e,h1,h2,h3⟩=>by
  subst e;exact{a,t++[x],vs',rfl,h1,h2,cb.snoc hx im h3}
def Nz (h:l.length=m.length) (x:α) (y:β):(l++[x]).zip (m++[y])=l.zip m++[(x,y)]:=by
 rw[List.zip_append h];rfl
def qt {κ:Type} [DecidableEq κ] {ks:List κ} {vs:List V} (hl:⇑ks=⇑vs) {k:κ} {v:V} (h:di (ks.zip vs) k=none):putK (ks.zip vs) k v=(ks++[k]).zip (vs++[v]):=by
 rw[Nz hl];exact Ol v h
theorem DS (p:Str):∀{hs:List (Str×List α)} {as:List vF},cb H d (hs.map (·.2)) as->as.Nodup->(hs.map (·.1)).Nodup->p∈hs.map (·.1)->
  ∃x vs,di ((hs.map λx=>kS x.1).zip (as.map V.ref)) (kS p)=some (.ref x)/\x∈as/\H x=some (.lst vs)/\∀y e,Is (L2.upd H x (.lst (vs++[y]))) (d e) y->
   cb (L2.upd H x (.lst (vs++[y]))) d ((hs.map λq=>if q.1=p then(q.1,q.2++[e]) else q).map (·.2)) as
 | [],_,_,_,_,h=>by simp at h
 | (k,l)::r,_,hL,na,nk,hm=>by
  rw[zj] at hL;let⟨a,t,vs,rfl,h1,h2,h3⟩:=hL;rw[zj,yd] at nk;rw[yd] at na
  by_cases e:k=p
  ·subst e
   refine{a,vs,?_,zr,h1,λy e iy=>?_}
   ·rw[zj,zj,yX]
    unfold di;rw[yT];simp
   ·let nx:cA (H a):=by rw[h1];exact λ_ z=>by cases z
    let er:(r.map λq=>if q.1=k then(q.1,q.2++[e]) else q)=r:=by
     conv=>rhs;rw[<-List.map_id r]
     refine xA λq hq=>?_;rw[yN (λz=>nk.1 (by rw[show(k,l).1=q.1 from z.symm];exact zP (f:=λx:Str×List α=>x.1) hq))];rfl
    rw[zj,zj,yO rfl,er];refine{a,t,vs++[y],rfl,aC,?_,cb.upd nx na.1 h3};rw[zk];exact cT iy (aD.upd nx h2)
  ·let hm':p∈r.map (·.1):=by
    rcases zD.mp hm with z | z
    ·exact absurd z.symm e
    ·exact z
   let⟨x,vs',e1,e2,e3,e4⟩:=DS p h3 na.2 nk.2 hm';refine{x,vs',?_,zp _ e2,e3,λy e iy=>?_}
   ·let e':¬kS k=kS p:=λz=>e (w6 z)
    rw[zj,zj,yX];unfold di at e1 ⊢;rw[yT];simp only[e',decide_false];exact e1
   ·let nx:cA (H x):=by rw[e3];exact λ_ z=>by cases z
    rw[zj,zj,yN (by assumption)];refine{a,t,vs,rfl,?_,aD.upd nx h2,e4 y e iy};rw[aE (λz=>na.1 (by rw[z];exact e2))];exact h1
section
variable {C a:vF} {H:Hp} {S:bU} {o:Ow}
def bY.Kq (h:bY C H a S o) (n:Str):bY C (L2.upd H o.pl (.lst (S.players.map V.str++[.str n]))) a (bK S (.bF n)) o:=by
 let d:=Nd.of h.nd;let hp:=h.pl;let nx:cA (H o.pl):=by rw[hp];exact λ_ z=>by cases z
 let⟨_,_,ha,_⟩:=h.obj;let⟨_,hi,_⟩:=h.ins;let⟨_,hs,_⟩:=h.st;exact{h.DL nx (aZ ha hp (by simp[kindOf])),by rw[aC];show _=some (HO.lst ((S.players++[n]).map V.str));rw[zk];rfl,h.qX nx (aZ hi hp (by simp[kindOf])),h.Ey nx (aZ hs hp (by simp[kindOf])),h.FY nx d.pb.symm,
  h.HW nx (aZ h.ho.1 hp (by simp[kindOf])) d.ph,h.Fj nx (aZ h.no.1 hp (by simp[kindOf])) d.pn,h.EZ nx d.pr.symm,h.nd,h.dd}
def bY.Rk (h:bY C H a S o) {b:Nv} {v:V} {vs:List V} (hb:H o.ba=some (.lst vs)) (il:aD H (S.aL.map kI) vs) (iv:Is H (kI b) v):bY C (L2.upd H o.ba (.lst (vs++[v]))) a (bK S (.bar b)) o:=by
 let d:=Nd.of h.nd;let nx:cA (H o.ba):=by rw[hb];exact λ_ z=>by cases z
 let⟨_,_,ha,_⟩:=h.obj;let⟨_,hi,_⟩:=h.ins;let⟨_,hs,_⟩:=h.st;refine{h.DL nx (aZ ha hb (by simp[kindOf])),h.E4 d.pb,h.qX nx (aZ hi hb (by simp[kindOf])),h.Ey nx (aZ hs hb (by simp[kindOf])),{_,aC,?_},
  h.HW nx (aZ h.ho.1 hb (by simp[kindOf])) d.bh,h.Fj nx (aZ h.no.1 hb (by simp[kindOf])) d.bn,h.EZ nx d.br.symm,h.nd,h.dd}
 show aD _ ((S.aL++[b]).map kI) _;rw[zk];exact cT (Is.upd nx iv) (aD.upd nx il)
def bY.Ri (h:bY C H a S o) {r:Rep} {v:V} {vs:List V} (hb:H o.re=some (.lst vs)) (il:aD H (S.repeats.map gO) vs) (iv:Is H (gO r) v):bY C (L2.upd H o.re (.lst (vs++[v]))) a (bK S (.rep r)) o:=by
 let d:=Nd.of h.nd;let nx:cA (H o.re):=by rw[hb];exact λ_ z=>by cases z
 let⟨_,_,ha,_⟩:=h.obj;let⟨_,hi,_⟩:=h.ins;let⟨_,hs,_⟩:=h.st;refine{h.DL nx (aZ ha hb (by simp[kindOf])),h.E4 d.pr,h.qX nx (aZ hi hb (by simp[kindOf])),h.Ey nx (aZ hs hb (by simp[kindOf])),h.FY nx d.br,
  h.HW nx (aZ h.ho.1 hb (by simp[kindOf])) d.rh,h.Fj nx (aZ h.no.1 hb (by simp[kindOf])) d.rn,{_,aC,?_},h.nd,h.dd}
 show aD _ ((S.repeats++[r]).map gO) _;rw[zk];exact cT (Is.upd nx iv) (aD.upd nx il)
def Ad {n:Str} {ks:List Str} {vs:List V} (h:n∉ks):di ((ks.map kS).zip vs) (kS n)=none:=by
 unfold di;rw[Option.map_eq_none_iff,xV];intro x hx z;let e:=ye z;let m:=(wz hx).1;let⟨k,hk,ek⟩:=zH.mp m;rw[<-ek] at e;exact h ((w6 e)▸hk)
def Pt (h:[o.ins,o.st,o.ho].Nodup):o.ins≠o.st/\o.ins≠o.ho/\o.st≠o.ho:=by
 simp only[yd,zD,zE,yV,not_or] at h;exact{(h.1.1),h.1.2,h.2.1}
def bY.M8 (h:bY C H a S o) {n:Str} {t l:Int×Int} {p:vF} {vs:List V} (hb:H o.ins=some (.dK ((S.ao.map λx=>kS x.1).zip vs))) (il:aD H (S.ao.map Py) vs) (iv:Is H (Py (n,t,l)) (.ref p))
  (fr:n∉S.ao.map (·.1)):bY C (L2.upd H o.ins (.dK (putK ((S.ao.map λx=>kS x.1).zip vs) (kS n) (.ref p)))) a (bK S (.cI n t l)) o:=by
 let d:=Nd.of h.nd;let⟨d1,d2,d3⟩:=Pt h.dd;let nx:cA (H o.ins):=by rw[hb];exact λ_ z=>by cases z
 let⟨_,_,ha,_⟩:=h.obj;let⟨_,hba,_⟩:=h.ba;let⟨_,hre,_⟩:=h.re;let vl:=aP il;let em:(S.ao.map λx=>kS x.1)=(S.ao.map (·.1)).map kS:=by rw[zB];rfl
 let hns:o.ins∉o.ns:=λz=>by
  let⟨_,q⟩:=cG h.no.2 z;rw[hb] at q;cases q
 let hhs:o.ins∉o.hs:=λz=>by
  let⟨_,q⟩:=cG h.ho.2 z;rw[hb] at q;cases q
 refine{h.DL nx (aZ ha hb (by simp[kindOf])),h.E4 (aZ h.pl hb (by simp[kindOf])),{vs++[.ref p],?_,?_},h.Ey nx d1.symm,h.FY nx (aZ hba hb (by simp[kindOf])),
  h.HW nx d2.symm hhs,h.Fj nx (aZ h.no.1 hb (by simp[kindOf])) hns,h.EZ nx (aZ hre hb (by simp[kindOf])),h.nd,h.dd}
 ·rw[aC,qt (by rw[za];exact vl.symm) (by rw[em];exact Ad fr)]
  show _=some (HO.dK (((S.ao++[(n,t,l)]).map λx=>kS x.1).zip (vs++[.ref p])));rw[zk];rfl
 ·show aD _ ((S.ao++[(n,t,l)]).map Py) _
  rw[zk];exact cT (Is.upd nx iv) (aD.upd nx il)
def bY.M6 (h:bY C H a S o) {n:Str} {ps:List Str} {v:V} {vs:List V} (hb:H o.st=some (.dK ((S.aM.map λx=>kS x.1).zip vs))) (il:aD H (S.aM.map Ra) vs) (iv:Is H (Ra (n,ps)) v)
  (fr:n∉S.aM.map (·.1)):bY C (L2.upd H o.st (.dK (putK ((S.aM.map λx=>kS x.1).zip vs) (kS n) v))) a (bK S (.cu n ps)) o:=by
 let d:=Nd.of h.nd;let⟨d1,d2,d3⟩:=Pt h.dd;let nx:cA (H o.st):=by rw[hb];exact λ_ z=>by cases z
 let⟨_,_,ha,_⟩:=h.obj;let⟨_,hba,_⟩:=h.ba;let⟨_,hre,_⟩:=h.re;let vl:=aP il;let em:(S.aM.map λx=>kS x.1)=(S.aM.map (·.1)).map kS:=by rw[zB];rfl
 let hns:o.st∉o.ns:=λz=>by
  let⟨_,q⟩:=cG h.no.2 z;rw[hb] at q;cases q
 let hhs:o.st∉o.hs:=λz=>by
  let⟨_,q⟩:=cG h.ho.2 z;rw[hb] at q;cases q
 refine{h.DL nx (aZ ha hb (by simp[kindOf])),h.E4 (aZ h.pl hb (by simp[kindOf])),h.qX nx d1,{vs++[v],?_,?_},h.FY nx (aZ hba hb (by simp[kindOf])),
  h.HW nx d3.symm hhs,h.Fj nx (aZ h.no.1 hb (by simp[kindOf])) hns,h.EZ nx (aZ hre hb (by simp[kindOf])),h.nd,h.dd}
 ·rw[aC,qt (by rw[za];exact vl.symm) (by rw[em];exact Ad fr)]
  show _=some (HO.dK (((S.aM++[(n,ps)]).map λx=>kS x.1).zip (vs++[v])));rw[zk];rfl
 ·show aD _ ((S.aM++[(n,ps)]).map Ra) _
  rw[zk];exact cT (Is.upd nx iv) (aD.upd nx il)
def LP {n:Int×Str} {ks:List (Int×Str)} {vs:List V} (h:n∉ks):di ((ks.map kN).zip vs) (kN n)=none:=by
 unfold di;rw[Option.map_eq_none_iff,xV];intro x hx z;let e:=ye z;let m:=(wz hx).1;let⟨k,hk,ek⟩:=zH.mp m;rw[<-ek] at e;unfold kN at e;simp at e;have:k=n:=Prod.ext e.1 e.2;exact h (this▸hk)
def bY.M7 (h:bY C H a S o) {b:Int} {pn:Str} {its:List Item} {q:vF} {us:List V} (hq:H q=some (.lst us)) (iq:aD H (its.map eL) us) (nq:q∉o.lists) (fr:(b,pn)∉S.aJ.map (·.1)) :
  bY C (L2.upd H o.no (.dT (putK ((S.aJ.map λx=>kN x.1).zip (o.ns.map V.ref)) (kN (b,pn)) (.ref q)))) a (bK S (.aJ b pn its)) {o with ns:=o.ns++[q]}:=by
 let d:=Nd.of h.nd;let hb:=h.no.1;let nx:cA (H o.no):=by rw[hb];exact λ_ z=>by cases z
 let⟨ub,jm,ha,hub,hjm⟩:=h.obj;let⟨_,hi,_⟩:=h.ins;let⟨_,hs,_⟩:=h.st;let⟨_,hba,_⟩:=h.ba;let⟨_,hre,_⟩:=h.re;let em:(S.aJ.map λx=>kN x.1)=(S.aJ.map (·.1)).map kN:=by rw[zB];rfl
 let hns:o.no∉o.ns:=λz=>by
  let⟨_,q⟩:=cG h.no.2 z;rw[hb] at q;cases q
 let hhs:o.no∉o.hs:=λz=>by
  let⟨_,q⟩:=cG h.ho.2 z;rw[hb] at q;cases q
 let ll:⇑(o.ns.map V.ref)=⇑S.aJ:=by
  have:∀{ls:List (List Item)} {as:List vF},cb H eL ls as->⇑as=⇑ls:=by
   intro ls
   induction ls with
   | nil=>intro as z;unfold cb at z;rw[z];rfl
   | cons l r ih=>rintro _ ⟨a,t,vs,rfl,_,_,h3⟩;rw[zv,zv,ih h3]
  rw[za,this h.no.2,za]
 let nn:q∉[o.pl,o.ba,o.re]/\q∉o.hs/\q∉o.ns:=by
  unfold Ow.lists at nq;rw[zG,zG] at nq;exact{λz=>nq (.inl (.inl z)),λz=>nq (.inl (.inr z)),λz=>nq (.inr z)}
 let⟨n1,n2,n3⟩:=nn;simp only[zD,zE,yV,not_or] at n1;refine{{ub,jm,by rw[aE (aZ ha hb (by simp[kindOf]))];exact ha,Is.upd nx hub,Is.upd nx hjm},h.E4 (aZ h.pl hb (by simp[kindOf])),h.qX nx (aZ hi hb (by simp[kindOf])),h.Ey nx (aZ hs hb (by simp[kindOf])),h.FY nx (aZ hba hb (by simp[kindOf])),
  h.HW nx (aZ h.ho.1 hb (by simp[kindOf])) hhs,{?_,?_},h.EZ nx (aZ hre hb (by simp[kindOf])),?_,h.dd}
 ·show L2.upd H o.no _ o.no=some (HO.dT (((S.aJ++[((b,pn),its)]).map λx=>kN x.1).zip ((o.ns++[q]).map V.ref)))
  rw[aC,qt (by rw[za];exact ll.symm) (by rw[em];exact LP fr),zk,zk];rfl
 ·show cb _ eL ((S.aJ++[((b,pn),its)]).map (·.2)) (o.ns++[q])
  rw[zk];exact cb.snoc (by rw[aE (aZ hq hb (by simp[kindOf]))];exact hq) (aD.upd nx iq) (cb.upd nx hns h.no.2)
 ·refine Nd.to {d.pb,d.pr,d.ph,?_,d.br,d.bh,?_,d.rh,?_,d.hh,?_,?_}
  ·show o.pl∉o.ns++[q]
   rw[zG,zA];rintro(z | z)
   ·exact d.pn z
   ·exact n1.1 z.symm
  ·show o.ba∉o.ns++[q]
   rw[zG,zA];rintro(z | z)
   ·exact d.bn z
   ·exact n1.2.1 z.symm
  ·show o.re∉o.ns++[q]
   rw[zG,zA];rintro(z | z)
   ·exact d.rn z
   ·exact n1.2.2 z.symm
  ·show(o.ns++[q]).Nodup
   rw[zT];exact{d.nn,by simp,λx hx y hy e=>by rw[zA] at hy;subst hy;subst e;exact n3 hx}
  ·intro x hx z
   let z':x∈o.ns++[q]:=z;rw[zG,zA] at z';rcases z' with z' | z'
   ·exact d.hn x hx z'
   ·subst z';exact n2 hx
def bY.Kp (h:bY C H a S o) {l:Int×Int} {v ub jm:V} (ha:H a=some (.ins C o.dx (Qq o ub jm))) (ij:Is H (dO jS S.bS) jm) (iv:Is H (dL l) v):bY C (L2.upd H a (.ins C o.dx (Qq o v jm))) a (bK S (.aG l)) o:=by
 let nx:cA (H a):=by rw[ha];exact λ_ z=>by cases z
 let⟨_,hi,_⟩:=h.ins;let⟨_,hs,_⟩:=h.st;let⟨_,hba,_⟩:=h.ba;let⟨_,hre,_⟩:=h.re;let hns:a∉o.ns:=λz=>by
  let⟨_,q⟩:=cG h.no.2 z;rw[ha] at q;cases q
 let hhs:a∉o.hs:=λz=>by
  let⟨_,q⟩:=cG h.ho.2 z;rw[ha] at q;cases q
 exact{{v,jm,aC,Is.upd nx iv,Is.upd nx ij},h.E4 (aZ h.pl ha (by simp[kindOf])),h.qX nx (aZ hi ha (by simp[kindOf])),h.Ey nx (aZ hs ha (by simp[kindOf])),h.FY nx (aZ hba ha (by simp[kindOf])),
  h.HW nx (aZ h.ho.1 ha (by simp[kindOf])) hhs,h.Fj nx (aZ h.no.1 ha (by simp[kindOf])) hns,h.EZ nx (aZ hre ha (by simp[kindOf])),h.nd,h.dd}
def bY.PQ (h:bY C H a S o) {j:Jump} {v ub jm:V} (ha:H a=some (.ins C o.dx (Qq o ub jm))) (iu:Is H (dO dL S.aG) ub) (iv:Is H (jS j) v):bY C (L2.upd H a (.ins C o.dx (Qq o ub v))) a (bK S (.bS j)) o:=by
 let nx:cA (H a):=by rw[ha];exact λ_ z=>by cases z
 let⟨_,hi,_⟩:=h.ins;let⟨_,hs,_⟩:=h.st;let⟨_,hba,_⟩:=h.ba;let⟨_,hre,_⟩:=h.re;let hns:a∉o.ns:=λz=>by
  let⟨_,q⟩:=cG h.no.2 z;rw[ha] at q;cases q
 let hhs:a∉o.hs:=λz=>by
  let⟨_,q⟩:=cG h.ho.2 z;rw[ha] at q;cases q
 exact{{ub,v,aC,Is.upd nx iu,Is.upd nx iv},h.E4 (aZ h.pl ha (by simp[kindOf])),h.qX nx (aZ hi ha (by simp[kindOf])),h.Ey nx (aZ hs ha (by simp[kindOf])),h.FY nx (aZ hba ha (by simp[kindOf])),
  h.HW nx (aZ h.ho.1 ha (by simp[kindOf])) hhs,h.Fj nx (aZ h.no.1 ha (by simp[kindOf])) hns,h.EZ nx (aZ hre ha (by simp[kindOf])),h.nd,h.dd}
def bY.OM (h:bY C H a S o) {pn:Str} {q:vF} (hq:H q=some (.lst [])) (nq:q∉o.lists) (fr:pn∉S.holds.map (·.1)) :
  bY C (L2.upd H o.ho (.dK (putK ((S.holds.map λx=>kS x.1).zip (o.hs.map V.ref)) (kS pn) (.ref q)))) a {S with holds:=S.holds++[(pn,[])]} {o with hs:=o.hs++[q]}:=by
 let d:=Nd.of h.nd;let⟨d1,d2,d3⟩:=Pt h.dd;let hb:=h.ho.1;let nx:cA (H o.ho):=by rw[hb];exact λ_ z=>by cases z
 let⟨ub,jm,ha,hub,hjm⟩:=h.obj;let⟨_,hba,_⟩:=h.ba;let⟨_,hre,_⟩:=h.re;let em:(S.holds.map λx=>kS x.1)=(S.holds.map (·.1)).map kS:=by rw[zB];rfl
 let hns:o.ho∉o.ns:=λz=>by
  let⟨_,q⟩:=cG h.no.2 z;rw[hb] at q;cases q
 let hhs:o.ho∉o.hs:=λz=>by
  let⟨_,q⟩:=cG h.ho.2 z;rw[hb] at q;cases q
 let ll:⇑(o.hs.map V.ref)=⇑S.holds:=by
  have:∀{ls:List (List (Int×Str))} {as:List vF},cb H Lx ls as->⇑as=⇑ls:=by
   intro ls
   induction ls with
   | nil=>intro as z;unfold cb at z;rw[z];rfl
   | cons l r ih=>rintro _ ⟨a,t,vs,rfl,_,_,h3⟩;rw[zv,zv,ih h3]
  rw[za,this h.ho.2,za]
 let nn:q∉[o.pl,o.ba,o.re]/\q∉o.hs/\q∉o.ns:=by
  unfold Ow.lists at nq;rw[zG,zG] at nq;exact{λz=>nq (.inl (.inl z)),λz=>nq (.inl (.inr z)),λz=>nq (.inr z)}
 let⟨n1,n2,n3⟩:=nn;simp only[zD,zE,yV,not_or] at n1;refine{{ub,jm,by rw[aE (aZ ha hb (by simp[kindOf]))];exact ha,Is.upd nx hub,Is.upd nx hjm},h.E4 (aZ h.pl hb (by simp[kindOf])),h.qX nx d2,h.Ey nx d3,h.FY nx (aZ hba hb (by simp[kindOf])),
  {?_,?_},h.Fj nx (aZ h.no.1 hb (by simp[kindOf])) hns,h.EZ nx (aZ hre hb (by simp[kindOf])),?_,h.dd}
 ·show L2.upd H o.ho _ o.ho=some (HO.dK (((S.holds++[((pn,[]):Str×List (Int×Str))]).map λx:Str×List (Int×Str)=>kS x.1).zip ((o.hs++[q]).map V.ref)))
  rw[aC,qt (by rw[za];exact ll.symm) (by rw[em];exact Ad fr),zk,zk];rfl
 ·show cb _ Lx ((S.holds++[((pn,[]):Str×List (Int×Str))]).map λx:Str×List (Int×Str)=>x.2) (o.hs++[q])
  rw[zk];exact cb.snoc (vs:=[]) (by rw[aE (aZ hq hb (by simp[kindOf]))];exact hq) (by show aD _ [] [];unfold aD;rfl) (cb.upd nx hhs h.ho.2)
 ·refine Nd.to {d.pb,d.pr,?_,d.pn,d.br,?_,d.bn,?_,d.rn,?_,d.nn,?_}
  ·show o.pl∉o.hs++[q]
   rw[zG,zA];rintro(z | z)
   ·exact d.ph z
   ·exact n1.1 z.symm
  ·show o.ba∉o.hs++[q]
   rw[zG,zA];rintro(z | z)
   ·exact d.bh z
   ·exact n1.2.1 z.symm
  ·show o.re∉o.hs++[q]
   rw[zG,zA];rintro(z | z)
   ·exact d.rh z
   ·exact n1.2.2 z.symm
  ·show(o.hs++[q]).Nodup
   rw[zT];exact{d.hh,by simp,λx hx y hy e=>by rw[zA] at hy;subst hy;subst e;exact n2 hx}
  ·intro x hx z
   let hx':x∈o.hs++[q]:=hx;rw[zG,zA] at hx';rcases hx' with hx' | hx'
   ·exact d.hn x hx' z
   ·subst hx';exact n3 z
def bY.nL (h:bY C H a S o) {pn:Str} (nk:(S.holds.map (·.1)).Nodup) (hm:pn∈S.holds.map (·.1)) :
  ∃x vs,di ((S.holds.map λx=>kS x.1).zip (o.hs.map V.ref)) (kS pn)=some (.ref x)/\x∈o.hs/\H x=some (.lst vs)/\∀y b i,Is H (Lx (b,i)) y->bY C (L2.upd H x (.lst (vs++[y]))) a (bK S (.holds pn b i)) o:=by
 let d:=Nd.of h.nd;let⟨x,vs,e1,e2,e3,e4⟩:=DS pn h.ho.2 d.hh nk hm;refine{x,vs,e1,e2,e3,λy b i iy=>?_};let nx:cA (H x):=by rw[e3];exact λ_ z=>by cases z
 let⟨ub,jm,ha,hub,hjm⟩:=h.obj;let⟨_,hi,_⟩:=h.ins;let⟨_,hs,_⟩:=h.st;let ea:bK S (.holds pn b i)={S with holds:=S.holds.map λq:Str×List (Int×Str)=>if q.1=pn then(q.1,q.2++[(b,i)]) else q}:=by
  show({S with holds:=eU S.holds pn (b,i)}:bU)=_;unfold eU;rw[yO hm]
 rw[ea];refine{h.DL nx (aZ ha e3 (by simp[kindOf])),h.E4 (λz=>d.ph (by rw[z];exact e2)),h.qX nx (aZ hi e3 (by simp[kindOf])),h.Ey nx (aZ hs e3 (by simp[kindOf])),h.FY nx (λz=>d.bh (by rw[z];exact e2)),
  {?_,e4 y (b,i) (Is.upd nx iy)},h.Fj nx (aZ h.no.1 e3 (by simp[kindOf])) (d.hn x e2),h.EZ nx (λz=>d.rh (by rw[z];exact e2)),h.nd,h.dd}
 rw[aE (aZ h.ho.1 e3 (by simp[kindOf])),h.ho.1];show _=some (HO.dK (((S.holds.map λq:Str×List (Int×Str)=>if q.1=pn then(q.1,q.2++[(b,i)]) else q).map λx:Str×List (Int×Str)=>kS x.1).zip _));rw[zB];have:(S.holds.map λx:Str×List (Int×Str)=>kS x.1)=S.holds.map ((λx:Str×List (Int×Str)=>kS x.1)∘λq:Str×List (Int×Str)=>if q.1=pn then(q.1,q.2++[(b,i)]) else q):=by
  refine xA λq _=>?_;show kS q.1=kS (if q.1=pn then((q.1,q.2++[(b,i)]):Str×List (Int×Str)) else q).1;split <;> rfl
 rw[this]
end
end Sc
namespace L2
open PySem PySem.Spec PyProof.Rows
noncomputable def noStar:Expr->Bool
 | .Starred ..=>false
 | _=>true
def nu (h:noStar e=true):starEach (e::es) env=(false,eval e env)::starEach es env:=by
 cases e <;> first | rfl | (simp[noStar] at h)
def aa (ha:PE X e te) (hr:PA X es t) (hs:noStar e=true<|>qe_):PA X (e::es) (bR te t):=ah ha hr (nu hs)
end L2
namespace Sc
open PySem L2 Lm
def lJ (F:Nat->Dt) (Pσ:St->Prop) (hn:n<=sizeLine) (h0:Pσ U₀)
  (turn:∀(i:Nat) (U:St) (H:Hp) (R:St->V->Hp->Prop),i<n->ax H1 H->Pσ U->(∀σ3 y H5,ax H H5->Is H5 (F i) y->Pσ σ3->R σ3 y H5)->g (.int (lo+i)) U H λσ3 H3=>te σ3 H3 λy H5=>R σ3 y H5)
  (fin:∀D vs H,ax H1 H->H1 D=none->H D=some (.lst vs)->aD H ((List.range n).map F) vs->Q (.ref D) H):cP U₀ g rQ te Q (LI lo n) H1:=by
 refine m7 (ws:=List.range n) (enc:=λi=>.int (lo+(i:Nat))) F Pσ (by rw[zR];exact hn) h0 (λi H hi _=>by rw[zR] at hi;exact hi) (λH _=>by rw[zR];exact zm _) ?_ ?_ fin
 ·rintro i x H H2 hi _ ⟨rfl,rfl⟩
  exact{rfl,by rw[List.getElem_range]}
 ·intro i U H R hi s p r
  exact turn i U H R (yS.mp hi) s p r
def d5 {c:Bool} {T:(Bool->Hp->Prop)->Prop} {Z:Bool->Hp->Prop} {H:Hp} (v:Bool) (h1:c=true->∀Z,Z v H->T Z) (h2:c=false->v=false) (hz:Z v H):if c=true then T Z else Z false H:=by
 cases c with
 | true=>rw[yO rfl];exact h1 rfl Z hz
 | false=>rw[yN (by simp)];rw[<-h2 rfl];exact hz
def GD:List (Int×Int)->TA
 | []=>eC
 | p::r=>bR (GC (bR (tC (.int p.1)) (bR (tC (.int p.2)) eC))) (GD r)
theorem Ov:∀{ps:List (Int×Int)} {H:Hp} {R:List V->Hp->Prop},(∀vs H',ax H H'->aD H' (ps.map dL) vs->R vs H')->GD ps U H R
 | [],H,R,h=>h [] H (ax.refl _) cD
 | p::r,H,R,h=>by
  let sl:=yC;refine{by show 2<=sizeLine;ext,λq hq=>?_};refine Ov λvs H' s' il=>?_;let s1:=bj (o:=HO.tup [.int p.1,.int p.2]) hq;exact h _ _ (s1.trans s') (aO (iw (s' _ _ aC)) il)
def Vr (ps:List (Int×Int)):TE:=λ_ H Q=>∀D vs H',ax H H'->H' D=some (.lst vs)->aD H' (ps.map dL) vs->Q (.ref D) H'
def QR (hl:⇑ps<=1000) (h:Vr ps U H Q):GF (GD ps) U H Q:=by
 let sl:=yC;refine Ov λvs H' s' il=>{by have:=aP il;ext,λD hD=>?_}
 exact h D vs _ (s'.trans (bj hD)) aC (il.mono (bj hD))
def SR:PA X [] (GD []):=ag
def UE (h:PA X es (GD r)):PA X (.Tuple [.Constant (.int a) x1 p1,.Constant (.int b) x2 p2] k pos::es) (GD ((a,b)::r)):=
 ah (bE (ah ae (ah ae ag (nu rfl)) (nu rfl))) h (nu rfl)
def SM (h:PA X es (GD ps)) (hl:⇑ps<=1000<|>qb_):PE X (.List es pos) (Vr ps):=by
 intro pins s U H Q I hq;exact bz h pins s U H Q I (QR hl hq)
def nY (h:xs[⇑xs-1]?=some x):Ek xs (-1)=some x:=by
 let hp:0<⇑xs:=by
  have:=(zy.mp h).1;ext
 let ne:xs≠[]:=yr.mp hp;let e:=xY ne;let e2:xs.getLast ne=x:=by
  have:=(zy.mp h).2;rw[List.getLast_eq_getElem];exact this
 rw[<-e,e2];exact L2.BN _ _
theorem Bc:∀l:List Str,aD H (l.map Dt.str) (l.map V.str)
 | []=>cD
 | x::r=>aO eI (Bc r)
def vV (h:Is H (kI b) v):∃a m q,v=.ref a/\H a=some (.tup [m,.int b.key,.ref q])/\Is H (dL b.aQ) m/\H q=some (.tup (b.marks.map V.str)):=by
 unfold kI Is at h;let⟨a,vs,rfl,ha,hl⟩:=h;unfold aD at hl;let⟨v1,r1,rfl,h1,hl⟩:=hl;unfold aD at hl;let⟨v2,r2,rfl,h2,hl⟩:=hl;unfold aD at hl;let⟨v3,r3,rfl,h3,hl⟩:=hl;unfold aD at hl;subst hl;unfold Is at h2;subst h2;unfold mr Is at h3;let⟨q,us,rfl,hq,hle⟩:=h3;rw[dG hle] at hq;exact{(a),v1,q,rfl,ha,h1,hq}
noncomputable def lets:Str:="abcdefghijklmnopqrstuvwxyz"
def OV:∀j:Fin 26,lets.cps.toList[j.val]?=some (97+j.val):=by decide
def Le (h0:0<=i) (h:i<26):Ek lets.cps.toList i=some (97+i.toNat):=by
 let⟨j,rfl⟩:=yL h0;exact bA (OV {(j),()})
def Qm:∀j:Fin 36,(lets ++"0123456789").cps.toList[j.val]?=some (sgn.getD j.val 0)/\sgn.getD j.val 0∈sgn:=by decide
def Su (h0:0<=i) (h:i<36):∃c,c∈sgn/\Ek (lets ++"0123456789").cps.toList i=some c:=by
 let⟨j,rfl⟩:=yL h0;have:=Qm {(j),()};exact{_,this.2,bA this.1}
noncomputable def Qn (i:Int):Nat:=(Ek (lets ++"0123456789").cps.toList i).getD 0
def N2 (h0:0<=i) (h:i<36):Ek (lets ++"0123456789").cps.toList i=some (Qn i)/\Qn i∈sgn:=by
 let⟨c,h1,h2⟩:=Su h0 h;unfold Qn;rw[h2];exact{(rfl),h1}
def Lf:∀j:Fin 26,97+j.val∈sgn:=by decide
def OW {i:Int} (h0:0<=i) (h:i<26):97+i.toNat∈sgn:=Lf {(i.toNat),()}
def RI (h1:1<=⇑n) (h2:⇑n<=12) (h3:∀c∈n.cps.toList,c∈sgn):gc n:=by
 unfold gc cH;rw[yN (),yN (),yO (yp.mpr λc hc=>zg (h3 c hc))]
def B4 (ns:List Str):Prop:=(∀n∈ns,gc n)/\ns.Nodup
theorem sP:∀{l:List α},l.Nodup->(∀x∈l,∀y∈l,f x=f y->x=y)->(l.map f).Nodup
 | [],_,_=>wa
 | x::r,h,k=>by
  rw[yd] at h;rw[zj,yd];refine{λz=>?_,sP h.2 λa ha b hb e=>k a (zp _ ha) b (zp _ hb) e};let⟨y,hy,e⟩:=zH.mp z;have:=k y (zp _ hy) x zr e;subst this;exact h.1 hy
def Mu (hm:m<=12) (hc:c∈sgn):B4 ((List.range m).map λk=>oX {#[c]} (m-k)):=by
 let el:∀k,⇑(oX {#[c]} k)=k:=λk=>by rw[Hi];exact Nat.mul_one k
 refine{λn hn=>?_,sP List.nodup_range λx hx y hy e=>?_}
 ·let⟨k,hk,rfl⟩:=zH.mp hn
  have:=yS.mp hk;refine RI (by rw[el];ext) (by rw[el];ext) λd hd=>?_;rw[qk] at hd;let⟨l,hl,hd⟩:=wm.mp hd;rw[List.mem_replicate] at hl;rw[hl.2] at hd;have:d=c:=by simpa using hd
  rw[this];exact hc
 ·have:=y6 Str.length e
  rw[el,el] at this;have:=yS.mp hx;have:=yS.mp hy;ext
def JQ {stem:Str} {pl first m:Nat} (hs:⇑stem<=11) (hp:pl<=⇑stem) (hc:∀c∈stem.cps.toList,c∈sgn) (hm:m<=26) :
  B4 ((List.range m).map λk=>Txt.slice stem none (some (pl:Int))++{#[97+(first+5*k)%26]}++Txt.slice stem (some (pl:Int)) none):=by
 let sl:⇑stem.cps.toList=⇑stem:=yQ;let cp:∀k,(Txt.slice stem none (some (pl:Int))++{#[97+(first+5*k)%26]}++Txt.slice stem (some (pl:Int)) none).cps.toList=stem.cps.toList.take pl++[97+(first+5*k)%26]++stem.cps.toList.drop pl:=λk=>by
  rw[cF,cF,GR stem hp,oO stem hp]
 refine{λn hn=>?_,sP List.nodup_range λx hx y hy e=>?_}
 ·let⟨k,hk,rfl⟩:=zH.mp hn
  let el:⇑(Txt.slice stem none (some (pl:Int))++{#[97+(first+5*k)%26]}++Txt.slice stem (some (pl:Int)) none)=⇑stem+1:=by
   rw[<-show _=⇑(Txt.slice stem none (some (pl:Int))++{#[97+(first+5*k)%26]}++Txt.slice stem (some (pl:Int)) none) from yQ,cp,zh,zh,zQ,xD,List.length_singleton];ext
  refine RI () () λd hd=>?_;rw[cp,zG,zG,zA] at hd;rcases hd with(hd | hd) | hd
  ·exact hc d (List.mem_of_mem_take hd)
  ·rw[hd];exact Lf {(first+5*k)%26,vm _ ∅}
  ·exact hc d (List.mem_of_mem_drop hd)
 ·let q:(Txt.slice stem none (some (pl:Int))++{#[97+(first+5*x)%26]}++Txt.slice stem (some (pl:Int)) none).cps.toList=(Txt.slice stem none (some (pl:Int))++{#[97+(first+5*y)%26]}++Txt.slice stem (some (pl:Int)) none).cps.toList:=by rw[e]
  rw[cp,cp,zF,zF] at q;let q2:=List.append_cancel_left q;simp at q2;have:=yS.mp hx;have:=yS.mp hy;ext
theorem qT:∀zs:List Str,(Str.join "" zs).cps.toList=(zs.map λz:Str=>z.cps.toList).flatten
 | []=>rfl
 | [z]=>by rw[join_one];simp
 | z::y::r=>by
  rw[eR,cF,cF,qT (y::r)];show z.cps.toList++[]++_=_;rw[zV];rfl
noncomputable def mM (c:Int) (n:Nat):List Str:=(List.range n).map λk=>{#[Qn ((c/16224+7*(0+(k:Nat)))%36)]}
theorem Ib (f:α->β):∀l:List α,((l.map f).map λx=>[x]).flatten=l.map f
 | []=>rfl
 | x::r=>by rw[zj,zj,ya,Ib f r];rfl
def GH (c:Int) (n:Nat):(Str.join "" (mM c n)).cps.toList=(List.range n).map λk:Nat=>Qn ((c/16224+7*(0+(k:Nat)))%36):=by
 rw[qT];unfold mM;rw[zB];have:=Ib (λk:Nat=>Qn ((c/16224+7*(0+(k:Nat)))%36)) (List.range n);rw[zB] at this;exact this
def NX (c:Int) (n:Nat):(Str.join "" (mM c n)).length=n:=by
 rw[<-show _=(Str.join "" (mM c n)).length from yQ,GH,za,zR]
def NW:∀d∈(Str.join "" (mM c n)).cps.toList,d∈sgn:=λd hd=>by
 rw[GH] at hd;let⟨k,_,rfl⟩:=zH.mp hd;exact(N2 (zw _ ∅) (zt _ ∅)).2
def NV (c:Int) (n:Nat):((mM c n).map (λz:Str=>⇑z+("": Str).length)).sum=n:=by
 unfold mM;rw[zB];have:((λz:Str=>⇑z+("": Str).length)∘λk:Nat=>({#[Qn ((c/16224+7*(0+(k:Nat)))%36)]}:Str))=λ_=>1:=rfl;rw[this,List.map_const',List.sum_replicate_nat,zR,Nat.mul_one]
end Sc
namespace Sc
open PySem L2 Lm
def bw (n:H D=none) (s:ax H H2):ax H (L2.upd H2 D u):=λb v hb=>by
 rw[aE (λz=>by rw[z,n] at hb;cases hb)];exact s b v hb
def Gh (its:List Item) (x:Int×Int):Prop:=⇑its<=40/\(∀it∈its,Nj it)/\jX its=x/\its.all (λit=>it.1.isNone)=false
def KA (x:Int×Int):Prop:=Lm.Rd x/\0<x.1/\x.1<=32/\x.2<=160
def Jq (l:List Item) (it:Item):jX (l++[it])=add (jX l) it.2:=by unfold jX;rw[zY];rfl
def NR {x:Int×Int} (hx:0<x.2) {W:Int} (hW:0<W) {l:List Item} {t w:Int} {it:Item} (h:jX l=red (x.1*t) (x.2*W)) (e:it.2=red (x.1*w) (x.2*W)):jX (l++[it])=red (x.1*(t+w)) (x.2*W):=by
 let hb:0<x.2*W:=xB hx hW;rw[Jq,h,e,Rj hb hb,<-kY hb hb (t:=x.1*(t+w))]
 congr 1
 rw[<-Int.add_mul,<-Int.mul_add,xE]
def NS {x:Int×Int} (hx:0<x.2) {W:Int} (hW:0<W):jX []=red (x.1*0) (x.2*W):=by
 let hb:0<x.2*W:=xB hx hW;show((0,1):Int×Int)=_;rw[Int.mul_zero];have:=kY (t:=0) (b:=1) (k:=x.2*W) hb ∅;rw[Int.mul_zero,Int.mul_one] at this;rw[this];decide
def LX (hx:Lm.Rd x) (hW:0<W):red (x.1*W) (x.2*W)=x:=by
 let⟨_,p2,p3⟩:=hx.pos;rw[xE x.1,xE x.2,kY hW p2,p3]
def OT (h:KA x) (w1:1<=w) (w2:w<=4) (W1:1<=W) (W2:W<=24):P8 (red (x.1*w) (x.2*W)):=by
 let⟨hr,h1,h2,h3⟩:=h;let⟨_,p2,_⟩:=hr.pos;let a1:0<x.1*w:=xB h1 ();let a2:x.1*w<=32*4:=wd h2 w2 () ∅;let b1:0<x.2*W:=xB p2 ();let b2:x.2*W<=160*24:=wd h3 W2 () ∅;let⟨g,g1,g2,g3,g4,g5⟩:=iT (t:=x.1*w) b1;let r1:=AQ (t:=x.1*w) (b:=x.2*W) (xa a1);refine{Lm.Rd.of (xa a1) b1,?_,(),()};let r0:=AO (t:=x.1*w) (b:=x.2*W) (xa a1);rcases Int.lt_or_eq_of_le r0 with z | z
 ·exact z
 ·rw[<-z,Int.mul_zero] at g2;ext
noncomputable def rM (m:Int) (n:Nat):List Int:=(List.range n).map λj=>1+m/(7+5*(0+(j:Nat)))%4
def Qb (m:Int) (n:Nat):⇑(rM m n)=n:=by unfold rM;rw[za,zR]
def Jh (h:w∈rM m n):1<=w/\w<=4:=by
 unfold rM at h;let⟨j,_,rfl⟩:=zH.mp h;let a:=zw (m/(7+5*(0+(j:Int)))) (b:=4) ∅;let b:=zt (m/(7+5*(0+(j:Int)))) (b:=4) ∅;ext
theorem NT:∀{l:List Int},(∀w∈l,1<=w/\w<=4)->(⇑l:Int)<=l.sum/\l.sum<=4*⇑l
 | [],_=>by simp
 | w::r,h=>by
  let ih:=NT (l:=r) λz hz=>h z (zp _ hz);have:=h w zr;rw[wX,zv];ext
def Mj (m:Int):PY (m%41-20,7*(m%41-20)%12+(m/41%14-7)*12):=by
 let a:=zw m (b:=41) ∅;let b:=zt m (b:=41) ∅;let c:=zw (m/41) (b:=14) ∅;let d:=zt (m/41) (b:=14) ∅;unfold PY;dsimp only;ext
def join {c:Bool} {t1 t2:TS} {D:Ends} {U:St} {H:Hp} (P:St->Hp->Prop) (ha:∀N:St->Hp->Prop,(∀U H,P U H->N U H)->c=true->t1 {D with nx:=N} U H)
  (hb:∀N:St->Hp->Prop,(∀U H,P U H->N U H)->c=false->t2 {D with nx:=N} U H) (hN:∀U H,P U H->D.nx U H):if c=true then t1 D U H else t2 D U H:=by
 cases c with
 | true=>rw[yO rfl];exact ha D.nx hN rfl
 | false=>rw[yN (by simp)];exact hb D.nx hN rfl
def RL (R:α->V->Prop):List α->List V->Prop
 | [],vs=>vs=[]
 | x::xs,vs=>∃v r,vs=v::r/\R x v/\RL R xs r
theorem RL.imp {α:Type} {R R':α->V->Prop} (h:∀x v,R x v->R' x v):∀{xs:List α} {vs:List V},RL R xs vs->RL R' xs vs
 | [],_,e=>e
 | _::_,_,⟨v,r,e,h1,h2⟩=>{v,r,e,h _ _ h1,RL.imp h h2}
theorem RL.snoc {α:Type} {R:α->V->Prop} {x:α} {v:V} (h:R x v):∀{xs:List α} {vs:List V},RL R xs vs->RL R (xs++[x]) (vs++[v])
 | [],_,e=>by unfold RL at e;subst e;exact{v,[],rfl,h,rfl}
 | _::_,_,⟨u,r,e,h1,h2⟩=>by subst e;exact{u,r++[v],rfl,h1,RL.snoc h h2}
theorem RL.len:∀{xs:List α} {vs:List V},RL R xs vs->⇑vs=⇑xs
 | [],_,e=>by unfold RL at e;rw[e];rfl
 | _::_,_,⟨u,r,e,_,h2⟩=>by rw[e,zv,zv,RL.len h2]
theorem RL.at:∀{xs:List α} {vs:List V} {i:Nat} {v:V},RL R xs vs->vs[i]?=some v->∃x,xs[i]?=some x/\R x v
 | [],_,_,_,e,h=>by unfold RL at e;subst e;simp at h
 | x::_,_,0,_,⟨u,r,e,h1,_⟩,h=>by subst e;simp at h;subst h;exact{(x),rfl,h1}
 | _::_,_,i+1,_,⟨u,r,e,_,h2⟩,h=>by subst e;simpa using RL.at (i:=i) h2 (by simpa using h)
inductive jz (D:vF) (H:Hp) (x:Str×List (Int×Str)) (v:V):Prop
 | mk (a r:vF) (us:List V) (_:v=.ref a) (_:H a=some (.tup [.str x.1,.ref r])) (_:H r=some (.lst us)) (_:aD H (x.2.map Lx) us) (_:r≠D)
theorem jz.mono (s:ax H H') (h:jz D H x v):jz D H' x v:=by
 let⟨a,r,us,h1,h2,h3,h4,h5⟩:=h;exact{a,r,us,h1,s _ _ h2,s _ _ h3,h4.mono s,h5}
theorem jz.upd (hD:H D=some (.lst vs)) (h:jz D H x v):jz D (L2.upd H D o) x v:=by
 let⟨a,r,us,h1,h2,h3,h4,h5⟩:=h;let nt:cA (H D):=by rw[hD];exact λ_ z=>by cases z
 exact{a,r,us,h1,by rw[aE (Sc.aZ h2 hD (by simp[kindOf]))];exact h2,by rw[aE h5];exact h3,aD.upd nt h4,h5}
inductive gZ (D:vF) (H:Hp) (x:(Int×Str)×List Item) (v:V):Prop
 | mk (a q:vF) (us:List V) (_:v=.ref a) (_:H a=some (.tup [.int x.1.1,.str x.1.2,.ref q])) (_:H q=some (.lst us)) (_:aD H (x.2.map eL) us) (_:q≠D)
theorem gZ.mono (s:ax H H') (h:gZ D H x v):gZ D H' x v:=by
 let⟨a,r,us,h1,h2,h3,h4,h5⟩:=h;exact{a,r,us,h1,s _ _ h2,s _ _ h3,h4.mono s,h5}
theorem gZ.upd (hD:H D=some (.lst vs)) (h:gZ D H x v):gZ D (L2.upd H D o) x v:=by
 let⟨a,r,us,h1,h2,h3,h4,h5⟩:=h;let nt:cA (H D):=by rw[hD];exact λ_ z=>by cases z
 exact{a,r,us,h1,by rw[aE (Sc.aZ h2 hD (by simp[kindOf]))];exact h2,by rw[aE h5];exact h3,aD.upd nt h4,h5}
def LG (ins:List Str) (many:Int) (row:List (Int×Str)):Prop:=row≠[]/\⇑row<=4/\(row.map (·.1)).Pairwise (·<·)/\∀h∈row,0<=h.1/\h.1<many/\h.2∈ins
noncomputable def dJ (S:bU):List Told:=
 S.players.map .bF++(S.ao.map λx=>.cI x.1 x.2.1 x.2.2)++(S.aM.map λx=>.cu x.1 x.2)++S.aL.map .bar++S.aG.toList.map .aG ++
 (S.holds.map λx=>x.2.map λh=>Told.holds x.1 h.1 h.2).flatten++(S.aJ.map λx=>.aJ x.1.1 x.1.2 x.2)++(S.repeats.map .rep++S.bS.toList.map .bS)
inductive nh (H:Hp) (p:vF) (S:bU):Prop
 | mk (pl il sl bl hl nl rl:vF) (ub jm:V) (iv sv bv hv nv rv:List V) (_:H p=some (.tup [.ref pl,.ref il,.ref sl,.ref bl,ub,.ref hl,.ref nl,.ref rl,jm])) (_:H pl=some (.lst (S.players.map V.str)))
  (_:H il=some (.lst iv)/\aD H (S.ao.map d7) iv) (_:H sl=some (.lst sv)/\aD H (S.aM.map gq) sv) (_:H bl=some (.lst bv)/\aD H (S.aL.map kI) bv) (_:Is H (dO dL S.aG) ub)
  (_:H hl=some (.lst hv)/\RL (jz hl H) S.holds hv) (_:H nl=some (.lst nv)/\RL (gZ nl H) S.aJ nv) (_:H rl=some (.lst rv)/\aD H (S.repeats.map gO) rv) (_:Is H (dO jS S.bS) jm)
def nh.at' {H:Hp} {p:vF} {S:bU} (h:nh H p S):nh H p S:=h
theorem nh.mono (s:ax H H') (h:nh H p S):nh H' p S:=by
 let⟨pl,il,sl,bl,hl,nl,rl,ub,jm,iv,sv,bv,hv,nv,rv,h1,h2,h3,h4,h5,h6,h7,h8,h9,ha⟩:=h;exact{pl,il,sl,bl,hl,nl,rl,ub,jm,iv,sv,bv,hv,nv,rv,s _ _ h1,s _ _ h2,{s _ _ h3.1,h3.2.mono s},{s _ _ h4.1,h4.2.mono s},{s _ _ h5.1,h5.2.mono s},h6.mono s,{s _ _ h7.1,h7.2.imp λx v z=>z.mono s},{s _ _ h8.1,h8.2.imp λx v z=>z.mono s},{s _ _ h9.1,h9.2.mono s},ha.mono s}
def bx (h1:-10000<n) (h2:n<10000):⇑(dec n)<=5:=by
 by_cases h:0<=n
 ·have:=Ir h h2;ext
 ·rw[v8 (),len_app]
  have:=Ir (n:=-n) () ();have:("-": Str).length=1:=rfl;ext
def bN (h1:-10000<n) (h2:n<10000):n.natAbs.log2<1920:=by
 by_cases z:n.natAbs=0
 ·rw[z];decide
 ·exact yc ((Nat.log2_lt z).mpr (show n.natAbs<2^14 by ext)) ∅
def kB (h1:-10000<x.1) (h2:x.1<10000) (h3:-10000<x.2) (h4:x.2<10000):⇑(ik x)<=11:=by
 unfold ik;let a:=bx h1 h2;let b:=bx h3 h4;split
 ·ext
 ·rw[len_app,len_app]
  have:("/": Str).length=1:=rfl;ext
def MC (h:Nj it):⇑(pz it)<=30:=by
 let⟨o,x⟩:=it;let⟨⟨hr,h1,h2,h3⟩,hq⟩:=h;let⟨_,p2,_⟩:=hr.pos;dsimp only at h1 h2 h3 p2 hq;let lx:=kB (x:=x) () h2 () h3;cases o with
 | none=>
  show("r:" ++ ik x).length<=30;rw[len_app];have:("r:": Str).length=2:=rfl;ext
 | some q=>
  let⟨q1,q2,q3,q4,_⟩:=hq q rfl;let a:=bx (n:=q.1) () ();let b:=bx (n:=q.2) () ();show(dec q.1 ++":" ++ dec q.2 ++":" ++ ik x).length<=30;rw[len_app,len_app,len_app,len_app];have:(":": Str).length=1:=rfl;ext
theorem oI {sep:Str} {k:Nat}:∀{zs:List Str},(∀z∈zs,⇑z<=k)->(zs.map (λz:Str=>⇑z+⇑sep)).sum<=⇑zs*(k+⇑sep)
 | [],_=>by simp
 | z::r,h=>by
  let ih:=oI (sep:=sep) (zs:=r) λy hy=>h y (zp _ hy);have:=h z zr;rw[zj,wX,zv,Nat.succ_mul];ext
theorem join_le (sep:Str):∀zs:List Str,⇑(Str.join sep zs)<=(zs.map (λz:Str=>⇑z+⇑sep)).sum
 | []=>zm _
 | [z]=>by rw[join_one];simp
 | z::y::r=>by
  let ih:=join_le sep (y::r);rw[eR,len_app,len_app,zj,wX];ext
def Bb (h:∀z∈zs,⇑z<=k):⇑(Str.join sep zs)<=⇑zs*(k+⇑sep):=zM (join_le sep zs) (oI h)
def Nh (r:Rep):Prop:=RS (.rep r)/\⇑r.ends<=9/\∀e∈r.ends,⇑e.2<=9
def Ii (h:WG e) (hl:⇑e.2<=9):⇑(oq e)<=60:=by
 let⟨h1,h2,h3,h4⟩:=h;let a:=bx (n:=e.1) () ();let b:(Str.join "," (e.2.map dec)).length<=⇑(e.2.map dec)*(5+(",": Str).length):=Bb λz hz=>by
  let⟨p,hp,rfl⟩:=zH.mp hz;have:=h4 p hp;exact bx () ()
 let l1:(":": Str).length=1:=rfl;let l2:(",": Str).length=1:=rfl;rw[za,l2] at b;unfold oq;rw[len_app,len_app];ext
def KZ (h1:ns.Perm l) (h2:ns.Pairwise (·<=·)):sortI l=ns:=by
 unfold sortI;refine(List.Perm.eq_of_pairwise (le:=λa b:Int=>a<=b) (λa b _ _ x y=>Int.le_antisymm x y) h2 ?_ (h1.trans (List.mergeSort_perm _ _).symm)).symm;have:=List.pairwise_mergeSort (le:=λa b:Int=>decide (a<=b)) (λa b c x y=>by simp at x y ⊢;ext) (λa b=>by simp;ext) l;exact this.imp λh=>ye h
theorem Bm:∀{es:List End} {a:Int} {ps:List Int},(es.map (·.1)).Pairwise (·<·)->(∀e∈es,a<e.1)->(∀e∈es,e.2.Pairwise (·<=·))->eX es a ps=some (((es.map (·.1)).getLast?).getD a,ps++(es.map (·.2)).flatten)
 | [],a,ps,_,_,_=>by simp[eX]
 | e::r,a,ps,h1,h2,h3=>by
  rw[zj,xc] at h1;let ih:=Bm (es:=r) (a:=e.1) (ps:=ps++e.2) h1.2 (λx hx=>h1.1 _ (zP (f:=λy:End=>y.1) hx)) (λx hx=>h3 x (zp _ hx));show(if e.1<=a then none else if e.2≠sortI e.2 then none else eX r e.1 (ps++e.2))=_;let c1:=h2 e zr;rw[yN (),yN (λz=>z (KZ (List.Perm.refl _) (h3 e zr)).symm),ih,zj,zj,ya,zF]
  congr 2
  cases r with
  | nil=>rfl
  | cons x t=>rw[zj,List.getLast?_cons_cons,List.getLast?_cons];rfl
theorem Ia:∀{n:Nat},k<n->((List.range n).map λi=>if i=k then g i++[x] else g i).flatten.Perm (((List.range n).map g).flatten++[x])
 | 0,h=>()
 | n+1,h=>by
  rw[List.range_succ,zk,zk,xh,xh];simp only[zj,yn,ya,List.flatten_nil,zV]
  by_cases e:n=k
  ·rw[yO e,<-zF]
   have:((List.range n).map λi=>if i=k then g i++[x] else g i)=(List.range n).map g:=xA λi hi=>by
    have:=yS.mp hi;rw[yN ()]
   rw[this]
  ·rw[yN e]
   let ih:=Ia (g:=g) (x:=x) (k:=k) (n:=n) ();refine(ih.append_right _).trans ?_;rw[zF,zF];exact List.Perm.append_left _ (List.perm_append_comm)
noncomputable def cN (sp:Nat->Nat):Nat->Nat->List Int
 | 0,_=>[]
 | k+1,i=>if i=sp k then cN sp k i++[(k:Int)+1] else cN sp k i
theorem qE:∀{k:Nat},p∈cN sp k i->∃j,j<k/\p=(j:Int)+1/\i=sp j
 | 0,h=>by cases h
 | k+1,h=>by
  unfold cN at h;split at h
  ·rename_i e
   rcases zG.mp h with h | h
   ·let⟨j,h1,h2⟩:=qE h
    exact{(j),(),h2}
   ·exact{k,(),by simpa using h,e}
  ·let⟨j,h1,h2⟩:=qE h
   exact{(j),(),h2}
theorem A0:∀{k:Nat},(cN sp k i).Pairwise (·<=·)
 | 0=>List.Pairwise.nil
 | k+1=>by
  unfold cN;split
  ·rw[zU]
   refine{A0,by simp,λa ha b hb=>?_};let⟨j,h1,h2,_⟩:=qE ha;have:b=(k:Int)+1:=by simpa using hb
   ext
  ·exact A0
theorem Hu (e:i=sp j):∀{k:Nat},j<k->((j:Int)+1)∈cN sp k i
 | 0,h=>()
 | k+1,h=>by
  unfold cN
  by_cases c:j=k
  ·subst c
   rw[yO e];exact zI _ (zA.mpr rfl)
  ·let ih:=Hu e (k:=k) ()
   split
   ·exact zJ _ ih
   ·exact ih
theorem AZ:∀{k:Nat},⇑(cN sp k i)<=k
 | 0=>zm _
 | k+1=>by
  let ih:=AZ (sp:=sp) (i:=i) (k:=k);unfold cN;split
  ·rw[zh];simp;ext
  ·ext
theorem DH:∀{k:Nat},(∀j,j<k->sp j<n)->((List.range n).map (cN sp k)).flatten.Perm (K5 1 k)
 | 0,_=>by
  have:((List.range n).map (cN sp 0)).flatten=[]:=by
   rw[List.flatten_eq_nil_iff];intro l hl;let⟨i,_,rfl⟩:=zH.mp hl;rfl
  rw[this];exact List.Perm.refl _
 | k+1,h=>by
  let ih:=DH (sp:=sp) (n:=n) (k:=k) λj hj=>h j ();let e:(List.range n).map (cN sp (k+1))=(List.range n).map λi=>if i=sp k then cN sp k i++[(k:Int)+1] else cN sp k i:=xA λi _=>by rw[cN]
  rw[e];refine(Ia (h k ())).trans ?_;unfold K5 at ih ⊢;rw[List.range_succ,zk];refine(ih.append_right _).trans ?_;rw[List.map_singleton,Int.add_comm]
def Qs (k:Nat):(K5 1 k).Pairwise (·<=·):=by
 unfold K5;rw[List.pairwise_map];exact(List.pairwise_lt_range).imp λh=>()
noncomputable def ra (bs:List Int) (sp:Nat->Nat) (t:Nat):List End:=bs.zip ((List.range ⇑bs).map (cN sp t))
theorem Gp:∀{a:List α} {b:List β},⇑a=⇑b->(a.zip b).map (·.1)=a
 | [],[],_=>rfl
 | x::xs,y::ys,h=>by rw[yX,zj,Gp (by simpa using h)]
 | [],_::_,h=>by simp at h
 | _::_,[],h=>by simp at h
theorem Gn:∀{a:List α} {b:List β},⇑a=⇑b->(a.zip b).map (·.2)=b
 | [],[],_=>rfl
 | x::xs,y::ys,h=>by rw[yX,zj,Gn (by simpa using h)]
 | [],_::_,h=>by simp at h
 | _::_,[],h=>by simp at h
def kF:(ra bs sp t).map (·.1)=bs:=Gp (by simp)
def sV:(ra bs sp t).map (·.2)=(List.range ⇑bs).map (cN sp t):=Gn (by simp)
def MM:⇑(ra bs sp t)=⇑bs:=by
 have:=y6 List.length (kF (bs:=bs) (sp:=sp) (t:=t))
 rwa [za] at this
def sW (h:e∈ra bs sp t):e.1∈bs/\∃i,i<⇑bs/\e.2=cN sp t i:=by
 let h1:=zP (f:=λx:End=>x.1) h;let h2:=zP (f:=λx:End=>x.2) h;rw[kF] at h1;rw[sV] at h2;let⟨i,hi,e2⟩:=zH.mp h2;exact{h1,i,yS.mp hi,e2.symm}
def LK (first last times:Int) (es:List End):Prop:=dH {(first),last,times,es}=true/\⇑es<=9/\(∀e∈es,first<=e.1/\e.1<=last/\e.2≠[]/\⇑e.2<=9/\∀p∈e.2,0<=p/\p<1000)/\⇑((es.map (·.2)).flatten)<=9/\(es.map (·.1)).Pairwise (·<·)
def MK:LK first last times []:={rfl,∅,by simp,by simp,by simp}
def J5 (t9:t<=9) (ne:bs≠[]) (asc:bs.Pairwise (·<·)) (hin:∀b∈bs,first<=b/\b<=last) (hsp:∀j,j<t->sp j<⇑bs) (hon:∀i,i<⇑bs->∃j,j<t/\sp j=i) (bt:⇑bs<=t):LK first last t (ra bs sp t):=by
 let pm:=DH (k:=t) hsp;let pl:((List.range ⇑bs).map (cN sp t)).flatten.length=t:=by rw[pm.length_eq];unfold K5;simp
 refine{?_,by rw[MM];ext,λe he=>?_,by rw[sV,pl];exact t9,by rw[kF];exact asc}
 ·let e1:=Bm (es:=ra bs sp t) (a:=first-1) (ps:=[]) (by rw[kF];exact asc) (λe he=>by have:=hin _ (sW he).1;ext) (λe he=>by let⟨_,i,_,e2⟩:=sW he;rw[e2];exact A0)
  let e2:sortI (([]:List Int)++((ra bs sp t).map (·.2)).flatten)=K5 1 t:=by rw[List.nil_append,sV];exact KZ pm.symm (Qs t)
  unfold dH;dsimp only;cases q:ra bs sp t with
  | nil=>rfl
  | cons x r=>
   rw[q] at e1 e2;dsimp only;rw[e1];dsimp only;rw[e2,show((t:Int)+1-1).toNat=t by ext,zg rfl,Bool.and_true,xF,<-q,kF];cases q2:bs.getLast? with
   | none=>exact absurd (List.getLast?_eq_none_iff.mp q2) ne
   | some b=>exact(hin b (vb q2)).2
 ·let⟨hb,i,hi,e2⟩:=sW he
  let⟨j,hj,ej⟩:=hon i hi;refine{(hin _ hb).1,(hin _ hb).2,?_,?_,λp hp=>?_}
  ·rw[e2];exact List.ne_nil_of_mem (Hu ej.symm hj)
  ·rw[e2];have:=AZ (sp:=sp) (i:=i) (k:=t);ext
  ·rw[e2] at hp
   let⟨j,h1,h2,_⟩:=qE hp;ext
def Qk {n c:Nat} {i:Nat} (hi:i<n):∃j,j<n/\(j+c)%n=i:=by
 refine{(i+(n-c%n))%n,vm _ (),?_};let hc:c%n<n:=vm _ ();rw[Nat.add_mod,Nat.mod_mod,<-Nat.add_mod];let e:i+(n-c%n)+c=i+n+n*(c/n):=by
  have:=Nat.div_add_mod c n;ext
 rw[e,Nat.add_mul_mod_self_left,Nat.add_mod_right,Nat.mod_eq_of_lt hi]
def Dq (Pv:Nat->St->Hp->Prop) (Pe:St->Hp->Prop) (h0:∃m,Pv m U H)
  (turn:∀m U H,Pv m U H->∀N:St->Hp->Prop,(∀U H,Pe U H->N U H)->c U H λb H1=>if b=true then∃N':St->Hp->Prop,(∀U' H',N' U' H'->∃m',m'<m/\Pv m' U' H')/\tb {D with nx:=N',ct:=N',bk:=N} U H1 else N U H1)
  (hd:∀U H,Pe U H->D.nx U H):NN c tb D U H:={Pv,h0,λm U H p=>turn m U H p D.nx hd}
def Lc {c:Bool} {T:(Bool->Hp->Prop)->Prop} {Z:Bool->Hp->Prop} {H:Hp} (v:Bool) (h1:c=false->∀Z,Z v H->T Z) (h2:c=true->v=true) (hz:Z v H):if c=true then Z true H else T Z:=by
 cases c with
 | false=>rw[yN (by simp)];exact h1 rfl Z hz
 | true=>rw[yO rfl];rw[<-h2 rfl];exact hz
def Kj {K:yB} {α:Type} {t1 t2:Bool} {a b:vF} {ws:List α} {e1 e2:α->V} {U₀:St} {g:TG} {te:TE} {Q:VK} {H1:Hp} (F:α->Dt) (Pσ:St->Prop) (hn:⇑ws<=sizeLine) (ha:Dm t1 K H1 a (ws.map e1)) (hb:Dm t2 K H1 b (ws.map e2)) (h0:Pσ U₀)
  (turn:∀(x:α) (U:St) (H:Hp) (p:vF) (R:St->V->Hp->Prop),x∈ws->ax H1 H->H p=some (.tup [e1 x,e2 x])->Pσ U->(∀σ3 y H5,ax H H5->Is H5 (F x) y->Pσ σ3->R σ3 y H5)->g (.ref p) U H λσ3 H3=>te σ3 H3 λy H5=>R σ3 y H5)
  (fin:∀D vs H,ax H1 H->H1 D=none->H D=some (.lst vs)->aD H (ws.map F) vs->Q (.ref D) H):cP U₀ g rQ te Q (VB t1 t2 K a b) H1:=by
 refine{λi m xs U H=>m=⇑ws-i/\i<=⇑ws/\⇑xs=i/\ax H1 H/\aD H ((ws.take i).map F) xs/\Pσ U,{_,rfl,yg _,rfl,ax.refl _,by simp[aD],h0},?_};rintro i m xs U H ⟨rfl,hi,hx,sm,il,pσ⟩;rcases xI i ⇑ws with hlt | hge
 ·let g1:(ws.map e1)[i]?=some (e1 ws[i]):=by rw[zK,zd hlt];rfl
  let g2:(ws.map e2)[i]?=some (e2 ws[i]):=by rw[zK,zd hlt];rfl
  refine .inr {{_,_,_,_,sm.RB ha,sm.RB hb,g1,g2},(),?_};rintro x H2 ⟨p,u,v,np,rfl,rfl,hu,hv⟩;let eu:=hu _ (sm.RB ha);let ev:=hv _ (sm.RB hb);rw[g1] at eu;rw[g2] at ev;cases eu;cases ev;let s2:ax H (upd H p (.tup [e1 ws[i],e2 ws[i]])):=bj np;refine turn ws[i] U _ p (λσ3 y H5=>if true=true then∃m',m'<⇑ws-i/\(m'=⇑ws-(i+1)/\i+1<=⇑ws/\⇑(xs++[y])=i+1/\ax H1 H5/\aD H5 ((ws.take (i+1)).map F) (xs++[y])/\Pσ σ3) else False) (ym hlt) (sm.trans s2) aC pσ ?_;rintro σ3 y H5 s5 iy p3;rw[yO rfl];refine{_,(),rfl,hlt,by simp[hx],(sm.trans s2).trans s5,?_,p3};rw[xx,zd hlt,zk];exact cT iy ((il.mono s2).mono s5)
 ·let e:i=⇑ws:=()
  subst e;refine .inl {{_,_,sm.RB ha,sm.RB hb,.inl (by rw[za];exact zm _)},(),λD hD=>?_};let il':aD H (ws.map F) xs:=by rw[zN] at il;exact il
  exact fin D xs _ (sm.trans (bj hD)) (sm.back hD) aC (il'.mono (bj hD))
def FQ (hn:⇑xs<=sizeLine) (hp:aH K H1 p xs) (h0:∃v,U₀=[v])
  (fin:∀(D:vF) (qs:List vF) (H:Hp),ax H1 H->H1 D=none->H D=some (.lst (qs.map V.ref))->qs.Nodup->D∉qs->⇑qs=⇑xs->(∀q∈qs,H1 q=none/\H q=some (.lst []))->Q (.ref D) H):cP U₀ (bO 0) rQ (GF eC) Q (Jd K p) H1:=by
 refine{λi m ys U H=>m=⇑xs-i/\i<=⇑xs/\⇑ys=i/\(∃v,U=[v])/\ax H1 H/\∃qs:List vF,ys=qs.map V.ref/\qs.Nodup/\∀q∈qs,H1 q=none/\H q=some (.lst []),{_,rfl,yg _,rfl,h0,ax.refl _,[],rfl,wa,by simp},?_};rintro i m ys U H ⟨rfl,hi,hx,⟨v,rfl⟩,sm,qs,rfl,nd,hq⟩;rw[za] at hx;rcases xI i ⇑xs with hlt | hge
 ·refine .inr {DV (sm.seq hp) hlt,by rw[za];ext,?_}
  rintro x H2 ⟨rfl,_⟩;refine{yg _,λq n=>?_};refine{_,(),rfl,hlt,by rw[zh,za,hx];rfl,{_,rfl},sm.trans (bj n),qs++[q],by rw[zk];rfl,?_,λr hr=>?_}
  ·rw[zT]
   refine{nd,by simp,λa ha b hb e=>?_};have:b=q:=by simpa using hb
   subst this;subst e;rw[(hq a ha).2] at n;cases n
  ·rcases zG.mp hr with z | z
   ·exact{(hq r z).1,bj n _ _ (hq r z).2}
   ·rw[zA.mp z]
    exact{sm.back n,aC}
 ·let e:i=⇑xs:=()
  subst e;refine .inl {{_,sm.seq hp,zm _},by rw[za];ext,λD hD=>?_};exact fin D qs _ (sm.trans (bj hD)) (sm.back hD) aC nd (λz=>by rw[(hq D z).2] at hD;cases hD) hx λq z=>{(hq q z).1,bj hD _ _ (hq q z).2}
theorem sD (f:α->β) (d:α):∀l:List α,(List.range ⇑l).map (λi=>f (l.getD i d))=l.map f
 | []=>rfl
 | x::r=>by
  rw[zv,List.range_succ_eq_map,zj,zB,zj]
  congr 1
  exact sD f d r
theorem Dp (F:α->β->γ) (g:Nat->β) (d:α):∀(l:List α) (k:Nat),(List.range ⇑l).map (λi=>F (l.getD i d) (g (k+i)))=(l.zip ((List.range ⇑l).map λi=>g (k+i))).map λp=>F p.1 p.2
 | [],_=>rfl
 | x::r,k=>by
  rw[zv,List.range_succ_eq_map,zj,zB,zj,zB,yX,zj]
  congr 1
  have:=Dp F g d r (k+1);let e:∀i,k+1+i=k+(i+1):=λi=>()
  simp only[e] at this;exact this
theorem HM:∀{l:List α} {i j:Nat},l.Nodup->l[i]?=some x->l[j]?=some x->i=j
 | [],_,_,_,h,_=>by simp at h
 | y::r,0,0,_,_,_=>rfl
 | y::r,0,j+1,n,h,k=>by
  simp at h k;subst h;exact absurd (zC k) (yd.mp n).1
 | y::r,i+1,0,n,h,k=>by
  simp at h k;subst k;exact absurd (zC h) (yd.mp n).1
 | y::r,i+1,j+1,n,h,k=>by
  simp at h k;rw[HM (yd.mp n).2 h k]
def ML (bs:List Int) (sp:Nat->Nat) (t:Nat):(List.range ⇑bs).map (λi=>lH (bs.getD i 0,cN sp t i))=(ra bs sp t).map lH:=by
 have:=Dp (λb p=>lH (b,p)) (cN sp t) 0 bs 0;simp only[Nat.zero_add] at this;rw[this];rfl
theorem vX (n:Int):∀ns:List Int,Gk (.int n) (ns.map V.int)=decide (n∈ns)
 | []=>rfl
 | m::ns=>by
  let ih:=vX n ns;unfold Gk at ih ⊢;rw[zj,xu,ih]
  by_cases e:n=m
  ·subst e
   simp[J3]
  ·simp[J3,e,Ne.symm (a:=m) (b:=n) (λz=>e z.symm)]
   try ext
def lI {α:Type} {J:It} {ws:List α} {enc:α->V} {U₀:St} {g:TG} {tc:TT} {te:TE} {Q:VK} {H1:Hp} (f:α->Bool) (F:α->Dt) (Pσ:St->Prop) (hn:⇑ws<=sizeLine) (h0:Pσ U₀)
  (go:∀i H,i<⇑ws->ax H1 H->J.go i H) (stop:∀H,ax H1 H->J.stop ⇑ws H) (yl:∀(i:Nat) x H H2 (hi:i<⇑ws),ax H1 H->J.Jg i H x H2->H2=H/\x=enc ws[i])
  (turn:∀(a:α) (U:St) (H:Hp) (R:St->V->Hp->Prop) (N:St->Hp->Prop),a∈ws->ax H1 H->Pσ U->(f a=true->∀σ3 y H5,ax H H5->Is H5 (F a) y->Pσ σ3->R σ3 y H5)->(f a=false->∀σ3 H5,ax H H5->Pσ σ3->N σ3 H5)->g (enc a) U H λσ3 H3=>tc σ3 H3 λb H4=>if b=true then te σ3 H4 λy H5=>R σ3 y H5 else N σ3 H4)
  (fin:∀D vs H,ax H1 H->H1 D=none->H D=some (.lst vs)->aD H ((ws.filter f).map F) vs->Q (.ref D) H):cP U₀ g tc te Q J H1:=by
 refine{λi m xs U H=>m=⇑ws-i/\i<=⇑ws/\⇑xs<=i/\ax H1 H/\aD H (((ws.take i).filter f).map F) xs/\Pσ U,{_,rfl,yg _,zm _,ax.refl _,by simp[aD],h0},?_};rintro i m xs U H ⟨rfl,hi,hx,sm,il,pσ⟩;rcases xI i ⇑ws with hlt | hge
 ·refine .inr {go i H hlt sm,(),?_}
  intro x H2 hy;let⟨rfl,rfl⟩:=yl i x H H2 hlt sm hy;let tk:ws.take (i+1)=ws.take i++[ws[i]]:=by rw[xx,zd hlt];rfl
  refine turn ws[i] U H2 _ _ (ym hlt) sm pσ ?_ ?_
  ·intro ff σ3 y H5 s5 iy p3
   refine{_,(),rfl,hlt,by rw[zh];show ⇑xs+1<=i+1;ext,sm.trans s5,?_,p3};rw[tk,yY,zk];have:[ws[i]].filter f=[ws[i]]:=by simp[ff]
   rw[this];exact cT iy (il.mono s5)
  ·intro ff σ3 H5 s5 p3
   refine{_,(),rfl,hlt,(),sm.trans s5,?_,p3};rw[tk,yY,zk];have:[ws[i]].filter f=[]:=by simp[ff]
   rw[this,yn,zV];exact il.mono s5
 ·let e:i=⇑ws:=()
  subst e;refine .inl {stop H sm,(),λD hD=>?_};let il':aD H ((ws.filter f).map F) xs:=by rw[zN] at il;exact il
  exact fin D xs _ (sm.trans (bj hD)) (sm.back hD) aC (il'.mono (bj hD))
noncomputable def mm (f:Int->Bool) (lo:Int) (n:Nat):List Int:=((List.range n).map λi=>lo+(i:Nat)).filter f
def nU (h:x∈mm f lo n):lo<=x/\x<lo+n/\f x=true:=by
 unfold mm at h;rw[wA] at h;let⟨i,hi,rfl⟩:=zH.mp h.1;have:=yS.mp hi;exact{(()),(),h.2}
def MJ:⇑(mm f lo n)<=n:=by
 unfold mm;refine zM (xj _ _) ?_;simp
def Ig {f:Int->Bool} {lo x:Int} {n:Nat} (h1:lo<=x) (h2:x<lo+n) (h3:f x=true):x∈mm f lo n:=by
 unfold mm;rw[wA];exact{zH.mpr {(x-lo).toNat,yS.mpr (),()},h3}
def jg {lo:Int} {n:Nat} {U₀ rest:St} {tc:TT} {Q:VK} {H1:Hp} (f:Int->Bool) (hn:n<=sizeLine) (h0:∃v,U₀=v::rest)
  (turn:∀(i:Int) (H:Hp) (R:Bool->Hp->Prop),lo<=i->i<lo+n->ax H1 H->(∀H',ax H H'->R (f i) H')->tc (some (.int i)::rest) H R)
  (fin:∀D H,ax H1 H->H1 D=none->H D=some (.lst ((mm f lo n).map V.int))->Q (.ref D) H):cP U₀ (bO 0) tc (aY 0) Q (LI lo n) H1:=by
 refine lI (ws:=(List.range n).map λi=>lo+(i:Nat)) (enc:=V.int) f Dt.int (λU=>∃v,U=v::rest) (by simp;exact hn) h0 (λi H hi _=>by rw[za,zR] at hi;exact hi) (λH _=>by rw[za,zR];exact zm n) ?_ ?_ ?_
 ·rintro i x H H2 hi _ ⟨rfl,rfl⟩
  exact{rfl,by simp}
 ·rintro a U H R N ha s1 ⟨v,rfl⟩ hR hN
  let⟨i,hi,rfl⟩:=zH.mp ha;have:=yS.mp hi;refine turn (lo+(i:Nat)) H _ () () s1 λH' s'=>?_;cases q:f (lo+(i:Nat)) with
  | true=>exact bW rfl {_,rfl,hR q _ _ _ s' cE {_,rfl}}
  | false=>exact b9 rfl (hN q _ _ s' {_,rfl})
 ·intro D vs H s1 nD hD il
  rw[dW il] at hD;exact fin D H s1 nD hD
noncomputable def jP (rs:List Rep) (b:Int):Bool:=match dC rs b with
 | none=>true
 | some r=>match (r.ends.filter λe=>decide (e.1<=b)).getLast? with
  | none=>true
  | some e=>decide (r.times∈e.2)
noncomputable def eJ (rs:List Rep) (b:Int):Bool:=rs.any λr=>decide (r.first<b)&&decide (b<=r.last)
noncomputable def Gm (r:Rep) (b:Int):Bool:=decide (r.first<=b)&&decide (b<=r.last)
theorem Bi:∀{l:List α} {i:Nat} {x:α},l[i]?=some x->p x=true->(∀y∈l.take i,p y=false)->l.find? p=some x
 | [],_,_,h,_,_=>by simp at h
 | y::r,0,x,h,hx,_=>by simp at h;subst h;rw[yT,hx]
 | y::r,i+1,x,h,hx,hn=>by
  rw[yT,hn y (by rw[ve];exact zr)];exact Bi (i:=i) (by simpa using h) hx λz hz=>hn z (by rw[ve];exact zp _ hz)
theorem DY:∀{es:List End},(es.map (·.1)).Pairwise (·<·)->x∈(es.zip ((es.drop 1).map (·.1)++[hi])).map (λp=>(p.1.1,p.2-1,p.1.2))->x.1<=b->b<=x.2.1->∃e,(es.filter λe=>decide (e.1<=b)).getLast?=some e/\e.2=x.2.2
 | [],_,h,_,_=>by simp at h
 | [e],_,h,h1,h2=>by
  simp at h;subst h;exact{e,by simp at h1 ⊢;exact h1,rfl}
 | e::e'::r,asc,h,h1,h2=>by
  rw[zj,xc] at asc;rw[List.drop_one,List.tail_cons,zj,wU,yX,zj,zD] at h;rcases h with h | h
  ·subst h
   dsimp only at h1 h2;let no:(e'::r).filter (λe=>decide (e.1<=b))=[]:=by
    rw[List.filter_eq_nil_iff];intro y hy;let hm:y.1∈(e'::r).map (·.1):=zP (f:=λz:End=>z.1) hy;let a2:=asc.2;rw[zj,xc] at a2;rw[zj,zD] at hm;rcases hm with z | z
    ·simp;ext
    ·have:=a2.1 _ z
     simp;ext
   refine{e,?_,rfl};rw[xK,yO (zg h1),no];rfl
  ·let⟨e2,f1,f2⟩:=DY (es:=e'::r) asc.2 (by rw[List.drop_one,List.tail_cons];exact h) h1 h2
   refine{e2,?_,f2};rw[xK];split
   ·cases q:(e'::r).filter (λe=>decide (e.1<=b)) with
    | nil=>rw[q] at f1;cases f1
    | cons y t=>rw[q] at f1;rw[List.getLast?_cons_cons];exact f1
   ·exact f1
theorem Lr:∀{es:List End},(∀e∈es,lo<=e.1/\e.1<hi)->x∈(es.zip ((es.drop 1).map (·.1)++[hi])).map (λp=>(p.1.1,p.2-1,p.1.2))->lo<=x.1/\x.2.1<hi
 | [],_,h=>by simp at h
 | [e],hx,h=>by
  simp at h;subst h;have:=hx e (by simp);exact{this.1,by show hi-1<hi;ext}
 | e::e'::r,hx,h=>by
  rw[List.drop_one,List.tail_cons,zj,wU,yX,zj,zD] at h;rcases h with h | h
  ·subst h
   let a:=hx e (by simp);let c:=hx e' (by simp);exact{a.1,by show e'.1-1<hi;ext}
  ·exact Lr (es:=e'::r) (λy hy=>hx y (zp _ hy)) (by rw[List.drop_one,List.tail_cons];exact h)
def Apart (rs:List Rep):Prop:=(∀r∈rs,r.first<=r.last/\(r.ends.map (·.1)).Pairwise (·<·)/\∀e∈r.ends,r.first<=e.1/\e.1<=r.last)/\rs.Pairwise λa b=>a.last<b.first
theorem tD:∀{rs:List Rep} {r r':Rep} {b:Int},(∀r∈rs,r.first<=r.last)->rs.Pairwise (λa b=>a.last<b.first)->r∈rs->r'∈rs->r.first<=b->b<=r.last->r'.first<=b->b<=r'.last->r=r'
 | [],_,_,_,_,_,h,_,_,_,_,_=>by cases h
 | x::l,r,r',b,hf,hp,h,h',h1,h2,h3,h4=>by
  rw[xc] at hp;rcases zD.mp h with e | e <;> rcases zD.mp h' with e' | e'
  ·rw[e,e']
  ·subst e
   have:=hp.1 r' e';ext
  ·subst e'
   have:=hp.1 r e;ext
  ·exact tD (λy hy=>hf y (zp _ hy)) hp.2 e e' h1 h2 h3 h4
def oW {rs:List Rep} {b:Int} {r:Rep} (h:dC rs b=some r):r∈rs/\r.first<=b/\b<=r.last:=by
 unfold dC at h;let h1:=List.mem_of_find?_eq_some h;let h2:=List.find?_some h;simp at h2;exact{(h1),h2}
def Lg {rs:List Rep} {b:Int} (ap:Apart rs) (h:jP rs b=true):lE rs b=true:=by
 unfold lE;rw[yp];intro r hr;rw[yp];intro x hx;let⟨a1,a2,a3⟩:=ap.1 r hr
 by_cases c1:x.1<=b
 ·by_cases c2:b<=x.2.1
  ·unfold du at hx
   let ein:=Lr (lo:=r.first) (λe he=>{(a3 e he).1,by have:=(a3 e he).2;ext}) hx;let⟨e,f1,f2⟩:=DY a2 hx c1 c2;unfold jP at h;let hro:dC rs b=some r:=by
    cases q:dC rs b with
    | none=>
     unfold dC at q;have:=xV.mp q r hr;simp at this;ext
    | some r'=>
     let⟨g1,g2,g3⟩:=oW q;rw[tD (λy hy=>(ap.1 y hy).1) ap.2 g1 hr g2 g3 () ()]
   rw[hro] at h;dsimp only at h;rw[f1] at h;dsimp only at h;rw[f2] at h;rw[h];simp
  ·rw[ze c2];simp
 ·rw[ze c1];simp
def ua {rs:List Rep} {b:Int} (h:eJ rs b=false):dZ rs b=true:=by
 unfold dZ;cases q:dC rs b with
 | none=>rfl
 | some r=>
  let⟨g1,g2,g3⟩:=oW q;dsimp only;unfold eJ at h;rw[vv] at h;have:=h r g1;simp at this;exact zg ()
def OX {rs:List Rep} {b:Int} (ap:Apart rs) (h:(∃r∈rs,r.last=b)\/(rs.any λr=>Gm r b)=false):gK rs b=true:=by
 unfold gK;cases q:dC rs b with
 | none=>rfl
 | some r=>
  let⟨g1,g2,g3⟩:=oW q;dsimp only;rcases h with⟨r',hr',e⟩ | h
  ·have:=tD (b:=b) (λy hy=>(ap.1 y hy).1) ap.2 g1 hr' g2 g3 (by have:=(ap.1 r' hr').1;ext) ()
   rw[this,e];exact zg rfl
  ·rw[vv] at h
   have:=h r g1;unfold Gm at this;simp at this;ext
def Rp (many:Int) (rs:List Rep) (j:Jump):Prop:=gN rs j=true/\(0<=j.tY/\j.tY<many)/\(0<=j.vW/\j.vW<many)/\(0<=j.cY/\j.cY<many)/\∀c,j.fU=some c->0<=c/\c<many
def Ti {many:Int} {rs:List Rep} (ap:Apart rs) {a t u:Int} {c:Option Int} (ha:0<=a) (ha2:a<many) (hl:(∃r∈rs,r.last=a)\/(rs.any λr=>Gm r a)=false) (ht:0<=t) (ht2:t<=a) (hti:eJ rs t=false)
  (hu:t<=u) (hu2:u<=a) (hul:jP rs u=true) (hc:∀x,c=some x->a<x/\x<many/\eJ rs x=false/\jP rs x=true):Rp many rs {(a),t,u,c}:=by
 refine{?_,{(ha),ha2},{ht,by show t<many;ext},{by show 0<=u;ext,by show u<many;ext},λx hx=>?_}
 ·unfold gN
  dsimp only;rw[yN (),yN (),OX ap hl,ua hti,Lg ap hul];cases c with
  | none=>rfl
  | some x=>
   let⟨h1,h2,h3,h4⟩:=hc x rfl;dsimp only;rw[zg h1,ua h3,Lg ap h4];rfl
 ·let⟨h1,h2,_⟩:=hc x hx
  exact{(()),h2}
def JX (t1:0<t) (t2:t<=32) (b1:0<b) (b2:b<=160):KA (red t b):=by
 let⟨g,g1,g2,g3,g4,g5⟩:=iT (t:=t) b1;let r1:=AQ (t:=t) (b:=b) (xa t1);let r0:=AO (t:=t) (b:=b) (xa t1);refine{Lm.Rd.of (xa t1) b1,?_,(),()};rcases Int.lt_or_eq_of_le r0 with z | z
 ·exact z
 ·rw[<-z,Int.mul_zero] at g2;ext
inductive Mz:List Expr->List (Int×Int)->Prop
 | n:Mz [] []
 | c {a b:Int} {x y u v m k r ps} (h:Mz r ps):Mz (.Tuple [.Constant (.int a) x y,.Constant (.int b) u v] m k::r) ((a,b)::ps)
def SS {X:Cx} {es:List Expr} {ps:List (Int×Int)} (h:Mz es ps):PA X es (GD ps):=by
 induction h with
 | n=>exact SR
 | c _ q=>exact UE q
def SO {X:Cx} {es:List Expr} {p1 pos:Pos} {b:Expr} {tb:TE} (ps:List (Int×Int)) (hb:PE X b tb) (hs:rK b) (h:Mz es ps<|>qh_) (hl:⇑ps<=1000<|>qb_):PE X (.Subscript (.List es p1) b pos) (e9 (Qy X.K) (Vr ps) tb):=AW Lh (SM (SS h) hl) hb hs
@[irreducible] def RV (X:Cx) (s:Stmt) (t:TS):Prop:=PS X s t
@[irreducible] def Vz (X:Cx) (e:Expr) (t:TE):Prop:=PE X e t
def Wi {X:Cx} {x:Str} {e:Expr} {te:TE} {pos pos':Pos} (i:Nat) (hN:X.N.Nodup) (he:Vz X e te) (hi:X.N[i]?=some x<|>qe_) (hx:Loc X.env.scope x<|>qi_) (hs:swapsWith e (some (.Name x pos')) pos.line X.env=pure false<|>qe_) (hf:X.fn x=true\/X.env.scope.names.lookup x=some .local<|>qa_) :
  RV X (.Assign [.Name x pos'] e pos) (Ca te (bO i)):=by
 unfold RV;unfold Vz at he;exact Oo hN hi hx he hs hf
def QE {X:Cx} {es:List Expr} {p1 pos:Pos} {b:Expr} {tb:TE} (ps:List (Int×Int)) (hb:PE X b tb) (hs:rK b) (h:Mz es ps<|>qh_) (hl:⇑ps<=1000<|>qb_):Vz X (.Subscript (.List es p1) b pos) (e9 (Qy X.K) (Vr ps) tb):=by
 unfold Vz;exact SO ps hb hs h hl
@[irreducible] def Ky (X:Cx) (s:List Stmt) (t:TS):Prop:=Em X s t
def zS {X:Cx} {s:Stmt} {t:TS} (h:PS X s t):RV X s t:=by unfold RV;exact h
def zo {X:Cx} {s:Stmt} {t:TS} (h:RV X s t):Ky X [s] t:=by unfold Ky;unfold RV at h;exact ak h
def zc {X:Cx} {s:Stmt} {r:List Stmt} {t u:TS} (h:RV X s t) (h2:Ky X r u):Ky X (s::r) (Sb t u):=by unfold Ky at h2 ⊢;unfold RV at h;exact af h h2
def zf {X:Cx} {s:List Stmt} {t:TS} (h:Ky X s t):Em X s t:=by unfold Ky at h;exact h
def Ki {K:yB} {a:vF} {ns:List Int} {U₀ rest:St} {tc:TT} {Q:VK} {H1:Hp} (f:Int->Bool) (hn:⇑ns<=sizeLine) (ha:aH K H1 a (ns.map V.int)) (h0:∃v,U₀=v::rest)
  (turn:∀(n:Int) (H:Hp) (R:Bool->Hp->Prop),ax H1 H->(∀H',ax H H'->R (f n) H')->tc (some (.int n)::rest) H R)
  (fin:∀D H,ax H1 H->H1 D=none->H D=some (.lst ((ns.filter f).map V.int))->Q (.ref D) H):cP U₀ (bO 0) tc (aY 0) Q (Jd K a) H1:=by
 refine lI (ws:=ns) (enc:=V.int) f Dt.int (λU=>∃v,U=v::rest) hn h0 (λi H hi sm=>DV (sm.seq ha) (by rw[za];exact hi)) (λH sm=>{_,sm.seq ha,by rw[za];exact zm _}) ?_ ?_ ?_
 ·rintro i x H H2 hi sm ⟨rfl,hy⟩
  let hx':=hy _ (sm.seq ha);rw[zK,zd hi] at hx';cases hx';exact{(rfl),rfl}
 ·rintro n U H R N hn s1 ⟨v,rfl⟩ hR hN
  refine turn n H _ s1 λH' s'=>?_;cases q:f n with
  | true=>exact bW rfl {_,rfl,hR q _ _ _ s' cE {_,rfl}}
  | false=>exact b9 rfl (hN q _ _ s' {_,rfl})
 ·intro D vs H s1 nD hD il
  rw[dW il] at hD;exact fin D H s1 nD hD
def Va (r:Rep):Prop:=0<=r.first/\r.first<=r.last/\r.last<200/\2<=r.times/\r.times<=9/\⇑r.ends<=9/\∀e∈r.ends,r.first<=e.1/\e.1<=r.last
def kL (lo hi:Int) (n:Nat) (bs:List Int):Prop:=⇑bs<=n/\∀b∈bs,lo<=b/\b<=hi
def kL.app {lo hi:Int} {n m:Nat} {a b:List Int} (h:kL lo hi n a) (k:kL lo hi m b):kL lo hi (n+m) (a++b):=
 {by rw[zh];exact Nat.add_le_add h.1 k.1,λx hx=>(zG.mp hx).elim (h.2 x) (k.2 x)}
def kL.mono {lo hi lo' hi':Int} {n m:Nat} {a:List Int} (h:kL lo hi n a) (l:lo'<=lo) (u:hi<=hi') (k:n<=m):kL lo' hi' m a:=
 {zM h.1 k,λx hx=>{Int.le_trans l (h.2 x hx).1,Int.le_trans (h.2 x hx).2 u}}
def JH {i j lo hi:Int} (a:lo<=i) (b:j-1<=hi) {n:Nat} (k:(j-i).toNat<=n):kL lo hi n (cV i (j-i).toNat):=by
 unfold cV;refine{by rw[za,zR];exact k,λx hx=>?_};let⟨t,ht,rfl⟩:=zH.mp hx;have:=yS.mp ht;ext
def Pl {r:Rep} (h:Va r):⇑(du r)<=9/\∀x∈du r,(r.first<=x.1/\x.1<=r.last)/\r.first-1<=x.2.1/\x.2.1<=r.last:=by
 let⟨_,h2,_,_,_,h6,h7⟩:=h;unfold du;refine{by rw[za,xC];ext,λx hx=>?_};let⟨⟨e,b⟩,hz,rfl⟩:=zH.mp hx;let⟨z1,z2⟩:=wz hz;refine{h7 e z1,?_};rcases zG.mp z2 with z | z
 ·let⟨e',he,rfl⟩:=zH.mp z
  have:=h7 e' (List.mem_of_mem_drop he);show r.first-1<=e'.1-1/\e'.1-1<=r.last;ext
 ·cases zA.mp z
  show r.first-1<=r.last+1-1/\r.last+1-1<=r.last;ext
noncomputable def uc (last:Int):List End->List (Int×Int×List Int)
 | []=>[]
 | e::es=>(e.1,(es.head?.map (·.1)).getD (last+1)-1,e.2)::uc last es
theorem DZ (last:Int):∀es:List End,(es.zip ((es.drop 1).map (·.1)++[last+1])).map (λp=>(p.1.1,p.2-1,p.1.2))=uc last es
 | []=>rfl
 | [e]=>rfl
 | e::f::es=>by
  let h:=DZ last (f::es);rw[uc,<-h];rfl
def Bl (r:Rep):du r=uc r.last r.ends:=DZ r.last r.ends
noncomputable def EK (n:Int) (l:List (Int×Int×List Int)):List Int:=(l.map λx=>if n∈x.2.2 then cV x.1 (x.2.1+1-x.1).toNat else []).flatten
noncomputable def kz (r:Rep) (n:Int):List Int:=cV r.first (((r.ends.head?.map (·.1)).getD (r.last+1))-r.first).toNat++EK n (du r)
def OK (es:List End) (n b:Int):Bool:=((es.filter λe=>decide (e.1<=b)).getLast?.map λe=>decide (n∈e.2)).getD true
noncomputable def Tc (r:Rep) (n:Int):List Int:=(cV r.first (r.last+1-r.first).toNat).filter (OK r.ends n)
def Hf {a b c:Int} (h:a<=b) (k:b<=c):cV a (c-a).toNat=cV a (b-a).toNat++cV b (c-b).toNat:=by
 unfold cV;rw[show(c-a).toNat=(b-a).toNat+(c-b).toNat from by ext,List.range_add,zk,zB]
 congr 1
 refine xA λi _=>?_;show a+(((b-a).toNat+i:Nat):Int)=b+(i:Int);ext
def iR {a c x:Int} (h:x∈cV a (c-a).toNat):a<=x/\x<c:=by
 unfold cV at h;let⟨t,ht,rfl⟩:=zH.mp h;have:=yS.mp ht;ext
theorem je {α:Type} {f:α->Bool} {c:Bool}:∀{l:List α},(∀x∈l,f x=c)->l.filter f=if c=true then l else []
 | [],_=>by cases c <;> rfl
 | x::l,h=>by
  rw[xK,h x zr,je λy hy=>h y (zp _ hy)];cases c <;> rfl
def OJ {pre es:List End} {e:End} {n b:Int} (h1:∀x∈pre,x.1<=b) (h2:e.1<=b) (h3:∀x∈es,b<x.1):OK (pre++e::es) n b=decide (n∈e.2):=by
 unfold OK;rw[yY,xK,yO (zg h2),je (l:=pre) (c:=true) λx hx=>zg (h1 x hx),je (l:=es) (c:=false) λx hx=>ze (by have:=h3 x hx;ext)];simp
theorem K2 {last n:Int}:∀{es pre:List End} {e:End},(∀x∈pre,x.1<=e.1)->(e::es).Pairwise (λa b=>a.1<b.1)->(∀x∈e::es,x.1<=last)->
  (cV e.1 (last+1-e.1).toNat).filter (OK (pre++e::es) n)=EK n (uc last (e::es))
 | [],pre,e,h1,h2,h3=>by
  let hl:=h3 e zr;rw[je (c:=decide (n∈e.2)) λx hx=>OJ (λy hy=>by have:=h1 y hy;have:=iR hx;ext) (iR hx).1 (by simp)];show _=(if n∈e.2 then cV e.1 (last+1-1+1-e.1).toNat else [])++[];rw[zV,show last+1-1+1-e.1=last+1-e.1 from by ext]
  by_cases c:n∈e.2 <;> simp[c]
 | f::es,pre,e,h1,h2,h3=>by
  let⟨p1,p2⟩:=xc.mp h2;let ef:=p1 f zr;let fl:=h3 f (zp _ zr);rw[Hf (a:=e.1) (b:=f.1) (c:=last+1) () (),yY];let ih:=K2 (last:=last) (n:=n) (es:=es) (pre:=pre++[e]) (e:=f) (λx hx=>by
   rcases zG.mp hx with z | z
   ·have:=h1 x z;ext
   ·cases zA.mp z;ext) p2 λx hx=>h3 x (zp _ hx)
  rw[zF] at ih;show _=(if n∈e.2 then cV e.1 (f.1-1+1-e.1).toNat else [])++EK n (uc last (f::es));rw[<-ih]
  congr 1
  rw[je (c:=decide (n∈e.2)) λx hx=>OJ (λy hy=>by have:=h1 y hy;have:=iR hx;ext) (iR hx).1 λy hy=>by
   let b:=(iR hx).2;rcases zD.mp hy with rfl | hy
   ·exact b
   ·have:=(xc.mp p2).1 y hy;ext]
  rw[show f.1-1+1-e.1=f.1-e.1 from by ext]
  by_cases c:n∈e.2 <;> simp[c]
def QI {r:Rep} {n:Int} (h0:r.first<=r.last) (h2:r.ends.Pairwise λa b=>a.1<b.1) (h3:∀x∈r.ends,r.first<=x.1/\x.1<=r.last):kz r n=Tc r n:=by
 unfold kz Tc;rw[Bl];cases q:r.ends with
 | nil=>
  show cV r.first (r.last+1-r.first).toNat++[]=_;rw[zV,je (f:=OK [] n) (c:=true) λx _=>rfl];rfl
 | cons e es=>
  rw[q] at h2 h3;let⟨e1,e2⟩:=h3 e zr;rw[Hf (a:=r.first) (b:=e.1) (c:=r.last+1) e1 (),yY,<-K2 (pre:=[]) (by simp) h2 λx hx=>(h3 x hx).2]
  congr 1
  show cV r.first (e.1-r.first).toNat=_;rw[je (c:=true) λx hx=>?_]
  ·rfl
  ·unfold OK
   rw[je (l:=e::es) (c:=false) λy hy=>ze (by
    have:=(iR hx).2;rcases zD.mp hy with rfl | hy
    ·ext
    ·have:=(xc.mp h2).1 y hy;ext)]
   rfl
theorem Ea (last:Int):∀es:List End,⇑(uc last es)=⇑es
 | []=>rfl
 | e::es=>by rw[uc,zv,Ea last es,zv]
def OG {r:Rep} {n:Int} (h:⇑(du r)=0):kz r n=cV r.first (r.last+1-r.first).toNat:=by
 unfold kz;rw[yt.mp h];rw[Bl,Ea] at h;rw[yt.mp h];exact zV _
def Mp {r:Rep} {n:Int} {t:Int×Int×List Int} (h:(du r)[0]?=some t):kz r n=cV r.first (t.1-r.first).toNat++EK n (du r):=by
 unfold kz
 congr 1
 rw[Bl] at h;cases q:r.ends with
 | nil=>rw[q] at h;cases h
 | cons e es=>rw[q] at h;cases h;rfl
def L6 {n:Int} {l:List (Int×Int×List Int)} {y:Int×Int×List Int}:EK n (l++[y])=EK n l++if n∈y.2.2 then cV y.1 (y.2.1+1-y.1).toNat else []:=by
 unfold EK;rw[zk,xh];simp
def Me {a:Int} {k:Nat}:cV a (k+1)=cV a k++[a+(k:Int)]:=by unfold cV;rw[List.range_succ,zk];rfl
noncomputable def Mg (once:Bool) (r:Rep):List Int:=if once=true then kz r r.times else((cV 1 r.times.toNat).map (kz r)).flatten
noncomputable def LZ (S:bU) (once:Bool) (c:Int):List Int×Int:=((S.repeats.find? λr=>decide (r.first=c)).map λr=>(Mg once r,r.last)).getD ([c],c)
noncomputable def CP (S:bU) (once:Bool) (l b:Int):Nat->List Int×Int
 | 0=>([],b)
 | k+1=>if(CP S once l b k).2<=l then((CP S once l b k).1++(LZ S once (CP S once l b k).2).1.filter (λt=>decide (t<=l)),(LZ S once (CP S once l b k).2).2+1) else CP S once l b k
def NY {S:bU} {once:Bool} (d:S.repeats.Pairwise λa b=>a.last<b.first) (l:∀r∈S.repeats,Va r) {r:Rep} (hr:r∈S.repeats):LZ S once r.first=(Mg once r,r.last):=by
 unfold LZ;let h:S.repeats.find? (λx=>decide (x.first=r.first))=some r:=by
  generalize S.repeats=rs at d l hr
  induction rs with
  | nil=>cases hr
  | cons x xs ih=>
   let⟨d1,d2⟩:=xc.mp d;rw[yT];rcases zD.mp hr with rfl | hr
   ·rw[zg rfl]
   ·have:=d1 r hr
    have:=(l x zr).2.1;rw[ze ()];exact ih d2 (λy hy=>l y (zp _ hy)) hr
 rw[h];rfl
def KW {S:bU} {once:Bool} {c:Int} (h:∀r∈S.repeats,r.first≠c):LZ S once c=([c],c):=by
 unfold LZ;rw[xV.mpr λr hr=>by simp[h r hr]];rfl
def Rm (S:bU):Prop:=(∀r∈S.repeats,Va r)/\⇑S.repeats<=1000/\(S.repeats.Pairwise λa b=>a.last<b.first)/\∀r∈S.repeats,r.last<⇑S.aL
def T4 (S:bU) (H:Hp) (i:Nat) (kvs:List (Key×V)):Prop:=(∀(k:Int) v,di kvs (.inl k)=some v->∃r∈S.repeats,r.first=k/\Is H (gO r) v)/\∀r∈S.repeats.take i,di kvs (.inl r.first)≠none
def T4.nil {S:bU} {H:Hp}:T4 S H 0 []:={λ_ _ z=>(by rw[Gv] at z;cases z),λ_ z=>by simp at z}
def T4.put {S:bU} {H:Hp} {i:Nat} {kvs:List (Key×V)} {r:Rep} {v:V} (h:T4 S H i kvs) (hr:S.repeats[i]?=some r) (iv:Is H (gO r) v):T4 S H (i+1) (putK kvs (.inl r.first) v):=by
 refine{λk u hu=>?_,λx hx z=>?_}
 ·rw[mH] at hu
  split at hu
  ·rename_i e
   cases hu;exact{r,zC hr,(Sum.inl.inj e).symm,iv}
  ·exact h.1 k u hu
 ·rw[mH] at z
  split at z
  ·cases z
  ·rename_i ne
   rw[cg hr] at hx;rcases zG.mp hx with hx | hx
   ·exact h.2 x hx z
   ·cases zA.mp hx
    exact ne rfl
def Ve (x:Int×Int):Prop:=KA x/\x.2 ∣ 960
def PV (j:Nat) (t:Int×Int):Prop:=Lm.Rd t/\t.2 ∣ 960/\t.1<=32*j*t.2
def Qe:PV 0 (0,1):={.zero,{960,rfl},∅}
def TC {t b s M:Int} (hb:0<b) (hM:0<M) (h:t*M=s*b):(red t b).2 ∣ M:=by
 rw[Sy hb hM h];let⟨g,_,_,e,_⟩:=iT (t:=s) hM;exact{g,by rw[xE];exact e}
def R9 {j:Nat} {t y:Int×Int} (h:PV j t) (hy:Ve y):PV (j+1) (Lm.add t y):=by
 let⟨h1,⟨p,ep⟩,h3⟩:=h;let⟨⟨y1,y2,y3,y4⟩,⟨q,eq⟩⟩:=hy;let⟨t0,t1,_⟩:=h1.pos;let⟨_,w1,_⟩:=y1.pos;let hb:0<t.2*y.2:=xB t1 w1;refine{h1.add y1,TC (s:=t.1*p+y.1*q) hb ∅ ?_,?_}
 ·rw[Int.add_mul,Int.add_mul]
  congr 1
  ·rw[ep];simp only[wZ,xE,wN]
  ·rw[eq];simp only[wZ,xE,wN]
 ·let⟨g,g0,e1,e2,_⟩:=iT (t:=t.1*y.2+y.1*t.2) hb
  let a:t.1*y.2<=32*j*t.2*y.2:=wV h3 (xa w1);let b:y.1*t.2<=32*y.2*t.2:=wV () (xa t1);let c:t.1*y.2+y.1*t.2<=32*((j+1:Nat):Int)*(t.2*y.2):=by
   let e:32*((j+1:Nat):Int)*(t.2*y.2)=32*j*t.2*y.2+32*y.2*t.2:=by
    rw[Int.natCast_add,Int.mul_add,Int.add_mul]
    congr 1
    ·simp only[wZ]
    ·show 32*1*(t.2*y.2)=_
     simp only[Int.mul_one,wZ,xE t.2 y.2]
   rw[e];ext
  unfold Lm.add;generalize red (t.1*y.2+y.1*t.2) (t.2*y.2)=r at e1 e2;rw[e1,e2] at c;refine Int.le_of_mul_le_mul_left (a:=g) ?_ g0;rw[wN];exact c
def Ul {j:Nat} {t:Int×Int} (h:PV j t) (hj:j<=16777216):(0<=t.1/\t.1<=515396075520)/\0<t.2/\t.2<=960:=by
 let⟨h1,h2,h3⟩:=h;let⟨t0,t1,_⟩:=h1.pos;let d:=Int.le_of_dvd ∅ h2;refine{{t0,?_},t1,d};let a:32*(j:Int)*t.2<=32*16777216*960:=wd () d (xa t1) ∅;exact Int.le_trans h3 a
noncomputable def GG (S:bU) (l:List Nat):Int×Int:=l.foldl (λt b=>Lm.add t (S.len b)) (0,1)
def Dw (S:bU) (l:List Nat) (b:Nat):GG S (l++[b])=Lm.add (GG S l) (S.len b):=by unfold GG;rw[zY];rfl
def Qi {S:bU} {n:Nat} (h:∀b,b<n->Ve (S.len b)):∀{l:List Nat},(∀b∈l,b<n)->∀i,PV (min i ⇑l) (GG S (l.take i)):=by
 intro l hl i
 induction i with
 | zero=>rw[wJ,Nat.zero_min];exact Qe
 | succ i ih=>
  by_cases c:i<⇑l
  ·rw[cg (zd c),Dw,show min (i+1) ⇑l=min i ⇑l+1 from by ext]
   exact R9 ih (h _ (hl _ (ym c)))
  ·rw[xy (),show min (i+1) ⇑l=min i ⇑l from by ext]
   rw[xy ()] at ih;exact ih
inductive rJ (S:bU) (l:List Nat) (H:Hp) (i:Nat) (v:V):Prop
 | mk (a q:vF) (b:Nat) (_:v=.ref a) (_:H a=some (.tup [.int (b:Nat),.ref q,.int ((l.take (i+1)).count b:Nat)])) (_:H q=some (jy (GG S (l.take i)))) (_:l[i]?=some b)
def rJ.mono {S:bU} {l:List Nat} {H H':Hp} (s:ax H H') {i:Nat} {v:V} (h:rJ S l H i v):rJ S l H' i v:=by
 let⟨a,q,b,h1,h2,h3,h4⟩:=h;exact{a,q,b,h1,s _ _ h2,s _ _ h3,h4}
theorem rJ.upd {S:bU} {l:List Nat} {H:Hp} {D:vF} {o:HO} (hD:cA (H D)) {i:Nat} {v:V} (h:rJ S l H i v):rJ S l (L2.upd H D o) i v:=by
 let⟨a,q,b,h1,h2,h3,h4⟩:=h;exact{a,q,b,h1,by rw[aE λe=>hD _ (e▸h2)];exact h2,by rw[aE λe=>hD _ (e▸h3)];exact h3,h4}
def QW {H:Hp} {q:vF} {l:List Int} (h:H q=some (.tup (l.map V.int))):Is H (jf l) (.ref q):=by
 refine cw h ?_;clear h
 induction l with
 | nil=>exact cD
 | cons x l ih=>exact aO cE ih
def QY {H:Hp} {l:List Int} {v:V} (h:Is H (jf l) v):∃q,v=.ref q/\H q=some (.tup (l.map V.int)):=by
 unfold jf Is at h;let⟨q,vs,e,hq,hl⟩:=h;rw[dW hl] at hq;exact{(q),e,hq}
def WE (S:bU):Prop:=∀r∈S.repeats,r.ends.Pairwise λa b=>a.1<b.1
def Kh {K:yB} {α:Type} {p:vF} {ws:List α} {enc:α->V} {U₀:St} {g:TG} {tc:TT} {te:TE} {Q:VK} {H1:Hp} (f:α->Bool) (F:α->Dt) (Pσ:St->Prop) (hn:⇑ws<=sizeLine) (hp:H1 p=some (.tup (ws.map enc))) (h0:Pσ U₀)
  (turn:∀(a:α) (U:St) (H:Hp) (R:St->V->Hp->Prop) (N:St->Hp->Prop),a∈ws->ax H1 H->Pσ U->(f a=true->∀σ3 y H5,ax H H5->Is H5 (F a) y->Pσ σ3->R σ3 y H5)->(f a=false->∀σ3 H5,ax H H5->Pσ σ3->N σ3 H5)->g (enc a) U H λσ3 H3=>tc σ3 H3 λb H4=>if b=true then te σ3 H4 λy H5=>R σ3 y H5 else N σ3 H4)
  (fin:∀D vs H,ax H1 H->H1 D=none->H D=some (.lst vs)->aD H ((ws.filter f).map F) vs->Q (.ref D) H):cP U₀ g tc te Q (P9 K p) H1:=by
 refine lI f F Pσ hn h0 (λi H hi sm=>Fv (eN sm hp) (by rw[za];exact hi)) (λH sm=>{_,eN sm hp,by rw[za];exact zm _}) ?_ turn fin;rintro i x H H2 hi sm ⟨rfl,hy⟩;let hx':=hy _ (eN sm hp);rw[zK,zd hi] at hx';cases hx';exact{(rfl),rfl}
theorem RO:∀{es:List End} {a:Int} {ps:List Int} {x:Int×List Int},eX es a ps=some x->x.2=ps++(es.map (·.2)).flatten
 | [],a,ps,x,h=>by cases h;exact(zV _).symm
 | e::r,a,ps,x,h=>by
  unfold eX at h;split at h
  ·cases h
  ·split at h
   ·cases h
   ·rw[RO h,zj,ya,zF]
def Pc {r:Rep} (h:dH r=true) (ne:r.ends≠[]):((r.ends.map (·.2)).flatten).Perm (cV 1 r.times.toNat):=by
 unfold dH at h;split at h
 ·rename_i q;exact absurd q ne
 ·split at h
  ·cases h
  ·rename_i a ps q
   rw[zO] at h;let e:=ye h.2;let p:=RO q;rw[List.nil_append] at p;rw[<-p];rw[show(r.times+1-1).toNat=r.times.toNat from by ext] at e;show ps.Perm (K5 1 r.times.toNat);rw[<-e];exact(List.mergeSort_perm ps _).symm
def AM (a:Int) (n:Nat):(cV a n).Nodup:=by
 unfold cV;exact List.Pairwise.map _ (λx y z=>()) List.nodup_range
def Pg {A B E:List Int} (h:(A++(E++B)).Nodup):(A++(E++B)).filter (λn=>decide (n∈E))=E:=by
 let⟨_,h2,h3⟩:=zT.mp h;let⟨_,_,h5⟩:=zT.mp h2;rw[yY,yY,je (l:=A) (c:=false) λx hx=>ze λz=>h3 x hx x (zJ _ z) rfl,je (l:=E) (c:=true) λx hx=>zg hx,je (l:=B) (c:=false) λx hx=>ze λz=>h5 x z x hx rfl];simp
def Q4 {r:Rep} (h:dH r=true) {e:End} (he:e∈r.ends):⇑((cV 1 r.times.toNat).filter λn=>decide (n∈e.2))=⇑e.2:=by
 let p:=Pc h (List.ne_nil_of_mem he);let⟨s,t,q⟩:=List.append_of_mem he;rw[<-(p.filter λn=>decide (n∈e.2)).length_eq];let nd:=p.nodup_iff.mpr (AM 1 r.times.toNat);rw[q,zk,zj,xh,ya] at nd ⊢;rw[Pg nd]
noncomputable def QP (r:Rep) (b:Int):Int:=((r.ends.filter λe=>decide (e.1<=b)).getLast?.map λe=>((⇑e.2:Nat):Int)).getD r.times
def Pz {r:Rep} (h0:r.first<=r.last) (h2:r.ends.Pairwise λa b=>a.1<b.1) (h3:∀x∈r.ends,r.first<=x.1/\x.1<=r.last) (n b:Int):(kz r n).count b=if(r.first<=b/\b<=r.last)/\OK r.ends n b=true then 1 else 0:=by
 rw[QI h0 h2 h3];unfold Tc
 by_cases c:OK r.ends n b=true
 ·rw[List.count_filter c]
  by_cases d:r.first<=b/\b<=r.last
  ·rw[yO {(d),c}]
   refine((AM _ _).count).trans (yO ?_);unfold cV;exact zH.mpr {(b-r.first).toNat,yS.mpr (),()}
  ·rw[yN λz=>d z.1]
   refine List.count_eq_zero.mpr λz=>d ?_;have:=iR z;ext
 ·rw[yN λz=>c z.2]
  exact List.count_eq_zero.mpr λz=>c (wA.mp z).2
def Rb {r:Rep} (h0:r.first<=r.last) (h2:r.ends.Pairwise λa b=>a.1<b.1) (h3:∀x∈r.ends,r.first<=x.1/\x.1<=r.last) (hf:dH r=true) (ht:0<=r.times) (b:Int):((Mg false r).count b:Int)=if r.first<=b/\b<=r.last then QP r b else 0:=by
 let key:∀ns:List Int,((ns.map (kz r)).flatten).count b=if r.first<=b/\b<=r.last then(ns.filter λn=>OK r.ends n b).length else 0:=by
  intro ns
  induction ns with
  | nil=>simp
  | cons n ns ih=>
   rw[zj,ya,List.count_append,ih,Pz h0 h2 h3,xK]
   by_cases d:r.first<=b/\b<=r.last
   ·by_cases c:OK r.ends n b=true
    ·rw[yO {(d),c},yO d,yO d,yO c,zv];ext
    ·rw[yN λz=>c z.2,yO d,yO d,yN c];ext
   ·rw[yN λz=>d z.1,yN d,yN d]
 show((((cV 1 r.times.toNat).map (kz r)).flatten).count b:Int)=_;rw[key]
 by_cases d:r.first<=b/\b<=r.last
 ·rw[yO d,yO d]
  unfold QP OK;cases q:(r.ends.filter λe=>decide (e.1<=b)).getLast? with
  | none=>
   show(⇑((cV 1 r.times.toNat).filter λ_=>true):Int)=r.times;rw[List.filter_eq_self.mpr λ_ _=>rfl];unfold cV;rw[za,zR];ext
  | some e=>
   show(⇑((cV 1 r.times.toNat).filter λn=>decide (n∈e.2)):Int)=⇑e.2;rw[Q4 hf (wA.mp (vb q)).1]
 ·rw[yN d,yN d];rfl
noncomputable def Np (rs:List Rep) (b:Int):Int:=rs.foldl (λo r=>if r.first<=b/\b<=r.last then QP r b else o) 1
def OL (rs:List Rep) (r:Rep) (b:Int):Np (rs++[r]) b=if r.first<=b/\b<=r.last then QP r b else Np rs b:=by unfold Np;rw[zY];rfl
theorem Bh {b:Int}:∀{rs:List Rep} {o:Int},(∀r∈rs,¬(r.first<=b/\b<=r.last))->rs.foldl (λo r=>if r.first<=b/\b<=r.last then QP r b else o) o=o
 | [],_,_=>rfl
 | r::rs,o,h=>by rw[List.foldl_cons,yN (h r zr)];exact Bh λx hx=>h x (zp _ hx)
def SY {rs:List Rep} (d:rs.Pairwise λa b=>a.last<b.first) {r:Rep} (hr:r∈rs) {b:Int} (h:r.first<=b/\b<=r.last):Np rs b=QP r b:=by
 let⟨s,t,q⟩:=List.append_of_mem hr;rw[q] at d ⊢;let d2:=(xc.mp (zU.mp d).2.1).1;unfold Np;rw[zY,List.foldl_cons,yO h];exact Bh λx hx=>by have:=d2 x hx;ext
def P4 (S:bU):Prop:=Rm S/\WE S/\∀r∈S.repeats,dH r=true
theorem K6 {b:Int}:∀{rs:List Rep},(rs.Pairwise λa b=>a.last<b.first)->∀{r r':Rep},r∈rs->r'∈rs->(r.first<=b/\b<=r.last)->(r'.first<=b/\b<=r'.last)->r=r'
 | [],_,_,_,hr,_,_,_=>by cases hr
 | x::rs,d,r,r',hr,hr',h,h'=>by
  let⟨d1,d2⟩:=xc.mp d;rcases zD.mp hr with e | hr
  ·rcases zD.mp hr' with e' | hr'
   ·rw[e,e']
   ·have:=d1 r' hr';rw[e] at h;ext
  ·rcases zD.mp hr' with e' | hr'
   ·have:=d1 r hr;rw[e'] at h';ext
   ·exact K6 d2 hr hr' h h'
def CI (S:bU) (g:List Int×Int):Prop:=0<=g.2/\(∀r∈S.repeats,¬(r.first<g.2/\g.2<=r.last))/\∀b:Int,(g.1.count b:Int)=if 0<=b/\b<g.2 then Np S.repeats b else 0
def Rf {S:bU} (F:P4 S) {bs:List Int} {c:Int} (h:CI S (bs,c)) (hc:c<=(⇑S.aL:Int)-1):CI S (bs++(LZ S false c).1.filter (λt=>decide (t<=(⇑S.aL:Int)-1)),(LZ S false c).2+1):=by
 let⟨i0,i1,i2⟩:=h;dsimp only at i0 i1 i2;let⟨⟨rd,_,rp,rb⟩,ed,fit⟩:=F
 by_cases ex:∃r∈S.repeats,r.first=c
 ·let⟨r,hr,e⟩:=ex
  let⟨r1,r2,r3,r4,r5,r6,r7⟩:=rd r hr;let rl:=rb r hr;let est:LZ S false c=(Mg false r,r.last):=by rw[<-e];exact NY rp rd hr
  rw[est];let cr:=Rb r2 (ed r hr) r7 (fit r hr) ();clear est;generalize Mg false r=bs' at cr;refine{by show 0<=r.last+1;ext,λx hx z=>?_,λb=>?_}
  ·let z:x.first<r.last+1/\r.last+1<=x.last:=z
   let e2:x=r:=K6 rp hx hr {(()),()} {r2,yR _};rw[e2] at z;ext
  ·show((bs++bs'.filter _).count b:Int)=if 0<=b/\b<r.last+1 then _ else _
   rw[List.count_append,List.filter_eq_self.mpr λx hx=>?_]
   ·rw[Int.natCast_add,i2,cr]
    by_cases d:r.first<=b/\b<=r.last
    ·rw[yN (),yO d,yO (),SY rp hr d];ext
    ·rw[yN d]
     by_cases d2:0<=b/\b<c
     ·rw[yO d2,yO ()];ext
     ·rw[yN d2,yN ()];rfl
   ·refine zg ?_
    let h0:=cr x;have:0<bs'.count x:=List.count_pos_iff.mpr hx;split at h0 <;> ext
 ·let nr:∀r∈S.repeats,r.first≠c:=λr hr e=>ex {(r),hr,e}
  rw[KW nr];refine{by show 0<=c+1;ext,λx hx z=>?_,λb=>?_}
  ·let z:x.first<c+1/\c+1<=x.last:=z
   have:=i1 x hx;have:=nr x hx;ext
  ·show((bs++[c].filter _).count b:Int)=if 0<=b/\b<c+1 then _ else _
   let e1:(([c].count b:Nat):Int)=if b=c then 1 else 0:=by
    rw[List.count_singleton]
    by_cases d:b=c
    ·simp[d]
    ·rw[yN d,yN (by simpa using λz:c=b=>d z.symm)];rfl
   rw[List.count_append,xK,yO (zg hc),List.filter_nil,Int.natCast_add,i2,e1]
   by_cases d:b=c
   ·rw[yO d,yN (),yO ()]
    unfold Np;rw[Bh λx hx z=>by have:=i1 x hx;have:=nr x hx;ext];rfl
   ·rw[yN d]
    by_cases d2:0<=b/\b<c
    ·rw[yO d2,yO ()];ext
    ·rw[yN d2,yN ()];rfl
theorem O7 {S:bU} (F:P4 S):∀k:Nat,CI S (CP S false ((⇑S.aL:Int)-1) 0 k)
 | 0=>{yR _,λr hr z=>by have:=(F.1.1 r hr).1;have:r.first<0:=z.1;ext,λb=>by rw[yN (by show¬(0<=b/\b<0);ext)];rfl}
 | k+1=>by
  let h:=O7 F k;rw[CP];split
  ·rename_i hc;exact Rf F h hc
  ·exact h
def Tr {S:bU} (F:P4 S) {k:Nat} (h:(⇑S.aL:Int)-1<(CP S false ((⇑S.aL:Int)-1) 0 k).2) {b:Nat} (hb:b<⇑S.aL):((CP S false ((⇑S.aL:Int)-1) 0 k).1.count (b:Int):Int)=Np S.repeats b:=by
 rw[(O7 F k).2.2,yO ()]
def Rc {bs:List Nat} {b:Nat}:(bs.map λx:Nat=>(x:Int)).count (b:Int)=bs.count b:=by
 induction bs with
 | nil=>rfl
 | cons x bs ih=>
  rw[zj,List.count_cons,List.count_cons,ih]
  by_cases e:x=b
  ·simp[e]
  ·rw[yN (by simpa using λz:(x:Int)=b=>e ()),yN (by simpa using e)]
def Lj {n j:Nat} (h:j<n):O1 n (j:Int)=some j:=by unfold O1;rw[yO (),yO (),x8]
def K1 {n m:Nat} {f g:Nat->V} {v:V} (h:g m=v) (k:∀b,b≠m->g b=f b):((List.range n).map f).set m v=(List.range n).map g:=by
 refine List.ext_getElem (by simp) λi h1 h2=>?_;rw[List.getElem_set];split
 ·rename_i e;subst e;simp[h]
 ·rename_i e;simp;exact(k i (λz=>e z.symm)).symm
def LD {n:Nat} (f:Nat->Int):((List.range n).map λb=>V.int (f b)).all QC=true:=by rw[wj];exact yp.mpr λ_ _=>rfl
def TN {n m:Nat} {f:Nat->V} (h:m<n):((List.range n).map f)[m]?=some (f m):=by rw[zK,List.getElem?_range h];rfl
def comp_const {K:yB} {p:vF} {bv:List V} {v0:Option V} {n:Int} {Q:VK} {H1:Hp} (hn:⇑bv<=sizeLine) (hp:H1 p=some (.lst bv))
  (fin:∀D H,ax H1 H->H1 D=none->H D=some (.lst ((List.range ⇑bv).map λ_=>V.int n))->Q (.ref D) H):cP [v0] (bO 0) rQ (tC (.int n)) Q (Jd K p) H1:=by
 refine dA (ws:=bv) (enc:=id) (λ_=>.int n) (λU=>∃v1,U=[v1]) hn (by rw[List.map_id];exact aH.of hp) {_,rfl} ?_ ?_
 ·rintro x U H R hx s ⟨v1,rfl⟩ rr
  exact rr _ _ _ (ax.refl _) cE {_,rfl}
 ·intro D vs H s n0 h il
  let e:bv.map (λ_=>Dt.int n)=((List.range ⇑bv).map λ_=>n).map Dt.int:=by rw[zB];exact List.ext_getElem (by simp) λi h1 h2=>by simp
  rw[e] at il;rw[dW il,zB] at h;exact fin D H s n0 h
def K9 {X:Cx} {o i e:Expr} {to ti te:TE} {pos tpos:Pos} (ho:PE X o to) (hi:PE X i ti) (he:PE X e te)
  (ha:(∀v,assign (.Subscript o i tpos) X.env v=(do
   let ov <-holding [v] (eval o X.env)
   let iv <-holding [v,ov] (eval i X.env)
   standAt tpos
   holding [v,ov,iv] (setItem ov iv v)
   release [v,ov,iv] []))<|>qd_) (hs:swapsWithSole [.Subscript o i tpos] e pos.line X.env=pure false<|>qe_) (hw:swappedStores [.Subscript o i tpos] e X.env=pure none<|>qe_)
  (h1:(assignEach [.Subscript o i tpos] X.env).map (·.2)=[assign (.Subscript o i tpos) X.env]<|>qe_):PS X (.Assign [.Subscript o i tpos] e pos) (Ca te (UW to ti RF)):=SG he (SJ ho hi set_list ha) hs hw h1
def Ru (l:List Nat) (kvs:List (Key×V)):Prop:=∀k:Nat,(di kvs (.inl (k:Int))).getD (.int 0)=.int (l.count k:Nat)
def Ru.nil:Ru [] []:=λ_=>by rw[Gv];rfl
def Ru.put {l:List Nat} {kvs:List (Key×V)} (h:Ru l kvs) (m:Nat):Ru (l++[m]) (putK kvs (.inl (m:Int)) (.int ((l.count m:Nat)+1))):=λk=>by
 rw[mH];split
 ·rename_i e
  let e2:k=m:=by have:=Sum.inl.inj e;ext
  rw[e2,List.count_append,List.count_singleton_self];rfl
 ·rename_i ne
  rw[h k,List.count_append,show [m].count k=0 from List.count_eq_zero.mpr λz=>ne (by rw[zA.mp z])];rfl
def iM {K:yB} {a:vF} {xs:List V} {g:TG} {tb:TS} {D:Ends} {U:St} {H:Hp} (Pv:Nat->St->Hp->Prop) (h0:Pv 0 U H) (hl:∀i U H,i<=⇑xs->Pv i U H->aH K H a xs)
  (hs:∀(N:Ends) (i:Nat) (x:V) (U:St) (H:Hp),(∀U' H',Pv (i+1) U' H'->N.nx U' H')->xs[i]?=some x->Pv i U H->g x U H λσ2 H2=>tb N σ2 H2) (hd:∀U H,Pv ⇑xs U H->D.nx U H) :
  ∃W:Nat->Nat->St->Hp->Prop,(∃m,W 0 m U H)/\∀i m U H,W i m U H->
   (((Jd K a).stop i H/\D.nx U H)\/((Jd K a).go i H/\∃N:St->Hp->Prop,(∀U' H',N U' H'->∃m',m'<m/\W (i+1) m' U' H')/\∀x H',(Jd K a).Jg i H x H'->g x U H' λσ2 H2=>tb {D with nx:=N,ct:=N,bk:=D.nx} σ2 H2)):=fj Pv h0 hl (λi x U H hx p=>hs _ i x U H (λ_ _ z=>z) hx p) hd
def Bg {lo:Int} {n:Nat} {g:TG} {tb:TS} {D:Ends} {U:St} {H:Hp} (Pv:Nat->St->Hp->Prop) (h0:Pv 0 U H)
  (hs:∀(N:Ends) (i:Nat) (U:St) (H:Hp),(∀U' H',Pv (i+1) U' H'->N.nx U' H')->i<n->Pv i U H->g (.int (lo+i)) U H λσ2 H2=>tb N σ2 H2) (hd:∀U H,Pv n U H->D.nx U H) :
  ∃W:Nat->Nat->St->Hp->Prop,(∃m,W 0 m U H)/\∀i m U H,W i m U H->
   (((LI lo n).stop i H/\D.nx U H)\/((LI lo n).go i H/\∃N:St->Hp->Prop,(∀U' H',N U' H'->∃m',m'<m/\W (i+1) m' U' H')/\∀x H',(LI lo n).Jg i H x H'->g x U H' λσ2 H2=>tb {D with nx:=N,ct:=N,bk:=D.nx} σ2 H2)):=gi Pv h0 (λi U H hi p=>hs _ i U H (λ_ _ z=>z) hi p) hd
end Sc
namespace K22
open PySem L2 Lm Sc
def top (i:Nat):Stmt:=PySem.Challenge.pw_partsmith_k21_how_manieth_time.main.body.getD i (.Pass {0,0,0,0})
abbrev Cy:=top 6
abbrev Cu:=top 7
abbrev sg:=top 10
abbrev CA:=top 11
abbrev Qr:=top 12
abbrev L8:=top 13
abbrev oz:=top 14
abbrev ER:=top 20
abbrev oQ:=top 21
abbrev GY:=top 22
abbrev Jy:=top 32
abbrev JE:=top 33
abbrev GW:=top 34
abbrev EO:=top 35
abbrev Cs:=top 36
abbrev GV:=top 37
abbrev GU:=top 38
abbrev ET:=top 39
abbrev Jz:=top 40
abbrev JA:=top 41
abbrev Cw:=top 42
abbrev pY:=top 43
abbrev EM:=top 44
abbrev JB:=top 45
abbrev Ct:=top 46
abbrev GZ:=top 47
abbrev ES:=top 48
abbrev Cv:=top 49
abbrev GX:=top 50
abbrev uC:=top 52
abbrev oP:=top 53
abbrev L9:=top 54
abbrev JD:=top 55
abbrev Cr:=top 56
abbrev Av:=top 57
abbrev G0:=top 58
abbrev G1:=top 59
abbrev AA:=top 60
abbrev G4:=top 61
abbrev G3:=top 62
abbrev Ay:=top 71
abbrev Cp:=top 72
abbrev Az:=top 73
abbrev JC:=top 74
abbrev Ax:=top 75
abbrev oR:=top 76
abbrev Cq:=top 77
abbrev G5:=top 78
abbrev Au:=top 79
abbrev EV:=top 80
abbrev Cz:=top 81
abbrev Aw:=top 82
abbrev EU:=top 83
abbrev oS:=top 85
abbrev JF:=top 86
abbrev Ma:=top 87
abbrev EN:=top 88
abbrev AB:=top 90
abbrev si:=top 91
abbrev N4:=top 92
abbrev EL:=top 93
abbrev N5:=top 94
abbrev AG:=top 96
abbrev EX:=top 97
abbrev uG:=top 98
abbrev CB:=top 99
abbrev uE:=top 100
abbrev uH:=top 101
abbrev AH:=top 102
abbrev sk:=top 103
abbrev uI:=top 104
abbrev uF:=top 105
abbrev AF:=top 106
abbrev qg:=top 107
abbrev AD:=top 108
abbrev EY:=top 109
abbrev AE:=top 110
abbrev mB:=top 111
abbrev sj:=top 112
abbrev uD:=top 113
abbrev oV:=top 114
abbrev so:=top 115
abbrev oU:=top 116
abbrev sr:=top 117
abbrev qd:=top 118
abbrev pZ:=top 119
abbrev EW:=top 120
abbrev Uw:=top 121
abbrev qh:=inClass (top 70) 0
structure Df (K:yB) (mg:Str->Option vz) (x:Str) (st:Stmt) (a:vF) (d:vE) (ps:List Str):Prop where
 F:P1 K x x st a d
 g:mg x=some (.ref a)
 b:Binds K d ps []
structure WU (K:yB) (x y:Str) (st:Stmt) (a:vF) (d:vE) (ps:List Str):Prop where
 F:P1 K x y st a d
 b:Binds K d ps []
set_option genInjectivity false in
set_option genSizeOf false in
structure Txt (K:yB) (mg:Str->Option vz) where
 (Di Dh tE Dj Rl M9 kf F6 pH IV Kr Kw IU F5 Dg IT IS F7 Ks Kt gE d8 iD lL gC jU iE gD jT vK BQ Na Kv De BP IW IX BU IZ IY BR Dd BS Ku fY dX gB jV fW iG gF fX iF BV Kx Nb F4 BW tF PR F3 PU B0 F9 vO Dl vM vP B1 tH vQ vN BZ rG BX Ga BY mE tG vL pJ tI pI tJ rF rE F8 U8 lM lK jh dY iK qp:vF)
 (C2 CZ sX C4 Q9 MR kb FF pB IB J6 Ke Iz FE CW Iy Iw FH J8 J9 C1 rg FC Ka CY IC FG C0 IA uV J7 MU Kd CV Bs ID IE Bx IG IF Bv CT Bw Kb Bu pC CU IH Br FJ C3 Bt FI Kc Kf MV FD By sY Pu FA Pw BC FL uZ C5 uX u7 BD tf u9 uY BB rA Bz FN BA mD sZ uW pF tm pE tq rk rj FK Px rB:vE)
 (LV rP B8 Ah B9 ui Ep Ak rO Al uj Am Er Aj oH GB Et Es Ai:Tok)
 dw:Df K mg "read_number" Cy Di C2 ["text","most"]
 fB:Df K mg "read_signed" Cu Dh CZ ["text","most"]
 fT:Df K mg "common_divisor" sg tE sX ["one","other"]
 eG:Df K mg "made_length" CA Dj C4 ["top","bottom"]
 added:Df K mg "added" Qr Rl Q9 ["one","other"]
 EJ:Df K mg "shorter" L8 M9 MR ["one","other"]
 eE:Df K mg "read_length" oz kf kb ["text"]
 iU:Df K mg "read_pitch" ER F6 FF ["fifths_text","steps_text"]
 dM:Df K mg "read_item_length" oQ pH pB ["text"]
 sC:Df K mg "read_item" GY IV IB ["text"]
 words_of:Df K mg "words_of" Jy Kr J6 ["row"]
 dq:Df K mg "all_read" JE Kw Ke ["values"]
 eO:Df K mg "read_name" GW IU Iz ["word"]
 cQ:Df K mg "read_plain" EO F5 FE ["word"]
 jE:Df K mg "read_within" Cs Dg CW ["word","lowest","highest"]
 sA:Df K mg "read_time" GV IT Iy ["word"]
 su:Df K mg "read_turn" GU IS Iw ["fifths_word","steps_word"]
 oY:Df K mg "read_metre" ET F7 FH ["word"]
 AS:Df K mg "read_key" Jz Ks J8 ["word"]
 AU:Df K mg "read_end" JA Kt J9 ["word"]
 jH:Df K mg "read_player" Cw gE C1 ["words"]
 fo:Df K mg "read_instrument" pY d8 rg ["words"]
 kZ:Df K mg "read_staff" EM iD FC ["words"]
 qo:Df K mg "read_bar" JB lL Ka ["words"]
 jF:Df K mg "read_upbeat" Ct gC CY ["words"]
 nG:Df K mg "read_hold" GZ jU IC ["words"]
 lh:Df K mg "read_notes" ES iE FG ["words"]
 jG:Df K mg "read_repeat" Cv gD C0 ["words"]
 nF:Df K mg "read_jump" GX jT IA ["words"]
 j9:Df K mg "is_score_word" uC vK uV ["word"]
 AR:Df K mg "read_row" oP BQ J7 ["words"]
 vZ:Df K mg "ends_of" L9 Na MU ["repeat"]
 Bk:Df K mg "ends_fit" JD Kv Kd ["repeat"]
 mS:Df K mg "repeat_fits" Cr De CV ["repeats","repeat"]
 hV:Df K mg "repeat_round" Av BP Bs ["repeats","bar"]
 sO:Df K mg "may_leave" G0 IW ID ["repeats","bar"]
 nM:Df K mg "may_enter" G1 IX IE ["repeats","bar"]
 iA:Df K mg "in_last_pass" AA BU Bx ["repeats","bar"]
 tw:Df K mg "coda_fits" G4 IZ IG ["repeats","at","coda"]
 sT:Df K mg "jump_fits" G3 IY IF ["repeats","jump"]
 ig:Df K mg "metre_length" Ay BR Bv ["score","bar"]
 jA:Df K mg "told_length" Cp Dd CT ["score","bar"]
 lD:Df K mg "items_length" Az BS Bw ["items"]
 kE:Df K mg "has_bars" JC Ku Kb ["score","bars"]
 ia:Df K mg "player_fault" Ax fY Bu ["score","player"]
 eT:Df K mg "instrument_fault" oR dX pC ["score","told"]
 gH:Df K mg "staff_fault" Cq gB CU ["score","told"]
 nX:Df K mg "bar_fault" G5 jV IH ["score","told"]
 fJ:Df K mg "upbeat_fault" Au fW Br ["score","length"]
 lF:Df K mg "hold_fault" EV iG FJ ["score","told"]
 jL:Df K mg "notes_fault" Cz gF C3 ["score","told"]
 hX:Df K mg "repeat_fault" Aw fX Bt ["score","repeat"]
 lC:Df K mg "jump_fault" EU iF FI ["score","jump"]
 Bj:Df K mg "fault_of" oS BV Kc ["score","sort","told"]
 BO:Df K mg "add_hold" JF Kx Kf ["score","told"]
 F2:Df K mg "add_row" Ma Nb MV ["score","sort","told"]
 lg:Df K mg "read_score" EN F4 FD ["text"]
 iC:Df K mg "bars_of_pass" AB BW By ["repeat","number"]
 ji:Df K mg "bars_of_repeat" si tF sY ["repeat","once"]
 walked:Df K mg "walked" N4 PR Pu ["score","first","last","once"]
 oG:Df K mg "taken_bars" EL F3 FA ["score"]
 E3:Df K mg "played" N5 PU Pw ["score"]
 cz:Df K mg "_law_cell_at" AG B0 BC ["_law_script","_law_k"]
 cy:Df K mg "_law_mixed" EX F9 FL ["_law_cell","_law_k"]
 d6:Df K mg "_law_names_by" uG vO uZ ["_law_cell","_law_many"]
 fH:Df K mg "_law_lowest" CB Dl C5 ["_law_top","_law_bottom"]
 kh:Df K mg "_law_pitch_by" uE vM uX ["_law_m"]
 km:Df K mg "_law_items_by" uH vP u7 ["_law_m","_law_length"]
 lQ:Df K mg "_law_bars_by" AH B1 BD ["_law_cell","_law_many"]
 jt:Df K mg "_law_length_of" sk tH tf ["_law_bars","_law_upbeat","_law_bar"]
 ko:Df K mg "_law_holds_by" uI vQ u9 ["_law_cell","_law_players","_law_instruments","_law_many"]
 ki:Df K mg "_law_notes_by" uF vN uY ["_law_cell","_law_players","_law_bars","_law_upbeat"]
 lP:Df K mg "_law_ends_by" AF BZ BB ["_law_m","_law_first","_law_last","_law_times"]
 gY:Df K mg "_law_repeats_by" qg rG rA ["_law_cell","_law_many"]
 iH:Df K mg "_law_lasting" AD BX Bz ["_law_repeats","_law_bar"]
 lO:Df K mg "_law_inner" EY Ga FN ["_law_repeats","_law_bar"]
 lN:Df K mg "_law_jump_by" AE BY BA ["_law_cell","_law_many","_law_repeats"]
 eY:Df K mg "_law_instruments_by" mB mE mD ["_law_cell"]
 jr:Df K mg "_law_staffs_by" sj tG sZ ["_law_cell","_law_players"]
 kg:Df K mg "_law_score_by" uD vL uW ["_law_script","_law_most"]
 dk:Df K mg "_law_length_text" oV pJ pF ["_law_length"]
 jw:Df K mg "_law_item_text" so tI tm ["_law_item"]
 gx:Df K mg "_law_repeat_text" oU pI pE ["_law_repeat"]
 jx:Df K mg "_law_form_rows" sr tJ tq ["_law_s"]
 gX:Df K mg "_law_score_rows" qd rF rk ["_law_s"]
 fq:Df K mg "_law_score_text" pZ rE rj ["_law_s"]
 pK:Df K mg "_law_whole" EW F8 FK ["_law_found"]
 Wk:Df K mg "law" Uw U8 Px ["_law_script"]
 Qd:mg "Score"= some (.ref lK)
 Ro:Mk K lK lM
 B3:WU K "__init__" "Score.__init__" qh lM rB ["self"]
 M4:mg "FIGURES"= some (.str "0123456789" LV)
 kK:mg "LENGTH_FIGURES"= some (.int (4) rP)
 C8:mg "HIGHEST_KEY"= some (.int (7) B8)
 BH:mg "OCTAVE_STEPS"= some (.int (12) Ah)
 C9:mg "FIFTH_STEPS"= some (.int (7) B9)
 mw:mg "PITCH_FIGURES"= some (.int (2) ui)
 FT:mg "NAME_SIGNS"= some (.str "abcdefghijklmnopqrstuvwxyz0123456789" Ep)
 BK:mg "LONGEST_NAME"= some (.int (12) Ak)
 kJ:mg "NUMBER_FIGURES"= some (.int (3) rO)
 BL:mg "HIGHEST_TURN"= some (.int (12) Al)
 vI:mg "HIGHEST_METRE"= some (.int (32) uj)
 vH:mg "METRE_BOTTOMS"= some (.ref dY)
 mi:∀H,cU K H dY [.int 1,.int 2,.int 4,.int 8,.int 16,.int 32]
 BM:mg "FEWEST_TIMES"= some (.int (2) Am)
 FU:mg "MOST_TIMES"= some (.int (9) Er)
 Ef:mg "READERS"= some (.ref iK)
 BJ:mg "MOST_PLAYERS"= some (.int (12) Aj)
 pG:mg "MOST_INSTRUMENTS"= some (.int (12) oH)
 IK:mg "MOST_BARS"= some (.int (200) GB)
 FW:mg "MOST_HOLDS"= some (.int (20) Et)
 FV:mg "MOST_ITEMS"= some (.int (40) Es)
 BI:mg "MOST_REPEATS"= some (.int (20) Ai)
 PD:mg "FAULTS"= some (.ref qp)
 RK:mg "abs"= none
 Ld:mg "all"= none
 A8:mg "any"= none
 S6:mg "bool"= none
 jM:mg "enumerate"= none
 RJ:mg "int"= none
 qP:mg "isinstance"= none
 bB:mg "len"= none
 lB:mg "list"= none
 UK:mg "max"= none
 UJ:mg "min"= none
 cK:mg "range"= none
 UI:mg "set"= none
 HP:mg "sorted"= none
 fi:mg "str"= none
 UH:mg "sum"= none
 ic:mg "tuple"= none
 OO:mg "zip"= none
 lG:PySem.W.nsIn K mainGlobals "NoLength"= some (some (.ref jh))
 lq:PySem.W.excIn K jh [.type "ValueError",.type "Exception",.type "BaseException",.type "object"] "ValueError.__new__"= true
 R5:mg "NoLength"= some (.ref jh)
 cf:Cf K lK
def bJ {X:Cx} {x:Str} {st:Stmt} {k n:Nat} {f:vF} {fd:vE} {ps:List Str} {sp:Sp} {e:Expr} {es:List Expr} {t:TA} {p pos:Pos} (F:dB X.prog X.w X.K X.mg X.base Jb k f fd ps sp) (hr:fI n X.A) (D:Df X.K X.mg x st f fd ps)
  (ha:PA X (e::es) t) (hk:k<=n<|>qb_) (hg:Gl X x<|>qe_) (hdb:(x == ("__debug__": Str))=false<|>qb_) (he:starEach (e::es) X.env=(false,eval e X.env)::starEach es X.env<|>qe_) (hpl:(backTo pos (starEach es X.env)).any (·.1)=false<|>qe_) :
  PE X (.Call (.Name x p) (e::es) [] pos) (gG sp [] E0 t):=QF F (hr.mono hk) hg D.g D.F.kp D.b .nil Lb ha hdb he hpl
def fw {X:Cx} {a b:Expr} {ta tb:TE} {pos:Pos} (ha:PE X a ta) (hb:PE X b tb) (hs:rK b<|>qj_):PE X (.Subscript a b pos) (e9 (Qy X.K) ta tb):=AW Lh ha hb hs
def bM {X:Cx} {a b:Expr} {ta tb:TE} {pos:Pos} (ha:PE X a ta) (hb:PE X b tb) (hs:rK b<|>qj_):PE X (.Subscript a b pos) (e9 (o7 X.K) ta tb):=AW Tj ha hb hs
def ptr {X:Cx} {a b:Expr} {ta tb:TE} {pos:Pos} {op:CmpOp} {r:R2} (ho:ng X (compareOp op) r) (ha:PE X a ta) (hb:PE X b tb) (h:op≠.In<|>qb_) (h2:op≠.NotIn<|>qb_):PT X (.Compare a [op] [b] pos) (jB (e9 r ta tb)):=hZ ho ha hb (gW b h h2)
def Lo (p:St) (n:Nat) (U:St):Prop:=∃e:Nat->Option V,U=p++(List.range n).map e
def Lo.of {p:St} {n:Nat} {U:St} (h:U.take ⇑p=p) (l:U.length=⇑p+n):Lo p n U:=by
 refine{λi=>U[⇑p+i]?.join,List.ext_getElem? λi=>?_}
 by_cases c:i<⇑p
 ·rw[wq c]
  conv=>rhs;rw[<-h]
  rw[List.getElem?_take_of_lt c]
 ·rw[z9 (),zK]
  by_cases d:i-⇑p<n
  ·rw[List.getElem?_range d]
   have:⇑p+(i-⇑p)=i:=()
   simp only[xo,this];rw[zd ()];rfl
  ·rw[wQ (),wQ (by simp;ext)]
   rfl
abbrev At (b:yB->TS) (K:yB):TS:=b K
abbrev Sq (b:yB->TS) (K:yB) (D:Ends):Ends:={D with nx:=b K D}
abbrev Dz (Q:VK):Ends:={nx:=λ_ H'=>Q .bH H',rt:=Q}
def Ev (t:TE) (U:St) (H:Hp) (v:V):Prop:=∀Q:VK,Q v H->t U H Q
def Qa (t:TA) (U:St) (H:Hp) (vs:List V):Prop:=∀R:List V->Hp->Prop,R vs H->t U H R
def Rr (t:TT) (U:St) (H:Hp) (b:Bool):Prop:=∀R:Bool->Hp->Prop,R b H->t U H R
inductive Ws (K:yB) (f:Str) (x:V) (H:Hp) (Q:VK):Prop
 | mk (a C dx:vF) (fs:List (Str×V)) (v:V) (_:x=.ref a) (_:H a=some (.ins C dx fs)) (_:Rv K C) (_:eM K C f) (_:fs.lookup f=some v) (_:Q v H)
section
variable {t u:TE} {ta:TA} {c:TT} {wi:TI} {a b:TS} {gt:TG} {D:Ends} {U:St} {H:Hp} {v x y:V} {vs:List V} {g:Int->Int->V} {i j:Int} {r:R2} {Q:VK} {R:List V->Hp->Prop} {S:Bool->Hp->Prop} {k:Bool} {K:yB} {p:vF} {xs:List V}
def Tv {n:Nat} (e:U[n]?=some (some v)):Ev (aY n) U H v:=λ_ q=>{(v),e,q}
def Wv:Ev (tC v) U H v:=λ_ q=>q
def U1 (a:Ev t U H (.int i)) (b:Ev u U H (.int j)):Ev (e9 (rL g) t u) U H (g i j):=λ_ q=>a _ (b _ {_,_,rfl,rfl,q})
def U0 {C:Int->Int->Prop} (a:Ev t U H (.int i)) (b:Ev u U H (.int j)) (c:C i j):Ev (e9 (rI C g) t u) U H (g i j):=λ_ q=>a _ (b _ {_,_,rfl,rfl,c,q})
def UZ (a:Ev t U H (.ref p)) (b:Ev u U H (.int j)) (h:H p=some (.tup xs)) (e:Ek xs j=some v):Ev (e9 (o7 K) t u) U H v:=λ_ q=>a _ (b _ {_,_,_,_,rfl,rfl,cU.of h,e,q})
def Tx:Qa eC U H []:=λ_ q=>q
def Q2 (a:Ev t U H v) (b:Qa ta U H vs):Qa (bR t ta) U H (v::vs):=λ_ q=>a _ (b _ q)
def Tz (a:Ev t U H v):Ev (NQ t) U H (.bl (decide (v=.bH))):=λ_ q=>a _ q
def Q1 (a:Ev t U H v):Ev (NP t) U H (.bl (!decide (v=.bH))):=λ_ q=>a _ q
def Tw (a:Ev t U H (.bl k)):Ev (Rw t) U H (.bl (!k)):=λ_ q=>a _ {_,rfl,q}
def U2 (a:Ev t U H x) (b:Ev u U H y) (s:Qp x y=true):Ev (e9 Wf t u) U H (.bl (decide (x=y))):=λ_ q=>a _ (b _ {(s),q})
def UY (a:Ev t U H x) (b:Ev u U H y) (s:Qp x y=true):Ev (e9 Wd t u) U H (.bl (!decide (x=y))):=λ_ q=>a _ (b _ {(s),q})
def Wt (a:Ev t U H (.bl k)):Rr (jB t) U H k:=λ_ q=>a _ {_,rfl,q}
def Ww (a:Ev t U H (.bl k)):Rr (tB t) U H k:=λ_ q=>a _ {_,rfl,q}
def Wu (a:Rr c U H k):Rr (Qf c) U H (!k):=λ_ q=>a _ q
def Ux (e:Ev t U H v) (q:gt v U H D.nx):Ca t gt D U H:=e _ q
def Uv (e:Ev t U H v) (q:D.rt v H):Sd t D U H:=e _ q
def V9 {a b:yB->TS} (e:Rr c U H k) (q:if k=true then At a K D U H else At b K D U H):Qg c (a K) (b K) D U H:=e _ q
def VC {b:yB->TS} (q:a (Sq b K D) U H):Sb a (b K) D U H:=q
def VI {n:Nat} {S:St->Hp->Prop} (q:S (U.set n (some v)) H):bO n v U H S:=q
def VF {b:yB->TS} (q:b K D U H):(Sq b K D).nx U H:=q
def VE (q:D.nx U H):Rx D U H:=q
def Ug (q:t U H λx H1=>gt x U H1 D.nx):Ca t gt D U H:=q
def Uc (q:t U H D.rt):Sd t D U H:=q
def RZ (q:t U H λ_ H1=>D.nx U H1):Ry t D U H:=q
def VH (q:c U H λz H1=>if z=true then a D U H1 else b D U H1):Qg c a b D U H:=q
def VJ {a b:yB->TS} (q:c U H λz H1=>if z=true then At a K D U H1 else At b K D U H1):Qg c (a K) (b K) D U H:=q
def Uu (e:Rr c U H k) (q:S k H):c U H S:=e S q
def WW (q:t U H λx H'=>∃k,x=.bl k/\S k H'):jB t U H S:=q
def WX (q:t U H λx H'=>∃k,x=.bl k/\S k H'):tB t U H S:=q
def VO (e:Ev t U H v) (q:Q v H):t U H Q:=e Q q
def w_arg (e:Qa ta U H vs) (q:R vs H):ta U H R:=e R q
def x_call {sp:Sp} {dv:List V} {E:XK} (q:ta U H λvs H1=>sp (vs++dv) H1 Q E):gG sp dv E ta U H Q:=q
def VL {q':List V->Hp->VK->Prop} (q:ta U H λvs H1=>q' vs H1 Q):LW q' ta U H Q:=q
def Ub (q:ta U H λxs H1=>⇑xs<=sizeLine/\∀p,H1 p=none->Q (.ref p) (upd H1 p (.tup xs))):GC ta U H Q:=q
def Ud (q:ta U H λxs H1=>⇑xs<=sizeLine/\∀p,H1 p=none->Q (.ref p) (upd H1 p (.lst xs))):GF ta U H Q:=q
def R0 {fr:List (Option Nat)} (q:wi U H λJ H1=>cP (fr.map λo=>o.bind λj=>(U[j]?).join) gt c t Q J H1):mK fr wi gt c t U H Q:=q
def V8 {R:It->Hp->Prop} (e:Ev t U H (.ref p)) (q:(∃xs,aH K H p xs)/\R (Jd K p) H):Lk K t U H R:=e _ {_,rfl,q}
def VD {R:It->Hp->Prop} (q:ta U H λvs H1=>∃j:Int,vs=[.int j]/\-(2^62)<=j/\j<2^62/\R (LI 0 j.toNat) H1):O3 ta U H R:=q
abbrev iJ (J:It):TI:=λ_ H R=>R J H
def Fr (g:TG) (b:TS) (D:Ends) (U:St) (J:It) (H:Hp):Prop:=Si (iJ J) g b D U H
def Ue {b:yB->TS} (q:wi U H (Fr gt (At b K) D U)):Si wi gt (b K) D U H:=q
def x_at {b:yB->TS} (q:b K D U H):At b K D U H:=q
def VG {R:It->Hp->Prop} (q:t U H λx H1=>∃a,x=.ref a/\(∃xs,aH K H1 a xs)/\R (Jd K a) H1):Lk K t U H R:=q
def VX {R:It->Hp->Prop} (e:Qa ta U H vs) (q:∃a xs,vs=[.ref a]/\aH K H a xs/\R (TY K a) H):RN K ta U H R:=e _ q
def VT {R:It->Hp->Prop} (e:Qa ta U H vs) (q:∃j:Int,vs=[.int j]/\-(2^62)<=j/\j<2^62/\R (LI 0 j.toNat) H):O3 ta U H R:=e _ q
def R4 {sp:Sp} {dv:List V} {E:XK} (e:Qa ta U H vs) (q:sp (vs++dv) H Q E):gG sp dv E ta U H Q:=e _ q
def VY {q':List V->Hp->VK->Prop} (e:Qa ta U H vs) (q:q' vs H Q):LW q' ta U H Q:=e _ q
def VS (e:Qa ta U H vs) (q:⇑vs<=sizeLine/\∀p,H p=none->Q (.ref p) (upd H p (.tup vs))):GC ta U H Q:=e _ q
def VW (e:Qa ta U H vs) (q:⇑vs<=sizeLine/\∀p,H p=none->Q (.ref p) (upd H p (.lst vs))):GF ta U H Q:=e _ q
def Uy {d:TT} (e:Rr c U H k) (q:if k=true then d U H S else S false H):So c d U H S:=e _ q
def V7 {d:TT} (e:Rr c U H k) (q:if k=true then S true H else d U H S):V3 c d U H S:=e _ q
def Wa (e:Rr c U H k) (q:if k=true then t U H Q else u U H Q):WH c t u U H Q:=e _ q
def Ui {f:Str} (e:Ev t U H x) (q:Ws K f x H Q):Qh K t f U H Q:=e _ (by let⟨a,C,dx,fs,v,h1,h2,h3,h4,h5,h6⟩:=q;exact{(a),C,dx,fs,v,h1,h2,h3,h4,h5,h6})
def VZ {T:String} {q':V->List V->Hp->VK->Prop} (e:Ev t U H x) (q:Vo K T x H/\ta U H λxs H2=>q' x xs H2 Q):Vs K T q' t ta U H Q:=e _ q
def Uj (e:Ev t U H (.bl k)) (q:if k=true then u U H Q else Q (.bl false) H):Rz t u U H Q:=e _ {_,rfl,q}
def VU (e:Ev t U H (.bl k)) (q:if k=true then Q (.bl true) H else u U H Q):Uq t u U H Q:=e _ {_,rfl,q}
def VV (q:t U H λx H1=>u U H1 λy H2=>r x y H2 Q):e9 r t u U H Q:=q
def R3 (q:t U H λx H1=>ta U H1 λxs H2=>R (x::xs) H2):bR t ta U H R:=q
def VM (e:Ev t U H x) (q:u U H λy H2=>r x y H2 Q):e9 r t u U H Q:=e _ q
def R1 (e:Ev t U H v) (q:ta U H λxs H2=>R (v::xs) H2):bR t ta U H R:=e _ q
def VN (q:Q (g i j) H):rL g (.int i) (.int j) H Q:={(i),j,rfl,rfl,q}
def Uh (h:H p=some (.tup xs)) (e:Ek xs j=some v) (q:Q v H):o7 K (.ref p) (.int j) H Q:={_,_,_,_,rfl,rfl,cU.of h,e,q}
end
def dI {g:TG} {tb:TS} {x:V} {U:St} {H:Hp} {A C:St->Hp->Prop} {B:VK} (h:∀N:Ends,(∀U H,A U H->N.nx U H)->(∀v H,B v H->N.rt v H)->(∀U H,A U H->N.ct U H)->(∀U H,C U H->N.bk U H)->g x U H λσ2 H2=>tb N σ2 H2):g x U H λσ2 H2=>tb {nx:=A,rt:=B,bk:=C,ct:=A} σ2 H2:=h _ (λ_ _ z=>z) (λ_ _ z=>z) (λ_ _ z=>z) λ_ _ z=>z
def VQ {r:Sp} {vs:List V} {H:Hp} {Q:VK} {E:XK} (h:∀Q':VK,(∀v H',Q v H'->Q' v H')->r vs H Q' E):r vs H Q E:=h Q λ_ _ z=>z
def VR {r:R2} {x y:V} {H:Hp} {Q:VK} (h:∀Q':VK,(∀v H',Q v H'->Q' v H')->r x y H Q'):r x y H Q:=h Q λ_ _ z=>z
def VP {r:V->Hp->VK->Prop} {x:V} {H:Hp} {Q:VK} (h:∀Q':VK,(∀v H',Q v H'->Q' v H')->r x H Q'):r x H Q:=h Q λ_ _ z=>z
abbrev dh (P:vB) (w:vC) (base:vG) (n:Nat) {K:yB} {mg:Str->Option vz} {x:Str} {st:Stmt} {a:vF} {d:vE} {ps:List Str} (_:Df K mg x st a d ps) (sp:Sp):Prop:=dB P w K mg base Jb n a d ps sp
theorem _root_.L2.P1.Vt {P:vB} {w:vC} {K:yB} {mg:Str->Option vz} {base:vG} {x qual:Str} {st:Stmt} {f:vF} {fd:vE} {N ps:List Str} {k:Nat} {sp:Sp} (F:P1 K x qual st f fd) (S:fZ N ps (aU st))
  (hbody:∀(cdv:vz) (A:vD) (outer:List Env) (s:vA) (H:Hp) (vs:List V) (Q:VK) (E:XK),fI k (A.deeper (PyProof.Rows.envOfC qual (aU st) ↑s f cdv))->sp vs H Q E->
   ∃t,Em (kc Jb P w K mg base N qual (aU st) f cdv A outer s H E).JP (cx st) t/\t (Dz Q) (start N vs) H)
  (len:(∀vs H Q E,sp vs H Q E->⇑vs=⇑ps)<|>qk_):dB P w K mg base Jb (k+1) f fd ps sp:=F.ok S len hbody
def WI {P:vB} {w:vC} {K:yB} {mg:Str->Option vz} {base:vG} {x:Str} {st:Stmt} {f:vF} {fd:vE} {N ps:List Str} {k:Nat} {sp:Sp} (D:Df K mg x st f fd ps) (S:fZ N ps (aU st))
  (hbody:N.Nodup->∀(cdv:vz) (A:vD) (outer:List Env) (s:vA) (H:Hp) (vs:List V) (Q:VK) (E:XK),fI k (A.deeper (PyProof.Rows.envOfC x (aU st) ↑s f cdv))->sp vs H Q E->
   ∃t,Em (kc Jb P w K mg base N x (aU st) f cdv A outer s H E).JP (cx st) t/\t (Dz Q) (start N vs) H)
  (len:(∀vs H Q E,sp vs H Q E->⇑vs=⇑ps)<|>qk_):dB P w K mg base Jb (k+1) f fd ps sp:=D.F.ok S len (hbody S.nd)
def UX {N P:List Str} {sc:Scope} (h1:sc.kind=.function<|>qe_) (h2:sc.isCoroutine=false<|>qe_) (h3:sc.isGenerator=false<|>qe_) (h4:N.Nodup<|>ql_) (h5:N.take P.length=P<|>qe_) (h6:(∀x∈P,sc.names.lookup x=some .local\/sc.names.lookup x=some .cell)<|>ql_) (h7:(∀y∈sc.names,y.2≠.free)<|>ql_):fZ N P sc:={(h1),h2,h3,h4,h5,h6,h7}
def d9 {X:Cx} {x:Str} {id:String} {r:List V->Hp->VK->Prop} {e:Expr} {es:List Expr} {t:TA} {p pos:Pos} (hc:fk X (.builtin id) r) (hm:X.mg x=none) (ha:PA X (e::es) t) (hg:Gl X x<|>qe_) (hv:bootBuiltins x=some (.builtin id)<|>ql_) (hn:x≠ "__name__"<|>qb_) (hdb:(x == ("__debug__": Str))=false<|>qb_)
  (he:starEach (e::es) X.env=(false,eval e X.env)::starEach es X.env<|>qe_) (hpl:(backTo pos (starEach es X.env)).any (·.1)=false<|>qe_):PE X (.Call (.Name x p) (e::es) [] pos) (LW r t):=Ht hc hg hm hv ha hn hdb he hpl
def mF {X:Cx} {x:Str} {id:String} {r:List V->Hp->VK->Prop} {e:Expr} {es:List Expr} {t:TA} {p pos:Pos} (hc:fk X (.type id) r) (hm:X.mg x=none) (ha:PA X (e::es) t) (hg:Gl X x<|>qe_) (hv:bootBuiltins x=some (.type id)<|>ql_) (hn:x≠ "__name__"<|>qb_) (hdb:(x == ("__debug__": Str))=false<|>qb_)
  (he:starEach (e::es) X.env=(false,eval e X.env)::starEach es X.env<|>qe_) (hpl:(backTo pos (starEach es X.env)).any (·.1)=false<|>qe_):PE X (.Call (.Name x p) (e::es) [] pos) (LW r t):=Mn hc hg hm hv ha hn hdb he hpl
def bP {X:Cx} {x:Str} {e:Expr} {te:TE} {pos pos':Pos} (i:Nat) (hN:X.N.Nodup) (he:PE X e te) (hi:X.N[i]?=some x<|>qe_) (hx:Loc X.env.scope x<|>qi_) (hs:swapsWith e (some (.Name x pos')) pos.line X.env=pure false<|>qe_) (hf:X.fn x=true\/X.env.scope.names.lookup x=some .local<|>qa_) :
  PS X (.Assign [.Name x pos'] e pos) (Ca te (bO i)):=Oo hN hi hx he hs hf
def gP {X:Cx} {x:Str} {pos:Pos} (i:Nat) (hN:X.N.Nodup) (hi:X.N[i]?=some x<|>qe_) (hx:Loc X.env.scope x<|>qi_) (hf:X.fn x=true\/X.env.scope.names.lookup x=some .local<|>qa_):PG X (.Name x pos) (bO i):=La hN hi hx hf
def f9 {X:Cx} {ts ys:List Str} {scope:Scope} {cl:List (Str×vF)} {C:vF} {s₀:vA} {H₀:Hp} {ex:List vF} {x:Str} {pos:Pos} (i:Nat) (hN:(ts++ys).Nodup<|>ql_) (hi:(ts++ys)[i]?=some x<|>qe_) (hx:Loc (cO X (ts++ys) scope cl C s₀ H₀ ex).env.scope x<|>qi_) (hf:(cO X (ts++ys) scope cl C s₀ H₀ ex).fn x=true\/(cO X (ts++ys) scope cl C s₀ H₀ ex).env.scope.names.lookup x=some .local<|>qa_):PG (cO X (ts++ys) scope cl C s₀ H₀ ex) (.Name x pos) (bO i):=La hN hi hx hf
section
variable {X:Cx} {pos:Pos} {elt target iter:Expr} {ifs:List Expr} {scope:Scope} {ts ys:List Str} {js:List Nat} {cl:List (Str×vF)} {wi:TI} {g:TG} {tc:TT} {te:TE}
def oh (hi:PI X target iter wi) (hg:∀{C s₀ H₀ ex},PG (cO X (ts++ys) scope cl C s₀ H₀ ex) target g) (hif:∀{C s₀ H₀ ex},Rn (cO X (ts++ys) scope cl C s₀ H₀ ex) ifs tc) (he:∀{C s₀ H₀ ex},PE (cO X (ts++ys) scope cl C s₀ H₀ ex) elt te)
  (hclos:closureFor scope X.env=pure cl<|>qe_) (hc:X.calm=true<|>qe_) (hcl:Gb X.env.cells cl<|>qm_)
  (hLo:((relabel scope X.env).names.all λp=>(p.2 != .cell&&p.2 != .free)||ys.contains p.1||scope.names.contains (p.1,.cell))=true<|>qe_) (hno:(∀p∈scope.names,p.2=.cell->p.1∉ys)<|>ql_)
  (hfr:Nk X scope cl ys js<|>qm_)
  (hkind:scope.kind=.function<|>qe_) (hnames:(∀y∈scope.names,y.2=.local->scope.names.lookup y.1=some .local)<|>ql_) (hs:(∀x,foldedSetIterable iter X.env x=pure x)<|>qd_) :
  PE X (.ListComp elt [{target,iter,ifs,0}] scope pos) (mK (ts.map (λ_=>none)++js.map some) wi g tc te):=OF hc hclos hcl hLo hno hfr hkind hnames hi (λ_ _ _ _=>hg) (λ_ _ _ _=>hif) (λ_ _ _ _=>he) hs
def Mo {i:Nat} {x:Str} {ps pa:Pos} (hi:PI X target iter wi) (hg:∀{C s₀ H₀ ex},PG (cO X (ts++ys) scope cl C s₀ H₀ ex) target g) (hif:∀{C s₀ H₀ ex},Rn (cO X (ts++ys) scope cl C s₀ H₀ ex) ifs tc) (he:∀{C s₀ H₀ ex},PE (cO X (ts++ys) scope cl C s₀ H₀ ex) elt te) (hN:X.N.Nodup)
  (hclos:closureFor scope X.env=pure cl<|>qe_) (hc:X.calm=true<|>qe_) (hcl:Gb X.env.cells cl<|>qm_)
  (hLo:((relabel scope X.env).names.all λp=>(p.2 != .cell&&p.2 != .free)||ys.contains p.1||scope.names.contains (p.1,.cell))=true<|>qe_) (hno:(∀p∈scope.names,p.2=.cell->p.1∉ys)<|>ql_)
  (hfr:Nk X scope cl ys js<|>qm_)
  (hkind:scope.kind=.function<|>qe_) (hnames:(∀y∈scope.names,y.2=.local->scope.names.lookup y.1=some .local)<|>ql_) (hx1:X.N[i]?=some x<|>qe_) (hx2:Loc X.env.scope x<|>qi_) (hs:(∀x,foldedSetIterable iter X.env x=pure x)<|>qd_) (hsw:swapsWith (.ListComp elt [{target,iter,ifs,0}] scope pos) (some (.Name x ps)) pa.line X.env=pure true<|>qe_)
  (hf:X.fn x=true\/X.env.scope.names.lookup x=some .local<|>qa_) :
  PS X (.Assign [.Name x ps] (.ListComp elt [{target,iter,ifs,0}] scope pos) pa) (Ca (mK (ts.map (λ_=>none)++js.map some) wi g tc te) (bO i)):=Ou hc hclos hcl hLo hno hfr hkind hnames hi (λ_ _ _ _=>hg) (λ_ _ _ _=>hif) (λ_ _ _ _=>he) hN hx1 hx2 hs hsw hf
end
section
variable {P:vB} {w:vC} {K:yB} {mg:Str->Option vz} {base:vG} (T:Txt K mg)
local macro_rules | `(tactic|right) => `(tactic| (intro pp hn; generalize hG : upd _ pp _ = HH; have sm := ax.i6 hG hn; have hh := jq hG; clear hG hn))
local macro_rules | `(tactic| intros $D:ident $n:ident $s:ident $h:ident $H:ident) => `(tactic| ((try refine ⟨yg _, ?_⟩); intro $D $n; generalize hG : upd _ $D _ = $H; have $s:ident := ax.i6 hG $n; have $h:ident := jq hG; clear hG))
local macro_rules|`(tactic|ac_rfl)=>`(tactic|try dsimp only[kc,Cx.JP])
local macro_rules|`(tactic|intros $p:ident $H:ident $s:ident $h:ident)=>`(tactic|(intro $p hn;generalize hG:upd _ $p _=$H;have $s:ident:=ax.i6 hG hn;have $h:ident:=jq hG;clear hG hn))
local macro_rules|`(tactic|change $e:term)=>`(tactic|(left ;exact $e))
set_option hygiene false
local macro_rules|`(tactic|fail "h")=>`(tactic|(refine ax.on (by assumption) ?_; fail "h"))
local macro_rules|`(tactic|fail "h")=>`(tactic|assumption)
local macro_rules|`(tactic|fail "e")=>`(tactic|((with_reducible apply U0); fail "e"; fail "e"; (first | (show (0 : Int) < _; decide) | exact And.intro ∅ ∅ | exact Or.inl ⟨∅, by decide⟩ | exact Or.inr ⟨∅, by decide⟩)))
local macro_rules|`(tactic|fail "e")=>`(tactic|((with_reducible (first | apply U2 | apply UY)); fail "e"; fail "e"; exact rfl))
local macro_rules|`(tactic|fail "e")=>`(tactic|((with_reducible (first | apply Wt | apply Ww | apply Wu | apply Tz | apply Q1 | apply Tw)); fail "e"))
local macro_rules|`(tactic|fail "e")=>`(tactic|((with_reducible apply UZ); fail "e"; fail "e"; fail "h"; exact rfl))
local macro_rules|`(tactic|fail "e")=>`(tactic|((with_reducible (first | apply U1 | apply Q2)); fail "e"; fail "e"))
local macro_rules|`(tactic|fail "e")=>`(tactic|with_reducible (first | exact Wv | exact Tx))
local macro_rules|`(tactic|fail "e")=>`(tactic|((with_reducible apply Tv); exact rfl))
local macro_rules | `(tactic| exists $es,*) => `(tactic| (left; first | ((with_reducible (first | refine VQ fun _ kq => ?_ | refine VR fun _ kq => ?_ | refine VP fun _ kq => ?_)); refine ⟨$es,*⟩; refine kq _ _ ?_) | refine ⟨$es,*⟩))
local macro_rules|`(tactic|fail "s")=>`(tactic|refine Or.inr ⟨_, rfl, ?_⟩)
local macro_rules|`(tactic|fail "s")=>`(tactic|refine ⟨Or.inr ⟨∅, by decide⟩, ?_⟩)
local macro_rules|`(tactic|fail "s")=>`(tactic|refine ⟨Or.inl ⟨∅, by decide⟩, ?_⟩)
local macro_rules|`(tactic|fail "s")=>`(tactic|refine ⟨(And.intro ∅ ∅), ?_⟩)
local macro_rules|`(tactic|fail "s")=>`(tactic|refine ⟨(by show (0 : Int) < _; decide), ?_⟩)
local macro_rules|`(tactic|fail "s")=>`(tactic|refine ⟨_, tag_tup (by fail "h"), ?_⟩)
local macro_rules|`(tactic|fail "s")=>`(tactic|refine ⟨_, _, _, _, rfl, rfl, cU.of (by fail "h"), rfl, ?_⟩)
local macro_rules|`(tactic|fail "s")=>`(tactic|refine Wm ?_)
local macro_rules|`(tactic|fail "s")=>`(tactic|refine UO ?_)
local macro_rules|`(tactic|fail "s")=>`(tactic|refine ⟨rfl, ?_⟩)
local macro_rules|`(tactic|fail "s")=>`(tactic|refine ⟨_, _, rfl, rfl, ?_⟩)
local macro_rules|`(tactic|fail "s")=>`(tactic|refine ⟨_, rfl, ?_⟩)
local macro_rules|`(tactic|fail "s")=>`(tactic|with_reducible (first | apply VN | apply WW | apply WX | apply x_call | apply VL | apply Ub | apply Ud | apply R0 | apply VD | apply VG | apply VV | apply R3))
local macro_rules|`(tactic|fail "s")=>`(tactic|((with_reducible apply Uh); fail "h"; exact rfl))
local macro_rules|`(tactic|fail "s")=>`(tactic|((with_reducible (first | apply R4 | apply VY | apply V8 | apply Ui | apply VZ | apply Uj | apply VU | apply VM | apply R1 | apply VS | apply VW | apply VX | apply VT | apply Uy | apply V7 | apply Wa)); fail "e"))
local macro_rules|`(tactic|fail "s")=>`(tactic|((with_reducible apply Uu); fail "e"))
local macro_rules|`(tactic|fail "s")=>`(tactic|((with_reducible apply w_arg); fail "e"))
local macro_rules|`(tactic|fail "s")=>`(tactic|((with_reducible apply VO); fail "e"))
local macro_rules|`(tactic|fail "s")=>`(tactic|with_reducible (first | apply VC (K := K) | apply VI | apply VF | apply VE | apply x_at | apply Ug | apply Uc | apply RZ | apply VJ (K := K) | apply VH | apply Ue (K := K)))
local macro_rules|`(tactic|fail "s")=>`(tactic|((with_reducible (first | apply Ux | apply Uv | apply V9 (K := K))); fail "e"))
local macro_rules | `(tactic|left) => `(tactic| ((repeat fail "s"); (first | (first | apply kN4 | apply kN3 | apply kN2 | apply kN1 | apply kN0 | apply kR4 | apply kR3 | apply kR2 | apply kR1 | apply kR0); left | skip)))
local macro_rules | `(tactic| nomatch $a:term, $b:term) => `(tactic| refine WI $a (N := $b) UX fun qN _ _ _ _ H vs Q E hr h => ?_)
set_option hygiene true
def qI:dh P w base 1 T.fT jC:=by
 nomatch T.fT,["one","other","rest"]
 let⟨a,b,rfl,h1,h2,kk⟩:=h;refine{_,(af (qB yP (ptr jJ (pv 1) ae)
  (af (bP 2 qN (au aR (pv 0) (pv 1)))
   (af (bP 0 qN (pv 1))
   (ak (bP 1 qN (pv 2))))))
  (ak (aq (pv 0)))),?_}
 refine{λm U H'=>H'=H/\∃(x y:Int) (r:Option V),U=[some (.int x),some (.int y),r]/\0<=x/\0<=y/\Int.gcd x y=Int.gcd a b/\m=y.toNat,{_,rfl,a,b,none,rfl,h1,h2,rfl,rfl},?_};rintro m U H' ⟨rfl,x,y,r,rfl,hx,hy,hg,rfl⟩;left
 by_cases e:y=0
 ·subst e
  refine RM rfl ?_;refine{_,rfl,?_};let e2:Int.gcd a b=x.natAbs:=by rw[<-hg];simp
  let e3:((Int.gcd a b:Nat):Int)=x:=by rw[e2];ext
  rw[e3] at kk;exact kk
 ·refine bW (by simp[e]) ?_
  refine{λU' H''=>∃m',m'<y.toNat/\H''=H'/\∃(x y:Int) (r:Option V),U'=[some (.int x),some (.int y),r]/\0<=x/\0<=y/\Int.gcd x y=Int.gcd a b/\m'=y.toNat,λ_ _ h=>h,?_};exists(by show(0:Int)<y;ext),?_;left;let hp:(0:Int)<y:=()
  let l1:=zw x (by omega:y≠0);let l2:=zt x hp;exact{(x%y).toNat,(),rfl,y,x%y,_,rfl,hy,l1,(HX hx hp).trans hg,rfl}
def iY:dh P w base 2 T.eG fL:=by
 let G_common_divisor:dh P w base 1 T.fT jC:=qI T
 nomatch T.eG,["top","bottom","divisor"]
 let⟨t,b,rfl,h1,h2,h3,kk⟩:=h;refine{_,(af (bP 2 qN (bJ G_common_divisor hr T.fT (ah (pv 0) (ah (pv 1) ag))))
  (ak (aq (bE (ah (au qG (pv 0) (pv 2)) (ah (au qG (pv 1) (pv 2)) ag)))))),?_}
 exists t,b,rfl,h1,xa h2,?_;let g0:=vY (t:=t) h2;let g1:Sz 8999 ((Int.gcd t b:Nat):Int):=h3.le (xa g0) (O8 h2);exists{(g0),g1},?_;exists{(g0),g1},?_;refine{dm,laid λp H' sm hp=>kk p H' sm ?_};exact hp
def HF:dh P w base 3 T.added N1:=by
 let G_made_length:dh P w base 2 T.eG fL:=iY T
 nomatch T.added,["one","other"]
 let⟨x,y,p,q,n,m,rfl,hp,hq,rx,ry,sx,sy,hnm,kk⟩:=h;let⟨x1,x2,_⟩:=rx.pos;let⟨y1,y2,_⟩:=ry.pos;let bx1:Sz 20000 x.1:=sx.1.mono ();let bx2:Sz 20000 x.2:=sx.2.mono ();let by1:Sz 20000 y.1:=sy.1.mono ();let by2:Sz 20000 y.2:=sy.2.mono ();refine{_,(ak (aq (bJ G_made_length hr T.eG (ah (au aT (au qF (bM (pv 0) ae) (bM (pv 1) ae)) (au qF (bM (pv 1) ae) (bM (pv 0) ae))) (ah (au qF (bM (pv 0) ae) (bM (pv 1) ae)) ag))))),?_};exists{(bx1),by2},?_;exists{(by1),bx2},?_;exists{(bx2),by2},?_;refine{_,_,rfl,Int.add_nonneg (wc x1 (xa y2)) (wc y1 (xa x2)),xB x2 y2,(sx.2.mul sy.2).mono hnm,λr H' sm hr'=>kk r H' sm hr'}
def JN:dh P w base 1 T.EJ Jr:=by
 nomatch T.EJ,["one","other"]
 let⟨x,y,p,q,rfl,hp,hq,sx,sy,kk⟩:=h;let bx1:Sz 20000 x.1:=sx.1.mono ();let bx2:Sz 20000 x.2:=sx.2.mono ();let by1:Sz 20000 y.1:=sy.1.mono ();let by2:Sz 20000 y.2:=sy.2.mono ();refine{_,(ak (aq (dE fe (au qF (bM (pv 0) ae) (bM (pv 1) ae)) (au qF (bM (pv 1) ae) (bM (pv 0) ae)) (gW _)))),?_};exists{(bx1),by2},?_;exists{(by1),bx2},?_;change kk
def bQ:dh P w base 1 T.cy Cj:=by
 nomatch T.cy,["_law_cell","_law_k"]
 let⟨c,k,rfl,h1,h2,kk⟩:=h;refine{_,(ak (aq (au aR (au dS (au dS (au aT (au aR (pv 0) ae) ae) (au aT (au dS (pv 1) (pv 1)) ae)) ae) ae))),?_};exists Or.inl {(()),()},?_;left;let e1:0<=c%2305843009213693951:=zw _ ∅;let e2:c%2305843009213693951<2305843009213693951:=zt _ ∅;refine{Or.inl {(()),()},?_};change kk
def fQ:dh P w base 1 T.fH Ar:=by
 nomatch T.fH,["_law_top","_law_bottom","_law_one","_law_other"]
 let⟨t,b,rfl,h1,h2,h3,kk⟩:=h;let g0:=vY (t:=t) h2;let g1:Sz 8999 ((Int.gcd t b:Nat):Int):=h3.le (xa g0) (O8 h2);refine{_,(af (Oq (i:=2) (j:=3) rfl qN rfl rfl ∅ rfl rfl (ah (pv 0) (ah (pv 1) ag)) rfl)
  (af (qB yP (ptr fg (pv 3) ae)
  (ak (Oq (i:=2) (j:=3) rfl qN rfl rfl ∅ rfl rfl (ah (pv 3) (ah (au aR (pv 2) (pv 3)) ag)) rfl)))
  (ak (aq (bE (ah (au qG (pv 0) (pv 2)) (ah (au qG (pv 1) (pv 2)) ag))))))),?_}
 exists _,_,rfl,?_;refine{λm U H'=>H'=H/\∃(x y:Int),U=[some (.int t),some (.int b),some (.int x),some (.int y)]/\0<=x/\0<=y/\Int.gcd x y=Int.gcd t b/\m=y.toNat,{_,rfl,t,b,rfl,h1,xa h2,rfl,rfl},?_};rintro m U H' ⟨rfl,x,y,rfl,hx,hy,hg,rfl⟩;left
 by_cases e:y=0
 ·subst e
  refine b9 (by simp) ?_;let e2:Int.gcd t b=x.natAbs:=by rw[<-hg];simp
  let e3:x=((Int.gcd t b:Nat):Int):=by rw[e2];ext
  subst e3;exists{(g0),g1},?_;exists{(g0),g1},?_;refine{dm,laid λp H' sm hp=>kk p H' sm ?_};exact hp
 ·let hp:(0:Int)<y:=()
  refine bW (zg hp) ?_;refine{λU' H''=>∃m',m'<y.toNat/\H''=H'/\∃(x y:Int),U'=[some (.int t),some (.int b),some (.int x),some (.int y)]/\0<=x/\0<=y/\Int.gcd x y=Int.gcd t b/\m'=y.toNat,λ_ _ h=>h,?_};exists(by show(0:Int)<y;ext),?_;refine{_,_,rfl,?_};let l1:=zw x (by omega:y≠0);let l2:=zt x hp;exact{(x%y).toNat,(),rfl,y,x%y,rfl,hy,l1,(HX hx hp).trans hg,rfl}
def eD:fZ ["text","parts","top","bottom"] ["text"] (aU oz):=UX
def gU:dh P w base 1 T.dw gR:=by
 nomatch T.dw,["text","most"]
 let⟨t,most,rfl,hl,kk⟩:=h;let sl:=yC;let hz:⇑t<=sizeLine:=()
 let el:⇑t.cps.toList=⇑t:=yQ;unfold rn at kk;rw[el] at kk;refine{_,(af (aI (PW.pt (eF (ptr fe (d9 fV T.bB (ah (pv 0) ag)) ae) (dy (ptr fg (d9 fV T.bB (ah (pv 0) ag)) (pv 1)))))
  (ak (aq aS))
  aB)
  (af (aI (fu (cR (d9 (nV rfl) T.Ld (ah (oh (ts:=["sign"]) (ys:=[]) (js:=[]) (te:=(e9 (λx y H Q=>∃i j,x=.str i/\y=.str j/\Q (.bl (!(Builtin.Str.occurrences j i 0 ⇑j 1).isEmpty)) H) (aY 0) (tC (.str "0123456789")))) (Oz (pv 0)) (f9 0) bq (dE DJ (pv 0) (bX (v:=.str "0123456789") (by rfl) T.M4 {_,rfl}) (by with_unfolding_all rfl))) ag))))
  (ak (aq aS))
  aB)
  (af (aI (PW.pt (dt (ptr de (AW Fq (pv 0) ae (λ_ _=>rfl)) aN) (cW (ptr fg (d9 fV T.bB (ah (pv 0) ag)) ae))))
  (ak (aq aS))
  aB)
  (ak (aq (mF FR T.RJ (ah (pv 0) ag))))))),?_}
 exists hz,?_;left;refine uR (λc1=>?_) (λc1=>?_)
 ·left
  let z:=kk H (ax.refl H);rw[yO (ye c1)] at z;exact z
 let c1':¬(⇑t:Int)<1:=λz=>c1 (zg z);rw[yN c1'] at kk;exists hz,?_;left;refine uR (λc2=>?_) (λc2=>?_)
 ·left
  let z:=kk H (ax.refl H);rw[yO (ye c2)] at z;exact z
 let c2':¬most<(⇑t:Int):=λz=>c2 (zg z);rw[yN c2'] at kk;left;refine m8 ⇑t (λi=>(t.cps.toList.take i).map λc=>V.bl (decide (c∈uU))) (λi U H'=>H'=H/\∃v,U=[v]) (λi hi=>by rw[za,zQ];ext) () rfl {(rfl),none,rfl} (λi U H' hi _=>hi) (λU H' _=>zm _) ?_ ?_
 ·rintro i x U H1 H2 hi ⟨rfl,v,rfl⟩ ⟨rfl,c,hc,rfl⟩
  left;refine Jc.push hi ?_ {rfl,_,rfl};rw[PySem.StrLaws.found_one];rw[<-xk] at hc;show List.map _ (List.take (i+1) t.cps.toList)=_;rw[xx,hc,zk];rfl
 ·rintro U H1 ⟨rfl,_⟩
  rw[<-el,zN];intros D H2 sm h2;refine{D,t.cps.toList.map (λc=>decide (c∈uU)),rfl,aH.of (by rw[h2,zB];rfl),?_};let ea:(t.cps.toList.map (λc=>decide (c∈uU))).all id=t.cps.toList.all (λc=>decide (c∈uU)):=by rw[wj];rfl
  rw[ea]
  by_cases ha:t.cps.toList.all (λc=>decide (c∈uU))=true
  ·rw[ha]
   rw[yO ha] at kk;left;let h1:0<t.cps.size:=by show 0<⇑t;ext
   obtain⟨c,hc⟩:∃c,t.cps[0]?=some c:={t.cps[0]'h1,Array.getElem?_eq_getElem h1}
   let hc':t.cps.toList[0]?=some c:=by rw[xk];exact hc
   rw[hc'] at kk;refine{_,0,c,rfl,rfl,hz,bA (j:=0) hc',?_};left;let rd:PySem.intText? t=some ((NumText.digitsVal t.cps.toList:Nat):Int):=PySem.intText_digits (Kn ha) (λz=>by rw[z] at el;simp at el;ext) ()
   by_cases e0:c=48
   ·subst e0
    refine bW ∅ ?_;exists hz,?_;left;refine uR (λc3=>?_) (λc3=>?_)
    ·left
     let c3':1<⇑t:=by have:=ye c3;ext
     let z:=kk H2 sm;rw[yO {(rfl),c3'}] at z;exact z
    ·let c3':¬1<⇑t:=λz=>c3 (zg ())
     let z:=kk H2 sm;rw[yN (λq=>c3' q.2)] at z;change{_,_,rfl,rd,(),z}
   ·refine b9 (ze λz=>e0 ?_) ?_
    ·let z':=V.str.inj z
     exact(List.cons.inj (show [c]=[48] from y6 (λy:Str=>y.cps.toList) z')).1
    let z:=kk H2 sm;rw[yN (λq=>e0 (yk q.1))] at z;change{_,_,rfl,rd,(),z}
  ·rw[yN ha] at kk
   rw[Bool.eq_false_iff.mpr ha];change kk H2 sm
def l6:dh P w base 2 T.fB lU:=by
 let G_read_number:dh P w base 1 T.dw gR:=gU T
 nomatch T.fB,["text","most","number"]
 let⟨t,most,rfl,hl,kk⟩:=h;let sl:=yC;unfold rs at kk;refine{_,(af (aI (fu (cR (bT yG PySem.F.slot_str_startswith PySem.F.type_str_startswith CO (pv 0) (ah aN ag))))
  (ak (aq (bJ G_read_number hr T.dw (ah (pv 0) (ah (pv 1) ag)))))
  aB)
  (af (bP 2 qN (bJ G_read_number hr T.dw (ah (dn Jv (pv 0) (dQ ae) dR) (ah (pv 1) ag))))
  (af (aI (PW.pt (eF (bC (cC (pv 2))) (dy (ptr de (pv 2) ae))))
  (ak (aq aS))
  aB)
  (ak (aq (oA jW (pv 2))))))),?_}
 left
 by_cases hn:t.cps.toList[0]?=some 45
 ·rw[yO hn] at kk
  let q:=(PySem.StrLaws.subAt_one t 45 0).mpr hn;let es:(decide (0+("-": Str).length<=⇑t)&&Builtin.Str.subAt t "-" 0)=true:=by
   rw[zO];exact{zg q.1,q.2}
  rw[es];exists by ext,?_
  let h1:1<=⇑t:=by have:=q.1;let e:⇑({#[45]}:Str)=1:=rfl;ext
  let e1:(PySem.Txt.slice t (some 1) none).cps.toList=t.cps.toList.drop 1:=oO t h1;exists _,most,rfl,zM (PySem.Txt.slice_le t _ _) hl,λH1 s1=>?_;rw[e1];let z:=kk H1 s1;cases hr':rn most (t.cps.toList.drop 1) with
  | none=>
   rw[hr'] at z;change z
  | some n=>
   rw[hr'] at z;left
   by_cases e0:n=0
   ·subst e0
    refine bW ∅ ?_;change z
   ·refine b9 (ze λy=>e0 (V.int.inj y)) ?_
    left;let z':Q (ov (if n=0 then none else some (-n))) H1:=z;rw[yN e0] at z';exact z'
 ·rw[yN hn] at kk
  let es:(decide (0+("-": Str).length<=⇑t)&&Builtin.Str.subAt t "-" 0)=false:=by
   rw[Bool.eq_false_iff];intro z;rw[zO] at z;exact hn ((PySem.StrLaws.subAt_one t 45 0).mp {ye z.1,z.2})
  rw[es];change{t,most,rfl,hl,λH1 s1=>kk H1 s1}
def mU:dh P w base 3 T.iU mO:=by
 let G_read_signed:dh P w base 2 T.fB lU:=l6 T
 nomatch T.iU,["fifths_text","steps_text","fifths","steps"]
 let⟨a,b,rfl,la,lb,kk⟩:=h;unfold rp at kk;refine{_,(af (bP 2 qN (bJ G_read_signed hr T.fB (ah (pv 0) (ah (bX (v:=.int 2) (by rfl) T.mw {_,rfl}) ag))))
  (af (bP 3 qN (bJ G_read_signed hr T.fB (ah (pv 1) (ah (bX (v:=.int 2) (by rfl) T.mw {_,rfl}) ag))))
  (af (aI (PW.pt (eF (bC (cC (pv 2))) (dy (bC (cC (pv 3))))))
  (ak (aq aS))
  aB)
  (af (aI (ptr jJ (au aR (au iX (pv 3) (au dS (bX (v:=.int 7) (by rfl) T.C9 {_,rfl}) (pv 2))) (bX (v:=.int 12) (by rfl) T.BH {_,rfl})) ae)
  (ak (aq aS))
  aB)
  (ak (aq (bE (ah (pv 2) (ah (pv 3) ag))))))))),?_}
 exists a,2,rfl,la,λH1 s1=>?_;exists b,2,rfl,lb,λH2 s2=>?_;let S2:=s1.trans s2;cases ea:rs 2 a with
 | none=>
  rw[ea] at kk;change kk .bH H2 S2 .bH
 | some f=>
  cases eb:rs 2 b with
  | none=>
   rw[ea,eb] at kk;change kk .bH H2 S2 .bH
  | some g=>
   rw[ea,eb] at kk;left
   by_cases hm:(g-7*f)%12=0
   ·refine RM (y6 V.int hm) ?_
    left;refine{dm,laid λp H3 s3 hp=>kk (.ref p) H3 (S2.trans s3) ?_};show Kz H3 (.ref p) (if(g-7*f)%12=0 then some (f,g) else none);rw[yO hm];exact .ref hp
   ·refine bW (by simp[hm]) ?_
    left;refine kk .bH H2 S2 ?_;show Kz H2 .bH (if(g-7*f)%12=0 then some (f,g) else none);rw[yN hm];exact .bH
def lZ:dB P w K mg base (Ja P w) 3 T.kf T.kb ["text"] (lT T.jh):=by
 let G_read_number:dh P w base 1 T.dw gR:=gU T;let G_made_length:dh P w base 2 T.eG fL:=iY T;refine T.eE.F.W3 eD (λvs H Q E h=>?_) (λcdv A' outer s H vs Q E hr h=>?_)
 ·let⟨_,rfl,_⟩:=h;rfl
 ·let⟨t,rfl,lt,k1,k2⟩:=h
  let sl:=yC;let pl:=PyProof.Rows.split_pos t "/";let sh:∀z∈Txt.split t "/",⇑z<=600:=λz hz=>zM (xS hz) lt;unfold P5 at k1 k2;refine{_,(af (bP 1 eD.nd (bT yG yK yJ i7 (pv 0) (ah aN ag)))
   (af (aI (ptr fg (d9 aF T.bB (ah (pv 1) ag)) ae)
   (ak (Hm T.lG T.lq PySem.F.excBase_ValueError rfl (ah aN ag)))
   aB)
   (af (bP 2 eD.nd (bJ G_read_number hr T.dw (ah (fw (pv 1) ae) (ah (bX (v:=.int 4) (by rfl) T.kK {_,rfl}) ag))))
   (af (bP 3 eD.nd ae)
   (af (aI (ptr de (d9 aF T.bB (ah (pv 1) ag)) ae)
   (ak (bP 3 eD.nd (bJ G_read_number hr T.dw (ah (fw (pv 1) ae) (ah (bX (v:=.int 4) (by rfl) T.kK {_,rfl}) ag)))))
   aB)
   (af (aI (PW.pt (eF (bC (cC (pv 2))) (eF (bC (cC (pv 3))) (dy (ptr de (pv 3) ae)))))
   (ak (Hm T.lG T.lq PySem.F.excBase_ValueError rfl (ah aN ag)))
   aB)
   (ak (aq (bJ G_made_length hr T.eG (ah (pv 2) (ah (pv 3) ag))))))))))),?_}
  exists by ext,?_
  generalize Txt.split t "/"= ws at k1 k2 pl sh;intros p1 H1 s1 h1;exists p1,_,rfl,.inl (aH.of h1),?_
  match ws,pl,sh,k1,k2,h1 with
  | [a],_,sh,k1,k2,h1=>
   exists p1,_,0,_,rfl,rfl,aH.of h1,rfl,?_;exists a,4,rfl,sh a (by simp),λH2 s2=>?_;replace h1:=s2 _ _ h1;exists p1,_,rfl,.inl (aH.of h1),?_;cases ea:rn 4 a.cps.toList with
   | none=>
    simp only[ea] at k1 k2;left;refine{by show 1<=sizeLine;decide,k2 trivial H2 (s1.trans s2)}
   | some n=>
    simp only[ea] at k1 k2;let⟨n0,n1,_⟩:=Oa ea ∅;change{_,_,rfl,n0,∅,(cq (n:=1) ∅ ∅).mono ∅,λp3 H3 s3 h3=>k1 _ rfl p3 H3 ((s1.trans s2).trans s3) h3}
  | [a,b],_,sh,k1,k2,h1=>
   exists p1,_,0,_,rfl,rfl,aH.of h1,rfl,?_;exists a,4,rfl,sh a (by simp),λH2 s2=>?_;replace h1:=s2 _ _ h1;exists p1,_,rfl,.inl (aH.of h1),?_;exists p1,_,1,_,rfl,rfl,aH.of h1,rfl,?_;exists b,4,rfl,sh b (by simp),λH3 s3=>?_;let S3:=(s1.trans s2).trans s3;cases ea:rn 4 a.cps.toList with
   | none=>
    simp only[ea] at k1 k2;change{by show 1<=sizeLine;decide,k2 trivial H3 S3}
   | some n=>
    cases eb:rn 4 b.cps.toList with
    | none=>
     simp only[ea,eb] at k1 k2;change{by show 1<=sizeLine;decide,k2 trivial H3 S3}
    | some m=>
     simp only[ea,eb] at k1 k2;let⟨n0,n1,_⟩:=Oa ea ∅;let⟨m0,m1,_⟩:=Oa eb ∅;left
     by_cases e0:m=0
     ·subst e0
      refine bW ∅ ?_;change{by show 1<=sizeLine;decide,k2 rfl H3 S3}
     ·rw[yN e0] at k1
      refine b9 (ze λy=>e0 (V.int.inj y)) ?_;change{_,_,rfl,n0,(),(cq (n:=14) () ()).mono ∅,λp4 H4 s4 h4=>k1 _ rfl p4 H4 (S3.trans s4) h4}
  | a::b::c::r,_,sh,k1,k2,h1=>
   left;refine bW (zg (show(2:Int)<(⇑((a::b::c::r).map V.str):Int) by rw[za];simp only[zv];ext)) ?_;change{by show 1<=sizeLine;decide,k2 rfl H1 s1}
def gJ:dh P w base 4 T.dM gI:=by
 let G_read_length:dB P w K mg base (Ja P w) 3 T.kf T.kb ["text"] (lT T.jh):=lZ T
 nomatch T.dM,["text","length"]
 let⟨t,rfl,lt,kk⟩:=h;unfold lr at kk;refine{_,(af (QB G_read_length (hr.mono ∅) rfl T.eE.g T.eE.F.kp T.eE.b (ah (pv 0) ag) rfl qN (i:=1) rfl (Or.inl rfl) rfl T.lG T.lq rfl rfl rfl (λe=>(ak (aq aS))))
  (af (aI (ptr de (bM (pv 1) ae) ae)
  (ak (aq aS))
  aB)
  (ak (aq (pv 1))))),?_}
 left;refine{lt,λx ex p1 H1 s1 h1=>?_,λen H1 s1=>{rfl,?_}}
 ·simp only[ex] at kk
  left
  by_cases e0:x.1=0
  ·refine bW (by rw[e0];rfl) ?_
   left;rw[yO e0] at kk;exact kk .bH H1 s1 .bH
  ·refine b9 (ze λy=>e0 (V.int.inj y)) ?_
   left;rw[yN e0] at kk;exact kk (.ref p1) H1 s1 (.ref h1)
 ·simp only[en] at kk
  change kk .bH H1 s1 .bH
def QU {ws:List Str} (h:1<=⇑ws):Ek (ws.map V.str) (-1)=some (.str (ws.getLast?.getD "")):=by
 let ne:ws≠[]:=λz=>by rw[z] at h;simp at h
 let e:=xY ne;let e2:ws.getLast?.getD ""= ws.getLast ne:=by rw[List.getLast?_eq_some_getLast ne];rfl
 rw[e2];let e3:ws.map V.str=ws.dropLast.map V.str++[V.str (ws.getLast ne)]:=by rw[<-List.map_singleton (f:=V.str),<-zk,e]
 rw[e3];exact BN _ _
def OZ {ws:List Str} (h:1<=⇑ws):ws.getLast?.getD "" ∈ws:=by
 let ne:ws≠[]:=λz=>by rw[z] at h;simp at h
 rw[List.getLast?_eq_some_getLast ne];exact List.getLast_mem ne
def CD:dh P w base 5 T.sC ou:=by
 let G_read_item_length:dh P w base 4 T.dM gI:=gJ T;let G_read_pitch:dh P w base 3 T.iU mO:=mU T
 nomatch T.sC,["text","parts","length","pitch"]
 let⟨t,rfl,lt,kk⟩:=h;let sl:=yC;let pl:=PyProof.Rows.split_pos t ":";let sh:∀z∈Txt.split t ":",⇑z<=600:=λz hz=>zM (xS hz) lt;unfold ir at kk;refine{_,(af (bP 1 qN (bT yG yK yJ i7 (pv 0) (ah aN ag)))
  (af (bP 2 qN (bJ G_read_item_length hr T.dM (ah (fw (pv 1) (oA jW ae)) ag)))
  (af (aI (bC (cC (pv 2)))
  (ak (aq aS))
  aB)
  (af (aI (PW.pt (dt (ptr de (d9 aF T.bB (ah (pv 1) ag)) ae) (cW (ptr de (fw (pv 1) ae) aN))))
  (ak (aq (bE (ah aS (ah (pv 2) ag)))))
  aB)
  (af (aI (ptr jJ (d9 aF T.bB (ah (pv 1) ag)) ae)
  (ak (aq aS))
  aB)
  (af (bP 3 qN (bJ G_read_pitch hr T.iU (ah (fw (pv 1) ae) (ah (fw (pv 1) ae) ag))))
  (af (aI (bC (cC (pv 3)))
  (ak (aq aS))
  aB)
  (ak (aq (bE (ah (pv 3) (ah (pv 2) ag)))))))))))),?_}
 exists by ext,?_
 generalize Txt.split t ":"= ws at kk pl sh;intros p1 H1 s1 h1;exists p1,_,-1,_,rfl,rfl,aH.of h1,QU pl,?_;refine{_,rfl,sh _ (OZ pl),λv H2 s2 hv=>?_};let h2:=s2 _ _ h1;let S2:=s1.trans s2;generalize lr (ws.getLast?.getD "")=o at kk hv;cases hv with
 | bH=>
  change kk .bH H2 S2 rfl
 | @ref p2 x hx=>
  let kk':∀v H',ax H H'->Rq H' v (if ws.dropLast=[("r": Str)] then some (none,x) else match ws.dropLast with
   | [a,b]=>(match rp a b with | some q=>some (some q,x) | none=>none)
   | _=>none)->Q v H':=kk
  clear kk;exists p1,_,rfl,.inl (aH.of h2),?_
  match ws,pl,sh,kk',h2 with
  | [a],_,sh,kk,h2=>
   exists p1,_,rfl,.inl (aH.of h2),?_;change kk .bH H2 S2 rfl
  | [a,b],_,sh,kk,h2=>
   exists p1,_,0,_,rfl,rfl,aH.of h2,rfl,?_;left
   by_cases ea:a ="r"
   ·subst ea
    refine bW ∅ ?_;change{dm,laid λp3 H3 s3 h3=>kk (.ref p3) H3 (S2.trans s3) {p3,_,p2,rfl,h3,s3 _ _ hx,.bH}}
   ·refine b9 (ze λz=>ea (V.str.inj z)) ?_
    exists p1,_,rfl,.inl (aH.of h2),?_;left;refine kk .bH H2 S2 ?_;rw[yN (by intro z;exact ea (List.cons.inj z).1)];rfl
  | [a,b,c],_,sh,kk,h2=>
   exists p1,_,rfl,.inl (aH.of h2),?_;exists p1,_,0,_,rfl,rfl,aH.of h2,rfl,?_;exists p1,_,1,_,rfl,rfl,aH.of h2,rfl,?_;refine{a,b,rfl,sh a (by simp),sh b (by simp),λv H3 s3 hv=>?_};let kk2:∀v H',ax H H'->Rq H' v (match rp a b with | some q=>some (some q,x) | none=>none)->Q v H':=λv H' s' z=>kk v H' s' (by
    rw[yN (by intro y;simp at y)];exact z)
   generalize rp a b=o at kk2 hv;cases hv with
   | bH=>
    change kk2 .bH H3 (S2.trans s3) rfl
   | @ref p4 q hq=>
    change{dm,laid λp5 H5 s5 h5=>kk2 (.ref p5) H5 ((S2.trans s3).trans s5) {p5,_,p2,rfl,h5,s5 _ _ (s3 _ _ hx),.ref (s5 _ _ hq)}}
  | a::b::c::d::r,_,sh,kk,h2=>
   exists p1,_,rfl,.inl (aH.of h2),?_;left;refine kk .bH H2 S2 ?_;rw[yN (by intro y;simp at y)];rfl
def Hw:dh P w base 1 T.words_of GJ:=by
 nomatch T.words_of,["row"]
 let⟨t,rfl,hl,kk⟩:=h;let sl:=yC;let ple:=PyProof.Rows.split_le t " ";refine{_,(ak (aq (oh (ts:=["word"]) (ys:=[]) (js:=[]) (g:=(bO 0)) (tc:=(jB (e9 Wd (aY 0) (tC (.str ""))))) (te:=(aY 0)) (bf (bT yG yK yJ i7 (pv 0) (ah aN ag))) (f9 0) (fM (ptr jJ (pv 0) aN)) (pv 0)))),?_};ac_rfl;exists by ext,?_
 unfold words at kk;generalize Txt.split t " "= ws at kk ple;intros p1 H1 s1 h1;refine{p1,rfl,{_,aH.of h1},?_};refine m8 ⇑ws (λi=>((ws.take i).filter λw=>decide (w≠("": Str))).map V.str) (λi U H'=>H'=H1/\∃v,U=[v]) ?_ () rfl {(rfl),none,rfl} ?_ ?_ ?_ ?_
 ·intro i hi
  rw[za];exact zM (xj _ _) (by rw[zQ];ext)
 ·rintro i U H' hi ⟨rfl,_⟩
  exact DV (aH.of h1) (by rw[za];exact hi)
 ·rintro U H' ⟨rfl,_⟩
  exact{_,aH.of h1,by rw[za];exact zm _}
 ·rintro i x U H' H2 hi ⟨rfl,v,rfl⟩ ⟨rfl,hy⟩
  let hx:=hy _ (aH.of h1);rw[zK,zd hi] at hx;cases hx;left
  by_cases e:ws[i] =""
  ·refine b9 (by rw[e];rfl) ?_
   refine Jc.skip hi ?_ {rfl,_,rfl};show List.map V.str (List.filter _ (List.take (i+1) ws))=List.map V.str (List.filter _ (List.take i ws));rw[xx,zd hi,e,yY];simp
  ·refine bW (by rw[ze λz=>e (V.str.inj z)];rfl) ?_
   left;refine Jc.push hi ?_ {rfl,_,rfl};show List.map V.str (List.filter _ (List.take (i+1) ws))=List.map V.str (List.filter _ (List.take i ws))++[V.str ws[i]];rw[xx,zd hi,yY,zk];have:List.filter (λw=>decide (w≠("": Str))) (Option.toList (some ws[i]))=[ws[i]]:=by simp[e]
   rw[this];rfl
 ·rintro U H' ⟨rfl,_⟩
  rw[zN];exact laid λp H' sm h=>kk p H' (s1.trans sm) h
def ck:dh P w base 2 T.cQ jY:=by
 nomatch T.cQ,["word"]
 let⟨t,rfl,hl,kk⟩:=h;refine{_,(ak (aq (bJ (gU T) hr T.dw (ah (pv 0) (ah (bX (v:=.int (3)) (by rfl) T.kJ {_,rfl}) ag))))),?_};ac_rfl;change{_,_,rfl,hl,kk}
def dU:dh P w base 1 T.eO kR:=by
 nomatch T.eO,["word"]
 let⟨t,rfl,hl,kk⟩:=h;let sl:=yC;let hz:⇑t<=sizeLine:=()
 let el:⇑t.cps.toList=⇑t:=yQ;unfold cH at kk;refine{_,(af (aI (PW.pt (eF (ptr fe (d9 fV T.bB (ah (pv 0) ag)) ae) (dy (ptr fg (d9 fV T.bB (ah (pv 0) ag)) (bX (v:=.int (12)) (by rfl) T.BK {_,rfl})))))
  (ak (aq aS))
  aB)
  (af (aI (fu (cR (d9 (nV rfl) T.Ld (ah (oh (ts:=["sign"]) (ys:=[]) (js:=[]) (te:=(e9 (λx y H Q=>∃i j,x=.str i/\y=.str j/\Q (.bl (!(Builtin.Str.occurrences j i 0 ⇑j 1).isEmpty)) H) (aY 0) (tC (.str "abcdefghijklmnopqrstuvwxyz0123456789")))) (Oz (pv 0)) (f9 0) bq (dE DJ (pv 0) (bX (v:=.str "abcdefghijklmnopqrstuvwxyz0123456789") (by rfl) T.FT {_,rfl}) (by with_unfolding_all rfl))) ag))))
  (ak (aq aS))
  aB)
  (ak (aq (pv 0))))),?_}
 ac_rfl;exists hz,?_;left;refine uR (λc1=>?_) (λc1=>?_)
 ·left
  let z:=kk H (ax.refl H);rw[yO (ye c1)] at z;exact z
 let c1':¬(⇑t:Int)<1:=λz=>c1 (zg z);rw[yN c1'] at kk;exists hz,?_;left;refine uR (λc2=>?_) (λc2=>?_)
 ·left
  let z:=kk H (ax.refl H);rw[yO (ye c2)] at z;exact z
 let c2':¬(12:Int)<(⇑t:Int):=λz=>c2 (zg z);rw[yN c2'] at kk;left;refine m8 ⇑t (λi=>(t.cps.toList.take i).map λc=>V.bl (decide (c∈sgn))) (λi U H'=>H'=H/\∃v,U=[v]) (λi hi=>by rw[za,zQ];ext) () rfl {(rfl),none,rfl} (λi U H' hi _=>hi) (λU H' _=>zm _) ?_ ?_
 ·rintro i x U H1 H2 hi ⟨rfl,v,rfl⟩ ⟨rfl,c,hc,rfl⟩
  left;refine Jc.push hi ?_ {rfl,_,rfl};rw[PySem.StrLaws.found_one];rw[<-xk] at hc;show List.map _ (List.take (i+1) t.cps.toList)=_;rw[xx,hc,zk];rfl
 ·rintro U H1 ⟨rfl,_⟩
  rw[<-el,zN];intros D H2 s2 h2;refine{D,t.cps.toList.map (λc=>decide (c∈sgn)),rfl,aH.of (by rw[h2,zB];rfl),?_};let ea:(t.cps.toList.map (λc=>decide (c∈sgn))).all id=t.cps.toList.all (λc=>decide (c∈sgn)):=by rw[wj];rfl
  rw[ea]
  by_cases ha:t.cps.toList.all (λc=>decide (c∈sgn))=true
  ·rw[ha]
   rw[yO ha] at kk;change kk _ s2
  ·rw[yN ha] at kk
   rw[show t.cps.toList.all (λc=>decide (c∈sgn))=false from by simpa using ha];change kk _ s2
def mW:dh P w base 3 T.jE Aq:=by
 nomatch T.jE,["word","lowest","highest","number"]
 let⟨t,lo,hi,rfl,hl,kk⟩:=h;unfold lY at kk;refine{_,(af (bP 3 qN (bJ (ck T) hr T.cQ (ah (pv 0) ag)))
  (af (aI (PW.pt (eF (bC (cC (pv 3))) (eF (ptr fe (pv 3) (pv 1)) (dy (ptr fg (pv 3) (pv 2))))))
  (ak (aq aS))
  aB)
  (ak (aq (pv 3))))),?_}
 ac_rfl;exists hl,λH1 s1=>?_;cases e:fA t with
 | none=>
  rw[e] at kk;change kk _ s1
 | some n=>
  rw[e] at kk;left
  by_cases c1:n<lo
  ·refine bW (zg c1) ?_
   simp only[yO c1] at kk;change kk _ s1
  ·refine b9 (ze c1) ?_
   simp only[yN c1] at kk;left
   by_cases c2:hi<n
   ·refine bW (zg c2) ?_
    simp only[yO c2] at kk;change kk _ s1
   ·refine b9 (ze c2) ?_
    simp only[yN c2] at kk;change kk _ s1
def Fb:dh P w base 4 T.sA ED:=by
 nomatch T.sA,["word"]
 let⟨t,rfl,hl,kk⟩:=h;refine{_,(ak (QA (lZ T) (hr.mono ∅) rfl T.eE.g T.eE.F.kp T.eE.b (ah (pv 0) ag) rfl rfl T.lG T.lq rfl rfl rfl (λe=>(ak (aq aS))))),?_};ac_rfl;left;refine{hl,λx e p H1 s1 h1=>?_,λe H1 s1=>{rfl,?_}}
 ·rw[e] at kk
  exact kk _ H1 s1 (.ref h1)
 ·rw[e] at kk
  change kk _ H1 s1 .bH
def E9:dh P w base 4 T.su EC:=by
 nomatch T.su,["fifths_word","steps_word","turn"]
 let⟨a,b,rfl,la,lb,kk⟩:=h;unfold AL at kk;refine{_,(af (bP 2 qN (bJ (mU T) hr T.iU (ah (pv 0) (ah (pv 1) ag))))
  (af (aI (PW.pt (eF (bC (cC (pv 2))) (dy (ptr fg (d9 IJ T.RK (ah (bM (pv 2) ae) ag)) (bX (v:=.int (12)) (by rfl) T.BL {_,rfl})))))
  (ak (aq aS))
  aB)
  (ak (aq (pv 2))))),?_}
 ac_rfl;exists _,_,rfl,la,lb,λv H1 s1 h1=>?_;cases e:rp a b with
 | none=>
  rw[e] at kk h1;cases h1;change kk _ _ s1 .bH
 | some q=>
  rw[e] at kk h1;cases h1 with
  | ref h1=>
   left;refine uR (λc=>?_) (λc=>?_)
   ·simp only[yO (ye c)] at kk
    change kk _ _ s1 .bH
   ·simp only[yN (λz=>c (zg z))] at kk
    change kk _ _ s1 (.ref h1)
def HA:dh P w base 3 T.AS GN:=by
 nomatch T.AS,["word","key"]
 let⟨t,rfl,hl,kk⟩:=h;unfold Hg at kk;refine{_,(af (bP 1 qN (bJ (l6 T) hr T.fB (ah (pv 0) (ah (bX (v:=.int (3)) (by rfl) T.kJ {_,rfl}) ag))))
  (af (aI (PW.pt (eF (bC (cC (pv 1))) (dy (ptr fg (d9 IJ T.RK (ah (pv 1) ag)) (bX (v:=.int (7)) (by rfl) T.C8 {_,rfl})))))
  (ak (aq aS))
  aB)
  (ak (aq (pv 1))))),?_}
 ac_rfl;exists _,_,rfl,hl,λH1 s1=>?_;cases e:rs 3 t with
 | none=>
  rw[e] at kk;change kk _ s1
 | some n=>
  rw[e] at kk;left;refine uR (λc=>?_) (λc=>?_)
  ·simp only[yO (ye c)] at kk
   change kk _ s1
  ·simp only[yN (λz=>c (zg z))] at kk
   change kk _ s1
def d4:dh P w base 1 T.dq (Cg K):=by
 nomatch T.dq,["values"]
 let⟨a,us,rfl,ha,hl,kk⟩:=h;let sl:=yC;refine{_,(af (aI (cR (d9 (gw rfl) T.A8 (ah (oh (ts:=["value"]) (ys:=[]) (js:=[]) (te:=(NQ (aY 0))) (bf (pv 0)) (f9 0) bq (sF (cC (pv 0)))) ag)))
  (ak (aq aS))
  aB)
  (ak (aq (pv 0)))),?_}
 ac_rfl;exists{_,ha},?_;refine fG (enc:=λv=>v) (ws:=us) (λv=>.bl (gd v)) (λU=>∃v,U=[v]) () (by rw[List.map_id'];exact ha) {(none),rfl} ?_ ?_
 ·rintro v U H1 R hv s1 ⟨_,rfl⟩ r
  change r _ _ _ (ax.refl _) (by unfold Is;rfl) {_,rfl}
 ·intro D vs H1 s1 hD il
  let e:us.map (λv=>Dt.bl (gd v))=(us.map gd).map Dt.bl:=by rw[zB];rfl
  rw[e] at il;rw[j8 il] at hD;refine{D,us.map gd,rfl,aH.of hD,?_};let e2:(us.map gd).any id=us.any gd:=by rw[wH];rfl
  rw[e2];cases q:us.any gd with
  | true=>
   rw[q] at kk;change kk _ s1
  | false=>
   rw[q] at kk;change kk _ s1
def fh:dh P w base 1 T.dq Ce:=by
 nomatch T.dq,["values"]
 let⟨a,us,rfl,ha,hl,kk⟩:=h;let sl:=yC;refine{_,(af (aI (cR (d9 (gw rfl) T.A8 (ah (oh (ts:=["value"]) (ys:=[]) (js:=[]) (te:=(NQ (aY 0))) (iW (pv 0)) (f9 0) bq (sF (cC (pv 0)))) ag)))
  (ak (aq aS))
  aB)
  (ak (aq (pv 0)))),?_}
 ac_rfl;exists{_,cU.of ha},?_;refine gr (enc:=λv=>v) (ws:=us) (λv=>.bl (gd v)) (λU=>∃v,U=[v]) () (by rw[List.map_id'];exact ha) {(none),rfl} ?_ ?_
 ·rintro v U H1 R hv s1 ⟨_,rfl⟩ r
  change r _ _ _ (ax.refl _) (by unfold Is;rfl) {_,rfl}
 ·intro D vs H1 s1 hD il
  let e:us.map (λv=>Dt.bl (gd v))=(us.map gd).map Dt.bl:=by rw[zB];rfl
  rw[e] at il;rw[j8 il] at hD;refine{D,us.map gd,rfl,aH.of hD,?_};let e2:(us.map gd).any id=us.any gd:=by rw[wH];rfl
  rw[e2];cases q:us.any gd with
  | true=>
   rw[q] at kk;change kk _ s1
  | false=>
   rw[q] at kk;change kk _ s1
theorem qY (n:Int):∀ns:List Int,Gk (.int n) (ns.map V.int)=decide (n∈ns)
 | []=>rfl
 | m::ns=>by
  let ih:=qY n ns;unfold Gk at ih ⊢;rw[zj,xu,ih]
  by_cases e:n=m
  ·subst e
   simp[J3]
  ·simp[J3,e,Ne.symm (a:=m) (b:=n) (λz=>e z.symm)]
   try ext
def JJ {t a b:Str} (h:Txt.split t "/"= [a,b]):iS t=(match lY a 1 32,fA b with | some m,some n=>if n∈Dc then some (m,n) else none | _,_=>none):=by unfold iS;rw[h];try rfl
def Mf {t:Str} (h:(Txt.split t "/").length≠2):iS t=none:=by
 unfold iS;split
 ·rename_i e;rw[e] at h;exact absurd rfl h
 ·rfl
def Oe {t a b:Str} (h:Txt.split t ":"= [a,b]):AN t=(match fA a,nc ((Txt.split b ",").map fA) with | some n,some ps=>some (n,ps) | _,_=>none):=by unfold AN;rw[h];try rfl
def Qt {t:Str} (h:(Txt.split t ":").length≠2):AN t=none:=by
 unfold AN;split
 ·rename_i e;rw[e] at h;exact absurd rfl h
 ·rfl
def CJ:dh P w base 4 T.oY (Cd K):=by
 nomatch T.oY,["word","parts","top","bottom"]
 let⟨t,rfl,hl,kk⟩:=h;let sl:=yC;let sh:∀z∈Txt.split t "/",⇑z<=600:=λz hz=>zM (xS hz) hl;refine{_,(af (bP 1 qN (bT yG yK yJ i7 (pv 0) (ah aN ag)))
  (af (aI (ptr jJ (d9 aF T.bB (ah (pv 1) ag)) ae)
  (ak (aq aS))
  aB)
  (af (bP 2 qN (bJ (mW T) hr T.jE (ah (fw (pv 1) ae) (ah ae (ah (bX (v:=.int (32)) (by rfl) T.vI {_,rfl}) ag)))))
  (af (bP 3 qN (bJ (ck T) hr T.cQ (ah (fw (pv 1) ae) ag)))
  (af (aI (PW.pt (eF (bC (cC (pv 2))) (dy (hZ eP (pv 3) (bX (v:=.ref T.dY) (by rfl) T.vH rfl) (by with_unfolding_all rfl)))))
  (ak (aq aS))
  aB)
  (ak (aq (bE (ah (pv 2) (ah (pv 3) ag)))))))))),?_}
 ac_rfl;exists by ext,?_
 generalize ew:Txt.split t "/"= ws at sh;intros p1 H1 s1 h1;exists p1,_,rfl,.inl (aH.of h1),?_;rw[za];left
 by_cases hw:⇑ws=2
 ·obtain⟨a,b,rfl⟩:∃a b,ws=[a,b]:=by
   match ws,hw with
   | [a,b],_=>exact{(a),b,rfl}
  refine b9 rfl ?_;exists p1,_,0,_,rfl,rfl,aH.of h1,rfl,?_;refine{_,_,_,rfl,sh a (by simp),λH2 s2=>?_};exists p1,_,1,_,rfl,rfl,aH.of (s2 _ _ h1),rfl,?_;refine{_,rfl,sh b (by simp),λH3 s3=>?_};let s03:=(s1.trans s2).trans s3;rw[JJ ew] at kk;cases ea:lY a 1 32 with
  | none=>
   rw[ea] at kk;change kk _ _ s03 .bH
  | some m=>
   rw[ea] at kk;left;cases eb:fA b with
   | none=>
    rw[eb] at kk;refine{T.dY,_,rfl,.inr (T.mi H3),rfl,rfl,?_};change kk _ _ s03 .bH
   | some n=>
    rw[eb] at kk;refine{T.dY,Dc.map V.int,rfl,.inr (T.mi H3),rfl,rfl,?_};show∃k,V.bl (!Gk (.int n) (Dc.map V.int))=.bl k/\_;rw[qY]
    by_cases c:n∈Dc
    ·rw[zg c]
     simp only[yO c] at kk;left;refine{dm,laid λp4 H4 s4 h4=>kk _ _ (s03.trans s4) (.ref h4)}
    ·rw[ze c]
     simp only[yN c] at kk;change kk _ _ s03 .bH
 ·refine bW (by rw[ze λz=>hw (by have:=V.int.inj z;ext)];rfl) ?_
  left;rw[Mf (by rw[ew];exact hw)] at kk;exact kk _ _ s1 .bH
def HB:dh P w base 4 T.AU tM:=by
 nomatch T.AU,["word","parts","bar","passes"]
 let⟨t,rfl,hl,kk⟩:=h;let sl:=yC;let sh:∀z∈Txt.split t ":",⇑z<=600:=λz hz=>zM (xS hz) hl;refine{_,(af (bP 1 qN (bT yG yK yJ i7 (pv 0) (ah aN ag)))
  (af (aI (ptr jJ (d9 aF T.bB (ah (pv 1) ag)) ae)
  (ak (aq aS))
  aB)
  (af (bP 2 qN (bJ (ck T) hr T.cQ (ah (fw (pv 1) ae) ag)))
  (af (bP 3 qN (bJ (d4 T) hr T.dq (ah (oh (ts:=["part"]) (ys:=[]) (js:=[]) (te:=(gG jY [] E0 (bR (aY 0) eC))) (bf (bT yG yK yJ i7 (fw (pv 1) ae) (ah aN ag))) (f9 0) bq (bJ (ck T) hr T.cQ (ah (pv 0) ag))) ag)))
  (af (aI (PW.pt (eF (bC (cC (pv 2))) (dy (bC (cC (pv 3))))))
  (ak (aq aS))
  aB)
  (ak (aq (bE (ah (pv 2) (ah (mF cL T.ic (ah (pv 3) ag)) ag)))))))))),?_}
 ac_rfl;exists by ext,?_
 generalize ew:Txt.split t ":"= ws at sh;intros p1 H1 s1 h1;exists p1,_,rfl,.inl (aH.of h1),?_;rw[za];left
 by_cases hw:⇑ws=2
 ·obtain⟨a,b,rfl⟩:∃a b,ws=[a,b]:=by
   match ws,hw with
   | [a,b],_=>exact{(a),b,rfl}
  refine b9 rfl ?_;exists p1,_,0,_,rfl,rfl,aH.of h1,rfl,?_;refine{_,rfl,sh a (by simp),λH2 s2=>?_};exists p1,_,1,_,rfl,rfl,aH.of (s2 _ _ h1),rfl,?_;left;let lb:=sh b (by simp);let bl:=PyProof.Rows.split_le b ",";let bsh:∀z∈Txt.split b ",",⇑z<=600:=λz hz=>zM (xS hz) lb;refine{(),?_};rw[Oe ew] at kk;generalize Txt.split b ","= bs at kk bl bsh;intros p3 H3 s3 h3;exists{_,aH.of h3},?_;refine fG (enc:=V.str) (ws:=bs) (λz=>dO .int (fA z)) (λU=>∃v,U=[v]) () (aH.of h3) {(none),rfl} ?_ ?_
  ·rintro z U H4 R hz s4 ⟨_,rfl⟩ r
   change{bsh z hz,λH5 s5=>r _ _ _ s5 (Be _) {_,rfl}}
  ·intro D vs H4 s4 hD il
   let s04:=((s1.trans s2).trans s3).trans s4;refine{D,vs,rfl,aH.of hD,by rw[il.len,za];ext,λH5 s5=>?_};let e1:bs.map (λz=>dO Dt.int (fA z))=(bs.map fA).map (dO Dt.int):=by rw[zB];rfl
   rw[e1] at il;rw[jQ il];cases q:((bs.map fA).map (dO Dt.int)).any Dt.gd with
   | true=>
    rw[iQ Pd q] at kk;let kn:=kk .bH H5 (s04.trans s5) (by cases fA a <;> (unfold dO Is;rfl));cases ea:fA a with
    | none=>change kn
    | some n=>change kn
   | false=>
    let⟨xs,e2,e3,e4⟩:=iP q;rw[e2] at kk;rw[e3] at il;let ev:=dW il;subst ev;cases ea:fA a with
    | none=>
     rw[ea] at kk;change kk .bH H5 (s04.trans s5) (by unfold dO Is;rfl)
    | some n=>
     rw[ea] at kk;left;refine{D,_,rfl,.inl {aH.of (s5 _ _ hD),?_}};intros p6 H6 s6 h6;left;refine{dm,laid λp7 H7 s7 h7=>kk _ _ (((s04.trans s5).trans s6).trans s7) ?_};show Is H7 (.tup [.int n,.tup (xs.map .int)]) _;unfold Is;refine{p7,_,rfl,h7,?_};unfold aD;refine{_,_,rfl,by unfold Is;rfl,?_};unfold aD;refine{_,_,rfl,?_,by unfold aD;rfl};unfold Is;exact{p6,_,rfl,s7 _ _ h6,qW}
 ·refine bW (by rw[ze λz=>hw (by have:=V.int.inj z;ext)];rfl) ?_
  left;rw[Qt (by rw[ew];exact hw)] at kk;exact kk _ _ s1 (by unfold dO Is;rfl)
def OI {α:Type} {f:Str->Option α} {ws:List Str} (h:⇑ws≠1):one f ws=none:=by
 match ws,h with
 | [],_=>rfl
 | [_],h=>exact absurd rfl h
 | _::_::_,_=>rfl
def A5:dh P w base 2 T.jH (fK K (oF .str (one cH))):=by
 nomatch T.jH,["words"]
 let⟨p,ws,rfl,hp,hl,sh,kk⟩:=h;refine{_,(af (aI (ptr jJ (d9 aF T.bB (ah (pv 0) ag)) ae)
  (ak (aq aS))
  aB)
  (ak (aq (bJ (dU T) hr T.eO (ah (fw (pv 0) ae) ag))))),?_}
 ac_rfl;exists p,_,rfl,.inl hp,?_;rw[za];left
 by_cases hw:⇑ws=1
 ·obtain⟨a,rfl⟩:∃a,ws=[a]:=by
   match ws,hw with
   | [a],_=>exact{(a),rfl}
  refine b9 rfl ?_;exists p,_,0,_,rfl,rfl,hp,rfl,?_;exact{_,rfl,sh a (by simp),λH1 s1=>kk _ _ s1 (DQ _)}
 ·refine bW (by rw[ze λz=>hw (by have:=V.int.inj z;ext)];rfl) ?_
  left;refine kk _ _ (ax.refl _) ?_;unfold oF;rw[OI hw];exact dN
def A3:dh P w base 5 T.jF (fK K (oF dL (one lr))):=by
 nomatch T.jF,["words"]
 let⟨p,ws,rfl,hp,hl,sh,kk⟩:=h;refine{_,(af (aI (ptr jJ (d9 aF T.bB (ah (pv 0) ag)) ae)
  (ak (aq aS))
  aB)
  (ak (aq (bJ (gJ T) hr T.dM (ah (fw (pv 0) ae) ag))))),?_}
 ac_rfl;exists p,_,rfl,.inl hp,?_;rw[za];left
 by_cases hw:⇑ws=1
 ·obtain⟨a,rfl⟩:∃a,ws=[a]:=by
   match ws,hw with
   | [a],_=>exact{(a),rfl}
  refine b9 rfl ?_;exists p,_,0,_,rfl,rfl,hp,rfl,?_;exact{_,rfl,sh a (by simp),λv H1 s1 h1=>kk _ _ s1 (Bd h1)}
 ·refine bW (by rw[ze λz=>hw (by have:=V.int.inj z;ext)];rfl) ?_
  left;refine kk _ _ (ax.refl _) ?_;unfold oF;rw[OI hw];exact dN
def FO {α:Type} (d:α->Dt) (o:Option α):dO d o=(o.map d).getD .bH:=by cases o <;> rfl
def F1 {H:Hp} {ds:List Dt} {us:List V} {a:vF} {d:Option Dt} (ha:H a=some (.tup us)) (il:aD H ds us) (h1:ds.any Dt.gd=true->d=none) (h2:ds.any Dt.gd=false->d=some (.tup ds)):Is H (d.getD .bH) (if us.any gd=true then .bH else .ref a):=by
 rw[jQ il];cases q:ds.any Dt.gd with
 | true=>rw[h1 q];exact dN
 | false=>rw[h2 q];exact cw ha il
def pj:dh P w base 5 T.fo (fK K (oF d7 lj)):=by
 nomatch T.fo,["words"]
 let⟨p,ws,rfl,hp,hl,sh,kk⟩:=h;refine{_,(af (aI (ptr jJ (d9 aF T.bB (ah (pv 0) ag)) ae)
  (ak (aq aS))
  aB)
  (ak (aq (bJ (fh T) hr T.dq (ah (bE (ah (bJ (dU T) hr T.eO (ah (fw (pv 0) ae) ag)) (ah (bJ (E9 T) hr T.su (ah (fw (pv 0) ae) (ah (fw (pv 0) ae) ag))) (ah (bJ (Fb T) hr T.sA (ah (fw (pv 0) ae) ag)) ag)))) ag))))),?_}
 ac_rfl;exists p,_,rfl,.inl hp,?_;rw[za];left
 by_cases hw:⇑ws=4
 ·obtain⟨a,b,c,d,rfl⟩:∃a b c d,ws=[a,b,c,d]:=by
   match ws,hw with
   | [a,b,c,d],_=>exact{(a),b,c,d,rfl}
  refine b9 rfl ?_;exists p,_,0,_,rfl,rfl,hp,rfl,?_;refine{_,rfl,sh a (by simp),λH1 s1=>?_};exists p,_,1,_,rfl,rfl,s1.seq hp,rfl,?_;exists p,_,2,_,rfl,rfl,s1.seq hp,rfl,?_;refine{_,_,rfl,sh b (by simp),sh c (by simp),λv2 H2 s2 h2=>?_};exists p,_,3,_,rfl,rfl,(s1.trans s2).seq hp,rfl,?_;refine{_,rfl,sh d (by simp),λv3 H3 s3 h3=>?_};exists mR,?_;intros p4 H4 s4 h4;let s24:=s3.trans s4;refine{p4,_,rfl,h4,(by show 3<=1000000;decide),λH5 s5=>kk _ _ (((s1.trans s2).trans s24).trans s5) ?_};unfold oF;rw[FO];refine F1 (s5 _ _ h4) (aO (DQ _) (aO (Bd (h2.mono (s24.trans s5))) (m6 (Bd (h3.mono (s4.trans s5)))))) ?_ ?_
  ·simp only[lj]
   cases cH a <;> cases AL b c <;> cases P5 d <;> first | (intro _;rfl) | (intro q;exact absurd q (by simp[dO,dL,Dt.gd]))
  ·simp only[lj]
   cases cH a <;> cases AL b c <;> cases P5 d <;> first | (intro _;rfl) | (intro q;exact absurd q (by simp[dO,dL,Dt.gd]))
 ·refine bW (by rw[ze λz=>hw (by have:=V.int.inj z;ext)];rfl) ?_
  left;refine kk _ _ (ax.refl _) ?_;let e:lj ws=none:=by
   unfold lj;split
   ·exact absurd rfl hw
   ·rfl
  unfold oF;rw[e];exact dN
def Fd:dh P w base 3 T.nG (fK K (oF uf qq)):=by
 nomatch T.nG,["words"]
 let⟨p,ws,rfl,hp,hl,sh,kk⟩:=h;refine{_,(af (aI (ptr jJ (d9 aF T.bB (ah (pv 0) ag)) ae)
  (ak (aq aS))
  aB)
  (ak (aq (bJ (fh T) hr T.dq (ah (bE (ah (bJ (dU T) hr T.eO (ah (fw (pv 0) ae) ag)) (ah (bJ (ck T) hr T.cQ (ah (fw (pv 0) ae) ag)) (ah (bJ (dU T) hr T.eO (ah (fw (pv 0) ae) ag)) ag)))) ag))))),?_}
 ac_rfl;exists p,_,rfl,.inl hp,?_;rw[za];left
 by_cases hw:⇑ws=3
 ·obtain⟨a,b,c,rfl⟩:∃a b c,ws=[a,b,c]:=by
   match ws,hw with
   | [a,b,c],_=>exact{(a),b,c,rfl}
  refine b9 rfl ?_;exists p,_,0,_,rfl,rfl,hp,rfl,?_;refine{_,rfl,sh a (by simp),λH1 s1=>?_};exists p,_,1,_,rfl,rfl,s1.seq hp,rfl,?_;refine{_,rfl,sh b (by simp),λH2 s2=>?_};exists p,_,2,_,rfl,rfl,(s1.trans s2).seq hp,rfl,?_;refine{_,rfl,sh c (by simp),λH3 s3=>?_};exists mR,?_;intros p4 H4 s4 h4;refine{p4,_,rfl,h4,(by show 3<=1000000;decide),λH5 s5=>kk _ _ (((s1.trans s2).trans (s3.trans s4)).trans s5) ?_};unfold oF;rw[FO];refine F1 (s5 _ _ h4) (aO (DQ _) (aO (Be _) (m6 (DQ _)))) ?_ ?_
  ·simp only[qq]
   cases cH a <;> cases fA b <;> cases cH c <;> first | (intro _;rfl) | (intro q;exact absurd q (by simp[dO,dL,Dt.gd]))
  ·simp only[qq]
   cases cH a <;> cases fA b <;> cases cH c <;> first | (intro _;rfl) | (intro q;exact absurd q (by simp[dO,dL,Dt.gd]))
 ·refine bW (by rw[ze λz=>hw (by have:=V.int.inj z;ext)];rfl) ?_
  left;refine kk _ _ (ax.refl _) ?_;let e:qq ws=none:=by
   unfold qq;split
   ·exact absurd rfl hw
   ·rfl
  unfold oF;rw[e];exact dN
def mY {H:Hp} {ws:List Str} {vs:List V} {α:Type} {d:α->Dt} {f:Str->Option α} (il:aD H (ws.map λz=>dO d (f z)) vs):aD H ((ws.map f).map (dO d)) vs:=by
 let e:ws.map (λz=>dO d (f z))=(ws.map f).map (dO d):=by rw[zB];rfl
 rw[<-e];exact il
def CG:dh P w base 2 T.kZ (fK K (oF gq o6)):=by
 nomatch T.kZ,["words","names"]
 let⟨p,ws,rfl,hp,hl,sh,kk⟩:=h;let sl:=yC;refine{_,(af (aI (ptr fe (d9 aF T.bB (ah (pv 0) ag)) ae)
  (ak (aq aS))
  aB)
  (af (bP 1 qN (bJ (d4 T) hr T.dq (ah (oh (ts:=["word"]) (ys:=[]) (js:=[]) (te:=(gG kR [] E0 (bR (aY 0) eC))) (bf (pv 0)) (f9 0) bq (bJ (dU T) hr T.eO (ah (pv 0) ag))) ag)))
  (af (aI (bC (cC (pv 1)))
  (ak (aq aS))
  aB)
  (ak (aq (bE (ah (fw (pv 1) ae) (ah (mF cL T.ic (ah (dn gz (pv 1) (dQ ae) dR) ag)) ag)))))))),?_}
 ac_rfl;exists p,_,rfl,.inl hp,?_;rw[za];left;refine uR (λc=>?_) (λc=>?_)
 ·left
  refine kk _ _ (ax.refl _) ?_;let hw:=ye c;let e:o6 ws=none:=by
   unfold o6;split
   ·simp at hw;ext
   ·rfl
  unfold oF;rw[e];exact dN
 ·let hw:¬(⇑ws:Int)<2:=λz=>c (zg z)
  obtain⟨a,b,r,rfl⟩:∃a b r,ws=a::b::r:=by
   match ws,hw with
   | [],h=>exact absurd (by simp) h
   | [_],h=>exact absurd (by simp) h
   | a::b::r,_=>exact{(a),b,r,rfl}
  exists{_,hp},?_;refine fG (enc:=V.str) (ws:=a::b::r) (λz=>dO .str (cH z)) (λU=>∃v,U=[v]) () hp {(none),rfl} ?_ ?_
  ·rintro z U H4 R hz s4 ⟨_,rfl⟩ r
   change{sh z hz,λH5 s5=>r _ _ _ s5 (DQ _) {_,rfl}}
  ·intro D vs H4 s4 hD il
   refine{D,vs,rfl,aH.of hD,by rw[il.len,za];ext,λH5 s5=>?_};let il:=mY il;rw[jQ il];cases q:(((a::b::r).map cH).map (dO Dt.str)).any Dt.gd with
   | true=>
    left;refine kk _ _ (s4.trans s5) ?_;unfold oF;rw[oZ,iQ Ic q];exact dN
   | false=>
    let⟨xs,e2,e3,e4⟩:=iP q;rw[e3] at il;let ev:=dG il;subst ev;obtain⟨n,ps,rfl⟩:∃n ps,xs=n::ps:=by
     match xs,e4 with
     | n::ps,_=>exact{(n),ps,rfl}
    let hD5:=s5 _ _ hD;exists D,_,0,_,rfl,rfl,aH.of hD5,bA (j:=0) rfl,?_;exists D,_,rfl,aH.of hD5,?_;rw[show ke (List.map V.str (n::ps)) (some 1) none=ps.map V.str from(fF _ 1).trans rfl];intros p6 H6 s6 h6;left;refine{p6,_,rfl,.inl {aH.of h6,?_}};intros p7 H7 s7 h7;left;refine{dm,laid λp8 H8 s8 h8=>kk _ _ (((((s4.trans s5).trans s6).trans s7)).trans s8) ?_};unfold oF;rw[oZ,e2];exact cw h8 (aO eI (m6 (cw (s8 _ _ h7) Ew)))
def HC:dh P w base 5 T.qo (fK K (oF kI CC)):=by
 nomatch T.qo,["words","marks"]
 let⟨p,ws,rfl,hp,hl,sh,kk⟩:=h;let sl:=yC;refine{_,(af (aI (ptr fe (d9 aF T.bB (ah (pv 0) ag)) ae)
  (ak (aq aS))
  aB)
  (af (bP 1 qN (bJ (d4 T) hr T.dq (ah (oh (ts:=["word"]) (ys:=[]) (js:=[]) (te:=(gG kR [] E0 (bR (aY 0) eC))) (bf (dn gz (pv 0) (dQ ae) dR)) (f9 0) bq (bJ (dU T) hr T.eO (ah (pv 0) ag))) ag)))
  (af (aI (bC (cC (pv 1)))
  (ak (aq aS))
  aB)
  (ak (aq (bJ (fh T) hr T.dq (ah (bE (ah (bJ (CJ T) hr T.oY (ah (fw (pv 0) ae) ag)) (ah (bJ (HA T) hr T.AS (ah (fw (pv 0) ae) ag)) (ah (mF cL T.ic (ah (pv 1) ag)) ag)))) ag))))))),?_}
 ac_rfl;exists p,_,rfl,.inl hp,?_;rw[za];left;refine uR (λc=>?_) (λc=>?_)
 ·left
  refine kk _ _ (ax.refl _) ?_;let hw:=ye c;let e:CC ws=none:=by
   unfold CC;split
   ·simp at hw;ext
   ·rfl
  unfold oF;rw[e];exact dN
 ·let hw:¬(⇑ws:Int)<2:=λz=>c (zg z)
  obtain⟨a,b,r,rfl⟩:∃a b r,ws=a::b::r:=by
   match ws,hw with
   | [],h=>exact absurd (by simp) h
   | [_],h=>exact absurd (by simp) h
   | a::b::r,_=>exact{(a),b,r,rfl}
  rw[zv,zv] at hl;exists p,_,rfl,hp,?_;rw[show ke (List.map V.str (a::b::r)) (some 2) none=r.map V.str from(fF _ 2).trans rfl];intros p1 H1 s1 h1;exists{_,aH.of h1},?_;refine fG (enc:=V.str) (ws:=r) (λz=>dO .str (cH z)) (λU=>∃v,U=[v]) () (aH.of h1) {(none),rfl} ?_ ?_
  ·rintro z U H4 R hz s4 ⟨_,rfl⟩ r
   change{sh z (by simp[hz]),λH5 s5=>r _ _ _ s5 (DQ _) {_,rfl}}
  ·intro D vs H4 s4 hD il
   refine{D,vs,rfl,aH.of hD,by rw[il.len,za];ext,λH5 s5=>?_};let il:=mY il;rw[jQ il];let s05:=(s1.trans s4).trans s5;cases q:((r.map cH).map (dO Dt.str)).any Dt.gd with
   | true=>
    left;refine kk _ _ s05 ?_;unfold oF;simp only[CC];rw[iQ Ic q];exact dN
   | false=>
    let⟨xs,e2,e3,e4⟩:=iP q;rw[e3] at il;let ev:=dG il;subst ev;let hD5:=s5 _ _ hD;exists p,_,0,_,rfl,rfl,s05.seq hp,bA (j:=0) rfl,?_;refine{_,rfl,sh a (by simp),λv6 H6 s6 h6=>?_};exists p,_,1,_,rfl,rfl,(s05.trans s6).seq hp,bA (j:=1) rfl,?_;refine{_,rfl,sh b (by simp),λH7 s7=>?_};left;refine{D,_,rfl,.inl {aH.of (s7 _ _ (s6 _ _ hD5)),?_}};intros p8 H8 s8 h8;exists mR,?_;intros p9 H9 s9 h9;refine{p9,_,rfl,h9,(by show 3<=1000000;decide),λHx sx=>kk _ _ (((((s05.trans s6).trans s7).trans s8).trans s9).trans sx) ?_};unfold oF;rw[FO];refine F1 (ds:=[dO dL (iS a),dO .int (Hg b),mr xs]) (sx _ _ h9) (aO (Bd (h6.mono (((s7.trans s8).trans s9).trans sx))) (aO (Be _) (m6 (cw (sx _ _ (s9 _ _ h8)) Ew)))) ?_ ?_
    ·simp only[CC]
     rw[e2];cases iS a <;> cases Hg b <;> first | (intro _;rfl) | (intro q;exact absurd q (by simp[dO,dL,Dt.gd,mr]))
    ·simp only[CC]
     rw[e2];cases iS a <;> cases Hg b <;> first | (intro _;rfl) | (intro q;exact absurd q (by simp[dO,dL,Dt.gd,mr]))
theorem qV {H:Hp} {α:Type} {d:α->Dt}:∀{xs:List α} {vs:List V},aD H (xs.map d) vs->∃ps:List (α×V),ps.map (·.1)=xs/\ps.map (·.2)=vs/\∀q∈ps,Is H (d q.1) q.2
 | [],_,h=>by unfold aD at h;exact{[],rfl,h.symm,λ_ z=>nomatch z}
 | x::xs,_,h=>by
  rw[zj] at h;unfold aD at h;let⟨u,r,rfl,h1,h2⟩:=h;let⟨ps,e1,e2,hh⟩:=qV h2;refine{(x,u)::ps,by simp[e1],by simp[e2],λq m=>?_};rcases zD.mp m with e | m
  ·subst e;exact h1
  ·exact hh q m
def item_at {H:Hp} {it:Item} {v:V} (h:Is H (eL it) v):∃a pv lv,v=.ref a/\H a=some (.tup [pv,lv])/\Is H (dO dL it.1) pv/\Is H (dL it.2) lv:=by
 unfold eL Is at h;let⟨a,vs,rfl,ha,hl⟩:=h;unfold aD at hl;let⟨pv,r,rfl,h1,hl⟩:=hl;unfold aD at hl;let⟨lv,r,rfl,h2,hl⟩:=hl;unfold aD at hl;subst hl;exact{(a),pv,lv,rfl,ha,h1,h2}
def UQ {H:Hp} {α:Type} {d:α->Dt} (f:KH d) {o:Option α} {v:V} (h:Is H (dO d o) v):gd v=o.isNone:=by
 rw[O2 h];cases o with
 | none=>rfl
 | some x=>exact f x
def CH:dh P w base 6 T.lh (fK K Vb):=by
 nomatch T.lh,["words","items"]
 let⟨p,ws,rfl,hp,hl,sh,kk⟩:=h;let sl:=yC;refine{_,(af (aI (ptr fe (d9 aF T.bB (ah (pv 0) ag)) ae)
  (ak (aq aS))
  aB)
  (af (bP 1 qN (bJ (d4 T) hr T.dq (ah (oh (ts:=["word"]) (ys:=[]) (js:=[]) (te:=(gG ou [] E0 (bR (aY 0) eC))) (bf (dn gz (pv 0) (dQ ae) dR)) (f9 0) bq (bJ (CD T) hr T.sC (ah (pv 0) ag))) ag)))
  (af (aI (PW.pt (eF (bC (cC (pv 1))) (dy (cR (d9 (nV rfl) T.Ld (ah (oh (ts:=["item"]) (ys:=[]) (js:=[]) (te:=(NQ (e9 (o7 K) (aY 0) (tC (.int (0)))))) (bf (pv 1)) (f9 0) bq (sF (cC (bM (pv 0) ae)))) ag))))))
  (ak (aq aS))
  aB)
  (ak (aq (bJ (fh T) hr T.dq (ah (bE (ah (bJ (ck T) hr T.cQ (ah (fw (pv 0) ae) ag)) (ah (bJ (dU T) hr T.eO (ah (fw (pv 0) ae) ag)) (ah (pv 1) ag)))) ag))))))),?_}
 ac_rfl;exists p,_,rfl,.inl hp,?_;rw[za];left;refine uR (λc=>?_) (λc=>?_)
 ·left
  refine kk _ _ (ax.refl _) ?_;let hw:=ye c;let e:j0 ws=none:=by
   unfold j0;split
   ·simp at hw;ext
   ·rfl
  unfold Vb;rw[e]
 ·let hw:¬(⇑ws:Int)<3:=λz=>c (zg z)
  obtain⟨a,b,i,r,rfl⟩:∃a b i r,ws=a::b::i::r:=by
   match ws,hw with
   | [],h=>exact absurd (by simp) h
   | [_],h=>exact absurd (by simp) h
   | [_,_],h=>exact absurd (by simp) h
   | a::b::i::r,_=>exact{(a),b,i,r,rfl}
  let en:j0 (a::b::i::r)=(match nc ((i::r).map ir) with | some l=>if l.all (λit=>it.1.isNone)=true then none else(match fA a,cH b with | some x,some y=>some (x,y,l) | _,_=>none) | none=>none):=rfl;unfold Vb at kk;rw[en] at kk;let sh':∀z∈i::r,⇑z<=600:=λz hz=>sh z (by simp at hz ⊢;rcases hz with h | h <;> simp[h]);let hl':⇑(i::r)<=1000000:=by simp at hl ⊢;ext
  exists p,_,rfl,hp,?_;rw[show ke (List.map V.str (a::b::i::r)) (some 2) none=(i::r).map V.str from(fF _ 2).trans rfl];clear en;generalize i::r=its at kk sh' hl';intros p1 H1 s1 h1;exists{_,aH.of h1},?_;refine dA (enc:=V.str) (ws:=its) (λz=>dO eL (ir z)) (λU=>∃v,U=[v]) () (aH.of h1) {(none),rfl} ?_ ?_
  ·rintro z U H4 R hz s4 ⟨_,rfl⟩ r
   change{sh' z hz,λv H5 s5 h5=>r _ _ _ s5 (UP h5) {_,rfl}}
  ·intro D vs H4 s4 nD hD il
   refine{D,vs,rfl,aH.of hD,by rw[il.len,za];ext,λH5 s5=>?_};let il:=mY il;rw[jQ il];let s05:=(s1.trans s4).trans s5;cases q:((its.map ir).map (dO eL)).any Dt.gd with
   | true=>
    left;refine kk _ _ s05 ?_;rw[iQ MI q]
   | false=>
    let⟨xs,e2,e3,e4⟩:=iP q;rw[e3] at il;rw[e2] at kk;let il5:=il.mono s5;let hD5:=s5 _ _ hD;let⟨ps,f1,f2,f3⟩:=qV il5;let pl:⇑ps<=1000000:=by
     have:⇑ps=⇑xs:=by rw[<-f1,za]
     rw[this,e4,za];exact hl'
    exists{_,aH.of hD5},?_;refine fG (enc:=λq:Item×V=>q.2) (ws:=ps) (λq=>.bl q.1.1.isNone) (λU=>∃v,U=[v]) () (by rw[f2];exact aH.of hD5) {(none),rfl} ?_ ?_
    ·rintro z U H6 R hz s6 ⟨_,rfl⟩ r
     let⟨a6,pv,lv,ev,h6,h7,h8⟩:=item_at (f3 z hz);rw[ev];let h66:=s6 _ _ h6;left;refine r _ _ _ (ax.refl _) ?_ {_,rfl};rw[<-UQ Ts h7];unfold Is;rfl
    ·intro D2 vs2 H6 s6 hD2 il2
     let e5:ps.map (λq=>Dt.bl q.1.1.isNone)=(ps.map λq=>q.1.1.isNone).map Dt.bl:=by rw[zB];rfl
     rw[e5] at il2;rw[j8 il2] at hD2;refine{D2,_,rfl,aH.of hD2,?_};let e6:(ps.map λq=>q.1.1.isNone).all id=xs.all λit=>it.1.isNone:=by rw[<-f1,wj,wj];rfl
     rw[e6];cases qa:xs.all λit=>it.1.isNone with
     | true=>
      dsimp only at kk;rw[qa] at kk;change kk _ _ (s05.trans s6) rfl
     | false=>
      dsimp only at kk;rw[qa] at kk;let s06:=s05.trans s6;exists p,_,0,_,rfl,rfl,s06.seq hp,bA (j:=0) rfl,?_;refine{_,rfl,sh a (by simp),λH7 s7=>?_};exists p,_,1,_,rfl,rfl,(s06.trans s7).seq hp,bA (j:=1) rfl,?_;refine{_,rfl,sh b (by simp),λH8 s8=>?_};exists mR,?_;intros p9 H9 s9 h9;let s59:=((s6.trans s7).trans s8).trans s9;refine{p9,_,rfl,h9,(by show 3<=1000000;decide),λHx sx=>kk _ _ ((s05.trans s59).trans sx) ?_};let s5x:=s59.trans sx;let h9x:=sx _ _ h9;clear h9
      revert h9x
      cases fA a <;> cases cH b <;> intro h9x <;> first | rfl | exact⟨p9,D,vs,rfl,h9x,s5x _ _ hD5,il5.mono s5x,s1.back nD⟩
def A4:dh P w base 5 T.jG (fK K (oF gO jI)):=by
 nomatch T.jG,["words","times","ends"]
 let⟨p,ws,rfl,hp,hl,sh,kk⟩:=h;let sl:=yC;refine{_,(af (aI (ptr fe (d9 aF T.bB (ah (pv 0) ag)) ae)
  (ak (aq aS))
  aB)
  (af (bP 1 qN (bJ (mW T) hr T.jE (ah (fw (pv 0) ae) (ah (bX (v:=.int (2)) (by rfl) T.BM {_,rfl}) (ah (bX (v:=.int (9)) (by rfl) T.FU {_,rfl}) ag)))))
  (af (bP 2 qN (bJ (d4 T) hr T.dq (ah (oh (ts:=["word"]) (ys:=[]) (js:=[]) (te:=(gG tM [] E0 (bR (aY 0) eC))) (bf (dn gz (pv 0) (dQ ae) dR)) (f9 0) bq (bJ (HB T) hr T.AU (ah (pv 0) ag))) ag)))
  (af (aI (bC (cC (pv 2)))
  (ak (aq aS))
  aB)
  (ak (aq (bJ (fh T) hr T.dq (ah (bE (ah (bJ (ck T) hr T.cQ (ah (fw (pv 0) ae) ag)) (ah (bJ (ck T) hr T.cQ (ah (fw (pv 0) ae) ag)) (ah (pv 1) (ah (mF cL T.ic (ah (pv 2) ag)) ag))))) ag)))))))),?_}
 ac_rfl;exists p,_,rfl,.inl hp,?_;rw[za];left;refine uR (λc=>?_) (λc=>?_)
 ·left
  refine kk _ _ (ax.refl _) ?_;let hw:=ye c;let e:jI ws=none:=by
   unfold jI;split
   ·simp at hw;ext
   ·rfl
  unfold oF;rw[e];exact dN
 ·let hw:¬(⇑ws:Int)<3:=λz=>c (zg z)
  obtain⟨a,b,c',r,rfl⟩:∃a b i r,ws=a::b::i::r:=by
   match ws,hw with
   | [],h=>exact absurd (by simp) h
   | [_],h=>exact absurd (by simp) h
   | [_,_],h=>exact absurd (by simp) h
   | a::b::i::r,_=>exact{(a),b,i,r,rfl}
  let en:jI (a::b::c'::r)=(match nc (r.map AN) with | some l=>(match fA a,fA b,lY c' 2 9 with | some x,some y,some z=>some {(x),y,z,l} | _,_,_=>none) | none=>none):=rfl;unfold oF at kk;rw[en] at kk;let sh':∀z∈r,⇑z<=600:=λz hz=>sh z (by simp[hz]);let hl':⇑r<=1000000:=by simp at hl ⊢;ext
  exists p,_,2,_,rfl,rfl,hp,bA (j:=2) rfl,?_;refine{_,_,_,rfl,sh c' (by simp),λH0 s0=>?_};exists p,_,rfl,s0.seq hp,?_;rw[show ke (List.map V.str (a::b::c'::r)) (some 3) none=r.map V.str from(fF _ 3).trans rfl];intros p1 H1 s1 h1;exists{_,aH.of h1},?_;refine fG (enc:=V.str) (ws:=r) (λz=>dO lH (AN z)) (λU=>∃v,U=[v]) () (aH.of h1) {(none),rfl} ?_ ?_
  ·rintro z U H4 R hz s4 ⟨_,rfl⟩ r
   change{sh' z hz,λv H5 s5 h5=>r _ _ _ s5 h5 {_,rfl}}
  ·intro D vs H4 s4 hD il
   refine{D,vs,rfl,aH.of hD,by rw[il.len,za];ext,λH5 s5=>?_};let il:=mY il;rw[jQ il];let s05:=((s0.trans s1).trans s4).trans s5;cases q:((r.map AN).map (dO lH)).any Dt.gd with
   | true=>
    left;refine kk _ _ s05 ?_;rw[iQ Pf q];exact dN
   | false=>
    let⟨xs,e2,e3,e4⟩:=iP q;rw[e3] at il;rw[e2] at kk;let il5:=il.mono s5;let hD5:=s5 _ _ hD;exists p,_,0,_,rfl,rfl,s05.seq hp,bA (j:=0) rfl,?_;refine{_,rfl,sh a (by simp),λH6 s6=>?_};exists p,_,1,_,rfl,rfl,(s05.trans s6).seq hp,bA (j:=1) rfl,?_;refine{_,rfl,sh b (by simp),λH7 s7=>?_};left;refine{D,_,rfl,.inl {aH.of (s7 _ _ (s6 _ _ hD5)),?_}};intros p8 H8 s8 h8;exists by show 4<=sizeLine;ext,?_
    intros p9 H9 s9 h9;let s59:=((s6.trans s7).trans s8).trans s9;refine{p9,_,rfl,h9,(by show 4<=1000000;decide),λHx sx=>kk _ _ ((s05.trans s59).trans sx) ?_};rw[FO];refine F1 (ds:=[dO .int (fA a),dO .int (fA b),dO .int (lY c' 2 9),.tup (xs.map lH)]) (sx _ _ h9) (aO (Be _) (aO (Be _) (aO (Be _) (m6 (cw (sx _ _ (s9 _ _ h8)) (il5.mono (s59.trans sx))))))) ?_ ?_
    ·cases fA a <;> cases fA b <;> cases lY c' 2 9 <;> first | (intro _;rfl) | (intro q;exact absurd q (by simp[dO,dL,Dt.gd]))
    ·cases fA a <;> cases fA b <;> cases lY c' 2 9 <;> first | (intro _;rfl) | (intro q;exact absurd q (by simp[dO,dL,Dt.gd]))
def Fc:dh P w base 3 T.nF (fK K (oF jS tS)):=by
 nomatch T.nF,["words","stops","coda"]
 let⟨p,ws,rfl,hp,hl,sh,kk⟩:=h;let sl:=yC;refine{_,(af (aI (ptr jJ (d9 aF T.bB (ah (pv 0) ag)) ae)
  (ak (aq aS))
  aB)
  (af (bP 1 qN (bJ (d4 T) hr T.dq (ah (oh (ts:=["word"]) (ys:=[]) (js:=[]) (te:=(gG jY [] E0 (bR (aY 0) eC))) (bf (dn gz (pv 0) dR (dQ ae))) (f9 0) bq (bJ (ck T) hr T.cQ (ah (pv 0) ag))) ag)))
  (af (bP 2 qN (bJ (ck T) hr T.cQ (ah (fw (pv 0) ae) ag)))
  (af (aI (PW.pt (eF (bC (cC (pv 1))) (dy (PW.pt (dt (bC (cC (pv 2))) (cW (ptr jJ (fw (pv 0) ae) aN)))))))
  (ak (aq aS))
  aB)
  (ak (aq (bE (ah (fw (pv 1) ae) (ah (fw (pv 1) ae) (ah (fw (pv 1) ae) (ah (pv 2) ag))))))))))),?_}
 ac_rfl;exists p,_,rfl,.inl hp,?_;rw[za];left
 by_cases hw:⇑ws=4
 ·obtain⟨a,b,c,d,rfl⟩:∃a b c d,ws=[a,b,c,d]:=by
   match ws,hw with
   | [a,b,c,d],_=>exact{(a),b,c,d,rfl}
  let en:tS [a,b,c,d]=(match fA a,fA b,fA c with | some x,some y,some z=>(match fA d with | some n=>some {x,y,z,some n} | none=>if d ="end" then some {(x),y,z,none} else none) | _,_,_=>none):=rfl;unfold oF at kk;rw[en] at kk;refine b9 rfl ?_;exists p,_,rfl,hp,?_;rw[show ke (List.map V.str [a,b,c,d]) none (some 3)=[a,b,c].map V.str from(FP _ 3).trans rfl];intros p1 H1 s1 h1;exists{_,aH.of h1},?_;refine fG (enc:=V.str) (ws:=[a,b,c]) (λz=>dO .int (fA z)) (λU=>∃v,U=[v]) (by show 3<=sizeLine;ext) (aH.of h1) {(none),rfl} ?_ ?_
  ·rintro z U H4 R hz s4 ⟨_,rfl⟩ r
   change{sh z (by simp at hz ⊢;rcases hz with h | h | h <;> simp[h]),λH5 s5=>r _ _ _ s5 (Be _) {_,rfl}}
  ·intro D vs H4 s4 hD il
   refine{D,vs,rfl,aH.of hD,by rw[il.len];show 3<=1000000;decide,λH5 s5=>?_};let il:=mY il;rw[jQ il];let s05:=(s1.trans s4).trans s5;cases q:(([a,b,c].map fA).map (dO Dt.int)).any Dt.gd with
   | true=>
    exists p,_,3,_,rfl,rfl,s05.seq hp,rfl,?_;refine{_,rfl,sh d (by simp),λH6 s6=>?_};left;refine kk _ _ (s05.trans s6) ?_;let q':([fA a,fA b,fA c].map (dO Dt.int)).any Dt.gd=true:=q;clear q en kk
    revert q'
    cases fA a <;> cases fA b <;> cases fA c <;> intro q' <;> first | exact dN | exact absurd q' (by simp[dO,Dt.gd])
   | false=>
    obtain⟨x,y,z,ea,eb,ec⟩:∃x y z,fA a=some x/\fA b=some y/\fA c=some z:=by
     let q':([fA a,fA b,fA c].map (dO Dt.int)).any Dt.gd=false:=q;clear q en kk il
     revert q'
     cases fA a <;> cases fA b <;> cases fA c <;> intro q' <;> first | exact⟨_,_,_,rfl,rfl,rfl⟩ | exact absurd q' (by simp[dO,Dt.gd])
    rw[ea,eb,ec] at kk;let il':aD H4 ([x,y,z].map Dt.int) vs:=by
     have:([a,b,c].map fA).map (dO Dt.int)=[x,y,z].map Dt.int:=by simp[ea,eb,ec,dO]
     rw[this] at il;exact il
    let ev:=dW il';subst ev;let hD5:=s5 _ _ hD;exists p,_,3,_,rfl,rfl,s05.seq hp,rfl,?_;refine{_,rfl,sh d (by simp),λH6 s6=>?_};let hD6:=s6 _ _ hD5;let s06:=s05.trans s6;let fin:∀(o:Option Int) (v:V),Is H6 (dO .int o) v->fA d=o->(o=none->d ="end")->∀p7 H7,ax H6 H7->H7 p7=some (.tup [.int x,.int y,.int z,v])->Q (.ref p7) H7:=λo v iv eo hend p7 H7 s7 h7=>by
     refine kk _ _ (s06.trans s7) ?_;rw[eo];cases o with
     | none=>
      simp only[hend rfl,yO];exact cw h7 (aO cE (aO cE (aO cE (m6 (iv.mono s7)))))
     | some n=>exact cw h7 (aO cE (aO cE (aO cE (m6 (iv.mono s7)))))
    cases ed:fA d with
    | none=>
     exists p,_,3,_,rfl,rfl,s06.seq hp,rfl,?_;left
     by_cases he:d ="end"
     ·refine b9 (by rw[he];rfl) ?_
      exists D,_,0,_,rfl,rfl,aH.of hD6,rfl,?_;exists D,_,1,_,rfl,rfl,aH.of hD6,rfl,?_;exists D,_,2,_,rfl,rfl,aH.of hD6,rfl,?_;left;refine{by show 4<=sizeLine;ext,laid ?_};exact fin none .bH dN ed λ_=>he
     ·refine bW (by rw[ze λz=>he (V.str.inj z)];rfl) ?_
      left;refine kk _ _ s06 ?_;rw[ed];simp only[yN he];exact dN
    | some n=>
     exists D,_,0,_,rfl,rfl,aH.of hD6,rfl,?_;exists D,_,1,_,rfl,rfl,aH.of hD6,rfl,?_;exists D,_,2,_,rfl,rfl,aH.of hD6,rfl,?_;left;refine{by show 4<=sizeLine;ext,laid ?_};exact fin (some n) (.int n) cE ed λz=>nomatch z
 ·refine bW (by rw[ze λz=>hw (by have:=V.int.inj z;ext)];rfl) ?_
  left;refine kk _ _ (ax.refl _) ?_;let e:tS ws=none:=by
   unfold tS;split
   ·exact absurd rfl hw
   ·rfl
  unfold oF;rw[e];exact dN
structure Dk (P:vB) (w:vC) (K:yB) {mg:Str->Option vz} (T:Txt K mg):Prop where
 K7:KD P w K T.iK [("player",.ref T.gE),("instrument",.ref T.d8),("staff",.ref T.iD),("bar",.ref T.lL),("upbeat",.ref T.gC),("holds",.ref T.jU),("notes",.ref T.iE),("repeat",.ref T.gD),("jump",.ref T.jT)]
 Tu:KD P w K T.qp [("player",.ref T.fY),("instrument",.ref T.dX),("staff",.ref T.gB),("bar",.ref T.jV),("upbeat",.ref T.fW),("holds",.ref T.iG),("notes",.ref T.gF),("repeat",.ref T.fX),("jump",.ref T.iF)]
inductive Nr (K:yB) {mg:Str->Option vz} (T:Txt K mg):vF->Sp->Prop where
 | bF:Nr K T T.gE (fK K (oF .str (one cH)))
 | cI:Nr K T T.d8 (fK K (oF d7 lj))
 | cu:Nr K T T.iD (fK K (oF gq o6))
 | bar:Nr K T T.lL (fK K (oF kI CC))
 | aG:Nr K T T.gC (fK K (oF dL (one lr)))
 | holds:Nr K T T.jU (fK K (oF uf qq))
 | aJ:Nr K T T.iE (fK K Vb)
 | rep:Nr K T T.gD (fK K (oF gO jI))
 | bS:Nr K T T.jT (fK K (oF jS tS))
noncomputable def AV {K:yB} {mg:Str->Option vz} (T:Txt K mg):List (Str×V):=[("player",V.ref T.gE),("instrument",.ref T.d8),("staff",.ref T.iD),("bar",.ref T.lL),("upbeat",.ref T.gC),("holds",.ref T.jU),("notes",.ref T.iE),("repeat",.ref T.gD),("jump",.ref T.jT)]
def Of (K:yB) {mg:Str->Option vz} (T:Txt K mg) (x:Str):(rN (AV T) x=none/\∀ws,nH (x::ws)=none)\/∃f D,rN (AV T) x=some (.ref f)/\Nr K T f (fK K D)/\∀H0 H v ws,D H0 H v ws->gy H0 H v (nH (x::ws)):=by
 by_cases e0:x ="player"
 ·subst e0
  refine .inr {_,_,rfl,.bF,λH0 H v ws h=>?_};exact mJ (g:=Told.bF) h λx z=>by unfold Is at z;exact z
 by_cases e1:x ="instrument"
 ·subst e1
  refine .inr {_,_,rfl,.cI,λH0 H v ws h=>?_};exact mJ (g:=λ(x:Str×(Int×Int)×(Int×Int))=>Told.cI x.1 x.2.1 x.2.2) h λx z=>(show Is H (d7 x) v from z)
 by_cases e2:x ="staff"
 ·subst e2
  refine .inr {_,_,rfl,.cu,λH0 H v ws h=>?_};exact mJ (g:=λ(x:Str×List Str)=>Told.cu x.1 x.2) h λx z=>(show Is H (gq x) v from z)
 by_cases e3:x ="bar"
 ·subst e3
  refine .inr {_,_,rfl,.bar,λH0 H v ws h=>?_};exact mJ (g:=Told.bar) h λx z=>z
 by_cases e4:x ="upbeat"
 ·subst e4
  refine .inr {_,_,rfl,.aG,λH0 H v ws h=>?_};exact mJ (g:=Told.aG) h λx z=>z
 by_cases e5:x ="holds"
 ·subst e5
  refine .inr {_,_,rfl,.holds,λH0 H v ws h=>?_};exact mJ (g:=λ(x:Str×Int×Str)=>Told.holds x.1 x.2.1 x.2.2) h λx z=>(show Is H (uf x) v from z)
 by_cases e6:x ="notes"
 ·subst e6
  refine .inr {_,_,rfl,.aJ,λH0 H v ws h=>?_};let e:nH ("notes":: ws)=(j0 ws).map λx=>Told.aJ x.1 x.2.1 x.2.2:=rfl;rw[e];unfold Vb at h;cases q:j0 ws with
  | none=>rw[q] at h;exact h
  | some y=>rw[q] at h;exact h
 by_cases e7:x ="repeat"
 ·subst e7
  refine .inr {_,_,rfl,.rep,λH0 H v ws h=>?_};exact mJ (g:=Told.rep) h λx z=>z
 by_cases e8:x ="jump"
 ·subst e8
  refine .inr {_,_,rfl,.bS,λH0 H v ws h=>?_};exact mJ (g:=Told.bS) h λx z=>z
 refine .inl {?_,λws=>?_}
 ·let f0:∀(k:Str) (v:V) (r:List (Str×V)),x≠k->rN ((k,v)::r) x=rN r x:=λk v r h=>by
   unfold rN;rw[yT];rw[show decide ((k,v).1=x)=false from ze λz=>h z.symm]
  unfold AV;rw[f0 _ _ _ e0,f0 _ _ _ e1,f0 _ _ _ e2,f0 _ _ _ e3,f0 _ _ _ e4,f0 _ _ _ e5,f0 _ _ _ e6,f0 _ _ _ e7,f0 _ _ _ e8];rfl
 ·unfold nH
  dsimp only;rw[yN e0,yN e1,yN e2,yN e3,yN e4,yN e5,yN e6,yN e7,yN e8]
def rS {K:yB} {mg:Str->Option vz} (T:Txt K mg):Sp:=λvs H Q _=>∃x:Str,vs=[.str x]/\Q (.bl (rN (AV T) x).isSome) H
def sH (B:Dk P w K T):dh P w base 1 T.j9 (rS T):=by
 nomatch T.j9,["word"]
 let⟨x,rfl,kk⟩:=h;refine{_,(ak (aq (sF (QH (pv 0) (bX (v:=.ref T.iK) (by rfl) T.Ef rfl))))),?_};ac_rfl;exists T.iK,AV T,x,rfl,B.K7,rfl,?_;left;show Q (V.bl (false ^^ (rN (AV T) x).isSome)) H;rw[Bool.false_xor];exact kk
def tO:fZ ["words","reader"] ["words"] (aU oP):=UX
def Hz (B:Dk P w K T):dh P w base 7 T.AR (GL K):=by
 refine T.AR.F.Vt tO λcdv A' outer s H vs Q E hr h=>?_
 ·let⟨p,x,ws,rfl,hp,hl,sh,kk⟩:=h
  let sl:=yC;let hTbV:∀f sp,Nr K T f sp->TZ (kc Jb P w K mg base ["words","reader"] "read_row" (aU oP) T.BQ cdv A' outer s H E).JP Jb 6 f sp:=by
   intro f sp h;cases h with
   | bF=>exact{_,_,L2.dB.mono (A5 T) ∅,T.jH.F.kp,T.jH.b}
   | cI=>exact{_,_,L2.dB.mono (pj T) ∅,T.fo.F.kp,T.fo.b}
   | cu=>exact{_,_,L2.dB.mono (CG T) ∅,T.kZ.F.kp,T.kZ.b}
   | bar=>exact{_,_,L2.dB.mono (HC T) ∅,T.qo.F.kp,T.qo.b}
   | aG=>exact{_,_,L2.dB.mono (A3 T) ∅,T.jF.F.kp,T.jF.b}
   | holds=>exact{_,_,L2.dB.mono (Fd T) ∅,T.nG.F.kp,T.nG.b}
   | aJ=>exact{_,_,L2.dB.mono (CH T) ∅,T.lh.F.kp,T.lh.b}
   | rep=>exact{_,_,L2.dB.mono (A4 T) ∅,T.jG.F.kp,T.jG.b}
   | bS=>exact{_,_,L2.dB.mono (Fc T) ∅,T.nF.F.kp,T.nF.b}
  refine{_,(af (aI (fu (cR (bJ (sH T B) hr T.j9 (ah (fw (pv 0) ae) ag))))
   (ak (aq aS))
   aB)
   (af (bP 1 tO.nd (Ho (bX (v:=.ref T.iK) (by rfl) T.Ef rfl) (fw (pv 0) ae) (λ_ _=>rfl)))
   (ak (aq (Hs (Nr K T) hTbV (hr.mono ∅) (pv 1) Lb (ah (dn gz (pv 0) (dQ ae) dR) ag)))))),?_}
  ac_rfl;exists p,_,0,_,rfl,rfl,hp,bA (j:=0) rfl,?_;refine{x,rfl,?_};rcases Of K T x with⟨ev,er⟩ | ⟨f,D,ev,htb,hd⟩
  ·rw[ev]
   left;refine kk _ _ (ax.refl _) ?_;rw[er];rfl
  ·rw[ev]
   exists p,_,0,_,rfl,rfl,hp,bA (j:=0) rfl,?_;refine{T.iK,AV T,x,_,rfl,B.K7,rfl,ev,?_};exists f,_,rfl,htb,?_;exists p,_,rfl,hp,?_;rw[show ke (List.map V.str (x::ws)) (some 1) none=ws.map V.str from(fF _ 1).trans rfl];intros p1 H1 s1 h1;refine{p1,ws,rfl,aH.of h1,(),λy hy=>sh y (by simp[hy]),λv H2 s2 h2=>kk _ _ (s1.trans s2) ((hd _ _ _ _ h2).back s1)}
def l8:dh P w base 1 T.hV (uk K):=by
 nomatch T.hV,["repeats","bar","repeat"]
 let⟨p,rs,b,rfl,⟨vs,hp,il⟩,kk⟩:=h;unfold dC at kk;refine{_,(af (cj yP rfl (bf (pv 0)) (gP 2 qN)
  (ak (aI (PW.pt (dt (ptr fO (bM (pv 2) ae) (pv 1)) (cW (ptr fO (pv 1) (bM (pv 2) ae)))))
   (ak (aq (pv 2)))
   aB)))
  (ak (aq aS))),?_}
 ac_rfl;exists{_,hp},?_;refine fj (K:=K) (a:=p) (xs:=vs) (λi U H'=>H'=H/\(rs.take i).find? (λr=>decide (r.first<=b)&&decide (b<=r.last))=none/\∃v,U=[some (.ref p),some (.int b),v]) {(rfl),rfl,none,rfl} (λi U H' _ h=>by rw[h.1];exact hp) ?_ ?_
 ·intro i x U H' hx hh
  refine dI λN kN0 kR0 _ _=>?_;let⟨rfl,hn,v,rfl⟩:=hh;let⟨r,hr',hi⟩:=cS il hx;let⟨a,e,rfl,ha,he⟩:=dP hi;left
  by_cases c1:r.first<=b
  ·refine bW (zg c1) ?_
   left
   by_cases c2:b<=r.last
   ·refine bW (zg c2) ?_
    left;refine kk _ ?_;rw[Lq hr' hn (by rw[zg c1,zg c2];rfl)];exact hi
   ·refine b9 (ze c2) ?_
    change{DX hr' hn (by rw[ze c2,wK]),_,rfl}
  ·refine b9 (ze c1) ?_
   change{DX hr' hn (by rw[ze c1,yU]),_,rfl}
 ·rintro U H' ⟨rfl,hn,v,rfl⟩
  rw[aP il,zN] at hn;left;refine kk _ ?_;rw[hn];exact dN
def Fe:dh P w base 2 T.sO (EE K):=by
 nomatch T.sO,["repeats","bar","repeat"]
 let⟨p,rs,b,rfl,hp,kk⟩:=h;unfold gK at kk;refine{_,(af (bP 2 qN (bJ (l8 T) hr T.hV (ah (pv 0) (ah (pv 1) ag))))
  (ak (aq (OA (sF (cC (pv 2))) (mT (dE de (pv 1) (bM (pv 2) ae) (gW _))))))),?_}
 ac_rfl;exists p,rs,b,rfl,hp,λv iv=>?_;cases q:dC rs b with
 | none=>
  rw[q] at iv kk;unfold dO Is at iv;subst iv;change kk
 | some r=>
  rw[q] at iv kk;let⟨a,e,rfl,ha,he⟩:=dP iv;left;let e1:decide (V.int b=V.int r.last)=decide (b=r.last):=by simp
  show Q (.bl (decide (V.int b=V.int r.last))) H;rw[e1];exact kk
def qH:dh P w base 2 T.nM (EF K):=by
 nomatch T.nM,["repeats","bar","repeat"]
 let⟨p,rs,b,rfl,hp,kk⟩:=h;unfold dZ at kk;refine{_,(af (bP 2 qN (bJ (l8 T) hr T.hV (ah (pv 0) (ah (pv 1) ag))))
  (ak (aq (OA (sF (cC (pv 2))) (mT (dE de (pv 1) (bM (pv 2) ae) (gW _))))))),?_}
 ac_rfl;exists p,rs,b,rfl,hp,λv iv=>?_;cases q:dC rs b with
 | none=>
  rw[q] at iv kk;unfold dO Is at iv;subst iv;change kk
 | some r=>
  rw[q] at iv kk;let⟨a,e,rfl,ha,he⟩:=dP iv;left;let e1:decide (V.int b=V.int r.first)=decide (b=r.first):=by simp
  show Q (.bl (decide (V.int b=V.int r.first))) H;rw[e1];exact kk
def Pn (us:List V) (h:us≠[]):¬(HT.eV ⇑us 0 (some 1)=0/\HT.eV ⇑us ⇑us none=⇑us):=by
 rintro⟨h1,_⟩;let hp:0<⇑us:=yr.mpr h;let e:HT.eV ⇑us 0 (some ((1:Nat):Int))=min 1 ⇑us:=by unfold HT.eV;simp
 let e':HT.eV ⇑us 0 (some (1:Int))=min 1 ⇑us:=e;rw[e'] at h1;ext
def L5 {K:yB} {H:Hp} {e:vF} {us:List V} {Q:VK} (hu:H e=some (.tup us)) (k:∀q H1,ax H H1->H1 q=some (.tup (us.drop 1))->Q (.ref q) H1):RE K (.ref e) (some 1) none H Q:=by
 by_cases h:us=[]
 ·subst h
  exact .inr {e,[],rfl,cU.of hu,{(rfl),rfl},k e H (ax.refl H) hu}
 ·refine .inl {e,us,rfl,cU.of hu,Pn us h,?_}
  rw[show ke us (some 1) none=us.drop 1 from fF us 1];exact laid k
def A7:dh P w base 1 T.vZ Js:=by
 nomatch T.vZ,["repeat","ends","behind"]
 let⟨v,r,rfl,iv,hl,kk⟩:=h;let sl:=yC;let⟨a,e,rfl,ha,he⟩:=dP iv;unfold Is at he;let⟨e',us,ee,hu,ilu⟩:=he;cases ee;refine{_,(af (bP 1 qN (bM (pv 0) ae))
  (af (bP 2 qN (au fP (oh (ts:=["end"]) (ys:=[]) (js:=[]) (te:=(e9 (o7 K) (aY 0) (tC (.int (0))))) (iW (dn K0 (pv 1) (dQ ae) dR)) (f9 0) bq (bM (pv 0) ae)) (bz (ah (au aT (bM (pv 0) ae) ae) ag))))
  (ak (aq (oh (ts:=["end","after"]) (ys:=[]) (js:=[]) (g:=(CQ K 2 (eK (bO 0) (eK (bO 1) CS)))) (te:=(GC (bR (e9 (o7 K) (aY 0) (tC (.int (0)))) (bR (e9 (rL λi j=>.int (i-j)) (aY 1) (tC (.int (1)))) (bR (e9 (o7 K) (aY 0) (tC (.int (1)))) eC))))) (Oy (by rfl) T.OO (ah (pv 1) (ah (pv 2) ag))) (dz (n:=2) rfl (aK (f9 0) (aK (f9 1) cJ))) bq (bE (ah (bM (pv 0) ae) (ah (au iX (pv 1) ae) (ah (bM (pv 0) ae) ag))))))))),?_}
 ac_rfl;left;let main:∀(q:vF) (H1:Hp),ax H H1->H1 q=some (.tup (us.drop 1))->∀(R:VK),(∀D H2,ax H1 H2->H2 D=some (.lst ((r.ends.drop 1).map λx=>V.int x.1))->R (.ref D) H2)->
   cP [none] (bO 0) rQ (e9 (o7 K) (aY 0) (tC (.int 0))) R (P9 K q) H1:=by
  intro q H1 s1 h1 R hR;let il1:aD H ((r.ends.drop 1).map lH) (us.drop 1):=by
   cases re:r.ends with
   | nil=>
    rw[re] at ilu;unfold aD at ilu;subst ilu;unfold aD;rfl
   | cons x xs=>
    rw[re,zj] at ilu;unfold aD at ilu;let⟨u,ur,rfl,_,h2⟩:=ilu;exact h2
  let⟨ps,f1,f2,f3⟩:=qV il1;let pl:⇑ps<=1000000:=by
   have:⇑ps=⇑(r.ends.drop 1):=by rw[<-f1,za]
   rw[this,xD];ext
  refine gr (enc:=λz:Sc.End×V=>z.2) (ws:=ps) (λz=>.int z.1.1) (λU=>∃v,U=[v]) () (by rw[f2];exact h1) {(none),rfl} ?_ ?_
  ·rintro z U H6 R' hz s6 ⟨_,rfl⟩ r'
   let⟨a6,q6,ev,h6,h7⟩:=pA (f3 z hz);rw[ev];let h66:=s6 _ _ (s1 _ _ h6);change r' _ _ _ (ax.refl _) cE {_,rfl}
  ·intro D vs H6 s6 hD il
   let e5:ps.map (λz=>Dt.int z.1.1)=((r.ends.drop 1).map (·.1)).map Dt.int:=by rw[<-f1,zB,zB];rfl
   rw[e5] at il;rw[dW il,zB] at hD;exact hR D H6 s6 hD
 refine L5 hu λq H1 s1 h1=>{q,rfl,{_,cU.of h1},main q H1 s1 h1 _ λD H2 s2 h2=>?_}
 let ha2:=s2 _ _ (s1 _ _ ha);exists by show 1<=sizeLine;ext,?_
 intros p3 H3 s3 h3;refine{D,p3,_,_,rfl,rfl,aH.of (s3 _ _ h2),aH.of h3,by rw[za,xD];show _+1<=_;ext,?_};intros p4 H4 s4 h4;let s04:=(s1.trans s2).trans (s3.trans s4);let hu4:=s04 _ _ hu;let eb:(List.map (λx=>V.int x.1) (r.ends.drop 1)++[V.int (r.last+1)])=((r.ends.drop 1).map (·.1)++[r.last+1]).map V.int:=by rw[zk,zB];rfl
 rw[eb] at h4;left;let ilu4:=ilu.mono s04;let ul:=aP ilu;refine{true,false,e,p4,us,_,rfl,cU.of hu4,aH.of h4,?_};generalize hbs:(r.ends.drop 1).map (·.1)++[r.last+1]=bs at h4;let zl:⇑(r.ends.zip bs)=min ⇑r.ends ⇑bs:=xC;refine BE (ws:=r.ends.zip bs) (λz x H'=>∃p u,x=.ref p/\H' p=some (.tup [u,.int z.2])/\Is H' (lH z.1) u) (λz=>MW (z.1.1,z.2-1,z.1.2)) (λU=>∃u v,U=[u,v]) () {(none),none,rfl} ?_ ?_ ?_ ?_ ?_
 ·intro i H5 hi s5
  let i1:i<⇑us:=()
  let i2:i<⇑(bs.map V.int):=by rw[za];ext
  exact{us,bs.map V.int,us[i],(bs.map V.int)[i],cU.of (s5 _ _ hu4),aH.of (s5 _ _ h4),zd i1,zd i2}
 ·intro H5 s5
  refine{us,bs.map V.int,cU.of (s5 _ _ hu4),aH.of (s5 _ _ h4),?_};rw[za];rcases Nat.le_total ⇑r.ends ⇑bs with h | h
  ·exact Or.inl ()
  ·right;ext
 ·rintro i x H5 H6 hi s5 ⟨p,u,v,hp,rfl,rfl,hu',hv'⟩
  let i1:i<⇑r.ends:=()
  let i2:i<⇑bs:=()
  let gu:=hu' us (cU.of (s5 _ _ hu4));let gv:=hv' (bs.map V.int) (aH.of (s5 _ _ h4));rw[zK,zd i2] at gv;cases gv;let⟨x0,hx0,ix0⟩:=cS (ilu4.mono s5) gu;rw[zd i1] at hx0;cases hx0;refine{bj hp,p,u,rfl,?_,?_}
  ·rw[aC,List.getElem_zip]
  ·rw[List.getElem_zip];exact ix0.mono (bj hp)
 ·rintro z x U H5 R hz s5 ⟨p,u,rfl,hp,iu⟩ ⟨_,_,rfl⟩ rr
  let⟨a6,q6,rfl,h6,h7⟩:=pA iu;refine{p,_,rfl,cU.of hp,rfl,?_};refine{_,_,rfl,_,_,rfl,rfl,?_};left;refine{mR,laid λp7 H7 s7 h7'=>rr _ _ _ s7 ?_ {_,_,rfl}};exact cw h7' (aO cE (aO cE (m6 (cw (s7 _ _ h7) qW))))
 ·intro D5 vs5 H5 s5 hD5 il5
  refine kk _ _ _ (s04.trans s5) hD5 ?_;let ee:(du r).map MW=(r.ends.zip bs).map λz=>MW (z.1.1,z.2-1,z.1.2):=by
   unfold du;rw[hbs,zB];rfl
  rw[ee];exact il5
def Jo {H:Hp} {e:Int×Int×List Int} {v:V} (h:Is H (MW e) v):∃a q,v=.ref a/\H a=some (.tup [.int e.1,.int e.2.1,.ref q])/\H q=some (.tup (e.2.2.map V.int)):=by
 unfold MW Is at h;let⟨a,vs,rfl,ha,hl⟩:=h;unfold aD at hl;let⟨v1,r1,rfl,h1,hl⟩:=hl;unfold aD at hl;let⟨v2,r2,rfl,h2,hl⟩:=hl;unfold aD at hl;let⟨v3,r3,rfl,h3,hl⟩:=hl;unfold aD at hl;subst hl;unfold Is at h1 h2;subst h1 h2;unfold jf Is at h3;let⟨q,us,rfl,hq,hle⟩:=h3;rw[dW hle] at hq;exact{(a),q,rfl,ha,hq}
noncomputable def Bo (r:Rep) (b:Int) (e:Int×Int×List Int):Bool:=decide (e.1<=b)&&decide (b<=e.2.1)&&!decide (r.times∈e.2.2)
def MF (rs:List Rep) (b:Int):lE rs b=rs.all λr=>(du r).all λe=>!Bo r b e:=rfl
theorem sU:∀ns:List Int,(ns.map V.int).all mj=true
 | []=>rfl
 | n::ns=>by rw[zj,wY,sU ns];rfl
def md:dh P w base 2 T.iA (uq K):=by
 nomatch T.iA,["repeats","bar","repeat","end"]
 let⟨p,rs,b,rfl,⟨vs,hp,il⟩,hl,kk⟩:=h;rw[MF] at kk;refine{_,(af (cj yP rfl (bf (pv 0)) (gP 2 qN)
  (ak (cj yP rfl (bf (bJ (A7 T) hr T.vZ (ah (pv 2) ag))) (gP 3 qN)
   (ak (aI (PW.pt (dt (ptr fO (bM (pv 3) ae) (pv 1)) (dt (ptr fO (pv 1) (bM (pv 3) ae)) (cW (hZ eP (bM (pv 2) ae) (bM (pv 3) ae) (by with_unfolding_all rfl))))))
    (ak (aq ky))
    aB)))))
  (ak (aq ky))),?_}
 ac_rfl;exists{_,hp},?_;refine fj (K:=K) (a:=p) (xs:=vs) (λi U H'=>ax H H'/\(rs.take i).all (λr=>(du r).all λe=>!Bo r b e)=true/\∃v u,U=[some (.ref p),some (.int b),v,u]) {ax.refl H,rfl,none,none,rfl} (λi U H' _ h=>h.1.seq hp) ?_ ?_
 ·intro i x U H' hx hh
  refine dI λN kN0 kR0 _ _=>?_;let⟨s1,hn,v,u,rfl⟩:=hh;let⟨r,hr',hi⟩:=cS il hx;let hm:=zC hr';exists _,r,rfl,hi.mono s1,hl r hm,λD us H2 s2 hD ilD=>?_;refine{D,rfl,{_,aH.of hD},?_};let⟨a,e,rfl,ha,he⟩:=dP (hi.mono (s1.trans s2));refine fj (K:=K) (a:=D) (xs:=us) (λj U H'=>H'=H2/\((du r).take j).all (λe=>!Bo r b e)=true/\∃u,U=[some (.ref p),some (.int b),some (.ref a),u]) {rfl,rfl,_,rfl} (λj U H' _ h=>by rw[h.1];exact aH.of hD) ?_ ?_
  ·intro j y U H3 hy hh
   refine dI λN kN1 kR1 _ _=>?_;let⟨rfl,hnj,u',rfl⟩:=hh;let⟨t,ht,it⟩:=cS ilD hy;let⟨a6,q6,rfl,h6,h7⟩:=Jo it;let good:Bo r b t=false->((du r).take (j+1)).all (λe=>!Bo r b e)=true:=λz=>by
    rw[cg ht,List.all_append,hnj,yW];simp[z]
   left
   by_cases c1:t.1<=b
   ·refine bW (zg c1) ?_
    left
    by_cases c2:b<=t.2.1
    ·refine bW (zg c2) ?_
     exists q6,t.2.2.map V.int,rfl,.inr (cU.of h7),rfl,sU _,?_;show∃k,V.bl (!Gk (.int r.times) (t.2.2.map V.int))=.bl k/\_;rw[qY]
     by_cases c3:r.times∈t.2.2
     ·rw[zg c3]
      change{good (by unfold Bo;rw[zg c3];simp),_,rfl}
     ·rw[ze c3]
      left;let z:=kk H3 (s1.trans s2);let e0:(rs.all λr=>(du r).all λe=>!Bo r b e)=false:=by
       rw[List.all_eq_false];refine{r,hm,?_};have:((du r).all λe=>!Bo r b e)=false:=by
        rw[List.all_eq_false];exact{t,zC ht,by unfold Bo;simp[c1,c2,c3]}
       rw[this];decide
      rw[e0] at z;exact z
    ·refine b9 (ze c2) ?_
     change{good (by unfold Bo;rw[ze c2];simp),_,rfl}
   ·refine b9 (ze c1) ?_
    change{good (by unfold Bo;rw[ze c1];simp),_,rfl}
  ·rintro U H3 ⟨rfl,hnj,u',rfl⟩
   rw[aP ilD,zN] at hnj;left;refine{s1.trans s2,?_,_,_,rfl};rw[cg hr',List.all_append,hn,yW];simp[hnj]
 ·rintro U H' ⟨s1,hn,v,u,rfl⟩
  rw[aP il,zN] at hn;left;let z:=kk H' s1;rw[hn] at z;exact z
inductive EH (K:yB) (vs:List V) (H:Hp) (Q:VK) (E:XK):Prop
 | mk (p:vF) (rs:List Rep) (a c:Int) (_:vs=[.ref p,.int a,.int c]) (_:Dn K H p rs) (_:(∀r∈rs,⇑r.ends<=1000000)) (_:∀H',ax H H'->Q (.bl (decide (a<c)&&dZ rs c&&lE rs c)) H')
inductive EG (K:yB) (vs:List V) (H:Hp) (Q:VK) (E:XK):Prop
 | mk (p:vF) (rs:List Rep) (v:V) (j:Jump) (_:vs=[.ref p,v]) (_:Dn K H p rs) (_:(∀r∈rs,⇑r.ends<=1000000)) (_:Is H (jS j) v) (_:∀H',ax H H'->Q (.bl (gN rs j)) H')
def qS {H:Hp} {j:Jump} {v:V} (h:Is H (jS j) v):∃a,v=.ref a/\H a=some (.tup [.int j.tY,.int j.vW,.int j.cY,ov j.fU]):=by
 unfold jS Is at h;let⟨a,vs,rfl,ha,hl⟩:=h;unfold aD at hl;let⟨v1,r1,rfl,h1,hl⟩:=hl;unfold aD at hl;let⟨v2,r2,rfl,h2,hl⟩:=hl;unfold aD at hl;let⟨v3,r3,rfl,h3,hl⟩:=hl;unfold aD at hl;let⟨v4,r4,rfl,h4,hl⟩:=hl;unfold aD at hl;subst hl;unfold Is at h1 h2 h3;subst h1 h2 h3;refine{a,rfl,?_};cases q:j.fU with
 | none=>rw[q] at h4;unfold dO Is at h4;subst h4;exact ha
 | some n=>rw[q] at h4;unfold dO Is at h4;subst h4;exact ha
def Fg:dh P w base 3 T.tw (EH K):=by
 nomatch T.tw,["repeats","at","coda"]
 let⟨p,rs,a,c,rfl,hp,hl,kk⟩:=h;refine{_,(ak (aq (o9 (dE fe (pv 1) (pv 2) (gW _)) (o9 (bJ (qH T) hr T.nM (ah (pv 0) (ah (pv 2) ag))) (mT (bJ (md T) hr T.iA (ah (pv 0) (ah (pv 2) ag)))))))),?_};ac_rfl;left
 by_cases c1:a<c
 ·rw[zg c1,yW] at kk
  refine bW (zg c1) ?_;exists p,rs,c,rfl,hp,?_;cases q:dZ rs c with
  | true=>
   rw[q,yW] at kk;change{(p),rs,c,rfl,hp,hl,kk}
  | false=>
   rw[q,yU] at kk;change kk _ (ax.refl _)
 ·rw[ze c1,yU,yU] at kk
  refine b9 (ze c1) ?_;change kk _ (ax.refl _)
def Ff:dh P w base 4 T.sT (EG K):=by
 nomatch T.sT,["repeats","jump","at","to","until","coda"]
 let⟨p,rs,v,j,rfl,hp,hl,iv,kk⟩:=h;let⟨a,rfl,ha⟩:=qS iv;unfold gN at kk;refine{_,(af (bP 2 qN (bM (pv 1) ae))
  (af (bP 3 qN (bM (pv 1) ae))
  (af (bP 4 qN (bM (pv 1) ae))
  (af (bP 5 qN (bM (pv 1) ae))
  (af (aI (PW.pt (eF (ptr fe (pv 4) (pv 3)) (dy (ptr fe (pv 2) (pv 4)))))
  (ak (aq ky))
  aB)
  (af (aI (PW.pt (dt (bC (fN (pv 5))) (cW (fu (cR (bJ (Fg T) hr T.tw (ah (pv 0) (ah (pv 2) (ah (pv 5) ag)))))))))
  (ak (aq ky))
  aB)
  (ak (aq (o9 (bJ (Fe T) hr T.sO (ah (pv 0) (ah (pv 2) ag))) (o9 (bJ (qH T) hr T.nM (ah (pv 0) (ah (pv 3) ag))) (mT (bJ (md T) hr T.iA (ah (pv 0) (ah (pv 4) ag)))))))))))))),?_}
 ac_rfl;left
 by_cases c1:j.cY<j.vW
 ·refine bW (zg c1) ?_
  simp only[yO c1] at kk;change kk _ (ax.refl _)
 ·refine b9 (ze c1) ?_
  simp only[yN c1] at kk;left
  by_cases c2:j.tY<j.cY
  ·refine bW (zg c2) ?_
   simp only[yO c2] at kk;change kk _ (ax.refl _)
  ·refine b9 (ze c2) ?_
   simp only[yN c2] at kk;left;cases q:j.fU with
   | none=>
    rw[q] at kk;exists p,rs,_,rfl,hp,?_;cases q1:gK rs j.tY with
    | false=>
     rw[q1] at kk;change kk _ (ax.refl _)
    | true=>
     rw[q1] at kk;exists p,rs,_,rfl,hp,?_;cases q2:dZ rs j.vW with
     | false=>
      rw[q2] at kk;change kk _ (ax.refl _)
     | true=>
      rw[q2] at kk;change{p,rs,_,rfl,hp,hl,kk}
   | some n=>
    rw[q] at kk;exists p,rs,_,_,rfl,hp,hl,λH1 s1=>?_;cases q0:(decide (j.tY<n)&&dZ rs n&&lE rs n) with
    | false=>
     simp only[q0] at kk;change kk _ s1
    | true=>
     simp only[q0,yW] at kk;exists p,rs,_,rfl,hp.mono s1,?_;cases q1:gK rs j.tY with
     | false=>
      rw[q1] at kk;change kk _ s1
     | true=>
      rw[q1] at kk;exists p,rs,_,rfl,hp.mono s1,?_;cases q2:dZ rs j.vW with
      | false=>
       rw[q2] at kk;change kk _ s1
      | true=>
       rw[q2] at kk;change{p,rs,_,rfl,hp.mono s1,hl,λH2 s2=>kk _ (s1.trans s2)}
def DA {l ns:List Int} (h1:ns.Perm l) (h2:ns.Pairwise (·<=·)):ns=sortI l:=by
 unfold sortI;refine List.Perm.eq_of_pairwise (le:=λa b:Int=>a<=b) (λa b _ _ x y=>Int.le_antisymm x y) h2 ?_ (h1.trans (List.mergeSort_perm _ _).symm);have:=List.pairwise_mergeSort (le:=λa b:Int=>decide (a<=b)) (λa b c x y=>by simp at x y ⊢;ext) (λa b=>by simp;ext) l;exact this.imp λh=>by simpa using h
noncomputable def Jp:List Sc.End->Nat
 | []=>0
 | e::r=>⇑e.2+Jp r
def R8 {es:List Sc.End} {e:Sc.End} (h:e∈es):⇑e.2<=Jp es:=by
 induction es with
 | nil=>cases h
 | cons x r ih=>
  rcases zD.mp h with rfl | h
  ·unfold Jp;ext
  ·have:=ih h;unfold Jp;ext
def ND {a b:List Int}:(decide (a.map V.int=b.map V.int))=decide (a=b):=by
 by_cases h:a=b
 ·subst h;simp
 ·rw[ze h,ze]
  intro z;have:∀{a b:List Int},a.map V.int=b.map V.int->a=b:=by
   intro a
   induction a with
   | nil=>intro b z;cases b with | nil=>rfl | cons _ _=>cases z
   | cons x r ih=>intro b z;cases b with | nil=>cases z | cons y s=>simp at z;rw[z.1,ih (by simpa using z.2)]
  exact h (this z)
theorem qC:∀ns:List Int,(ns.map V.int).all QC=true
 | []=>rfl
 | n::ns=>by rw[zj,wY,qC ns];rfl
def Ik {e:Sc.End} {r:List Sc.End} {a:Int} {ps:List Int} (h1:¬e.1<=a) (h2:e.2=sortI e.2):eX (e::r) a ps=eX r e.1 (ps++e.2):=by
 show(if e.1<=a then none else if e.2≠sortI e.2 then none else eX r e.1 (ps++e.2))=_;rw[yN h1,yN (λz=>z h2)]
def Eb {e:Sc.End} {r:List Sc.End} {a:Int} {ps:List Int} (h:e.1<=a\/e.2≠sortI e.2):eX (e::r) a ps=none:=by
 show(if e.1<=a then none else if e.2≠sortI e.2 then none else eX r e.1 (ps++e.2))=_;rcases h with h | h
 ·rw[yO h]
 ·rw[yO h];split <;> rfl
def Q5 {α:Type} {l:List α} {i:Nat} {x:α} (h:l[i]?=some x):l.drop i=x::l.drop (i+1):=by
 let⟨hi,rfl⟩:=zy.mp h;exact List.drop_eq_getElem_cons hi
inductive tN (vs:List V) (H:Hp) (Q:VK) (E:XK):Prop
 | mk (v:V) (r:Rep) (_:vs=[v]) (_:Is H (gO r) v) (_:Jp r.ends<64) (_:-1000000<=r.times) (_:r.times<=1000000) (_:∀H',ax H H'->Q (.bl (dH r)) H')
def HE:dh P w base 1 T.Bk tN:=by
 nomatch T.Bk,["repeat","ends","ahead","passes","end"]
 let⟨v,r,rfl,iv,ht,t0,t1,kk⟩:=h;let sl:=yC;let⟨a,e,rfl,ha,he⟩:=dP iv;unfold Is at he;let⟨e',us,ee,hu,ilu⟩:=he;cases ee;let ul:=aP ilu;refine{_,(af (bP 1 qN (bM (pv 0) ae))
  (af (aI (ptr de (d9 aF T.bB (ah (pv 1) ag)) ae)
  (ak (aq ky))
  aB)
  (af (bP 2 qN (au iX (bM (pv 0) ae) ae))
  (af (bP 3 qN (bz ag))
  (af (cj yP rfl (iW (pv 1)) (gP 4 qN)
  (af (aI (PW.pt (eF (ptr fO (bM (pv 4) ae) (pv 2)) (dy (ptr (E7 hr.units) (mF iB T.lB (ah (bM (pv 4) ae) ag)) (d9 rC T.HP (ah (bM (pv 4) ae) ag))))))
   (ak (aq ky))
   aB)
   (af (bP 2 qN (bM (pv 4) ae))
   (ak (bG (bT yD y9 y8 i9 (pv 3) (ah (bM (pv 4) ae) ag)))))))
  (ak (aq (o9 (dE fO (pv 2) (bM (pv 0) ae) (gW _)) (mT (dE (sG hr.units) (d9 rC T.HP (ah (pv 3) ag)) (qD rfl (by rfl) T.lB (by rfl) T.cK (ah ae (ah (au aT (bM (pv 0) ae) ae) ag))) (gW _))))))))))),?_}
 ac_rfl;exists e,_,rfl,.inr (cU.of hu),?_;rw[ul];left
 by_cases h0:⇑r.ends=0
 ·refine bW (by rw[h0];rfl) ?_
  left;let e0:dH r=true:=by
   unfold dH;rw[yt.mp h0]
  rw[e0] at kk;exact kk _ (ax.refl _)
 ·refine b9 (ze λz=>h0 (by have:=V.int.inj z;ext)) ?_
  let ef:dH r=(match eX r.ends (r.first-1) [] with | none=>false | some (a,ps)=>decide (a<=r.last)&&decide (sortI ps=K5 1 (r.times+1-1).toNat)):=by
   unfold dH;cases q:r.ends with
   | nil=>rw[q] at h0;exact absurd rfl h0
   | cons x xs=>rfl
  rw[ef] at kk;exists by show 0<=sizeLine;ext,?_
  intro pp hn;generalize hG:upd _ pp _=H1;let s1:=ax.i6 hG hn;let h1:=jq hG;clear hG;exists{_,cU.of (s1 _ _ hu)},?_;refine Ln (K:=K) (a:=e) (xs:=us) (λi U H'=>ax H H'/\∃(z:Int) (ps:List Int) (u:Option V),U=[some (.ref a),some (.ref e),some (.int z),some (.ref pp),u]/\H' pp=some (.lst (ps.map V.int))/\⇑ps+Jp (r.ends.drop i)=Jp r.ends/\eX r.ends (r.first-1) []=eX (r.ends.drop i) z ps) {s1,_,[],none,rfl,h1,by simp,rfl} (λi U H' _ h=>cU.of (h.1 _ _ hu)) ?_ ?_
  ·intro i x U H2 hx hh
   refine dI λN kN0 kR0 _ _=>?_;let⟨s2,z,ps,u,rfl,h2,hc,hgo⟩:=hh;let⟨en,hen,ien⟩:=cS ilu hx;let⟨a6,q6,rfl,h6,h7⟩:=pA (ien.mono s2);let hle:=R8 (zC hen);rw[Q5 hen] at hgo hc;rw[show Jp (en::List.drop (i+1) r.ends)=⇑en.2+Jp (List.drop (i+1) r.ends) from rfl] at hc;left
   by_cases c1:en.1<=z
   ·refine bW (zg c1) ?_
    rw[hgo,Eb (.inl c1)] at kk;change kk _ s2
   ·refine b9 (ze c1) ?_
    exists q6,_,rfl,.inr (cU.of h7),?_;intros p8 H8 s8 h8;let h68:=s8 _ _ h6;let h78:=s8 _ _ h7;exists q6,en.2,rfl,.inr (cU.of h78),(),λns np ns'=>?_;intros p9 H9 s9 h9;let h69:=s9 _ _ h68;let h79:=s9 _ _ h78;let h29:=s9 _ _ (s8 _ _ h2);rw[DA np ns'] at h9;refine{p8,p9,_,_,rfl,rfl,.inl {aH.of (s9 _ _ h8),aH.of h9},.inr (.inr {qC _,qC _}),?_};rw[ND]
    by_cases c2:en.2=sortI en.2
    ·rw[zg c2]
     rw[Ik c1 c2] at hgo;exists .inl {rfl,_,aH.of h29},?_;left;refine .inr {pp,q6,_,_,rfl,rfl,h29,h79,by rw[za,za];ext,?_};left;let s29:=(s2.trans s8).trans s9;refine{λb o hb=>?_,en.1,ps++en.2,_,rfl,by rw[aC,zk],by rw[zh];ext,hgo};let ne:b≠pp:=λz=>by rw[z,hn] at hb;cases hb
     rw[aE ne];exact s29 b o hb
    ·rw[ze c2]
     rw[hgo,Eb (.inr c2)] at kk;change kk _ ((s2.trans s8).trans s9)
  ·rintro U H2 ⟨s2,z,ps,u,rfl,h2,hc,hgo⟩
   rw[ul,List.drop_length] at hgo hc;rw[hgo] at kk;let ha2:=s2 _ _ ha;unfold eX at kk;simp only at kk;rw[show Jp []=0 from rfl] at hc;left
   by_cases c1:z<=r.last
   ·rw[zg c1,yW] at kk
    refine bW (zg c1) ?_;exists pp,ps,rfl,.inl (aH.of h2),(),λns np ns'=>?_;intros p9 H9 s9 h9;rw[DA np ns'] at h9;let ha9:=s9 _ _ ha2;exists 1,r.times+1,rfl,{∅,(by decide),(),()},(),?_;intros p10 H10 s10 h10;refine{p9,p10,_,_,rfl,rfl,.inl {aH.of (s10 _ _ h9),aH.of h10},.inr (.inr {qC _,qC _}),?_};rw[ND];exact kk _ ((s2.trans s9).trans s10)
   ·rw[ze c1,yU] at kk
    refine b9 (ze c1) ?_;exact kk _ s2
def LC {xs:List V} {x:V} (h:xs[⇑xs-1]?=some x):Ek xs (-1)=some x:=by
 let hp:0<⇑xs:=by
  have:=(zy.mp h).1;ext
 let ne:xs≠[]:=yr.mp hp;let e:=xY ne;let e2:xs.getLast ne=x:=by
  have:=(zy.mp h).2;rw[List.getLast_eq_getElem];exact this
 rw[<-e,e2];exact L2.BN _ _
inductive Ap (K:yB) (vs:List V) (H:Hp) (Q:VK) (E:XK):Prop
 | mk (p:vF) (rs:List Rep) (v:V) (r:Rep) (_:vs=[.ref p,v]) (_:Dn K H p rs) (_:Is H (gO r) v) (_:Jp r.ends<64) (_:-1000000<=r.times) (_:r.times<=1000000) (_:∀H',ax H H'->Q (.bl (kX rs r)) H')
def A2:dh P w base 2 T.mS (Ap K):=by
 nomatch T.mS,["repeats","repeat"]
 let⟨p,rs,v,r,rfl,⟨vs,hp,il⟩,iv,ht,t0,t1,kk⟩:=h;let⟨a,e,rfl,ha,he⟩:=dP iv;let vl:=aP il;let tail:(∀H',ax H H'->Q (.bl (decide (r.first<=r.last)&&dH r)) H')->(if decide (r.first<=r.last)=true then gG tN [] E0 (bR (aY 1) eC) [some (.ref p),some (.ref a)] H Q else Q (.bl false) H):=by
  intro k
  by_cases c:r.first<=r.last
  ·rw[zg c,yW] at k
   refine bW (zg c) ?_;exact{_,rfl,_,r,rfl,iv,ht,t0,t1,k}
  ·rw[ze c,yU] at k
   refine b9 (ze c) ?_;exact k _ (ax.refl _)
 refine{_,(af (aI (PW.pt (dt (ptr fg (d9 aF T.bB (ah (pv 0) ag)) ae) (cW (ptr fO (bM (pv 1) ae) (bM (fw (pv 0) (oA jW ae)) ae)))))
  (ak (aq ky))
  aB)
  (ak (aq (o9 (dE fO (bM (pv 1) ae) (bM (pv 1) ae) (gW _)) (mT (bJ (HE T) hr T.Bk (ah (pv 1) ag))))))),?_}
 ac_rfl;exists p,_,rfl,.inl hp,?_;rw[vl];left
 by_cases h0:0<⇑rs
 ·refine bW (zg ()) ?_
  let hi:⇑rs-1<⇑vs:=()
  let⟨q,hq,iq⟩:=cS il (zd hi);let⟨b,eb,evb,hb,_⟩:=dP iq;let eg:rs.getLast?=some q:=by rw[wo];exact hq
  unfold kX at kk;rw[eg] at kk;left;refine{p,vs,-1,_,rfl,rfl,hp,LC (by rw[vl];exact zd hi),?_};rw[evb];left
  by_cases c:r.first<=q.last
  ·refine bW (zg c) ?_
   simp only[yO c] at kk;change kk _ (ax.refl _)
  ·refine b9 (ze c) ?_
   simp only[yN c] at kk;change tail kk
 ·refine b9 (ze ()) ?_
  let e0:rs=[]:=yt.mp ();unfold kX at kk;rw[e0] at kk;change tail kk
def En (x:Sc.Nv):Prop:=0<=x.aQ.1/\x.aQ.1<=1000/\0<x.aQ.2/\x.aQ.2<=1000
inductive WA (C:vF) (H:Hp) (a:vF) (o:Ow):Prop
 | mk (ub jm:V) (_:H a=some (.ins C o.dx (Qq o ub jm)))
structure Vx (C:vF) (H:Hp) (a:vF) (S:bU) (o:Ow):Prop where
 obj:WA C H a o
 ba:PZ H kI o.ba S.aL
def Vx.of {C a:vF} {H:Hp} {S:bU} {o:Ow} (h:bY C H a S o):Vx C H a S o:={by let⟨ub,jm,h1,_⟩:=h.obj;exact{(ub),jm,h1},h.ba}
inductive um (C:vF) (vs:List V) (H:Hp) (Q:VK) (E:XK):Prop
 | mk (a:vF) (S:bU) (o:Ow) (b:Nat) (_:vs=[.ref a,.int b]) (_:Vx C H a S o) (_:b<⇑S.aL) (_:(∀x∈S.aL,En x)) (_:∀p H',ax H H'->H' p=some (jy (S.aQ b))->Q (.ref p) H')
def TM {H:Hp} {b:Sc.Nv} {v:V} (h:Is H (kI b) v):∃a m q,v=.ref a/\H a=some (.tup [.ref m,.int b.key,.ref q])/\H m=some (jy b.aQ):=by
 unfold kI Is at h;let⟨a,vs,rfl,ha,hl⟩:=h;unfold aD at hl;let⟨v1,r1,rfl,h1,hl⟩:=hl;unfold aD at hl;let⟨v2,r2,rfl,h2,hl⟩:=hl;unfold aD at hl;let⟨v3,r3,rfl,h3,hl⟩:=hl;unfold aD at hl;subst hl;unfold Is at h2;subst h2;unfold mr Is at h3;let⟨q,us,rfl,hq,hle⟩:=h3;have:=eW (o:=some b.aQ) h1;cases this with
 | ref hm=>exact{a,_,q,rfl,ha,hm}
def ma {C:vF} (F:Cf K C):dh P w base 3 T.ig (um C):=by
 nomatch T.ig,["score","bar","metre"]
 let⟨a,S,o,b,rfl,sc,hb,bZ,kk⟩:=h;let⟨ub,jm,ho⟩:=sc.obj;let⟨vs,hv,il⟩:=sc.ba;let hi:b<⇑vs:=by rw[aP il];exact hb
 let⟨x,hx,ix⟩:=cS il (zd hi);let⟨a1,m,q,ev,h1,hm⟩:=TM ix;let⟨k1,k2,k3,k4⟩:=bZ x (zC hx);unfold bU.aQ at kk;rw[hx] at kk;refine{_,(af (bP 2 qN (bM (fw (bI (pv 0) rfl) (pv 1)) ae))
  (ak (aq (bJ (iY T) hr T.eG (ah (bM (pv 2) ae) (ah (bM (pv 2) ae) ag)))))),?_}
 ac_rfl;exists a,C,o.dx,_,_,rfl,ho,F.cls,F.aL,rfl,?_;left;refine{o.ba,vs,b,_,rfl,rfl,aH.of hv,bA (zd hi),?_};rw[ev];change{_,_,rfl,k1,k3,(cq (n:=10) () ()).mono ∅,λp H' s' h'=>kk p H' s' h'}
inductive Ao (C:vF) (vs:List V) (H:Hp) (Q:VK) (E:XK):Prop
 | mk (a:vF) (S:bU) (o:Ow) (b:Nat) (_:vs=[.ref a,.int b]) (_:bY C H a S o) (_:b<⇑S.aL) (_:(∀x∈S.aL,En x)) (_:∀p H',ax H H'->H' p=some (jy (S.len b))->Q (.ref p) H')
def mV {C:vF} (F:Cf K C):dh P w base 4 T.jA (Ao C):=by
 nomatch T.jA,["score","bar"]
 let⟨a,S,o,b,rfl,sc,hb,bZ,kk⟩:=h;let⟨ub,jm,ho,hub,hjm⟩:=sc.obj;unfold bU.len at kk;refine{_,(af (aI (PW.pt (dt (ptr de (pv 1) ae) (cW (bC (fN (bI (pv 0) rfl))))))
  (ak (aq (bI (pv 0) rfl)))
  aB)
  (ak (aq (bJ (ma T F) hr T.ig (ah (pv 0) (ah (pv 1) ag)))))),?_}
 ac_rfl;left
 by_cases c:b=0
 ·refine bW (by rw[c];rfl) ?_
  exists a,C,o.dx,_,_,rfl,ho,F.cls,F.aG,rfl,?_;cases q:S.aG with
  | none=>
   rw[q] at kk hub;unfold dO Is at hub;subst hub;change{a,S,o,b,rfl,.of sc,hb,bZ,kk}
  | some u=>
   rw[q] at kk hub;cases eW (o:=some u) hub with
   | ref hu=>
    exists a,C,o.dx,_,_,rfl,ho,F.cls,F.aG,rfl,?_;refine kk _ _ (ax.refl _) ?_;simp only[yO c];exact hu
 ·refine b9 (ze λz=>c (by have:=V.int.inj z;ext)) ?_
  left;refine{a,S,o,b,rfl,.of sc,hb,bZ,λp H' s' h'=>kk p H' s' ?_};cases q:S.aG with
  | none=>exact h'
  | some u=>simp only[yN c];exact h'
theorem kD (n:Str):∀ns:List Str,Gk (.str n) (ns.map V.str)=decide (n∈ns)
 | []=>rfl
 | m::ns=>by
  let ih:=kD n ns;unfold Gk at ih ⊢;rw[zj,xu,ih]
  by_cases e:n=m
  ·subst e
   simp[J3]
  ·let e':¬m=n:=λz=>e z.symm
   simp[J3,e,e']
theorem iO:∀ns:List Str,(ns.map V.str).all mj=true
 | []=>rfl
 | n::ns=>by rw[zj,wY,iO ns];rfl
inductive fc (C:vF) (D:Hp->V->bU->Option Str->Prop) (vs:List V) (H:Hp) (Q:VK) (E:XK):Prop
 | mk (a:vF) (S:bU) (o:Ow) (v:V) (f:Option Str) (_:vs=[.ref a,v]) (_:bY C H a S o) (_:D H v S f) (_:∀H',ax H H'->Q (os f) H')
def lX (C:vF):Sp:=fc C λ_ v S f=>∃n,v=.str n/\f=fault S (.bF n)
def uL {C:vF} (F:Cf K C):dh P w base 1 T.ia (lX C):=by
 nomatch T.ia,["score","player"]
 let⟨a,S,o,v,f,rfl,sc,⟨n,rfl,rfl⟩,kk⟩:=h;let⟨ub,jm,ho,hub,hjm⟩:=sc.obj;let k:=kk H (ax.refl H);unfold fault at k;dsimp only at k;refine{_,(af (aI (hZ kA (pv 1) (bI (pv 0) rfl) (by with_unfolding_all rfl))
  (ak (aq aN))
  aB)
  (af (aI (ptr Hv (d9 aF T.bB (ah (bI (pv 0) rfl) ag)) (bX (v:=.int (12)) (by rfl) T.BJ {_,rfl}))
  (ak (aq aN))
  aB)
  (ak (aq aS)))),?_}
 ac_rfl;exists a,C,o.dx,_,_,rfl,ho,F.cls,F.players,rfl,?_;refine{o.pl,_,rfl,.inl (aH.of sc.pl),rfl,iO _,?_};show∃k,V.bl (Gk (.str n) (S.players.map V.str))=.bl k/\_;rw[kD]
 by_cases c1:n∈S.players
 ·rw[zg c1]
  rw[yO c1] at k;change k
 ·rw[ze c1]
  rw[yN c1] at k;exists a,C,o.dx,_,_,rfl,ho,F.cls,F.players,rfl,?_;exists o.pl,_,rfl,.inl (aH.of sc.pl),?_;rw[za];left
  by_cases c2:12<=⇑S.players
  ·refine bW (zg ()) ?_
   rw[yO c2] at k;change k
  ·refine b9 (ze ()) ?_
   rw[yN c2] at k;change k
def pU (C:vF):Sp:=fc C λ_ _ S f=>∃b,f=fault S (.bar b)
def Fh {C:vF} (F:Cf K C):dh P w base 1 T.nX (pU C):=by
 nomatch T.nX,["score","told"]
 let⟨a,S,o,v,f,rfl,sc,⟨b,rfl⟩,kk⟩:=h;let⟨ub,jm,ho,hub,hjm⟩:=sc.obj;let⟨vs,hv,il⟩:=sc.ba;let vl:=aP il;let k:=kk H (ax.refl H);unfold fault at k;dsimp only at k;refine{_,(af (aI (ptr Hv (d9 aF T.bB (ah (bI (pv 0) rfl) ag)) (bX (v:=.int (200)) (by rfl) T.IK {_,rfl}))
  (ak (aq aN))
  aB)
  (ak (aq aS))),?_}
 ac_rfl;exists a,C,o.dx,_,_,rfl,ho,F.cls,F.aL,rfl,?_;exists o.ba,_,rfl,.inl (aH.of hv),?_;rw[vl];left
 by_cases c2:200<=⇑S.aL
 ·refine bW (zg ()) ?_
  rw[yO c2] at k;change k
 ·refine b9 (ze ()) ?_
  rw[yN c2] at k;change k
theorem pQ (n:Str):∀{ks:List Str} {vs:List V},⇑vs=⇑ks->(di ((ks.map kS).zip vs) (kS n)).isSome=decide (n∈ks)
 | [],_,_=>by simp[di]
 | k::ks,[],h=>by simp at h
 | k::ks,v::vs,h=>by
  let ih:=pQ n (ks:=ks) (vs:=vs) (by simpa using h);rw[zj,yX];unfold di at ih ⊢;rw[yT]
  by_cases e:k=n
  ·subst e
   simp
  ·let e1:¬kS k=kS n:=λz=>e (w6 z)
   let e2:¬n=k:=λz=>e z.symm;simp only[e1,decide_false] at ih ⊢;rw[ih];simp[e2]
def g9 (C:vF):Sp:=fc C λH v S f=>∃x,Is H (d7 x) v/\f=fault S (.cI x.1 x.2.1 x.2.2)
def HV {H:Hp} {x:Str×(Int×Int)×(Int×Int)} {v:V} (h:Is H (d7 x) v):∃a t l,v=.ref a/\H a=some (.tup [.str x.1,t,l])/\Is H (dL x.2.1) t/\Is H (dL x.2.2) l:=by
 unfold d7 Is at h;let⟨a,vs,rfl,ha,hl⟩:=h;unfold aD at hl;let⟨v1,r1,rfl,h1,hl⟩:=hl;unfold aD at hl;let⟨v2,r2,rfl,h2,hl⟩:=hl;unfold aD at hl;let⟨v3,r3,rfl,h3,hl⟩:=hl;unfold aD at hl;subst hl;unfold Is at h1;subst h1;exact{(a),v2,v3,rfl,ha,h2,h3}
def oj {C:vF} (F:Cf K C):dh P w base 1 T.eT (g9 C):=by
 nomatch T.eT,["score","told"]
 let⟨a,S,o,v,f,rfl,sc,⟨x,iv,rfl⟩,kk⟩:=h;let⟨ub,jm,ho,hub,hjm⟩:=sc.obj;let⟨vs,hv,il⟩:=sc.ins;let⟨a1,t,l,rfl,h1,_,_⟩:=HV iv;let vl:=aP il;let em:(S.ao.map λx=>kS x.1)=(S.ao.map (·.1)).map kS:=by rw[zB];rfl
 let k:=kk H (ax.refl H);unfold fault at k;dsimp only at k;refine{_,(af (aI (bC (E5 (fC hr) (bM (pv 1) ae) (bI (pv 0) rfl)))
  (ak (aq aN))
  aB)
  (af (aI (ptr Hv (d9 Km T.bB (ah (bI (pv 0) rfl) ag)) (bX (v:=.int (12)) (by rfl) T.pG {_,rfl}))
  (ak (aq aN))
  aB)
  (ak (aq aS)))),?_}
 ac_rfl;exists a,C,o.dx,_,_,rfl,ho,F.cls,F.ao,rfl,?_;refine{o.ins,_,rfl,.inl {_,kS x.1,.inl hv,rfl,rfl},?_};rw[em,pQ x.1 (by rw[za];exact vl)];left
 by_cases c1:x.1∈S.ao.map (·.1)
 ·rw[zg c1]
  rw[yO c1] at k;change k
 ·rw[ze c1]
  rw[yN c1] at k;exists a,C,o.dx,_,_,rfl,ho,F.cls,F.ao,rfl,?_;exists o.ins,_,rfl,hv,?_;rw[xC,za,vl,Nat.min_self];left
  by_cases c2:12<=⇑S.ao
  ·refine bW (zg ()) ?_
   rw[yO c2] at k;change k
  ·refine b9 (ze ()) ?_
   rw[yN c2] at k;change k
inductive GO (K:yB) (C:vF) (vs:List V) (H:Hp) (Q:VK) (E:XK):Prop
 | mk (a p:vF) (S:bU) (o:Ow) (bs:List Int) (_:vs=[.ref a,.ref p]) (_:bY C H a S o) (_:aH K H p (bs.map V.int)) (_:⇑bs<=1000000) (_:∀H',ax H H'->Q (.bl (S.has bs)) H')
def jK {C:vF} (F:Cf K C):dh P w base 1 T.kE (GO K C):=by
 nomatch T.kE,["score","bars"]
 let⟨a,p,S,o,bs,rfl,sc,hp,hl,kk⟩:=h;let sl:=yC;refine{_,(ak (aq (d9 (nV rfl) T.Ld (ah (oh (ts:=["bar"]) (ys:=["score"]) (js:=[0]) (te:=(e9 (rL λi j=>.bl (decide (i<j))) (aY 0) (LW (Wg K) (bR (Qh K (aY 1) "bars") eC)))) (bf (pv 1)) (f9 0) bq (dE fe (pv 0) (d9 aF T.bB (ah (bI (pv 1) rfl) ag)) (gW _))) ag)))),?_};ac_rfl;exists{_,hp},?_;refine fG (enc:=V.int) (ws:=bs) (λz=>.bl (decide (z<(⇑S.aL:Int)))) (λU=>∃v,U=[v,some (.ref a)]) () hp {(none),rfl} ?_ ?_
 ·rintro z U H1 R hz s1 ⟨_,rfl⟩ r
  let sc1:=sc.mono s1;let⟨ub,jm,ho,hub,hjm⟩:=sc1.obj;let⟨vs,hv,il⟩:=sc1.ba;let vl:=aP il;exists a,C,o.dx,_,_,rfl,ho,F.cls,F.aL,rfl,?_;exists o.ba,vs,rfl,.inl (aH.of hv),?_;rw[vl];change r _ _ _ (ax.refl _) (by unfold Is;rfl) {_,rfl}
 ·intro D vs H1 s1 hD il
  let e:bs.map (λz=>Dt.bl (decide (z<(⇑S.aL:Int))))=(bs.map λz=>decide (z<(⇑S.aL:Int))).map Dt.bl:=by rw[zB];rfl
  rw[e] at il;rw[j8 il] at hD;refine{D,_,rfl,aH.of hD,?_};let e2:(bs.map λz=>decide (z<(⇑S.aL:Int))).all id=S.has bs:=by rw[wj];rfl
  rw[e2];exact kk _ s1
inductive uo (K:yB) (vs:List V) (H:Hp) (Q:VK) (E:XK):Prop
 | mk (p:vF) (us:List V) (its:List Item) (_:vs=[.ref p]) (_:aH K H p us) (_:aD H (its.map eL) us) (_:⇑its<=500) (_:(∀it∈its,P8 it.2)) (_:∀r H',ax H H'->H' r=some (jy (jX its))->Q (.ref r) H')
def rR (l:List Item) (it:Item):jX (l++[it])=add (jX l) it.2:=by unfold jX;rw[zY];rfl
def uM:dh P w base 4 T.lD (uo K):=by
 nomatch T.lD,["items","length","item"]
 let⟨p,us,its,rfl,hp,il,hl,bZ,kk⟩:=h;let sl:=yC;let ul:=aP il;refine{_,(af (bP 1 qN (bE (ah ae (ah ae ag))))
  (af (cj yP rfl (bf (pv 0)) (gP 2 qN)
  (ak (bP 1 qN (bJ (HF T) hr T.added (ah (pv 1) (ah (bM (pv 2) ae) ag))))))
  (ak (aq (pv 1))))),?_}
 ac_rfl;exists dm,?_;intros p1 H1 s1 h1;exists{_,s1.seq hp},?_;refine fj (K:=K) (a:=p) (xs:=us) (λi U H'=>ax H H'/\∃q v,U=[some (.ref p),some (.ref q),v]/\H' q=some (jy (jX (its.take i)))/\Lm.Rd (jX (its.take i))/\B6 (15*i+1) (jX (its.take i))) {s1,p1,none,rfl,h1,?_,?_} (λi U H' _ h=>h.1.seq hp) ?_ ?_
 ·exact Lm.Rd.zero
 ·show B6 1 (0,1)
  exact{cq ∅ ∅,cq ∅ ∅}
 ·rintro i x U H2 hx ⟨s2,q,v,rfl,hq,rq,zq⟩
  let⟨it,hit,iit⟩:=cS il hx;let⟨a6,pv,lv,rfl,h6,_,i8⟩:=item_at (iit.mono s2);let hi:i<⇑its:=(zy.mp hit).1;let⟨ok1,Vt,WI,ok4⟩:=bZ it (zC hit);cases eW (o:=some it.2) i8 with
  | ref h8=>
   let zi:B6 14 it.2:={cq () (),cq (by have:=ok1.pos;ext) ()}
   exists _,_,_,_,_,_,rfl,hq,h8,rq,ok1,zq,zi,(),λr H3 s3 h3=>?_;let e:=cg hit;refine{s2.trans s3,r,_,rfl,?_,?_,?_}
   ·rw[e,rR];exact h3
   ·rw[e,rR];exact rq.add ok1
   ·rw[e,rR];exact{(B6.add rq ok1 zq zi).1.mono (),(B6.add rq ok1 zq zi).2.mono ()}
 ·rintro U H2 ⟨s2,q,v,rfl,hq,_,_⟩
  rw[ul,zN] at hq;change kk _ _ s2 hq
def Ge (S:bU):Prop:=∀r∈S.repeats,⇑r.ends<=1000000
def ox (C:vF):Sp:=fc C λH v S f=>∃j,Is H (jS j) v/\Ge S/\f=fault S (.bS j)
def Ie {l:List V} {i:Nat} {x:V} (h:l[i]?=some x):(l.take (i+1)).filter (λv=>!gd v)=(l.take i).filter (λv=>!gd v)++(if gd x=true then [] else [x]):=by
 rw[cg h,yY];cases q:gd x with
 | true=>simp[q]
 | false=>simp[q]
def CK {C:vF} (F:Cf K C):dh P w base 5 T.lC (ox C):=by
 nomatch T.lC,["score","jump"]
 let⟨a,S,o,v,f,rfl,sc,⟨j,iv,tR,rfl⟩,kk⟩:=h;let sl:=yC;let⟨ub,jm,ho,hub,hjm⟩:=sc.obj;let⟨vs,hv,il⟩:=sc.re;let⟨a1,rfl,h1⟩:=qS iv;unfold fault at kk;dsimp only at kk;refine{_,(af (aI (bC (fN (bI (pv 0) rfl)))
  (ak (aq aN))
  aB)
  (af (aI (fu (cR (bJ (jK T F) hr T.kE (ah (pv 0) (ah (oh (ts:=["bar"]) (ys:=[]) (js:=[]) (g:=(bO 0)) (tc:=(tB (NP (aY 0)))) (te:=(aY 0)) (iW (pv 1)) (f9 0) (fM (bC (fN (pv 0)))) (pv 0)) ag)))))
  (ak (aq aN))
  aB)
  (af (aI (fu (cR (bJ (Ff T) hr T.sT (ah (bI (pv 0) rfl) (ah (pv 1) ag)))))
  (ak (aq aN))
  aB)
  (ak (aq aS))))),?_}
 ac_rfl;exists a,C,o.dx,_,_,rfl,ho,F.cls,F.bS,rfl,?_;cases q:S.bS with
 | some j'=>
  rw[q] at hjm kk;let⟨a2,rfl,_⟩:=qS hjm;change kk _ (ax.refl _)
 | none=>
  rw[q] at hjm kk;unfold dO Is at hjm;subst hjm;rw[yN ∅] at kk;exists{_,cU.of h1},?_;generalize hw:[V.int j.tY,V.int j.vW,V.int j.cY,ov j.fU]=ws at h1;let wl:⇑ws=4:=by rw[<-hw];rfl
  refine m8 ⇑ws (λi=>(ws.take i).filter λv=>!gd v) (λi U H'=>H'=H/\∃v,U=[v]) (λi hi=>zM (xj _ _) (by rw[zQ];ext)) () rfl {(rfl),none,rfl} ?_ ?_ ?_ ?_
  ·rintro i U H' hi ⟨rfl,_⟩
   exact Fv (cU.of h1) hi
  ·rintro U H' ⟨rfl,_⟩
   exact{_,cU.of h1,zm _}
  ·rintro i x U H' H2 hi ⟨rfl,v,rfl⟩ ⟨rfl,hy⟩
   let hx:=hy _ (cU.of h1);left
   by_cases e:x=.bH
   ·refine b9 (by rw[zg e];rfl) ?_
    refine Jc.skip hi ?_ {rfl,_,rfl};show List.filter _ (List.take (i+1) ws)=List.filter _ (List.take i ws);rw[Ie hx,yO (show gd x=true from zg e),zV]
   ·refine bW (by rw[ze e];rfl) ?_
    left;refine Jc.push hi ?_ {rfl,_,rfl};show List.filter _ (List.take (i+1) ws)=List.filter _ (List.take i ws)++[x];rw[Ie hx,yN (by unfold gd;rw[ze e];decide)]
  ·rintro U H' ⟨rfl,_⟩
   rw[zN];let ef:(ws.filter λv=>!gd v)=([j.tY,j.vW,j.cY]++j.fU.toList).map V.int:=by
    rw[<-hw];cases j.fU <;> rfl
   rw[ef];intros D H2 s2 h2;refine{a,D,S,o,_,rfl,sc.mono s2,aH.of h2,?_,λH3 s3=>?_}
   ·cases j.fU <;> simp
   ·cases qb:S.has ([j.tY,j.vW,j.cY]++j.fU.toList) with
    | false=>
     rw[qb] at kk;change kk _ (s2.trans s3)
    | true=>
     rw[qb,yN (by simp)] at kk;let s03:=s2.trans s3;let sc3:=sc.mono s03;exists a,C,o.dx,_,_,rfl,s03 _ _ ho,F.cls,F.repeats,rfl,?_;exists o.re,S.repeats,_,j,rfl,{vs,aH.of (s03 _ _ hv),il.mono s03},tR,iv.mono s03,λH4 s4=>?_;cases qj:gN S.repeats j with
     | false=>
      rw[qj] at kk;change kk _ (s03.trans s4)
     | true=>
      rw[qj,yN (by simp)] at kk;change kk _ (s03.trans s4)
def lW (C:vF):Sp:=fc C λH v S f=>∃r:Rep,Is H (gO r) v/\Jp r.ends<64/\⇑r.ends<=1000/\-1000000<=r.times/\r.times<=1000000/\f=fault S (.rep r)
def uK {C:vF} (F:Cf K C):dh P w base 3 T.hX (lW C):=by
 nomatch T.hX,["score","repeat"]
 let⟨a,S,o,v,f,rfl,sc,⟨r,iv,ht,hl,t0,t1,rfl⟩,kk⟩:=h;let sl:=yC;let⟨ub,jm,ho,hub,hjm⟩:=sc.obj;let⟨vs,hv,il⟩:=sc.re;let vl:=aP il;let⟨a1,e,rfl,h1,he⟩:=dP iv;unfold Is at he;let⟨e',us,ee,hu,ilu⟩:=he;cases ee;unfold fault at kk;dsimp only at kk;refine{_,(af (aI (fu (cR (bJ (jK T F) hr T.kE (ah (pv 0) (ah (au fP (bz (ah (bM (pv 1) ae) (ah (bM (pv 1) ae) ag))) (oh (ts:=["end"]) (ys:=[]) (js:=[]) (te:=(e9 (o7 K) (aY 0) (tC (.int (0))))) (iW (bM (pv 1) ae)) (f9 0) bq (bM (pv 0) ae))) ag)))))
  (ak (aq aN))
  aB)
  (af (aI (PW.pt (eF (bC (fN (bI (pv 0) rfl))) (dy (fu (cR (bJ (A2 T) hr T.mS (ah (bI (pv 0) rfl) (ah (pv 1) ag))))))))
  (ak (aq aN))
  aB)
  (af (aI (ptr Hv (d9 aF T.bB (ah (bI (pv 0) rfl) ag)) (bX (v:=.int (20)) (by rfl) T.BI {_,rfl}))
  (ak (aq aN))
  aB)
  (ak (aq aS))))),?_}
 ac_rfl;exists dm,?_;intros p2 H2 s2 h2;let h12:=s2 _ _ h1;exists{_,cU.of (s2 _ _ hu)},?_;let⟨ps,f1,f2,f3⟩:=qV ilu;let pl:⇑ps<=1000:=by
  have:⇑ps=⇑r.ends:=by rw[<-f1,za]
  ext
 refine gr (enc:=λz:Sc.End×V=>z.2) (ws:=ps) (λz=>.int z.1.1) (λU=>∃v,U=[v]) () (by rw[f2];exact s2 _ _ hu) {(none),rfl} ?_ ?_
 ·rintro z U H6 R' hz s6 ⟨_,rfl⟩ r'
  let⟨a6,q6,ev,h6,h7⟩:=pA (f3 z hz);rw[ev];let h66:=s6 _ _ (s2 _ _ h6);change r' _ _ _ (ax.refl _) cE {_,rfl}
 ·intro D vs5 H3 s3 hD il5
  let e5:ps.map (λz=>Dt.int z.1.1)=(r.ends.map (·.1)).map Dt.int:=by rw[<-f1,zB,zB];rfl
  rw[e5] at il5;rw[dW il5] at hD;refine{p2,D,_,_,rfl,rfl,aH.of (s3 _ _ h2),aH.of hD,by rw[za,za];show 2+_<=_;ext,?_};rw[show [V.int r.first,V.int r.last]++List.map V.int (r.ends.map (·.1))=([r.first,r.last]++r.ends.map (·.1)).map V.int from by rw[zk];rfl];intros p4 H4 s4 h4;let s04:=(s2.trans s3).trans s4;refine{a,p4,S,o,_,rfl,sc.mono s04,aH.of h4,by rw[zh,za];show 2+_<=_;ext,λH5 s5=>?_};let s05:=s04.trans s5;cases qb:S.has ([r.first,r.last]++r.ends.map (·.1)) with
  | false=>
   rw[qb] at kk;change kk _ s05
  | true=>
   rw[qb,yN (by simp)] at kk;exists a,C,o.dx,_,_,rfl,s05 _ _ ho,F.cls,F.bS,rfl,?_;cases q:S.bS with
   | some j'=>
    rw[q] at hjm kk;let⟨a2,rfl,_⟩:=qS hjm;change kk _ s05
   | none=>
    rw[q] at hjm kk;unfold dO Is at hjm;subst hjm;rw[yN ∅] at kk;exists a,C,o.dx,_,_,rfl,s05 _ _ ho,F.cls,F.repeats,rfl,?_;exists o.re,S.repeats,_,r,rfl,{vs,aH.of (s05 _ _ hv),il.mono s05},iv.mono s05,ht,t0,t1,λH6 s6=>?_;let s06:=s05.trans s6;cases qj:kX S.repeats r with
    | false=>
     rw[qj] at kk;change kk _ s06
    | true=>
     rw[qj,yN (by simp)] at kk;exists a,C,o.dx,_,_,rfl,s06 _ _ ho,F.cls,F.repeats,rfl,?_;exists o.re,vs,rfl,.inl (aH.of (s06 _ _ hv)),?_;rw[vl];left
     by_cases c2:20<=⇑S.repeats
     ·refine bW (zg ()) ?_
      rw[yO c2] at kk;change kk _ s06
     ·refine b9 (ze ()) ?_
      rw[yN c2] at kk;change kk _ s06
theorem Gx (n:Int×Str):∀{ks:List (Int×Str)} {vs:List V},⇑vs=⇑ks->(di ((ks.map kN).zip vs) (kN n)).isSome=decide (n∈ks)
 | [],_,_=>by simp[di]
 | k::ks,[],h=>by simp at h
 | k::ks,v::vs,h=>by
  let ih:=Gx n (ks:=ks) (vs:=vs) (by simpa using h);rw[zj,yX];unfold di at ih ⊢;rw[yT]
  by_cases e:k=n
  ·subst e
   simp
  ·let e1:¬kN k=kN n:=λz=>e (by
    unfold kN at z;simp at z;exact Prod.ext z.1 z.2)
   let e2:¬n=k:=λz=>e z.symm;simp only[e1,decide_false] at ih ⊢;rw[ih];simp[e2]
theorem nP {α:Type} {d:α->Dt} {H:Hp}:∀{ls:List (List α)} {as:List vF},cb H d ls as->⇑as=⇑ls
 | [],_,h=>by unfold cb at h;rw[h];rfl
 | l::r,_,⟨a,t,vs,e,_,_,h3⟩=>by rw[e,zv,zv,nP h3]
def QJ {x y:Int×Int}:decide ([V.int x.1,V.int x.2]=[V.int y.1,V.int y.2])=decide (x=y):=by
 by_cases h:x=y
 ·subst h;simp
 ·rw[ze h,ze]
  intro z;simp at z;exact h (Prod.ext z.1 z.2)
def mQ (C:vF):Sp:=fc C λH v S f=>∃x:Int×Str×List Item,LH H v x/\0<=x.1/\⇑x.2.2<=500/\(∀it∈x.2.2,P8 it.2)/\(∀b∈S.aL,En b)/\f=fault S (.aJ x.1 x.2.1 x.2.2)
def A6 {C:vF} (F:Cf K C):dh P w base 5 T.jL (mQ C):=by
 nomatch T.jL,["score","told","bar","player","items"]
 let⟨a,S,o,v,f,rfl,sc,⟨⟨b,pn,its⟩,⟨a1,q,us,rfl,h1,hq,ilq⟩,b0,il5,iok,vJ,rfl⟩,kk⟩:=h;let sl:=yC;let⟨ub,jm,ho,hub,hjm⟩:=sc.obj;let nl:⇑(o.ns.map V.ref)=⇑(S.aJ.map (·.1)):=by rw[za,za,nP sc.no.2,za]
 let em:(S.aJ.map λx=>kN x.1)=(S.aJ.map (·.1)).map kN:=by rw[zB];rfl
 unfold fault at kk;dsimp only at kk h1 b0 il5 iok ilq;refine{_,(af (bP 2 qN (bM (pv 1) ae))
  (af (bP 3 qN (bM (pv 1) ae))
  (af (bP 4 qN (bM (pv 1) ae))
  (af (aI (bC (E5 (fC hr) (bE (ah (pv 2) (ah (pv 3) ag))) (bI (pv 0) rfl)))
  (ak (aq aN))
  aB)
  (af (aI (hZ eP (pv 3) (bI (pv 0) rfl) (by with_unfolding_all rfl))
  (ak (aq aN))
  aB)
  (af (aI (fu (cR (bJ (jK T F) hr T.kE (ah (pv 0) (ah (bz (ah (pv 2) ag)) ag)))))
  (ak (aq aN))
  aB)
  (af (aI (ptr (E7 hr.units) (bJ (uM T) hr T.lD (ah (pv 4) ag)) (bJ (mV T F) hr T.jA (ah (pv 0) (ah (pv 2) ag))))
  (ak (aq aN))
  aB)
  (af (aI (ptr fg (d9 aF T.bB (ah (pv 4) ag)) (bX (v:=.int (40)) (by rfl) T.FV {_,rfl}))
  (ak (aq aN))
  aB)
  (ak (aq aS)))))))))),?_}
 ac_rfl;exists dm,?_;intros p2 H2 s2 h2;let h12:=s2 _ _ h1;exists a,C,o.dx,_,_,rfl,s2 _ _ ho,F.cls,F.aJ,rfl,?_;refine{o.no,_,rfl,.inr {_,kN (b,pn),p2,.inl (s2 _ _ sc.no.1),rfl,h2,rfl},?_};rw[em,Gx (b,pn) nl];left
 by_cases c1:(b,pn)∈S.aJ.map (·.1)
 ·rw[zg c1]
  rw[yO c1] at kk;change kk _ s2
 ·rw[ze c1]
  rw[yN c1] at kk;exists a,C,o.dx,_,_,rfl,s2 _ _ ho,F.cls,F.players,rfl,?_;refine{o.pl,_,rfl,.inl (aH.of (s2 _ _ sc.pl)),rfl,iO _,?_};show∃k,V.bl (!Gk (.str pn) (S.players.map V.str))=.bl k/\_;rw[kD]
  by_cases c2:pn∈S.players
  ·rw[zg c2]
   rw[yN (λz=>z c2)] at kk;exists by show 1<=sizeLine;ext,?_
   intros p3 H3 s3 h3;refine{a,p3,S,o,[b],rfl,sc.mono (s2.trans s3),aH.of h3,(by show 1<=1000000;decide),λH4 s4=>?_};let s04:=(s2.trans s3).trans s4;cases qb:S.has [b] with
   | false=>
    rw[qb] at kk;change kk _ s04
   | true=>
    rw[qb,yN (by simp)] at kk;let hb:b<⇑S.aL:=by
     unfold bU.has at qb
     simpa using qb
    let⟨n,rfl⟩:=yL b0;exists q,us,its,rfl,aH.of (s04 _ _ hq),ilq.mono s04,il5,iok,λr5 H5 s5 h5=>?_;exists a,S,o,n,rfl,sc.mono (s04.trans s5),(),vJ,λr6 H6 s6 h6=>?_;let s06:=(s04.trans s5).trans s6;refine{r5,r6,_,_,rfl,rfl,.inr {cU.of (s6 _ _ h5),cU.of h6},.inr (.inr {(rfl),rfl}),?_};rw[QJ]
    by_cases c3:jX its=S.len n
    ·rw[zg c3]
     rw[yN (λz=>z c3)] at kk;exists q,us,rfl,.inl (aH.of (s06 _ _ hq)),?_;rw[aP ilq];left
     by_cases c4:40<⇑its
     ·refine bW (zg ()) ?_
      rw[yO c4] at kk;change kk _ s06
     ·refine b9 (ze ()) ?_
      rw[yN c4] at kk;change kk _ s06
    ·rw[ze c3]
     rw[yO (show jX its≠S.len ((n:Int)).toNat from c3)] at kk;change kk _ s06
  ·rw[ze c2]
   rw[yO c2] at kk;change kk _ s2
def both {c:Bool} {T:(Bool->Hp->Prop)->Prop} {Z:Bool->Hp->Prop} {H:Hp} (v:Bool) (h1:c=true->∀Z,Z v H->T Z) (h2:c=false->v=false) (hz:Z v H):if c=true then T Z else Z false H:=by
 cases c with
 | true=>rw[yO rfl];exact h1 rfl Z hz
 | false=>rw[yN (by simp)];rw[<-h2 rfl];exact hz
theorem DT {H:Hp} {α:Type} {d:α->Dt} (p:Str):∀{hs:List (Str×List α)} {as:List vF},cb H d (hs.map (·.2)) as->
  (hs.lookup p=none/\di ((hs.map λx=>kS x.1).zip (as.map V.ref)) (kS p)=none)\/∃l h vs,hs.lookup p=some l/\di ((hs.map λx=>kS x.1).zip (as.map V.ref)) (kS p)=some (.ref h)/\H h=some (.lst vs)/\aD H (l.map d) vs
 | [],_,h=>.inl {rfl,by simp[di]}
 | (x,l)::r,as,h=>by
  rw[zj] at h;unfold cb at h;let⟨a,t,vs,rfl,h1,h2,h3⟩:=h;rw[zj,zj,yX]
  by_cases e:x=p
  ·subst e
   refine .inr {l,a,vs,by rw[yq,wk],?_,h1,h2};unfold di;rw[yT];simp
  ·let e1:¬kS x=kS p:=λz=>e (w6 z)
   let e2:(p == x)=false:=by simp;exact λz=>e z.symm
   let ih:=DT p h3;unfold di at ih ⊢;rw[yT,yq,e2];simp only[e1,decide_false];exact ih
def UU {H:Hp} {x:Int×Str} {v:V} (h:Is H (Lx x) v):∃a,v=.ref a/\H a=some (.tup [.int x.1,.str x.2]):=by
 unfold Lx Is at h;let⟨a,vs,rfl,ha,hl⟩:=h;unfold aD at hl;let⟨v1,r1,rfl,h1,hl⟩:=hl;unfold aD at hl;let⟨v2,r2,rfl,h2,hl⟩:=hl;unfold aD at hl;subst hl;unfold Is at h1 h2;subst h1 h2;exact{(a),rfl,ha}
def Ll {H:Hp} {x:Str×Int×Str} {v:V} (h:Is H (uf x) v):∃a,v=.ref a/\H a=some (.tup [.str x.1,.int x.2.1,.str x.2.2]):=by
 unfold uf Is at h;let⟨a,vs,rfl,ha,hl⟩:=h;unfold aD at hl;let⟨v1,r1,rfl,h1,hl⟩:=hl;unfold aD at hl;let⟨v2,r2,rfl,h2,hl⟩:=hl;unfold aD at hl;let⟨v3,r3,rfl,h3,hl⟩:=hl;unfold aD at hl;subst hl;unfold Is at h1 h2 h3;subst h1 h2 h3;exact{(a),rfl,ha}
def oy (C:vF):Sp:=fc C λH v S f=>∃x:Str×Int×Str,Is H (uf x) v/\f=fault S (.holds x.1 x.2.1 x.2.2)
def CL {C:vF} (F:Cf K C):dh P w base 3 T.lF (oy C):=by
 nomatch T.lF,["score","told","bar","holds"]
 let⟨a,S,o,v,f,rfl,sc,⟨⟨pn,b,iN⟩,hd,rfl⟩,kk⟩:=h;let⟨a1,rfl,h1⟩:=Ll hd;let sl:=yC;let⟨ub,jm,ho,hub,hjm⟩:=sc.obj;unfold fault at kk;dsimp only at kk h1;refine{_,(af (bP 2 qN (bM (pv 1) ae))
  (af (bP 3 qN (AY (fC hr) (bI (pv 0) rfl) (bM (pv 1) ae) (bz ag) {(rfl),rfl,rfl,rfl}))
  (af (aI (PW.pt (dt (ptr fg (d9 aF T.bB (ah (pv 3) ag)) ae) (cW (ptr fO (pv 2) (bM (fw (pv 3) (oA jW ae)) ae)))))
  (ak (aq aN))
  aB)
  (af (aI (PW.pt (eF (hZ eP (bM (pv 1) ae) (bI (pv 0) rfl) (by with_unfolding_all rfl)) (dy (bC (DG (fC hr) (bM (pv 1) ae) (bI (pv 0) rfl))))))
  (ak (aq aN))
  aB)
  (af (aI (fu (cR (bJ (jK T F) hr T.kE (ah (pv 0) (ah (bz (ah (pv 2) ag)) ag)))))
  (ak (aq aN))
  aB)
  (af (aI (ptr Hv (d9 aF T.bB (ah (pv 3) ag)) (bX (v:=.int (20)) (by rfl) T.FW {_,rfl}))
  (ak (aq aN))
  aB)
  (ak (aq aS)))))))),?_}
 ac_rfl;exists a,C,o.dx,_,_,rfl,ho,F.cls,F.holds,rfl,?_;refine{o.ho,rfl,.inl {_,.inl sc.ho.1},?_};exists by show 0<=sizeLine;ext,?_
 intros p2 H2 s2 h2;let h12:=s2 _ _ h1;refine{_,.inl {_,kS pn,.inl (s2 _ _ sc.ho.1),rfl,rfl},?_};obtain⟨h,vs,l,eh,hh,ilh,el⟩:∃h vs l,(di ((S.holds.map λx=>kS x.1).zip (o.hs.map V.ref)) (kS pn)).getD (.ref p2)=.ref h/\H2 h=some (.lst vs)/\aD H2 (l.map Lx) vs/\(S.holds.lookup pn).getD []=l:=by
  rcases DT (H:=H) pn sc.ho.2 with⟨e1,e2⟩ | ⟨l,h,vs,e1,e2,hh,il⟩
  ·exact{p2,[],[],by rw[e2];rfl,h2,by unfold aD;rfl,by rw[e1];rfl}
  ·exact{h,vs,l,by rw[e2];rfl,s2 _ _ hh,il.mono s2,by rw[e1];rfl}
 rw[el] at kk;rw[eh];exists h,vs,rfl,.inl (aH.of hh),?_;rw[aP ilh];left;obtain⟨c1,ec,kk⟩:∃c1:Bool,c1=(match l.getLast? with | some q=>decide (b<=q.1) | none=>false)/\∀H',ax H H'->Q (Sc.os (if c1=true then some "twice" else if pn∉S.players then some "name" else if iN∉S.ao.map (·.1) then some "name" else if¬S.has [b]=true then some "bar" else if 20<=⇑l then some "many" else none)) H':=by
  refine{_,rfl,?_};cases q:l.getLast? with
  | none=>rw[q] at kk;exact kk
  | some x=>rw[q] at kk;exact kk
 refine both c1 ?_ ?_ ?_
 ·intro c Z hz
  let lp:0<⇑l:=by have:=ye c;ext
  let vl:=aP ilh;let⟨x,hx,ix⟩:=cS ilh (i:=⇑vs-1) (zd ());let⟨a3,ea,h3⟩:=UU ix;let eg:l.getLast?=some x:=by rw[wo,<-vl];exact hx
  rw[ec,eg] at hz;left;refine{h,vs,-1,_,rfl,rfl,aH.of hh,LC (zd ()),?_};rw[ea];change hz
 ·intro c
  have:l=[]:=yt.mp (by have:=of_decide_eq_false c;ext);rw[ec,this];rfl
 ·clear ec
  cases c1 with
  | true=>
   change kk _ s2
  | false=>
   rw[yN (by simp)] at kk;exists a,C,o.dx,_,_,rfl,s2 _ _ ho,F.cls,F.players,rfl,?_;refine{o.pl,_,rfl,.inl (aH.of (s2 _ _ sc.pl)),rfl,iO _,?_};show∃k,V.bl (!Gk (.str pn) (S.players.map V.str))=.bl k/\_;rw[kD]
   by_cases c2:pn∈S.players
   ·rw[zg c2]
    rw[yN (λz=>z c2)] at kk;let⟨us,hu,ilu⟩:=sc.ins;let em:(S.ao.map λx=>kS x.1)=(S.ao.map (·.1)).map kS:=by rw[zB];rfl
    exists a,C,o.dx,_,_,rfl,s2 _ _ ho,F.cls,F.ao,rfl,?_;refine{o.ins,_,rfl,.inl {_,kS iN,.inl (s2 _ _ hu),rfl,rfl},?_};rw[em,pQ iN (by rw[za];exact aP ilu)]
    by_cases c3:iN∈S.ao.map (·.1)
    ·rw[zg c3]
     rw[yN (λz=>z c3)] at kk;exists by show 1<=sizeLine;ext,?_
     intros p3 H3 s3 h3;refine{a,p3,S,o,[b],rfl,sc.mono (s2.trans s3),aH.of h3,(by show 1<=1000000;decide),λH4 s4=>?_};let s04:=(s2.trans s3).trans s4;cases qb:S.has [b] with
     | false=>
      rw[qb] at kk;change kk _ s04
     | true=>
      rw[qb,yN (by simp)] at kk;exists h,vs,rfl,.inl (aH.of ((s3.trans s4) _ _ hh)),?_;rw[aP ilh];left
      by_cases c4:20<=⇑l
      ·refine bW (zg ()) ?_
       rw[yO c4] at kk;change kk _ s04
      ·refine b9 (ze ()) ?_
       rw[yN c4] at kk;change kk _ s04
    ·rw[ze c3]
     rw[yO c3] at kk;change kk _ s2
   ·rw[ze c2]
    rw[yO c2] at kk;change kk _ s2
def GI {H:Hp} {x:Str×List Str} {v:V} (h:Is H (gq x) v):∃a q,v=.ref a/\H a=some (.tup [.str x.1,.ref q])/\H q=some (.tup (x.2.map V.str)):=by
 unfold gq Is at h;let⟨a,vs,rfl,ha,hl⟩:=h;unfold aD at hl;let⟨v1,r1,rfl,h1,hl⟩:=hl;unfold aD at hl;let⟨v2,r2,rfl,h2,hl⟩:=hl;unfold aD at hl;subst hl;unfold Is at h1;subst h1;unfold mr Is at h2;let⟨q,us,rfl,hq,hl⟩:=h2;rw[dG hl] at hq;exact{(a),q,rfl,ha,hq}
def SH {H:Hp} {x:Str×List Str} {v:V} (h:Is H (Ra x) v):∃q,v=.ref q/\H q=some (.tup (x.2.map V.str)):=by
 unfold Ra mr Is at h;let⟨q,us,rfl,hq,hl⟩:=h;rw[dG hl] at hq;exact{(q),rfl,hq}
inductive GK (C:vF) (vs:List V) (H:Hp) (Q:VK) (E:XK):Prop
 | mk (a:vF) (S:bU) (o:Ow) (v ub jm:V) (x:Str×List Str) (ob:Obj) (us:List V) (_:vs=[.ref a,v]) (_:H a=some (.ins C o.dx (Qq o ub jm))) (_:H o.pl=some (.lst (S.players.map V.str))) (_:KG H o.st ob ((S.aM.map λx=>kS x.1).zip us)) (_:aD H (S.aM.map Ra) us) (_:Is H (gq x) v) (_:⇑x.2<=1000) (_:∀H',ax H H'->Q (os (fault S (.cu x.1 x.2))) H')
theorem Jf {α β:Type}:∀{l:List α} {m:List β} {i:Nat} {p:α×β},(l.zip m)[i]?=some p->l[i]?=some p.1/\m[i]?=some p.2
 | [],_,_,_,h=>by simp at h
 | _::_,[],_,_,h=>by simp at h
 | _::_,_::_,0,_,h=>by simp at h;subst h;exact{(rfl),rfl}
 | _::l,_::m,i+1,_,h=>by
  rw[yX] at h
  simpa using Jf (l:=l) (m:=m) (i:=i) (by simpa using h)
def PL {α:Type} {p:α->Bool} {l:List α} {i:Nat} {x:α} (h:l[i]?=some x) (hn:(l.take i).any p=false) (hx:p x=false):(l.take (i+1)).any p=false:=by
 rw[cg h,List.any_append,hn];simp[hx]
def PM {α:Type} {p:α->Bool} {l:List α} {i:Nat} {x:α} (h:l[i]?=some x) (hx:p x=true):l.any p=true:=yo.mpr {x,zC h,hx}
def Hy {C:vF} (F:Cf K C):dh P w base 1 T.gH (GK C):=by
 nomatch T.gH,["score","told","players","others"]
 let⟨a,S,o,v,ub,jm,x,ob,us,rfl,ho,hpl,fz,ilu,iv,x5,kk⟩:=h;let⟨a1,q,rfl,h1,hq⟩:=GI iv;let sl:=yC;let ul:=aP ilu;let em:(S.aM.map λx=>kS x.1)=(S.aM.map (·.1)).map kS:=by rw[zB];rfl
 unfold fault at kk;dsimp only at kk;refine{_,(af (bP 2 qN (bM (pv 1) ae))
  (af (aI (PW.pt (eF (bC (E5 (fC hr) (bM (pv 1) ae) (bI (pv 0) rfl))) (dy (ptr fe (d9 M3 T.bB (ah (mF (MZ rfl) T.UI (ah (pv 2) ag)) ag)) (d9 aF T.bB (ah (pv 2) ag))))))
  (ak (aq aN))
  aB)
  (af (cj yP rfl (Ml (bI (pv 0) rfl)) (gP 3 qN)
  (ak (aI (cR (d9 (gw rfl) T.A8 (ah (oh (ts:=["player"]) (ys:=["others"]) (js:=[3]) (te:=(e9 (T6 K false) (aY 0) (aY 1))) (iW (pv 2)) (f9 0) bq (dE kA (pv 0) (pv 1) (by with_unfolding_all rfl))) ag)))
   (ak (aq aN))
   aB)))
  (af (aI (cR (d9 (gw rfl) T.A8 (ah (oh (ts:=["player"]) (ys:=["score"]) (js:=[0]) (te:=(e9 (T6 K true) (aY 0) (Qh K (aY 1) "players"))) (iW (pv 2)) (f9 0) bq (dE eP (pv 0) (bI (pv 1) rfl) (by with_unfolding_all rfl))) ag)))
  (ak (aq aN))
  aB)
  (ak (aq aS)))))),?_}
 ac_rfl;exists a,C,o.dx,_,_,rfl,ho,F.cls,F.aM,rfl,?_;refine{o.st,_,rfl,.inl {_,kS x.1,.inr {_,fz},rfl,rfl},?_};rw[em,pQ x.1 (by rw[za];exact ul)]
 by_cases c1:x.1∈S.aM.map (·.1)
 ·rw[zg c1]
  rw[yO c1] at kk;change kk _ (ax.refl _)
 ·rw[ze c1]
  rw[yN c1] at kk;exists q,x.2,rfl,cU.of hq,x5,λp2 n2=>?_;let s2:ax H (upd H p2 (I0 p2 ⇑(gj x.2))):=bj n2;let h2:upd H p2 (I0 p2 ⇑(gj x.2)) p2=some (I0 p2 ⇑(gj x.2)):=aC;generalize upd H p2 (I0 p2 ⇑(gj x.2))=H2 at s2 h2 ⊢;let⟨d1,d2⟩:=Ip x.2;refine{p2,_,rfl,h2,(),?_};exists q,_,rfl,.inr (cU.of (s2 _ _ hq)),?_;rw[za];left
  by_cases c2:x.2.Nodup
  ·refine b9 (ze (by have:=d2.mpr c2;ext)) ?_
   rw[yN (λz=>z c2)] at kk;exists a,C,o.dx,_,_,rfl,s2 _ _ ho,F.cls,F.aM,rfl,?_;refine{o.st,ob,_,rfl,s2 _ _ fz,?_};refine J1 (λi U H'=>ax H H'/\(S.aM.take i).any (λq=>x.2.any λp=>decide (p∈q.2))=false/\∃u,U=[some (.ref a),some (.ref a1),some (.ref q),u]) {(s2),rfl,none,rfl} (λi U H' _ h=>h.1 _ _ fz) ?_ ?_
   ·intro i p U H3 hp hh
    refine dI λN kN0 kR0 _ _=>?_;let⟨s3,hn,u,rfl⟩:=hh;let⟨_,hp2⟩:=Jf hp;let⟨st,hst,ist⟩:=cS ilu hp2;let⟨r,er,hr'⟩:=SH ist;rw[er];exists{_,cU.of (s3 _ _ hq)},?_;refine gr (enc:=V.str) (ws:=x.2) (λz=>.bl (decide (z∈st.2))) (λU=>∃v,U=[v,some (.ref r)]) () (s3 _ _ hq) {(none),rfl} ?_ ?_
    ·rintro z U H4 R hz s4 ⟨_,rfl⟩ rr
     exists r,_,rfl,.inr (cU.of ((s3.trans s4) _ _ hr')),rfl,iO _,?_;refine rr _ _ _ (ax.refl _) ?_ {_,rfl};rw[yN (by simp),kD];unfold Is;rfl
    ·intro D vs H4 s4 hD il
     let e:x.2.map (λz=>Dt.bl (decide (z∈st.2)))=(x.2.map λz=>decide (z∈st.2)).map Dt.bl:=by rw[zB];rfl
     rw[e] at il;rw[j8 il] at hD;refine{D,_,rfl,aH.of hD,?_};let e2:(x.2.map λz=>decide (z∈st.2)).any id=x.2.any λp=>decide (p∈st.2):=by rw[wH];rfl
     rw[e2];cases qc:x.2.any λp=>decide (p∈st.2) with
     | true=>
      rw[yO (PM hst (p:=λq:Str×List Str=>x.2.any λp=>decide (p∈q.2)) qc)] at kk;change kk _ (s3.trans s4)
     | false=>
      change{s3.trans s4,PL hst hn qc,_,rfl}
   ·rintro U H3 ⟨s3,hn,u,rfl⟩
    rw[xC,za,ul,Nat.min_self,zN] at hn;rw[hn,yN (by simp)] at kk;exists{_,cU.of (s3 _ _ hq)},?_;refine gr (enc:=V.str) (ws:=x.2) (λz=>.bl (!decide (z∈S.players))) (λU=>∃v,U=[v,some (.ref a)]) () (s3 _ _ hq) {(none),rfl} ?_ ?_
    ·rintro z U H4 R hz s4 ⟨_,rfl⟩ rr
     exists a,C,o.dx,_,_,rfl,(s3.trans s4) _ _ ho,F.cls,F.players,rfl,?_;refine{o.pl,_,rfl,.inl (aH.of ((s3.trans s4) _ _ hpl)),rfl,iO _,?_};refine rr _ _ _ (ax.refl _) ?_ {_,rfl};show Is H4 _ (V.bl (!Gk (.str z) (S.players.map V.str)));rw[kD];unfold Is;rfl
    ·intro D vs H4 s4 hD il
     let e:x.2.map (λz=>Dt.bl (!decide (z∈S.players)))=(x.2.map λz=>!decide (z∈S.players)).map Dt.bl:=by rw[zB];rfl
     rw[e] at il;rw[j8 il] at hD;refine{D,_,rfl,aH.of hD,?_};let e2:(x.2.map λz=>!decide (z∈S.players)).any id=x.2.any λp=>!decide (p∈S.players):=by rw[wH];rfl
     rw[e2];cases qc:x.2.any λp=>!decide (p∈S.players) with
     | true=>
      rw[qc,yO rfl] at kk;change kk _ (s3.trans s4)
     | false=>
      rw[qc,yN (by simp)] at kk;change kk _ (s3.trans s4)
  ·refine bW (zg (by have:⇑(gj x.2)≠⇑x.2:=λz=>c2 (d2.mp z);ext)) ?_
   rw[yO c2] at kk;change kk _ s2
def mP (C:vF):Sp:=fc C λH v S f=>∃x,Is H (gq x) v/\⇑x.2<=1000/\f=fault S (.cu x.1 x.2)
def Pa {H:Hp} {d:vF} {o:Obj} {u:HO} (hd:H d=some u) (nt:cA (some u)) {l:List Dt} {vs:List V} (h:aD H l vs):aD (upd H d (.mG o u)) l vs:=aD.upd (by rw[hd];exact nt) h
def GS {H H':Hp} {d:vF} {o:Obj} {u:HO} (hd:H d=some u) (s:ax (upd H d (.mG o u)) H'):ax H (upd H' d u):=λb z hb=>by
 by_cases e:b=d
 ·subst e;rw[aC,<-hd,hb]
 ·rw[aE e];exact s b z (by rw[aE e];exact hb)
def A1 {C:vF} (F:Cf K C):dh P w base 1 T.gH (mP C):=by
 refine(Hy (P:=P) (w:=w) (base:=base) T F).RA (λvs H Q E h=>?_) (λvs H Q E h=>?_)
 ·let⟨_,_,_,_,_,rfl,_⟩:=h;rfl
 ·let⟨a,S,o,v,f,rfl,sc,⟨x,iv,x5,rfl⟩,kk⟩:=h
  let⟨us,hu,ilu⟩:=sc.st;let⟨ub,jm,ho,hub,hjm⟩:=sc.obj;let nt:cA (some (HO.dK ((S.aM.map λx=>kS x.1).zip us))):=λvs z=>by cases z
  let na:a≠o.st:=λz=>by rw[z,hu] at ho;cases ho
  let np:o.pl≠o.st:=λz=>by have:=sc.pl;rw[z,hu] at this;cases this
  refine{o.st,_,hu,rfl,λob=>{a,S,o,v,ub,jm,x,ob,us,rfl,by rw[aE na];exact ho,by rw[aE np];exact sc.pl,aC,Pa hu nt ilu,Is.upd (by rw[hu];exact nt) iv,x5,λH' s'=>kk _ (GS hu s')}}
def RX (S:bU):Prop:=∀b∈S.aL,En b
inductive EB (C:vF) (vs:List V) (H:Hp) (Q:VK) (E:XK):Prop
 | mk (a:vF) (S:bU) (o:Ow) (v ub jm:V) (x:Int×Int) (ob:Obj) (us:List V) (_:vs=[.ref a,v]) (_:H a=some (.ins C o.dx (Qq o ub jm))) (_:Is H (dO dL S.aG) ub) (_:Vx C H a S o) (_:H o.no=some (.mG ob (.dT ((S.aJ.map λx=>kN x.1).zip us)))) (_:⇑us=⇑S.aJ) (_:⇑S.aJ<=1000000) (_:Is H (dL x) v) (_:B6 8999 x) (_:RX S) (_:∀H',ax H H'->Q (os (fault S (.aG x))) H')
def OP {S:bU} (h:RX S) (b:Nat) (hb:b<⇑S.aL):B6 8999 (S.aQ b):=by
 unfold bU.aQ;rw[zd hb];let⟨k1,k2,k3,k4⟩:=h _ (ym hb);let⟨g,g1,g2,g3,g4,g5⟩:=iT (t:=S.aL[b].aQ.1) k3;let r0:=AO (t:=S.aL[b].aQ.1) (b:=S.aL[b].aQ.2) k1;let r1:=AQ (t:=S.aL[b].aQ.1) (b:=S.aL[b].aQ.2) k1;dsimp only;exact{(cq (n:=10) r0 ()).mono ∅,(cq (n:=10) () ()).mono ∅}
def E8 {C:vF} (F:Cf K C):dh P w base 4 T.fJ (EB C):=by
 nomatch T.fJ,["score","length"]
 let⟨a,S,o,v,ub,jm,x,ob,us,rfl,ho,hub,sb,fz,ul,n6,iv,zx,vJ,kk⟩:=h;let sl:=yC;unfold fault at kk;dsimp only at kk;refine{_,(af (aI (bC (fN (bI (pv 0) rfl)))
  (ak (aq aN))
  aB)
  (af (aI (ptr de (d9 aF T.bB (ah (bI (pv 0) rfl) ag)) ae)
  (ak (aq aN))
  aB)
  (af (aI (fu (cR (bJ (JN T) hr T.EJ (ah (pv 1) (ah (bJ (ma T F) hr T.ig (ah (pv 0) (ah ae ag))) ag)))))
  (ak (aq aN))
  aB)
  (af (aI (cR (d9 (gw rfl) T.A8 (ah (oh (ts:=["place"]) (ys:=[]) (js:=[]) (te:=(e9 Wf (e9 (o7 K) (aY 0) (tC (.int (0)))) (tC (.int (0))))) (QD (bI (pv 0) rfl)) (f9 0) bq (dE de (bM (pv 0) ae) ae (gW _))) ag)))
  (ak (aq aN))
  aB)
  (ak (aq aS)))))),?_}
 ac_rfl;exists a,C,o.dx,_,_,rfl,ho,F.cls,F.aG,rfl,?_;cases q:S.aG with
 | some u=>
  rw[q,yO (show(some u).isSome=true from rfl)] at kk;rw[q] at hub;cases eW (o:=some u) hub with
  | ref hu=>
   change kk _ (ax.refl _)
 | none=>
  rw[q,yN (by simp)] at kk;rw[q] at hub;unfold dO Is at hub;subst hub;let⟨vs,hv,il⟩:=sb.ba;cases eW (o:=some x) iv with
  | ref hx=>
  rename_i a1;exists a,C,o.dx,_,_,rfl,ho,F.cls,F.aL,rfl,?_;exists o.ba,vs,rfl,.inl (aH.of hv),?_;rw[aP il];left
  by_cases c1:⇑S.aL=0
  ·refine bW (by rw[c1];rfl) ?_
   rw[yO c1] at kk;change kk _ (ax.refl _)
  ·refine b9 (ze λz=>c1 (by have:=V.int.inj z;ext)) ?_
   rw[yN c1] at kk;exists a,S,o,0,rfl,sb,(),vJ,λp H1 s1 h1=>?_;refine{_,_,_,_,rfl,s1 _ _ hx,h1,zx,OP vJ 0 (),?_}
   by_cases c2:x.1*(S.aQ 0).2<(S.aQ 0).1*x.2
   ·rw[zg c2]
    rw[yN (λz=>z c2)] at kk;exists a,C,o.dx,_,_,rfl,s1 _ _ ho,F.cls,F.aJ,rfl,?_;refine{o.no,ob,_,_,rfl,{_,s1 _ _ fz,.inr {_,rfl,rfl,rfl}},?_};let kl:⇑((S.aJ.map λx=>kN x.1).zip us)=⇑S.aJ:=by rw[xC,za,ul,Nat.min_self]
    refine BE (ws:=S.aJ) (λp x H=>∃b,x=.ref b/\H b=some (.tup [.int p.1.1,.str p.1.2])) (λp=>.bl (decide (p.1.1=0))) (λU=>∃v,U=[v]) () {(none),rfl} (λi H2 hi s2=>{{_,s2 _ _ (s1 _ _ fz),.inr {_,rfl,rfl,rfl}},()}) (λH2 s2=>{{_,s2 _ _ (s1 _ _ fz),.inr {_,rfl,rfl,rfl}},()}) ?_ ?_ ?_
    ·rintro i y H2 H3 hi s2 ⟨rfl,p,b,hp,hb,rfl⟩
     refine{ax.refl _,b,rfl,?_};let⟨z1,_⟩:=Jf hp;rw[zK,zd hi] at z1;simp only[xo,xP] at z1;rw[<-z1] at hb;exact hb
    ·rintro p y U H2 R hp s2 ⟨b,rfl,hb⟩ ⟨_,rfl⟩ r
     left;refine r _ _ _ (ax.refl _) ?_ {_,rfl};rw[show decide (V.int p.1.1=V.int 0)=decide (p.1.1=0) from by by_cases h:p.1.1=0 <;> simp[h]];unfold Is;rfl
    ·intro D vs H4 s4 hD il
     let e:S.aJ.map (λp=>Dt.bl (decide (p.1.1=0)))=(S.aJ.map λp=>decide (p.1.1=0)).map Dt.bl:=by rw[zB];rfl
     rw[e] at il;rw[j8 il] at hD;refine{D,_,rfl,aH.of hD,?_};let e2:(S.aJ.map λp=>decide (p.1.1=0)).any id=S.aJ.any λp=>decide (p.1.1=0):=by rw[wH];rfl
     rw[e2];cases qc:S.aJ.any λp=>decide (p.1.1=0) with
     | true=>
      rw[qc,yO rfl] at kk;change kk _ (s1.trans s4)
     | false=>
      rw[qc,yN (by simp)] at kk;change kk _ (s1.trans s4)
   ·rw[ze c2]
    rw[yO c2] at kk;change kk _ s1
def lV (C:vF):Sp:=fc C λH v S f=>∃x,Is H (dL x) v/\B6 8999 x/\RX S/\⇑S.aJ<=1000000/\f=fault S (.aG x)
def uJ {C:vF} (F:Cf K C):dh P w base 4 T.fJ (lV C):=by
 refine(E8 (P:=P) (w:=w) (base:=base) T F).RA (λvs H Q E h=>?_) (λvs H Q E h=>?_)
 ·let⟨_,_,_,_,_,rfl,_⟩:=h;rfl
 ·let⟨a,S,o,v,f,rfl,sc,⟨x,iv,zx,vJ,n6,rfl⟩,kk⟩:=h
  let⟨hn,ln⟩:=sc.no;let⟨ub,jm,ho,hub,hjm⟩:=sc.obj;let⟨bs,hb,ilb⟩:=sc.ba;let nt:cA (some (HO.dT ((S.aJ.map λx=>kN x.1).zip (o.ns.map V.ref)))):=λvs z=>by cases z
  let na:a≠o.no:=λz=>by rw[z,hn] at ho;cases ho
  let nb:o.ba≠o.no:=λz=>by rw[z,hn] at hb;cases hb
  let ho':∀ob,upd H o.no (.mG ob (.dT ((S.aJ.map λx=>kN x.1).zip (o.ns.map V.ref)))) a=some (.ins C o.dx (Qq o ub jm)):=λob=>by rw[aE na];exact ho
  refine{o.no,_,hn,rfl,λob=>{a,S,o,v,ub,jm,x,ob,o.ns.map V.ref,rfl,ho' ob,Is.upd (by rw[hn];exact nt) hub,{{ub,jm,ho' ob},bs,by rw[aE nb];exact hb,Pa hn nt ilb},aC,by rw[za,nP ln,za],n6,Is.upd (by rw[hn];exact nt) iv,zx,vJ,λH' s'=>kk _ (GS hn s')}}
noncomputable def oN:Told->Str
 | .bF _=> "player"
 | .cI _ _ _=> "instrument"
 | .cu _ _=> "staff"
 | .bar _=> "bar"
 | .aG _=> "upbeat"
 | .holds _ _ _=> "holds"
 | .aJ _ _ _=> "notes"
 | .rep _=> "repeat"
 | .bS _=> "jump"
def TU (S:bU):Told->Prop
 | .cu _ ps=>⇑ps<=1000
 | .aG l=>B6 8999 l/\RX S/\⇑S.aJ<=1000000
 | .aJ b _ its=>0<=b/\⇑its<=500/\(∀it∈its,P8 it.2)/\RX S
 | .rep r=>Jp r.ends<64/\⇑r.ends<=1000/\-1000000<=r.times/\r.times<=1000000
 | .bS _=>Ge S
 | _=>True
inductive Nt (K:yB) {mg:Str->Option vz} (T:Txt K mg) (C:vF):vF->Sp->Prop where
 | bF:Nt K T C T.fY (lX C)
 | cI:Nt K T C T.dX (g9 C)
 | cu:Nt K T C T.gB (mP C)
 | bar:Nt K T C T.jV (pU C)
 | aG:Nt K T C T.fW (lV C)
 | holds:Nt K T C T.iG (oy C)
 | aJ:Nt K T C T.gF (mQ C)
 | rep:Nt K T C T.fX (lW C)
 | bS:Nt K T C T.iF (ox C)
noncomputable def RP {K:yB} {mg:Str->Option vz} (T:Txt K mg):List (Str×V):=[("player",V.ref T.fY),("instrument",.ref T.dX),("staff",.ref T.gB),("bar",.ref T.jV),("upbeat",.ref T.fW),("holds",.ref T.iG),("notes",.ref T.gF),("repeat",.ref T.fX),("jump",.ref T.iF)]
def O9 (K:yB) {mg:Str->Option vz} (T:Txt K mg) (C:vF) (t:Told):∃f D,rN (RP T) (oN t)=some (.ref f)/\Nt K T C f (fc C D)/\∀H0 H v S,gy H0 H v (some t)->TU S t->D H v S (fault S t):=by
 cases t with
 | bF n=>exact{_,_,rfl,.bF,λH0 H v S h1 h2=>{(n),h1,rfl}}
 | cI n t l=>exact{_,_,rfl,.cI,λH0 H v S h1 h2=>{(n,t,l),h1,rfl}}
 | cu n ps=>exact{_,_,rfl,.cu,λH0 H v S h1 h2=>{(n,ps),h1,h2,rfl}}
 | bar b=>exact{_,_,rfl,.bar,λH0 H v S h1 h2=>{(b),rfl}}
 | aG l=>exact{_,_,rfl,.aG,λH0 H v S h1 h2=>{(l),h1,h2.1,h2.2.1,h2.2.2,rfl}}
 | holds p b i=>exact{_,_,rfl,.holds,λH0 H v S h1 h2=>{(p,b,i),h1,rfl}}
 | aJ b p its=>exact{_,_,rfl,.aJ,λH0 H v S h1 h2=>{(b,p,its),iI.at h1,h2.1,h2.2.1,h2.2.2.1,h2.2.2.2,rfl}}
 | rep r=>exact{_,_,rfl,.rep,λH0 H v S h1 h2=>{(r),h1,h2.1,h2.2.1,h2.2.2.1,h2.2.2.2,rfl}}
 | bS j=>exact{_,_,rfl,.bS,λH0 H v S h1 h2=>{(j),h1,h2,rfl}}
def NK {H0 H:Hp} {v:V} {t:Told} (h:gy H0 H v (some t)):v≠.bH:=by
 let tp:∀l,Is H (.tup l) v->v≠.bH:=λl z=>by
  unfold Is at z;let⟨a,vs,e,_⟩:=z;rw[e];simp
 cases t with
 | bF n=>let e:v=.str n:=h;rw[e];simp
 | cI n t l=>exact tp _ h
 | cu n ps=>exact tp _ h
 | bar b=>exact tp _ h
 | aG l=>exact tp _ h
 | holds p b i=>exact tp _ h
 | aJ b p its=>let⟨a,_,_,e,_⟩:=h;rw[e];simp
 | rep r=>exact tp _ h
 | bS j=>exact tp _ h
noncomputable def Ph (S:bU):Option Told->Option Str
 | none=>some "row"
 | some t=>fault S t
inductive GP (C:vF) (vs:List V) (H:Hp) (Q:VK) (E:XK):Prop
 | mk (a:vF) (S:bU) (o:Ow) (x:Str) (v:V) (H0:Hp) (t:Option Told) (_:vs=[.ref a,.str x,v]) (_:bY C H a S o) (_:gy H0 H v t) (_:(∀t',t=some t'->x=oN t'/\TU S t')) (_:∀H',ax H H'->Q (os (Ph S t)) H')
def tP:fZ ["score","sort","told","finder"] ["score","sort","told"] (aU oS):=UX
def HD (B:Dk P w K T) {C:vF} (F:Cf K C):dh P w base 6 T.Bj (GP C):=by
 refine T.Bj.F.Vt tP λcdv A' outer s H vs Q E hr h=>?_
 ·let⟨a,S,o,x,v,H0,t,rfl,sc,tv,fit,kk⟩:=h
  let hTbV:∀f sp,Nt K T C f sp->TZ (kc Jb P w K mg base ["score","sort","told","finder"] "fault_of" (aU oS) T.BV cdv A' outer s H E).JP Jb 5 f sp:=by
   intro f sp h;cases h with
   | bF=>exact{_,_,L2.dB.mono (uL T F) ∅,T.ia.F.kp,T.ia.b}
   | cI=>exact{_,_,L2.dB.mono (oj T F) ∅,T.eT.F.kp,T.eT.b}
   | cu=>exact{_,_,L2.dB.mono (A1 T F) ∅,T.gH.F.kp,T.gH.b}
   | bar=>exact{_,_,L2.dB.mono (Fh T F) ∅,T.nX.F.kp,T.nX.b}
   | aG=>exact{_,_,L2.dB.mono (uJ T F) ∅,T.fJ.F.kp,T.fJ.b}
   | holds=>exact{_,_,L2.dB.mono (CL T F) ∅,T.lF.F.kp,T.lF.b}
   | aJ=>exact{_,_,L2.dB.mono (A6 T F) ∅,T.jL.F.kp,T.jL.b}
   | rep=>exact{_,_,L2.dB.mono (uK T F) ∅,T.hX.F.kp,T.hX.b}
   | bS=>exact{_,_,L2.dB.mono (CK T F) ∅,T.lC.F.kp,T.lC.b}
  refine{_,(af (aI (bC (cC (pv 2)))
   (ak (aq aN))
   aB)
   (af (bP 3 tP.nd (Ho (bX (v:=.ref T.qp) (by rfl) T.PD rfl) (pv 1) (λ_ _=>rfl)))
   (ak (aq (Hs (Nt K T C) hTbV (hr.mono ∅) (pv 3) Lb (ah (pv 0) (ah (pv 2) ag))))))),?_}
  ac_rfl;left;cases t with
  | none=>
   let e:v=.bH:=tv;subst e;change kk _ (ax.refl _)
  | some t=>
   let⟨ex,ft⟩:=fit t rfl;subst ex;let⟨f,D,ev,htb,hd⟩:=O9 K T C t;let ne:=NK tv;rw[ze ne];exists T.qp,RP T,oN t,_,rfl,B.Tu,rfl,ev,?_;exists f,_,rfl,htb,?_;change{a,S,o,v,_,rfl,sc,hd H0 H v S tv ft,kk}
def IQ {hs:List (Str×List (Int×Str))} {p:Str} {h:Int×Str} (fr:p∉hs.map (·.1)):eU (hs++[(p,[])]) p h=eU hs p h:=by
 unfold eU;rw[yN fr,yO (by rw[zk];exact zI _ (zA.mpr rfl)),zk];let e:(hs.map λq:Str×List (Int×Str)=>if q.1=p then(q.1,q.2++[h]) else q)=hs:=by
  conv=>rhs;rw[<-List.map_id hs]
  refine xA λq hq=>?_;rw[yN (λz=>fr (by rw[<-z];exact zP (f:=λx:Str×List (Int×Str)=>x.1) hq))];rfl
 rw[e];simp
def pL (S:bU):Prop:=(S.holds.map (·.1)).Nodup/\⇑S.holds<=1000000/\∀q∈S.holds,⇑q.2<=1000000
inductive GQ (C:vF) (vs:List V) (H:Hp) (Q:VK) (E:XK):Prop
 | mk (a:vF) (S:bU) (o:Ow) (v:V) (pn:Str) (b:Int) (i:Str) (_:vs=[.ref a,v]) (_:bY C H a S o) (_:Is H (uf (pn,b,i)) v) (_:pL S) (_:∀H' o',bY C H' a (bK S (.holds pn b i)) o'->vR (own a o) H H'->(∀x∈own a o',x∈own a o\/H x=none)->Q .bH H')
def qQ {o:Ow} {a x:vF} (h:x∈o.lists):x∈own a o:=by
 unfold Ow.lists at h;unfold own;rw[zG,zG] at h ⊢;rcases h with(h | h) | h
 ·refine .inl (.inl ?_)
  simp only[zD,zE,yV] at h ⊢;rcases h with h | h | h <;> simp[h]
 ·exact .inl (.inr h)
 ·exact .inr h
def OH {C a x:vF} {H:Hp} {S:bU} {o:Ow} (h:bY C H a S o) (hx:x∈own a o):∃u,H x=some u:=by
 let⟨_,_,ha,_⟩:=h.obj;let⟨_,hi,_⟩:=h.ins;let⟨_,hs,_⟩:=h.st;let⟨_,hb,_⟩:=h.ba;let⟨_,hr,_⟩:=h.re;unfold own at hx;rw[zG,zG] at hx;rcases hx with(hx | hx) | hx
 ·simp only[zD,zE,yV] at hx
  rcases hx with rfl | rfl | rfl | rfl | rfl | rfl | rfl | rfl
  ·exact{_,ha}
  ·exact{_,h.pl}
  ·exact{_,hi}
  ·exact{_,hs}
  ·exact{_,hb}
  ·exact{_,h.ho.1}
  ·exact{_,h.no.1}
  ·exact{_,hr}
 ·let⟨vs,e⟩:=cG h.ho.2 hx
  exact{_,e}
 ·let⟨vs,e⟩:=cG h.no.2 hx
  exact{_,e}
def E6 {C a x:vF} {H:Hp} {S:bU} {o:Ow} (h:bY C H a S o) (hx:H x=none):x∉own a o:=λz=>by
 let⟨u,e⟩:=OH h z;rw[hx] at e;cases e
def HS {hs:List (Str×List (Int×Str))} {as:List vF} {H:Hp} {x:vF} {vs:List V} (hL:cb H Lx (hs.map (·.2)) as) (hx:x∈as) (hH:H x=some (.lst vs)) (hb:∀q∈hs,⇑q.2<=1000000):⇑vs<=1000000:=by
 induction hs generalizing as with
 | nil=>unfold cb at hL;rw[hL] at hx;simp at hx
 | cons q r ih=>
  rw[zj] at hL;let⟨a,t,us,rfl,h1,h2,h3⟩:=hL;rcases zD.mp hx with rfl | hx
  ·rw[h1] at hH;cases hH
   have:=aP h2;have:=hb q zr;ext
  ·exact ih h3 hx λq hq=>hb q (zp _ hq)
def HG {C:vF} (F:Cf K C):dh P w base 1 T.BO (GQ C):=by
 nomatch T.BO,["score","told"]
 let⟨a,S,o,v,pn,b,i,rfl,sc,iv,⟨nk,hl,hb⟩,kk⟩:=h;let⟨a1,rfl,h1⟩:=Ll iv;let sl:=yC;let⟨ub,jm,ho,hub,hjm⟩:=sc.obj;let em:(S.holds.map λx=>kS x.1)=(S.holds.map (·.1)).map kS:=by rw[zB];rfl
 let ll:⇑(o.hs.map V.ref)=⇑(S.holds.map (·.1)):=by rw[za,za,nP sc.ho.2,za]
 dsimp only at h1;refine{_,(af (aI (bC (DG (fC hr) (bM (pv 1) ae) (bI (pv 0) rfl)))
  (ak (ly (fC hr) (bI (pv 0) rfl) (bM (pv 1) ae) (bz ag) rfl))
  aB)
  (ak (bG (bT yD yF yE bD (vT (fC hr) (bI (pv 0) rfl) (bM (pv 1) ae) (λ_ _=>rfl)) (ah (bE (ah (bM (pv 1) ae) (ah (bM (pv 1) ae) ag))) ag))))),?_}
 ac_rfl;exists a,C,o.dx,_,_,rfl,ho,F.cls,F.holds,rfl,?_;refine{o.ho,_,rfl,.inl {_,kS pn,.inl sc.ho.1,rfl,rfl},?_};rw[em,pQ pn ll]
 by_cases c1:pn∈S.holds.map (·.1)
 ·rw[zg c1]
  let⟨x,us,e1,e2,e3,e4⟩:=sc.nL nk c1;exists a,C,o.dx,_,_,rfl,ho,F.cls,F.holds,rfl,?_;exists o.ho,_,rfl,.inl {_,kS pn,.inl sc.ho.1,rfl,e1.symm},?_;refine{.inl {rfl,us,aH.of e3},?_};exists dm,?_;intros p2 H2 s2 h2;refine{x,us,_,rfl,rfl,s2 _ _ e3,?_,?_}
  ·have:=HS sc.ho.2 e2 e3 hb
   ext
  ·let⟨x',us',f1,f2,f3,f4⟩:=(sc.mono s2).nL nk c1
   let ex:x=x':=by rw[f1] at e1;cases e1;rfl
   subst ex;let eu:us=us':=by have:=s2 _ _ e3;rw[f3] at this;cases this;rfl
   subst eu;change kk _ o (f4 _ b i (cw h2 (aO cE (aO eI cD)))) ((vR.of s2).trans (vR.upd (qQ (by unfold Ow.lists;simp[e2])))) λy hy=>.inl hy
 ·rw[ze c1]
  left
  intros p1 n1 s1 g1 H1
  let sc1:=sc.mono s1;let h11:=s1 _ _ h1;let nl:p1∉o.lists:=λz=>E6 sc n1 (qQ z);exists a,C,o.dx,_,_,rfl,s1 _ _ ho,F.cls,F.holds,rfl,?_;left;refine{o.ho,_,rfl,.inl {_,kS pn,sc1.ho.1,rfl,?_,rfl},?_}
  ·rw[xC,za];ext
  let sc2:=sc1.OM g1 nl c1;let nt1:cA (H1 o.ho):=by rw[sc1.ho.1];exact λ_ z=>by cases z
  let h12:upd H1 o.ho (.dK (putK ((S.holds.map λx=>kS x.1).zip (o.hs.map V.ref)) (kS pn) (.ref p1))) a1=some (.tup [V.str pn,V.int b,V.str i]):=by rw[aE (Sc.aZ h11 sc1.ho.1 (by simp[kindOf]))];exact h11
  let el:vR (own a o) H (upd H1 o.ho (.dK (putK ((S.holds.map λx=>kS x.1).zip (o.hs.map V.ref)) (kS pn) (.ref p1)))):=(vR.of s1).trans (vR.upd (by unfold own;simp));generalize upd H1 o.ho (.dK (putK ((S.holds.map λx=>kS x.1).zip (o.hs.map V.ref)) (kS pn) (.ref p1)))=H3 at sc2 h12 el ⊢;let⟨ub2,jm2,ho2,_,_⟩:=sc2.obj;let nk2:(({S with holds:=S.holds++[(pn,[])]}:bU).holds.map (·.1)).Nodup:=by
   show((S.holds++[(pn,[])]).map λx:Str×List (Int×Str)=>x.1).Nodup;rw[zk,zT];exact{nk,by simp,λx hx y hy e=>by simp at hy;subst hy;subst e;exact c1 hx}
  let c2:pn∈({S with holds:=S.holds++[(pn,[])]}:bU).holds.map (·.1):=by
   show pn∈(S.holds++[(pn,[])]).map λx:Str×List (Int×Str)=>x.1;rw[zk];exact zI _ (zA.mpr rfl)
  let⟨x,us,e1,e2,e3,e4⟩:=sc2.nL nk2 c2;let hb2:∀q∈S.holds++[((pn,[]):Str×List (Int×Str))],⇑q.2<=1000000:=λq hq=>by
   rcases zG.mp hq with z | z
   ·exact hb q z
   ·rw[zA.mp z];exact yg _
  exists a,C,_,_,_,rfl,ho2,F.cls,F.holds,rfl,?_;exists o.ho,_,rfl,.inl {_,kS pn,.inl sc2.ho.1,rfl,e1.symm},?_;refine{.inl {rfl,us,aH.of e3},?_};exists dm,?_;intros p2 H4 s4 h4;refine{x,us,_,rfl,rfl,s4 _ _ e3,?_,?_}
  ·have:=HS sc2.ho.2 e2 e3 hb2
   ext
  ·let⟨x',us',f1,f2,f3,f4⟩:=(sc2.mono s4).nL nk2 c2
   let ex:x=x':=by rw[f1] at e1;cases e1;rfl
   subst ex;let eu:us=us':=by have:=s4 _ _ e3;rw[f3] at this;cases this;rfl
   subst eu;left;let ea:bK {S with holds:=S.holds++[(pn,[])]} (.holds pn b i)=bK S (.holds pn b i):=by
    show({S with holds:=eU (S.holds++[(pn,[])]) pn (b,i)}:bU)={S with holds:=eU S.holds pn (b,i)};rw[IQ c1]
   let sf:=f4 _ b i (cw h4 (aO cE (aO eI cD)));rw[ea] at sf;let xin:x∈o.hs\/x=p1:=by
    have:x∈o.hs++[p1]:=e2;rw[zG,zA] at this;exact this
   refine kk _ _ sf (λy u ny hy=>?_) λy hy=>?_
   ·let hy4:=s4 _ _ (el y u ny hy)
    rw[aE]
    ·exact hy4
    ·intro z
     subst z;rcases xin with z | z
     ·exact ny (qQ (by unfold Ow.lists;simp[z]))
     ·subst z;rw[n1] at hy;cases hy
   ·have:y∈own a o\/y=p1:=by
     unfold own at hy ⊢;simp only[zG,zD,zE,yV] at hy ⊢;rcases hy with(hy | hy | hy) | hy
     ·exact .inl (.inl (.inl hy))
     ·exact .inl (.inl (.inr hy))
     ·exact .inr hy
     ·exact .inl (.inr hy)
    rcases this with z | z
    ·exact .inl z
    ·subst z;exact .inr n1
def tL (S:bU):Prop:=⇑S.players<=1000000/\⇑S.ao<=1000000/\⇑S.aM<=1000000/\⇑S.aL<=1000000/\⇑S.aJ<=1000000/\⇑S.repeats<=1000000
inductive Jt (C:vF) (vs:List V) (H:Hp) (Q:VK) (E:XK):Prop
 | mk (a:vF) (S:bU) (o:Ow) (v:V) (H0:Hp) (t:Told) (_:vs=[.ref a,.str (oN t),v]) (_:bY C H0 a S o) (_:ax H0 H) (_:gy H0 H v (some t)) (_:fault S t=none) (_:pL S) (_:tL S) (_:∀H' o',bY C H' a (bK S t) o'->vR (own a o) H H'->(∀x∈own a o',x∈own a o\/H0 x=none)->Q .bH H')
def Ft {c:Prop} [Decidable c] {x:Str} {y:Option Str} (h:(if c then some x else y)=none):¬c/\y=none:=by
 by_cases e:c
 ·rw[yO e] at h;cases h
 ·rw[yN e] at h;exact{(e),h}
theorem tZ {H:Hp}:∀l:List Str,aD H (l.map Dt.str) (l.map V.str)
 | []=>cD
 | x::r=>aO eI (tZ r)
def JO {C:vF} (F:Cf K C):dh P w base 2 T.F2 (Jt C):=by
 nomatch T.F2,["score","sort","told"]
 let⟨a,S,o,v,H0,t,rfl,sc0,s0,tv,fn,bZ,⟨z1,z2,z3,z4,z5,z6⟩,kk⟩:=h;let sl:=yC;let sc:=sc0.mono s0;let⟨ub,jm,ho,hub,hjm⟩:=sc.obj;let me:∀x∈own a o,x∈own a o\/H0 x=none:=λx hx=>.inl hx;refine{_,(ak (aI (ptr de (pv 1) aN)
  (ak (bG (bT yD yF yE bD (bI (pv 0) rfl) (ah (pv 2) ag))))
  (ak (aI (ptr de (pv 1) aN)
   (ak (ly (fC hr) (bI (pv 0) rfl) (bM (pv 2) ae) (bE (ah (bM (pv 2) ae) (ah (bM (pv 2) ae) ag))) rfl))
   (ak (aI (ptr de (pv 1) aN)
    (ak (ly (fC hr) (bI (pv 0) rfl) (bM (pv 2) ae) (bM (pv 2) ae) rfl))
    (ak (aI (ptr de (pv 1) aN)
     (ak (bG (bT yD yF yE bD (bI (pv 0) rfl) (ah (pv 2) ag))))
     (ak (aI (ptr de (pv 1) aN)
      (ak (iV (pv 0) (pv 2) rfl))
      (ak (aI (ptr de (pv 1) aN)
       (ak (bG (bJ (HG T F) hr T.BO (ah (pv 0) (ah (pv 2) ag)))))
       (ak (aI (ptr de (pv 1) aN)
        (ak (ly (fC hr) (bI (pv 0) rfl) (bE (ah (bM (pv 2) ae) (ah (bM (pv 2) ae) ag))) (bM (pv 2) ae) rfl))
        (ak (aI (ptr de (pv 1) aN)
         (ak (bG (bT yD yF yE bD (bI (pv 0) rfl) (ah (pv 2) ag))))
         (ak (iV (pv 0) (pv 2) rfl)))))))))))))))))),?_}
 ac_rfl;cases t with
 | bF n=>
  let e:v=.str n:=tv;subst e;exists a,C,o.dx,_,_,rfl,ho,F.cls,F.players,rfl,?_;refine{.inl {rfl,_,aH.of sc.pl},?_};exists o.pl,_,_,rfl,rfl,sc.pl,by rw[za];ext,?_
  change kk _ o (sc.Kq n) (vR.upd (by unfold own;simp)) me
 | cI n t l=>
  let⟨a1,t1,l1,rfl,h1,it,il⟩:=HV (x:=(n,t,l)) tv;let fr:=(Ft fn).1;exists dm,?_;intros p2 H2 s2 h2;let sc2:=sc.mono s2;let h12:=s2 _ _ h1;let⟨vs,hv,ilv⟩:=sc2.ins;exists a,C,o.dx,_,_,rfl,s2 _ _ ho,F.cls,F.ao,rfl,?_;left;refine{o.ins,_,rfl,.inl {_,kS n,hv,rfl,?_,rfl},?_}
  ·rw[xC,za];ext
  exact kk _ o (sc2.M8 hv ilv (cw h2 (aO (it.mono s2) (aO (il.mono s2) cD))) fr) ((vR.of s2).trans (vR.upd (by unfold own;simp))) me
 | cu n ps=>
  let⟨a1,q,rfl,h1,hq⟩:=GI (x:=(n,ps)) tv;let fr:=(Ft fn).1;let⟨vs,hv,ilv⟩:=sc.st;exists a,C,o.dx,_,_,rfl,ho,F.cls,F.aM,rfl,?_;left;refine{o.st,_,rfl,.inl {_,kS n,hv,rfl,?_,rfl},?_}
  ·rw[xC,za];ext
  exact kk _ o (sc.M6 hv ilv (by unfold Ra mr;exact cw hq (tZ ps)) fr) (vR.upd (by unfold own;simp)) me
 | bar b=>
  let⟨vs,hv,ilv⟩:=sc.ba;let vl:=aP ilv;exists a,C,o.dx,_,_,rfl,ho,F.cls,F.aL,rfl,?_;refine{.inl {rfl,_,aH.of hv},?_};exists o.ba,_,_,rfl,rfl,hv,(),?_;change kk _ o (sc.Rk hv ilv tv) (vR.upd (by unfold own;simp)) me
 | aG l=>
  exists a,C,o.dx,_,rfl,ho,F.cls,F.aG,(by show 9<1000;decide),?_;exact kk _ o (sc.Kp ho hjm tv) (vR.upd (by unfold own;simp)) me
 | holds p b i=>
  change{a,S,o,v,p,b,i,rfl,sc,tv,bZ,λH' o' s' e' n'=>kk H' o' s' e' λx hx=>(n' x hx).imp id λz=>s0.back z}
 | aJ b p its=>
  let⟨a1,q,us,rfl,h1,hq,ilq,nq⟩:=tv;let fr:=(Ft fn).1;let nl:q∉o.lists:=λz=>E6 sc0 nq (qQ z);exists a,C,o.dx,_,_,rfl,ho,F.cls,F.aJ,rfl,?_;exists dm,?_;intros p2 H2 s2 h2;let sc2:=sc.mono s2;refine{o.no,_,rfl,.inr {_,kN (b,p),p2,sc2.no.1,rfl,h2,?_,rfl},?_}
  ·rw[xC,za];ext
  refine kk _ _ (sc2.M7 (s2 _ _ hq) (ilq.mono s2) nl fr) ((vR.of s2).trans (vR.upd (by unfold own;simp))) λx hx=>?_;have:x∈own a o\/x=q:=by
   unfold own at hx ⊢;simp only[zG,zD,zE,yV] at hx ⊢;rcases hx with hx | hx | hx
   ·exact .inl (.inl hx)
   ·exact .inl (.inr hx)
   ·exact .inr hx
  rcases this with z | z
  ·exact .inl z
  ·subst z;exact .inr nq
 | rep r=>
  let⟨vs,hv,ilv⟩:=sc.re;let vl:=aP ilv;exists a,C,o.dx,_,_,rfl,ho,F.cls,F.repeats,rfl,?_;refine{.inl {rfl,_,aH.of hv},?_};exists o.re,_,_,rfl,rfl,hv,(),?_;change kk _ o (sc.Ri hv ilv tv) (vR.upd (by unfold own;simp)) me
 | bS j=>
  exists a,C,o.dx,_,rfl,ho,F.cls,F.bS,(by show 9<1000;decide),?_;exact kk _ o (sc.PQ ho hub tv) (vR.upd (by unfold own;simp)) me
def gh {H:Hp} {a C dx p:vF} {fs fs':List (Str×V)} {u:HO} (ha:H a=some (.ins C dx fs)) (np:H p=none) :
  upd (upd H p u) a (.ins C dx fs') a=some (.ins C dx fs')/\upd (upd H p u) a (.ins C dx fs') p=some u/\∀b v,H b=some v->b≠a->upd (upd H p u) a (.ins C dx fs') b=some v:=by
 let na:p≠a:=λz=>by rw[z,ha] at np;cases np
 refine{aC,by rw[aE na,aC],λb v hb ne=>?_};rw[aE ne,aE (λz=>by rw[z,np] at hb;cases hb)];exact hb
def DR {H:Hp} {a C dx:vF} {fs':List (Str×V)}:upd H a (.ins C dx fs') a=some (.ins C dx fs')/\∀b v,H b=some v->b≠a->upd H a (.ins C dx fs') b=some v:=
 {aC,λb v hb ne=>by rw[aE ne];exact hb}
inductive Ck (C:vF) (vs:List V) (H:Hp) (Q:VK) (E:XK):Prop
 | mk (a dx:vF) (_:vs=[.ref a]) (_:H a=some (.ins C dx [])) (_:∀H' o,bY C H' a {} o->(∀b u,H b=some u->b≠a->H' b=some u)->(∀x∈own a o,x=a\/H x=none)->Q .bH H')
def Co:fZ ["self"] ["self"] (aU qh):=UX
def CN {C:vF} (F:Cf K C):dB P w K mg base Jb 1 T.lM T.rB ["self"] (Ck C):=by
 refine T.B3.F.Vt Co λ_ _ _ _ H vs Q E hr h=>?_
 ·let⟨a,dx,rfl,ha,kk⟩:=h
  let sl:=yC;refine{_,af (iV (pv 0) (bz ag) rfl) (af (iV (pv 0) ku rfl) (af (iV (pv 0) ku rfl) (af (iV (pv 0) (bz ag) rfl) (af (iV (pv 0) aS rfl) (af (iV (pv 0) ku rfl) (af (iV (pv 0) OE rfl) (af (iV (pv 0) (bz ag) rfl) (ak (iV (pv 0) aS rfl))))))))),?_};refine{by show 0<=sizeLine;ext,λp1 n1=>?_};refine{_,rfl,a,C,dx,[],rfl,(by rw[aE (λz=>by rw[<-z,ha] at n1;cases n1)];exact ha),F.cls,F.players,(by show 0<1000;decide),?_};let⟨a1,q1,k1⟩:=gh (u:=.lst []) (fs':=aX "players" (.ref p1) []) ha n1;generalize upd (upd H p1 (.lst [])) a (.ins C dx (aX "players" (.ref p1) []))=H1 at a1 q1 k1 ⊢;refine λp2 n2=>{_,rfl,a,C,dx,_,rfl,(by rw[aE (λz=>by rw[<-z,a1] at n2;cases n2)];exact a1),F.cls,F.ao,(by show 1<1000;decide),?_}
  let⟨a2,q2,k2⟩:=gh (u:=.dK []) (fs':=(aX "instruments" (.ref p2) (aX "players" (.ref p1) []))) a1 n2;generalize upd (upd H1 p2 (.dK [])) a (.ins C dx (aX "instruments" (.ref p2) (aX "players" (.ref p1) [])))=H2 at a2 q2 k2 ⊢;refine λp3 n3=>{_,rfl,a,C,dx,_,rfl,(by rw[aE (λz=>by rw[<-z,a2] at n3;cases n3)];exact a2),F.cls,F.aM,(by show 2<1000;decide),?_}
  let⟨a3,q3,k3⟩:=gh (u:=.dK []) (fs':=(aX "staffs" (.ref p3) (aX "instruments" (.ref p2) (aX "players" (.ref p1) [])))) a2 n3;generalize upd (upd H2 p3 (.dK [])) a (.ins C dx (aX "staffs" (.ref p3) (aX "instruments" (.ref p2) (aX "players" (.ref p1) []))))=H3 at a3 q3 k3 ⊢;refine{by show 0<=sizeLine;ext,λp4 n4=>{_,rfl,a,C,dx,_,rfl,(by rw[aE (λz=>by rw[<-z,a3] at n4;cases n4)];exact a3),F.cls,F.aL,(by show 3<1000;decide),?_}};let⟨a4,q4,k4⟩:=gh (u:=.lst []) (fs':=(aX "bars" (.ref p4) (aX "staffs" (.ref p3) (aX "instruments" (.ref p2) (aX "players" (.ref p1) []))))) a3 n4;generalize upd (upd H3 p4 (.lst [])) a (.ins C dx (aX "bars" (.ref p4) (aX "staffs" (.ref p3) (aX "instruments" (.ref p2) (aX "players" (.ref p1) [])))))=H4 at a4 q4 k4 ⊢;refine{_,rfl,a,C,dx,_,rfl,a4,F.cls,F.aG,(by show 4<1000;decide),?_};let⟨a5,k5⟩:=DR (H:=H4) (a:=a) (C:=C) (dx:=dx) (fs':=(aX "upbeat" .bH (aX "bars" (.ref p4) (aX "staffs" (.ref p3) (aX "instruments" (.ref p2) (aX "players" (.ref p1) []))))));generalize upd H4 a (.ins C dx (aX "upbeat" .bH (aX "bars" (.ref p4) (aX "staffs" (.ref p3) (aX "instruments" (.ref p2) (aX "players" (.ref p1) []))))))=H5 at a5 k5 ⊢;refine λp6 n6=>{_,rfl,a,C,dx,_,rfl,(by rw[aE (λz=>by rw[<-z,a5] at n6;cases n6)];exact a5),F.cls,F.holds,(by show 5<1000;decide),?_}
  let⟨a6,q6,k6⟩:=gh (u:=.dK []) (fs':=(aX "holds" (.ref p6) (aX "upbeat" .bH (aX "bars" (.ref p4) (aX "staffs" (.ref p3) (aX "instruments" (.ref p2) (aX "players" (.ref p1) []))))))) a5 n6;generalize upd (upd H5 p6 (.dK [])) a (.ins C dx (aX "holds" (.ref p6) (aX "upbeat" .bH (aX "bars" (.ref p4) (aX "staffs" (.ref p3) (aX "instruments" (.ref p2) (aX "players" (.ref p1) [])))))))=H6 at a6 q6 k6 ⊢;refine λp7 n7=>{_,rfl,a,C,dx,_,rfl,(by rw[aE (λz=>by rw[<-z,a6] at n7;cases n7)];exact a6),F.cls,F.aJ,(by show 6<1000;decide),?_}
  let⟨a7,q7,k7⟩:=gh (u:=.dT []) (fs':=(aX "notes" (.ref p7) (aX "holds" (.ref p6) (aX "upbeat" .bH (aX "bars" (.ref p4) (aX "staffs" (.ref p3) (aX "instruments" (.ref p2) (aX "players" (.ref p1) [])))))))) a6 n7;generalize upd (upd H6 p7 (.dT [])) a (.ins C dx (aX "notes" (.ref p7) (aX "holds" (.ref p6) (aX "upbeat" .bH (aX "bars" (.ref p4) (aX "staffs" (.ref p3) (aX "instruments" (.ref p2) (aX "players" (.ref p1) []))))))))=H7 at a7 q7 k7 ⊢;refine{by show 0<=sizeLine;ext,λp8 n8=>{_,rfl,a,C,dx,_,rfl,(by rw[aE (λz=>by rw[<-z,a7] at n8;cases n8)];exact a7),F.cls,F.repeats,(by show 7<1000;decide),?_}};let⟨a8,q8,k8⟩:=gh (u:=.lst []) (fs':=(aX "repeats" (.ref p8) (aX "notes" (.ref p7) (aX "holds" (.ref p6) (aX "upbeat" .bH (aX "bars" (.ref p4) (aX "staffs" (.ref p3) (aX "instruments" (.ref p2) (aX "players" (.ref p1) []))))))))) a7 n8;generalize upd (upd H7 p8 (.lst [])) a (.ins C dx (aX "repeats" (.ref p8) (aX "notes" (.ref p7) (aX "holds" (.ref p6) (aX "upbeat" .bH (aX "bars" (.ref p4) (aX "staffs" (.ref p3) (aX "instruments" (.ref p2) (aX "players" (.ref p1) [])))))))))=H8 at a8 q8 k8 ⊢;refine{_,rfl,a,C,dx,_,rfl,a8,F.cls,F.bS,(by show 8<1000;decide),?_};let⟨a9,k9⟩:=DR (H:=H8) (a:=a) (C:=C) (dx:=dx) (fs':=(aX "jump" .bH (aX "repeats" (.ref p8) (aX "notes" (.ref p7) (aX "holds" (.ref p6) (aX "upbeat" .bH (aX "bars" (.ref p4) (aX "staffs" (.ref p3) (aX "instruments" (.ref p2) (aX "players" (.ref p1) []))))))))));generalize upd H8 a (.ins C dx (aX "jump" .bH (aX "repeats" (.ref p8) (aX "notes" (.ref p7) (aX "holds" (.ref p6) (aX "upbeat" .bH (aX "bars" (.ref p4) (aX "staffs" (.ref p3) (aX "instruments" (.ref p2) (aX "players" (.ref p1) []))))))))))=H9 at a9 k9 ⊢;let e1:p1≠a:=λz=>by rw[z,ha] at n1;cases n1
  let g1:=k9 _ _ (k8 _ _ (k7 _ _ (k6 _ _ (k5 _ _ (k4 _ _ (k3 _ _ (k2 _ _ (q1) e1) e1) e1) e1) e1) e1) e1) e1;let e2:p2≠a:=λz=>by rw[z,a1] at n2;cases n2
  let g2:=k9 _ _ (k8 _ _ (k7 _ _ (k6 _ _ (k5 _ _ (k4 _ _ (k3 _ _ (q2) e2) e2) e2) e2) e2) e2) e2;let e3:p3≠a:=λz=>by rw[z,a2] at n3;cases n3
  let g3:=k9 _ _ (k8 _ _ (k7 _ _ (k6 _ _ (k5 _ _ (k4 _ _ (q3) e3) e3) e3) e3) e3) e3;let e4:p4≠a:=λz=>by rw[z,a3] at n4;cases n4
  let g4:=k9 _ _ (k8 _ _ (k7 _ _ (k6 _ _ (k5 _ _ (q4) e4) e4) e4) e4) e4;let e6:p6≠a:=λz=>by rw[z,a5] at n6;cases n6
  let g6:=k9 _ _ (k8 _ _ (k7 _ _ (q6) e6) e6) e6;let e7:p7≠a:=λz=>by rw[z,a6] at n7;cases n7
  let g7:=k9 _ _ (k8 _ _ (q7) e7) e7;let e8:p8≠a:=λz=>by rw[z,a7] at n8;cases n8
  let g8:=k9 _ _ (q8) e8;let kH:∀b v,H b=some v->b≠a->H9 b=some v:=λb v hb ne=>k9 _ _ (k8 _ _ (k7 _ _ (k6 _ _ (k5 _ _ (k4 _ _ (k3 _ _ (k2 _ _ (k1 _ _ hb ne) ne) ne) ne) ne) ne) ne) ne) ne;let f1:H p1=none:=n1;let f2:H p2=none:=by
   cases q:H p2 with
   | none=>rfl
   | some v=>let z:=q;rw[show H1 p2=some v from k1 _ _ z e2] at n2;cases n2
  let f3:H p3=none:=by
   cases q:H p3 with
   | none=>rfl
   | some v=>let z:=q;rw[show H2 p3=some v from k2 _ _ (k1 _ _ z e3) e3] at n3;cases n3
  let f4:H p4=none:=by
   cases q:H p4 with
   | none=>rfl
   | some v=>let z:=q;rw[show H3 p4=some v from k3 _ _ (k2 _ _ (k1 _ _ z e4) e4) e4] at n4;cases n4
  let f6:H p6=none:=by
   cases q:H p6 with
   | none=>rfl
   | some v=>let z:=q;rw[show H5 p6=some v from k5 _ _ (k4 _ _ (k3 _ _ (k2 _ _ (k1 _ _ z e6) e6) e6) e6) e6] at n6;cases n6
  let f7:H p7=none:=by
   cases q:H p7 with
   | none=>rfl
   | some v=>let z:=q;rw[show H6 p7=some v from k6 _ _ (k5 _ _ (k4 _ _ (k3 _ _ (k2 _ _ (k1 _ _ z e7) e7) e7) e7) e7) e7] at n7;cases n7
  let f8:H p8=none:=by
   cases q:H p8 with
   | none=>rfl
   | some v=>let z:=q;rw[show H7 p8=some v from k7 _ _ (k6 _ _ (k5 _ _ (k4 _ _ (k3 _ _ (k2 _ _ (k1 _ _ z e8) e8) e8) e8) e8) e8) e8] at n8;cases n8
  let d14:p1≠p4:=λz=>by let h:=k3 _ _ (k2 _ _ (q1) e1) e1;rw[z,n4] at h;cases h
  let d18:p1≠p8:=λz=>by let h:=k7 _ _ (k6 _ _ (k5 _ _ (k4 _ _ (k3 _ _ (k2 _ _ (q1) e1) e1) e1) e1) e1) e1;rw[z,n8] at h;cases h
  let d48:p4≠p8:=λz=>by let h:=k7 _ _ (k6 _ _ (k5 _ _ (q4) e4) e4) e4;rw[z,n8] at h;cases h
  let d23:p2≠p3:=λz=>by let h:=q2;rw[z,n3] at h;cases h
  let d26:p2≠p6:=λz=>by let h:=k5 _ _ (k4 _ _ (k3 _ _ (q2) e2) e2) e2;rw[z,n6] at h;cases h
  let d36:p3≠p6:=λz=>by let h:=k5 _ _ (k4 _ _ (q3) e3) e3;rw[z,n6] at h;cases h
  refine kk H9 {dx,p1,p2,p3,p4,p6,p7,p8,[],[]} {{.bH,.bH,a9,dN,dN},g1,{[],g2,cD},{[],g3,cD},{[],g4,cD},{(g6),rfl},{(g7),rfl},{[],g8,cD},?_,?_} kH λx hx=>?_
  ·show [p1,p4,p8].Nodup
   simp[d14,d18,d48]
  ·show [p2,p3,p6].Nodup
   simp[d23,d26,d36]
  ·let hx':x∈[a,p1,p2,p3,p4,p6,p7,p8]:=by simpa[own] using hx
   simp only[zD,zE,yV] at hx';rcases hx' with rfl | rfl | rfl | rfl | rfl | rfl | rfl | rfl
   ·exact .inl rfl
   ·exact .inr f1
   ·exact .inr f2
   ·exact .inr f3
   ·exact .inr f4
   ·exact .inr f6
   ·exact .inr f7
   ·exact .inr f8
inductive RT:List Str->List Told->Prop where
 | nil:RT [] []
 | blank {r:Str} {rs:List Str} {ts:List Told}:⇑r<=1000000->words r=[]->RT rs ts->RT (r::rs) ts
 | row {r:Str} {t:Told} {rs:List Str} {ts:List Told}:⇑r<=1000000->words r=wordsOf t->RS t->⇑(wordsOf t)<=1000000->(∀y∈wordsOf t,⇑y<=600)->RT rs ts->RT (r::rs) (t::ts)
def Runs:bU->List Told->bU->Prop
 | S,[],S'=>S=S'
 | S,t::r,S'=>fault S t=none/\TU S t/\pL S/\tL S/\Runs (bK S t) r S'
def L4 (t:Told):∃ws,wordsOf t=oN t::ws:=by cases t <;> exact{_,rfl}
inductive Cc (C:vF) (vs:List V) (H:Hp) (Q:VK) (E:XK):Prop
 | mk (t:Str) (ts:List Told) (S:bU) (_:vs=[.str t]) (_:⇑t+2<=sizeLine) (_:RT (Txt.split t "\n") ts) (_:Runs {} ts S) (_:∀a o H',bY C H' a S o->ax H H'->(∀x∈own a o,H x=none)->Q (.ref a) H')
theorem LU {H0 H H':Hp} {v:V} (s:ax H H'):∀{t:Option Told},gy H0 H v t->gy H0 H' v t
 | none,h=>h
 | some (.bF _),h=>h
 | some (.cI _ _ _),h=>Is.mono s h
 | some (.cu _ _),h=>Is.mono s h
 | some (.bar _),h=>Is.mono s h
 | some (.aG _),h=>Is.mono s h
 | some (.holds _ _ _),h=>Is.mono s h
 | some (.aJ _ _ _),⟨a,q,vs,h1,h2,h3,h4,h5⟩=>{a,q,vs,h1,s _ _ h2,s _ _ h3,h4.mono s,h5}
 | some (.rep _),h=>Is.mono s h
 | some (.bS _),h=>Is.mono s h
def oB (B:Dk P w K T) (F:Cf K T.lK):dh P w base 8 T.lg (Cc T.lK):=by
 nomatch T.lg,["text","score","place","row","words","told","word"]
 let⟨t,ts,S,rfl,tl,rt,run,kk⟩:=h;let sl:=yC;refine{_,(af (bP 1 qN (OB T.Ro (CN T F) (hr.mono ∅) rfl T.Qd T.B3.b .nil Lb))
  (af (cj yP rfl (vS (by rfl) T.jM (ah (bT yG yK yJ i7 (pv 0) (ah aN ag)) ag)) (dz (n:=2) rfl (aK (gP 2 qN) (aK (gP 3 qN) cJ)))
  (af (bP 4 qN (bJ (Hw T) hr T.words_of (ah (pv 3) ag)))
   (ak (aI (ptr fg (d9 aF T.bB (ah (pv 4) ag)) ae)
   (af (bP 5 qN (bJ (Hz T B) hr T.AR (ah (pv 4) ag)))
    (af (bP 6 qN (bJ (HD T B F) hr T.Bj (ah (pv 1) (ah (fw (pv 4) ae) (ah (pv 5) ag)))))
    (af (aI (bC (fN (pv 6)))
    (ak Ot)
    aB)
    (ak (bG (bJ (JO T F) hr T.F2 (ah (pv 1) (ah (fw (pv 4) ae) (ah (pv 5) ag)))))))))
   aB))))
  (ak (aq (pv 1))))),?_}
 ac_rfl;intro a dx na ndx ne;refine{a,dx,rfl,aC,λH1 o sc1 k1 fr1=>{rfl,?_}};let s1:ax H H1:=λb u hb=>k1 b u (by rw[aE (λz=>by rw[z,na] at hb;cases hb),aE (λz=>by rw[z,ndx] at hb;cases hb)];exact hb) (λz=>by rw[z,na] at hb;cases hb);let f1:∀x∈own a o,H x=none:=λx hx=>by
  rcases fr1 x hx with z | z
  ·rw[z];exact na
  ·cases q:H x with
   | none=>rfl
   | some u=>
    rw[aE (λy=>by rw[y,na] at q;cases q),aE (λy=>by rw[y,ndx] at q;cases q),q] at z;cases z
 exists tl,λl nl=>?_;let s2:ax H1 (upd H1 l (.lst ((Txt.split t "\n").map V.str))):=bj nl;let h2:upd H1 l (.lst ((Txt.split t "\n").map V.str)) l=some (.lst ((Txt.split t "\n").map V.str)):=aC;generalize upd H1 l (.lst ((Txt.split t "\n").map V.str))=H2 at s2 h2 ⊢;generalize hrows:Txt.split t "\n"= rows at rt h2;exists l,_,rfl,aH.of h2,?_;refine q9 (K:=K) (a:=l) (xs:=rows.map V.str) (λi U H'=>∃ts' S' o',RT (rows.drop i) ts'/\Runs S' ts' S/\bY T.lK H' a S' o'/\H' l=some (.lst (rows.map V.str))/\l∉own a o'/\ax H H'/\(∀x∈own a o',H x=none)/\∃u2 u3 u4 u5 u6,U=[some (.str t),some (.ref a),u2,u3,u4,u5,u6])
  {ts,{},o,rt,run,sc1.mono s2,h2,E6 sc1 nl,s1.trans s2,f1,none,none,none,none,none,rfl} (λi U H' _ h=>by let⟨_,_,_,_,_,_,h,_⟩:=h;exact aH.of h) ?_ ?_
 ·intro i x U H3 p H4 hx hh s34 hp4
  refine dI λN kN0 kR0 _ _=>?_;let⟨ts',S',o',rt',run',sc3,hl3,nl3,s3,f3,u2,u3,u4,u5,u6,rfl⟩:=hh;rw[zK] at hx;cases qr:rows[i]? with
  | none=>rw[qr] at hx;cases hx
  | some r=>
  rw[qr] at hx;simp only[xo,xP] at hx;subst hx;let ed:rows.drop i=r::rows.drop (i+1):=by
   let hi:=(zy.mp qr).1;rw[List.drop_eq_getElem_cons hi];have:=(zy.mp qr).2;rw[this]
  rw[ed] at rt';let s4:=s3.trans s34;let sc4:=sc3.mono s34;cases rt' with
  | blank rl rw0 rt''=>
   refine{p,_,rfl,cU.of hp4,rfl,?_};refine{_,_,rfl,{_,_,rfl,{rfl,?_}}};exists rl,λp5 H5 s5 h5=>?_;rw[rw0] at h5;exists p5,_,rfl,.inl (aH.of h5),?_;left;let s05:=s4.trans s5;exact{ts',S',o',rt'',run',sc4.mono s5,s5 _ _ (s34 _ _ hl3),nl3,s05,f3,_,_,_,_,_,rfl}
  | row rl rw0 tok wl ws6 rt''=>
   rename_i t' ts'';let⟨fn,fit,hd,sz,run''⟩:=run';let⟨ws,ew⟩:=L4 t';refine{p,_,rfl,cU.of hp4,rfl,?_};refine{_,_,rfl,{_,_,rfl,{rfl,?_}}};exists rl,λp5 H5 s5 h5=>?_;rw[rw0] at h5;let h5':=h5;rw[ew] at h5;let sc5:=sc4.mono s5;let hl5:=s5 _ _ (s34 _ _ hl3);exists p5,_,rfl,.inl (aH.of h5),?_;rw[za,zv];left;refine bW (zg ()) ?_;left;let wl':⇑ws<=999999:=by rw[ew,zv] at wl;ext
   refine{p5,oN t',ws,rfl,aH.of h5,wl',by rw[<-ew];exact ws6,λv H6 s6 tv=>?_};rw[<-ew,JK tok] at tv;let sc6:=sc5.mono s6;exists p5,_,0,_,rfl,rfl,aH.of (s6 _ _ h5),bA (j:=0) rfl,?_;exists a,S',o',oN t',v,H5,some t',rfl,sc6,tv,λt2 e2=>by cases e2;exact{(rfl),fit},λH7 s7=>?_
   rw[show Ph S' (some t')=fault S' t' from rfl,fn];exists p5,_,0,_,rfl,rfl,aH.of (s7 _ _ (s6 _ _ h5)),bA (j:=0) rfl,?_;exists a,S',o',v,H5,t',rfl,sc5,s6.trans s7,LU s7 tv,fn,hd,sz,λH8 o8 sc8 el8 fr8=>?_;let s07:=((s4.trans s5).trans s6).trans s7;left;refine{ts'',bK S' t',o8,rt'',run'',sc8,el8 _ _ nl3 (s7 _ _ (s6 _ _ hl5)),λz=>?_,λb u hb=>el8 _ _ (λz=>by rw[f3 b z] at hb;cases hb) (s07 _ _ hb),λx hx=>?_,_,_,_,_,_,rfl}
   ·rcases fr8 l z with y | y
    ·exact nl3 y
    ·rw[hl5] at y;cases y
   ·rcases fr8 x hx with y | y
    ·exact f3 x y
    ·exact(s4.trans s5).back y
 ·rintro U H3 ⟨ts',S',o',rt',run',sc3,hl3,nl3,s3,f3,u2,u3,u4,u5,u6,rfl⟩
  rw[za,List.drop_length] at rt';cases rt';let es:S'=S:=run';subst es;change kk a o' H3 sc3 s3 f3
inductive uw (vs:List V) (H:Hp) (Q:VK) (E:XK):Prop
 | mk (v:V) (r:Rep) (n:Int) (_:vs=[v,.int n]) (_:Is H (gO r) v) (_:Va r) (_:∀D bs H',ax H H'->H D=none->H' D=some (.lst (bs.map V.int))->kL r.first r.last 2000 bs->bs=kz r n->Q (.ref D) H')
def mf:dh P w base 2 T.iC uw:=by
 nomatch T.iC,["repeat","number","ends","bars","end"]
 let⟨v,r,n,rfl,iv,rd,kk⟩:=h;let sl:=yC;let⟨a,e,rfl,ha,he⟩:=dP iv;let⟨en,er⟩:=Pl rd;let⟨r1,r2,r3,r4,r5,r6,r7⟩:=rd;refine{_,(af (bP 2 qN (bJ (A7 T) hr T.vZ (ah (pv 0) ag)))
  (af (aI (ptr de (d9 aF T.bB (ah (pv 2) ag)) ae)
  (ak (aq (qD rfl (by rfl) T.lB (by rfl) T.cK (ah (bM (pv 0) ae) (ah (au aT (bM (pv 0) ae) ae) ag)))))
  aB)
  (af (bP 3 qN (qD rfl (by rfl) T.lB (by rfl) T.cK (ah (bM (pv 0) ae) (ah (bM (fw (pv 2) ae) ae) ag))))
  (af (cj yP rfl (bf (pv 2)) (gP 4 qN)
  (ak (aI (hZ kA (pv 1) (bM (pv 4) ae) (by with_unfolding_all rfl))
   (ak (bG (bT yD y9 y8 i9 (pv 3) (ah (qD rfl (by rfl) T.lB (by rfl) T.cK (ah (bM (pv 4) ae) (ah (au aT (bM (pv 4) ae) ae) ag))) ag))))
   aB)))
  (ak (aq (pv 3))))))),?_}
 ac_rfl;exists _,r,rfl,iv,(),λp us H1 s1 h1 il=>?_;let ul:=aP il;let ha1:=s1 _ _ ha;exists p,us,rfl,.inl (aH.of h1),?_;rw[ul];left
 by_cases c0:⇑(du r)=0
 ·refine bW (by rw[c0];rfl) ?_
  exists _,_,rfl,{(()),(),(),()},(),λl nl=>?_;exact kk l _ _ (s1.trans (bj nl)) (s1.back nl) aC (JH () () ()) (OG c0).symm
 ·refine b9 (ze λz=>c0 (by have:=V.int.inj z;ext)) ?_
  let u0:us[0]?=some (us[0]'()):=zd ();let⟨t,ht,it⟩:=cS il u0;let⟨a0,q0,e0,h0,_⟩:=Jo it;rw[e0] at u0;let⟨⟨t1,t2⟩,t3,t4⟩:=er t (zC ht);exists p,us,0,_,rfl,rfl,aH.of h1,bA u0,?_;exists _,_,rfl,{(()),(),(),()},(),λD nD=>?_;let s2:ax H1 (upd H1 D (.lst ((cV r.first (t.1-r.first).toNat).map V.int))):=bj nD;let h2:upd H1 D (.lst ((cV r.first (t.1-r.first).toNat).map V.int)) D=some (.lst ((cV r.first (t.1-r.first).toNat).map V.int)):=aC;generalize upd H1 D _=H2 at s2 h2 ⊢;exists{_,aH.of (s2 _ _ h1)},?_;refine iM (K:=K) (a:=p) (xs:=us) (λi U H'=>∃(bs:List Int) (w4:Option V),ax H1 H'/\H' D=some (.lst (bs.map V.int))/\kL r.first r.last (200*(i+1)) bs/\bs=cV r.first (t.1-r.first).toNat++EK n ((du r).take i)/\U=[some (.ref a),some (.int n),some (.ref p),some (.ref D),w4]) {_,none,s2,h2,JH () () (),(zV _).symm,rfl} (λi U H' _ h=>by let⟨_,_,s,_⟩:=h;exact aH.of (s _ _ h1)) ?_ ?_
  ·rintro Nx i x U H3 hN hx ⟨bs,w4,s3,h3,bi,eb,rfl⟩
   let hi:=(zy.mp hx).1;let⟨y,hy,iy⟩:=cS il hx;let⟨ay,qy,rfl,hay,hqy⟩:=Jo iy;let⟨⟨y1,y2⟩,y3,y4⟩:=er y (zC hy);let hay3:=s3 _ _ hay;exists qy,_,rfl,.inr (cU.of (s3 _ _ hqy)),rfl,sU _,?_;show∃k,V.bl (Gk (.int n) (y.2.2.map V.int))=.bl k/\_;rw[qY];let e2:cV r.first (t.1-r.first).toNat++EK n ((du r).take (i+1))=bs++if n∈y.2.2 then cV y.1 (y.2.1+1-y.1).toNat else []:=by rw[cg hy,L6,<-zF,<-eb]
   refine{_,rfl,?_};cases c:decide (n∈y.2.2) with
   | true=>
    rw[yO (ye c)] at e2;refine bW rfl ?_;exists .inl {rfl,_,aH.of h3},?_;exists _,_,rfl,{(()),(),(),()},(),λl nl=>?_;let s4:ax H3 (upd H3 l (.lst ((cV y.1 (y.2.1+1-y.1).toNat).map V.int))):=bj nl;let h4:upd H3 l (.lst ((cV y.1 (y.2.1+1-y.1).toNat).map V.int)) l=some (.lst ((cV y.1 (y.2.1+1-y.1).toNat).map V.int)):=aC;generalize upd H3 l _=H4 at s4 h4 ⊢;let b2:kL r.first r.last 200 (cV y.1 (y.2.1+1-y.1).toNat):=JH () () ();let l1:=bi.1;let l2:=b2.1;refine .inl {D,l,_,_,rfl,rfl,s4 _ _ h3,h4,by rw[za,za];ext,?_};change hN _ _ {_,_,bw nD (s3.trans s4),by rw[aC,<-zk],(bi.app b2).mono (yR _) (yR _) (),e2.symm,rfl}
   | false=>
    rw[yN (of_decide_eq_false c),zV] at e2;refine b9 rfl ?_;change hN _ _ {_,_,s3,h3,bi.mono (yR _) (yR _) (),e2.symm,rfl}
  ·rintro U H3 ⟨bs,w4,s3,h3,bi,eb,rfl⟩
   rw[ul,zN,<-Mp ht] at eb;change kk D bs _ (s1.trans s3) (s1.back nD) h3 (bi.mono (yR _) (yR _) ()) eb
inductive pT (vs:List V) (H:Hp) (Q:VK) (E:XK):Prop
 | mk (v:V) (r:Rep) (c:Bool) (_:vs=[v,.bl c]) (_:Is H (gO r) v) (_:Va r) (_:∀D bs H',ax H H'->H D=none->H' D=some (.lst (bs.map V.int))->kL r.first r.last 18000 bs->bs=Mg c r->Q (.ref D) H')
def qJ:dh P w base 3 T.ji pT:=by
 nomatch T.ji,["repeat","once","times","bars","number"]
 let⟨v,r,c,rfl,iv,rd,kk⟩:=h;let sl:=yC;let⟨a,e,rfl,ha,he⟩:=dP iv;let r5:=rd.2.2.2.2.1;let r4:=rd.2.2.2.1;refine{_,(af (bP 2 qN (bM (pv 0) ae))
  (af (aI (cR (pv 1))
  (ak (aq (bJ (mf T) hr T.iC (ah (pv 0) (ah (pv 2) ag)))))
  aB)
  (af (bP 3 qN (bz ag))
  (af (cj yP rfl (nJ (by rfl) T.cK (ah ae (ah (au aT (pv 2) ae) ag))) (gP 4 qN)
  (ak (bG (bT yD y9 y8 i9 (pv 3) (ah (bJ (mf T) hr T.iC (ah (pv 0) (ah (pv 4) ag))) ag)))))
  (ak (aq (pv 3))))))),?_}
 ac_rfl;left;cases c with
 | true=>
  refine bW rfl ?_;change{_,r,_,rfl,iv,rd,λD bs H' s' n' h' b' e'=>kk D bs H' s' n' h' (b'.mono (yR _) (yR _) ∅) e'}
 | false=>
  refine b9 (by simp) ?_;left
  intros D nD s1 h1 H1
  exists _,_,rfl,{(()),(),(),()},?_;refine Bg (λi U H'=>∃(bs:List Int) (w4:Option V),ax H H'/\H' D=some (.lst (bs.map V.int))/\kL r.first r.last (2000*i) bs/\bs=((cV 1 i).map (kz r)).flatten/\U=[some (.ref a),some (.bl false),some (.int r.times),some (.ref D),w4]) {[],none,s1,h1,{zm _,by simp},rfl,rfl} ?_ ?_
  ·rintro Nx i U H2 hN hi ⟨bs,w4,s2,h2,bi,eb,rfl⟩
   exists .inl {rfl,_,aH.of h2},?_;exists _,r,_,rfl,iv.mono s2,rd,λD3 cs H3 s3 n3 h3 b3 e3=>?_;let l1:=bi.1;let l2:=b3.1;refine .inl {D,D3,_,_,rfl,rfl,s3 _ _ h2,h3,by rw[za,za];ext,?_};change hN _ _ {_,_,bw nD (s2.trans s3),by rw[aC,<-zk],(bi.app b3).mono (yR _) (yR _) (),by rw[eb,e3,Me,zk,xh];simp,rfl}
  ·rintro U H2 ⟨bs,w4,s2,h2,bi,eb,rfl⟩
   rw[show(r.times+1-1).toNat=r.times.toNat from by ext] at eb;change kk D bs _ s2 nD h2 (bi.mono (yR _) (yR _) ()) eb
inductive L0 (C:vF) (vs:List V) (H:Hp) (Q:VK) (E:XK):Prop
 | mk (a:vF) (S:bU) (o:Ow) (f l:Int) (c:Bool) (_:vs=[.ref a,.int f,.int l,.bl c]) (_:bY C H a S o) (_:Rm S) (_:0<=f) (_:f<=200) (_:l<200) (_:∀D bs k H',ax H H'->H D=none->H' D=some (.lst (bs.map V.int))->kL 0 l 4000000 bs->bs=(CP S c l f k).1->l<(CP S c l f k).2->Q (.ref D) H')
def nK {C:vF} (F:Cf K C):dh P w base 4 T.walked (L0 C):=by
 nomatch T.walked,["score","first","last","once","beginning","repeat","bars","bar"]
 let⟨a,S,o,f,l,c,rfl,sc,⟨rd,rl,rp,rb⟩,f0,f2,l2,kk⟩:=h;let sl:=yC;let⟨ub,jm,ho,hub,hjm⟩:=sc.obj;let⟨rv,hre,ilr⟩:=sc.re;let rvl:=aP ilr;refine{_,(af (bP 4 qN ku)
  (af (cj yP rfl (bf (bI (pv 0) rfl)) (gP 5 qN)
  (ak (ly (fC hr) (pv 4) (bM (pv 5) ae) (pv 5) rfl)))
  (af (bP 6 qN (bz ag))
  (af (bP 7 qN (pv 1))
  (af (qB yP (ptr fO (pv 7) (pv 2))
  (ak (aI (bC (E5 (fC hr) (pv 7) (pv 4)))
   (af (bP 5 qN (vT (fC hr) (pv 4) (pv 7) (λ_ _=>rfl)))
    (af (bG (bT yD y9 y8 i9 (pv 6) (ah (oh (ts:=["taken"]) (ys:=["last"]) (js:=[2]) (g:=(bO 0)) (tc:=(jB (e9 (rL λi j=>.bl (decide (i<=j))) (aY 0) (aY 1)))) (te:=(aY 0)) (bf (bJ (qJ T) hr T.ji (ah (pv 5) (ah (pv 3) ag)))) (f9 0) (fM (ptr fO (pv 0) (pv 1))) (pv 0)) ag)))
    (ak (bP 7 qN (au aT (bM (pv 5) ae) ae)))))
   (af (bG (bT yD yF yE bD (pv 6) (ah (pv 7) ag)))
    (ak (bP 7 qN (au aT (pv 7) ae)))))))
  (ak (aq (pv 6)))))))),?_}
 ac_rfl;left
 intros d nd s1 hd H1
 exists a,C,o.dx,_,_,rfl,s1 _ _ ho,F.cls,F.repeats,rfl,?_;exists{_,aH.of (s1 _ _ hre)},?_;refine iM (K:=K) (a:=o.re) (xs:=rv) (λi U H'=>∃(kvs:List (Key×V)) (w5:Option V),ax H H'/\H' d=some (.dK kvs)/\⇑kvs<=i/\T4 S H i kvs/\U=[some (.ref a),some (.int f),some (.int l),some (.bl c),some (.ref d),w5,none,none]) {[],none,s1,hd,zm _,T4.nil,rfl} (λi U H' _ h=>by let⟨_,_,s,_⟩:=h;exact aH.of (s _ _ hre)) ?_ ?_
 ·rintro Nx i x U H2 hN hx ⟨kvs,w5,s2,hk,kl,bg,rfl⟩
  let⟨r,hr',ir⟩:=cS ilr hx;let hi:=(zy.mp hx).1;let⟨ar,er,rfl,har,_⟩:=dP ir;let har2:=s2 _ _ har;let pl:=gM kvs (.inl r.first) (.ref ar);exists d,_,rfl,.inl {_,.inl r.first,hk,rfl,(),rfl},?_;change hN _ _ {_,_,bw nd s2,aC,(),bg.put hr' ir,rfl}
 ·rintro U H2 ⟨kvs,w5,s2,hk,kl,⟨bg,bc⟩,rfl⟩
  rw[rvl,zN] at bc;left
  intros B nB s3 hB H3
  left;refine Dq (λm U H'=>∃(k:Nat) (b:Int) (bs:List Int) (w5:Option V),m=(200-b).toNat/\(CP S c l f k).2=b/\bs=(CP S c l f k).1/\0<=b/\b<=200/\U=[some (.ref a),some (.int f),some (.int l),some (.bl c),some (.ref d),w5,some (.ref B),some (.int b)]/\ax H2 H'/\H' B=some (.lst (bs.map V.int))/\kL 0 l (20000*b.toNat) bs)
   (λU H'=>∃(k:Nat) (bs:List Int) (w5 w7:Option V),l<(CP S c l f k).2/\bs=(CP S c l f k).1/\U=[some (.ref a),some (.int f),some (.int l),some (.bl c),some (.ref d),w5,some (.ref B),w7]/\ax H2 H'/\H' B=some (.lst (bs.map V.int))/\kL 0 l 4000000 bs)
   {_,0,f,[],w5,rfl,rfl,rfl,f0,f2,rfl,s3,hB,{yg _,by simp}} ?_ ?_
  ·rintro m U H4 ⟨k,b,bs,w5,rfl,gk,eb,b0,b2,rfl,s4,h4,bi⟩ N hN
   let l1:=bi.1;let hk4:=s4 _ _ hk;left
   by_cases c1:b<=l
   ·refine bW (zg c1) ?_
    let gs:CP S c l f (k+1)=(bs++(LZ S c b).1.filter (λt=>decide (t<=l)),(LZ S c b).2+1):=by rw[CP,gk,yO c1,<-eb]
    let ge:(CP S c l f (k+1)).1=bs++(LZ S c b).1.filter (λt=>decide (t<=l)):=by rw[gs]
    refine{λU H'=>∃(b':Int) (bs:List Int) (w5:Option V),b'=(LZ S c b).2+1/\bs=(CP S c l f (k+1)).1/\b<b'/\b'<=200/\U=[some (.ref a),some (.int f),some (.int l),some (.bl c),some (.ref d),w5,some (.ref B),some (.int b')]/\ax H2 H'/\H' B=some (.lst (bs.map V.int))/\kL 0 l (20000*b'.toNat) bs,?_,?_}
    ·rintro U' H' ⟨b',bs,w5,y1,y2,z1,z2,rfl,z3,z4,z5⟩
     exact{_,(),k+1,b',bs,w5,rfl,by rw[gs,y1],y2,(),z2,rfl,z3,z4,z5}
    ·left
     refine{d,_,rfl,.inl {kvs,.inl b,.inl hk4,rfl,rfl},?_};refine{_,rfl,?_};cases gv:di kvs (.inl b) with
     | none=>
      rw[KW λr hr' z=>bc r hr' (by rw[z];exact gv)] at ge ⊢;dsimp only at ge;rw[xK,yO (zg c1),List.filter_nil] at ge;refine b9 (by simp) ?_;exists .inl {rfl,_,aH.of h4},?_;exists B,_,_,rfl,rfl,h4,by rw[za];ext,?_
      change{b+1,bs++[b],_,rfl,ge.symm,(),(),rfl,bw nB s4,by rw[aC,zk];rfl,(bi.app (b:=[b]) (m:=1) {zm _,λx hx=>by cases zA.mp hx;exact{(b0),c1}}).mono (yR _) (yR _) ()}
     | some v=>
      let⟨r,hr',rfl,ir⟩:=bg b v gv;let rr:=rd r hr';let⟨r1,r2,r3,_⟩:=id rr;rw[NY rp rd hr'] at ge ⊢;dsimp only at ge;let ir4:=(ir.mono s2).mono s4;let⟨ar,er,rfl,har,_⟩:=dP ir;refine bW rfl ?_;exists d,.ref ar,rfl,.inl {kvs,.inl r.first,.inl hk4,rfl,gv.symm},?_;exists .inl {rfl,_,aH.of h4},?_;exists _,r,c,rfl,ir4,rr,λD5 cs H5 s5 n5 h5 b5 e5=>?_;let cl:=b5.1;exists{_,aH.of h5},?_;refine Ki (rest:=[some (.int l)]) (λt=>decide (t<=l)) () (aH.of h5) {(none),rfl} ?_ ?_
      ·intro t H6 R s6 hR
       change hR _ (ax.refl _)
      intro D6 H6 s6 _ h6;let fb:kL 0 l 18000 (cs.filter λt=>decide (t<=l)):={zM (xj _ _) cl,λx hx=>by
       let⟨x1,x2⟩:=wA.mp hx;exact{Int.le_trans r1 (b5.2 x x1).1,ye x2}}
      rw[<-e5] at ge;generalize cs.filter _=fs at h6 fb ge;let fl:=fb.1;let s46:=s5.trans s6;refine .inl {B,D6,_,_,rfl,rfl,s46 _ _ h4,h6,by rw[za,za];ext,?_};let s7:ax H2 (upd H6 B (.lst (bs.map V.int++fs.map V.int))):=bw nB (s4.trans s46);let h7:upd H6 B (.lst (bs.map V.int++fs.map V.int)) B=some (.lst ((bs++fs).map V.int)):=by rw[aC,zk]
      generalize upd H6 B _=H7 at s7 h7 ⊢;let har7:=s7 _ _ (s2 _ _ har);change{r.last+1,_,_,rfl,ge.symm,(),(),rfl,s7,h7,(bi.app fb).mono (yR _) (yR _) ()}
   ·refine b9 (ze c1) ?_
    exact hN _ _ {k,bs,_,_,(),eb,rfl,s4,h4,bi.mono (yR _) (yR _) ()}
  ·rintro U H4 ⟨k,bs,w5,w7,lk,eb,rfl,s4,h4,bi⟩
   change kk B bs k _ (s2.trans s4) (s2.back nB) h4 bi eb lk
def WC (S:bU):Prop:=∀j,S.bS=some j->(0<=j.tY/\j.tY<⇑S.aL)/\(0<=j.vW/\j.vW<⇑S.aL)/\(0<=j.cY/\j.cY<⇑S.aL)/\∀c,j.fU=some c->0<=c/\c<⇑S.aL
def WT (S:bU) (bs:List Int):Prop:=S.bS=none->∃k,bs=(CP S false ((⇑S.aL:Int)-1) 0 k).1/\(⇑S.aL:Int)-1<(CP S false ((⇑S.aL:Int)-1) 0 k).2
inductive Cb (C:vF) (vs:List V) (H:Hp) (Q:VK) (E:XK):Prop
 | mk (a:vF) (S:bU) (o:Ow) (_:vs=[.ref a]) (_:bY C H a S o) (_:Rm S) (_:1<=⇑S.aL) (_:⇑S.aL<=200) (_:WC S) (_:∀D bs H',ax H H'->H D=none->H' D=some (.lst (bs.map V.int))->kL 0 ((⇑S.aL:Int)-1) 12000000 bs->WT S bs->Q (.ref D) H')
def CF {C:vF} (F:Cf K C):dh P w base 5 T.oG (Cb C):=by
 nomatch T.oG,["score","last","jump","bars"]
 let⟨a,S,o,rfl,sc,rd,b1,b2,jk,kk⟩:=h;let sl:=yC;let⟨ub,jm,ho,hub,hjm⟩:=sc.obj;let⟨bv,hba,ilb⟩:=sc.ba;refine{_,(af (bP 1 qN (au iX (d9 aF T.bB (ah (bI (pv 0) rfl) ag)) ae))
  (af (bP 2 qN (bI (pv 0) rfl))
  (af (aI (bC (cC (pv 2)))
  (ak (aq (bJ (nK T F) hr T.walked (ah (pv 0) (ah ae (ah (pv 1) (ah ky ag)))))))
  aB)
  (af (bP 3 qN (au fP (bJ (nK T F) hr T.walked (ah (pv 0) (ah ae (ah (bM (pv 2) ae) (ah ky ag))))) (bJ (nK T F) hr T.walked (ah (pv 0) (ah (bM (pv 2) ae) (ah (bM (pv 2) ae) (ah ky ag)))))))
  (af (aI (bC (fN (bM (pv 2) ae)))
  (ak (bG (bT yD y9 y8 i9 (pv 3) (ah (bJ (nK T F) hr T.walked (ah (pv 0) (ah (bM (pv 2) ae) (ah (pv 1) (ah ky ag))))) ag))))
  aB)
  (ak (aq (pv 3)))))))),?_}
 ac_rfl;exists a,C,o.dx,_,_,rfl,ho,F.cls,F.aL,rfl,?_;exists o.ba,bv,rfl,.inl (aH.of hba),?_;rw[aP ilb];exists a,C,o.dx,_,_,rfl,ho,F.cls,F.bS,rfl,?_;left;cases ej:S.bS with
 | none=>
  rw[ej] at hjm;unfold dO Is at hjm;subst hjm;refine bW rfl ?_;change{a,S,o,0,_,false,rfl,sc,rd,∅,∅,(),λD bs k H' s' n' h' b' e' l'=>kk D bs H' s' n' h' (b'.mono (yR _) (yR _) ∅) λ_=>{(k),e',l'}}
 | some j=>
  rw[ej] at hjm;let⟨⟨j1,j2⟩,⟨j3,j4⟩,⟨j5,j6⟩,j7⟩:=jk j ej;let⟨aj,rfl,haj⟩:=qS hjm;refine b9 (by simp) ?_;exists a,S,o,0,_,false,rfl,sc,rd,(by decide),(by decide),(),λD1 b1' _ H1 s1 n1 h1 i1 _ _=>?_;let haj1:=s1 _ _ haj;exists a,S,o,_,_,true,rfl,sc.mono s1,rd,(),(),(),λD2 b2' _ H2 s2 n2 h2 i2 _ _=>?_;let l1:=i1.1;let l2:=i2.1;refine{D1,D2,_,_,rfl,rfl,aH.of (s2 _ _ h1),aH.of h2,by rw[za,za];ext,?_};let s02:=s1.trans s2;intro D3 nD3;let n3:=s02.back nD3;let s3:ax H2 (upd H2 D3 (.lst (b1'.map V.int++b2'.map V.int))):=bj nD3;let h3:upd H2 D3 (.lst (b1'.map V.int++b2'.map V.int)) D3=some (.lst ((b1'++b2').map V.int)):=by rw[aC,zk]
  generalize upd H2 D3 _=H3 at s3 h3 ⊢;let s03:=s02.trans s3;let haj3:=s03 _ _ haj;let i3:kL 0 ((⇑S.aL:Int)-1) 8000000 (b1'++b2'):=(i1.mono (yR _) () (zm _)).app (i2.mono (yR _) () (zm _));let l3:=i3.1;left;cases ec:j.fU with
  | none=>
   refine b9 rfl ?_;change kk D3 _ _ s03 n3 h3 (i3.mono (yR _) (yR _) ∅) λz=>by rw[ej] at z;cases z
  | some cc=>
   rw[ec] at haj3;let⟨k1,k2⟩:=j7 cc ec;refine bW rfl ?_;exists .inl {rfl,_,aH.of h3},?_;exists a,S,o,_,_,true,rfl,sc.mono s03,rd,(),(),(),λD4 b4 _ H4 s4 n4 h4 i4 _ _=>?_;let l4:=i4.1;refine .inl {D3,D4,_,_,rfl,rfl,s4 _ _ h3,h4,by rw[za,za];ext,?_};change kk D3 _ _ (bw n3 (s03.trans s4)) n3 (by rw[aC,<-zk]) (i3.app i4) λz=>by rw[ej] at z;cases z
inductive L3 (C:vF) (vs:List V) (H:Hp) (Q:VK) (E:XK):Prop
 | mk (a:vF) (S:bU) (o:Ow) (_:vs=[.ref a]) (_:bY C H a S o) (_:Rm S) (_:1<=⇑S.aL) (_:⇑S.aL<=200) (_:WC S) (_:(∀x∈S.aL,En x)) (_:(∀b,b<⇑S.aL->Ve (S.len b))) (_:∀D us bs H',ax H H'->H D=none->H' D=some (.lst us)->(∀b∈bs,b<⇑S.aL)->⇑bs<=12000000->WT S (bs.map λb:Nat=>(b:Int))->RL (rJ S bs H') (List.range ⇑bs) us->Q (.ref D) H')
def DK {C:vF} (F:Cf K C):dh P w base 6 T.E3 (L3 C):=by
 nomatch T.E3,["score","triples","counts","time","bar"]
 let⟨a,S,o,rfl,sc,rd,b1,b2,jk,bo,lo,kk⟩:=h;let sl:=yC;refine{_,(af (bP 1 qN (bz ag))
  (af (bP 2 qN ku)
  (af (bP 3 qN (bE (ah ae (ah ae ag))))
  (af (cj yP rfl (bf (bJ (CF T F) hr T.oG (ah (pv 0) ag))) (gP 4 qN)
  (af (ly (fC hr) (pv 2) (pv 4) (au aT (AY (fC hr) (pv 2) (pv 4) ae {(rfl),rfl,rfl,rfl}) ae) rfl)
   (af (bG (bT yD yF yE bD (pv 1) (ah (bE (ah (pv 4) (ah (pv 3) (ah (vT (fC hr) (pv 2) (pv 4) (λ_ _=>rfl)) ag)))) ag)))
   (ak (bP 3 qN (bJ (HF T) hr T.added (ah (pv 3) (ah (bJ (mV T F) hr T.jA (ah (pv 0) (ah (pv 4) ag))) ag))))))))
  (ak (aq (pv 1))))))),?_}
 ac_rfl;left
 intros D nD s1 hD H1
 left
 intros d nd s2 hd H2
 exists dm,?_;intros t0 H3 s3 h3;let s03:=(s1.trans s2).trans s3;exists a,S,o,rfl,sc.mono s03,rd,b1,b2,jk,λE zs H4 s4 nE hE iz gn=>?_;let s04:=s03.trans s4;let⟨zl,zin⟩:=iz;generalize gb:zs.map Int.toNat=bs;let bl:⇑bs=⇑zs:=by rw[<-gb,za]
 let zb:∀(i:Nat) (b:Int),zs[i]?=some b->bs[i]?=some b.toNat/\0<=b/\b<⇑S.aL:=λi b hb=>{by rw[<-gb,zK,hb];rfl,by have:=zin b (zC hb);ext}
 let bin:∀b∈bs,b<⇑S.aL:=λb hb=>by
  rw[<-gb] at hb;let⟨z,hz,rfl⟩:=zH.mp hb;have:=zin z hz;ext
 let tok:=Qi lo bin;let eb:bs.map (λb:Nat=>(b:Int))=zs:=by
  rw[<-gb,zB];refine(xA λz hz=>?_).trans (List.map_id zs);have:=zin z hz;show((z.toNat:Nat):Int)=z;ext
 let nDE:D≠E:=λz=>by rw[<-z,s3 _ _ (s2 _ _ hD)] at nE;cases nE
 let ndE:d≠E:=λz=>by rw[<-z,s3 _ _ hd] at nE;cases nE
 let dD:D≠d:=Sc.aZ (s2 _ _ hD) hd (by simp[kindOf]);let nd0:=s1.back nd;exists{_,aH.of hE},?_;refine iM (K:=K) (a:=E) (xs:=zs.map V.int) (λi U H'=>∃(us:List V) (kvs:List (Key×V)) (q:vF) (w4:Option V),U=[some (.ref a),some (.ref D),some (.ref d),some (.ref q),w4]/\ax H H'/\H' E=some (.lst (zs.map V.int))/\H' D=some (.lst us)/\H' d=some (.dK kvs)/\⇑kvs<=i/\Ru (bs.take i) kvs/\H' q=some (jy (GG S (bs.take i)))/\RL (rJ S bs H') (List.range i) us)
  {[],[],t0,none,rfl,s04,hE,s4 _ _ (s3 _ _ (s2 _ _ hD)),s4 _ _ (s3 _ _ hd),zm _,Ru.nil,s4 _ _ h3,rfl} (λi U H' _ h=>by let⟨_,_,_,_,_,_,h,_⟩:=h;exact aH.of h) ?_ ?_
 ·rintro Nx i x U H5 hN hx ⟨us,kvs,q,w4,rfl,s5,hE5,hD5,hd5,kl,kv,hq,rl5⟩
  rw[zK] at hx;cases qr:zs[i]? with
  | none=>rw[qr] at hx;cases hx
  | some z=>
  rw[qr] at hx;simp only[xo,xP] at hx;subst hx;let⟨hb,z0,z1⟩:=zb i z qr;let hi:=(zy.mp qr).1;let ul:=rl5.len;rw[zR] at ul;obtain⟨m,rfl⟩:∃m:Nat,z=(m:Int):={(z.toNat),()}
  rw[x8] at hb;exists .inl {_,.inl hd5},?_;exists _,.inl {_,.inl (m:Int),.inl hd5,rfl,rfl},?_;let ec:=kv m;let tk:=cg hb;let kv6:=kv.put m;rw[ec];let cm:(bs.take (i+1)).count m=(bs.take i).count m+1:=by rw[tk,List.count_append,List.count_singleton_self]
  rw[<-tk] at kv6;generalize (bs.take i).count m=c at cm kv6 ⊢;let ntd:cA (H5 d):=λ_ z=>by rw[hd5] at z;cases z
  let pl:=gM kvs (.inl (m:Int)) (.int ((c:Int)+1));exists d,_,rfl,.inl {_,.inl (m:Int),hd5,rfl,(),rfl},?_;let gm:di (putK kvs (.inl (m:Int)) (.int ((c:Int)+1))) (.inl (m:Int))=some (.int ((c:Int)+1)):=by rw[mH,yO rfl]
  generalize putK kvs (.inl (m:Int)) (.int ((c:Int)+1))=kv2 at kv6 pl gm ⊢;let s6:ax H (upd H5 d (.dK kv2)):=bw nd0 s5;let hd6:upd H5 d (.dK kv2) d=some (.dK kv2):=aC;let hE6:upd H5 d (.dK kv2) E=some (.lst (zs.map V.int)):=by rw[aE ndE.symm];exact hE5
  let hD6:upd H5 d (.dK kv2) D=some (.lst us):=by rw[aE dD];exact hD5
  let hq6:upd H5 d (.dK kv2) q=some (jy (GG S (bs.take i))):=by rw[aE λe=>ntd _ (e▸hq)];exact hq
  let rl6:RL (rJ S bs (upd H5 d (.dK kv2))) (List.range i) us:=rl5.imp λx v z=>z.upd ntd;generalize upd H5 d (.dK kv2)=H6 at s6 hd6 hE6 hD6 hq6 rl6 ⊢;exists .inl {rfl,_,aH.of hD6},?_;exists d,.int ((c:Int)+1),rfl,.inl {_,.inl (m:Int),.inl hd6,rfl,gm.symm},?_;exists by show 3<=sizeLine;ext,?_
  intros p7 H7 s7 h7;let hD7:=s7 _ _ hD6;let ntD:cA (H7 D):=λ_ z=>by rw[hD7] at z;cases z
  refine{D,us,_,rfl,rfl,hD7,(),?_};let s8:ax H (upd H7 D (.lst (us++[.ref p7]))):=bw nD (s6.trans s7);let hD8:upd H7 D (.lst (us++[.ref p7])) D=some (.lst (us++[.ref p7])):=aC;let hE8:upd H7 D (.lst (us++[.ref p7])) E=some (.lst (zs.map V.int)):=by rw[aE nDE.symm];exact s7 _ _ hE6
  let hd8:upd H7 D (.lst (us++[.ref p7])) d=some (.dK kv2):=by rw[aE dD.symm];exact s7 _ _ hd6
  let hq8:upd H7 D (.lst (us++[.ref p7])) q=some (jy (GG S (bs.take i))):=by rw[aE λe=>ntD _ (e▸s7 _ _ hq6)];exact s7 _ _ hq6
  let rl8:RL (rJ S bs (upd H7 D (.lst (us++[.ref p7])))) (List.range (i+1)) (us++[.ref p7]):=by
   rw[List.range_succ];exact RL.snoc (rJ.upd ntD {p7,q,m,rfl,by rw[cm];exact h7,s7 _ _ hq6,hb}) (rl6.imp λx v z=>(z.mono s7).upd ntD)
  generalize upd H7 D (.lst (us++[.ref p7]))=H8 at s8 hD8 hE8 hd8 hq8 rl8 ⊢;exists a,S,o,m,rfl,sc.mono s8,(),bo,λp9 H9 s9 h9=>?_;let ti:=tok i;let⟨⟨t1,t2⟩,t3,t4⟩:=Ul ti ();let⟨⟨y1,y2,y3,y4⟩,_⟩:=lo m ();let⟨_,y5,_⟩:=y1.pos;exists _,_,q,p9,60,10,rfl,s9 _ _ hq8,h9,ti.1,y1,{cq () (),cq () ()},{cq () (),cq () ()},(by decide),λr Ha sa ha=>?_;let s8a:=s9.trans sa;change hN _ _ {_,_,r,_,rfl,s8.trans s8a,s8a _ _ hE8,s8a _ _ hD8,s8a _ _ hd8,(),kv6,by rw[cg hb,Dw];exact ha,rl8.imp λx v z=>z.mono s8a}
 ·rintro U H5 ⟨us,kvs,q,w4,rfl,s5,hE5,hD5,hd5,kl,kv,hq,rl5⟩
  rw[za,<-bl] at rl5;change kk D us bs _ s5 nD hD5 bin () (by rw[eb];exact gn) rl5
theorem Runs.app:∀{a b:List Told} {S S1 S2:bU},Runs S a S1->Runs S1 b S2->Runs S (a++b) S2
 | [],_,_,_,_,h,k=>by
  let e:_=_:=h;subst e;exact k
 | _::_,_,_,_,_,⟨h1,h2,h3,h4,h5⟩,k=>{h1,h2,h3,h4,Runs.app h5 k}
theorem qi:∀{l:List Str} {S:bU},(S.players++l).Nodup->⇑(S.players++l)<=12->pL S->tL S->Runs S (l.map .bF) {S with players:=S.players++l}
 | [],S,_,_,_,_=>by
  show S=_;rw[zV]
 | n::r,S,nd,hl,hd,sz=>by
  let nd':=nd;rw[zT] at nd';rw[zh,zv] at hl;refine{?_,trivial,hd,sz,?_}
  ·unfold fault
   dsimp only;rw[yN (λz=>nd'.2.2 n z n zr rfl),yN ()]
  ·let ih:=qi (l:=r) (S:=bK S (.bF n)) (by show(S.players++[n]++r).Nodup;rw[zF];exact nd) (by show(S.players++[n]++r).length<=12;simp only[zh,zv,xq];ext) hd {by show(S.players++[n]).length<=1000000;rw[zh];simp;ext,sz.2}
   let e:({bK S (.bF n) with players:=(bK S (.bF n)).players++r}:bU)={S with players:=S.players++n::r}:=by
    show({S with players:=S.players++[n]++r}:bU)=_;rw[zF];rfl
   rw[e] at ih;exact ih
theorem AJ:∀{l:List (Str×(Int×Int)×(Int×Int))} {S:bU},((S.ao++l).map (·.1)).Nodup->⇑(S.ao++l)<=12->pL S->tL S->Runs S (l.map λx=>.cI x.1 x.2.1 x.2.2) {S with ao:=S.ao++l}
 | [],S,_,_,_,_=>by
  show S=_;rw[zV]
 | n::r,S,nd,hl,hd,sz=>by
  let nd':=nd;rw[zk,zT] at nd';rw[zh,zv] at hl;refine{?_,trivial,hd,sz,?_}
  ·unfold fault
   dsimp only;rw[yN (λz=>nd'.2.2 n.1 z n.1 (by rw[zj];exact zr) rfl),yN ()]
  ·let ih:=AJ (l:=r) (S:=bK S (.cI n.1 n.2.1 n.2.2)) (by show((S.ao++[n]++r).map _).Nodup;rw[zF];exact nd) (by show(S.ao++[n]++r).length<=12;simp only[zh,zv,xq];ext) hd {sz.1,by show(S.ao++[n]).length<=1000000;rw[zh];simp;ext,sz.2.2}
   let e:({bK S (.cI n.1 n.2.1 n.2.2) with ao:=(bK S (.cI n.1 n.2.1 n.2.2)).ao++r}:bU)={S with ao:=S.ao++n::r}:=by
    show({S with ao:=S.ao++[n]++r}:bU)=_;rw[zF];rfl
   rw[e] at ih;exact ih
theorem DF:∀{l:List Sc.Nv} {S:bU},⇑(S.aL++l)<=200->pL S->tL S->Runs S (l.map .bar) {S with aL:=S.aL++l}
 | [],S,_,_,_=>by
  show S=_;rw[zV]
 | n::r,S,hl,hd,sz=>by
  rw[zh,zv] at hl;refine{?_,trivial,hd,sz,?_}
  ·unfold fault
   dsimp only;rw[yN ()]
  ·let ih:=DF (l:=r) (S:=bK S (.bar n)) (by show(S.aL++[n]++r).length<=200;simp only[zh,zv,xq];ext) hd {sz.1,sz.2.1,sz.2.2.1,by show(S.aL++[n]).length<=1000000;rw[zh];simp;ext,sz.2.2.2.2}
   let e:({bK S (.bar n) with aL:=(bK S (.bar n)).aL++r}:bU)={S with aL:=S.aL++n::r}:=by
    show({S with aL:=S.aL++[n]++r}:bU)=_;rw[zF];rfl
   rw[e] at ih;exact ih
theorem AI:∀{l:List ((Int×Str)×List Item)} {S:bU},((S.aJ++l).map (·.1)).Nodup->⇑(S.aJ++l)<=1000000->RX S->(∀x∈l,0<=x.1.1/\x.1.1<⇑S.aL/\x.1.2∈S.players/\⇑x.2<=40/\(∀it∈x.2,P8 it.2)/\jX x.2=S.len x.1.1.toNat)->pL S->tL S->Runs S (l.map λx=>.aJ x.1.1 x.1.2 x.2) {S with aJ:=S.aJ++l}
 | [],S,_,_,_,_,_,_=>by
  show S=_;rw[zV]
 | n::r,S,nd,hl,lu,hx,hd,sz=>by
  let nd':=nd;rw[zk,zT] at nd';rw[zh,zv] at hl;let⟨b0,b1,pin,il,iok,isum⟩:=hx n zr;refine{?_,{(b0),(),iok,lu},hd,sz,?_}
  ·unfold fault
   dsimp only;rw[yN (λz=>nd'.2.2 n.1 z n.1 (by rw[zj];exact zr) rfl),yN (λz=>z pin),yN,yN (λz=>z isum),yN ()];intro z;apply z;unfold bU.has;simp[b1]
  ·let ih:=AI (l:=r) (S:=bK S (.aJ n.1.1 n.1.2 n.2)) (by show((S.aJ++[n]++r).map _).Nodup;rw[zF];exact nd) (by show(S.aJ++[n]++r).length<=1000000;simp only[zh,zv,xq];ext) lu (λx h=>hx x (zp _ h)) hd {sz.1,sz.2.1,sz.2.2.1,sz.2.2.2.1,by show(S.aJ++[n]).length<=1000000;rw[zh];simp;ext,sz.2.2.2.2.2}
   let e:({bK S (.aJ n.1.1 n.1.2 n.2) with aJ:=(bK S (.aJ n.1.1 n.1.2 n.2)).aJ++r}:bU)={S with aJ:=S.aJ++n::r}:=by
    show({S with aJ:=S.aJ++[n]++r}:bU)=_;rw[zF];rfl
   rw[e] at ih;exact ih
def G7 {S:bU} {u:Int×Int} (hn:S.aG=none) (hb:⇑S.aL≠0) (hs:u.1*(S.aQ 0).2<(S.aQ 0).1*u.2) (no:S.aJ=[]) (zu:B6 8999 u) (lu:RX S) (hd:pL S) (sz:tL S):Runs S [.aG u] {S with aG:=some u}:=by
 refine{?_,{zu,lu,by rw[no];exact yg _},hd,sz,rfl};unfold fault;dsimp only;rw[yN (by rw[hn];simp),yN hb,yN (λz=>z hs),yN (by rw[no];simp)]
theorem tQ:∀{l:List (Str×List Str)} {S:bU},((S.aM++l).map (·.1)).Nodup->((S.aM++l).map (·.2)).flatten.Nodup->(∀x∈l,∀p∈x.2,p∈S.players)->(∀x∈l,⇑x.2<=1000)->⇑(S.aM++l)<=1000000->pL S->tL S->Runs S (l.map λx=>.cu x.1 x.2) {S with aM:=S.aM++l}
 | [],S,_,_,_,_,_,_,_=>by
  show S=_;rw[zV]
 | n::r,S,nd,fd,pin,pl,hl,hd,sz=>by
  let nd':=nd;let fd':=fd;rw[zk,zT] at nd';rw[zk,xh,zj,ya,zT] at fd';rw[zh,zv] at hl;refine{?_,pl n zr,hd,sz,?_}
  ·unfold fault
   dsimp only;let pn:n.2.Nodup:=(zT.mp fd'.2.1).1;let p2:¬(S.aM.any λq=>n.2.any λp=>decide (p∈q.2))=true:=λz=>by
    let⟨q,hq,z⟩:=yo.mp z;let⟨p,hp,z⟩:=yo.mp z;exact fd'.2.2 p (wm.mpr {q.2,zP (f:=λx:Str×List Str=>x.2) hq,ye z}) p (zJ _ hp) rfl
   let p3:¬(n.2.any λp=>!decide (p∈S.players))=true:=λz=>by
    let⟨p,hp,z⟩:=yo.mp z;rw[zg (pin n zr p hp)] at z;cases z
   rw[yN (λz=>nd'.2.2 n.1 z n.1 (by rw[zj];exact zr) rfl),yN (λz=>z pn),yN p2,yN p3]
  ·let ih:=tQ (l:=r) (S:=bK S (.cu n.1 n.2)) (by show((S.aM++[n]++r).map _).Nodup;rw[zF];exact nd) (by show((S.aM++[n]++r).map _).flatten.Nodup;rw[zF];exact fd) (λx h=>pin x (zp _ h)) (λx h=>pl x (zp _ h)) (by show(S.aM++[n]++r).length<=1000000;simp only[zh,zv,xq];ext) hd {sz.1,sz.2.1,by show(S.aM++[n]).length<=1000000;rw[zh];simp;ext,sz.2.2.2}
   let e:({bK S (.cu n.1 n.2) with aM:=(bK S (.cu n.1 n.2)).aM++r}:bU)={S with aM:=S.aM++n::r}:=by
    show({S with aM:=S.aM++[n]++r}:bU)=_;rw[zF];rfl
   rw[e] at ih;exact ih
def OS {base:List (Str×List (Int×Str))} {p:Str} (h:p∉base.map (·.1)):base.lookup p=none:=by
 induction base with
 | nil=>rfl
 | cons x r ih=>
  rw[zj,zD,not_or] at h;rw[yq,show(p == x.1)=false from by simp;exact h.1];exact ih h.2
def Mx {base:List (Str×List (Int×Str))} {p:Str} {acc:List (Int×Str)} (h:p∉base.map (·.1)):(base++[(p,acc)]).lookup p=some acc:=by
 induction base with
 | nil=>rw[List.nil_append,yq,wk]
 | cons x r ih=>
  rw[zj,zD,not_or] at h;rw[wU,yq,show(p == x.1)=false from by simp;exact h.1];exact ih h.2
def PN {base:List (Str×List (Int×Str))} {p:Str} {acc:List (Int×Str)} {e:Int×Str} (h:p∉base.map (·.1)):eU (base++[(p,acc)]) p e=base++[(p,acc++[e])]:=by
 unfold eU;rw[yO (by rw[zk];exact zI _ (zA.mpr rfl)),zk];let er:(base.map λq:Str×List (Int×Str)=>if q.1=p then(q.1,q.2++[e]) else q)=base:=by
  conv=>rhs;rw[<-List.map_id base]
  refine xA λq hq=>?_;rw[yN (λz=>h (by rw[<-z];exact zP (f:=λx:Str×List (Int×Str)=>x.1) hq))];rfl
 rw[er];simp
def DU {S:bU} {p:Str} {acc:List (Int×Str)} {h:Int×Str} (hl:(S.holds.lookup p).getD []=acc) (asc:∀a∈acc,a.1<h.1) (al:⇑acc<20) (hp:p∈S.players) (hb:h.1<⇑S.aL) (hi:h.2∈S.ao.map (·.1)):fault S (.holds p h.1 h.2)=none:=by
 unfold fault;dsimp only;rw[hl];let c1:¬(match acc.getLast? with | some q=>decide (h.1<=q.1) | none=>false)=true:=by
  cases q:acc.getLast? with
  | none=>simp
  | some x=>
   have:=asc x (vb q);simp;exact this
 rw[yN (by
  cases q:acc.getLast? with
  | none=>simp
  | some x=>
   have:=asc x (vb q);simp;exact this),yN (λz=>z hp),yN (λz=>z hi),yN (λz=>z (by unfold bU.has;simp[hb])),yN ()]
theorem G8 {p:Str} {base:List (Str×List (Int×Str))} (nb:p∉base.map (·.1)) (nd:(base.map (·.1)).Nodup) (bl:⇑base<=999999) (bb:∀q∈base,⇑q.2<=1000000):∀{row acc:List (Int×Str)} {S:bU},S.holds=base++[(p,acc)]->((acc++row).map (·.1)).Pairwise (·<·)->⇑(acc++row)<=20->p∈S.players->
  (∀h∈row,h.1<⇑S.aL/\h.2∈S.ao.map (·.1))->tL S->Runs S (row.map λh=>.holds p h.1 h.2) {S with holds:=base++[(p,acc++row)]}
 | [],acc,S,eS,_,_,_,_,_=>by
  show S=_;rw[zV,<-eS]
 | h::r,acc,S,eS,asc,al,hp,hx,sz=>by
  let⟨hb,hi⟩:=hx h zr;let asc':=asc;rw[zk,zU] at asc';rw[zh,zv] at al;let hd:pL S:=by
   refine{?_,?_,?_}
   ·rw[eS,zk,zT]
    exact{nd,by simp,λx hx y hy e=>by simp at hy;subst hy;subst e;exact nb hx}
   ·rw[eS,zh];simp;ext
   ·intro q hq
    rw[eS] at hq;rcases zG.mp hq with z | z
    ·exact bb q z
    ·rw[zA.mp z];show ⇑acc<=1000000;ext
  refine{DU (acc:=acc) (by rw[eS,Mx nb];rfl) (λa ha=>asc'.2.2 a.1 (zP (f:=λx:Int×Str=>x.1) ha) h.1 (by rw[zj];exact zr)) () hp hb hi,trivial,hd,sz,?_};let ih:=G8 nb nd bl bb (row:=r) (acc:=acc++[h]) (S:=bK S (.holds p h.1 h.2)) (by show eU S.holds p (h.1,h.2)=_;rw[eS,PN nb]) (by rw[zF];exact asc) (by simp only[zh,zv,xq];ext) hp (λx hx'=>hx x (zp _ hx')) sz;let e:({bK S (.holds p h.1 h.2) with holds:=base++[(p,acc++[h]++r)]}:bU)={S with holds:=base++[(p,acc++h::r)]}:=by
   show({S with holds:=base++[(p,acc++[h]++r)]}:bU)=_;rw[zF];rfl
  rw[e] at ih;exact ih
theorem AK:∀{l:List (Str×List (Int×Str))} {S:bU},((S.holds++l).map (·.1)).Nodup->⇑(S.holds++l)<=999999->(∀x∈l,x.2≠[]/\⇑x.2<=20/\(x.2.map (·.1)).Pairwise (·<·)/\x.1∈S.players/\∀h∈x.2,h.1<⇑S.aL/\h.2∈S.ao.map (·.1))->pL S->tL S->
  Runs S (l.map λx=>x.2.map λh=>Told.holds x.1 h.1 h.2).flatten {S with holds:=S.holds++l}
 | [],S,_,_,_,_,_=>by
  show S=_;rw[zV]
 | x::r,S,nd,hl,hx,hd,sz=>by
  let⟨ne,xl,asc,hp,hh⟩:=hx x zr;let⟨h,t,et⟩:=List.exists_cons_of_ne_nil ne;let nd':=nd;rw[zk,zT] at nd';let nb:x.1∉S.holds.map (·.1):=λz=>nd'.2.2 x.1 z x.1 (by rw[zj];exact zr) rfl;rw[zh,zv] at hl;rw[zj,ya];refine Runs.app (S1:={S with holds:=S.holds++[x]}) ?_ ?_
  ·rw[et] at xl asc hh ⊢
   let⟨hb,hi⟩:=hh h zr;refine{DU (acc:=[]) (by rw[OS nb];rfl) (by simp) (by simp) hp hb hi,trivial,hd,sz,?_};let ea:bK S (.holds x.1 h.1 h.2)={S with holds:=S.holds++[(x.1,[h])]}:=by
    show({S with holds:=eU S.holds x.1 (h.1,h.2)}:bU)=_;unfold eU;rw[yN nb]
   rw[ea];let rr:=G8 (p:=x.1) nb hd.1 () hd.2.2 (row:=t) (acc:=[h]) (S:={S with holds:=S.holds++[(x.1,[h])]}) rfl asc xl hp (λy hy=>hh y (zp _ hy)) sz;let ex:x=(x.1,[h]++t):=by rw[List.singleton_append,<-et]
   let e2:({({S with holds:=S.holds++[(x.1,[h])]}:bU) with holds:=S.holds++[(x.1,[h]++t)]}:bU)={S with holds:=S.holds++[x]}:=by rw[<-ex]
   rw[e2] at rr;exact rr
  ·let ih:=AK (l:=r) (S:={S with holds:=S.holds++[x]}) (by show((S.holds++[x]++r).map _).Nodup;rw[zF];exact nd) (by show(S.holds++[x]++r).length<=999999;simp only[zh,zv,xq];ext) (λy hy=>hx y (zp _ hy)) ?_ sz
   ·let e:({({S with holds:=S.holds++[x]}:bU) with holds:=S.holds++[x]++r}:bU)={S with holds:=S.holds++x::r}:=by rw[zF];rfl
    exact e▸ih
   ·refine{?_,?_,?_}
    ·show((S.holds++[x]).map _).Nodup
     have:=List.Nodup.sublist (List.Sublist.map (λx:Str×List (Int×Str)=>x.1) (List.Sublist.append (List.Sublist.refl S.holds) (List.singleton_sublist.mpr zr))) nd;exact this
    ·show(S.holds++[x]).length<=1000000
     rw[zh];simp;ext
    ·intro q hq
     let hq':q∈S.holds++[x]:=hq;rcases zG.mp hq' with z | z
     ·exact hd.2.2 q z
     ·rw[zA.mp z];ext
def Ab (n:Nat):List Rep->List Rep->Prop
 | _,[]=>True
 | rs,r::l=>(∀b∈[r.first,r.last]++r.ends.map (·.1),b<(n:Int))/\kX rs r=true/\(Jp r.ends<64/\⇑r.ends<=1000/\-1000000<=r.times/\r.times<=1000000)/\Ab n (rs++[r]) l
def O6 {S:bU} {bs:List Int} (h:∀b∈bs,b<(⇑S.aL:Int)):S.has bs=true:=yp.mpr λb hb=>zg (h b hb)
theorem DD:∀{l:List Rep} {S:bU},S.bS=none->Ab ⇑S.aL S.repeats l->⇑(S.repeats++l)<=20->pL S->tL S->Runs S (l.map .rep) {S with repeats:=S.repeats++l}
 | [],S,_,_,_,_,_=>by
  show S=_;rw[zV]
 | r::l,S,nj,⟨h1,h2,h3,h4⟩,hl,hd,sz=>by
  rw[zh,zv] at hl;refine{?_,h3,hd,sz,?_}
  ·unfold fault
   dsimp only;rw[yN (λz=>z (O6 h1)),yN (by rw[nj];simp),yN (λz=>z h2),yN ()]
  ·let ih:=DD (l:=l) (S:=bK S (.rep r)) nj h4 (by show(S.repeats++[r]++l).length<=20;simp only[zh,zv,xq];ext) hd {sz.1,sz.2.1,sz.2.2.1,sz.2.2.2.1,sz.2.2.2.2.1,by show(S.repeats++[r]).length<=1000000;rw[zh];simp;ext}
   let e:({bK S (.rep r) with repeats:=(bK S (.rep r)).repeats++l}:bU)={S with repeats:=S.repeats++r::l}:=by
    show({S with repeats:=S.repeats++[r]++l}:bU)=_;rw[zF];rfl
   rw[e] at ih;exact ih
def Mb {S:bU} {j:Jump} (nj:S.bS=none) (hb:∀b∈[j.tY,j.vW,j.cY]++j.fU.toList,b<(⇑S.aL:Int)) (hf:gN S.repeats j=true) (ro:Ge S) (hd:pL S) (sz:tL S):Runs S [.bS j] {S with bS:=some j}:=by
 refine{?_,ro,hd,sz,rfl};unfold fault;dsimp only;rw[yN (by rw[nj];simp),yN (λz=>z (O6 hb)),yN (λz=>z hf)]
structure WL (S:bU):Prop where
 pn:S.players.Nodup
 pl:⇑S.players<=12
 W5:(S.ao.map (·.1)).Nodup
 il:⇑S.ao<=12
 sn:(S.aM.map (·.1)).Nodup
 sf:(S.aM.map (·.2)).flatten.Nodup
 sp:∀x∈S.aM,∀p∈x.2,p∈S.players
 sl:∀x∈S.aM,⇑x.2<=1000
 sc:⇑S.aM<=1000000
 bl:⇑S.aL<=200
 lu:RX S
 up:∀u,S.aG=some u->⇑S.aL≠0/\u.1*(S.aQ 0).2<(S.aQ 0).1*u.2/\B6 8999 u
 hn:(S.holds.map (·.1)).Nodup
 hl:⇑S.holds<=999999
 hx:∀x∈S.holds,x.2≠[]/\⇑x.2<=20/\(x.2.map (·.1)).Pairwise (·<·)/\x.1∈S.players/\∀h∈x.2,h.1<⇑S.aL/\h.2∈S.ao.map (·.1)
 nn:(S.aJ.map (·.1)).Nodup
 nl:⇑S.aJ<=1000000
 nx:∀x∈S.aJ,0<=x.1.1/\x.1.1<⇑S.aL/\x.1.2∈S.players/\⇑x.2<=40/\(∀it∈x.2,P8 it.2)/\jX x.2=S.len x.1.1.toNat
 rf:Ab ⇑S.aL [] S.repeats
 rl:⇑S.repeats<=20
 ro:Ge S
 ju:∀j,S.bS=some j->(∀b∈[j.tY,j.vW,j.cY]++j.fU.toList,b<(⇑S.aL:Int))/\gN S.repeats j=true
def G9 {S:bU} (V:WL S):Runs {} (dJ S) S:=by
 let hd0:∀T:bU,T.holds=[]->pL T:=λT e=>by
  refine{by rw[e];exact wa,by rw[e];exact yg _,λq hq=>by rw[e] at hq;cases hq}
 let hdS:∀T:bU,T.holds=S.holds->pL T:=λT e=>by
  refine{by rw[e];exact V.hn,by rw[e];have:=V.hl;ext,λq hq=>?_};rw[e] at hq;have:=(V.hx q hq).2.1;ext
 let b1:=V.pl;let b2:=V.il;let b3:=V.sc;let b4:=V.bl;let b5:=V.nl;let b6:=V.rl;let szP:∀T:bU,(T.players=[]\/T.players=S.players)->(T.ao=[]\/T.ao=S.ao)->(T.aM=[]\/T.aM=S.aM)->(T.aL=[]\/T.aL=S.aL)->(T.aJ=[]\/T.aJ=S.aJ)->(T.repeats=[]\/T.repeats=S.repeats)->tL T:=λT q1 q2 q3 q4 q5 q6=>by
  refine{?_,?_,?_,?_,?_,?_}
  ·rcases q1 with e | e <;> rw[e] <;> first | exact yg _ | ext
  ·rcases q2 with e | e <;> rw[e] <;> first | exact yg _ | ext
  ·rcases q3 with e | e <;> rw[e] <;> first | exact yg _ | ext
  ·rcases q4 with e | e <;> rw[e] <;> first | exact yg _ | ext
  ·rcases q5 with e | e <;> rw[e] <;> first | exact yg _ | ext
  ·rcases q6 with e | e <;> rw[e] <;> first | exact yg _ | ext
 let r1:=qi (l:=S.players) (S:={}) V.pn b1 (hd0 _ rfl) (szP _ (.inl rfl) (.inl rfl) (.inl rfl) (.inl rfl) (.inl rfl) (.inl rfl));let r2:=AJ (l:=S.ao) (S:={players:=S.players}) V.W5 b2 (hd0 _ rfl) (szP _ (.inr rfl) (.inl rfl) (.inl rfl) (.inl rfl) (.inl rfl) (.inl rfl));let r3:=tQ (l:=S.aM) (S:={players:=S.players,ao:=S.ao}) V.sn V.sf V.sp V.sl b3 (hd0 _ rfl) (szP _ (.inr rfl) (.inr rfl) (.inl rfl) (.inl rfl) (.inl rfl) (.inl rfl));let r4:=DF (l:=S.aL) (S:={players:=S.players,ao:=S.ao,aM:=S.aM}) b4 (hd0 _ rfl) (szP _ (.inr rfl) (.inr rfl) (.inr rfl) (.inl rfl) (.inl rfl) (.inl rfl));let r5:Runs {players:=S.players,ao:=S.ao,aM:=S.aM,aL:=S.aL} (S.aG.toList.map .aG) {players:=S.players,ao:=S.ao,aM:=S.aM,aL:=S.aL,aG:=S.aG}:=by
  cases q:S.aG with
  | none=>exact rfl
  | some u=>
   let⟨u1,u2,u3⟩:=V.up u q;exact G7 (S:={players:=S.players,ao:=S.ao,aM:=S.aM,aL:=S.aL}) rfl u1 u2 rfl u3 V.lu (hd0 _ rfl) (szP _ (.inr rfl) (.inr rfl) (.inr rfl) (.inr rfl) (.inl rfl) (.inl rfl))
 let r6:=AK (l:=S.holds) (S:={players:=S.players,ao:=S.ao,aM:=S.aM,aL:=S.aL,aG:=S.aG}) V.hn V.hl V.hx (hd0 _ rfl) (szP _ (.inr rfl) (.inr rfl) (.inr rfl) (.inr rfl) (.inl rfl) (.inl rfl));let r7:=AI (l:=S.aJ) (S:={players:=S.players,ao:=S.ao,aM:=S.aM,aL:=S.aL,aG:=S.aG,holds:=S.holds}) V.nn b5 V.lu V.nx (hdS _ rfl) (szP _ (.inr rfl) (.inr rfl) (.inr rfl) (.inr rfl) (.inl rfl) (.inl rfl));let r8:=DD (l:=S.repeats) (S:={players:=S.players,ao:=S.ao,aM:=S.aM,aL:=S.aL,aG:=S.aG,holds:=S.holds,aJ:=S.aJ}) rfl V.rf b6 (hdS _ rfl) (szP _ (.inr rfl) (.inr rfl) (.inr rfl) (.inr rfl) (.inr rfl) (.inl rfl));let r9:Runs {players:=S.players,ao:=S.ao,aM:=S.aM,aL:=S.aL,aG:=S.aG,holds:=S.holds,aJ:=S.aJ,repeats:=S.repeats} (S.bS.toList.map .bS) S:=by
  let⟨s1,s2,s3,s4,s5,s6,s7,s8,s9⟩:=S;cases s9 with
  | none=>exact rfl
  | some j=>
   let⟨j1,j2⟩:=V.ju j rfl;exact Mb (S:={players:=s1,ao:=s2,aM:=s3,aL:=s4,aG:=s5,holds:=s6,aJ:=s7,repeats:=s8}) rfl j1 j2 V.ro (hdS _ rfl) (szP _ (.inr rfl) (.inr rfl) (.inr rfl) (.inr rfl) (.inr rfl) (.inr rfl))
 exact Runs.app (Runs.app (Runs.app (Runs.app (Runs.app (Runs.app (Runs.app r1 r2) r3) r4) r5) r6) r7) (Runs.app r8 r9)
inductive uz (K:yB) (vs:List V) (H:Hp) (Q:VK) (E:XK):Prop
 | mk (a:vF) (ns:List Int) (k:Int) (_:vs=[.ref a,.int k]) (_:aH K H a (ns.map V.int)) (_:0<=k) (_:⇑ns<=1000) (_:∀c:Int,Q (.int c) H)
def b7:dh P w base 1 T.cz (uz K):=by
 nomatch T.cz,["_law_script","_law_k"]
 let⟨a,ns,k,rfl,hS,h0,hl,kk⟩:=h;refine{_,(af (aI (ptr fe (pv 1) (d9 aF T.bB (ah (pv 0) ag)))
  (ak (aq (fw (pv 0) (pv 1))))
  aB)
  (ak (aq ae))),?_}
 exists a,_,rfl,.inl hS,?_;left;refine uR (λc1=>?_) (λc1=>?_)
 ·let c2:=ye c1
  rw[za] at c2;change{a,_,_,_,rfl,rfl,hS,PK h0 c2,kk _}
 ·left
  exact kk _
inductive rX (vs:List V) (H:Hp) (Q:VK) (E:XK):Prop
 | mk (c m:Int) (_:vs=[.int c,.int m]) (_:0<=c) (_:c<1099511627776) (_:0<=m) (_:m<=12) (_:∀(ns:List Str) p H',⇑ns=m.toNat->B4 ns->ax H H'->H' p=some (.lst (ns.map V.str))->Q (.ref p) H')
def eQ:dh P w base 1 T.d6 rX:=by
 nomatch T.d6,["_law_cell","_law_many","_law_letters","_law_first","_law_size","_law_place","_law_stem"]
 let⟨c,m,rfl,c0,c1,m0,m1,kk⟩:=h;let sl:=yC;refine{_,(af (bP 2 qN aN)
  (af (bP 3 qN (au aR (au aV (pv 0) ae) ae))
  (af (aI (PW.pt (dt (ptr de (au aR (pv 0) ae) ae) (cW (ptr fe (pv 1) ae))))
  (ak (aq (oh (ts:=["_law_k"]) (ys:=["_law_many","_law_letters","_law_first"]) (js:=[1,2,3]) (te:=(e9 RG (e9 Qx (aY 2) (aY 3)) (e9 (rL λi j=>.int (i-j)) (aY 1) (aY 0)))) (dj (by rfl) T.cK (aa (pv 1) ag)) (f9 0) bq (au QL (AW Fq (pv 2) (pv 3) (λ_ _=>rfl)) (au iX (pv 1) (pv 0))))))
  aB)
  (af (bP 4 qN (au aR (au aV (pv 0) ae) ae))
  (af (bP 5 qN (au aR (au aV (pv 0) ae) (au aT (pv 4) ae)))
  (af (bP 6 qN (bT yG yI yH gA aN (aa (oh (ts:=["_law_k"]) (ys:=["_law_cell","_law_letters"]) (js:=[0,2]) (te:=(e9 Qx (e9 (λx y H Q=>∃i j,x=.str i/\y=.str j/\⇑i+⇑j<=sizeLine/\Q (.str (i++j)) H) (aY 2) (tC (.str "0123456789"))) (e9 (rI (λ_ j=>0<j) λi j=>.int (i%j)) (e9 (rL λi j=>.int (i+j)) (e9 (rI T3 λi j=>.int (i/j)) (aY 1) (tC (.int (16224)))) (e9 (rI Nl λi j=>.int (i*j)) (tC (.int (7))) (aY 0))) (tC (.int (36)))))) (dj (by rfl) T.cK (aa (pv 4) ag)) (f9 0) bq (AW Fq (au bV (pv 2) aN) (au aR (au aT (au aV (pv 1) ae) (au dS ae (pv 0))) ae) (λ_ _=>rfl))) ag)))
  (ak (aq (oh (ts:=["_law_k"]) (ys:=["_law_letters","_law_first","_law_place","_law_stem"]) (js:=[2,3,5,6]) (te:=(e9 (λx y H Q=>∃i j,x=.str i/\y=.str j/\⇑i+⇑j<=sizeLine/\Q (.str (i++j)) H) (e9 (λx y H Q=>∃i j,x=.str i/\y=.str j/\⇑i+⇑j<=sizeLine/\Q (.str (i++j)) H) (V1 SD (aY 4) Eu (NO (aY 3))) (e9 Qx (aY 1) (e9 (rI (λ_ j=>0<j) λi j=>.int (i%j)) (e9 (rL λi j=>.int (i+j)) (aY 2) (e9 (rI Nl λi j=>.int (i*j)) (tC (.int (5))) (aY 0))) (tC (.int (26)))))) (V1 SD (aY 4) (NO (aY 3)) Eu))) (dj (by rfl) T.cK (aa (pv 1) ag)) (f9 0) bq (au bV (au bV (dn Jv (pv 4) dR (dQ (pv 3))) (AW Fq (pv 1) (au aR (au aT (pv 2) (au dS ae (pv 0))) ae) (λ_ _=>rfl))) (dn Jv (pv 4) (dQ (pv 3)) dR))))))))))),?_}
 ac_rfl;left
 by_cases q:c%4=0
 ·refine bW (by show decide (V.int (c%4)=V.int 0)=true;rw[q];rfl) ?_
  left;refine bW (zg ()) ?_;exists by ext,(),?_
  let f0:0<=c/4%26:=zw _ ∅;let f1:c/4%26<26:=zt _ ∅;refine lJ (λk=>.str (oX {#[97+(c/4%26).toNat]} (m.toNat-k))) (λU=>∃v,U=[v,some (.int m),some (.str lets),some (.int (c/4%26))]) () {(none),rfl} ?_ ?_
  ·rintro k U H4 R hk s4 ⟨_,rfl⟩ r
   exists lets,_,_,rfl,rfl,(by show 26<=sizeLine;ext),Le f0 f1,?_;exists by ext,(),(by show 1<=1000;decide),?_
   refine r _ _ _ (ax.refl _) ?_ {_,rfl};rw[show(m-(0+(k:Int))).toNat=m.toNat-k from by ext];exact eI
  ·intro D vs H4 s4 _ hD il
   let e:(List.range m.toNat).map (λk=>Dt.str (oX {#[97+(c/4%26).toNat]} (m.toNat-k)))=((List.range m.toNat).map λk=>oX {#[97+(c/4%26).toNat]} (m.toNat-k)).map Dt.str:=by rw[zB];rfl
   rw[e] at il;rw[dG il] at hD;exact kk _ D H4 (by rw[za,zR]) (Mu () (OW f0 f1)) s4 hD
 ·refine b9 (by show decide (V.int (c%4)=V.int 0)=false;exact ze λz=>q (V.int.inj z)) ?_
  let f0:0<=c/4%26:=zw _ ∅;let f1:c/4%26<26:=zt _ ∅;let z0:0<=c/104%12:=zw _ ∅;let z1:c/104%12<12:=zt _ ∅;let y0:0<=c/1248%(c/104%12+1):=zw _ ();let y1:c/1248%(c/104%12+1)<c/104%12+1:=zt _ ();let x0:0<=c/16224:=zW c0 ∅;let x1:c/16224<=c:=zX _ c0;exists by show 0<c/104%12+1;ext,?_
  exists by ext,(),?_
  refine lJ (λk=>.str {#[Qn ((c/16224+7*(0+(k:Nat)))%36)]}) (λU=>∃v,U=[v,some (.int c),some (.str lets)]) () {(none),rfl} ?_ ?_
  ·rintro k U H4 R hk s4 ⟨_,rfl⟩ r
   exists by show 26+10<=sizeLine;ext,?_
   left;let w0:0<=(c/16224+7*(0+(k:Int)))%36:=zw _ ∅;let w1:(c/16224+7*(0+(k:Int)))%36<36:=zt _ ∅;refine{lets ++"0123456789",_,_,rfl,rfl,by show 36<=sizeLine;ext,(N2 w0 w1).1,?_};exact r _ _ _ (ax.refl _) eI {_,rfl}
  ·intro D vs H4 s4 _ hD il
   let e:(List.range (c/104%12).toNat).map (λk:Nat=>Dt.str {#[Qn ((c/16224+7*(0+(k:Nat)))%36)]})=(mM c (c/104%12).toNat).map Dt.str:=by unfold mM;rw[zB];rfl
   rw[e] at il;rw[dG il] at hD;refine{"",D,mM c (c/104%12).toNat,rfl,rfl,aH.of hD,by rw[NV];ext,?_};exists by ext,(),?_
   let sln:=NX c (c/104%12).toNat;let ssg:=NW (c:=c) (n:=(c/104%12).toNat);generalize hst:Str.join "" (mM c (c/104%12).toNat)=stem at sln ssg;obtain⟨pn,hpn⟩:∃n:Nat,c/1248%(c/104%12+1)=(n:Int):={(c/1248%(c/104%12+1)).toNat,()}
   obtain⟨fn,hfn⟩:∃n:Nat,c/4%26=(n:Int):={(c/4%26).toNat,()}
   let pb:pn<=⇑stem:=()
   let l1:⇑(Txt.slice stem none (some (pn:Int)))<=11:=by
    rw[<-show _=⇑(Txt.slice stem none (some (pn:Int))) from yQ,GR stem pb,zQ];ext
   let l2:⇑(Txt.slice stem (some (pn:Int)) none)<=11:=by
    rw[<-show _=⇑(Txt.slice stem (some (pn:Int)) none) from yQ,oO stem pb,xD,show ⇑stem.cps.toList=⇑stem from yQ];ext
   refine lJ (λk=>.str (Txt.slice stem none (some (pn:Int))++{#[97+(fn+5*k)%26]}++Txt.slice stem (some (pn:Int)) none)) (λU=>∃v,U=[v,some (.str lets),some (.int (fn:Int)),some (.int (pn:Int)),some (.str stem)]) () {none,by rw[<-hpn,<-hfn];rfl} ?_ ?_
   ·rintro k U H5 R hk s5 ⟨_,rfl⟩ r
    exists by ext,?_
    left;let w0:0<=((fn:Int)+5*(0+(k:Int)))%26:=zw _ ∅;let w1:((fn:Int)+5*(0+(k:Int)))%26<26:=zt _ ∅;let we:(((fn:Int)+5*(0+(k:Int)))%26).toNat=(fn+5*k)%26:=()
    refine{lets,_,_,rfl,rfl,by show 26<=sizeLine;ext,Le w0 w1,?_};rw[we];let l3:⇑({#[97+(fn+5*k)%26]}:Str)=1:=rfl;refine{_,_,rfl,rfl,(),?_};exists by ext,?_
    refine{_,_,rfl,rfl,by rw[len_app];ext,?_};exact r _ _ _ (ax.refl _) eI {_,rfl}
   ·intro D2 vs2 H5 s5 _ hD2 il2
    let e:(List.range m.toNat).map (λk=>Dt.str (Txt.slice stem none (some (pn:Int))++{#[97+(fn+5*k)%26]}++Txt.slice stem (some (pn:Int)) none))=((List.range m.toNat).map λk=>Txt.slice stem none (some (pn:Int))++{#[97+(fn+5*k)%26]}++Txt.slice stem (some (pn:Int)) none).map Dt.str:=by rw[zB];rfl
    rw[e] at il2;rw[dG il2] at hD2;exact kk _ D2 H5 (by rw[za,zR]) (JQ () pb ssg ()) (s4.trans s5) hD2
def rV:Sp:=λvs H Q _=>∃(m:Int),vs=[.int m]/\0<=m/\∀q p H',PY q->ax H H'->H' p=some (jy q)->Q (.ref p) H'
def sJ:dh P w base 1 T.kh rV:=by
 nomatch T.kh,["_law_m","_law_f","_law_high"]
 let⟨m,rfl,m0,kk⟩:=h;let a:=zw m (b:=41) ∅;let b:=zt m (b:=41) ∅;let c:=zw (m/41) (b:=14) ∅;let d:=zt (m/41) (b:=14) ∅;refine{_,(af (bP 1 qN (au iX (au aR (pv 0) ae) ae))
  (af (bP 2 qN (au dS (au iX (au aR (au aV (pv 0) ae) ae) ae) ae))
  (ak (aq (bE (aa (pv 1) (aa (au aT (au aR (au dS ae (pv 1)) ae) (pv 2)) ag))))))),?_}
 ac_rfl;exists dm,?_;intros p1 H1 s1 h1;change kk _ _ _ (Mj m) s1 h1
inductive rY (vs:List V) (H:Hp) (Q:VK) (E:XK):Prop
 | mk (m:Int) (x:Int×Int) (q:vF) (_:vs=[.int m,.ref q]) (_:H q=some (jy x)) (_:0<=m) (_:m<1099511627776) (_:KA x) (_:∀(its:List Item) p us H',Gh its x->ax H H'->H p=none->H' p=some (.lst us)->aD H' (its.map eL) us->Q (.ref p) H')
def sM:dh P w base 2 T.km rY:=by
 nomatch T.km,["_law_m","_law_length","_law_many","_law_weights","_law_items","_law_j","_law_each"]
 let⟨m,x,q,rfl,hq,m0,m1,xok,kk⟩:=h;let sl:=yC;let a:=zw m (b:=6) ∅;let b:=zt m (b:=6) ∅;obtain⟨n,hn⟩:∃n:Nat,1+m%6=(n:Int):={(1+m%6).toNat,()}
 refine{_,(af (bP 2 qN (au aT ae (au aR (pv 0) ae)))
  (af (Mo (i:=3) (ts:=["_law_j"]) (ys:=["_law_m"]) (js:=[0]) (te:=(e9 (rL λi j=>.int (i+j)) (tC (.int (1))) (e9 (rI (λ_ j=>0<j) λi j=>.int (i%j)) (e9 (rI T3 λi j=>.int (i/j)) (aY 1) (e9 (rL λi j=>.int (i+j)) (tC (.int (7))) (e9 (rI Nl λi j=>.int (i*j)) (tC (.int (5))) (aY 0)))) (tC (.int (4)))))) (dj (by rfl) T.cK (aa (pv 2) ag)) (f9 0) bq (au aT ae (au aR (au aV (pv 1) (au aT ae (au dS ae (pv 0)))) ae)) qN)
  (af (bP 4 qN (bz ag))
  (af (cj yP rfl (dj (by rfl) T.cK (aa (pv 2) ag)) (gP 5 qN)
  (af (bP 6 qN (bJ (fQ T) hr T.fH (aa (au dS (bM (pv 1) ae) (fw (pv 3) (pv 5))) (aa (au dS (bM (pv 1) ae) (d9 (MY rfl) T.UH (aa (pv 3) ag))) ag))))
   (ak (aI (PW.pt (dt (ptr jJ (pv 5) (au aR (au aV (pv 0) ae) (pv 2))) (cW (ptr de (au SV (au SU (au aV (pv 0) ae) (pv 5)) ae) ae))))
   (ak (bG (bT yD yF yE bD (pv 4) (aa (bE (aa aS (aa (pv 6) ag))) ag))))
   (ak (bG (bT yD yF yE bD (pv 4) (aa (bE (aa (bJ (sJ T) hr T.kh (aa (au aV (pv 0) (au aT ae (au dS ae (pv 5)))) ag)) (aa (pv 6) ag))) ag))))))))
  (ak (aq (pv 4))))))),?_}
 ac_rfl;exists by ext,(),?_
 rw[show(1+m%6).toNat=n from by ext];refine lJ (λj=>.int (1+m/(7+5*(0+(j:Nat)))%4)) (λU=>∃v,U=[v,some (.int m)]) () {(none),rfl} ?_ ?_
 ·rintro j U H1 R hj s1 ⟨_,rfl⟩ r
  exists{(()),()},?_;change r _ _ _ (ax.refl _) cE {_,rfl}
 ·intro D0 vs0 H1 s1 _ hD0 il0
  let e:(List.range n).map (λj:Nat=>Dt.int (1+m/(7+5*(0+(j:Nat)))%4))=(rM m n).map Dt.int:=by unfold rM;rw[zB];rfl
  rw[e] at il0;rw[dW il0] at hD0;left
  intros D nD s2 h2 H2
  let nDH:H D=none:=s1.back nD;exists by ext,(),?_
  rw[show(1+m%6).toNat=n from by ext];let⟨xr,x1,x2,x3⟩:=id xok;let⟨_,xp,_⟩:=xr.pos;let wl:=Qb m n;let wb:=NT (l:=rM m n) λw hw=>Jh hw;let W0:0<(rM m n).sum:=()
  let W2:(rM m n).sum<=24:=()
  let j0a:0<=m/4%(n:Int):=zw _ ();let j0b:m/4%(n:Int)<n:=zt _ ();refine gi (λi U H'=>∃(its:List Item) (us:List V) (v5 v6:Option V),U=[some (.int m),some (.ref q),some (.int (1+m%6)),some (.ref D0),some (.ref D),v5,v6]/\ax H1 H'/\H' D=some (.lst us)/\aD H' (its.map eL) us/\⇑its=i/\(∀it∈its,Nj it)/\
   jX its=red (x.1*((rM m n).take i).sum) (x.2*(rM m n).sum)/\(m/4%(n:Int)<i->its.all (λit=>it.1.isNone)=false)) {[],[],none,none,rfl,s2,h2,cD,rfl,by simp,NS xp W0,λz=>by exfalso;simp at z;ext} ?_ ?_
  ·intro i U H3 hi hh
   refine dI λN kN0 kR0 _ _=>?_;let⟨its,us,v5,v6,rfl,s3,h3,il3,il,iok,isum,ino⟩:=hh;let hq3:=s3 _ _ (s1 _ _ hq);let hD3:=s3 _ _ hD0;let hwi:(rM m n)[i]?=some ((rM m n)[i]'()):=zd ();let⟨w1,w2⟩:=Jh (zC hwi);generalize (rM m n)[i]'()=wi at hwi w1 w2;left;refine{D0,_,_,_,rfl,rfl,aH.of hD3,(by rw[Int.zero_add];exact bA (by rw[zK,hwi];rfl)),?_};exists .inl {(()),()},?_;exists D0,_,rfl,aH.of hD3,λw hw=>by have:=Jh hw;ext,(),?_
   exists .inl {(()),()},?_;let lk:=OT xok w1 w2 W0 W2;let b1:0<x.2*(rM m n).sum:=xB xp W0;let b2:x.2*(rM m n).sum<=160*24:=wd x3 W2 () ∅;let t0:0<=x.1*wi:=wc () ();refine{_,_,rfl,t0,b1,(cq (n:=12) () ()).mono ∅,λp6 H6 s6 h6=>?_};exists by show 0<1+m%6;ext,?_
   left;let nD6:H6 D=some (.lst us):=s6 _ _ h3;let il6:=il3.mono s6;let e6:(rM m n).take (i+1)=(rM m n).take i++[wi]:=cg hwi;let ps:∀it:Item,it.2=red (x.1*wi) (x.2*(rM m n).sum)->jX (its++[it])=red (x.1*((rM m n).take (i+1)).sum) (x.2*(rM m n).sum):=λit e=>by
    rw[e6,List.sum_append];have:[wi].sum=wi:=by simp
    rw[this];exact NR xp W0 isum e
   refine d5 ((!decide (V.int (0+(i:Int))=V.int (m/4%(1+m%6))))&&decide (V.int (Builtin.bitAnd (m/16/2^(0+(i:Int)).toNat) 1)=V.int 1)) ?_ ?_ ?_
   ·intro c Z hz
    rw[c,yW] at hz;exists by show 0<=0+(i:Int);ext,?_
    change hz
   ·intro c;rw[c,yU]
   ·cases qv:((!decide (V.int (0+(i:Int))=V.int (m/4%(1+m%6))))&&decide (V.int (Builtin.bitAnd (m/16/2^(0+(i:Int)).toNat) 1)=V.int 1)) with
    | true=>
     let ne:(i:Int)≠m/4%(n:Int):=λz=>by
      rw[Int.zero_add,z,hn] at qv;simp at qv
     exists .inl {rfl,_,aH.of nD6},?_;exists dm,?_;intros p7 H7 s7 h7;refine{D,us,_,rfl,rfl,s7 _ _ nD6,(by have:=aP il3;ext),?_};left;let nt:cA (H7 D):=by rw[s7 _ _ nD6];exact λ_ z=>by cases z
     let it7:Is H7 (eL (none,red (x.1*wi) (x.2*(rM m n).sum))) (.ref p7):=cw h7 (aO dN (aO (iw (s7 _ _ h6)) cD));refine{its++[(none,red (x.1*wi) (x.2*(rM m n).sum))],_,_,_,rfl,bw nD ((s3.trans s6).trans s7),aC,?_,by rw[zh,il];rfl,λit hit=>?_,ps _ rfl,λz=>?_}
     ·rw[zk]
      exact cT (Is.upd nt it7) (aD.upd nt (il6.mono s7))
     ·rcases zG.mp hit with y | y
      ·exact iok it y
      ·rw[zA.mp y];exact{lk,λq z=>by cases z}
     ·rw[List.all_append,ino (),yU]
    | false=>
     exists .inl {rfl,_,aH.of nD6},?_;exists{(()),()},?_;exists zW m0 (),λpq p8 H8 pok s8 h8=>?_;exists dm,?_;intros p7 H7 s7 h7;let s67:=s8.trans s7;refine{D,us,_,rfl,rfl,s67 _ _ nD6,by have:=aP il3;ext,?_};left;let nt:cA (H7 D):=by rw[s67 _ _ nD6];exact λ_ z=>by cases z
     let it7:Is H7 (eL (some pq,red (x.1*wi) (x.2*(rM m n).sum))) (.ref p7):=cw h7 (aO (iw (s7 _ _ h8)) (aO (iw (s67 _ _ h6)) cD));refine{its++[(some pq,red (x.1*wi) (x.2*(rM m n).sum))],_,_,_,rfl,bw nD ((s3.trans s6).trans s67),aC,?_,by rw[zh,il];rfl,λit hit=>?_,ps _ rfl,λz=>?_}
     ·rw[zk]
      exact cT (Is.upd nt it7) (aD.upd nt (il6.mono s67))
     ·rcases zG.mp hit with y | y
      ·exact iok it y
      ·rw[zA.mp y];exact{lk,λq z=>by cases z;exact pok}
     ·rw[List.all_append];simp
  ·rintro U H3 ⟨its,us,v5,v6,rfl,s3,h3,il3,il,iok,isum,ino⟩
   left;refine kk its D us H3 {(),iok,?_,ino j0b} (s1.trans s3) nDH h3 il3;rw[isum,show(rM m n).take n=rM m n from xy (),LX xr W0]
noncomputable def Fo:List (Int×Int):=[(4,4),(3,4),(6,8),(2,2),(5,16),(7,8),(1,32),(12,1)]
def Nm (b:Sc.Nv):Prop:=b.aQ∈Fo/\-7<=b.key/\b.key<=7/\(∀n∈b.marks,gc n)/\⇑b.marks<=2
inductive uA (vs:List V) (H:Hp) (Q:VK) (E:XK):Prop
 | mk (c n:Int) (_:vs=[.int c,.int n]) (_:0<=n) (_:n<=200) (_:∀(bs:List Sc.Nv) p us H',⇑bs=n.toNat->(∀b∈bs,Nm b)->ax H H'->H p=none->H' p=some (.lst us)->aD H' (bs.map kI) us->Q (.ref p) H')
def uP:dh P w base 2 T.lQ uA:=by
 nomatch T.lQ,["_law_cell","_law_many","_law_bars","_law_k","_law_m","_law_metre","_law_key","_law_marks"]
 let⟨c,n,rfl,n0,n1,kk⟩:=h;let sl:=yC;refine{_,(af (bP 2 qN (bz ag))
  (af (cj yP rfl (dj (by rfl) T.cK (aa (pv 1) ag)) (gP 3 qN)
  (zf (zc (zS (bP 4 qN (bJ (bQ T) hr T.cy (aa (pv 0) (aa (au aT (pv 3) ae) ag)))))
   (zc (Wi 5 qN (QE Fo (au aR (pv 4) ae) (λ_ _=>rfl)))
   (zc (zS (bP 6 qN (au iX (au aR (au aV (pv 4) ae) ae) ae)))
   (zc (zS (aI (PW.pt (dt (ptr fg (pv 3) ae) (cW (ptr fg (au aR (au aV (pv 4) ae) ae) ae))))
   (ak (bP 5 qN (bM (fw (pv 2) (oA jW ae)) ae)))
   aB))
   (zc (zS (aI (PW.pt (dt (ptr fg (pv 3) ae) (cW (ptr fg (au aR (au aV (pv 4) ae) ae) ae))))
   (ak (bP 6 qN (bM (fw (pv 2) (oA jW ae)) ae)))
   aB))
   (zc (zS (bP 7 qN (mF cL T.ic (aa (bJ (eQ T) hr T.d6 (aa (au aV (pv 4) ae) (aa (fw (bz (aa ae (aa ae (aa ae (aa ae (aa ae (aa ae (aa ae ag)))))))) (au aR (au aV (pv 4) ae) ae)) ag))) ag))))
   (zo (zS (bG (bT yD yF yE bD (pv 2) (aa (bE (aa (pv 5) (aa (pv 6) (aa (pv 7) ag)))) ag)))))))))))))
  (ak (aq (pv 2))))),?_}
 ac_rfl;left
 intros D nD s2 h2 H2
 exists by ext,(),?_
 refine gi (λi U H'=>∃(bs:List Sc.Nv) (us:List V),Lo [some (.int c),some (.int n),some (.ref D)] 5 U/\ax H H'/\H' D=some (.lst us)/\aD H' (bs.map kI) us/\⇑bs=i/\∀b∈bs,Nm b)
  {[],[],Lo.of rfl rfl,s2,h2,cD,rfl,by simp} ?_ ?_
 ·intro i U H3 hi hh
  refine dI λN kN0 kR0 _ _=>?_;let⟨bs,us,⟨e,rfl⟩,s3,h3,il3,bl,vJ⟩:=hh;exists c,_,rfl,(),(),?_;let m0:0<=mixed c (0+(i:Int)+20):=zw _ ∅;let m1:mixed c (0+(i:Int)+20)<2147483399:=zt _ ∅;generalize mixed c (0+(i:Int)+20)=m at m0 m1;let a0:0<=m%8:=zw _ ∅;let a1:m%8<8:=zt _ ∅;let b0:0<=m/8%15:=zw _ ∅;let b1:m/8%15<15:=zt _ ∅;left;intro D4 vs4 H4 s4 h4 il4;left;obtain⟨j,hj⟩:∃j:Nat,m%8=(j:Int):={(m%8).toNat,()}
  let vl4:=aP il4;let jl:j<⇑vs4:=by rw[vl4];show j<8;ext
  let⟨mx,hmx,imx⟩:=cS (d:=dL) il4 (i:=j) (zd jl);generalize hmv:vs4[j]=mv at imx;let h3':=s4 _ _ h3;let il3':=il3.mono s4;refine{D4,vs4,m%8,mv,rfl,rfl,aH.of h4,(by rw[hj];exact bA (by rw[<-hmv];exact zd jl)),?_};left;let lastB:0<(i:Int)->∃b a mt q,us[⇑us-1]?=some (.ref a)/\H4 a=some (.tup [mt,.int b.key,.ref q])/\Is H4 (dL b.aQ) mt/\b∈bs:=λip=>by
   let ul:=aP il3';let⟨b,hb,ib⟩:=cS il3' (i:=⇑us-1) (zd ());let⟨a,mt,q,ea,ha,hm,_⟩:=vV ib;exact{b,a,mt,q,by rw[<-ea];exact zd (),ha,hm,zC hb}
  refine d5 (decide (0<0+(i:Int))&&decide (0<m/120%4)) ?_ ?_ ?_
  ·intro c1 Z hz
   rw[c1,yW] at hz;change hz
  ·intro c1;rw[c1,yU]
  refine join (λU H'=>H'=H4/\∃mv x,U=[some (.int c),some (.int n),some (.ref D),some (.int (0+(i:Int))),some (.int m),some mv,some (.int (m/8%15-7)),e 4]/\Is H4 (dL x) mv/\x∈Fo) (λN hN c1=>?_) (λN hN c1=>?_) ?_
  ·let ip:0<(i:Int):=by simp at c1;ext
   let⟨b,a,mt,q,hl,ha,hm,hb⟩:=lastB ip;exists D,us,-1,_,rfl,rfl,aH.of h3',nY hl,?_;change hN _ _ {rfl,mt,b.aQ,rfl,hm,(vJ b hb).1}
  ·left
   exact hN _ _ {rfl,mv,mx,rfl,imx,zC hmx}
  clear imx hmv;rintro σ5 H5 ⟨e5,mv,x,rfl,imv,hx⟩;rw[e5];clear e5 H5;left;refine d5 (decide (0<0+(i:Int))&&decide (0<m/480%5)) ?_ ?_ ?_
  ·intro c1 Z hz
   rw[c1,yW] at hz;change hz
  ·intro c1;rw[c1,yU]
  refine join (λU H'=>H'=H4/\∃k:Int,U=[some (.int c),some (.int n),some (.ref D),some (.int (0+(i:Int))),some (.int m),some mv,some (.int k),e 4]/\-7<=k/\k<=7) (λN hN c1=>?_) (λN hN c1=>?_) ?_
  ·let ip:0<(i:Int):=by simp at c1;ext
   let⟨b,a,mt,q,hl,ha,hm,hb⟩:=lastB ip;exists D,us,-1,_,rfl,rfl,aH.of h3',nY hl,?_;change hN _ _ {rfl,b.key,rfl,(vJ b hb).2.1,(vJ b hb).2.2.1}
  ·left
   exact hN _ _ {rfl,m/8%15-7,rfl,(),()}
  rintro σ5 H5 ⟨e5,k,rfl,k0,k1⟩;rw[e5];clear e5 H5;exists by show 7<=sizeLine;ext,?_
  intros p6 H6 s6 h6;let g0:0<=m/33600%7:=zw _ ∅;let g1:m/33600%7<7:=zt _ ∅;obtain⟨jj,hjj⟩:∃j:Nat,m/33600%7=(j:Int):={(m/33600%7).toNat,()}
  obtain⟨z,hz,z0,z1⟩:∃z:Int,[V.int 0,V.int 0,V.int 0,V.int 0,V.int 0,V.int 1,V.int 2][jj]?=some (.int z)/\0<=z/\z<=2:=by
   have:jj<7:=()
   match jj,this with
   | 0,_=>exact{0,rfl,∅,∅}
   | 1,_=>exact{0,rfl,∅,∅}
   | 2,_=>exact{0,rfl,∅,∅}
   | 3,_=>exact{0,rfl,∅,∅}
   | 4,_=>exact{0,rfl,∅,∅}
   | 5,_=>exact{1,rfl,∅,∅}
   | 6,_=>exact{2,rfl,∅,∅}
  exists p6,_,m/33600%7,.int z,rfl,rfl,aH.of h6,(by rw[hjj];exact bA hz),?_;left;refine{_,z,rfl,zW m0 ∅,?_,z0,(),λns p7 H7 nl nok s7 h7=>?_}
  ·have:=zX (a:=m) 2400 m0;ext
  left;refine{p7,_,rfl,.inl {aH.of h7,?_}};intros p8 H8 s8 h8;let s48:=(s6.trans s7).trans s8;let h38:=s48 _ _ h3';exists .inl {rfl,_,aH.of h38},?_;exists mR,?_;intros p9 H9 s9 h9;refine{D,us,_,rfl,rfl,s9 _ _ h38,(by have:=aP il3;ext),?_};left;let s49:=s48.trans s9;let nt:cA (H9 D):=by rw[s9 _ _ h38];exact λ_ z=>by cases z
  let ib:Is H9 (kI {(x),k,ns}) (.ref p9):=cw h9 (aO (imv.mono s49) (aO cE (aO (cw (s9 _ _ h8) (Bc ns)) cD)));refine{bs++[{(x),k,ns}],_,Lo.of rfl rfl,bw nD ((s3.trans s4).trans s49),aC,?_,by rw[zh,bl];rfl,λb hb=>?_}
  ·rw[zk]
   exact cT (Is.upd nt ib) (aD.upd nt (il3'.mono s49))
  ·rcases zG.mp hb with y | y
   ·exact vJ b y
   ·rw[zA.mp y]
    exact{hx,k0,k1,nok.1,by show ⇑ns<=2;ext}
 ·rintro U H3 ⟨bs,us,⟨e,rfl⟩,s3,h3,il3,bl,vJ⟩
  change kk bs D us H3 bl vJ s3 nD h3 il3
inductive pW (vs:List V) (H:Hp) (Q:VK) (E:XK):Prop
 | mk (bl:vF) (us:List V) (S:bU) (ub:V) (b:Nat) (_:vs=[.ref bl,ub,.int b]) (_:H bl=some (.lst us)) (_:aD H (S.aL.map kI) us) (_:Is H (dO dL S.aG) ub) (_:b<⇑S.aL) (_:(∀x∈S.aL,Nm x)) (_:∀p H',ax H H'->H' p=some (jy (S.len b))->Q (.ref p) H')
def jN {x:Int×Int} (h:x∈Fo):1<=x.1/\x.1<=12/\x.2∈Dc/\1<=x.2/\x.2<=32:=by
 unfold Fo at h;simp only[zD,zE,yV] at h;rcases h with rfl | rfl | rfl | rfl | rfl | rfl | rfl | rfl <;> decide
def qL:dh P w base 2 T.jt pW:=by
 nomatch T.jt,["_law_bars","_law_upbeat","_law_bar"]
 let⟨bl,us,S,ub,b,rfl,hbl,il,iu,hb,vJ,kk⟩:=h;let ul:=aP il;let⟨x,hx,ix⟩:=cS il (i:=b) (zd ());let⟨a1,mv,q,ev,h1,im,_⟩:=vV ix;let⟨m1,m2,m3,m4,m5⟩:=jN (vJ x (zC hx)).1;let em:S.aQ b=red x.aQ.1 x.aQ.2:=by unfold bU.aQ;rw[hx]
 cases eW (o:=some x.aQ) im with
 | ref hm=>
 rename_i am;refine{_,(af (aI (PW.pt (dt (ptr de (pv 2) ae) (cW (bC (fN (pv 1))))))
  (ak (aq (pv 1)))
  aB)
  (ak (aq (bJ (fQ T) hr T.fH (aa (bM (bM (fw (pv 0) (pv 2)) ae) ae) (aa (bM (bM (fw (pv 0) (pv 2)) ae) ae) ag)))))),?_}
 ac_rfl;left;let nz:∀H1,Is H1 (dO dL S.aG) ub->(!decide (ub=V.bH))=S.aG.isSome:=λH1 z=>by
  cases q:S.aG with
  | none=>rw[q] at z;unfold dO Is at z;rw[z];rfl
  | some u=>
   rw[q] at z;cases eW (o:=some u) z with
   | ref hu=>rfl
 refine d5 (decide (V.int (b:Int)=V.int 0)&&S.aG.isSome) ?_ ?_ ?_
 ·intro c Z hz
  rw[c,yW,<-nz H iu] at hz;change hz
 ·intro c;rw[c,yU]
 ·cases qv:(decide (V.int (b:Int)=V.int 0)&&S.aG.isSome) with
  | true=>
   rw[zO] at qv;let b0:b=0:=by have:=V.int.inj (ye qv.1);ext
   cases q:S.aG with
   | none=>rw[q] at qv;cases qv.2
   | some u=>
    rw[q] at iu;cases eW (o:=some u) iu with
    | ref hu=>
     left;refine kk _ _ (ax.refl _) ?_;unfold bU.len;rw[q];simp only[b0,vi];exact hu
  | false=>
   let el:S.len b=S.aQ b:=by
    unfold bU.len;cases q:S.aG with
    | none=>rfl
    | some u=>
     rw[q] at qv;have:b≠0:=λz=>by rw[z] at qv;simp at qv
     simp only[yN this]
   rw[el,em] at kk;left;refine{bl,us,b,_,rfl,rfl,aH.of hbl,bA (zd ()),?_};rw[ev];left;refine{bl,us,b,_,rfl,rfl,aH.of hbl,bA (zd ()),?_};rw[ev];change{_,_,rfl,(),(),(cq (n:=10) () ()).mono ∅,kk}
inductive rZ (vs:List V) (H:Hp) (Q:VK) (E:XK):Prop
 | mk (c many:Int) (pp ip:vF) (ps:List Str) (ins:List (Str×(Int×Int)×(Int×Int))) (iv:List V) (_:vs=[.int c,.ref pp,.ref ip,.int many]) (_:H pp=some (.lst (ps.map V.str))) (_:H ip=some (.lst iv)) (_:aD H (ins.map d7) iv) (_:⇑ps<=100) (_:⇑ins<=100) (_:many<=200) (_:∀(hs:List (Str×List (Int×Str))) D us H',List.Sublist (hs.map (·.1)) ps->(∀x∈hs,LG (ins.map (·.1)) many x.2)->ax H H'->H' D=some (.lst us)->RL (jz D H') hs us->Q (.ref D) H')
def MA {H:Hp} {x:Str×(Int×Int)×(Int×Int)} {v:V} (h:Is H (d7 x) v):∃a t l,v=.ref a/\H a=some (.tup [.str x.1,t,l]):=by
 unfold d7 Is at h;let⟨a,vs,rfl,ha,hl⟩:=h;unfold aD at hl;let⟨v1,r1,rfl,h1,hl⟩:=hl;unfold aD at hl;let⟨v2,r2,rfl,h2,hl⟩:=hl;unfold aD at hl;let⟨v3,r3,rfl,h3,hl⟩:=hl;unfold aD at hl;subst hl;unfold Is at h1;subst h1;exact{(a),v2,v3,rfl,ha}
def sN:dh P w base 2 T.ko rZ:=by
 nomatch T.ko,["_law_cell","_law_players","_law_instruments","_law_many","_law_holds","_law_k","_law_player","_law_row","_law_bar","_law_j","_law_m"]
 let⟨c,many,pp,ip,ps,ins,iv,rfl,hpp,hip,ili,pl,il0,my,kk⟩:=h;let sl:=yC;let ivl:=aP ili;refine{_,(af (bP 4 qN (bz ag))
  (af (cj yP rfl (vS (by rfl) T.jM (aa (pv 1) ag)) (dz (n:=2) rfl (aK (gP 5 qN) (aK (gP 6 qN) cJ)))
  (af (bP 7 qN (bz ag))
   (af (bP 8 qN ae)
   (af (cj yP rfl (dj (by rfl) T.cK (aa ae ag)) (gP 9 qN)
   (af (bP 10 qN (bJ (bQ T) hr T.cy (aa (pv 0) (aa (au aT (au aT (au dS ae (pv 5)) (pv 9)) ae) ag))))
    (af (bP 8 qN (au aT (pv 8) (au aR (pv 10) ae)))
    (af (aI (PW.pt (dt (ptr fe (pv 8) (pv 3)) (dt (ptr fg (d9 aF T.bB (aa (pv 2) ag)) ae) (cW (ptr fg (au aR (au aV (pv 10) ae) ae) ae)))))
    (ak (bG (bT yD yF yE bD (pv 7) (aa (bE (aa (pv 8) (aa (bM (fw (pv 2) (au aR (au aV (pv 10) ae) (d9 aF T.bB (aa (pv 2) ag)))) ae) ag))) ag))))
    aB)
    (ak (bP 8 qN (au aT (pv 8) ae)))))))
   (ak (aI (ptr (E7 hr.units) (pv 7) (bz ag))
   (ak (bG (bT yD yF yE bD (pv 4) (aa (bE (aa (pv 6) (aa (pv 7) ag))) ag))))
   aB))))))
  (ak (aq (pv 4))))),?_}
 ac_rfl;left
 intros D nD s2 h2 H2
 exists pp,_,rfl,aH.of (s2 _ _ hpp),?_;refine q9 (K:=K) (a:=pp) (xs:=ps.map V.str) (λi U H'=>∃(hs:List (Str×List (Int×Str))) (us:List V),Lo [some (.int c),some (.ref pp),some (.ref ip),some (.int many),some (.ref D)] 6 U/\ax H H'/\H' D=some (.lst us)/\RL (jz D H') hs us/\List.Sublist (hs.map (·.1)) (ps.take i)/\(∀x∈hs,LG (ins.map (·.1)) many x.2)/\⇑hs<=i)
  {[],[],Lo.of rfl rfl,s2,h2,rfl,List.nil_sublist _,by simp,zm _} (λi U H' _ h=>by let⟨_,_,_,z,_⟩:=h;exact aH.of (z _ _ hpp)) ?_ ?_
 ·intro i x U H3 p H4 hx hh s34 hp4
  refine dI λN kN0 kR0 _ _=>?_;let⟨hs,us,⟨e,rfl⟩,s3,h3,rl3,sub,tR,hl⟩:=hh;rw[zK] at hx;cases qr:ps[i]? with
  | none=>rw[qr] at hx;cases hx
  | some pn=>
  rw[qr] at hx;simp only[xo,xP] at hx;subst hx;refine{p,_,rfl,cU.of hp4,rfl,?_};refine{_,_,rfl,{_,_,rfl,{rfl,?_}}};left
  intros R nR s5 h5 H5
  exists by decide,(by decide),?_
  refine gi (λj U H'=>∃(row:List (Int×Str)) (ws:List V) (bar:Int) (v9 va:Option V),U=[some (.int c),some (.ref pp),some (.ref ip),some (.int many),some (.ref D),some (.int (i:Int)),some (.str pn),some (.ref R),some (.int bar),v9,va]/\ax H4 H'/\H' R=some (.lst ws)/\aD H' (row.map Lx) ws/\0<=bar/\⇑row<=j/\(row.map (·.1)).Pairwise (·<·)/\
   ∀h∈row,0<=h.1/\h.1<many/\h.2∈ins.map (·.1)/\h.1<bar) {[],[],0,e 4,e 5,rfl,s5,h5,cD,∅,by simp,by simp,by simp} ?_ ?_
  ·intro j U H6 hj hh
   refine dI λN kN1 kR1 _ _=>?_;let⟨row,ws,bar,v9,va,rfl,s6,h6,il6,b0,rl,asc,rin⟩:=hh;let s06:=(s3.trans s34).trans s6;left;let ib:i<⇑ps:=(zy.mp qr).1;refine{c,_,rfl,(),(),?_};let m0:0<=mixed c (7*(i:Int)+(0+(j:Int))+60):=zw _ ∅;let m1:mixed c (7*(i:Int)+(0+(j:Int))+60)<2147483399:=zt _ ∅;generalize mixed c (7*(i:Int)+(0+(j:Int))+60)=m at m0 m1;let a0:0<=m%5:=zw _ ∅;left;let hip6:=s06 _ _ hip;refine d5 (decide (bar+m%5<many)&&(decide (0<(⇑ins:Int))&&decide (0<m/5%3))) ?_ ?_ ?_
   ·intro c1 Z hz
    rw[c1,yW] at hz;exists ip,iv,rfl,.inl (aH.of hip6),?_;rw[ivl];left;refine d5 (decide (0<(⇑ins:Int))&&decide (0<m/5%3)) ?_ ?_ hz
    ·intro c2 Z hz
     rw[c2,yW] at hz;change hz
    ·intro c2;rw[c2,yU]
   ·intro c1;rw[c1,yU]
   refine join (λU H'=>∃(row:List (Int×Str)) (ws:List V),U=[some (.int c),some (.ref pp),some (.ref ip),some (.int many),some (.ref D),some (.int (i:Int)),some (.str pn),some (.ref R),some (.int (bar+m%5)),some (.int (0+(j:Int))),some (.int m)]/\ax H4 H'/\H' R=some (.lst ws)/\aD H' (row.map Lx) ws/\⇑row<=j+1/\(row.map (·.1)).Pairwise (·<·)/\
    ∀h∈row,0<=h.1/\h.1<many/\h.2∈ins.map (·.1)/\h.1<bar+m%5+1) (λN hN c1=>?_) (λN hN c1=>?_) ?_
   ·simp only[zO,xF] at c1
    let⟨c1,c2,c3⟩:=c1;let d0:0<=m/15%(⇑ins:Int):=zw _ ();let d1:m/15%(⇑ins:Int)<⇑ins:=zt _ ();obtain⟨jj,hjj⟩:∃jj:Nat,m/15%(⇑ins:Int)=(jj:Int):={(m/15%(⇑ins:Int)).toNat,()}
    let⟨nx,hnx,inx⟩:=cS (d:=d7) (ili.mono s06) (i:=jj) (zd ());let⟨ai,ti,li,ea,hai⟩:=MA inx;exists .inl {rfl,_,aH.of h6},?_;exists ip,iv,rfl,.inl (aH.of hip6),?_;rw[ivl];exists by show 0<(⇑ins:Int);ext,?_
    refine{ip,iv,_,_,rfl,rfl,aH.of hip6,(by rw[hjj];exact bA (zd ())),?_};rw[ea];exists dm,?_;intros p7 H7 s7 h7;refine{R,ws,_,rfl,rfl,s7 _ _ h6,(by have:=aP il6;ext),?_};left;let nt:cA (H7 R):=by rw[s7 _ _ h6];exact λ_ z=>by cases z
    refine hN _ _ {row++[(bar+m%5,nx.1)],_,rfl,bw nR (s6.trans s7),aC,?_,by rw[zh];simp;ext,?_,λh hh=>?_}
    ·rw[zk]
     exact cT (Is.upd nt (cw h7 (aO cE (aO eI cD)))) (aD.upd nt (il6.mono s7))
    ·rw[zk,zU]
     refine{asc,by simp,λx hx y hy=>?_};let⟨h',hh',rfl⟩:=zH.mp hx;let ey:y=bar+m%5:=by simpa using hy
     have:=(rin h' hh').2.2.2;ext
    ·rcases zG.mp hh with z | z
     ·have:=rin h z
      exact{(this.1),this.2.1,this.2.2.1,()}
     ·rw[zA.mp z]
      exact{by show 0<=bar+m%5;ext,c1,zP (f:=λx:Str×(Int×Int)×(Int×Int)=>x.1) (zC hnx),by show bar+m%5<bar+m%5+1;ext}
   ·left
    refine hN _ _ {row,ws,rfl,s6,h6,il6,(),asc,λh hh=>?_};have:=rin h hh;exact{(this.1),this.2.1,this.2.2.1,()}
   rintro σ7 H7 ⟨row,ws,rfl,s7,h7,il7,rl7,asc7,rin7⟩;change{row,ws,bar+m%5+1,_,_,rfl,s7,h7,il7,(),rl7,asc7,rin7}
  ·rintro U H6 ⟨row,ws,bar,v9,va,rfl,s6,h6,il6,b0,rl,asc,rin⟩
   let s06:=(s3.trans s34).trans s6;let h36:=s6 _ _ (s34 _ _ h3);let rl6:RL (jz D H6) hs us:=rl3.imp λx v z=>(z.mono s34).mono s6;let ne:R≠D:=λz=>by rw[z,s34 _ _ h3] at nR;cases nR
   let ib:i<⇑ps:=(zy.mp qr).1;let tk:ps.take (i+1)=ps.take i++[pn]:=cg qr;exists by show 0<=sizeLine;ext,?_
   intros p7 H7 s7 h7;refine{R,p7,ws,[],rfl,rfl,.inl {aH.of (s7 _ _ h6),aH.of h7},.inr (.inl rfl),?_};let wr:=aP il6;let s07:=s06.trans s7
   by_cases e:ws=[]
   ·rw[zg e]
    left;refine{hs,us,Lo.of rfl rfl,s07,s7 _ _ h36,rl6.imp λx v z=>z.mono s7,?_,tR,()};rw[tk];exact sub.trans (List.sublist_append_left _ _)
   ·rw[ze e]
    let rne:row≠[]:=λz=>e (by rw[z] at wr;exact yt.mp wr);exists .inl {rfl,_,aH.of (s7 _ _ h36)},?_;exists dm,?_;intros p8 H8 s8 h8;let s78:=s7.trans s8;let h38:=s78 _ _ h36;refine{D,us,_,rfl,rfl,h38,by have:=rl3.len;ext,?_};left;refine{hs++[(pn,row)],_,Lo.of rfl rfl,bw nD (s06.trans s78),aC,?_,?_,λx hx=>?_,by rw[zh];simp;ext}
    ·refine RL.snoc ?_ (rl6.imp λx v z=>(z.mono s78).upd h38)
     exact jz.upd h38 {p8,R,ws,rfl,h8,s78 _ _ h6,il6.mono s78,ne}
    ·rw[zk,tk]
     exact sub.append (List.Sublist.refl _)
    ·rcases zG.mp hx with z | z
     ·exact tR x z
     ·rw[zA.mp z]
      exact{rne,rl,asc,λh hh=>{(rin h hh).1,(rin h hh).2.1,(rin h hh).2.2.1}}
 ·rintro U H3 ⟨hs,us,⟨e,rfl⟩,s3,h3,rl3,sub,tR,hl⟩
  rw[za,zN] at sub;change kk hs D us H3 sub tR s3 h3 rl3
def Gg (S:bU) (ns:List ((Int×Str)×List Item)):Prop:=(ns.map (·.1)).Nodup/\∀x∈ns,0<=x.1.1/\x.1.1<⇑S.aL/\x.1.2∈S.players/\Gh x.2 (S.len x.1.1.toNat)
inductive rW (vs:List V) (H:Hp) (Q:VK) (E:XK):Prop
 | mk (c:Int) (pp bl:vF) (S:bU) (bv:List V) (ub:V) (_:vs=[.int c,.ref pp,.ref bl,ub]) (_:H pp=some (.lst (S.players.map V.str))) (_:H bl=some (.lst bv)) (_:aD H (S.aL.map kI) bv) (_:Is H (dO dL S.aG) ub) (_:⇑S.players<=9) (_:S.players.Nodup) (_:⇑S.aL<=200) (_:(∀x∈S.aL,Nm x)) (_:(∀b:Nat,b<⇑S.aL->KA (S.len b))) (_:∀(ns:List ((Int×Str)×List Item)) D us H',Gg S ns->⇑ns<=9*⇑S.aL->ax H H'->H' D=some (.lst us)->RL (gZ D H') ns us->Q (.ref D) H')
def sL:dh P w base 3 T.ki rW:=by
 nomatch T.ki,["_law_cell","_law_players","_law_bars","_law_upbeat","_law_notes","_law_bar","_law_k","_law_player","_law_m","_law_often","_law_run"]
 let⟨c,pp,bl,S,bv,ub,rfl,hpp,hbl,ilb,iub,pl,pnd,bl2,vJ,lok,kk⟩:=h;let sl:=yC;let bvl:=aP ilb;refine{_,(af (bP 4 qN (bz ag))
  (af (cj yP rfl (dj (by rfl) T.cK (aa (d9 aF T.bB (aa (pv 2) ag)) ag)) (gP 5 qN)
  (ak (cj yP rfl (vS (by rfl) T.jM (aa (pv 1) ag)) (dz (n:=2) rfl (aK (gP 6 qN) (aK (gP 7 qN) cJ)))
   (af (bP 8 qN (bJ (bQ T) hr T.cy (aa (pv 0) (aa (au aT (au aT (au dS ae (pv 6)) (pv 5)) ae) ag))))
    (af (bP 9 qN (au aR (bJ (bQ T) hr T.cy (aa (pv 0) (aa (au aT (pv 6) ae) ag))) ae))
    (af (bP 10 qN (au aR (bJ (bQ T) hr T.cy (aa (pv 0) (aa (au aT (au aT (au dS ae (pv 6)) (au aV (pv 5) ae)) ae) ag))) ae))
    (ak (aI (PW.pt (dt (ptr fO (au aR (pv 8) ae) (pv 9)) (cW (ptr fg (pv 10) ae))))
    (ak (bG (bT yD yF yE bD (pv 4) (aa (bE (aa (pv 5) (aa (pv 7) (aa (bJ (sM T) hr T.km (aa (au aV (pv 8) ae) (aa (bJ (qL T) hr T.jt (aa (pv 2) (aa (pv 3) (aa (pv 5) ag)))) ag))) ag)))) ag))))
    aB))))))))
  (ak (aq (pv 4))))),?_}
 ac_rfl;left
 intros D nD s2 h2 H2
 exists bl,bv,rfl,.inl (aH.of (s2 _ _ hbl)),?_;rw[bvl];exists by ext,(),?_
 rw[show((⇑S.aL:Int)).toNat=⇑S.aL from by ext];refine gi (λi U H'=>∃(ns:List ((Int×Str)×List Item)) (us:List V),Lo [some (.int c),some (.ref pp),some (.ref bl),some ub,some (.ref D)] 6 U/\ax H H'/\H' D=some (.lst us)/\RL (gZ D H') ns us/\Gg S ns/\(∀x∈ns,x.1.1<i)/\⇑ns<=9*i)
  {[],[],Lo.of rfl rfl,s2,h2,rfl,{by simp,by simp},by simp,by simp} ?_ ?_
 ·intro i U H3 hi hh
  refine dI λN kN0 kR0 _ _=>?_;let⟨ns,us,⟨e,rfl⟩,s3,h3,rl3,nok,nlt,nl⟩:=hh;exists pp,_,rfl,aH.of (s3 _ _ hpp),?_;refine q9 (K:=K) (a:=pp) (xs:=S.players.map V.str) (λj U H'=>∃(ns:List ((Int×Str)×List Item)) (us:List V),Lo [some (.int c),some (.ref pp),some (.ref bl),some ub,some (.ref D),some (.int (0+(i:Int)))] 5 U/\ax H H'/\H' D=some (.lst us)/\RL (gZ D H') ns us/\Gg S ns/\(∀x∈ns,x.1.1<i\/(x.1.1=i/\x.1.2∈S.players.take j))/\⇑ns<=9*i+j)
   {ns,us,Lo.of rfl rfl,s3,h3,rl3,nok,λx hx=>.inl (nlt x hx),()} (λi U H' _ h=>by let⟨_,_,_,z,_⟩:=h;exact aH.of (z _ _ hpp)) ?_ ?_
  ·intro j x U H4 p H5 hx hh s45 hp5
   refine dI λN kN1 kR1 _ _=>?_;let⟨ns,us,⟨e,rfl⟩,s4,h4,rl4,nok,nlt,nl⟩:=hh;rw[zK] at hx;cases qr:S.players[j]? with
   | none=>rw[qr] at hx;cases hx
   | some pn=>
   rw[qr] at hx;simp only[xo,xP] at hx;subst hx;let jb:j<⇑S.players:=(zy.mp qr).1;let s05:=s4.trans s45;let h45:=s45 _ _ h4;let rl5:RL (gZ D H5) ns us:=rl4.imp λx v z=>z.mono s45;let tk:S.players.take (j+1)=S.players.take j++[pn]:=cg qr;refine{p,_,rfl,cU.of hp5,rfl,?_};refine{_,_,rfl,{_,_,rfl,{rfl,?_}}};exists c,_,rfl,(),(),?_;let m0:0<=mixed c (97*(j:Int)+(0+(i:Int))+100):=zw _ ∅;let m1:mixed c (97*(j:Int)+(0+(i:Int))+100)<2147483399:=zt _ ∅;generalize mixed c (97*(j:Int)+(0+(i:Int))+100)=m at m0 m1;exists c,_,rfl,(),(),?_;left;refine{c,_,rfl,?_,?_,?_}
   ·have:=zW (a:=0+(i:Int)) (b:=4) () ∅;ext
   ·have:=zX (a:=0+(i:Int)) 4 ();ext
   generalize mixed c (31*(j:Int)+(0+(i:Int))/4+400)=m3;generalize mixed c ((j:Int)+90)=m2;left;refine d5 (decide (m%6<=m2%5)&&decide (0<m3%3)) ?_ ?_ ?_
   ·intro c1 Z hz
    rw[c1,yW] at hz;change hz
   ·intro c1;rw[c1,yU]
   cases qv:(decide (m%6<=m2%5)&&decide (0<m3%3)) with
   | true=>
    exists .inl {rfl,_,aH.of h45},?_;exists bl,bv,S,ub,i,(by simp),s05 _ _ hbl,ilb.mono s05,iub.mono s05,hi,vJ,λp6 H6 s6 h6=>?_;refine{_,_,p6,rfl,h6,zW m0 ∅,?_,lok i hi,λits p7 ws H7 iok s7 n7 h7 il7=>?_}
    ·have:=zX (a:=m) 6 m0;ext
    let s57:=s6.trans s7;let ne:p7≠D:=λz=>by rw[z,s6 _ _ h45] at n7;cases n7
    exists mR,?_;intros p8 H8 s8 h8;let s58:=s57.trans s8;let h48:=s58 _ _ h45;refine{D,us,_,rfl,rfl,h48,by have:=rl4.len;ext,?_};left;let fr:((0+(i:Int),pn):Int×Str)∉ns.map (·.1):=λz=>by
     let⟨y,hy,ey⟩:=zH.mp z;rcases nlt y hy with q | ⟨_,q2⟩
     ·rw[ey] at q;dsimp only at q;ext
     ·rw[ey] at q2
      dsimp only at q2;let nd:=List.Nodup.sublist (List.take_sublist (j+1) S.players) pnd;rw[tk,zT] at nd;exact nd.2.2 pn q2 pn (zA.mpr rfl) rfl
    refine{ns++[((0+(i:Int),pn),its)],_,Lo.of rfl rfl,bw nD (s05.trans s58),aC,?_,{?_,λx hx=>?_},λx hx=>?_,by rw[zh];simp;ext}
    ·refine RL.snoc ?_ (rl5.imp λx v z=>(z.mono s58).upd h48)
     exact gZ.upd h48 {p8,p7,ws,rfl,h8,s8 _ _ h7,il7.mono s8,ne}
    ·rw[zk,zT]
     exact{nok.1,by simp,λx hx y hy e=>by
      have:y=(0+(i:Int),pn):=by simpa using hy
      rw[<-e] at this;exact fr (this▸hx)}
    ·rcases zG.mp hx with z | z
     ·exact nok.2 x z
     ·rw[zA.mp z]
      refine{by show 0<=0+(i:Int);ext,by show 0+(i:Int)<⇑S.aL;ext,zC qr,?_};show Gh its (S.len (0+(i:Int)).toNat);rw[show(0+(i:Int)).toNat=i from by ext];exact iok
    ·rcases zG.mp hx with z | z
     ·rcases nlt x z with q | ⟨q1,q2⟩
      ·exact .inl q
      ·exact .inr {q1,by rw[tk];exact zJ _ q2}
     ·rw[zA.mp z]
      exact .inr {by show 0+(i:Int)=i;ext,by rw[tk];exact zI _ (zA.mpr rfl)}
   | false=>
    left;refine{ns,us,Lo.of rfl rfl,s05,h45,rl5,nok,λx hx=>?_,()};rcases nlt x hx with z | ⟨z1,z2⟩
    ·exact .inl z
    ·exact .inr {z1,by rw[tk];exact zJ _ z2}
  ·rintro U H4 ⟨ns,us,⟨e,rfl⟩,s4,h4,rl4,nok,nlt,nl⟩
   rw[za] at nlt nl;left;refine{ns,us,Lo.of rfl rfl,s4,h4,rl4,nok,λx hx=>?_,()};rcases nlt x hx with z | ⟨z1,z2⟩
   ·ext
   ·ext
 ·rintro U H3 ⟨ns,us,⟨e,rfl⟩,s3,h3,rl3,nok,nlt,nl⟩
  change kk ns D us H3 nok () s3 h3 rl3
def Vh (ins:List (Str×(Int×Int)×(Int×Int))):Prop:=⇑ins<=3/\B4 (ins.map (·.1))/\∀x∈ins,PY x.2.1/\-12<=x.2.1.1/\x.2.1.1<=12/\Lm.Rd x.2.2/\x.2.2.1<10000/\x.2.2.2<10000
def Jn (n:Int):PY (n%25-12,7*(n%25-12)%12+12*(n/25%5-2))/\-12<=n%25-12/\n%25-12<=12:=by
 let a:=zw n (b:=25) ∅;let b:=zt n (b:=25) ∅;let c:=zw (n/25) (b:=5) ∅;let d:=zt (n/25) (b:=5) ∅;unfold PY;dsimp only;ext
def kT:Sp:=λvs H Q _=>∃(c:Int),vs=[.int c]/\∀(ins:List (Str×(Int×Int)×(Int×Int))) D us H',Vh ins->ax H H'->H' D=some (.lst us)->aD H' (ins.map d7) us->Q (.ref D) H'
def lA:dh P w base 2 T.eY kT:=by
 nomatch T.eY,["_law_cell","_law_m","_law_instruments","_law_k","_law_name","_law_n","_law_df","_law_turn"]
 let⟨c,rfl,kk⟩:=h;let sl:=yC;refine{_,(af (bP 1 qN (bJ (bQ T) hr T.cy (aa (pv 0) (aa ae ag))))
  (af (bP 2 qN (bz ag))
  (af (cj yP rfl (vS (by rfl) T.jM (aa (bJ (eQ T) hr T.d6 (aa (au aV (pv 1) ae) (aa (au aR (pv 1) ae) ag))) ag)) (dz (n:=2) rfl (aK (gP 3 qN) (aK (gP 4 qN) cJ)))
  (af (bP 5 qN (bJ (bQ T) hr T.cy (aa (pv 0) (aa (au aT (pv 3) ae) ag))))
   (af (bP 6 qN (au iX (au aR (pv 5) ae) ae))
   (af (bP 7 qN (bE (aa (pv 6) (aa (au aT (au aR (au dS ae (pv 6)) ae) (au dS ae (au iX (au aR (au aV (pv 5) ae) ae) ae))) ag))))
   (ak (bG (bT yD yF yE bD (pv 2) (aa (bE (aa (pv 4) (aa (pv 7) (aa (bJ (fQ T) hr T.fH (aa (au aR (au aV (pv 5) ae) ae) (aa (fw (bz (aa ae (aa ae (aa ae (aa ae (aa ae ag)))))) (au aR (au aV (pv 5) ae) ae)) ag))) ag)))) ag))))))))
  (ak (aq (pv 2)))))),?_}
 ac_rfl;exists c,8,rfl,(),(),?_;let m0:0<=mixed c 8:=zw _ ∅;let m1:mixed c 8<2147483399:=zt _ ∅;generalize mixed c 8=m at m0 m1;let a0:0<=m%4:=zw _ ∅;let a1:m%4<4:=zt _ ∅;left
 intros D nD s2 h2 H2
 left;refine{_,_,rfl,zW m0 ∅,?_,a0,(),λnms pn H3 nl nok s3 h3=>?_}
 ·have:=zX (a:=m) 4 m0;ext
 exists pn,_,rfl,aH.of h3,?_;let nl3:⇑nms<=3:=()
 refine q9 (K:=K) (a:=pn) (xs:=nms.map V.str) (λi U H'=>∃(ins:List (Str×(Int×Int)×(Int×Int))) (us:List V),Lo [some (.int c),some (.int m),some (.ref D)] 5 U/\ax H H'/\H' pn=some (.lst (nms.map V.str))/\H' D=some (.lst us)/\aD H' (ins.map d7) us/\ins.map (·.1)=nms.take i/\
  ∀x∈ins,PY x.2.1/\-12<=x.2.1.1/\x.2.1.1<=12/\Lm.Rd x.2.2/\x.2.2.1<10000/\x.2.2.2<10000)
  {[],[],Lo.of rfl rfl,s2.trans s3,h3,s3 _ _ h2,cD,rfl,by simp} (λi U H' _ h=>by let⟨_,_,_,_,z,_⟩:=h;exact aH.of z) ?_ ?_
 ·intro i x U H4 p H5 hx hh s45 hp5
  refine dI λN kN0 kR0 _ _=>?_;let⟨ins,us,⟨e,rfl⟩,s4,hpn4,h4,il4,ek,iok⟩:=hh;rw[zK] at hx;cases qr:nms[i]? with
  | none=>rw[qr] at hx;cases hx
  | some nm=>
  rw[qr] at hx;simp only[xo,xP] at hx;subst hx;let ib:i<⇑nms:=(zy.mp qr).1;let h45:=s45 _ _ h4;let tk:nms.take (i+1)=nms.take i++[nm]:=cg qr;let nepn:pn≠D:=λz=>by
   let q:=h3;rw[z,s3 _ _ h2] at q;let e:([]:List V)=nms.map V.str:=HO.lst.inj (yk q);have:⇑nms=0:=by rw[<-za (f:=V.str),<-e];rfl
   ext
  refine{p,_,rfl,cU.of hp5,rfl,?_};refine{_,_,rfl,{_,_,rfl,{rfl,?_}}};exists c,_,rfl,(),(),?_;let n0:0<=mixed c ((i:Int)+530):=zw _ ∅;let n1:mixed c ((i:Int)+530)<2147483399:=zt _ ∅;generalize mixed c ((i:Int)+530)=n at n0 n1;exists dm,?_;intros p6 H6 s6 h6;let h46:=s6 _ _ h45;exists .inl {rfl,_,aH.of h46},?_;exists by show 5<=sizeLine;ext,?_
  intros p7 H7 s7 h7;let g0:0<=n/1125%5:=zw _ ∅;let g1:n/1125%5<5:=zt _ ∅;let t0:0<=n/125%9:=zw _ ∅;let t1:n/125%9<9:=zt _ ∅;obtain⟨jj,hjj⟩:∃j:Nat,n/1125%5=(j:Int):={(n/1125%5).toNat,()}
  obtain⟨z,hz,z0,z1⟩:∃z:Int,[V.int 1,V.int 2,V.int 4,V.int 8,V.int 3][jj]?=some (.int z)/\0<z/\z<=8:=by
   have:jj<5:=()
   match jj,this with
   | 0,_=>exact{1,rfl,∅,∅}
   | 1,_=>exact{2,rfl,∅,∅}
   | 2,_=>exact{4,rfl,∅,∅}
   | 3,_=>exact{8,rfl,∅,∅}
   | 4,_=>exact{3,rfl,∅,∅}
  exists p7,_,n/1125%5,.int z,rfl,rfl,aH.of h7,(by rw[hjj];exact bA hz),?_;exists _,_,rfl,t0,z0,(cq (n:=10) () ()).mono ∅,λp8 H8 s8 h8=>?_;exists mR,?_;intros p9 H9 s9 h9;let s59:=((s6.trans s7).trans s8).trans s9;let h49:=s59 _ _ h45;refine{D,us,_,rfl,rfl,h49,?_,?_}
  ·let e1:=aP il4
   let e2:⇑ins=⇑(nms.take i):=by rw[<-ek,za]
   rw[zQ] at e2;ext
  left;let nt:cA (H9 D):=by rw[h49];exact λ_ z=>by cases z
  let rb:=iT (t:=n/125%9) z0;let rle:=AQ (t:=n/125%9) (b:=z) t0;let⟨td1,td2,td3⟩:=Jn n;let ix:Is H9 (d7 (nm,(n%25-12,7*(n%25-12)%12+12*(n/25%5-2)),red (n/125%9) z)) (.ref p9):=cw h9 (aO eI (aO (iw (((s7.trans s8).trans s9) _ _ h6)) (aO (iw (s9 _ _ h8)) cD)));refine{ins++[(nm,(n%25-12,7*(n%25-12)%12+12*(n/25%5-2)),red (n/125%9) z)],_,Lo.of rfl rfl,bw nD ((s4.trans s45).trans s59),by rw[aE nepn];exact s59 _ _ (s45 _ _ hpn4),aC,?_,?_,λx hx=>?_}
  ·rw[zk]
   exact cT (Is.upd nt ix) (aD.upd nt ((il4.mono s45).mono s59))
  ·rw[zk,ek,tk];rfl
  ·rcases zG.mp hx with y | y
   ·exact iok x y
   ·rw[zA.mp y]
    let⟨_,_,_,_,_,r5⟩:=rb;exact{td1,td2,td3,Lm.Rd.of t0 z0,by show(red (n/125%9) z).1<10000;ext,by show(red (n/125%9) z).2<10000;ext}
 ·rintro U H4 ⟨ins,us,⟨e,rfl⟩,s4,hpn4,h4,il4,ek,iok⟩
  rw[za,zN] at ek;change kk ins D us H4 {by rw[<-za (f:=λx:Str×(Int×Int)×(Int×Int)=>x.1),ek];exact nl3,by rw[ek];exact nok,iok} s4 h4 il4
inductive og (vs:List V) (H:Hp) (Q:VK) (E:XK):Prop
 | mk (q:vF) (x:Int×Int) (_:vs=[.ref q]) (_:H q=some (jy x)) (_:0<=x.1) (_:x.1<10000) (_:0<x.2) (_:x.2<10000) (_:Q (.str (ik x)) H)
def dF:dh P w base 1 T.dk og:=by
 nomatch T.dk,["_law_length"]
 let⟨q,x,rfl,hq,x1,x2,x3,x4,kk⟩:=h;let sl:=yC;let a:=bx (n:=x.1) () x2;let b:=bx (n:=x.2) () x4;let na:=bN (n:=x.1) () x2;let nb:=bN (n:=x.2) () x4;let l1:("/": Str).length=1:=rfl;refine{_,(af (aI (ptr de (bM (pv 0) ae) ae)
  (ak (aq (mF aW T.fi (aa (bM (pv 0) ae) ag))))
  aB)
  (ak (aq (au bV (au bV (mF aW T.fi (aa (bM (pv 0) ae) ag)) aN) (mF aW T.fi (aa (bM (pv 0) ae) ag)))))),?_}
 ac_rfl;left
 by_cases c:x.2=1
 ·refine bW (by rw[c];rfl) ?_
  exists na,?_;left;unfold ik at kk;rw[yO c] at kk;exact kk
 ·refine b9 (ze λz=>c (V.int.inj z)) ?_
  unfold ik at kk;rw[yN c] at kk;exists na,?_;exists by show(dec x.1).length+_<=_;ext,?_
  exists nb,?_;exists by show(dec x.1 ++"/").length+⇑(dec x.2)<=_;rw[len_app];ext,?_
  exact kk
inductive jD (vs:List V) (H:Hp) (Q:VK) (E:XK):Prop
 | mk (v:V) (it:Item) (_:vs=[v]) (_:Is H (eL it) v) (_:Nj it) (_:Q (.str (pz it)) H)
def OU {H:Hp} {it:Item} {v:V} (h:Is H (eL it) v):∃a q b,v=.ref a/\H a=some (.tup [q,.ref b])/\Is H (dO dL it.1) q/\H b=some (jy it.2):=by
 unfold eL Is at h;let⟨a,vs,rfl,ha,hl⟩:=h;unfold aD at hl;let⟨v1,r1,rfl,h1,hl⟩:=hl;unfold aD at hl;let⟨v2,r2,rfl,h2,hl⟩:=hl;unfold aD at hl;subst hl;cases eW (o:=some it.2) h2 with
 | ref hb=>exact{a,v1,_,rfl,ha,h1,hb}
def qM:dh P w base 2 T.jw jD:=by
 nomatch T.jw,["_law_item"]
 let⟨v,⟨o,x⟩,rfl,iv,iok,kk⟩:=h;let sl:=yC;let⟨a,q,b,rfl,ha,iq,hb⟩:=OU iv;let⟨⟨hr',h1,h2,h3⟩,hq⟩:=id iok;let⟨_,p2,_⟩:=hr'.pos;let lx:=kB (x:=x) (by have:=h1;dsimp only at this;ext) h2 (by have:=p2;dsimp only at this;ext) h3;dsimp only at h1 h2 h3 p2 hq hb iq;refine{_,(af (aI (bC (cC (bM (pv 0) ae)))
  (ak (aq (au bV aN (bJ (dF T) hr T.dk (aa (bM (pv 0) ae) ag)))))
  aB)
  (ak (aq (au bV (au bV (au bV (au bV (mF aW T.fi (aa (bM (bM (pv 0) ae) ae) ag)) aN) (mF aW T.fi (aa (bM (bM (pv 0) ae) ae) ag))) aN) (bJ (dF T) hr T.dk (aa (bM (pv 0) ae) ag)))))),?_}
 ac_rfl;left;cases o with
 | none=>
  unfold dO Is at iq;subst iq;exists b,x,rfl,hb,(),h2,p2,h3,?_;let l2:("r:": Str).length=2:=rfl;refine{_,_,rfl,rfl,(),?_};exact kk
 | some pq=>
  let⟨q1,q2,q3,q4,_⟩:=hq pq rfl;let la:=bx (n:=pq.1) () ();let lb:=bx (n:=pq.2) () ();let na:=bN (n:=pq.1) () ();let nb:=bN (n:=pq.2) () ();cases eW (o:=some pq) iq with
  | ref hpq=>
   let l1:(":": Str).length=1:=rfl;exists na,?_;exists by show(dec pq.1).length+_<=_;ext,?_
   exists nb,?_;exists by show(dec pq.1 ++":").length+⇑(dec pq.2)<=_;rw[len_app];ext,?_
   exists by show(dec pq.1 ++":" ++ dec pq.2).length+_<=_;rw[len_app,len_app];ext,?_
   exists b,x,rfl,hb,(),h2,p2,h3,?_;refine{_,_,rfl,rfl,by show(dec pq.1 ++":" ++ dec pq.2 ++":").length+_<=_;rw[len_app,len_app,len_app];ext,?_};exact kk
inductive hJ (vs:List V) (H:Hp) (Q:VK) (E:XK):Prop
 | mk (v:V) (r:Rep) (_:vs=[v]) (_:Is H (gO r) v) (_:Nh r) (_:∀H',ax H H'->Q (.str (rowOf (.rep r))) H')
noncomputable def w4 (r:Rep):List Str:=["repeat",dec r.first,dec r.last,dec r.times]
def om:dh P w base 1 T.gx hJ:=by
 nomatch T.gx,["_law_repeat","_law_words","_law_begin","_law_passes"]
 let⟨v,r,rfl,iv,⟨⟨f1,f2,f3,f4,f5⟩,el,pl⟩,kk⟩:=h;let sl:=yC;let⟨a,ep,rfl,ha,ie⟩:=dP iv;obtain⟨ep',evs,e0,hep,ile⟩:∃ep' evs,V.ref ep=.ref ep'/\H ep'=some (.tup evs)/\aD H (r.ends.map lH) evs:=by unfold Is at ie;exact ie
 cases e0;let evl:=aP ile;let n1:=bN (n:=r.first) (by have:=f1.1;ext) (by have:=f1.2;ext);let n2:=bN (n:=r.last) (by have:=f2.1;ext) (by have:=f2.2;ext);let n3:=bN (n:=r.times) () ();refine{_,(af (bP 1 qN (bz (aa aN (aa (mF aW T.fi (aa (bM (pv 0) ae) ag)) (aa (mF aW T.fi (aa (bM (pv 0) ae) ag)) (aa (mF aW T.fi (aa (bM (pv 0) ae) ag)) ag))))))
  (af (cj yP rfl (iW (bM (pv 0) ae)) (dz (n:=2) rfl (aK (gP 2 qN) (aK (gP 3 qN) cJ)))
  (ak (bG (bT yD yF yE bD (pv 1) (aa (au bV (au bV (mF aW T.fi (aa (pv 2) ag)) aN) (bT yG yI yH gA aN (aa (oh (ts:=["_law_one"]) (ys:=[]) (js:=[]) (te:=(LW UC (bR (aY 0) eC))) (iW (pv 3)) (f9 0) bq (mF aW T.fi (aa (pv 0) ag))) ag))) ag)))))
  (ak (aq (bT yG yI yH gA aN (aa (pv 1) ag)))))),?_}
 ac_rfl;exists n1,?_;exists n2,?_;exists n3,?_;exists by show 4<=sizeLine;ext,?_
 intro W nW;generalize hU:upd H W _=H2;let s2:ax H H2:=by rw[<-hU];exact bj nW
 let h2:H2 W=some (.lst ((w4 r).map V.str)):=by rw[<-hU];exact aC
 clear hU;let ha2:=s2 _ _ ha;exists{_,cU.of (s2 _ _ hep)},?_;refine Ln (K:=K) (a:=ep) (xs:=evs) (λi U H'=>∃(v2 v3:Option V),U=[some (.ref a),some (.ref W),v2,v3]/\ax H H'/\H' W=some (.lst ((w4 r++(r.ends.take i).map oq).map V.str))) {none,none,rfl,s2,by rw[wJ,yn,zV];exact h2} (λi U H' _ h=>by let⟨_,_,_,z,_⟩:=h;exact cU.of (z _ _ hep)) ?_ ?_
 ·intro i x U H3 hx hh
  refine dI λN kN0 kR0 _ _=>?_;let⟨v2,v3,rfl,s3,h3⟩:=hh;let⟨e,he,ie⟩:=cS ile hx;let⟨b,q,rfl,hb,hq⟩:=pA ie;let eo:=f5 e (zC he);let pe:=pl e (zC he);let hb3:=s3 _ _ hb;let tk:r.ends.take (i+1)=r.ends.take i++[e]:=cg he;let ib:i<⇑r.ends:=(zy.mp he).1;let nb:=bN (n:=e.1) (by have:=eo.1;ext) (by have:=eo.2.1;ext);let lb:=bx (n:=e.1) (by have:=eo.1;ext) (by have:=eo.2.1;ext);refine{b,_,rfl,cU.of hb3,rfl,?_};refine{_,_,rfl,{_,_,rfl,{rfl,?_}}};exists .inl {rfl,_,aH.of h3},?_;exists nb,?_;exists by show(dec e.1).length+(":": Str).length<=_;have:(":": Str).length=1:=rfl;ext,?_
  exists{_,cU.of (s3 _ _ hq)},?_;refine gr (enc:=V.int) (ws:=e.2) (λz=>.str (dec z)) (λU=>∃v,U=[v]) () (s3 _ _ hq) {(none),rfl} ?_ ?_
  ·rintro z U H4 R hz s4 ⟨_,rfl⟩ rr
   have:=eo.2.2.2 z hz;exists bN () (),?_;exact rr _ _ _ (ax.refl _) eI {_,rfl}
  ·intro D vs H4 s4 hD il
   let e1:e.2.map (λz=>Dt.str (dec z))=(e.2.map dec).map Dt.str:=by rw[zB];rfl
   rw[e1] at il;rw[dG il] at hD;let l5:∀z∈e.2.map dec,⇑z<=5:=λz hz=>by
    let⟨p,hp,rfl⟩:=zH.mp hz;have:=eo.2.2.2 p hp;exact bx () ()
   let l9:⇑(e.2.map dec)<=9:=by rw[za];exact pe
   let sb:=oI (sep:=",") l5;let jb:=Bb (sep:=",") l5;let mb:⇑(e.2.map dec)*(5+(",": Str).length)<=9*(5+1):=wI l9 (zm _);refine{",",D,_,rfl,rfl,aH.of hD,zM sb (zM mb ()),?_};refine{_,_,rfl,rfl,?_,?_}
   ·show(dec e.1 ++":").length+(Str.join "," (e.2.map dec)).length<=sizeLine
    rw[len_app];have:(":": Str).length=1:=rfl;ext
   let h34:=s4 _ _ h3;let s04:=s3.trans s4;left;refine{W,_,_,rfl,rfl,h34,?_,?_}
   ·rw[za,zh,za,zQ]
    show 4+_<_;ext
   exists _,_,rfl,bw nW s04,?_;let ew:(w4 r++(r.ends.take (i+1)).map oq).map V.str=(w4 r++(r.ends.take i).map oq).map V.str++[V.str (oq e)]:=by
    rw[tk,zk (f:=oq),<-zF,zk (f:=V.str)];rfl
   rw[aC,ew];rfl
 ·rintro U H3 ⟨v2,v3,rfl,s3,h3⟩
  rw[evl,zN] at h3;left;let ll:∀z∈w4 r++r.ends.map oq,⇑z<=60:=λz hz=>by
   rcases zG.mp hz with y | y
   ·unfold w4 at y
    simp only[zD,zE,yV] at y;rcases y with rfl | rfl | rfl | rfl
    ·decide
    ·have:=bx (n:=r.first) (by have:=f1.1;ext) (by have:=f1.2;ext);ext
    ·have:=bx (n:=r.last) (by have:=f2.1;ext) (by have:=f2.2;ext);ext
    ·have:=bx (n:=r.times) () ();ext
   ·let⟨e,he,rfl⟩:=zH.mp y
    exact Ii (f5 e he) (pl e he)
  let sb:=oI (sep:=" ") ll;refine{" ",W,_,rfl,rfl,aH.of h3,?_,?_}
  ·let l4:⇑(w4 r++r.ends.map oq)<=13:=by rw[zh,za];show 4+_<=13;ext
   exact zM sb (zM (wI l4 (zm _)) (by show 13*(60+1)<=sizeLine;ext))
  exact kk _ s3
def Wn {c:Bool} {T1 T2:VK->Prop} {Z:VK} {H:Hp} (v:V) (h1:c=true->∀Z:VK,Z v H->T1 Z) (h2:c=false->∀Z:VK,Z v H->T2 Z) (hz:Z v H):if c=true then T1 Z else T2 Z:=by
 cases c with
 | true=>rw[yO rfl];exact h1 rfl Z hz
 | false=>rw[yN (by simp)];exact h2 rfl Z hz
def Vf (j:Jump):Prop:=RS (.bS j)
noncomputable def Bf (S:bU):List Told:=S.repeats.map .rep++S.bS.toList.map .bS
inductive pX (vs:List V) (H:Hp) (Q:VK) (E:XK):Prop
 | mk (p:vF) (S:bU) (_:vs=[.ref p]) (_:nh H p S) (_:(∀r∈S.repeats,Nh r)) (_:⇑S.repeats<=1000) (_:(∀j,S.bS=some j->Vf j)) (_:∀D H',ax H H'->H D=none->H' D=some (.lst (((Bf S).map rowOf).map V.str))->Q (.ref D) H')
def O0 {H:Hp} {j:Jump} {v:V} (h:Is H (jS j) v):∃a c,v=.ref a/\H a=some (.tup [.int j.tY,.int j.vW,.int j.cY,c])/\Is H (dO .int j.fU) c:=by
 unfold jS Is at h;let⟨a,vs,rfl,ha,hl⟩:=h;unfold aD at hl;let⟨v1,r1,rfl,h1,hl⟩:=hl;unfold aD at hl;let⟨v2,r2,rfl,h2,hl⟩:=hl;unfold aD at hl;let⟨v3,r3,rfl,h3,hl⟩:=hl;unfold aD at hl;let⟨v4,r4,rfl,h4,hl⟩:=hl;unfold aD at hl;subst hl;unfold Is at h1 h2 h3;subst h1 h2 h3;exact{(a),v4,rfl,ha,h4}
theorem gL {H:Hp} {α:Type} {d:α->Dt}:∀{xs:List α} {vs:List V},aD H (xs.map d) vs->∃ps:List (α×V),ps.map (·.1)=xs/\ps.map (·.2)=vs/\∀z∈ps,Is H (d z.1) z.2
 | [],_,h=>{[],rfl,by unfold aD at h;rw[h];rfl,by simp}
 | x::xs,_,h=>by
  rw[zj] at h;unfold aD at h;let⟨v,r,rfl,h1,h2⟩:=h;let⟨ps,e1,e2,e3⟩:=gL h2;refine{(x,v)::ps,by rw[zj,e1],by rw[zj,e2],λz hz=>?_};rcases zD.mp hz with rfl | hz
  ·exact h1
  ·exact e3 z hz
def qO:dh P w base 2 T.jx pX:=by
 nomatch T.jx,["_law_s","_law_rows","_law_coda"]
 let⟨p,S,rfl,la,tR,rl3,jok,kk⟩:=h;let sl:=yC;let⟨pl,il,sl',bl,hl,nl,rl,ub,jm,iv,sv,bv,hv,nv,rv,h1,h2,h3,h4,h5,h6,h7,h8,⟨h9,ilr⟩,hj⟩:=la.at';let⟨ps,e1,e2,e3⟩:=gL ilr;let pln:⇑ps=⇑S.repeats:=by rw[<-e1,za]
 refine{_,(af (Mo (i:=1) (ts:=["_law_repeat"]) (ys:=[]) (js:=[]) (te:=(gG hJ [] E0 (bR (aY 0) eC))) (bf (bM (pv 0) ae)) (f9 0) bq (bJ (om T) hr T.gx (aa (pv 0) ag)) qN)
  (af (aI (bC (fN (bM (pv 0) ae)))
  (af (bP 2 qN (AX (bC (cC (bM (bM (pv 0) ae) ae))) aN (mF aW T.fi (aa (bM (bM (pv 0) ae) ae) ag))))
   (ak (bG (bT yD yF yE bD (pv 1) (aa (bT yG yI yH gA aN (aa (bz (aa aN (aa (mF aW T.fi (aa (bM (bM (pv 0) ae) ae) ag)) (aa (mF aW T.fi (aa (bM (bM (pv 0) ae) ae) ag)) (aa (mF aW T.fi (aa (bM (bM (pv 0) ae) ae) ag)) (aa (pv 2) ag)))))) ag)) ag)))))
  aB)
  (ak (aq (pv 1))))),?_}
 ac_rfl;exists{_,aH.of h9},?_;refine dA (enc:=λq:Rep×V=>q.2) (ws:=ps) (λq=>.str (rowOf (.rep q.1))) (λU=>∃v,U=[v]) () (by rw[e2];exact aH.of h9) {(none),rfl} ?_ ?_
 ·rintro z U H1 R hz s1 ⟨_,rfl⟩ rr
  let zin:z.1∈S.repeats:=by rw[<-e1];exact zP hz
  change{z.2,z.1,rfl,(e3 z hz).mono s1,tR _ zin,λH2 s2=>rr _ _ _ s2 eI {_,rfl}}
 ·intro D vs H1 s1 nD hD ilD
  let ee:ps.map (λq:Rep×V=>Dt.str (rowOf (.rep q.1)))=((S.repeats.map Told.rep).map rowOf).map Dt.str:=by rw[<-e1,zB,zB,zB];rfl
  rw[ee] at ilD;rw[dG ilD] at hD;let h11:=s1 _ _ h1;left;cases q:S.bS with
  | none=>
   rw[q] at hj;unfold dO Is at hj;subst hj;left;refine kk D H1 s1 nD ?_;unfold Bf;rw[q,hD];simp
  | some j=>
   rw[q] at hj;let⟨ja,jc,rfl,hja,ijc⟩:=O0 hj;let⟨j1,j2,j3,j4⟩:=jok j q;let hja1:=s1 _ _ hja;let n1:=bN (n:=j.tY) (by have:=j1.1;ext) (by have:=j1.2;ext);let n2:=bN (n:=j.vW) (by have:=j2.1;ext) (by have:=j2.2;ext);let n3:=bN (n:=j.cY) (by have:=j3.1;ext) (by have:=j3.2;ext);let cl:⇑(ctxt j.fU)<=5:=by
    unfold ctxt;cases qc:j.fU with
    | none=>decide
    | some m=>have:=j4 m qc;exact bx (by have:=this.1;ext) (by have:=this.2;ext)
   left;refine Wn (H:=H1) (.str (ctxt j.fU)) ?_ ?_ ?_
   ·intro c Z hz
    let e:jc=.bH:=ye c;cases qc:j.fU with
    | none=>rw[qc] at hz;change hz
    | some m=>rw[qc] at ijc;unfold dO Is at ijc;rw[ijc] at e;cases e
   ·intro c Z hz
    cases qc:j.fU with
    | none=>rw[qc] at ijc;unfold dO Is at ijc;rw[ijc] at c;simp at c
    | some m=>
     rw[qc] at ijc hz;unfold dO Is at ijc;subst ijc;change{bN (by have:=(j4 m qc).1;ext) (by have:=(j4 m qc).2;ext),hz}
   exists .inl {rfl,_,aH.of hD},?_;exists n1,?_;exists n2,?_;exists n3,?_;exists by show 5<=sizeLine;ext,?_
   intros p5 H5 s5 h5;let ll:∀z∈Sc.wordsOf (.bS j),⇑z<=5:=λz hz=>by
    simp only[Sc.wordsOf,zD,zE,yV] at hz;rcases hz with rfl | rfl | rfl | rfl | rfl
    ·decide
    ·exact bx (by have:=j1.1;ext) (by have:=j1.2;ext)
    ·exact bx (by have:=j2.1;ext) (by have:=j2.2;ext)
    ·exact bx (by have:=j3.1;ext) (by have:=j3.2;ext)
    ·exact cl
   let sb:=oI (sep:=" ") ll;refine{" ",p5,Sc.wordsOf (.bS j),rfl,rfl,aH.of h5,zM sb (by show 5*(5+1)<=sizeLine;ext),?_};exists D,_,_,rfl,rfl,s5 _ _ hD,by rw[za,za,za];ext,?_
   left;refine kk D _ (bw nD (s1.trans s5)) nD ?_;unfold Bf;rw[aC,q,zk,zk];rfl
def QT {H:Hp} {x:Str×(Int×Int)×(Int×Int)} {v:V} (h:Is H (d7 x) v):∃a t l,v=.ref a/\H a=some (.tup [.str x.1,t,l])/\Is H (dL x.2.1) t/\Is H (dL x.2.2) l:=by
 unfold d7 Is at h;let⟨a,vs,rfl,ha,hl⟩:=h;unfold aD at hl;let⟨v1,r1,rfl,h1,hl⟩:=hl;unfold aD at hl;let⟨v2,r2,rfl,h2,hl⟩:=hl;unfold aD at hl;let⟨v3,r3,rfl,h3,hl⟩:=hl;unfold aD at hl;subst hl;unfold Is at h1;subst h1;exact{(a),v2,v3,rfl,ha,h2,h3}
def Mw {H:Hp} {x:Str×List Str} {v:V} (h:Is H (gq x) v):∃a q,v=.ref a/\H a=some (.tup [.str x.1,.ref q])/\H q=some (.tup (x.2.map V.str)):=by
 unfold gq Is at h;let⟨a,vs,rfl,ha,hl⟩:=h;unfold aD at hl;let⟨v1,r1,rfl,h1,hl⟩:=hl;unfold aD at hl;let⟨v2,r2,rfl,h2,hl⟩:=hl;unfold aD at hl;subst hl;unfold Is at h1;subst h1;unfold mr Is at h2;let⟨q,us,rfl,hq,hl⟩:=h2;rw[dG hl] at hq;exact{(a),q,rfl,ha,hq}
def S9 {H:Hp} {x:Int×Str} {v:V} (h:Is H (Lx x) v):∃a,v=.ref a/\H a=some (.tup [.int x.1,.str x.2]):=by
 unfold Lx Is at h;let⟨a,vs,rfl,ha,hl⟩:=h;unfold aD at hl;let⟨v1,r1,rfl,h1,hl⟩:=hl;unfold aD at hl;let⟨v2,r2,rfl,h2,hl⟩:=hl;unfold aD at hl;subst hl;unfold Is at h1 h2;subst h1 h2;exact{(a),rfl,ha}
def TD (t:Told):Prop:=RS t/\⇑(Sc.wordsOf t)<=100/\∀w∈Sc.wordsOf t,⇑w<=100
def Ag {t:Told} (h:TD t):((Sc.wordsOf t).map (λz:Str=>⇑z+(" ": Str).length)).sum<=sizeLine:=by
 let sl:=yC;let a:=oI (sep:=" ") h.2.2;let b:⇑(Sc.wordsOf t)*(100+(" ": Str).length)<=100*(100+(" ": Str).length):=wI h.2.1 (zm _);exact zM a (zM b (by show 100*(100+1)<=sizeLine;ext))
def JL (n:Str):("player ": Str)++n=rowOf (.bF n):=rfl
noncomputable def rws (ts:List Told):List V:=(ts.map rowOf).map V.str
def kW (a b:List Told):rws (a++b)=rws a++rws b:=by unfold rws;rw[zk,zk]
def kU (a:List Told):⇑(rws a)=⇑a:=by unfold rws;rw[za,za]
inductive oK (vs:List V) (H:Hp) (Q:VK) (E:XK):Prop
 | mk (p:vF) (S:bU) (_:vs=[.ref p]) (_:nh H p S) (_:(∀t∈dJ S,TD t)) (_:⇑(dJ S)<=1000000) (_:(∀r∈S.repeats,Nh r)) (_:⇑S.repeats<=1000) (_:∀D H',ax H H'->H D=none->H' D=some (.lst (rws (dJ S)))->Q (.ref D) H')
def pk:dh P w base 3 T.gX oK:=by
 nomatch T.gX,["_law_s","_law_rows","_law_name","_law_turn","_law_time","_law_metre","_law_key","_law_marks","_law_player","_law_row","_law_bar","_law_items"]
 let⟨p,S,rfl,la,tok,tl,tR,rln3,kk⟩:=h;let sl:=yC;let⟨pl,il,st,bl,hl,nl,rl,ub,jm,iv,sv,bv,hv,nv,rv,h1,h2,⟨h3,ili⟩,⟨h4,ils⟩,⟨h5,ilb⟩,h6,⟨h7,rlh⟩,⟨h8,rln⟩,_,_⟩:=la.at';let mem:∀a b c:List Told,dJ S=a++b++c->∀t∈b,TD t:=λa b c e t ht=>tok t (by rw[e];simp[ht]);let tlen:∀a b:List Told,dJ S=a++b->⇑a<=1000000:=λa b e=>by rw[e,zh] at tl;ext
 obtain⟨fl,fli,fls,flb,fln⟩:⇑S.players<=1000000/\⇑S.players+⇑S.ao<=1000000/\⇑S.players+⇑S.ao+⇑S.aM<=1000000/\⇑S.players+⇑S.ao+⇑S.aM+⇑S.aL<=1000000/\⇑S.aJ<=1000000:=by
  unfold dJ at tl;simp only[zh,za] at tl;ext
 refine{_,(af (Mo (i:=1) (ts:=["_law_name"]) (ys:=[]) (js:=[]) (te:=(e9 (λx y H Q=>∃i j,x=.str i/\y=.str j/\⇑i+⇑j<=sizeLine/\Q (.str (i++j)) H) (tC (.str "player ")) (aY 0))) (bf (bM (pv 0) ae)) (f9 0) bq (au bV aN (pv 0)) qN)
  (af (cj yP rfl (bf (bM (pv 0) ae)) (dz (n:=3) rfl (aK (gP 2 qN) (aK (gP 3 qN) (aK (gP 4 qN) cJ))))
  (ak (bG (bT yD yF yE bD (pv 1) (aa (bT yG yI yH gA aN (aa (bz (aa aN (aa (pv 2) (aa (mF aW T.fi (aa (bM (pv 3) ae) ag)) (aa (mF aW T.fi (aa (bM (pv 3) ae) ag)) (aa (bJ (dF T) hr T.dk (aa (pv 4) ag)) ag)))))) ag)) ag)))))
  (af (bP 1 qN (au fP (pv 1) (oh (ts:=["_law_name","_law_players"]) (ys:=[]) (js:=[]) (g:=(CQ K 2 (eK (bO 0) (eK (bO 1) CS)))) (te:=(Vs K "str" (rJoin K) (tC (.str " ")) (bR (e9 (RH K) (GF (bR (tC (.str "staff")) (bR (aY 0) eC))) (LW (UD K) (bR (aY 1) eC))) eC))) (bf (bM (pv 0) ae)) (dz (n:=2) rfl (aK (f9 0) (aK (f9 1) cJ))) bq (bT yG yI yH gA aN (aa (au fP (bz (aa aN (aa (pv 0) ag))) (mF iB T.lB (aa (pv 1) ag))) ag)))))
  (af (cj yP rfl (bf (bM (pv 0) ae)) (dz (n:=3) rfl (aK (gP 5 qN) (aK (gP 6 qN) (aK (gP 7 qN) cJ))))
  (ak (bG (bT yD yF yE bD (pv 1) (aa (bT yG yI yH gA aN (aa (au fP (bz (aa aN (aa (au bV (au bV (mF aW T.fi (aa (bM (pv 5) ae) ag)) aN) (mF aW T.fi (aa (bM (pv 5) ae) ag))) (aa (mF aW T.fi (aa (pv 6) ag)) ag)))) (mF iB T.lB (aa (pv 7) ag))) ag)) ag)))))
  (af (aI (bC (fN (bM (pv 0) ae)))
  (ak (bG (bT yD yF yE bD (pv 1) (aa (au bV aN (bJ (dF T) hr T.dk (aa (bM (pv 0) ae) ag))) ag))))
  aB)
  (af (cj yP rfl (bf (bM (pv 0) ae)) (dz (n:=2) rfl (aK (gP 8 qN) (aK (gP 9 qN) cJ)))
  (ak (bP 1 qN (au fP (pv 1) (oh (ts:=["_law_bar","_law_name"]) (ys:=["_law_player"]) (js:=[8]) (g:=(CQ K 2 (eK (bO 0) (eK (bO 1) CS)))) (te:=(Vs K "str" (rJoin K) (tC (.str " ")) (bR (GF (bR (tC (.str "holds")) (bR (aY 2) (bR (LW UC (bR (aY 0) eC)) (bR (aY 1) eC))))) eC))) (bf (pv 9)) (dz (n:=2) rfl (aK (f9 0) (aK (f9 1) cJ))) bq (bT yG yI yH gA aN (aa (bz (aa aN (aa (pv 2) (aa (mF aW T.fi (aa (pv 0) ag)) (aa (pv 1) ag))))) ag)))))))
  (af (cj yP rfl (bf (bM (pv 0) ae)) (dz (n:=3) rfl (aK (gP 10 qN) (aK (gP 8 qN) (aK (gP 11 qN) cJ))))
  (ak (bG (bT yD yF yE bD (pv 1) (aa (bT yG yI yH gA aN (aa (au fP (bz (aa aN (aa (mF aW T.fi (aa (pv 10) ag)) (aa (pv 8) ag)))) (oh (ts:=["_law_item"]) (ys:=[]) (js:=[]) (te:=(gG jD [] E0 (bR (aY 0) eC))) (bf (pv 11)) (f9 0) bq (bJ (qM T) hr T.jw (aa (pv 0) ag)))) ag)) ag)))))
  (ak (aq (au fP (pv 1) (bJ (qO T) hr T.jx (aa (pv 0) ag)))))))))))),?_}
 ac_rfl;exists{_,aH.of h2},?_;refine dA (enc:=V.str) (ws:=S.players) (λn=>.str (rowOf (.bF n))) (λU=>∃v,U=[v]) () (aH.of h2) {(none),rfl} ?_ ?_
 ·rintro z U H1 R hz s1 ⟨_,rfl⟩ rr
  let tz:TD (.bF z):=tok _ (by unfold dJ;simp[hz]);left;refine{?_,?_}
  ·let l7:("player ": Str).length=7:=rfl
   have:=tz.2.2 z (by simp[Sc.wordsOf]);ext
  exact rr _ _ _ (ax.refl _) (by rw[JL];exact eI) {_,rfl}
 ·intro D vs H1 s1 nD hD ilD
  let ee:S.players.map (λn=>Dt.str (rowOf (.bF n)))=((S.players.map Told.bF).map rowOf).map Dt.str:=by rw[zB,zB];rfl
  rw[ee] at ilD;rw[dG ilD] at hD;let h11:=s1 _ _ h1;exists{_,aH.of (s1 _ _ h3)},?_;refine fj (K:=K) (a:=il) (xs:=iv) (λi U H'=>Lo [some (.ref p),some (.ref D)] 10 U/\ax H H'/\H' D=some (.lst (rws (S.players.map .bF++(S.ao.take i).map λx=>.cI x.1 x.2.1 x.2.2)))) {Lo.of rfl rfl,s1,by rw[wJ,yn,zV];exact hD} (λi U H' _ h=>by let⟨_,z,_⟩:=h;exact aH.of (z _ _ h3)) ?_ ?_
  ·intro i x U H2 hx hh
   refine dI λN kN0 kR0 _ _=>?_;let⟨⟨e,rfl⟩,s2,hD2⟩:=hh;let⟨n,hn,ix⟩:=cS (d:=d7) ili hx;let⟨a1,t1,l1,rfl,ha1,it,iL⟩:=QT ix;cases eW (o:=some n.2.1) it with
   | ref ht=>
   cases eW (o:=some n.2.2) iL with
   | ref hL=>
   let tn:TD (.cI n.1 n.2.1 n.2.2):=tok _ (by unfold dJ;simp only[zG,zH];exact .inl (.inl (.inl (.inl (.inl (.inl (.inr {n,zC hn,rfl})))))));refine{a1,_,rfl,cU.of (s2 _ _ ha1),rfl,?_};refine{_,_,rfl,{_,_,rfl,{_,_,rfl,{rfl,?_}}}};rename_i bt bL;let ht2:=s2 _ _ ht;let hL2:=s2 _ _ hL;let⟨t1,t2,t3,t4,t5,t6,t7⟩:=tn.1;let⟨c1,c2,c3,c4,_⟩:=t2;let⟨r1,r2,_⟩:=t5.pos;exists .inl {rfl,_,aH.of hD2},?_;exists bN () (),?_;exists bN () (),?_;exists _,n.2.2,rfl,hL2,r1,t6,r2,t7,?_;exists by show 5<=sizeLine;ext,?_
   intros p5 H5 s5 h5;refine{" ",p5,Sc.wordsOf (.cI n.1 n.2.1 n.2.2),rfl,rfl,aH.of h5,Ag tn,?_};left;refine{D,_,_,rfl,rfl,s5 _ _ hD2,?_,?_}
   ·rw[kU,zh,za,za,zQ];ext
   exists Lo.of rfl rfl,bw nD (s2.trans s5),?_;rw[aC,cg hn,zk,<-zF];exact y6 (λl=>some (HO.lst l)) (kW _ [Told.cI n.1 n.2.1 n.2.2]).symm
  ·rintro U H2 ⟨⟨e,rfl⟩,s2,hD2⟩
   rw[aP ili,zN] at hD2;let h12:=s2 _ _ h1;let⟨ps,e1,e2,e3⟩:=gL ils;let pln:⇑ps=⇑S.aM:=by rw[<-e1,za]
   exists{_,aH.of (s2 _ _ h4)},?_;refine dA (enc:=λq:(Str×List Str)×V=>q.2) (ws:=ps) (λq=>.str (rowOf (.cu q.1.1 q.1.2))) (λU=>∃v u,U=[v,u]) () (by rw[e2];exact aH.of (s2 _ _ h4)) {(none),none,rfl} ?_ ?_
   ·rintro z U H3 R hz s3 ⟨_,_,rfl⟩ rr
    let zin:z.1∈S.aM:=by rw[<-e1];exact zP hz
    let tz:TD (.cu z.1.1 z.1.2):=tok _ (by unfold dJ;simp only[zG,zH];exact .inl (.inl (.inl (.inl (.inl (.inr {(z.1),zin,rfl}))))));let⟨a3,q3,ea,ha3,hq3⟩:=Mw (e3 z hz);let s03:=s2.trans s3;rw[ea];refine{a3,_,rfl,cU.of (s03 _ _ ha3),rfl,?_};refine{_,_,rfl,{_,_,rfl,{rfl,?_}}};exists by show 2<=sizeLine;ext,?_
    intros p5 H5 s5 h5;exists q3,_,rfl,.inr (cU.of (s5 _ _ (s03 _ _ hq3))),?_;intros p6 H6 s6 h6;let zl:⇑z.1.2<=98:=by have:=tz.2.1;simp only[Sc.wordsOf,zv] at this;ext
    refine{p5,p6,_,_,rfl,rfl,aH.of (s6 _ _ h5),aH.of h6,by rw[za];show 2+_<=_;ext,?_};intros p7 H7 s7 h7;refine{" ",p7,Sc.wordsOf (.cu z.1.1 z.1.2),rfl,rfl,aH.of h7,Ag tz,?_};exact rr _ _ _ ((s5.trans s6).trans s7) eI {_,_,rfl}
   ·intro D3 vs3 H3 s3 nD3 hD3 il3
    let ee3:ps.map (λq:(Str×List Str)×V=>Dt.str (rowOf (.cu q.1.1 q.1.2)))=((S.aM.map λx=>Told.cu x.1 x.2).map rowOf).map Dt.str:=by rw[<-e1,zB,zB,zB];rfl
    rw[ee3] at il3;rw[dG il3] at hD3;refine{D,D3,_,_,rfl,rfl,aH.of (s3 _ _ hD2),aH.of hD3,?_,?_}
    ·rw[kU,zh,za,za,za,za,za];ext
    intro D4 n4;generalize hU:upd H3 D4 _=H4;let s4:ax H3 H4:=by rw[<-hU];exact bj n4
    let hD4:H4 D4=some (.lst (rws (S.players.map .bF++(S.ao.map λx=>.cI x.1 x.2.1 x.2.2)++S.aM.map λx=>.cu x.1 x.2))):=by
     rw[<-hU,aC];exact y6 (λl=>some (HO.lst l)) (kW _ _).symm
    clear hU;let nD4:H D4=none:=(s2.trans s3).back n4;let s04:=(s2.trans s3).trans s4;clear hD2 hD3 il3 hD ilD nD nD3;let h14:=s04 _ _ h1;exists{_,aH.of (s04 _ _ h5)},?_;refine fj (K:=K) (a:=bl) (xs:=bv) (λi U H'=>Lo [some (.ref p),some (.ref D4)] 10 U/\ax H H'/\H' D4=some (.lst (rws (S.players.map .bF++(S.ao.map λx=>.cI x.1 x.2.1 x.2.2)++(S.aM.map λx=>.cu x.1 x.2)++(S.aL.take i).map .bar)))) {{(e),rfl},s04,by rw[wJ,yn,zV];exact hD4} (λi U H' _ h=>by let⟨_,z,_⟩:=h;exact aH.of (z _ _ h5)) ?_ ?_
    ·intro i x U H5 hx hh
     refine dI λN kN1 kR1 _ _=>?_;let⟨⟨e,rfl⟩,s5,hD5⟩:=hh;let⟨b,hb,ib⟩:=cS (d:=kI) ilb hx;let⟨a1,mv,q1,rfl,ha1,im,hq1⟩:=vV ib;cases eW (o:=some b.aQ) im with
     | ref hm=>
     rename_i am;let tb:TD (.bar b):=tok _ (by unfold dJ;simp only[zG,zH];exact .inl (.inl (.inl (.inl (.inr {b,zC hb,rfl})))));let hm5:=s5 _ _ hm;refine{a1,_,rfl,cU.of (s5 _ _ ha1),rfl,?_};refine{_,_,rfl,{_,_,rfl,{_,_,rfl,{rfl,?_}}}};let⟨t1,t2,t3,t4,t5,t6⟩:=tb.1;let bb:0<=b.aQ.2/\b.aQ.2<1000:=by unfold Dc at t3;simp at t3;ext
     let la1:=bx (n:=b.aQ.1) () ();let la2:=bx (n:=b.aQ.2) () ();let l1:("/": Str).length=1:=rfl;exists .inl {rfl,_,aH.of hD5},?_;exists bN () (),?_;exists by show(dec b.aQ.1).length+_<=_;ext,?_
     exists bN () (),?_;exists by show(dec b.aQ.1 ++"/").length+⇑(dec b.aQ.2)<=_;rw[len_app];ext,?_
     exists bN () (),?_;exists by show 3<=sizeLine;ext,?_
     intros p6 H6 s6 h6;exists q1,_,rfl,.inr (cU.of (s6 _ _ (s5 _ _ hq1))),?_;intros p7 H7 s7 h7;let ml:⇑b.marks<=97:=by have:=tb.2.1;simp only[Sc.wordsOf,zv] at this;ext
     refine{p6,p7,_,_,rfl,rfl,aH.of (s7 _ _ h6),aH.of h7,by rw[za];show 3+_<=_;ext,?_};intros p8 H8 s8 h8;refine{" ",p8,Sc.wordsOf (.bar b),rfl,rfl,aH.of h8,Ag tb,?_};let s58:=(s6.trans s7).trans s8;left;refine{D4,_,_,rfl,rfl,s58 _ _ hD5,?_,?_}
     ·rw[kU];simp only[zh,za,zQ];ext
     exists Lo.of rfl rfl,bw nD4 (s5.trans s58),?_;rw[aC,cg hb,zk,<-zF];exact y6 (λl=>some (HO.lst l)) (kW _ [Told.bar b]).symm
    ·rintro U H5 ⟨⟨e,rfl⟩,s5,hD5⟩
     rw[aP ilb,zN] at hD5;obtain⟨B,hB⟩:∃B,B=S.players.map Told.bF++(S.ao.map λx=>Told.cI x.1 x.2.1 x.2.2)++(S.aM.map λx=>Told.cu x.1 x.2)++S.aL.map Told.bar:={_,rfl}
     let tB:dJ S=B++S.aG.toList.map .aG++(S.holds.map λx=>x.2.map λh=>Told.holds x.1 h.1 h.2).flatten++(S.aJ.map λx=>.aJ x.1.1 x.1.2 x.2)++Bf S:=by rw[hB];rfl
     rw[<-hB] at hD5;let h15:=s5 _ _ h1;left;refine join (λU H'=>Lo [some (.ref p),some (.ref D4)] 10 U/\ax H H'/\H' D4=some (.lst (rws (B++S.aG.toList.map .aG)))) (λN hN c1=>?_) (λN hN c1=>?_) ?_
     ·cases qu:S.aG with
      | none=>
       rw[qu] at h6;unfold dO Is at h6;rw[h6] at c1;simp at c1
      | some u=>
       rw[qu] at h6;cases eW (o:=some u) h6 with
       | ref hu=>
       let tu:TD (.aG u):=tok _ (by rw[tB,qu];simp);let⟨u1,u2,u3,u4⟩:=tu.1;let⟨_,r2,_⟩:=u1.pos;let lu:=kB (x:=u) () u3 () u4;let bl5:B.length<=1000000:=tlen B _ (by rw[tB,zF,zF,zF]);exists .inl {rfl,_,aH.of hD5},?_;exists _,u,rfl,s5 _ _ hu,(),u3,r2,u4,?_;let l7:("upbeat ": Str).length=7:=rfl;refine{_,_,rfl,rfl,(),?_};exists D4,_,_,rfl,rfl,hD5,by rw[kU];ext,?_
       left;refine hN _ _ {Lo.of rfl rfl,bw nD4 s5,?_};rw[aC,qu];exact y6 (λl=>some (HO.lst l)) (kW B [Told.aG u]).symm
     ·let qu:S.aG=none:=by
       cases qu:S.aG with
       | none=>rfl
       | some u=>
        rw[qu] at h6;cases eW (o:=some u) h6 with
        | ref hu=>simp at c1
      left;refine hN _ _ {Lo.of rfl rfl,s5,?_};rw[qu];show H5 D4=some (.lst (rws (B++[])));rw[zV];exact hD5
     rintro σ6 H6 ⟨⟨e,rfl⟩,s6,hD6⟩;let h16:=s6 _ _ h1;exists{_,aH.of (s6 _ _ h7)},?_;refine fj (K:=K) (a:=hl) (xs:=hv) (λi U H'=>∃(D:vF),Lo [some (.ref p),some (.ref D)] 10 U/\ax H H'/\H D=none/\H' D=some (.lst (rws (B++S.aG.toList.map .aG++((S.holds.take i).map λx=>x.2.map λh=>Told.holds x.1 h.1 h.2).flatten)))) {D4,{(e),rfl},s6,nD4,by rw[wJ,yn,List.flatten_nil,zV];exact hD6} (λi U H' _ h=>by let⟨_,_,z,_⟩:=h;exact aH.of (z _ _ h7)) ?_ ?_
     ·intro i x U H7 hx hh
      refine dI λN kN2 kR2 _ _=>?_;let⟨D7,⟨e,rfl⟩,s7,nD7,hD7⟩:=hh;let⟨y,hy,a7,r7,us7,rfl,ha7,hr7,il7,_⟩:=rlh.at hx;let⟨qs,f1,f2,f3⟩:=gL il7;let ty:∀h∈y.2,TD (.holds y.1 h.1 h.2):=λh hh=>tok _ (by
       rw[tB];refine zJ _ (zJ _ (zI _ ?_));exact wm.mpr {_,zP (zC hy),zP hh})
      let tke:((S.holds.take (i+1)).map λx=>x.2.map λh=>Told.holds x.1 h.1 h.2).flatten=((S.holds.take i).map λx=>x.2.map λh=>Told.holds x.1 h.1 h.2).flatten++y.2.map λh=>Told.holds y.1 h.1 h.2:=by
       rw[cg hy,zk,xh];simp
      let lenB:⇑(B++S.aG.toList.map Told.aG++((S.holds.take (i+1)).map λx=>x.2.map λh=>Told.holds x.1 h.1 h.2).flatten)<=1000000:=by
       refine tlen _ (((S.holds.drop (i+1)).map λx=>x.2.map λh=>Told.holds x.1 h.1 h.2).flatten++(S.aJ.map λx=>.aJ x.1.1 x.1.2 x.2)++Bf S) ?_;rw[tB]
       conv=>lhs;rw[<-zZ (i+1) S.holds,zk,xh]
       simp only[zF]
      rw[tke] at lenB;simp only[zh,za] at lenB;refine{a7,_,rfl,cU.of (s7 _ _ ha7),rfl,?_};refine{_,_,rfl,{_,_,rfl,{rfl,?_}}};exists{_,aH.of (s7 _ _ hr7)},?_;let ql:⇑qs=⇑y.2:=by rw[<-f1,za]
      refine dA (enc:=λq:(Int×Str)×V=>q.2) (ws:=qs) (λq=>.str (rowOf (.holds y.1 q.1.1 q.1.2))) (λU=>∃v u,U=[v,u,some (.str y.1)]) () (by rw[f2];exact aH.of (s7 _ _ hr7)) {(none),none,rfl} ?_ ?_
      ·rintro z U H8 R hz s8 ⟨_,_,rfl⟩ rr
       let zin:z.1∈y.2:=by rw[<-f1];exact zP hz
       let tz:=ty z.1 zin;let⟨a8,ea,ha8⟩:=S9 (f3 z hz);let s08:=s7.trans s8;let⟨b1,b2⟩:=tz.1.2.1;rw[ea];refine{a8,_,rfl,cU.of (s08 _ _ ha8),rfl,?_};refine{_,_,rfl,{_,_,rfl,{rfl,?_}}};exists bN () (),?_;exists by show 4<=sizeLine;ext,?_
       intros p9 H9 s9 h9;refine{" ",p9,Sc.wordsOf (.holds y.1 z.1.1 z.1.2),rfl,rfl,aH.of h9,Ag tz,?_};exact rr _ _ _ s9 eI {_,_,rfl}
      ·intro D8 vs8 H8 s8 _ hD8 il8
       let ee8:qs.map (λq:(Int×Str)×V=>Dt.str (rowOf (.holds y.1 q.1.1 q.1.2)))=((y.2.map λh=>Told.holds y.1 h.1 h.2).map rowOf).map Dt.str:=by rw[<-f1,zB,zB,zB];rfl
       rw[ee8] at il8;rw[dG il8] at hD8;refine{D7,D8,_,_,rfl,rfl,aH.of (s8 _ _ hD7),aH.of hD8,?_,?_}
       ·rw[kU];simp only[zh,za];ext
       intro D9 n9;generalize hU:upd H8 D9 _=H9;let s9:ax H8 H9:=by rw[<-hU];exact bj n9
       exists D9,Lo.of rfl rfl,(s7.trans s8).trans s9,(s7.trans s8).back n9,?_;rw[<-hU,aC,tke,<-zF];exact y6 (λl=>some (HO.lst l)) (kW _ _).symm
     ·rintro U H7 ⟨D7,⟨e,rfl⟩,s7,nD7,hD7⟩
      rw[rlh.len,zN] at hD7;obtain⟨B2,hB2⟩:∃B2,B2=B++S.aG.toList.map Told.aG++(S.holds.map λx=>x.2.map λh=>Told.holds x.1 h.1 h.2).flatten:={_,rfl}
      rw[<-hB2] at hD7 tB;let h17:=s7 _ _ h1;exists{_,aH.of (s7 _ _ h8)},?_;refine fj (K:=K) (a:=nl) (xs:=nv) (λi U H'=>Lo [some (.ref p),some (.ref D7)] 10 U/\ax H H'/\H' D7=some (.lst (rws (B2++(S.aJ.take i).map λx=>.aJ x.1.1 x.1.2 x.2)))) {{(e),rfl},s7,by rw[wJ,yn,zV];exact hD7} (λi U H' _ h=>by let⟨_,z,_⟩:=h;exact aH.of (z _ _ h8)) ?_ ?_
      ·intro i x U H8 hx hh
       refine dI λN kN3 kR3 _ _=>?_;let⟨⟨e,rfl⟩,s8,hD8⟩:=hh;let⟨y,hy,a7,r7,us7,rfl,ha7,hr7,il7,_⟩:=rln.at hx;let⟨qs,f1,f2,f3⟩:=gL il7;let tz:TD (.aJ y.1.1 y.1.2 y.2):=tok _ (by rw[tB];simp only[zG,zH];exact .inl (.inr {y,zC hy,rfl}));let⟨⟨b1,b2⟩,b3,b4,_⟩:=tz.1;let yl:⇑y.2<=97:=by have:=tz.2.1;simp only[Sc.wordsOf,zv,za] at this;ext
       let ql:⇑qs=⇑y.2:=by rw[<-f1,za]
       let ib:i<⇑S.aJ:=(zy.mp hy).1;let lenB:B2.length+⇑S.aJ<=1000000:=by
        have:=tlen (B2++S.aJ.map λx=>.aJ x.1.1 x.1.2 x.2) (Bf S) tB
        simpa[zh,za] using this
       refine{a7,_,rfl,cU.of (s8 _ _ ha7),rfl,?_};refine{_,_,rfl,{_,_,rfl,{_,_,rfl,{rfl,?_}}}};exists .inl {rfl,_,aH.of hD8},?_;exists bN () (),?_;exists by show 3<=sizeLine;ext,?_
       intros p9 H9 s9 h9;let s09:=s8.trans s9;exists{_,aH.of (s09 _ _ hr7)},?_;refine dA (enc:=λq:Item×V=>q.2) (ws:=qs) (λq=>.str (pz q.1)) (λU=>∃v,U=[v]) () (by rw[f2];exact aH.of (s09 _ _ hr7)) {(none),rfl} ?_ ?_
       ·rintro z U Ha R hz sa ⟨_,rfl⟩ rr
        let zin:z.1∈y.2:=by rw[<-f1];exact zP hz
        change{z.2,z.1,rfl,((f3 z hz).mono s09).mono sa,b4 _ zin,rr _ _ _ (ax.refl _) eI {_,rfl}}
       ·intro Da vsa Ha sa _ hDa ila
        let eea:qs.map (λq:Item×V=>Dt.str (pz q.1))=(y.2.map pz).map Dt.str:=by rw[<-f1,zB,zB];rfl
        rw[eea] at ila;rw[dG ila] at hDa;refine{p9,Da,_,_,rfl,rfl,aH.of (sa _ _ h9),aH.of hDa,by rw[za,za];show 3+_<=_;ext,?_};intros pb Hb sb hb;refine{" ",pb,Sc.wordsOf (.aJ y.1.1 y.1.2 y.2),rfl,rfl,aH.of hb,Ag tz,?_};let s8b:=(s9.trans sa).trans sb;left;refine{D7,_,_,rfl,rfl,s8b _ _ hD8,?_,?_}
        ·rw[kU];simp only[zh,za,zQ];ext
        exists Lo.of rfl rfl,bw nD7 (s8.trans s8b),?_;rw[aC,cg hy,zk,<-zF];exact y6 (λl=>some (HO.lst l)) (kW _ [Told.aJ y.1.1 y.1.2 y.2]).symm
      ·rintro U H8 ⟨⟨e,rfl⟩,s8,hD8⟩
       rw[rln.len,zN] at hD8;exists p,S,rfl,la.mono s8,tR,rln3,λj hj=>(tok (.bS j) (by rw[tB];unfold Bf;rw[hj];simp)).1,λD9 H9 s9 _ h9=>?_;refine{D7,D9,_,_,rfl,rfl,aH.of (s9 _ _ hD8),aH.of h9,?_,?_}
       ·have:=tl
        rw[tB] at this;simp only[zh,za] at this;rw[kU];simp only[zh,za];ext
       intro Dx nx;generalize hU:upd H9 Dx _=Hx;let sx:ax H9 Hx:=by rw[<-hU];exact bj nx
       refine kk Dx Hx ((s8.trans s9).trans sx) ((s8.trans s9).back nx) ?_;rw[<-hU,aC,tB];exact y6 (λl=>some (HO.lst l)) (kW _ _).symm
def NL {t:Told} (h:TD t):⇑(rowOf t)<=10100:=by
 let a:=Bb (sep:=" ") h.2.2;let b:⇑(Sc.wordsOf t)*(100+(" ": Str).length)<=100*(100+(" ": Str).length):=wI h.2.1 (zm _);exact zM a (zM b (by show 100*(100+1)<=10100;decide))
inductive oJ (vs:List V) (H:Hp) (Q:VK) (E:XK):Prop
 | mk (p:vF) (S:bU) (_:vs=[.ref p]) (_:nh H p S) (_:(∀t∈dJ S,TD t)) (_:⇑(dJ S)<=1000) (_:(∀r∈S.repeats,Nh r)) (_:⇑S.repeats<=1000) (_:∀H',ax H H'->Q (.str (Str.join "\n" ((dJ S).map rowOf))) H')
def GA {ts:List Told} (h:∀t∈ts,TD t) (hl:⇑ts<=1000):((ts.map rowOf).map (λz:Str=>⇑z+("\n": Str).length)).sum<=1000*10101:=by
 let a:=oI (sep:="\n") (k:=10100) (zs:=ts.map rowOf) λz hz=>by
  let⟨t,ht,rfl⟩:=zH.mp hz;exact NL (h t ht)
 rw[za] at a;let b:⇑ts*(10100+("\n": Str).length)<=1000*(10100+("\n": Str).length):=wI hl (zm _);exact zM a (zM b (by show 1000*(10100+1)<=1000*10101;decide))
def iZ:dh P w base 4 T.fq oJ:=by
 nomatch T.fq,["_law_s"]
 let⟨p,S,rfl,la,tok,tl,tR,rl,kk⟩:=h;let sl:=yC;refine{_,(ak (aq (bT yG yI yH gA aN (aa (bJ (pk T) hr T.gX (aa (pv 0) ag)) ag)))),?_};ac_rfl;exists p,S,rfl,la,tok,(),tR,rl,λD H1 s1 _ h1=>?_;refine{"\n",D,(dJ S).map rowOf,rfl,rfl,aH.of h1,zM (GA tok tl) (),?_};exact kk _ s1
theorem K4:∀{ts:List Told},(∀t∈ts,TD t)->RT (ts.map rowOf) ts
 | [],_=>.nil
 | t::r,h=>by
  let ht:=h t zr;exact .row (zM (NL ht) ∅) (Md ht.1) ht.1 (zM ht.2.1 ∅) (λy hy=>zM (ht.2.2 y hy) ∅) (K4 λx hx=>h x (zp _ hx))
def K3 {ts:List Told} (ne:ts≠[]) (h:∀t∈ts,TD t):RT (Txt.split (Str.join "\n" (ts.map rowOf)) "\n") ts:=by
 rw[show Txt.split (Str.join "\n" (ts.map rowOf)) "\n"= ts.map rowOf from gf (c:=10) (by simpa using ne) λz hz=>by
  let⟨t,ht,rfl⟩:=zH.mp hz;exact N9 (h t ht).1]
 exact K4 h
def text_len {ts:List Told} (h:∀t∈ts,TD t) (hl:⇑ts<=1000):(Str.join "\n" (ts.map rowOf)).length+2<=sizeLine:=by
 let sl:=yC;let a:=join_le "\n" (ts.map rowOf);let b:=GA h hl;ext
def Gd (ps:List Str) (sts:List (Str×List Str)):Prop:=⇑sts<=2/\B4 (sts.map (·.1))/\(sts.map (·.2)).flatten.Nodup/\∀x∈sts,x.2≠[]/\⇑x.2<=⇑ps/\∀p∈x.2,p∈ps
inductive pV (vs:List V) (H:Hp) (Q:VK) (E:XK):Prop
 | mk (c:Int) (pp:vF) (ps:List Str) (_:vs=[.int c,.ref pp]) (_:H pp=some (.lst (ps.map V.str))) (_:ps.Nodup) (_:⇑ps<=12) (_:∀(sts:List (Str×List Str)) D us H',Gd ps sts->ax H H'->H' D=some (.lst us)->aD H' (sts.map gq) us->Q (.ref D) H')
theorem Ac {H:Hp}:∀{nms:List Str} {rows:List (List Str)} {rv us:List V},⇑nms=⇑rows->RL (λo v=>∃r,v=V.ref r/\H r=some (.tup (o.map V.str))) rows rv->Pairs H (nms.map V.str) rv us ⇑nms->aD H ((nms.zip rows).map gq) us
 | [],[],_,us,_,_,p=>by
  have:us=[]:=yt.mp p.1;rw[this];exact cD
 | n::ns,o::ot,_,us,hl,⟨v,rv,rfl,⟨r,ev,hr⟩,rl⟩,p=>by
  subst ev;cases us with
  | nil=>have:=p.1;simp at this
  | cons u us=>
   let⟨q,e1,e2⟩:=p.2 0 (.str n) (.ref r) (by simp) rfl rfl;simp at e1;subst e1;refine aO (cw e2 (aO eI (aO (cw hr (Bc o)) cD))) (Ac (by simpa using hl) rl {by have:=p.1;simpa using this,λj x y hj hx hy=>?_});let⟨q',f1,f2⟩:=p.2 (j+1) x y (by simp;ext) (by simpa using hx) (by simpa using hy);exact{q',by simpa using f1,f2}
 | [],_::_,_,_,hl,_,_=>by simp at hl
 | _::_,[],_,_,hl,_,_=>by simp at hl
theorem KL {α β:Type}:∀{a:List α} {b:List β},⇑a=⇑b->(a.zip b).map (·.1)=a
 | [],[],_=>rfl
 | x::xs,y::ys,h=>by rw[yX,zj,KL (by simpa using h)]
 | [],_::_,h=>by simp at h
 | _::_,[],h=>by simp at h
theorem Eo {α β:Type}:∀{a:List α} {b:List β},⇑a=⇑b->(a.zip b).map (·.2)=b
 | [],[],_=>rfl
 | x::xs,y::ys,h=>by rw[yX,zj,Eo (by simpa using h)]
 | [],_::_,h=>by simp at h
 | _::_,[],h=>by simp at h
noncomputable def two (o1 o2:List Str):List (List Str):=(if o1=[] then [] else [o1])++(if o2=[] then [] else [o2])
noncomputable def B7 (o1 o2:List Str) (r1 r2:vF):List V:=(if o1=[] then [] else [.ref r1])++(if o2=[] then [] else [.ref r2])
noncomputable def V0 (o1 o2:List Str) (r1 r2:vF):Nat->List V
 | 0=>[]
 | 1=>if o1=[] then [] else [.ref r1]
 | _=>B7 o1 o2 r1 r2
def NH (o1 o2:List Str):(two o1 o2).flatten=o1++o2:=by
 unfold two
 by_cases h1:o1=[] <;> by_cases h2:o2=[] <;> simp[h1,h2]
def R7 {o1 o2 o:List Str} (h:o∈two o1 o2):o≠[]/\(o=o1\/o=o2):=by
 unfold two at h;rcases zG.mp h with h | h
 ·by_cases h1:o1=[]
  ·rw[yO h1] at h;cases h
  ·rw[yN h1] at h;rw[zA.mp h];exact{h1,.inl rfl}
 ·by_cases h1:o2=[]
  ·rw[yO h1] at h;cases h
  ·rw[yN h1] at h;rw[zA.mp h];exact{h1,.inr rfl}
def R6 {H:Hp} {o1 o2:List Str} {r1 r2:vF} (h1:H r1=some (.tup (o1.map V.str))) (h2:H r2=some (.tup (o2.map V.str))):RL (λo v=>∃r,v=V.ref r/\H r=some (.tup (o.map V.str))) (two o1 o2) (B7 o1 o2 r1 r2):=by
 unfold two B7
 by_cases e1:o1=[] <;> by_cases e2:o2=[]
 ·rw[yO e1,yO e2,yO e1,yO e2];exact rfl
 ·rw[yO e1,yN e2,yO e1,yN e2];exact{_,_,rfl,{_,rfl,h2},rfl}
 ·rw[yN e1,yO e2,yN e1,yO e2];exact{_,_,rfl,{_,rfl,h1},rfl}
 ·rw[yN e1,yN e2,yN e1,yN e2];exact{_,_,rfl,{_,rfl,h1},_,_,rfl,{_,rfl,h2},rfl}
def KQ (o1 o2:List Str):⇑(two o1 o2)<=2:=by
 unfold two
 by_cases h1:o1=[] <;> by_cases h2:o2=[] <;> simp[h1,h2]
def LY {ps o1 o2:List Str} {nms:List Str} (pn:ps.Nodup) (hs:(o1++o2).Nodup) (hi:∀p∈o1++o2,p∈ps) (hl:⇑(o1++o2)<=⇑ps) (nl:⇑nms=⇑(two o1 o2)) (nok:B4 nms):Gd ps (nms.zip (two o1 o2)):=by
 refine{?_,by rw[KL nl];exact nok,by rw[Eo nl,NH];exact hs,λx hx=>?_}
 ·rw[xC,nl,Nat.min_self];exact KQ o1 o2
 ·let hm:x.2∈two o1 o2:=by
   have:=zP (f:=λy:Str×List Str=>y.2) hx;rw[Eo nl] at this;exact this
  let⟨ne,e⟩:=R7 hm;rw[zh] at hl;rcases e with e | e <;> rw[e]
  ·exact{e▸ne,(),λp hp=>hi p (zJ _ hp)}
  ·exact{e▸ne,(),λp hp=>hi p (zI _ hp)}
def qK:dh P w base 2 T.jr pV:=by
 nomatch T.jr,["_law_cell","_law_players","_law_m","_law_order","_law_alone","_law_cut","_law_rows"]
 let⟨c,pp,ps,rfl,hpp,pn,pl,kk⟩:=h;let sl:=yC;refine{_,(af (bP 2 qN (bJ (bQ T) hr T.cy (aa (pv 0) (aa ae ag))))
  (af (aI (ptr de (au aR (pv 2) ae) ae)
  (ak (aq (bz ag)))
  aB)
  (af (bP 3 qN (mF iB T.lB (aa (pv 1) ag)))
  (af (aI (ptr de (au aR (au aV (pv 2) ae) ae) ae)
  (ak (bG (SQ yD PySem.F.slot_list_reverse PySem.F.type_list_reverse JR (pv 3))))
  aB)
  (af (bP 4 qN (au aR (au aV (pv 2) ae) (au aT (d9 aF T.bB (aa (pv 3) ag)) ae)))
  (af (bP 3 qN (au fP (dn gz (pv 3) dR (dQ (pv 4))) (dn gz (pv 3) (dQ (au aT (pv 4) ae)) dR)))
  (af (bP 5 qN (au aR (au aV (pv 2) ae) (au aT (d9 aF T.bB (aa (pv 3) ag)) ae)))
  (af (Mo (i:=6) (ts:=["_law_row"]) (ys:=[]) (js:=[]) (g:=(bO 0)) (tc:=(jB (e9 (SE K) (aY 0) (GC eC)))) (te:=(aY 0)) (bf (bz (aa (mF cL T.ic (aa (dn gz (pv 3) dR (dQ (pv 5))) ag)) (aa (mF cL T.ic (aa (dn gz (pv 3) (dQ (pv 5)) dR) ag)) ag)))) (f9 0) (fM (ptr (E7 hr.units) (pv 0) (bE ag))) (pv 0) qN)
  (ak (aq (OC rfl (by rfl) T.lB (by rfl) T.OO (aa (bJ (eQ T) hr T.d6 (aa (au aV (pv 2) ae) (aa (d9 aF T.bB (aa (pv 6) ag)) ag))) (aa (pv 6) ag))))))))))))),?_}
 ac_rfl;exists c,9,rfl,(),(),?_;let m0:0<=mixed c 9:=zw _ ∅;let m1:mixed c 9<2147483399:=zt _ ∅;generalize mixed c 9=m at m0 m1;left
 by_cases c0:m%4=0
 ·refine bW (zg (y6 V.int c0)) ?_
  exists by show 0<=sizeLine;ext,λD nD=>?_
  exact kk [] D [] _ {∅,{by simp,by simp},by simp,by simp} (bj nD) aC cD
 refine b9 (ze λz=>c0 (V.int.inj z)) ?_;exists pp,_,rfl,.inl (aH.of hpp),λD nD=>?_;let s1:ax H (upd H D (.lst (ps.map V.str))):=bj nD;let h1:upd H D (.lst (ps.map V.str)) D=some (.lst (ps.map V.str)):=aC;generalize upd H D (.lst (ps.map V.str))=H1 at s1 h1 ⊢;left;refine join (λU H'=>∃od:List Str,U=[some (.int c),some (.ref pp),some (.int m),some (.ref D),none,none,none]/\ax H H'/\H' D=some (.lst (od.map V.str))/\od.Perm ps) (λN hN c1=>?_) (λN hN c1=>?_) ?_
 ·left
  refine{.inl {rfl,_,aH.of h1},D,_,rfl,rfl,h1,?_};change hN _ _ {ps.reverse,rfl,bw nD s1,by rw[aC,List.map_reverse],ps.reverse_perm}
 ·left
  exact hN _ _ {ps,rfl,s1,h1,List.Perm.refl _}
 clear s1 h1 H1;rintro σ1 H1 ⟨od,rfl,s1,h1,pm⟩;let ol:=pm.length_eq;exists D,_,rfl,.inl (aH.of h1),?_;rw[za];exists by show 0<(⇑od:Int)+2;ext,?_
 let a0:0<=m/5%((⇑od:Int)+2):=zw _ ();obtain⟨al,hal⟩:∃j:Nat,m/5%((⇑od:Int)+2)=(j:Int):={(m/5%((⇑od:Int)+2)).toNat,()}
 exists D,_,rfl,aH.of h1,λp2 n2=>?_;generalize hU2:upd H1 p2 _=H2;let s2:ax H1 H2:=ax.i6 hU2 n2;let h2:H2 p2=some (.lst ((od.take al).map V.str)):=(jq hU2).trans (y6 (λz=>some (HO.lst z)) (by show ke (od.map V.str) none (some (m/5%((⇑od:Int)+2)))=_;rw[hal,FP,List.map_take]));clear hU2;exists D,_,rfl,aH.of (s2 _ _ h1),λp3 n3=>?_;generalize hU3:upd H2 p3 _=H3;let s3:ax H2 H3:=ax.i6 hU3 n3;let h3:H3 p3=some (.lst ((od.drop (al+1)).map V.str)):=(jq hU3).trans (y6 (λz=>some (HO.lst z)) (by
  show ke (od.map V.str) (some (m/5%((⇑od:Int)+2)+1)) none=_;rw[hal,show((al:Int)+1)=((al+1:Nat):Int) by ext,fF,List.map_drop]))
 clear hU3;left;refine{p2,p3,_,_,rfl,rfl,aH.of (s3 _ _ h2),aH.of h3,?_,λp4 n4=>?_}
 ·rw[za,za,zQ,xD];ext
 generalize hU4:upd H3 p4 _=H4;let s4:ax H3 H4:=ax.i6 hU4 n4;obtain⟨o0,eo0⟩:∃o0:List Str,o0=od.take al++od.drop (al+1):={_,rfl}
 let h4:H4 p4=some (.lst (o0.map V.str)):=(jq hU4).trans (by rw[eo0,zk]);clear hU4;let sub:o0.Sublist od:=by
  rw[eo0]
  conv=>rhs;rw[<-zZ al od]
  exact List.Sublist.append (List.Sublist.refl _) (by rw[List.drop_add_one_eq_tail_drop];exact List.tail_sublist _)
 let o0n:o0.Nodup:=sub.nodup (pm.nodup_iff.mpr pn);let o0l:⇑o0<=⇑ps:=by have:=sub.length_le;ext
 let o0i:∀p∈o0,p∈ps:=λp hp=>pm.mem_iff.mp (sub.subset hp);let s04:=s1.trans (s2.trans (s3.trans s4));clear s1 s2 s3 s4 h1 h2 h3 sub eo0 hal a0 n2 n3 n4 ol pm;exists p4,_,rfl,.inl (aH.of h4),?_;rw[za];exists by show 0<(⇑o0:Int)+1;ext,?_
 let a0:0<=m/8%((⇑o0:Int)+1):=zw _ ();obtain⟨al,hal⟩:∃j:Nat,m/8%((⇑o0:Int)+1)=(j:Int):={(m/8%((⇑o0:Int)+1)).toNat,()}
 exists p4,_,rfl,aH.of h4,λp5 n5=>?_;generalize hU5:upd H4 p5 _=H5;let s5:ax H4 H5:=ax.i6 hU5 n5;let h5:H5 p5=some (.lst ((o0.take al).map V.str)):=(jq hU5).trans (y6 (λz=>some (HO.lst z)) (by show ke (o0.map V.str) none (some (m/8%((⇑o0:Int)+1)))=_;rw[hal,FP,List.map_take]));clear hU5;left;refine{p5,_,rfl,.inl {aH.of h5,?_}};intros p6 H6 s6 h6;exists p4,_,rfl,aH.of (s6 _ _ (s5 _ _ h4)),λp7 n7=>?_;generalize hU7:upd H6 p7 _=H7;let s7:ax H6 H7:=ax.i6 hU7 n7;let h7:H7 p7=some (.lst ((o0.drop al).map V.str)):=(jq hU7).trans (y6 (λz=>some (HO.lst z)) (by show ke (o0.map V.str) (some (m/8%((⇑o0:Int)+1))) none=_;rw[hal,fF,List.map_drop]));clear hU7;left;refine{p7,_,rfl,.inl {aH.of h7,?_}};intros p8 H8 s8 h8;exists by show 2<=sizeLine;ext,?_
 intros p9 H9 s9 h9;exists{_,aH.of h9},?_;let s49:=s5.trans (s6.trans (s7.trans (s8.trans s9)));let h69:H9 p6=some (.tup ((o0.take al).map V.str)):=s9 _ _ (s8 _ _ (s7 _ _ h6));let h89:H9 p8=some (.tup ((o0.drop al).map V.str)):=s9 _ _ h8;let fl:(o0.take al++o0.drop al)=o0:=zZ al o0;generalize o0.take al=o1 at h69 fl;generalize o0.drop al=o2 at h89 fl;let s09:=s04.trans s49;clear s04 s49 s5 s6 s7 s8 s9 h5 h6 h7 h8;let tst:∀(o:List Str) (r:vF) (H':Hp) (R:Bool->Hp->Prop),H' r=some (.tup (o.map V.str))->(∀H'',ax H' H''->R (!decide (o=[])) H'')->jB (e9 (SE K) (aY 0) (GC eC)) [some (.ref r)] H' R:=λo r H' R hr hR=>by
  exists by show 0<=sizeLine;ext,?_
  intros pa Ha sa ha;refine{r,pa,_,_,rfl,rfl,.inr {cU.of (sa _ _ hr),cU.of ha},.inr (.inl rfl),?_};let e:decide (o.map V.str=[])=decide (o=[]):=by simp
  rw[e];exact{_,rfl,hR _ sa}
 refine m8 2 (V0 o1 o2 p6 p8) (λi U H'=>(∃v,U=[v])/\ax H9 H') ?_ () rfl {{_,rfl},ax.refl _} ?_ ?_ ?_ ?_
 ·intro i hi
  match i,hi with
  | 0,_=>exact zm _
  | 1,_=>show(if o1=[] then([]:List V) else [.ref p6]).length<=1;by_cases e:o1=[] <;> simp[e]
  | 2,_=>show(B7 o1 o2 p6 p8).length<=2;unfold B7;by_cases e:o1=[] <;> by_cases e2:o2=[] <;> simp[e,e2]
 ·rintro i U H' hi ⟨_,sm⟩
  exact DV (aH.of (sm _ _ h9)) hi
 ·rintro U H' ⟨_,sm⟩
  exact{_,aH.of (sm _ _ h9),zm _}
 ·rintro i x U H' H'' hi ⟨⟨v,rfl⟩,sm⟩ ⟨rfl,hy⟩
  let hx:=hy _ (aH.of (sm _ _ h9))
  match i,hi with
  | 0,_=>
   let ex:V.ref p6=x:=yk hx;subst ex;refine tst o1 p6 _ _ (sm _ _ h69) λH3 s3=>?_
   by_cases e:o1=[]
   ·rw[zg e]
    exact Jc.skip () (by show(if o1=[] then([]:List V) else [.ref p6])=[];rw[yO e]) {{_,rfl},sm.trans s3}
   ·rw[ze e]
    change Jc.push () (by show(if o1=[] then([]:List V) else [.ref p6])=[]++[.ref p6];rw[yN e];rfl) {{_,rfl},sm.trans s3}
  | 1,_=>
   let ex:V.ref p8=x:=yk hx;subst ex;refine tst o2 p8 _ _ (sm _ _ h89) λH3 s3=>?_
   by_cases e:o2=[]
   ·rw[zg e]
    exact Jc.skip () (by show B7 o1 o2 p6 p8=(if o1=[] then([]:List V) else [.ref p6]);unfold B7;rw[yO e,zV]) {{_,rfl},sm.trans s3}
   ·rw[ze e]
    change Jc.push () (by show B7 o1 o2 p6 p8=(if o1=[] then([]:List V) else [.ref p6])++[.ref p8];unfold B7;rw[yN e]) {{_,rfl},sm.trans s3}
 ·rintro U H' ⟨_,sm⟩ D5 n5'
  generalize hU:upd H' D5 _=H5;let s5:ax H9 H5:=sm.trans (ax.i6 hU n5');let hD5:H5 D5=some (.lst (B7 o1 o2 p6 p8)):=jq hU;clear hU;let rl5:=R6 (s5 _ _ h69) (s5 _ _ h89);let tl:=rl5.len;let t2:=KQ o1 o2;exists D5,_,rfl,.inl (aH.of hD5),?_;rw[tl];left;refine{_,_,rfl,zW m0 ∅,?_,(),(),λnms pn2 H6 nl nok s6 h6=>?_}
  ·have:=zX (a:=m) 80 m0;ext
  left;let nl':⇑nms=⇑(two o1 o2):=by rw[nl];ext
  refine{false,false,pn2,D5,_,_,rfl,aH.of h6,aH.of (s6 _ _ hD5),by rw[za,tl];exact nl',λl H7 us s7 n7 h7 pr=>?_};rw[za] at pr;refine kk (nms.zip (two o1 o2)) l us H7 (LY pn (by rw[fl];exact o0n) (by rw[fl];exact o0i) (by rw[fl];exact o0l) nl' nok) (((s09.trans s5).trans s6).trans s7) h7 (Ac nl' ?_ pr);exact rl5.imp λo v ⟨r,e1,e2⟩=>{r,e1,s7 _ _ (s6 _ _ e2)}
inductive uy (vs:List V) (H:Hp) (Q:VK) (E:XK):Prop
 | mk (m first last times:Int) (_:vs=[.int m,.int first,.int last,.int times]) (_:0<=m) (_:m<1099511627776) (_:0<=first) (_:first<=last) (_:last<=200) (_:2<=times) (_:times<=9) (_:∀(es:List Sc.End) v H',LK first last times es->ax H H'->Is H' (.tup (es.map lH)) v->Q v H')
def KJ (first last:Int) (bs:List Int):Prop:=bs≠[]/\bs.Pairwise (·<·)/\∀b∈bs,first<=b/\b<=last
def PJ {first last:Int} {bs:List Int} (h:KJ first last bs):∃b,(bs.map V.int)[⇑(bs.map V.int)-1]?=some (.int b)/\first<=b/\b<=last/\∀x∈bs,x<=b:=by
 let⟨ne,asc,hin⟩:=h;let e:=xY ne;let hm:=List.getLast_mem ne;refine{bs.getLast ne,?_,(hin _ hm).1,(hin _ hm).2,λx hx=>?_}
 ·rw[za,zK,List.getLast_eq_getElem,zd (by have:=yr.mpr ne;ext)];rfl
 ·rw[<-e] at hx asc
  rw[zU] at asc;rcases zG.mp hx with z | z
  ·exact xa (asc.2.2 x z _ (zA.mpr rfl))
  ·rw[zA.mp z];exact yR _
def PH {first last b c:Int} {bs:List Int} (h:KJ first last bs) (hb:∀x∈bs,x<=b) (h1:first<=b) (h2:b<c) (h3:c<=last):KJ first last (bs++[c]):=by
 let⟨ne,asc,hin⟩:=h;refine{by simp,?_,λx hx=>?_}
 ·rw[zU]
  refine{asc,by simp,λx hx y hy=>?_};let ey:y=c:=by simpa using hy
  have:=hb x hx;ext
 ·rcases zG.mp hx with z | z
  ·exact hin x z
  ·let ey:x=c:=by simpa using z
   ext
noncomputable def mz (m:Int) (n k:Nat):Nat:=if k<n then(k+(m/90).toNat)%n else(m/((k:Int)+7)%(n:Int)).toNat
def uO:dh P w base 1 T.lP uy:=by
 nomatch T.lP,["_law_m","_law_first","_law_last","_law_times","_law_begins","_law_passes","_law_k","_law_spot"]
 let⟨m,first,last,times,rfl,m0,m1,f0,fl,l1,t0,t1,kk⟩:=h;let sl:=yC;refine{_,(af (aI (PW.pt (eF (ptr de (pv 2) (pv 1)) (dy (ptr de (au aR (pv 0) ae) ae))))
  (ak (aq (bE ag)))
  aB)
  (af (bP 4 qN (bz (aa (au aT (pv 1) (au aR (au aV (pv 0) ae) (au aT (au iX (pv 2) (pv 1)) ae))) ag)))
  (af (qB yP (PW.pt (dt (ptr fe (d9 aF T.bB (aa (pv 4) ag)) (pv 3)) (dt (ptr fe (fw (pv 4) (oA jW ae)) (pv 2)) (cW (ptr fg (au aR (au aV (pv 0) (au aT (au dS ae (d9 aF T.bB (aa (pv 4) ag))) ae)) ae) ae)))))
  (ak (bG (bT yD yF yE bD (pv 4) (aa (d9 (M0 rfl) T.UJ (aa (pv 2) (aa (au aT (au aT (fw (pv 4) (oA jW ae)) ae) (au aR (au aV (pv 0) (au aT (d9 aF T.bB (aa (pv 4) ag)) ae)) ae)) ag))) ag)))))
  (af (Mo (i:=5) (ts:=["_law_begin"]) (ys:=[]) (js:=[]) (te:=(GF eC)) (bf (pv 4)) (f9 0) bq (bz ag) qN)
  (af (cj yP rfl (dj (by rfl) T.cK (aa (pv 3) ag)) (gP 6 qN)
  (af (bP 7 qN (AX (ptr fe (pv 6) (d9 aF T.bB (aa (pv 4) ag))) (au aR (au aT (pv 6) (au aV (pv 0) ae)) (d9 aF T.bB (aa (pv 4) ag))) (au aR (au aV (pv 0) (au aT (pv 6) ae)) (d9 aF T.bB (aa (pv 4) ag)))))
   (ak (bG (bT yD yF yE bD (fw (pv 5) (pv 7)) (aa (au aT (pv 6) ae) ag))))))
  (ak (aq (mF cL T.ic (aa (oh (ts:=["_law_begin","_law_some"]) (ys:=[]) (js:=[]) (g:=(CQ K 2 (eK (bO 0) (eK (bO 1) CS)))) (te:=(GC (bR (aY 0) (bR (LW (SF K) (bR (aY 1) eC)) eC)))) (Oy (by rfl) T.OO (aa (pv 4) (aa (pv 5) ag))) (dz (n:=2) rfl (aK (f9 0) (aK (f9 1) cJ))) bq (bE (aa (pv 0) (aa (mF cL T.ic (aa (pv 1) ag)) ag)))) ag))))))))),?_}
 ac_rfl;left;let none_:∀(Hq:Hp),ax H Hq->(∀p,Hq p=none->Q (.ref p) (upd Hq p (.tup []))):=λHq sq p n=>kk [] (.ref p) _ MK (sq.trans (bj n)) (cw aC cD);refine Lc (decide (V.int last=V.int first)||decide (V.int (m%3)=V.int 0)) ?_ ?_ ?_
 ·intro c1 Z hz
  rw[c1,Bool.false_or] at hz;change hz
 ·intro c1;rw[c1,Bool.true_or]
 cases qv:(decide (V.int last=V.int first)||decide (V.int (m%3)=V.int 0)) with
 | true=>
  change{by show 0<=sizeLine;ext,none_ H (ax.refl _)}
 | false=>
 exists by show 0<last-first+1;ext,?_
 let a0:0<=m/3%(last-first+1):=zw _ ();let a1:m/3%(last-first+1)<last-first+1:=zt _ ();exists by show 1<=sizeLine;ext,λB nB=>?_
 generalize hU1:upd H B _=H1;let s1:ax H H1:=ax.i6 hU1 nB;let h1:H1 B=some (.lst ([first+m/3%(last-first+1)].map V.int)):=jq hU1;let b1:KJ first last [first+m/3%(last-first+1)]:=by
  refine{by simp,by simp,λb hb=>?_};have:b=first+m/3%(last-first+1):=by simpa using hb
  ext
 clear hU1;left;refine Dq (λn U H'=>∃bs:List Int,n=9-⇑bs/\U=[some (.int m),some (.int first),some (.int last),some (.int times),some (.ref B),none,none,none]/\ax H H'/\H' B=some (.lst (bs.map V.int))/\KJ first last bs/\(⇑bs:Int)<=times)
  (λU H'=>∃bs:List Int,U=[some (.int m),some (.int first),some (.int last),some (.int times),some (.ref B),none,none,none]/\ax H H'/\H' B=some (.lst (bs.map V.int))/\KJ first last bs/\(⇑bs:Int)<=times)
  {_,_,rfl,rfl,s1,h1,b1,by show(1:Int)<=times;ext} ?_ ?_
 ·rintro n U H2 ⟨bs,rfl,rfl,s2,h2,b2,bl⟩ N hN
  let⟨lb,hlb,lb0,lb1,lbx⟩:=PJ b2;let out:=hN _ _ {(bs),rfl,s2,h2,b2,bl};exists B,_,rfl,.inl (aH.of h2),?_;rw[za];left;let q0:0<=m/(7*(⇑bs:Int)+5)%4:=zw _ ∅;refine d5 (decide ((⇑bs:Int)<times)&&(decide (lb<last)&&decide (0<m/(7*(⇑bs:Int)+5)%4))) ?_ ?_ ?_
  ·intro c1 Z hz
   rw[c1,yW] at hz;exists B,_,-1,_,rfl,rfl,aH.of h2,nY hlb,?_;left;refine d5 (decide (lb<last)&&decide (0<m/(7*(⇑bs:Int)+5)%4)) ?_ ?_ hz
   ·intro c2 Z hz
    rw[c2,yW] at hz;exists B,_,rfl,.inl (aH.of h2),?_;rw[za];exists{by show 0<7*(⇑bs:Int)+5;ext,by show 7*(⇑bs:Int)+5<1073741824;ext},?_;change hz
   ·intro c2;rw[c2,yU]
  ·intro c1;rw[c1,yU]
  cases qw:(decide ((⇑bs:Int)<times)&&(decide (lb<last)&&decide (0<m/(7*(⇑bs:Int)+5)%4))) with
  | false=>exact b9 rfl out
  | true=>
   simp only[zO,xF] at qw;let⟨c1,c2,c3⟩:=qw;refine bW rfl {λU H'=>∃bs':List Int,⇑bs'=⇑bs+1/\U=[some (.int m),some (.int first),some (.int last),some (.int times),some (.ref B),none,none,none]/\ax H H'/\H' B=some (.lst (bs'.map V.int))/\KJ first last bs'/\(⇑bs':Int)<=times,?_,?_}
   ·rintro U' H' ⟨bs',e1,e2,e3,e4,e5,e6⟩
    exact{9-⇑bs',(),bs',rfl,e2,e3,e4,e5,e6}
   exists .inl {rfl,_,aH.of h2},?_;exists B,_,-1,_,rfl,rfl,aH.of h2,nY hlb,?_;exists B,_,rfl,.inl (aH.of h2),?_;rw[za];exists{by show 0<(⇑bs:Int)+11;ext,by show(⇑bs:Int)+11<1073741824;ext},?_;left;let r0:0<=m/((⇑bs:Int)+11)%3:=zw _ ∅;refine{_,_,rfl,?_};exists B,_,_,rfl,rfl,h2,by rw[za];ext,?_
   left;refine{bs++[if lb+1+m/((⇑bs:Int)+11)%3<last then lb+1+m/((⇑bs:Int)+11)%3 else last],by rw[zh];rfl,rfl,bw nB s2,by rw[aC,zk];rfl,PH b2 lbx lb0 ?_ ?_,by rw[zh];show((⇑bs+1:Nat):Int)<=times;ext}
   ·split <;> ext
   ·split <;> ext
 ·clear s1 h1 b1
  rintro σ1 H1 ⟨bs,rfl,s1,h1,b1,bl⟩;let bp:0<⇑bs:=yr.mpr b1.1;exists{_,aH.of h1},?_;refine FQ (by rw[za];ext) (aH.of h1) {(none),rfl} λD qs H2 s2 nD h2 nd nDq ql hq=>?_;rw[za] at ql;exists by ext,(),?_
  let neB:∀q∈qs,q≠B:=λq hq' e=>by
   have:=(hq q hq').1;rw[e,h1] at this;cases this
  let tn:((times.toNat:Nat):Int)=times:=()
  refine gi (λk U H'=>∃(v6 v7:Option V),U=[some (.int m),some (.int first),some (.int last),some (.int times),some (.ref B),some (.ref D),v6,v7]/\ax H H'/\H' B=some (.lst (bs.map V.int))/\H' D=some (.lst (qs.map V.ref))/\∀(i:Nat) (q:vF),qs[i]?=some q->H' q=some (.lst ((cN (mz m ⇑bs) k i).map V.int)))
   {none,none,rfl,s1.trans s2,s2 _ _ h1,h2,λi q e=>(hq q (zC e)).2} ?_ ?_
  ·intro k U H3 hk hh
   refine dI λN kN0 kR0 _ _=>?_;let⟨v6,v7,rfl,s3,hB3,hD3,hq3⟩:=hh;left;let m90:0<=m/90:=zW m0 ∅;let sl0:mz m ⇑bs k<⇑bs:=by
    unfold mz;split
    ·exact vm _ bp
    ·have:=zt (m/((k:Int)+7)) (b:=(⇑bs:Int)) ()
     have:=zw (m/((k:Int)+7)) (b:=(⇑bs:Int)) ();ext
   refine{B,_,rfl,.inl (aH.of hB3),?_};rw[za];left;refine Wn (H:=H3) (.int ((mz m ⇑bs k:Nat):Int)) ?_ ?_ ?_
   ·intro c1 Z hz
    let c1':k<⇑bs:=by have:=ye c1;ext
    let e:((mz m ⇑bs k:Nat):Int)=(0+(k:Int)+m/90)%(⇑bs:Int):=by
     unfold mz;rw[yO c1',Int.natCast_emod,Int.natCast_add,Int.toNat_of_nonneg m90,Int.zero_add]
    rw[e] at hz;exists B,_,rfl,.inl (aH.of hB3),?_;rw[za];change{by show 0<(⇑bs:Int);ext,hz}
   ·intro c1 Z hz
    let c1':¬k<⇑bs:=by have:=of_decide_eq_false c1;ext
    let e:((mz m ⇑bs k:Nat):Int)=m/(0+(k:Int)+7)%(⇑bs:Int):=by
     unfold mz;rw[yN c1',Int.zero_add,Int.toNat_of_nonneg (zw _ ())]
    rw[e] at hz;exists{by show 0<0+(k:Int)+7;ext,by show 0+(k:Int)+7<1073741824;ext},?_;exists B,_,rfl,.inl (aH.of hB3),?_;rw[za];change{by show 0<(⇑bs:Int);ext,hz}
   left;let qe:qs[mz m ⇑bs k]?=some (qs[mz m ⇑bs k]'()):=zd ();generalize qs[mz m ⇑bs k]'()=q at qe;let qm:=zC qe;refine{D,_,_,.ref q,rfl,rfl,aH.of hD3,bA (by rw[zK,qe];rfl),?_};let hq3':=hq3 _ _ qe;refine{.inl {rfl,_,aH.of hq3'},?_};exists q,_,_,rfl,rfl,hq3',by rw[za];have:=AZ (sp:=mz m ⇑bs) (i:=mz m ⇑bs k) (k:=k);ext,?_
   exists _,_,rfl,bw (s1.back (hq q qm).1) s3,by rw[aE (neB q qm).symm];exact hB3,by rw[aE (λz=>nDq (by rw[z];exact qm))];exact hD3,λi q' e=>?_
   by_cases ei:i=mz m ⇑bs k
   ·have:q'=q:=by rw[ei,qe] at e;exact(yk e).symm
    rw[this,aC,cN,yO ei,zk,Int.zero_add,ei];rfl
   ·let nq:q'≠q:=λz=>by
     rw[z] at e;exact ei (HM nd e qe)
    rw[aE nq,cN,yN ei];exact hq3 i q' e
  ·rintro U H3 ⟨v6,v7,rfl,s3,hB3,hD3,hq3⟩
   left;let eb:=sD V.int 0 bs;let eq:=sD V.ref 0 qs;rw[ql] at eq;refine{false,false,B,D,_,_,rfl,aH.of hB3,aH.of hD3,?_};refine Kj (ws:=List.range ⇑bs) (e1:=λi=>.int (bs.getD i 0)) (e2:=λi=>.ref (qs.getD i 0)) (λi=>lH (bs.getD i 0,cN (mz m ⇑bs) times.toNat i)) (λU=>∃v w,U=[v,w]) (by rw[zR];ext) (by rw[eb];exact aH.of hB3) (by rw[eq];exact aH.of hD3) {(none),none,rfl} ?_ ?_
   ·rintro i U H4 p R hi s4 hp ⟨v,w',rfl⟩ rr
    let il:=yS.mp hi;let qe:qs[i]?=some (qs.getD i 0):=by rw[List.getD_eq_getElem?_getD,zd ()];rfl
    let h5:=s4 _ _ (hq3 i _ qe);refine{p,_,rfl,cU.of hp,rfl,?_};refine{_,_,rfl,{_,_,rfl,{rfl,?_}}};left;refine{_,_,rfl,.inl {aH.of h5,?_}};intros p6 H6 s6 h6;exists dm,?_;intros p7 H7 s7 h7;exact rr _ _ _ (s6.trans s7) (cw h7 (aO cE (aO (cw (s7 _ _ h6) qW) cD))) {_,_,rfl}
   ·intro D5 vs5 H5 s5 _ h5 il5
    rw[ML] at il5;left;refine{D5,_,rfl,.inl {aH.of h5,?_}};intros p6 H6 s6 h6;refine kk _ _ _ ?_ ((s3.trans s5).trans s6) (cw h6 (il5.mono s6));have:=J5 (first:=first) (last:=last) (t:=times.toNat) (bs:=bs) (sp:=mz m ⇑bs) () b1.1 b1.2.1 b1.2.2 ?_ ?_ ()
    ·rw[tn] at this;exact this
    ·intro j hj
     unfold mz;split
     ·exact vm _ bp
     ·have:=zt (m/((j:Int)+7)) (b:=(⇑bs:Int)) ()
      have:=zw (m/((j:Int)+7)) (b:=(⇑bs:Int)) ();ext
    ·intro i hi
     let⟨j,hj,ej⟩:=Qk (c:=(m/90).toNat) hi;exact{j,(),by unfold mz;rw[yO hj];exact ej}
def Gf (many:Int) (r:Rep):Prop:=0<=r.first/\r.first<=r.last/\r.last<many/\2<=r.times/\r.times<=9/\LK r.first r.last r.times r.ends
def El (many:Int) (rs:List Rep):Prop:=⇑rs<=4/\(∀r∈rs,Gf many r)/\rs.Pairwise λa b=>a.last<b.first
inductive oM (vs:List V) (H:Hp) (Q:VK) (E:XK):Prop
 | mk (c many:Int) (_:vs=[.int c,.int many]) (_:many<=200) (_:∀(rs:List Rep) D us H',El many rs->ax H H'->H' D=some (.lst us)->aD H' (rs.map gO) us->Q (.ref D) H')
def pw:dh P w base 2 T.gY oM:=by
 nomatch T.gY,["_law_cell","_law_many","_law_repeats","_law_bar","_law_k","_law_m","_law_first","_law_last","_law_times"]
 let⟨c,many,rfl,my,kk⟩:=h;let sl:=yC;refine{_,(af (bP 2 qN (bz ag))
  (af (bP 3 qN ae)
  (af (cj yP rfl (dj (by rfl) T.cK (aa ae ag)) (gP 4 qN)
  (af (bP 5 qN (bJ (bQ T) hr T.cy (aa (pv 0) (aa (au aT (pv 4) ae) ag))))
   (af (bP 6 qN (au aT (pv 3) (au aR (pv 5) ae)))
   (af (bP 7 qN (au aT (pv 6) (au aR (au aV (pv 5) ae) ae)))
   (ak (aI (PW.pt (dt (ptr fe (pv 7) (pv 1)) (cW (ptr fg (au aR (au aV (pv 5) ae) ae) ae))))
   (af (bP 8 qN (au aT ae (au aR (au aV (pv 5) ae) (fw (bz (aa ae (aa ae (aa ae ag)))) (au aR (au aV (pv 5) ae) ae)))))
    (af (bG (bT yD yF yE bD (pv 2) (aa (bE (aa (pv 6) (aa (pv 7) (aa (pv 8) (aa (bJ (uO T) hr T.lP (aa (au aV (pv 5) ae) (aa (pv 6) (aa (pv 7) (aa (pv 8) ag))))) ag))))) ag)))
    (ak (bP 3 qN (au aT (pv 7) ae)))))
   aB))))))
  (ak (aq (pv 2)))))),?_}
 ac_rfl;left
 intros D nD s2 h2 H2
 exists by decide,(by decide),?_
 refine gi (λi U H'=>∃(rs:List Rep) (us:List V) (bar:Int),Lo [some (.int c),some (.int many),some (.ref D),some (.int bar)] 5 U/\ax H H'/\H' D=some (.lst us)/\aD H' (rs.map gO) us/\⇑rs<=i/\0<=bar/\(∀r∈rs,Gf many r/\r.last<bar)/\rs.Pairwise λa b=>a.last<b.first)
  {[],[],0,Lo.of rfl rfl,s2,h2,cD,zm _,∅,by simp,by simp} ?_ ?_
 ·intro i U H3 hi hh
  refine dI λN kN0 kR0 _ _=>?_;let⟨rs,us,bar,⟨e,rfl⟩,s3,h3,il3,rl,b0,tR,asc⟩:=hh;exists c,_,rfl,(),(),?_;let m0:0<=mixed c (0+(i:Int)+500):=zw _ ∅;let m1:mixed c (0+(i:Int)+500)<2147483399:=zt _ ∅;generalize mixed c (0+(i:Int)+500)=m at m0 m1;let a0:0<=m%4:=zw _ ∅;let e0:0<=m/4%8:=zw _ ∅;left;refine d5 (decide (bar+m%4+m/4%8<many)&&decide (0<m/32%4)) ?_ ?_ ?_
  ·intro c1 Z hz
   rw[c1,yW] at hz;change hz
  ·intro c1;rw[c1,yU]
  cases qw:(decide (bar+m%4+m/4%8<many)&&decide (0<m/32%4)) with
  | false=>
   change{rs,us,bar,Lo.of rfl rfl,s3,h3,il3,(),b0,tR,asc}
  | true=>
   simp only[zO,xF] at qw;let⟨c1,c2⟩:=qw;exists by show 3<=sizeLine;ext,?_
   intros p4 H4 s4 h4;let g0:0<=m/1024%3:=zw _ ∅;let g1:m/1024%3<3:=zt _ ∅;obtain⟨jj,hjj⟩:∃j:Nat,m/1024%3=(j:Int):={(m/1024%3).toNat,()}
   obtain⟨z,hz,z0,z1⟩:∃z:Int,[V.int 2,V.int 3,V.int 8][jj]?=some (.int z)/\2<=z/\z<=8:=by
    have:jj<3:=()
    match jj,this with
    | 0,_=>exact{2,rfl,∅,∅}
    | 1,_=>exact{3,rfl,∅,∅}
    | 2,_=>exact{8,rfl,∅,∅}
   exists p4,_,m/1024%3,.int z,rfl,rfl,aH.of h4,(by rw[hjj];exact bA hz),?_;exists by show 0<z;ext,?_
   let t0:0<=m/128%z:=zw _ ();let t1:m/128%z<z:=zt _ ();exists .inl {rfl,_,aH.of (s4 _ _ h3)},?_;left;refine{_,_,_,_,rfl,zW m0 ∅,?_,(),(),(),(),(),λes v H5 eok s5 h5=>?_}
   ·have:=zX (a:=m) 7 m0;ext
   exists by show 4<=sizeLine;ext,?_
   intros p6 H6 s6 h6;let s36:=s4.trans (s5.trans s6);let h36:=s36 _ _ h3;refine{D,us,_,rfl,rfl,h36,by have:=aP il3;ext,?_};let nt:cA (H6 D):=by rw[h36];exact λ_ z=>by cases z
   let ix:Is H6 (gO {bar+m%4,bar+m%4+m/4%8,2+m/128%z,es}) (.ref p6):=cw h6 (aO cE (aO cE (aO cE (aO (h5.mono s6) cD))));left;refine{rs++[{bar+m%4,bar+m%4+m/4%8,2+m/128%z,es}],_,_,Lo.of rfl rfl,bw nD (s3.trans s36),aC,?_,by rw[zh];show ⇑rs+1<=i+1;ext,(),λr hr=>?_,?_}
   ·rw[zk]
    exact cT (Is.upd nt ix) (aD.upd nt (il3.mono s36))
   ·rcases zG.mp hr with y | y
    ·have:=tR r y
     exact{(this.1),()}
    ·rw[zA.mp y]
     exact{{by show 0<=bar+m%4;ext,by show bar+m%4<=bar+m%4+m/4%8;ext,c1,by show 2<=2+m/128%z;ext,by show 2+m/128%z<=9;ext,eok},by show bar+m%4+m/4%8<bar+m%4+m/4%8+1;ext}
   ·rw[zU]
    refine{asc,by simp,λa ha b hb=>?_};let eb:b=⟨bar+m%4,bar+m%4+m/4%8,2+m/128%z,es⟩:=by simpa using hb
    rw[eb];have:=(tR a ha).2;show a.last<bar+m%4;ext
 ·rintro U H3 ⟨rs,us,bar,⟨e,rfl⟩,s3,h3,il3,rl,b0,tR,asc⟩
  change kk rs D us H3 {rl,λr hr=>(tR r hr).1,asc} s3 h3 il3
def RU (H:Hp) (p:vF) (rs:List Rep):Prop:=⇑rs<=1000/\(∀r∈rs,⇑r.ends<=1000)/\∃rv,H p=some (.lst rv)/\aD H (rs.map gO) rv
theorem RU.mono {H H':Hp} (s:ax H H') {p:vF} {rs:List Rep} (h:RU H p rs):RU H' p rs:=by
 let⟨h1,h2,rv,h3,h4⟩:=h;exact{h1,h2,rv,s _ _ h3,h4.mono s}
inductive gS (vs:List V) (H:Hp) (Q:VK) (E:XK):Prop
 | mk (p:vF) (rs:List Rep) (b:Int) (_:vs=[.ref p,.int b]) (_:RU H p rs) (_:∀H',ax H H'->Q (.bl (jP rs b)) H')
inductive jZ (vs:List V) (H:Hp) (Q:VK) (E:XK):Prop
 | mk (p:vF) (rs:List Rep) (b:Int) (_:vs=[.ref p,.int b]) (_:RU H p rs) (_:∀H',ax H H'->Q (.bl (eJ rs b)) H')
def oC:dh P w base 1 T.lO jZ:=by
 nomatch T.lO,["_law_repeats","_law_bar"]
 let⟨p,rs,b,rfl,⟨rl,el,rv,hp,il⟩,kk⟩:=h;let sl:=yC;let⟨ps,e1,e2,e3⟩:=gL il;let pln:⇑ps=⇑rs:=by rw[<-e1,za]
 refine{_,(ak (aq (d9 (gw rfl) T.A8 (aa (oh (ts:=["_law_first","_law_last","_law_times","_law_ends"]) (ys:=["_law_bar"]) (js:=[1]) (g:=(CQ K 4 (eK (bO 0) (eK (bO 1) (eK (bO 2) (eK (bO 3) CS)))))) (te:=(An (rL λi j=>.bl (decide (i<j))) (rL λi j=>.bl (decide (i<=j))) (aY 0) (aY 4) (aY 1))) (bf (pv 0)) (dz (n:=4) rfl (aK (f9 0) (aK (f9 1) (aK (f9 2) (aK (f9 3) cJ))))) bq (Hr fe fO (pv 0) (pv 4) (pv 1))) ag)))),?_};ac_rfl;exists{_,aH.of hp},?_;refine dA (enc:=λq:Rep×V=>q.2) (ws:=ps) (λq=>.bl (decide (q.1.first<b)&&decide (b<=q.1.last))) (λU=>∃v1 v2 v3 v4,U=[v1,v2,v3,v4,some (.int b)]) () (by rw[e2];exact aH.of hp) {_,_,_,_,rfl} ?_ ?_
 ·rintro z U H1 R hz s1 ⟨v1,v2,v3,v4,rfl⟩ rr
  let⟨a,e,ev,ha,_⟩:=dP ((e3 z hz).mono s1);rw[ev];refine{a,_,rfl,cU.of ha,rfl,?_};refine{_,_,rfl,{_,_,rfl,{_,_,rfl,{_,_,rfl,{rfl,?_}}}}};left
  by_cases c:z.1.first<b
  ·refine bW (zg c) ?_
   change rr _ _ _ (ax.refl _) (by rw[zg c,yW];unfold Is;rfl) {_,_,_,_,rfl}
  ·refine b9 (ze c) ?_
   exact rr _ _ _ (ax.refl _) (by rw[ze c,yU];unfold Is;rfl) {_,_,_,_,rfl}
 ·intro D vs H1 s1 nD hD ilD
  let ee:ps.map (λq:Rep×V=>Dt.bl (decide (q.1.first<b)&&decide (b<=q.1.last)))=(rs.map λr=>decide (r.first<b)&&decide (b<=r.last)).map Dt.bl:=by rw[<-e1,zB,zB];rfl
  rw[ee] at ilD;rw[j8 ilD] at hD;exists D,_,rfl,aH.of hD,?_;have:=kk _ s1;unfold eJ at this;rw[wH];exact this
def mh:dh P w base 1 T.iH gS:=by
 nomatch T.iH,["_law_repeats","_law_bar","_law_first","_law_last","_law_times","_law_ends","_law_mine"]
 let⟨p,rs,b,rfl,⟨rl,el,rv,hp,il⟩,kk⟩:=h;let sl:=yC;let rvl:=aP il;refine{_,(af (cj yP rfl (bf (pv 0)) (dz (n:=4) rfl (aK (gP 2 qN) (aK (gP 3 qN) (aK (gP 4 qN) (aK (gP 5 qN) cJ)))))
  (ak (aI (Om fO fO (pv 2) (pv 1) (pv 3))
   (af (Mo (i:=6) (ts:=["_law_begin","_law_passes"]) (ys:=["_law_bar"]) (js:=[1]) (g:=(CQ K 2 (eK (bO 0) (eK (bO 1) CS)))) (tc:=(jB (e9 (rL λi j=>.bl (decide (i<=j))) (aY 0) (aY 2)))) (te:=(aY 1)) (iW (pv 5)) (dz (n:=2) rfl (aK (f9 0) (aK (f9 1) cJ))) (fM (ptr fO (pv 0) (pv 2))) (pv 1) qN)
    (ak (aq (OA (dE (sG hr.units) (pv 6) (bz ag) (gW _)) (mT (dE kA (pv 4) (fw (pv 6) (oA jW ae)) (by with_unfolding_all rfl)))))))
   aB)))
  (ak (aq ky))),?_}
 ac_rfl;exists{_,aH.of hp},?_;refine fj (K:=K) (a:=p) (xs:=rv) (λi U H'=>H'=H/\(∀r∈rs.take i,Gm r b=false)/\∃(v2 v3 v4 v5 v6:Option V),U=[some (.ref p),some (.int b),v2,v3,v4,v5,v6]) {rfl,by simp,none,none,none,none,none,rfl} (λi U H' _ h=>by rw[h.1];exact aH.of hp) ?_ ?_
 ·rintro i x U H1 hx ⟨rfl,no,v2,v3,v4,v5,v6,rfl⟩
  let⟨r,hr',ir⟩:=cS il hx;let⟨a,ep,rfl,ha,ie⟩:=dP ir;let rin:=zC hr';let nxt:Gm r b=false->∀y∈rs.take (i+1),Gm y b=false:=λe y hy=>by
   rw[cg hr'] at hy;rcases zG.mp hy with z | z
   ·exact no y z
   ·rw[zA.mp z];exact e
  refine{a,_,rfl,cU.of ha,rfl,?_};refine{_,_,rfl,{_,_,rfl,{_,_,rfl,{_,_,rfl,{rfl,?_}}}}};left
  by_cases c1:r.first<=b
  ·refine bW (zg c1) ?_
   left
   by_cases c2:b<=r.last
   ·refine bW (zg c2) ?_
    left;obtain⟨ep',evs,e0,hep,ile⟩:∃ep' evs,V.ref ep=.ref ep'/\H1 ep'=some (.tup evs)/\aD H1 (r.ends.map lH) evs:=by unfold Is at ie;exact ie
    cases e0;let⟨ps,e1,e2,e3⟩:=gL ile;let pln:⇑ps=⇑r.ends:=by rw[<-e1,za]
    let elr:=el r rin;refine{{_,cU.of hep},?_};let hro:dC rs b=some r:=Bi hr' (by rw[zg c1,zg c2];rfl) λy hy=>no y hy;refine lI (ws:=ps) (enc:=λq:Sc.End×V=>q.2) (λq=>decide (q.1.1<=b)) (λq=>jf q.1.2) (λU=>∃v w',U=[v,w',some (.int b)]) () {_,_,rfl} (λi H hi sm=>Fv (eN sm hep) (by rw[<-e2,za];exact hi)) (λH sm=>{_,eN sm hep,by rw[<-e2,za];exact zm _}) ?_ ?_ ?_
    ·rintro i x H H2 hi sm ⟨rfl,hy⟩
     let hx':=hy _ (eN sm hep);rw[<-e2,zK,zd hi] at hx';cases hx';exact{(rfl),rfl}
    ·rintro z U H2 R N hz s2 ⟨v,w',rfl⟩ rr nn
     let⟨a2,q2,ev,ha2,hq2⟩:=pA ((e3 z hz).mono s2);rw[ev];refine{a2,_,rfl,cU.of ha2,rfl,?_};refine{_,_,rfl,{_,_,rfl,{rfl,?_}}};left
     by_cases c3:z.1.1<=b
     ·refine bW (zg c3) ?_
      change rr (zg c3) _ _ _ (ax.refl _) (cw hq2 qW) {_,_,rfl}
     ·refine b9 (ze c3) ?_
      exact nn (ze c3) _ _ (ax.refl _) {_,_,rfl}
    ·intro D vs H2 s2 nD hD ilD
     let ee:(ps.filter λq:Sc.End×V=>decide (q.1.1<=b)).map (λq=>jf q.1.2)=((r.ends.filter λe=>decide (e.1<=b)).map (·.2)).map jf:=by
      rw[<-e1,List.filter_map,zB,zB];rfl
     rw[ee] at ilD;let vl:=aP ilD;rw[za] at vl;exists by show 0<=sizeLine;ext,?_
     intros p3 H3 s3 h3;refine{D,p3,_,_,rfl,rfl,.inl {aH.of (s3 _ _ hD),aH.of h3},.inr (.inl rfl),?_};let hlp:jP rs b=(match (r.ends.filter λe=>decide (e.1<=b)).getLast? with | none=>true | some e=>decide (r.times∈e.2)):=by unfold jP;rw[hro];try rfl
     rw[hlp] at kk;clear hlp ee;generalize (r.ends.filter λe=>decide (e.1<=b))=fs at kk ilD vl;let s13:=s2.trans s3
     by_cases e:vs=[]
     ·refine{_,rfl,bW (zg e) ?_}
      have:fs=[]:=by
       rw[e] at vl;exact yt.mp vl.symm
      rw[this] at kk;exact kk _ s13
     ·refine{_,rfl,b9 (ze e) ?_}
      let vp:0<⇑vs:=yr.mpr e;let⟨ps5,hps5,i5⟩:=cS ilD (i:=⇑vs-1) (zd ());rw[zK] at hps5;cases qf:fs[⇑vs-1]? with
      | none=>rw[qf] at hps5;cases hps5
      | some en=>
       rw[qf] at hps5;let e5:en.2=ps5:=yk hps5;subst e5;let gl:fs.getLast?=some en:=by rw[wo,<-vl];exact qf
       rw[gl] at kk;unfold jf Is at i5;let⟨a5,us5,ev5,ha5,il5⟩:=i5;rw[dW il5] at ha5;left;refine{D,vs,-1,_,rfl,rfl,aH.of (s3 _ _ hD),nY (zd ()),?_};rw[ev5];refine{a5,_,rfl,.inr (cU.of (s3 _ _ ha5)),rfl,by rw[wj];exact yp.mpr λx _=>rfl,?_};show Q (.bl (Gk (.int r.times) (en.2.map V.int))) _;rw[vX];exact kk _ s13
   ·refine b9 (ze c2) ?_
    change{nxt (by unfold Gm;rw[ze c2,wK]),_,_,_,_,_,rfl}
  ·refine b9 (ze c1) ?_
   change{nxt (by unfold Gm;rw[ze c1,yU]),_,_,_,_,_,rfl}
 ·rintro U H1 ⟨rfl,no,v2,v3,v4,v5,v6,rfl⟩
  left;let e:jP rs b=true:=by
   unfold jP;rw[show dC rs b=none from xV.mpr λy hy=>by
    have:=no y (by rw[rvl,zN];exact hy);unfold Gm at this;rw[this];simp]
  rw[e] at kk;exact kk _ (ax.refl _)
def El.apart {many:Int} {rs:List Rep} (h:El many rs):Apart rs:=by
 refine{λr hr=>?_,h.2.2};let⟨h1,h2,h3,h4,h5,e1,e2,e3,e4,e5⟩:=h.2.1 r hr;exact{h2,e5,λe he=>{(e3 e he).1,(e3 e he).2.1}}
inductive ux (vs:List V) (H:Hp) (Q:VK) (E:XK):Prop
 | mk (c many:Int) (p:vF) (rs:List Rep) (_:vs=[.int c,.int many,.ref p]) (_:RU H p rs) (_:El many rs) (_:1<=many) (_:many<=200) (_:∀(jo:Option Jump) v H',(∀j,jo=some j->Rp many rs j)->ax H H'->Is H' (dO jS jo) v->Q v H')
def LB {l:List Int} {j:Nat} (h:j<⇑l):∃x,(l.map V.int)[j]?=some (.int x)/\x∈l:={l[j],by rw[zK,zd h];rfl,ym h}
def JT {m:Int} {l:List Int} (h:l≠[]):∃x,Ek (l.map V.int) (m%(⇑l:Int))=some (.int x)/\x∈l:=by
 let hp:0<⇑l:=yr.mpr h;let a0:=zw m (b:=(⇑l:Int)) ();let a1:=zt m (b:=(⇑l:Int)) ();obtain⟨j,hj⟩:∃j:Nat,m%(⇑l:Int)=(j:Int):={(m%(⇑l:Int)).toNat,()}
 let⟨x,e1,e2⟩:=LB (l:=l) (j:=j) ();exact{x,by rw[hj];exact bA e1,e2}
def IP (l:List Int):(l.map V.int).all mj=true:=by rw[wj];exact yp.mpr λ_ _=>rfl
def uN:dh P w base 2 T.lN ux:=by
 nomatch T.lN,["_law_cell","_law_many","_law_repeats","_law_m","_law_lasts","_law_inside","_law_ats","_law_at","_law_tos","_law_to","_law_untils","_law_codas"]
 let⟨c,many,p,rs,rfl,rsl,rd,mn1,mn2,kk⟩:=h;let sl:=yC;let ap:=rd.apart;let⟨rl,el,rv,hp,il⟩:=id rsl;let⟨ps,e1,e2,e3⟩:=gL il;let pln:⇑ps=⇑rs:=by rw[<-e1,za]
 refine{_,(af (bP 3 qN (bJ (bQ T) hr T.cy (aa (pv 0) (aa ae ag))))
  (af (bP 4 qN (oh (ts:=["_law_first","_law_last","_law_times","_law_ends"]) (ys:=[]) (js:=[]) (g:=(CQ K 4 (eK (bO 0) (eK (bO 1) (eK (bO 2) (eK (bO 3) CS)))))) (te:=(aY 1)) (bf (pv 2)) (dz (n:=4) rfl (aK (f9 0) (aK (f9 1) (aK (f9 2) (aK (f9 3) cJ))))) bq (pv 1)))
  (af (bP 5 qN (oh (ts:=["_law_bar"]) (ys:=["_law_repeats"]) (js:=[2]) (g:=(bO 0)) (tc:=(tB (LW (Wh K) (bR (mK [none,some 0] (Lk K (aY 1)) (bO 0) rQ (An (rL λi j=>.bl (decide (i<=j))) (rL λi j=>.bl (decide (i<=j))) (e9 (o7 K) (aY 0) (tC (.int (0)))) (aY 1) (e9 (o7 K) (aY 0) (tC (.int (1)))))) eC)))) (te:=(aY 0)) (dj (by rfl) T.cK (aa (pv 1) ag)) (f9 0) (fM (cR (d9 (gw rfl) T.A8 (aa (oh (ts:=["_law_one"]) (ys:=["_law_bar"]) (js:=[0]) (te:=(An (rL λi j=>.bl (decide (i<=j))) (rL λi j=>.bl (decide (i<=j))) (e9 (o7 K) (aY 0) (tC (.int (0)))) (aY 1) (e9 (o7 K) (aY 0) (tC (.int (1)))))) (bf (pv 1)) (f9 0) bq (Hr fO fO (bM (pv 0) ae) (pv 1) (bM (pv 0) ae))) ag)))) (pv 0)))
  (af (Mo (i:=6) (ts:=["_law_bar"]) (ys:=["_law_lasts","_law_inside"]) (js:=[4,5]) (g:=(bO 0)) (tc:=(V3 (jB (e9 (T6 K false) (aY 0) (aY 1))) (jB (e9 (T6 K true) (aY 0) (aY 2))))) (te:=(aY 0)) (dj (by rfl) T.cK (aa (pv 1) ag)) (f9 0) (fM (PW.pt (eF (hZ kA (pv 0) (pv 1) (by with_unfolding_all rfl)) (dy (hZ eP (pv 0) (pv 2) (by with_unfolding_all rfl)))))) (pv 0) qN)
  (af (aI (PW.pt (eF (ptr de (au aR (au aV (pv 3) ae) ae) ae) (dy (ptr (sG hr.units) (pv 6) (bz ag)))))
  (ak (aq aS))
  aB)
  (af (bP 7 qN (fw (pv 6) (au aR (au aV (pv 3) ae) (d9 aF T.bB (aa (pv 6) ag)))))
  (af (Mo (i:=8) (ts:=["_law_bar"]) (ys:=["_law_repeats"]) (js:=[2]) (g:=(bO 0)) (tc:=(Qf (tB (gG jZ [] E0 (bR (aY 1) (bR (aY 0) eC)))))) (te:=(aY 0)) (dj (by rfl) T.cK (aa (au aT (pv 7) ae) ag)) (f9 0) (fM (fu (cR (bJ (oC T) hr T.lO (aa (pv 1) (aa (pv 0) ag)))))) (pv 0) qN)
  (af (bP 9 qN (fw (pv 8) (au aR (au aV (pv 3) ae) (d9 aF T.bB (aa (pv 8) ag)))))
  (af (Mo (i:=10) (ts:=["_law_bar"]) (ys:=["_law_repeats"]) (js:=[2]) (g:=(bO 0)) (tc:=(tB (gG gS [] E0 (bR (aY 1) (bR (aY 0) eC))))) (te:=(aY 0)) (nJ (by rfl) T.cK (aa (pv 9) (aa (au aT (pv 7) ae) ag))) (f9 0) (fM (cR (bJ (mh T) hr T.iH (aa (pv 1) (aa (pv 0) ag))))) (pv 0) qN)
  (af (Mo (i:=11) (ts:=["_law_bar"]) (ys:=["_law_repeats"]) (js:=[2]) (g:=(bO 0)) (tc:=(So (Qf (tB (gG jZ [] E0 (bR (aY 1) (bR (aY 0) eC))))) (tB (gG gS [] E0 (bR (aY 1) (bR (aY 0) eC)))))) (te:=(aY 0)) (nJ (by rfl) T.cK (aa (au aT (pv 7) ae) (aa (pv 1) ag))) (f9 0) (fM (PW.pt (dt (fu (cR (bJ (oC T) hr T.lO (aa (pv 1) (aa (pv 0) ag))))) (cW (cR (bJ (mh T) hr T.iH (aa (pv 1) (aa (pv 0) ag)))))))) (pv 0) qN)
  (af (aI (ptr (sG hr.units) (pv 10) (bz ag))
  (ak (aq aS))
  aB)
  (ak (aq (bE (aa (pv 7) (aa (pv 9) (aa (fw (pv 10) (au aR (au aV (pv 3) ae) (d9 aF T.bB (aa (pv 10) ag)))) (aa (fw (au fP (bz (aa aS ag)) (pv 11)) (au aR (au aV (pv 3) ae) (au aT ae (d9 aF T.bB (aa (pv 11) ag))))) ag)))))))))))))))))),?_}
 ac_rfl;exists c,520,rfl,(),(),?_;let m0:0<=mixed c 520:=zw _ ∅;generalize mixed c 520=m at m0;exists{_,aH.of hp},?_;refine dA (enc:=λq:Rep×V=>q.2) (ws:=ps) (λq=>.int q.1.last) (λU=>∃v1 v2 v3 v4,U=[v1,v2,v3,v4]) () (by rw[e2];exact aH.of hp) {_,_,_,_,rfl} ?_ ?_
 ·rintro z U H1 R hz s1 ⟨v1,v2,v3,v4,rfl⟩ rr
  let⟨a,e,ev,ha,_⟩:=dP ((e3 z hz).mono s1);rw[ev];refine{a,_,rfl,cU.of ha,rfl,?_};refine{_,_,rfl,{_,_,rfl,{_,_,rfl,{_,_,rfl,{rfl,?_}}}}};change rr _ _ _ (ax.refl _) cE {_,_,_,_,rfl}
 intro D4 vs4 H4 s4 _ hD4 il4;let ee:ps.map (λq:Rep×V=>Dt.int q.1.last)=(rs.map (·.last)).map Dt.int:=by rw[<-e1,zB,zB];rfl
 rw[ee] at il4;rw[dW il4] at hD4;clear ee il4;exists by ext,(),?_
 let mt:((many.toNat:Nat):Int)=many:=()
 refine jg (rest:=[some (.ref p)]) (λb=>rs.any λr=>Gm r b) () {(none),rfl} ?_ ?_
 ·intro i H5 R i0 i1 s5 hR
  let s05:=s4.trans s5;exists{_,aH.of (s05 _ _ hp)},?_;refine dA (enc:=λq:Rep×V=>q.2) (ws:=ps) (λq=>.bl (Gm q.1 i)) (λU=>∃v1,U=[v1,some (.int i)]) () (by rw[e2];exact aH.of (s05 _ _ hp)) {_,rfl} ?_ ?_
  ·rintro z U H6 R hz s6 ⟨v1,rfl⟩ rr
   let⟨a,e,ev,ha,_⟩:=dP ((e3 z hz).mono (s05.trans s6));rw[ev];left
   by_cases c1:z.1.first<=i
   ·refine bW (zg c1) ?_
    change rr _ _ _ (ax.refl _) (by unfold Gm;rw[zg c1,yW];unfold Is;rfl) {_,rfl}
   ·refine b9 (ze c1) ?_
    exact rr _ _ _ (ax.refl _) (by unfold Gm;rw[ze c1,yU];unfold Is;rfl) {_,rfl}
  ·intro D vs H6 s6 nD hD ilD
   let ee:ps.map (λq:Rep×V=>Dt.bl (Gm q.1 i))=(rs.map λr=>Gm r i).map Dt.bl:=by rw[<-e1,zB,zB];rfl
   rw[ee] at ilD;rw[j8 ilD] at hD;exists D,_,rfl,aH.of hD,?_;rw[wH];exact{_,rfl,hR _ s6}
 intro D5 H5 s5 _ hD5;let hD45:=s5 _ _ hD4;generalize hins:mm (λb=>rs.any λr=>Gm r b) 0 many.toNat=ins at hD5;exists by ext,(),?_
 refine jg (rest:=[some (.ref D4),some (.ref D5)]) (λb=>decide (b∈rs.map (·.last))||!decide (b∈ins)) () ⟨none,rfl⟩ ?_ ?_
 ·intro i H6 R i0 i1 s6 hR
  exists D4,_,rfl,.inl (aH.of (s6 _ _ hD45)),rfl,IP _,?_;show∃k,V.bl (Gk (.int i) ((rs.map (·.last)).map V.int))=.bl k/\_;rw[vX];refine{_,rfl,?_};refine Lc (decide (i∈rs.map (·.last))||!decide (i∈ins)) ?_ ?_ (hR _ (ax.refl _))
  ·intro c1 Z hz
   rw[c1,Bool.false_or] at hz;exists D5,_,rfl,.inl (aH.of (s6 _ _ hD5)),rfl,IP _,?_;show∃k,V.bl (!Gk (.int i) (ins.map V.int))=.bl k/\_;rw[vX];exact{_,rfl,hz}
  ·intro c1;rw[c1,Bool.true_or]
 intro D6 H6 s6 _ hD6;let s06:=(s4.trans s5).trans s6;generalize hats:mm (λb=>decide (b∈rs.map (·.last))||!decide (b∈ins)) 0 many.toNat=ats at hD6;left;let out:∀H',ax H H'->Q .bH H':=λH' s'=>kk none .bH H' (λj z=>by cases z) s' (by unfold dO Is;rfl)
 by_cases c0:m/7%3=0
 ·refine bW (zg (y6 V.int c0)) ?_
  change out _ s06
 refine b9 (ze λz=>c0 (V.int.inj z)) ?_;exists by show 0<=sizeLine;ext,?_
 intros p7 H7 s7 h7;refine{D6,p7,_,_,rfl,rfl,.inl {aH.of (s7 _ _ hD6),aH.of h7},.inr (.inl rfl),?_}
 by_cases cn:ats=[]
 ·rw[cn]
  change out _ (s06.trans s7)
 let hn:decide (ats.map V.int=[])=false:=ze (by simpa using cn);rw[hn];let s07:=s06.trans s7;let hD67:=s7 _ _ hD6;left;let⟨at_,hat,atin⟩:=JT (m:=m/3) cn;let anp:0<⇑ats:=yr.mpr cn;refine{D6,_,rfl,.inl (aH.of hD67),?_};rw[za];exists by show 0<(⇑ats:Int);ext,?_
 refine{D6,_,_,_,rfl,rfl,aH.of hD67,hat,?_};rw[<-hats] at atin;let⟨a0,a1,a2⟩:=nU atin;let a1':at_<many:=()
 let aleave:(∃r∈rs,r.last=at_)\/(rs.any λr=>Gm r at_)=false:=by
  rw[Bool.or_eq_true,xF] at a2;rcases a2 with z | z
  ·let⟨r,hr1,hr2⟩:=zH.mp z
   exact .inl {(r),hr1,hr2}
  ·right
   cases q:rs.any λr=>Gm r at_ with
   | false=>rfl
   | true=>
    have:at_∈ins:=by rw[<-hins];exact Ig a0 () q
    rw[zg this] at z;cases z
 clear hats atin hat;exists by show -2^62<=at_+1;ext,(by show at_+1<2^62;ext),?_
 let pt:∀H',ax H7 H'->RU H' p rs:=λH' s'=>(rsl.mono s07).mono s';refine jg (rest:=[some (.ref p)]) (λb=>!eJ rs b) (by show(at_+1).toNat<=sizeLine;ext) {(none),rfl} ?_ ?_
 ·intro i H8 R i0 i1 s8 hR
  change{p,rs,i,rfl,pt _ s8,λH' s'=>{_,rfl,hR _ s'}}
 intro D8 H8 s8 _ hD8;generalize htos:mm (λb=>!eJ rs b) 0 (at_+1).toNat=tos at hD8;let tn:tos≠[]:=by
  rw[<-htos];refine List.ne_nil_of_mem (Ig (x:=0) () () ?_);have:eJ rs 0=false:=by
   unfold eJ;rw[vv];intro r hr';have:=(rd.2.1 r hr').1;rw[ze (show¬r.first<0 by ext)];simp
  rw[this];rfl
 let⟨to_,hto,toin⟩:=JT (m:=m/50) tn;let tnp:0<⇑tos:=yr.mpr tn;exists D8,_,rfl,.inl (aH.of hD8),?_;rw[za];exists by show 0<(⇑tos:Int);ext,?_
 refine{D8,_,_,_,rfl,rfl,aH.of hD8,hto,?_};rw[<-htos] at toin;let⟨b0,b1,b2⟩:=nU toin;let b2':eJ rs to_=false:=by cases q:eJ rs to_ with
  | false=>rfl
  | true=>rw[q] at b2;cases b2
 clear htos toin hto tnp tn;exists _,_,rfl,{(),(),(by show -2^62<=at_+1;ext),by show at_+1<2^62;ext},?_;refine jg (rest:=[some (.ref p)]) (λb=>jP rs b) (by show(at_+1-to_).toNat<=sizeLine;ext) {(none),rfl} ?_ ?_
 ·intro i H9 R i0 i1 s9 hR
  change{p,rs,i,rfl,pt _ (s8.trans s9),λH' s'=>{_,rfl,hR _ s'}}
 intro D9 H9 s9 _ hD9;generalize hunt:mm (λb=>jP rs b) to_ (at_+1-to_).toNat=unt at hD9;exists _,_,rfl,{by show -2^62<=at_+1;ext,(by show at_+1<2^62;ext),(),()},?_;refine jg (rest:=[some (.ref p)]) (λb=>!eJ rs b&&jP rs b) (by show(many-(at_+1)).toNat<=sizeLine;ext) {(none),rfl} ?_ ?_
 ·intro i Ha R i0 i1 sa hR
  left;refine{p,rs,i,rfl,pt _ ((s8.trans s9).trans sa),λH' s'=>{_,rfl,?_}};cases q:eJ rs i with
  | true=>
   rw[q] at hR;exact b9 rfl (hR _ s')
  | false=>
   rw[q] at hR;refine bW rfl ?_;change{p,rs,i,rfl,(pt _ ((s8.trans s9).trans sa)).mono s',λH'' s''=>{_,rfl,hR _ (s'.trans s'')}}
 intro Da Ha sa _ hDa;generalize hcod:mm (λb=>!eJ rs b&&jP rs b) (at_+1) (many-(at_+1)).toNat=cod at hDa;let cl:⇑cod<=200:=by
  have:=MJ (f:=λb=>!eJ rs b&&jP rs b) (lo:=at_+1) (n:=(many-(at_+1)).toNat);rw[hcod] at this;ext
 let s0a:=((s07.trans s8).trans s9).trans sa;exists by show 0<=sizeLine;ext,?_
 intros pb Hb sb hb;let hD9b:=sb _ _ (sa _ _ hD9);refine{D9,pb,_,_,rfl,rfl,.inl {aH.of hD9b,aH.of hb},.inr (.inl rfl),?_}
 by_cases un:unt=[]
 ·rw[un]
  change out _ (s0a.trans sb)
 let hn2:decide (unt.map V.int=[])=false:=ze (by simpa using un);rw[hn2];let⟨u_,hu,uin⟩:=JT (m:=m/500) un;let unp:0<⇑unt:=yr.mpr un;rw[<-hunt] at uin;let⟨u0,u1,u2⟩:=nU uin;exists D9,_,rfl,.inl (aH.of hD9b),?_;rw[za];exists by show 0<(⇑unt:Int);ext,?_
 refine{D9,_,_,_,rfl,rfl,aH.of hD9b,hu,?_};exists by show 1<=sizeLine;ext,?_
 intros pc Hc sc hc;let hDac:=sc _ _ (sb _ _ hDa);exists pc,Da,_,_,rfl,rfl,aH.of hc,aH.of hDac,by rw[za];show 1+⇑cod<=sizeLine;ext,?_
 intros pd Hd sd hd;exists Da,_,rfl,.inl (aH.of (sd _ _ hDac)),?_;rw[za];exists by show 0<1+(⇑cod:Int);ext,?_
 let k0:0<=m/7%(1+(⇑cod:Int)):=zw _ ();let k1:m/7%(1+(⇑cod:Int))<1+(⇑cod:Int):=zt _ ();obtain⟨kj,hkj⟩:∃j:Nat,m/7%(1+(⇑cod:Int))=(j:Int):={(m/7%(1+(⇑cod:Int))).toNat,()}
 obtain⟨co,cv,hcv,icv,cok⟩:∃(co:Option Int) (cv:V),(V.bH::cod.map V.int)[kj]?=some cv/\(∀H',Is H' (dO Dt.int co) cv)/\∀x,co=some x->x∈cod:=by
  cases kj with
  | zero=>exact{none,.bH,rfl,λH'=>by unfold dO Is;rfl,λx z=>by cases z}
  | succ k=>
   let⟨x,f1,f2⟩:=LB (l:=cod) (j:=k) ();exact{some x,.int x,by simpa using f1,λH'=>by unfold dO Is;rfl,λy z=>by cases z;exact f2}
 refine{pd,_,_,_,rfl,rfl,aH.of hd,(by rw[hkj];exact bA hcv),?_};exists by show 4<=sizeLine;ext,?_
 intros pe He se he;refine kk (some {(at_),to_,u_,co}) _ _ (λj z=>?_) ((((s0a.trans sb).trans sc).trans sd).trans se) (cw he (aO cE (aO cE (aO cE (aO (icv _) cD)))));cases z;refine Ti ap a0 a1' aleave b0 () b2' u0 () u2 λx hx=>?_;let xin:=cok x hx;rw[<-hcod] at xin;let⟨x0,x1,x2⟩:=nU xin;rw[zO] at x2;refine{(),(),?_,x2.2};cases q:eJ rs x with
 | false=>rfl
 | true=>rw[q] at x2;cases x2.1
def NF:∀x∈Fo,∀z∈([2,3,5]:List Int),(red x.1 (x.2*z)).1*(red x.1 x.2).2<(red x.1 x.2).1*(red x.1 (x.2*z)).2:=by decide +kernel
structure lS (most:Int) (S:bU):Prop where
 T7:1<=⇑S.players
 pl:⇑S.players<=4
 pn:B4 S.players
 ins:Vh S.ao
 st:Gd S.players S.aM
 b1:1<=⇑S.aL
 bl:(⇑S.aL:Int)<=most
 bd:∀b∈S.aL,Nm b
 up:∀u,S.aG=some u->∃x z,S.aL[0]?=some x/\z∈([2,3,5]:List Int)/\u=red x.aQ.1 (x.aQ.2*z)
 hs:List.Sublist (S.holds.map (·.1)) S.players
 hr:∀x∈S.holds,LG (S.ao.map (·.1)) ⇑S.aL x.2
 no:Gg S S.aJ
 nl:⇑S.aJ<=9*⇑S.aL
 rp:El ⇑S.aL S.repeats
 ju:∀j,S.bS=some j->Rp ⇑S.aL S.repeats j
def Bq {aL:List Sc.Nv} {upb:Option (Int×Int)} {S:bU} (eb:S.aL=aL) (eu:S.aG=upb) (bd:∀b∈aL,Nm b) (up:∀u,upb=some u->∃x z,aL[0]?=some x/\z∈([2,3,5]:List Int)/\u=red x.aQ.1 (x.aQ.2*z)) (b:Nat) (hb:b<⇑aL):KA (S.len b):=by
 let hm:KA (S.aQ b):=by
  unfold bU.aQ;rw[eb,zd hb];let⟨m1,m2,m3,m4,m5⟩:=jN (bd _ (ym hb)).1;exact JX () () () ()
 unfold bU.len;rw[eu];cases q:upb with
 | none=>exact hm
 | some u=>
  dsimp only;split
  ·let⟨x,z,e1,e2,e3⟩:=up u q
   let⟨m1,m2,m3,m4,m5⟩:=jN (bd _ (zC e1)).1;rw[e3];let z1:2<=z/\z<=5:=by
    simp only[zD,zE,yV] at e2;ext
   let p1:0<x.aQ.2*z:=xB () ();let p2:x.aQ.2*z<=32*5:=wd m5 z1.2 () ∅;exact JX () () p1 ()
  ·exact hm
inductive rT (K:yB) (vs:List V) (H:Hp) (Q:VK) (E:XK):Prop
 | mk (a:vF) (ns:List Int) (most:Int) (_:vs=[.ref a,.int most]) (_:aH K H a (ns.map V.int)) (_:⇑ns<=1000) (_:1<=most) (_:most<=24) (_:∀S p H',lS most S->ax H H'->nh H' p S->Q (.ref p) H')
def sI:dh P w base 4 T.kg (rT K):=by
 nomatch T.kg,["_law_script","_law_most","_law_m","_law_players","_law_instruments","_law_many","_law_bars","_law_upbeat","_law_holds","_law_notes","_law_repeats","_law_jump","_law_staffs"]
 let⟨a,ns,most,rfl,hS,nl,mo1,mo2,kk⟩:=h;let sl:=yC;refine{_,(af (bP 2 qN (bJ (bQ T) hr T.cy (aa (bJ (b7 T) hr T.cz (aa (pv 0) (aa ae ag))) (aa ae ag))))
  (af (bP 3 qN (bJ (eQ T) hr T.d6 (aa (au aV (pv 2) ae) (aa (au aT ae (au aR (pv 2) ae)) ag))))
  (af (bP 4 qN (bJ (lA T) hr T.eY (aa (bJ (b7 T) hr T.cz (aa (pv 0) (aa ae ag))) ag)))
  (af (bP 5 qN (au aT ae (au aR (bJ (bQ T) hr T.cy (aa (bJ (b7 T) hr T.cz (aa (pv 0) (aa ae ag))) (aa ae ag))) (pv 1))))
  (af (bP 6 qN (bJ (uP T) hr T.lQ (aa (bJ (b7 T) hr T.cz (aa (pv 0) (aa ae ag))) (aa (pv 5) ag))))
  (af (bP 7 qN aS)
  (af (aI (ptr de (au aR (au aV (pv 2) ae) ae) ae)
  (ak (bP 7 qN (bJ (fQ T) hr T.fH (aa (bM (bM (fw (pv 6) ae) ae) ae) (aa (au dS (bM (bM (fw (pv 6) ae) ae) ae) (fw (bz (aa ae (aa ae (aa ae ag)))) (au aR (au aV (pv 2) ae) ae))) ag)))))
  aB)
  (af (bP 8 qN (bJ (sN T) hr T.ko (aa (bJ (b7 T) hr T.cz (aa (pv 0) (aa ae ag))) (aa (pv 3) (aa (pv 4) (aa (pv 5) ag))))))
  (af (bP 9 qN (bJ (sL T) hr T.ki (aa (bJ (b7 T) hr T.cz (aa (pv 0) (aa ae ag))) (aa (pv 3) (aa (pv 6) (aa (pv 7) ag))))))
  (af (bP 10 qN (bJ (pw T) hr T.gY (aa (bJ (b7 T) hr T.cz (aa (pv 0) (aa ae ag))) (aa (pv 5) ag))))
  (af (bP 11 qN (bJ (uN T) hr T.lN (aa (bJ (b7 T) hr T.cz (aa (pv 0) (aa ae ag))) (aa (pv 5) (aa (pv 10) ag)))))
  (af (bP 12 qN (bJ (qK T) hr T.jr (aa (bJ (b7 T) hr T.cz (aa (pv 0) (aa ae ag))) (aa (pv 3) ag))))
  (ak (aq (bE (aa (pv 3) (aa (pv 4) (aa (pv 12) (aa (pv 6) (aa (pv 7) (aa (pv 8) (aa (pv 9) (aa (pv 10) (aa (pv 11) ag)))))))))))))))))))))))),?_}
 ac_rfl;exists a,ns,0,rfl,hS,(by decide),nl,λc0=>?_;exists c0,1,rfl,(by decide),(by decide),?_;let m0:0<=mixed c0 1:=zw _ ∅;let m1:mixed c0 1<2147483399:=zt _ ∅;generalize mixed c0 1=m at m0 m1;let a0:0<=m%4:=zw _ ∅;let a1:m%4<4:=zt _ ∅;left;refine{_,_,rfl,zW m0 ∅,?_,(),(),λps pp H1 pl pok s1 hpp=>?_}
 ·have:=zX (a:=m) 4 m0;ext
 let T7:1<=⇑ps/\⇑ps<=4:=()
 exists a,ns,1,rfl,s1.seq hS,(by decide),nl,λc1=>?_;left;intro ins ip iv H2 iok s2 hip ili;exists a,ns,2,rfl,(s1.trans s2).seq hS,(by decide),nl,λc2=>?_;exists c2,2,rfl,(by decide),(by decide),?_;let n0:0<=mixed c2 2:=zw _ ∅;generalize mixed c2 2=n at n0;exists by show 0<most;ext,?_
 let d0:0<=n%most:=zw _ ();let d1:n%most<most:=zt _ ();exists a,ns,2,rfl,(s1.trans s2).seq hS,(by decide),nl,λc3=>?_;exists c3,_,rfl,(),(),λaL bp bv H3 bl vJ s3 nb hbp ilb=>?_;let bl2:((⇑aL:Nat):Int)=1+n%most:=()
 let bvl:=aP ilb;let s03:=(s1.trans s2).trans s3;let x0:aL[0]?=some (aL[0]'()):=zd ();generalize aL[0]'()=x at x0;let⟨y,hy,iy⟩:=cS ilb (i:=0) (zd ());let ey:y=x:=by rw[x0] at hy;exact(yk hy).symm
 subst ey;let⟨ab,mv,qb,ev,hab,imv,_⟩:=vV iy;let xin:y.aQ∈Fo:=(vJ y (zC x0)).1;let⟨e1,e2,e3,e4,e5⟩:=jN xin;let av:bv[0]?=some (.ref ab):=by rw[<-ev];exact zd ()
 cases eW (o:=some y.aQ) imv with
 | ref hmv=>
 rename_i am;left;refine join (λU H'=>ax H3 H'/\∃(upb:Option (Int×Int)) (uv:V),U=[some (.ref a),some (.int most),some (.int m),some (.ref pp),some (.ref ip),some (.int (1+n%most)),some (.ref bp),some uv,none,none,none,none,none]/\Is H' (dO dL upb) uv/\∀u,upb=some u->∃x z,aL[0]?=some x/\z∈([2,3,5]:List Int)/\u=red x.aQ.1 (x.aQ.2*z)) (λN hN cc=>?_) (λN hN cc=>?_) ?_
 ·left
  refine{bp,bv,0,_,rfl,rfl,aH.of hbp,bA av,?_};exists bp,bv,0,_,rfl,rfl,aH.of hbp,bA av,?_;exists by show 3<=sizeLine;ext,?_
  intros p4 H4 s4 h4;let g0:0<=m/64%3:=zw _ ∅;let g1:m/64%3<3:=zt _ ∅;obtain⟨jj,hjj⟩:∃j:Nat,m/64%3=(j:Int):={(m/64%3).toNat,()}
  obtain⟨z,hz,zi⟩:∃z:Int,[V.int 2,V.int 3,V.int 5][jj]?=some (.int z)/\z∈([2,3,5]:List Int):=by
   have:jj<3:=()
   match jj,this with
   | 0,_=>exact{2,rfl,∅}
   | 1,_=>exact{3,rfl,∅}
   | 2,_=>exact{5,rfl,∅}
  let z1:2<=z/\z<=5:=by
   simp only[zD,zE,yV] at zi;ext
  exists p4,_,m/64%3,.int z,rfl,rfl,aH.of h4,(by rw[hjj];exact bA hz),?_;exists .inl {(()),()},?_;let p1:0<y.aQ.2*z:=xB () ();let p2:y.aQ.2*z<=32*5:=wd e5 z1.2 () ∅;refine{_,_,rfl,(),p1,(cq (n:=10) () ()).mono ∅,λp5 H5 s5 h5=>?_};change hN _ _ {s4.trans s5,some (red y.aQ.1 (y.aQ.2*z)),.ref p5,rfl,iw h5,λu q=>by cases q;exact{(y),z,x0,zi,rfl}}
 ·left
  exact hN _ _ {ax.refl _,none,.bH,rfl,by unfold dO Is;rfl,λu z=>by cases z}
 rintro σ4 H4 ⟨s4,upb,uv,rfl,iuv,uok⟩;let s04:=s03.trans s4;exists a,ns,1,rfl,s04.seq hS,(by decide),nl,λc5=>?_;left;let s14:=(s2.trans s3).trans s4;let s24:=s3.trans s4;refine{c5,_,pp,ip,ps,ins,iv,rfl,s14 _ _ hpp,s24 _ _ hip,ili.mono s24,(),by have:=iok.1;ext,(),λhs hp hv H5 hsub hrow s5 hhp rlh=>?_};let s05:=s04.trans s5;exists a,ns,3,rfl,s05.seq hS,(by decide),nl,λc6=>?_;left;let s15:=s14.trans s5;let s25:=s24.trans s5;let s35:=s4.trans s5;refine{c6,pp,bp,{players:=ps,aL:=aL,aG:=upb},bv,uv,rfl,s15 _ _ hpp,s35 _ _ hbp,ilb.mono s35,iuv.mono s5,by show ⇑ps<=9;ext,pok.2,by show ⇑aL<=200;ext,vJ,Bq rfl rfl vJ uok,λnts np nv H6 nok nlen s6 hnp rln=>?_};let s06:=s05.trans s6;exists a,ns,4,rfl,s06.seq hS,(by decide),nl,λc7=>?_;exists c7,_,rfl,(),λrs rp rv H7 tR s7 hrp ilr=>?_;let s07:=s06.trans s7;exists a,ns,4,rfl,s07.seq hS,(by decide),nl,λc8=>?_;left;let rsl:RU H7 rp rs:={by have:=tR.1;ext,λr hr'=>by have:=(tR.2.1 r hr').2.2.2.2.2.2.1;ext,rv,hrp,ilr}
 refine{c8,_,rp,rs,rfl,rsl,tR,(),(),λjo jv H8 jok s8 ij=>?_};let s08:=s07.trans s8;exists a,ns,0,rfl,s08.seq hS,(by decide),nl,λc9=>?_;left;let s18:=((s15.trans s6).trans s7).trans s8;refine{c9,pp,ps,rfl,s18 _ _ hpp,pok.2,(),λsts sp sv H9 stok s9 hsp ils=>?_};exists by show 9<=sizeLine;ext,?_
 intros pa Ha sa ha;let s9a:=sa;let s8a:=s9.trans sa;let s7a:=s8.trans s8a;let s6a:=s7.trans s7a;let s5a:=s6.trans s6a;let s4a:=s5.trans s5a;let s3a:=s4.trans s4a;let s2a:=s3.trans s3a;let s1a:=s2.trans s2a;refine kk {(ps),ins,sts,aL,upb,hs,nts,rs,jo} pa Ha ?_ (s08.trans s8a) ?_
 ·exact{T7.1,T7.2,pok,iok,stok,by show 1<=⇑aL;ext,by show(⇑aL:Int)<=most;ext,vJ,uok,hsub,λx hx=>by show LG (ins.map (·.1)) ⇑aL x.2;rw[bl2];exact hrow x hx,nok,nlen,by show El ⇑aL rs;rw[bl2];exact tR,λj hj=>by show Rp ⇑aL rs j;rw[bl2];exact jok j hj}
 ·exact{pp,ip,sp,bp,hp,np,rp,uv,jv,iv,sv,bv,hv,nv,rv,ha,s1a _ _ hpp,{s2a _ _ hip,ili.mono s2a},{s9a _ _ hsp,ils.mono s9a},{s3a _ _ hbp,ilb.mono s3a},iuv.mono s4a,{s5a _ _ hhp,rlh.imp λx v z=>z.mono s5a},{s6a _ _ hnp,rln.imp λx v z=>z.mono s6a},{s7a _ _ hrp,ilr.mono s7a},ij.mono s8a}
def mX {n:Str} (h:gc n):⇑n<=12:=by
 unfold gc cH at h;split at h
 ·cases h
 ·split at h
  ·cases h
  ·ext
def Iv {n:Int} (h:NB n):⇑(dec n)<=5:=bx (by have:=h.1;ext) (by have:=h.2;ext)
theorem Gz:∀es:List Sc.End,Jp es=⇑((es.map (·.2)).flatten)
 | []=>rfl
 | e::r=>by rw[zj,ya,zh,<-Gz r];rfl
theorem Hh {n:Nat} (hn:n<=999):∀{l rs:List Rep},(rs++l).Pairwise (λa b=>a.last<b.first)->(∀r∈l,Gf n r)->Ab n rs l
 | [],_,_,_=>trivial
 | r::l,rs,asc,ok=>by
  let⟨h1,h2,h3,h4,h5,e1,e2,e3,e4,e5⟩:=ok r zr;refine{λb hb=>?_,?_,{by rw[Gz];ext,(),(),()},Hh hn (by rw[zF];exact asc) λx hx=>ok x (zp _ hx)}
  ·rcases zG.mp hb with z | z
   ·simp only[zD,zE,yV] at z
    rcases z with z | z <;> ext
   ·let⟨e,he,rfl⟩:=zH.mp z
    have:=(e3 e he).2.1;ext
  ·let fin:(decide (r.first<=r.last)&&dH r)=true:=by rw[zg h2];exact e1
   unfold kX;cases q:rs.getLast? with
   | none=>exact fin
   | some p=>
    have:=(zU.mp asc).2.2 p (vb q) r zr;dsimp only;rw[yN ()];exact fin
def Ls {most:Int} {S:bU} (hm:most<=24) (D:lS most S):WL S:=by
 let bl:=D.bl;let b1:=D.b1;let pl:=D.pl;let⟨i1,i2,i3⟩:=D.ins;let⟨t1,t2,t3,t4⟩:=D.st;let nl:=D.nl;let⟨r1,r2,r3⟩:=D.rp;let hl:=D.hs.length_le;rw[za] at hl;refine{D.pn.2,(),i2.2,(),t2.2,t3,λx hx=>(t4 x hx).2.2,λx hx=>by have:=(t4 x hx).2.1;ext,(),(),λb hb=>?_,λu hu=>?_,D.hs.nodup D.pn.2,(),λx hx=>?_,D.no.1,(),λx hx=>?_,Hh () (by rw[List.nil_append];exact r3) r2,(),λr hr=>?_,λj hj=>?_}
 ·let⟨m1,m2,m3,m4,m5⟩:=jN (D.bd b hb).1
  exact{(()),(),(),()}
 ·let⟨x,z,e1,e2,e3⟩:=D.up u hu
  let xin:=(D.bd x (zC e1)).1;let⟨m1,m2,m3,m4,m5⟩:=jN xin;refine{(),?_,?_}
  ·unfold bU.aQ
   rw[e1,e3];exact NF x.aQ xin z e2
  ·let z1:2<=z/\z<=5:=by
    simp only[zD,zE,yV] at e2;ext
   let p1:0<x.aQ.2*z:=xB () ();let p2:x.aQ.2*z<=32*5:=wd m5 z1.2 () ∅;let⟨q1,q2,q3,q4⟩:=JX (t:=x.aQ.1) (b:=x.aQ.2*z) () () p1 ();let⟨_,q5,_⟩:=q1.pos;rw[e3];exact{(cq (n:=10) () ()).mono ∅,(cq (n:=10) () ()).mono ∅}
 ·let⟨h1,h2,h3,h4⟩:=D.hr x hx
  exact{h1,(),h3,D.hs.subset (zP (f:=λy:Str×List (Int×Str)=>y.1) hx),λh hh=>{(h4 h hh).2.1,(h4 h hh).2.2}}
 ·let⟨h1,h2,h3,h4,h5,h6,h7⟩:=D.no.2 x hx
  exact{h1,h2,h3,h4,λit hit=>(h5 it hit).1,h6}
 ·have:=(r2 r hr).2.2.2.2.2.2.1
  ext
 ·let⟨j1,j2,j3,j4,j5⟩:=D.ju j hj
  refine{λb hb=>?_,j1};rcases zG.mp hb with z | z
  ·simp only[zD,zE,yV] at z
   rcases z with z | z | z <;> ext
  ·cases q:j.fU with
   | none=>rw[q] at z;cases z
   | some c=>
    rw[q] at z;have:b=c:=by simpa using z
    have:=(j5 c q).2;ext
def Ec {many:Int} {r:Rep} (hm:many<=200) (h:Gf many r):Nh r:=by
 let⟨h1,h2,h3,h4,h5,e1,e2,e3,e4,e5⟩:=h;exact{{{(h1),()},{(()),()},h4,h5,λe he=>{by have:=(e3 e he).1;ext,by have:=(e3 e he).2.1;ext,(e3 e he).2.2.1,(e3 e he).2.2.2.2}},e2,λe he=>(e3 e he).2.2.2.1}
def Pp {most:Int} {S:bU} (hm:most<=24) (D:lS most S):∀t∈dJ S,TD t:=by
 let bl:=D.bl;let b1:=D.b1;let pl:=D.pl;let⟨i1,i2,i3⟩:=D.ins;let⟨t1,t2,t3,t4⟩:=D.st;let⟨r1,r2,r3⟩:=D.rp;let pnm:∀p∈S.players,gc p:=D.pn.1;let inm:∀p∈S.ao.map (·.1),gc p:=i2.1;intro t ht;unfold dJ at ht;simp only[zG] at ht;rcases ht with((((((ht | ht) | ht) | ht) | ht) | ht) | ht) | (ht | ht)
 ·let⟨n,hn,rfl⟩:=zH.mp ht
  refine{pnm n hn,by show 2<=100;decide,λw hw=>?_};simp only[Sc.wordsOf,zD,zE,yV] at hw;rcases hw with rfl | rfl
  ·decide
  ·have:=mX (pnm _ hn);ext
 ·let⟨x,hx,rfl⟩:=zH.mp ht
  let⟨q1,q2,q3,q4,q5,q6⟩:=i3 x hx;let nx:=inm x.1 (zP (f:=λy:Str×(Int×Int)×(Int×Int)=>y.1) hx);let⟨p1,p2,_⟩:=q4.pos;refine{{(nx),q1,q2,q3,q4,q5,q6},by show 5<=100;decide,λw hw=>?_};simp only[Sc.wordsOf,zD,zE,yV] at hw;let⟨o1,o2,o3,o4,_⟩:=q1;rcases hw with rfl | rfl | rfl | rfl | rfl
  ·decide
  ·have:=mX nx;ext
  ·have:=bx (n:=x.2.1.1) () ();ext
  ·have:=bx (n:=x.2.1.2) () ();ext
  ·have:=kB (x:=x.2.2) () q5 () q6;ext
 ·let⟨x,hx,rfl⟩:=zH.mp ht
  let⟨q1,q2,q3⟩:=t4 x hx;let nx:=t2.1 x.1 (zP (f:=λy:Str×List Str=>y.1) hx);refine{{nx,q1,λp hp=>pnm p (q3 p hp)},by show ⇑x.2+1+1<=100;ext,λw hw=>?_};simp only[Sc.wordsOf,zD] at hw;rcases hw with rfl | rfl | hw
  ·decide
  ·have:=mX nx;ext
  ·have:=mX (pnm w (q3 w hw));ext
 ·let⟨b,hb,rfl⟩:=zH.mp ht
  let⟨q1,q2,q3,q4,q5⟩:=D.bd b hb;let⟨m1,m2,m3,m4,m5⟩:=jN q1;refine{{(m1),(),m3,q2,q3,q4},by show ⇑b.marks+1+1+1<=100;ext,λw hw=>?_};simp only[Sc.wordsOf,zD] at hw;rcases hw with rfl | rfl | rfl | hw
  ·decide
  ·let l1:=bx (n:=b.aQ.1) () ()
   let l2:=bx (n:=b.aQ.2) () ();rw[len_app,len_app];have:("/": Str).length=1:=rfl;ext
  ·have:=bx (n:=b.key) () ();ext
  ·have:=mX (q4 w hw);ext
 ·let⟨u,hu,rfl⟩:=zH.mp ht
  let hu':S.aG=some u:=by
   cases q:S.aG with
   | none=>rw[q] at hu;cases hu
   | some v=>
    rw[q] at hu;have:u=v:=by simpa using hu
    rw[this]
  let ln:=Bq (S:=S) rfl rfl D.bd D.up 0 ();let el:S.len 0=u:=by unfold bU.len;rw[hu'];rfl
  rw[el] at ln;let⟨l1,l2,l3,l4⟩:=ln;let⟨p1,p2,_⟩:=l1.pos;refine{{(l1),l2,(),()},by show 2<=100;decide,λw hw=>?_};simp only[Sc.wordsOf,zD,zE,yV] at hw;rcases hw with rfl | rfl
  ·decide
  ·have:=kB (x:=u) () () () ();ext
 ·let⟨l,hl,ht⟩:=wm.mp ht
  let⟨x,hx,rfl⟩:=zH.mp hl;let⟨h,hh,rfl⟩:=zH.mp ht;let⟨h1,h2,h3,h4⟩:=D.hr x hx;let np:=pnm x.1 (D.hs.subset (zP (f:=λy:Str×List (Int×Str)=>y.1) hx));let nb:NB h.1:={(h4 h hh).1,by have:=(h4 h hh).2.1;ext}
  let ni:=inm h.2 (h4 h hh).2.2;refine{{(np),nb,ni},by show 4<=100;decide,λw hw=>?_};simp only[Sc.wordsOf,zD,zE,yV] at hw;rcases hw with rfl | rfl | rfl | rfl
  ·decide
  ·have:=mX np;ext
  ·have:=Iv nb;ext
  ·have:=mX ni;ext
 ·let⟨x,hx,rfl⟩:=zH.mp ht
  let⟨h1,h2,h3,h4,h5,h6,h7⟩:=D.no.2 x hx;let nb:NB x.1.1:={(h1),()}
  refine{{nb,pnm _ h3,h5,h7},by show(x.2.map pz).length+1+1+1<=100;rw[za];ext,λw hw=>?_};simp only[Sc.wordsOf,zD] at hw;rcases hw with rfl | rfl | rfl | hw
  ·decide
  ·have:=Iv nb;ext
  ·have:=mX (pnm _ h3);ext
  ·let⟨it,hit,rfl⟩:=zH.mp hw
   have:=MC (h5 it hit);ext
 ·let⟨r,hr,rfl⟩:=zH.mp ht
  let⟨⟨q1,q2,q3,q4,q5⟩,q6,q7⟩:=Ec () (r2 r hr);refine{{(q1),q2,q3,q4,q5},by show(r.ends.map oq).length+1+1+1+1<=100;rw[za];ext,λw hw=>?_};simp only[Sc.wordsOf,zD] at hw;rcases hw with rfl | rfl | rfl | rfl | hw
  ·decide
  ·have:=Iv q1;ext
  ·have:=Iv q2;ext
  ·have:=bx (n:=r.times) () ();ext
  ·let⟨e,he,rfl⟩:=zH.mp hw
   have:=Ii (q5 e he) (q7 e he);ext
 ·let⟨j,hj,rfl⟩:=zH.mp ht
  let hj':S.bS=some j:=by
   cases q:S.bS with
   | none=>rw[q] at hj;cases hj
   | some v=>
    rw[q] at hj;have:j=v:=by simpa using hj
    rw[this]
  let⟨j1,j2,j3,j4,j5⟩:=D.ju j hj';let n1:NB j.tY:={(j2.1),()}
  let n2:NB j.vW:={(j3.1),()}
  let n3:NB j.cY:={(j4.1),()}
  let n4:∀c,j.fU=some c->NB c:=λc hc=>{(j5 c hc).1,by have:=(j5 c hc).2;ext}
  refine{{(n1),n2,n3,n4},by show 5<=100;decide,λw hw=>?_};simp only[Sc.wordsOf,zD,zE,yV] at hw;rcases hw with rfl | rfl | rfl | rfl | rfl
  ·decide
  ·have:=Iv n1;ext
  ·have:=Iv n2;ext
  ·have:=Iv n3;ext
  ·unfold ctxt
   cases q:j.fU with
   | none=>decide
   | some c=>have:=Iv (n4 c q);dsimp only;ext
theorem Lp {α:Type} {k:Nat}:∀{l:List (List α)},(∀x∈l,⇑x<=k)->⇑l.flatten<=k*⇑l
 | [],_=>by simp
 | x::r,h=>by
  let ih:=Lp (l:=r) λy hy=>h y (zp _ hy);have:=h x zr;rw[ya,zh,zv,Nat.mul_succ];ext
def MO {most:Int} {S:bU} (hm:most<=24) (D:lS most S):⇑(dJ S)<=1000/\dJ S≠[]:=by
 let bl:=D.bl;let b1:=D.b1;let pl:=D.pl;let T7:=D.T7;let i1:=D.ins.1;let t1:=D.st.1;let r1:=D.rp.1;let nl:=D.nl;let hl:=D.hs.length_le;rw[za] at hl;let f:=Lp (k:=4) (l:=S.holds.map λx=>x.2.map λh=>Told.holds x.1 h.1 h.2) λy hy=>by
  let⟨x,hx,rfl⟩:=zH.mp hy;rw[za];exact(D.hr x hx).2.1
 rw[za] at f;let u:⇑S.aG.toList<=1:=by cases S.aG <;> simp
 let j:⇑S.bS.toList<=1:=by cases S.bS <;> simp
 refine{?_,λz=>?_}
 ·unfold dJ
  simp only[zh,za];ext
 ·have:=y6 List.length z
  unfold dJ at this;simp only[zh,za,xq] at this;ext
def Ci:Sp:=λvs H Q _=>∃(i:Int),vs=[.int i]/\Q (.bl true) H
def CM:dh P w base 1 T.pK Ci:=by
 nomatch T.pK,["_law_found"]
 let⟨i,rfl,kk⟩:=h;refine{_,(ak (aq (o9 (OD .int (by decide +kernel) (pv 0) T.qP T.RJ) (mT (SN (OD .bl (by decide +kernel) (pv 0) T.qP T.S6)))))),?_};ac_rfl;change kk
def MX {r:Rep} {q:vF} {us:List V} {b:Int} {v1 v2:Option V} {Q:VK} {H1:Hp} (hu:H1 q=some (.tup us)) (il:aD H1 (r.ends.map lH) us) (hn:⇑r.ends<=9)
  (fin:∀M vs H,ax H1 H->H M=some (.lst vs)->aD H ((r.ends.filter λe=>decide (e.1<=b)).map λe=>jf e.2) vs->Q (.ref M) H) :
  cP [v1,v2,some (.int b)] (CQ K 2 (eK (bO 0) (eK (bO 1) CS))) (jB (e9 (rL λi j=>.bl (decide (i<=j))) (aY 0) (aY 2))) (aY 1) Q (P9 K q) H1:=by
 let sl:=yC;let⟨ps,f1,f2,f3⟩:=qV il;let psl:⇑ps<=9:=by rw[<-f1,za] at hn;exact hn
 refine Kh (ws:=ps) (enc:=λz:Sc.End×V=>z.2) (λz=>decide (z.1.1<=b)) (λz=>jf z.1.2) (λU=>∃u v,U=[u,v,some (.int b)]) () (by rw[f2];exact hu) {_,_,rfl} ?_ ?_
 ·rintro z U H3 R N hz s3 ⟨u,v,rfl⟩ hR hN
  let⟨az,qz,ev,haz,hqz⟩:=pA ((f3 z hz).mono s3);rw[ev];refine{az,_,rfl,cU.of haz,rfl,?_};refine{_,_,rfl,{_,_,rfl,{rfl,?_}}};left
  by_cases c:z.1.1<=b
  ·refine bW (zg c) ?_
   change hR (zg c) _ _ _ (ax.refl _) (QW hqz) {_,_,rfl}
  ·refine b9 (ze c) ?_
   exact hN (ze c) _ _ (ax.refl _) {_,_,rfl}
 ·intro M vs H3 s3 _ hM ilM
  let ef:(ps.filter λz=>decide (z.1.1<=b)).map (λz=>jf z.1.2)=(r.ends.filter λx=>decide (x.1<=b)).map λx=>jf x.2:=by
   rw[<-f1,List.filter_map,zB];rfl
  rw[ef] at ilM;exact fin M vs H3 s3 hM ilM
inductive N0 (K:yB) (vs:List V) (H:Hp) (Q:VK) (E:XK):Prop
 | mk (a:vF) (ns:List Int) (_:vs=[.ref a]) (_:aH K H a (ns.map V.int)) (_:⇑ns<=63) (_:∀H':Hp,Q (.bl true) H')
def TF:∀x∈Fo,(red x.1 x.2).2 ∣ 960:=by decide +kernel
def U3:∀x∈Fo,∀z∈([2,3,5]:List Int),(red x.1 (x.2*z)).2 ∣ 960:=by decide +kernel
def MN {most:Int} {S:bU} (D:lS most S) (b:Nat) (hb:b<⇑S.aL):Ve (S.len b):=by
 refine{Bq rfl rfl D.bd D.up b hb,?_};let hm:(S.aQ b).2 ∣ 960:=by
  unfold bU.aQ;rw[zd hb];exact TF _ (D.bd _ (ym hb)).1
 unfold bU.len;cases q:S.aG with
 | none=>exact hm
 | some u=>
  dsimp only;split
  ·let⟨x,z,e1,e2,e3⟩:=D.up u q
   rw[e3];exact U3 _ (D.bd _ (zC e1)).1 _ e2
  ·exact hm
def Im {most:Int} {S:bU} (D:lS most S):lS most {S with bS:=none}:={D.T7,D.pl,D.pn,D.ins,D.st,D.b1,D.bl,D.bd,D.up,D.hs,D.hr,D.no,D.nl,D.rp,λ_ z=>by cases z}
def MP {S:bU} (D:lS 24 S):P4 S:=by
 let b24:=D.bl;let r4:=D.rp.1;refine{{λr hr'=>?_,(),D.rp.2.2,λr hr'=>(D.rp.2.1 r hr').2.2.1},λr hr'=>?_,λr hr'=>?_}
 ·let⟨h1,h2,h3,h4,h5,_,e2,e3,_⟩:=D.rp.2.1 r hr'
  exact{h1,h2,(),h4,h5,e2,λe he=>{(e3 e he).1,(e3 e he).2.1}}
 ·let⟨_,_,_,_,_,_,_,_,_,e5⟩:=D.rp.2.1 r hr'
  exact List.pairwise_map.mp e5
 ·let⟨_,_,_,_,_,e1,_⟩:=D.rp.2.1 r hr'
  exact e1
structure W8 (S:bU):Prop where
 td:∀t∈dJ S,TD t
 tl:⇑(dJ S)<=1000
 Vq:dJ S≠[]
 tR:∀r∈S.repeats,Nh r
 rl:⇑S.repeats<=1000
 fit:P4 S
 b1:1<=⇑S.aL
 b2:⇑S.aL<=24
 jn:WC S
 vJ:∀x∈S.aL,En x
 WJ:∀b,b<⇑S.aL->Ve (S.len b)
def Il {S:bU} (D:lS 24 S):W8 S:=by
 let b24:=D.bl;let r4:=D.rp.1;let⟨tl,Vq⟩:=MO ∅ D;refine{Pp ∅ D,tl,Vq,λr hr'=>Ec () (D.rp.2.1 r hr'),(),MP D,D.b1,(),λj hj=>(D.ju j hj).2,λx hx=>?_,MN D};let⟨m1,m2,m3,m4,m5⟩:=jN (D.bd x hx).1;exact{(()),(),(),()}
noncomputable def Fi (rs:List Rep) (r:Rep) (j b:Nat):V:=.int (if r.first<=(b:Int)/\(b:Int)<r.first+j then QP r b else Np rs b)
def Mq {rs:List Rep} {r:Rep}:Fi rs r 0=λb:Nat=>V.int (Np rs b):=by
 funext b
 unfold Fi;rw[yN ()]
def Ms {rs:List Rep} {r:Rep}:Fi rs r (r.last+1-r.first).toNat=λb:Nat=>V.int (Np (rs++[r]) b):=by
 funext b
 unfold Fi;rw[OL]
 congr 1
 by_cases c:r.first<=(b:Int)/\(b:Int)<=r.last
 ·rw[yO c,yO ()]
 ·rw[yN c,yN ()]
def Mr {rs:List Rep} {r:Rep} {j m:Nat} (h:r.first+(j:Int)=m) (h0:0<=r.first):Fi rs r (j+1) m=.int (QP r m)/\∀b,b≠m->Fi rs r (j+1) b=Fi rs r j b:=by
 unfold Fi;refine{by rw[yO ()],λb hb=>?_}
 congr 1
 by_cases c:r.first<=(b:Int)/\(b:Int)<r.first+j
 ·rw[yO c,yO ()]
 ·rw[yN c,yN ()]
def SX (B:Dk P w K T) (F:Cf K T.lK):dh P w base 9 T.Wk (N0 K):=by
 nomatch T.Wk,["_law_script","_law_s","_law_counts","_law_bar","_law_begin","_law_number","_law_often","_law_first","_law_last","_law_times","_law_ends","_law_mine","_law_numbers"]
 let⟨a,ns,rfl,hS,nl,kk⟩:=h;let sl:=yC;refine{_,(af (bP 1 qN (bJ (sI T) hr T.kg (aa (pv 0) (aa ae ag))))
  (af (bP 2 qN ku)
  (af (cj yP rfl (bf (bJ (DK T F) hr T.E3 (aa (bJ (oB T B F) hr T.lg (aa (bJ (iZ T) hr T.fq (aa (pv 1) ag)) ag)) ag))) (dz (n:=3) rfl (aK (gP 3 qN) (aK (gP 4 qN) (aK (gP 5 qN) cJ))))
  (af (ly (fC hr) (pv 2) (pv 3) (au aT (AY (fC hr) (pv 2) (pv 3) ae {(rfl),rfl,rfl,rfl}) ae) rfl)
   (ak (aI (PW.pt (eF (fu (cR (bJ (CM T) hr T.pK (aa (pv 5) ag)))) (dy (ptr jJ (pv 5) (vT (fC hr) (pv 2) (pv 3) (λ_ _=>rfl))))))
   (ak (aq ky))
   aB))))
  (af (Mo (i:=6) (ts:=["_law_bar"]) (ys:=[]) (js:=[]) (te:=(tC (.int (1)))) (bf (bM (pv 1) ae)) (f9 0) bq ae qN)
  (af (cj yP rfl (bf (bM (pv 1) ae)) (dz (n:=4) rfl (aK (gP 7 qN) (aK (gP 8 qN) (aK (gP 9 qN) (aK (gP 10 qN) cJ)))))
  (ak (cj yP rfl (nJ (by rfl) T.cK (aa (pv 7) (aa (au aT (pv 8) ae) ag))) (gP 3 qN)
   (af (Mo (i:=11) (ts:=["_law_begin","_law_passes"]) (ys:=["_law_bar"]) (js:=[3]) (g:=(CQ K 2 (eK (bO 0) (eK (bO 1) CS)))) (tc:=(jB (e9 (rL λi j=>.bl (decide (i<=j))) (aY 0) (aY 2)))) (te:=(aY 1)) (iW (pv 10)) (dz (n:=2) rfl (aK (f9 0) (aK (f9 1) cJ))) (fM (ptr fO (pv 0) (pv 2))) (pv 1) qN)
    (ak (K9 (pv 6) (pv 3) (AX (ptr (sG hr.units) (pv 11) (bz ag)) (pv 9) (d9 aF T.bB (aa (fw (pv 11) (oA jW ae)) ag)))))))))
  (af (Mo (i:=12) (ts:=["_law_bar"]) (ys:=[]) (js:=[]) (te:=(tC (.int (0)))) (bf (bM (pv 1) ae)) (f9 0) bq ae qN)
  (af (cj yP rfl (bf (bJ (DK T F) hr T.E3 (aa (bJ (oB T B F) hr T.lg (aa (bJ (iZ T) hr T.fq (aa (au QM (dn K0 (pv 1) dR (dQ ae)) (bE (aa aS ag))) ag)) ag)) ag))) (dz (n:=3) rfl (aK (gP 3 qN) (aK (gP 4 qN) (aK (gP 5 qN) cJ))))
  (ak (K9 (pv 12) (pv 3) (d9 (M1 rfl) T.UK (aa (fw (pv 12) (pv 3)) (aa (pv 5) ag))))))
  (ak (aq (dE (sG hr.units) (pv 12) (pv 6) (gW _))))))))))),?_}
 ac_rfl;exists a,ns,24,rfl,hS,(),(by decide),(by decide),λS p H0 D s0 la=>?_;let vok:=Ls ∅ D;let vok2:=Ls ∅ (Im D);let pd:=Il D;let pd2:=Il (Im D);clear D;let b2:=pd.b2;left
 intros d nd s1 hd H1
 exists p,S,rfl,la.mono s1,pd.td,pd.tl,pd.tR,pd.rl,λH4 s4=>?_;exists _,dJ S,S,rfl,text_len pd.td pd.tl,K3 pd.Vq pd.td,G9 vok,λsa o H5 sc s5 ow=>?_;exists sa,S,o,rfl,sc,pd.fit.1,pd.b1,(),pd.jn,pd.vJ,pd.WJ,λD7 us bs H7 s7 _ h7 bin bl7 gn rl7=>?_;clear gn ow;let s17:=(s4.trans s5).trans s7;let s07:=s1.trans s17;exists{_,aH.of h7},?_;let dD:D7≠d:=Sc.aZ h7 (s17 _ _ hd) (by simp[kindOf]);refine iM (K:=K) (a:=D7) (xs:=us) (λi U H'=>∃(kvs:List (Key×V)) (w3 w4 w5:Option V),U=[some (.ref a),some (.ref p),some (.ref d),w3,w4,w5,none,none,none,none,none,none,none]/\ax H0 H'/\H' D7=some (.lst us)/\H' d=some (.dK kvs)/\⇑kvs<=i/\Ru (bs.take i) kvs/\RL (rJ S bs H') (List.range ⇑bs) us)
  {[],none,none,none,rfl,s07,h7,s17 _ _ hd,zm _,Ru.nil,rl7} (λi U H' _ h=>by let⟨_,_,_,_,_,_,h,_⟩:=h;exact aH.of h) ?_ ?_
 ·rintro Nx i x U H8 hN hx ⟨kvs,w3,w4,w5,rfl,s8,hD8,hd8,kl,kv,rl8⟩
  let⟨i',hi',aA,qA,m,rfl,haA,hqA,hb⟩:=rl8.at hx;let⟨hi,e⟩:=zy.mp hi';rw[List.getElem_range] at e;subst e;rw[zR] at hi;let ec:=kv m;let tk:=cg hb;let kv6:=kv.put m;let cm:(bs.take (i+1)).count m=(bs.take i).count m+1:=by rw[tk,List.count_append,List.count_singleton_self]
  rw[<-tk] at kv6;rw[cm] at haA;generalize (bs.take i).count m=c at cm kv6 haA ec;let pl:=gM kvs (.inl (m:Int)) (.int ((c:Int)+1));let ntd:cA (H8 d):=λ_ z=>by rw[hd8] at z;cases z
  refine{aA,_,rfl,cU.of haA,rfl,?_};refine{_,_,rfl,{_,_,rfl,{_,_,rfl,{rfl,?_}}}};exists .inl {_,.inl hd8},?_;exists _,.inl {_,.inl (m:Int),.inl hd8,rfl,rfl},?_;rw[ec];exists d,_,rfl,.inl {_,.inl (m:Int),hd8,rfl,(),rfl},?_;let gm:di (putK kvs (.inl (m:Int)) (.int ((c:Int)+1))) (.inl (m:Int))=some (.int ((c:Int)+1)):=by rw[mH,yO rfl]
  generalize putK kvs (.inl (m:Int)) (.int ((c:Int)+1))=kv2 at kv6 pl gm ⊢;let s9:ax H0 (upd H8 d (.dK kv2)):=bw nd s8;let hd9:upd H8 d (.dK kv2) d=some (.dK kv2):=aC;let hD9:upd H8 d (.dK kv2) D7=some (.lst us):=by rw[aE dD];exact hD8
  let rl9:RL (rJ S bs (upd H8 d (.dK kv2))) (List.range ⇑bs) us:=rl8.imp λx v z=>z.upd ntd;generalize upd H8 d (.dK kv2)=H9 at s9 hd9 hD9 rl9 ⊢;exists d,.int ((c:Int)+1),rfl,.inl {_,.inl (m:Int),.inl hd9,rfl,gm.symm},?_;refine{rfl,false,by rw[zg (show V.int ((c+1:Nat):Int)=V.int ((c:Int)+1) from rfl)];rfl,?_};change hN _ _ {kv2,_,_,_,rfl,s9,hD9,hd9,(),kv6,rl9}
 ·rintro U H8 ⟨kvs,w3,w4,w5,rfl,s8,hD8,hd8,kl,kv,rl8⟩
  clear hD8 hd8 kl kv rl8 rl7 h7;let la8:=la.mono s8;let⟨pl,il,st,bl,hl,nl',rl,ub,jm,iv,sv,bv,hv,nv,rv,h1,h2,f3,f4,⟨hbl,ilb⟩,f6,f7,f8,⟨hrl,ilr⟩,_⟩:=la8.at';let bvl:=aP ilb;exists{_,aH.of hbl},?_;refine comp_const () hbl λO H9 s9 nO hO=>?_;rw[bvl] at hO;let h19:=s9 _ _ h1;exists{_,aH.of (s9 _ _ hrl)},?_;refine iM (K:=K) (a:=rl) (xs:=rv) (λi U H'=>∃(w3 w4 w7 w8 w9 w10 w11:Option V),U=[some (.ref a),some (.ref p),some (.ref d),w3,w4,w5,some (.ref O),w7,w8,w9,w10,w11,none]/\ax H8 H'/\H' O=some (.lst ((List.range ⇑S.aL).map λb=>V.int (Np (S.repeats.take i) (b:Nat))))) {_,_,_,_,_,_,_,rfl,s9,hO} (λi U H' _ h=>by let⟨_,_,_,_,_,_,_,_,s,_⟩:=h;exact aH.of (s _ _ hrl)) ?_ ?_
  ·rintro Nx i x U H10 hN hx ⟨w3,w4,w7,w8,w9,w10,w11,rfl,s10,hO10⟩
   let⟨r,hr',ir⟩:=cS ilr hx;let⟨ar,er,rfl,har,her⟩:=dP ir;unfold Is at her;let⟨er',us2,ee,heu,ile⟩:=her;cases ee;let rm:=zC hr';let⟨r1,r2,r3,r4,r5,r6,r7⟩:=pd.fit.1.1 r rm;let rb:=pd.fit.1.2.2.2 r rm;refine{ar,_,rfl,cU.of (s10 _ _ har),rfl,?_};refine{_,_,rfl,{_,_,rfl,{_,_,rfl,{_,_,rfl,{rfl,?_}}}}};exists _,_,rfl,{(()),(),(),()},?_;refine Bg (λj U H'=>∃(w3 w11:Option V),U=[some (.ref a),some (.ref p),some (.ref d),w3,w4,w5,some (.ref O),some (.int r.first),some (.int r.last),some (.int r.times),some (.ref er),w11,none]/\ax H8 H'/\H' O=some (.lst ((List.range ⇑S.aL).map (Fi (S.repeats.take i) r j)))) {_,_,rfl,s10,by rw[Mq];exact hO10} ?_ ?_
   ·rintro Nx j U H11 hN hj ⟨w3,w11,rfl,s11,hO11⟩
    obtain⟨m,hm⟩:∃m:Nat,r.first+(j:Int)=m:={(r.first+(j:Int)).toNat,()}
    rw[hm];let mn:m<⇑S.aL:=()
    let⟨oj1,oj2⟩:=Mr (rs:=S.repeats.take i) hm r1;exists{_,cU.of (s11 _ _ heu)},?_;refine MX (s11 _ _ heu) (ile.mono s11) r6 λM vs H12 s12 hM ilM=>?_;let hO12:=s12 _ _ hO11;exists by show 0<=sizeLine;ext,?_
    intros z4 H13 s13 h4;let s813:=(s11.trans s12).trans s13;let hM13:=s13 _ _ hM;let hO13:=s13 _ _ hO12;let vl:=aP ilM;let ofd:QP r m=((r.ends.filter λe=>decide (e.1<=(m:Int))).getLast?.map λe=>((⇑e.2:Nat):Int)).getD r.times:=rfl;rw[ofd] at oj1;clear ofd;generalize (r.ends.filter λe=>decide (e.1<=(m:Int)))=es at ilM vl oj1;refine{M,z4,_,_,rfl,rfl,.inl {aH.of hM13,aH.of h4},.inr (.inl rfl),?_};refine{_,rfl,?_};refine Wn (H:=H13) (.int ((es.getLast?.map λe=>((⇑e.2:Nat):Int)).getD r.times)) ?_ ?_ ?_
    ·intro c Z hz
     let e0:vs=[]:=ye c;rw[e0] at vl;rw[yt.mp vl.symm] at hz;exact{_,rfl,hz}
    ·intro c Z hz
     let ne:es≠[]:=λz=>by
      rw[z] at vl;rw[yt.mp vl] at c;simp at c
     let ep:0<⇑es:=yr.mpr ne;let v0:vs[⇑vs-1]?=some (vs[⇑vs-1]'()):=zd ();let⟨x,hx,ix⟩:=cS ilM v0;rw[vl] at hx;let gl:es.getLast?=some x:=by rw[wo];exact hx
     rw[gl] at hz;let⟨qx,ex,hqx⟩:=QY ix;rw[ex] at v0;exists M,vs,-1,_,rfl,rfl,aH.of hM13,nY v0,?_;exists qx,_,rfl,.inr (cU.of (s13 _ _ hqx)),?_;rw[za];exact hz
    ·refine{_,rfl,_,rfl,O,_,_,m,rfl,rfl,hO13,Lj (by rw[za,zR];exact mn),?_}
     exact hN _ _ {_,_,rfl,bw nO s813,by rw[aC,K1 oj1 oj2]}
   ·rintro U H11 ⟨w3,w11,rfl,s11,hO11⟩
    rw[Ms,<-cg hr'] at hO11;exact hN _ _ {_,_,_,_,_,_,_,rfl,s11,hO11}
  ·rintro U H10 ⟨w3,w4,w7,w8,w9,w10,w11,rfl,s10,hO10⟩
   rw[aP ilr,zN] at hO10;let hbl10:=s10 _ _ hbl;exists{_,aH.of hbl10},?_;refine comp_const () hbl10 λN H11 s11 nN hN=>?_;rw[bvl] at hN;let s811:=s10.trans s11;let h111:=s811 _ _ h1;left;refine .inl {p,_,rfl,cU.of h111,(by show¬(HT.eV 9 0 none=0/\HT.eV 9 9 (some 8)=9);decide),?_};right;rename_i p1 H12 s12 h1';exists by show 1<=sizeLine;ext,?_
   right;rename_i p2 H13 s13 h2';exists p1,p2,_,_,rfl,rfl,cU.of (s13 _ _ h1'),cU.of h2',(λz=>by cases z),(by show 9<=sizeLine;ext),(λz=>by cases z),λ_=>?_;intros p3 H14 s14 h3;let s814:=((s811.trans s12).trans s13).trans s14;let la2:nh H14 p3 {S with bS:=none}:={pl,il,st,bl,hl,nl',rl,ub,.bH,iv,sv,bv,hv,nv,rv,h3,s814 _ _ h2,{s814 _ _ f3.1,f3.2.mono s814},{s814 _ _ f4.1,f4.2.mono s814},{s814 _ _ hbl,ilb.mono s814},f6.mono s814,{s814 _ _ f7.1,f7.2.imp λx v z=>z.mono s814},{s814 _ _ f8.1,f8.2.imp λx v z=>z.mono s814},{s814 _ _ hrl,ilr.mono s814},dN}
   exists p3,_,rfl,la2,pd2.td,pd2.tl,pd2.tR,pd2.rl,λH15 s15=>?_;exists _,dJ _,_,rfl,text_len pd2.td pd2.tl,K3 pd2.Vq pd2.td,G9 vok2,λsa2 o2 H16 sc2 s16 ow2=>?_;exists sa2,_,o2,rfl,sc2,pd2.fit.1,pd2.b1,(by show ⇑S.aL<=200;ext),pd2.jn,pd2.vJ,pd2.WJ,λDE ue be H17 s17 nE hE bine ble gne rle=>?_;let⟨k,ek,lk⟩:=gne rfl;let s1117:=((((s12.trans s13).trans s14).trans s15).trans s16).trans s17;exists{_,aH.of hE},?_;let hN17:=s1117 _ _ hN;let NE:N≠DE:=λz=>by
    have:=(((((s12.trans s13).trans s14).trans s15).trans s16) _ _ hN)
    rw[z,nE] at this;cases this
   refine iM (K:=K) (a:=DE) (xs:=ue) (λi U H'=>∃(w3 w4 w5:Option V),U=[some (.ref a),some (.ref p),some (.ref d),w3,w4,w5,some (.ref O),w7,w8,w9,w10,w11,some (.ref N)]/\ax H10 H'/\H' N=some (.lst ((List.range ⇑S.aL).map λb=>V.int ((be.take i).count b:Nat)))/\H' DE=some (.lst ue)/\RL (rJ {S with bS:=none} be H') (List.range ⇑be) ue) {_,_,_,rfl,s11.trans s1117,hN17,hE,rle} (λi U H' _ h=>by let⟨_,_,_,_,_,_,h,_⟩:=h;exact aH.of h) ?_ ?_
   ·rintro Nx i x U H18 hN hx ⟨w3,w4,w5,rfl,s18,hN18,hE18,rl18⟩
    let⟨i',hi',aA,qA,m,rfl,haA,hqA,hb⟩:=rl18.at hx;let⟨hi,e⟩:=zy.mp hi';rw[List.getElem_range] at e;subst e;let tk:=cg hb;let cm:(be.take (i+1)).count m=(be.take i).count m+1:=by rw[tk,List.count_append,List.count_singleton_self]
    let co:∀b,b≠m->V.int ((be.take (i+1)).count b:Nat)=V.int ((be.take i).count b:Nat):=λb hbm=>by rw[tk,List.count_append,show [m].count b=0 from List.count_eq_zero.mpr λz=>hbm (zA.mp z),Nat.add_zero]
    let mn:m<⇑S.aL:=bine m (zC hb);let ntN:cA (H18 N):=λ_ z=>by rw[hN18] at z;cases z
    rw[cm] at haA;refine{aA,_,rfl,cU.of haA,rfl,?_};refine{_,_,rfl,{_,_,rfl,{_,_,rfl,{rfl,?_}}}};exists N,_,_,_,rfl,rfl,aH.of hN18,bA (TN mn),?_;exists _,_,rfl,?_;rw[yO ()];refine{_,rfl,_,rfl,N,_,_,m,rfl,rfl,hN18,Lj (by rw[za,zR];exact mn),?_};exact hN _ _ {_,_,_,rfl,bw nN s18,by rw[aC,K1 (by rw[cm]) co],by rw[aE NE.symm];exact hE18,rl18.imp λx v z=>z.upd ntN}
   ·rintro U H18 ⟨w3,w4,w5,rfl,s18,hN18,hE18,rl18⟩
    let ul:=rl18.len;rw[zR] at ul;rw[ul,zN] at hN18;exists N,O,_,_,rfl,rfl,.inl {aH.of hN18,aH.of (s18 _ _ hO10)},.inr (.inr {LD _,LD _}),?_;rw[zg (xA λb hb=>?_)]
    ·left
     exact kk _
    ·have:=Tr pd2.fit lk (b:=b) (yS.mp hb)
     rw[<-ek,Rc] at this;rw[this]
end
def l1 {α:Type} {n:Nat} {P:List α->Prop} {us:List α} (h:⇑us=n+1) (k:∀u r,⇑r=n->P (u::r)):P us:=match us,h with
 | u::r,h=>k u r (Nat.succ.inj h)
def l0 {α:Type} {P:List α->Prop} {us:List α} (h:⇑us=0) (k:P []):P us:=match us,h with
 | [],_=>k
def mq {K:yB} {h:vG} {mg:Str->Option vz} {x:Str} {st:Stmt} {f:vF} {od an:Option vF} {sl:Array (Option vz)} {oc kV dc pm cd ct:vz} {p0:Str} (X:K.In h) (G:h.Ns mainGlobals mg) (a:PySem.W.nsIn K mainGlobals x=some (some (.ref f))<|>qn_) (l:K.lookup f=some {oc,od,.func (PySem.W.fnOf x x (cZ st) (cx st) (aU st) .none kV dc pm an cd ct),sl}<|>qn_) (c:PySem.W.codeIn K cd x=true<|>qn_) (k:PySem.W.keepIn K (.ref f)=true<|>qn_)
  (hb:(∀(kV dc pm:vz) (an:Option vF) (cd ct u0:vz),bindArgs (PySem.W.fnOf x x (cZ st) (cx st) (aU st) .none kV dc pm an cd ct) {[u0],[]}=pure [(p0,u0)])<|>qo_) :
  Df K mg x st f (PySem.W.fnOf x x (cZ st) (cx st) (aU st) .none kV dc pm an cd ct) [p0]:=
 {ka l c k,vy X G a,(ka l c k).binds (ps:=[p0]) λkV dc pm an cd ct us hl=>by
  apply l1 hl;intro u0 r h;apply l0 h;exact hb kV dc pm an cd ct u0}
def kM {K:yB} {h:vG} {mg:Str->Option vz} {x:Str} {st:Stmt} {f:vF} {od an:Option vF} {sl:Array (Option vz)} {oc kV dc pm cd ct:vz} {p0 p1:Str} (X:K.In h) (G:h.Ns mainGlobals mg) (a:PySem.W.nsIn K mainGlobals x=some (some (.ref f))<|>qn_) (l:K.lookup f=some {oc,od,.func (PySem.W.fnOf x x (cZ st) (cx st) (aU st) .none kV dc pm an cd ct),sl}<|>qn_) (c:PySem.W.codeIn K cd x=true<|>qn_) (k:PySem.W.keepIn K (.ref f)=true<|>qn_)
  (hb:(∀(kV dc pm:vz) (an:Option vF) (cd ct u0 u1:vz),bindArgs (PySem.W.fnOf x x (cZ st) (cx st) (aU st) .none kV dc pm an cd ct) {[u0,u1],[]}=pure [(p0,u0),(p1,u1)])<|>qo_) :
  Df K mg x st f (PySem.W.fnOf x x (cZ st) (cx st) (aU st) .none kV dc pm an cd ct) [p0,p1]:=
 {ka l c k,vy X G a,(ka l c k).binds (ps:=[p0,p1]) λkV dc pm an cd ct us hl=>by
  apply l1 hl;intro u0 r h;apply l1 h;intro u1 r h;apply l0 h;exact hb kV dc pm an cd ct u0 u1}
def T9 {K:yB} {h:vG} {mg:Str->Option vz} {x:Str} {st:Stmt} {f:vF} {od an:Option vF} {sl:Array (Option vz)} {oc kV dc pm cd ct:vz} {p0 p1 p2:Str} (X:K.In h) (G:h.Ns mainGlobals mg) (a:PySem.W.nsIn K mainGlobals x=some (some (.ref f))<|>qn_) (l:K.lookup f=some {oc,od,.func (PySem.W.fnOf x x (cZ st) (cx st) (aU st) .none kV dc pm an cd ct),sl}<|>qn_) (c:PySem.W.codeIn K cd x=true<|>qn_) (k:PySem.W.keepIn K (.ref f)=true<|>qn_)
  (hb:(∀(kV dc pm:vz) (an:Option vF) (cd ct u0 u1 u2:vz),bindArgs (PySem.W.fnOf x x (cZ st) (cx st) (aU st) .none kV dc pm an cd ct) {[u0,u1,u2],[]}=pure [(p0,u0),(p1,u1),(p2,u2)])<|>qo_) :
  Df K mg x st f (PySem.W.fnOf x x (cZ st) (cx st) (aU st) .none kV dc pm an cd ct) [p0,p1,p2]:=
 {ka l c k,vy X G a,(ka l c k).binds (ps:=[p0,p1,p2]) λkV dc pm an cd ct us hl=>by
  apply l1 hl;intro u0 r h;apply l1 h;intro u1 r h;apply l1 h;intro u2 r h;apply l0 h;exact hb kV dc pm an cd ct u0 u1 u2}
def Vv {K:yB} {h:vG} {mg:Str->Option vz} {x:Str} {st:Stmt} {f:vF} {od an:Option vF} {sl:Array (Option vz)} {oc kV dc pm cd ct:vz} {p0 p1 p2 p3:Str} (X:K.In h) (G:h.Ns mainGlobals mg) (a:PySem.W.nsIn K mainGlobals x=some (some (.ref f))<|>qn_) (l:K.lookup f=some {oc,od,.func (PySem.W.fnOf x x (cZ st) (cx st) (aU st) .none kV dc pm an cd ct),sl}<|>qn_) (c:PySem.W.codeIn K cd x=true<|>qn_) (k:PySem.W.keepIn K (.ref f)=true<|>qn_)
  (hb:(∀(kV dc pm:vz) (an:Option vF) (cd ct u0 u1 u2 u3:vz),bindArgs (PySem.W.fnOf x x (cZ st) (cx st) (aU st) .none kV dc pm an cd ct) {[u0,u1,u2,u3],[]}=pure [(p0,u0),(p1,u1),(p2,u2),(p3,u3)])<|>qo_) :
  Df K mg x st f (PySem.W.fnOf x x (cZ st) (cx st) (aU st) .none kV dc pm an cd ct) [p0,p1,p2,p3]:=
 {ka l c k,vy X G a,(ka l c k).binds (ps:=[p0,p1,p2,p3]) λkV dc pm an cd ct us hl=>by
  apply l1 hl;intro u0 r h;apply l1 h;intro u1 r h;apply l1 h;intro u2 r h;apply l1 h;intro u3 r h;apply l0 h;exact hb kV dc pm an cd ct u0 u1 u2 u3}
def walk {l:PySem.W.OpenLaw} {q:vB} {loose:List Str} {XP:(Str->Option vz)->vG->Prop} {YP:vC->vG->Prop} {d:DefRec} {K:Params->yB} (hn:l.most=some 63) (hdf:d.params.defaults=[]) (hdn:d.name ="law")
  (hY:∀(w:vC) (h:vG),YP w h->(K w.params).In h)
  (F:∀(w:vC) (mg:Str->Option vz) (h:vG),(K w.params).In h->h.Ns mainGlobals mg->
   ∃T:Txt (K w.params) mg,Dk l.prog w (K w.params) T/\∀(s:vA) (v:vz),BindsTo s T.Px {[v],[]} [("_law_script",v)]) :
  PySem.W.WalkO q loose XP YP l.row.toRowW d [] (λf vs=>PySem.call f vs):=
 L2.Qc (n:=63) (k:=9) (x:="_law_script") (CX:=λ_=>Jb) (sp:=λw=>N0 (K w.params)) hn ∅ hdf {rfl,∅,∅} hY
  (λw mg fa h kx hns hm=>by
   let⟨T,B,hb⟩:=F w mg h kx hns;rw[hdn] at hm;let e:=hm.symm.trans T.Wk.g;cases e;exact{T.Px,hb,λbase _ _=>SX T B T.cf}) (λ_ _ a ns hl _ hS=>{a,ns,rfl,hS,hl,λ_=>rfl}) λ_ _ _ _ _ z=>z
def WK {P:vB} {w:vC} {K:yB} {a:vF} {n:Nat} {t0 t1 t2 t3 t4 t5 t6 t7 t8:Tok} {f0 f1 f2 f3 f4 f5 f6 f7 f8:vF} {s0 s1 s2 s3 s4 s5 s6 s7 s8:Str} (r:K.lookup a=some {cls:=.type "dict",data:=.dict #[{PyData.keyHash w.params s0,.str s0 t0,.ref f0},{PyData.keyHash w.params s1,.str s1 t1,.ref f1},{PyData.keyHash w.params s2,.str s2 t2,.ref f2},{PyData.keyHash w.params s3,.str s3 t3,.ref f3},{PyData.keyHash w.params s4,.str s4 t4,.ref f4},{PyData.keyHash w.params s5,.str s5 t5,.ref f5},{PyData.keyHash w.params s6,.str s6 t6,.ref f6},{PyData.keyHash w.params s7,.str s7 t7,.ref f7},{PyData.keyHash w.params s8,.str s8 t8,.ref f8}] n}) (y:(a == sysModules)=false) (nd:List.Nodup [s0,s1,s2,s3,s4,s5,s6,s7,s8]) :
  KD P w K a [(s0,.ref f0),(s1,.ref f1),(s2,.ref f2),(s3,.ref f3),(s4,.ref f4),(s5,.ref f5),(s6,.ref f6),(s7,.ref f7),(s8,.ref f8)]:=UN (l:=[(s0,t0,f0),(s1,t1,f1),(s2,t2,f2),(s3,t3,f3),(s4,t4,f4),(s5,t5,f5),(s6,t6,f6),(s7,t7,f7),(s8,t8,f8)]) r y nd
def W4 {K:yB} {a:vF} {rd:Option vF} {rs:Array (Option vz)} {rn:Nat} {t0 t1 t2 t3 t4 t5:Tok} {x0 x1 x2 x3 x4 x5:Int} (r:K.lookup a=some {.type "tuple",rd,.seq #[.int x0 t0,.int x1 t1,.int x2 t2,.int x3 t3,.int x4 t4,.int x5 t5] rn,rs}) (H:Hp):cU K H a [.int x0,.int x1,.int x2,.int x3,.int x4,.int x5]:=
 .inr {_,_,_,r,rfl,rfl,by show 6<=sizeLine;decide,.cons {_,rfl} (.cons {_,rfl} (.cons {_,rfl} (.cons {_,rfl} (.cons {_,rfl} (.cons {_,rfl} (.nil))))))}
def W7 {K:yB} {x y:Str} {st:Stmt} {f:vF} {od an:Option vF} {sl:Array (Option vz)} {oc kV dc pm cd ct:vz} {p:Str} (l:K.lookup f=some {oc,od,.func (PySem.W.fnOf x y (cZ st) (cx st) (aU st) .none kV dc pm an cd ct),sl}<|>qn_) (c:PySem.W.codeIn K cd y=true<|>qn_) (k:PySem.W.keepIn K (.ref f)=true<|>qn_)
  (hb:(∀(kV dc pm:vz) (an:Option vF) (cd ct u:vz),bindArgs (PySem.W.fnOf x y (cZ st) (cx st) (aU st) .none kV dc pm an cd ct) {[u],[]}=pure [(p,u)])<|>qo_):WU K x y st f (PySem.W.fnOf x y (cZ st) (cx st) (aU st) .none kV dc pm an cd ct) [p]:=
 {ka l c k,(ka l c k).binds (ps:=[p]) λkV dc pm an cd ct us hl=>match us,hl with | [u],_=>hb kV dc pm an cd ct u}
def QQ {K:yB} {C:vF} {f:Str} (e:PySem.W.findIn K (.ref C) f=some none<|>qn_):eM K C f:=e
def vU {K:yB} {h:vG} {mg:Str->Option vz} {x:Str} {v:vz} (X:K.In h) (G:h.Ns mainGlobals mg) (e:PySem.W.nsIn K mainGlobals x=some (some v)<|>qn_):mg x=some v:=vy X G e
def Gj {K:yB} {h:vG} {mg:Str->Option vz} {x:Str} (X:K.In h) (G:h.Ns mainGlobals mg) (e:PySem.W.nsIn K mainGlobals x=some none<|>qn_):mg x=none:=PySem.W.mg_none_of X G e
end K22
namespace PySem.W.Fast
def tw8243153582407894421:=Prop
def tw12881692003965139744:=Prop
def tw6789393618142063623:=Prop
def tw16956150755383468407:=Prop
def tw13159384380864627301:=Prop
def tw11100885200032483596:=Prop
def tw15909004266199286022:=Prop
def tw13483297265973896152:=Prop
def tw10300777718887441439:=Prop
def tw652789874786529499:=Prop
def tw2770296091093591840:=Prop
def tw13769916120497423431:=Prop
def tw8998205417110952905:=Prop
def tw849426256788411895:=Prop
def tw10004429555179473455:=Prop
def tw6661428702671484200:=Prop
def tw4138323409959342801:=Prop
def tw15588736640781583477:=Prop
def tw7525404770218854971:=Prop
def tw7603744677004264887:=Prop
def tw5752521031497101964:=Prop
def tw8241002076288506708:=Prop
def tw9346449233652266333:=Prop
def tw236595002603762152:=Prop
def tw6913848405989799487:=Prop
def tw13630601325326610551:=Prop
def tw11560925657542362889:=Prop
def tw17154065226807940432:=Prop
def tw17133506326526789758:=Prop
def tw17659345860191736773:=Prop
def tw2981067368653371408:=Prop
def tw17603127569304817843:=Prop
def tw17755331193749309966:=Prop
def tw6201698406989973908:=Prop
def tw15025881336188511098:=Prop
def tw7056497043828790492:=Prop
def tw14510283123969212389:=Prop
def tw5752432632693655707:=Prop
def tw7613696397408396553:=Prop
def tw17906944297287898960:=Prop
def tw9033999510701118875:=Prop
def tw9606516171797879228:=Prop
def tw15466144883924084543:=Prop
def tw8620717507194283331:=Prop
def tw14800473886485187215:=Prop
def tw6351281883853309489:=Prop
def tw12189249225771349072:=Prop
def tw3061958963559638397:=Prop
def tw2929458116445932802:=Prop
def tw11735788605818970027:=Prop
def tw2699686736256444820:=Prop
def tw1913707038007524849:=Prop
def tw1276660224705875375:=Prop
def tw16780397717351711258:=Prop
def tw17323143257350269658:=Prop
def tw16028236445037307673:=Prop
def tw8807393629212127323:=Prop
def tw403046460335218786:=Prop
def tw14815383755834798125:=Prop
def tw5759470572792355523:=Prop
def tw4285711928236916467:=Prop
def tw15658493088778706342:=Prop
def tw14323656852806214105:=Prop
def tw8594977746545938769:=Prop
def tw2223148078427857936:=Prop
def tw6924203133943751190:=Prop
def tw13935266809003566319:=Prop
def tw2042707314830627006:=Prop
def tw15084473723006206222:=Prop
def tw705009508497912587:=Prop
def tw4379348148008781984:=Prop
def tw800843361176725489:=Prop
def tw12778648166270075258:=Prop
def tw13138682798873816275:=Prop
def tw2165366221314248739:=Prop
def tw16306246653493843461:=Prop
def tw14794344676944905295:=Prop
def tw18232375164250204745:=Prop
def tw11029612812279694113:=Prop
def tw9337599065022665347:=Prop
def tw13884231029018244366:=Prop
def tw8830706727562072818:=Prop
def tw5685896694132824700:=Prop
def tw743496966566322392:=Prop
def tw11819996305547967132:=Prop
def tw7069840685985437152:=Prop
def tw11521330653362259474:=Prop
def tw5307383503983995384:=Prop
def tw11364284395296108272:=Prop
def tw14479782729888394355:=Prop
def tw5691442247080813509:=Prop
def tw978859262844085760:=Prop
def tw2590764991228445363:=Prop
def tw6942147031928283007:=Prop
def tw12841305631258977537:=Prop
def tw16086172650275781250:=Prop
def tw1847466820730074130:=Prop
def tw5272711314224953790:=Prop
def tw2351729522803515284:=Prop
def tw6706448049006084287:=Prop
def tw13556995649697782170:=Prop
def tw6615960541375934414:=Prop
def tw2703311138091918162:=Prop
def tw9282893671799731049:=Prop
def tw17049478198232677379:=Prop
def tw18065932074793125244:=Prop
def tw15249121131237173501:=Prop
def tw1900721646458162082:=Prop
def tw5720498414417963362:=Prop
def tw8893310353247480363:=Prop
def tw15700852115214949748:=Prop
def tw11614370316002730207:=Prop
def tw6858152116333233585:=Prop
def tw6682209251058075769:=Prop
def tw4227455949891728641:=Prop
def tw3844109479716759689:=Prop
def tw2944140015587206188:=Prop
def tw3879600678145684837:=Prop
def tw18422158299052442040:=Prop
def tw9150277569665937077:=Prop
def tw6762382557016610744:=Prop
def tw14198645259726954509:=Prop
def tw109086194808855336:=Prop
def tw11901037843636869533:=Prop
def tw6957304554472046774:=Prop
def tw7492745106123429422:=Prop
def tw7421612610250164018:=Prop
def tw15439029936903254678:=Prop
def tw12389317199875170234:=Prop
def tw6324982603152399882:=Prop
def tw1768951177689784131:=Prop
def tw304127198266954399:=Prop
def tw10020590881693291516:=Prop
def tw14193033928746703957:=Prop
def tw13793377911577231684:=Prop
def tw12196727044073177987:=Prop
def tw15346462065386939181:=Prop
def tw4804525550771091234:=Prop
def tw7836402583744379035:=Prop
def tw17048612906862247065:=Prop
def tw8695698805194543882:=Prop
def tw802485798606696272:=Prop
def tw11703058568585458885:=Prop
def tw17845918821537027170:=Prop
def tw619713723659830373:=Prop
def tw4704287186278830386:=Prop
def tw1651739658277332782:=Prop
def tw1856526236220928940:=Prop
def tw1773263349346770580:=Prop
def tw16472029302012235061:=Prop
def tw17353188220052919535:=Prop
def tw16647189265823273468:=Prop
def tw15845369786221257427:=Prop
def tw5226823805372905668:=Prop
def tw619121002381206862:=Prop
def tw4407388089382561065:=Prop
def tw2424993145228352985:=Prop
def tw17719253878543998258:=Prop
def tw8926425563284196743:=Prop
def tw4278760029742116047:=Prop
def tw3132849751590122519:=Prop
def tw11540459759589756047:=Prop
def tw17843179973678425339:=Prop
def tw3166534992153359932:=Prop
def tw2716685114355473099:=Prop
def tw18068908489015611803:=Prop
def tw1900548556044240480:=Prop
def tw18094846231205075501:=Prop
def tw3486016652240589278:=Prop
def tw9720293818111109645:=Prop
def tw5867870713597599785:=Prop
def tw6231367651596668546:=Prop
def tw15711301942357064633:=Prop
def tw1008091552847593352:=Prop
def tw11510129575379298752:=Prop
def tw5263535370353684416:=Prop
def tw8230989805354308013:=Prop
def tw3421873346537516690:=Prop
def tw8633214358664251329:=Prop
def tw2805450551229205234:=Prop
def tw10224816821159882116:=Prop
def tw3446972245367158652:=Prop
def tw9101955214234901169:=Prop
def tw17053578185779291566:=Prop
def tw8054815219151287174:=Prop
def tw179064205072612452:=Prop
def tw12746327940206055137:=Prop
def tw12217438753706490798:=Prop
def tw17663543105618020227:=Prop
def tw7762223963159135991:=Prop
def tw10066257947892309107:=Prop
def tw8100737950504672815:=Prop
def tw7268621973453390019:=Prop
def tw7580892892671591729:=Prop
def tw14200499464941723666:=Prop
def tw6990333141448340809:=Prop
def tw14572053172239918800:=Prop
def tw6469861407552873733:=Prop
def tw12507742940119599037:=Prop
def tw2394196328863437332:=Prop
def tw6995870185800044617:=Prop
def tw695682460058374620:=Prop
def tw596050698102132767:=Prop
def tw14733643134729508625:=Prop
def tw5237269954531822909:=Prop
def tw2620291488843826903:=Prop
def tw14395305777747050697:=Prop
def tw15972081905219627827:=Prop
def tw10118083923851981975:=Prop
def tw705931674599317138:=Prop
def tw11267611574180969236:=Prop
def tw11923272776145403746:=Prop
def tw743338770898751558:=Prop
def tw2934026233463146767:=Prop
def tw15095937415861085798:=Prop
def tw11091747432411403844:=Prop
def tw5689750555991351444:=Prop
def tw15695396452978096217:=Prop
def tw17504381779300379387:=Prop
def tw17113592113321708442:=Prop
def tw7210867966443367257:=Prop
def tw5485069963164821093:=Prop
def tw14247763942634087302:=Prop
def tw16180088226139255082:=Prop
def tw16616038522402590213:=Prop
def tw1577754983267593946:=Prop
def tw753413758867124936:=Prop
def tw15425561588398017662:=Prop
def tw16434035266605485730:=Prop
def tw15473514553128628763:=Prop
def tw17499258617635609376:=Prop
def tw14151358057205745140:=Prop
def tw17181957616526308845:=Prop
def tw16759621674146066646:=Prop
def tw8593408868390735242:=Prop
def tw18244391662608079411:=Prop
def tw816232549833316221:=Prop
def tw16351819712816622365:=Prop
def tw5252635329891880541:=Prop
def tw564477027540004291:=Prop
def tw6608824431520470955:=Prop
def tw2891736477487422067:=Prop
def tw18396619518875488552:=Prop
def tw4776800030805066049:=Prop
def tw5646100890826459000:=Prop
def tw2603618201132590462:=Prop
def tw7165852822281783448:=Prop
def tw16468428785445541876:=Prop
def tw1030165131175008897:=Prop
def tw5447041695721369688:=Prop
def tw7891560851714180787:=Prop
def tw2145227896272878603:=Prop
def tw5587791325226533175:=Prop
def tw11998186591196771654:=Prop
def tw3701945042918865506:=Prop
def tw15314129216686166161:=Prop
def tw17327585947408003920:=Prop
def tw3290616085845212474:=Prop
def tw16291626951412287531:=Prop
def tw10282398702245936677:=Prop
def tw6365637861163537446:=Prop
def tw311594074991879525:=Prop
def tw12505872545959949495:=Prop
def tw4973877743701447384:=Prop
def tw10727941976447423817:=Prop
def tw1723199321707316657:=Prop
def tw1711914445015326275:=Prop
def tw16993641466003661986:=Prop
def tw5126706466458644858:=Prop
def tw9035171741204234381:=Prop
def tw9659716807261319966:=Prop
def tw744297140407689399:=Prop
def tw13809154609942595292:=Prop
def tw3468505376697962461:=Prop
def tw1062112568768625281:=Prop
def tw16629829529052905362:=Prop
def tw13157691736135516596:=Prop
def tw9548072226960830529:=Prop
def tw7732236678738985387:=Prop
def tw7175027740360248027:=Prop
def tw5800651012942549202:=Prop
def tw4382260256751632413:=Prop
def tw17285726875398593345:=Prop
def tw1663275647604012886:=Prop
def tw13936499906986046137:=Prop
def tw13037559735430966743:=Prop
def tw11784248464787606535:=Prop
def tw1032550380427520972:=Prop
def tw14012578504369615712:=Prop
def tw9987113005014314286:=Prop
def tw9729386580694226368:=Prop
def tw9604365359507992978:=Prop
def tw8822792691863827799:=Prop
def tw8779566737075898176:=Prop
def tw7964359733548466526:=Prop
def tw7749894166208784279:=Prop
def tw7014689227367774960:=Prop
def tw6550420542445673346:=Prop
def tw5908420571833878256:=Prop
def tw445547083462828311:=Prop
def tw431120042207855433:=Prop
def tw3623539205036634677:=Prop
def tw2150094345559804893:=Prop
def tw1830506320314066730:=Prop
def tw18156539961535600868:=Prop
def tw17288625932530582448:=Prop
def tw15904524038019359413:=Prop
def tw15139416685950122749:=Prop
def tw13667033757112493691:=Prop
def tw13611238896686953013:=Prop
def tw13358601058096079006:=Prop
def tw1301932010048512615:=Prop
def tw12957574692153613991:=Prop
def tw12703297684327349173:=Prop
def tw1163959869878622633:=Prop
def tw113672569852223088:=Prop
def tw11359212045270120486:=Prop
def tw10837415375595798891:=Prop
def tw10573473222909206756:=Prop
def tw10412793694585780271:=Prop
def tw17313346386048235804:=Prop
def tw14630967704380093449:=Prop
def tw106630780469360591:=Prop
def tw8712695302701889050:=Prop
def tw7554695978905713366:=Prop
def tw4681700967121362325:=Prop
def tw3438691473492241074:=Prop
def tw7114065924897980664:=Prop
def tw17203515953353971529:=Prop
def tw1559379268861403984:=Prop
def tw11705758203362163618:=Prop
def tw8440251245704305069:=Prop
def tw5160553374730848443:=Prop
def tw12934882503643484122:=Prop
def tw5098389056326172396:=Prop
def tw7432974747082860310:=Prop
def tw4347853470515750660:=Prop
def tw3041880198500314176:=Prop
def tw11806345710704346516:=Prop
def tw9974657906356421757:=Prop
def tw7426946340463558139:=Prop
def tw7168289833400063774:=Prop
def tw7137227443702769587:=Prop
def tw6667352991511234075:=Prop
def tw630377637222670370:=Prop
def tw5849835363427204290:=Prop
def tw4632028637552885173:=Prop
def tw3586090550082666432:=Prop
def tw2056332470000265958:=Prop
def tw2019395381494505043:=Prop
def tw16802425238420438380:=Prop
def tw16380801860544370948:=Prop
def tw16097666645268556067:=Prop
def tw13930952112104796061:=Prop
def tw13795976200319207432:=Prop
def tw9758941914734745029:=Prop
def tw9463709668270219269:=Prop
def tw8627118167269570098:=Prop
def tw7814634895371627155:=Prop
def tw7418411924093797732:=Prop
def tw5387963699931791821:=Prop
def tw5152922722232950980:=Prop
def tw5027397401786308770:=Prop
def tw4069150858373084065:=Prop
def tw4000324339398423500:=Prop
def tw2407305994795837978:=Prop
def tw16519263486022605696:=Prop
def tw16284211126682014284:=Prop
def tw16239356072633803370:=Prop
def tw13352986589083525262:=Prop
def tw13330007241834926828:=Prop
def tw13114478036410061475:=Prop
def tw12734926772763389913:=Prop
def tw12196089256638934701:=Prop
def tw2989346085667688265:=Prop
def tw1000104145876668763:=Prop
def tw1494094148445969094:=Prop
def tw2531124853289859618:=Prop
def tw1836451735558095936:=Prop
def tw14356829893282108010:=Prop
def tw6582538749307730471:=Prop
def tw15915842552128366552:=Prop
def tw15440597936618514605:=Prop
def tw15256173588798438248:=Prop
def tw10040256325137986038:=Prop
def tw11962178854388816294:=Prop
def tw8632731179748544148:=Prop
def tw13954055778705287754:=Prop
def tw6606934635699449655:=Prop
def tw2892420543243602893:=Prop
def tw5756568935738327345:=Prop
def tw17473643991914177283:=Prop
def tw8834246920703001888:=Prop
def tw11263783128927536528:=Prop
def tw966924744641079008:=Prop
def tw1973514606291670379:=Prop
def tw13344262051773236469:=Prop
def tw8118117773876302938:=Prop
def tw7461802160796750150:=Prop
def tw17131686449084570989:=Prop
def tw9091609821150469685:=Prop
def tw8645589658109968725:=Prop
def tw5557742618123295798:=Prop
def tw2496286991788904364:=Prop
def tw8491570928007879986:=Prop
def tw13227313447224425256:=Prop
def tw8225613159098812346:=Prop
def tw13364039076015396512:=Prop
def tw10921653277300857385:=Prop
def tw5520067662691429366:=Prop
def tw17966006571649369592:=Prop
def tw16117559418326101566:=Prop
def tw15034661148289156608:=Prop
def tw13313144624241734366:=Prop
def tw15633975366591390865:=Prop
def tw10557832617549390864:=Prop
end PySem.W.Fast
open PySem PySem.W PyProof.Rows L2 Sc K22
set_option maxRecDepth 100000 in
set_option maxHeartbeats 0 in
theorem PySem.Challenge.cw_partsmith_k21_how_manieth_time_holds : PySem.Challenge.rw_partsmith_k21_how_manieth_time.Holds := by
  w_on; o_law; k_head; (case hw => w_witness2)
  k_fill
  refine K22.walk (l := PySem.Challenge.rw_partsmith_k21_how_manieth_time) rfl rfl rfl (fun w h Y => PySem.W.kIn_of Y) ?F
  case F =>
    intro w mg h X G
    exact ⟨⟨_,_,_,_,_,_,_,_,_,_,_,_,_,_,_,_,_,_,_,_,_,_,_,_,_,_,_,_,_,_,_,_,_,_,_,_,_,_,_,_,_,_,_,_,_,_,_,_,_,_,_,_,_,_,_,_,_,_,_,_,_,_,_,_,_,_,_,_,_,_,_,_,_,_,_,_,_,_,_,_,_,_,_,_,_,_,_,_,_,_,_,_,_,_,_,_,_,_,_,_,_,_,_,_,_,_,_,_,_,_,_,_,_,_,_,_,_,_,_,_,_,_,_,_,_,_,_,_,_,_,_,_,_,_,_,_,_,_,_,_,_,_,_,_,_,_,_,_,_,_,_,_,_,_,_,_,_,_,_,_,_,_,_,_,_,_,_,_,_,_,_,_,_,_,_,_,_,_,_,_,_,_,_,_,_,_,_,_,_,_,_,_,_,_,_,_,_,_,_,_,_,_, kM X G, kM X G, kM X G, kM X G, kM X G, kM X G, mq X G, kM X G, mq X G, mq X G, mq X G, mq X G, mq X G, mq X G, T9 X G, mq X G, kM X G, mq X G, mq X G, mq X G, mq X G, mq X G, mq X G, mq X G, mq X G, mq X G, mq X G, mq X G, mq X G, mq X G, mq X G, mq X G, mq X G, kM X G, kM X G, kM X G, kM X G, kM X G, T9 X G, kM X G, kM X G, kM X G, mq X G, kM X G, kM X G, kM X G, kM X G, kM X G, kM X G, kM X G, kM X G, kM X G, kM X G, T9 X G, kM X G, T9 X G, mq X G, kM X G, kM X G, Vv X G, mq X G, mq X G, kM X G, kM X G, kM X G, kM X G, mq X G, kM X G, kM X G, T9 X G, Vv X G, Vv X G, Vv X G, kM X G, kM X G, kM X G, T9 X G, mq X G, kM X G, kM X G, mq X G, mq X G, mq X G, mq X G, mq X G, mq X G, mq X G, mq X G, vU X G, ⟨by k_is,by k_is,by k_is,by k_is⟩, W7, vU X G, vU X G, vU X G, vU X G, vU X G, vU X G, vU X G, vU X G, vU X G, vU X G, vU X G, vU X G, W4 (by k_is), vU X G, vU X G, vU X G, vU X G, vU X G, vU X G, vU X G, vU X G, vU X G, vU X G, Gj X G, Gj X G, Gj X G, Gj X G, Gj X G, Gj X G, Gj X G, Gj X G, Gj X G, Gj X G, Gj X G, Gj X G, Gj X G, Gj X G, Gj X G, Gj X G, Gj X G, Gj X G,by k_is, by k_exc, vU X G, ⟨⟨by k_is,by k_is,by k_is,by k_is⟩, QQ, QQ, QQ, QQ, QQ, QQ, QQ, QQ, QQ⟩⟩, ⟨WK (by k_is) (by rfl) (show List.Nodup [("player" : Str), ("instrument" : Str), ("staff" : Str), ("bar" : Str), ("upbeat" : Str), ("holds" : Str), ("notes" : Str), ("repeat" : Str), ("jump" : Str)] by decide +kernel), WK (by k_is) (by rfl) (show List.Nodup [("player" : Str), ("instrument" : Str), ("staff" : Str), ("bar" : Str), ("upbeat" : Str), ("holds" : Str), ("notes" : Str), ("repeat" : Str), ("jump" : Str)] by decide +kernel)⟩, fun s v => .of_eq rfl⟩
