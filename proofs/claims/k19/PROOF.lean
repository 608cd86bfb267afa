import PyProof.Rows.All
import KE.KNestM
import Wide.FinOn
import PyProof.EqAt
import PyProof.EqKinds
import PyProof.TupleCall
import PyProof.ZipIter
import PyProof.WalksMore
import PyProof.CompFree
import PyProof.NeKinds
import KE.KRevIter
import PyProof.Rows.Range3
import KE.KIntText
import OpenK.KOwn
import PyProof.NsDelKeeps
import KE.KIsAll
import PyProof.CompMap
import PyProof.Cells
import PyProof.ConsumeWalk
import PyProof.SumWalk
import PyProof.Rows.SortShell
import PyProof.MeetsStr
import PyProof.StrOps2
import PyProof.DictWalks
import PyProof.Rows.SetFrom
import PyProof.SetRoads
import PyProof.ListRange
import PyProof.ListNew
import PySem.Challenge.RW_partsmith_k19_played_with_a_jump
local macro_rules|`(tactic|omega)=>`(tactic|lia)
local macro_rules|`(tactic|ext)=>`(tactic|omega)
local macro_rules|`(())=>`(by omega)
local macro_rules|`(∅)=>`(by decide)
local macro_rules|`(↑$s)=>`(($s).heap.objs.size)
local macro_rules|`($a <|> $b)=>`(autoParam $a $b)
local macro_rules (kind:=«term{_}»)|`({$xs,*})=>`(⟨$xs,*⟩)
local macro_rules|`(⇑$x)=>`(($x).length)
def tpt:Nat->Lean.Term->Lean.MacroM (Lean.TSyntax `rcasesPat)
|0,_=>Lean.Macro.throwUnsupported
|n+1,p=>match p with
 |`(⟨$ps,*⟩)=>do let qs<-ps.getElems.mapM (tpt n);`(rcasesPat|⟨$[$qs],*⟩)
 |`($i:ident)=>`(rcasesPat|$i:ident)
 |_=>`(rcasesPat|_)
local macro_rules|`(tactic|let $d:letDecl)=>`(tactic|have $d:letDecl)
local macro_rules|`(tactic|let $p:term:=$v:term)=>do let q<-tpt 9 p;`(tactic|obtain $q:rcasesPat:=$v)
set_option compiler.extract_closed false
set_option Elab.async false
set_option linter.all false
set_option maxRecDepth 100000
set_option maxHeartbeats 8000000
def qa_1(h:True:=by first | exact .inl rfl | exact .inr rfl | assumption):=h
def qa_:=qa_1._auto_1
def qb_1(h:True:=by decide):=h
def qb_:=qb_1._auto_1
def qc_1(h:True:=by first | exact IM _ (by decide) (by decide) | rfl):=h
def qc_:=qc_1._auto_1
def qd_1(h:True:=by intro _;rfl):=h
def qd_:=qd_1._auto_1
def qe_1(h:True:=by rfl):=h
def qe_:=qe_1._auto_1
def qf_1(h:True:=by with_unfolding_all rfl):=h
def qf_:=qf_1._auto_1
def qg_1(h:True:=by first | exact Or.inl rfl | exact Or.inr (Or.inl rfl) | exact Or.inr (Or.inr rfl)):=h
def qg_:=qg_1._auto_1
def qh_1(h:True:=by repeat constructor):=h
def qh_:=qh_1._auto_1
def qi_1(h:True:=by first | exact Or.inl rfl | exact Or.inr rfl):=h
def qi_:=qi_1._auto_1
def qj_1(h:True:=by exact fun _ _=>rfl):=h
def qj_:=qj_1._auto_1
def qk_1(h:True:=by intro vs H Q E h;first | (obtain⟨_,rfl,_⟩:=h;rfl) | (cases h;subst_vars;rfl)):=h
def qk_:=qk_1._auto_1
def ql_1(h:True:=by decide +kernel):=h
def ql_:=ql_1._auto_1
def qm_1(h:True:=by repeat' (first | exact trivial | exact .inl rfl | exact rfl | constructor)):=h
def qm_:=qm_1._auto_1
def qn_1(h:True:=by k_is):=h
def qn_:=qn_1._auto_1
def qo_1(h:True:=by intros;rfl):=h
def qo_:=qo_1._auto_1
def za:=@List.length_map
def zd:=@List.getElem?_eq_getElem
def ze:=@decide_eq_false
def zg:=@decide_eq_true
def zh:=@List.length_append
def zj:=@List.map_cons
def zk:=@List.map_append
def zm:=@Nat.le_refl
def zp:=@List.mem_cons_of_mem
def zr:=@List.mem_cons_self
def zt:=@Int.emod_lt_of_pos
def zv:=@List.length_cons
def zw:=@Int.emod_nonneg
def zy:=@List.getElem?_eq_some_iff
def zA:=@List.mem_singleton
def zB:=@List.map_map
def zC:=@List.mem_of_getElem?
def zD:=@List.mem_cons
def zE:=@List.not_mem_nil
def zF:=@List.append_assoc
def zG:=@List.mem_append
def zH:=@List.mem_map
def zI:=@List.mem_append_right
def zJ:=@List.mem_append_left
def zK:=@List.getElem?_map
def zL:=@Bool.false_ne_true
def zM:=@Nat.le_trans
def zN:=@List.take_length
def zO:=@Bool.and_eq_true
def zP:=@List.mem_map_of_mem
def zQ:=@List.length_take
def zR:=@List.length_range
def zT:=@List.nodup_append
def zU:=@List.pairwise_append
def zV:=@List.append_nil
def zW:=@Int.ediv_nonneg
def zX:=@Int.ediv_le_self
def zY:=@List.foldl_append
def zZ:=@List.take_append_drop
def z9:=@List.getElem?_append_right
def ya:=@List.flatten_cons
def yb:=@List.size_toArray
def yc:=@Nat.lt_of_lt_of_le
def yd:=@List.nodup_cons
def ye:=@of_decide_eq_true
def yf:=@Nat.lt_irrefl
def yg:=@Nat.zero_le
def yh:=@Nat.le_of_lt
def yi:=@Nat.ne_of_gt
def yj:=@Nat.ne_of_lt
def yk:=@Option.some.inj
def ym:=@List.getElem_mem
def yn:=@List.map_nil
def yo:=@List.any_eq_true
def yp:=@List.all_eq_true
def yq:=@List.lookup_cons
def yr:=@List.length_pos_iff
def yt:=@List.length_eq_zero_iff
def yu:=@PySem.wpAny_bind
def yv:=@PySem.Heap.get?_push_of_some
def yw:=@PySem.wpAny_pure
def yx:=@PySem.Heap.get?_push_size
def yy:=@PySem.Heap.lt_size
def yz:=@PySem.Heap.get?_update_other
def yA:=@PySem.Heap.get?_update_self
abbrev yB:=PySem.W.Frag
def yC:=@PySem.sizeLine_eq
def yD:=@PySem.F.plainAttrs_list
def yE:=@PySem.F.type_list_append
def yF:=@PySem.F.slot_list_append
def yG:=@PySem.F.plainAttrs_str
def yH:=@PySem.F.type_str_join
def yI:=@PySem.F.slot_str_join
def yJ:=@PySem.F.type_str_split
def yK:=@PySem.F.slot_str_split
def yL:=@Int.eq_ofNat_of_zero_le
def yM:=@PyProof.Rows.callWith_type1
def yN:=@if_neg
def yO:=@if_pos
def yP:=@PySem.PassesOwn.never
def yQ:=@Array.length_toList
def yR:=@Int.le_refl
def yS:=@List.mem_range
def yT:=@List.find?_cons
def yU:=@Bool.false_and
def yV:=@or_false
def yW:=@Bool.true_and
def yX:=@List.zip_cons_cons
def yY:=@List.filter_append
def yZ:=@PySem.wpAny_callSpecial?_slot
def y6:=@congrArg
def y7:=@PySem.wpAny_field
def y8:=@PySem.F.type_list_extend
def y9:=@PySem.F.slot_list_extend
def xa:=@Int.le_of_lt
def xb:=@PySem.wpAny_call_entry
def xc:=@List.pairwise_cons
def xf:=@PySem.wpAny_newObj_type
def xg:=@PySem.wpAny_mono
def xh:=@List.flatten_append
def xi:=@PySem.wpAny_truthy_bool
def xj:=@List.length_filter_le
def xk:=@Array.getElem?_toList
def xm:=@PySem.Heap.size_push
def xn:=@PySem.W.kia_one
def xo:=@Option.map_some
def xq:=@List.length_nil
def xt:=@PySem.wpAny_Call_Name_kw
def xu:=@List.any_cons
def xw:=@PySem.wpAny_seqItems
def xx:=@List.take_add_one
def xy:=@List.take_of_length_le
def xA:=@List.map_congr_left
def xB:=@Int.mul_pos
def xC:=@List.length_zip
def xD:=@List.length_drop
def xE:=@Int.mul_comm
def xF:=@decide_eq_true_eq
def xG:=@beq_eq_false_iff_ne
def xH:=@Nat.lt_trans
def xI:=@Nat.lt_or_ge
def xJ:=@PySem.wpAny_holding
def xK:=@List.filter_cons
def xM:=@PySem.wpAny_setField_rec
def xN:=@PySem.F.slot_zip_next
def xO:=@Bool.eq_iff_iff
def xP:=@Option.some.injEq
def xQ:=@PyProof.Rows.slot_tuple_getitem
def xR:=@Nat.lt_succ_self
def xS:=@PyProof.Rows.part_short
def xT:=@PySem.wpAny_typeNameOfWhole_keyiter
def xU:=@PySem.codeAny_mono
def xV:=@List.find?_eq_none
def xW:=@PySem.wpAny_passesOwn
def xX:=@PySem.codeAny_builtin
def xY:=@List.dropLast_concat_getLast
def xZ:=@PySem.F.slot_dict_keyiterator_next
def x6:=@PySem.Paired.length
def x8:=@Int.toNat_natCast
def x9:=@Nat.le_succ
def wa:=@List.nodup_nil
def wc:=@Int.mul_nonneg
def wd:=@Int.mul_le_mul
def wg:=@PySem.F.slot_tuple_iterator_next
def wj:=@List.all_map
def wk:=@beq_self_eq_true
def wm:=@List.mem_flatten
def wo:=@List.getLast?_eq_getElem?
def wq:=@List.getElem?_append_left
def wt:=@PySem.mem_of_lookup
def wu:=@if_false
def wx:=@PySem.wpAny_typeNameOf_keyiter
def wy:=@PySem.wpAny_execs_nil
def wz:=@List.of_mem_zip
def wA:=@List.mem_filter
def wB:=@PySem.call_meets
def wC:=@PySem.tupleKind_room_in1
def wD:=@List.lookup_append
def wF:=@PySem.Calls.spliced_cons
def wG:=@Bool.false_eq_true
def wH:=@List.any_map
def wI:=@Nat.mul_le_mul
def wJ:=@List.take_zero
def wK:=@Bool.and_false
def wL:=@PySem.wpAny_pyIter_list
def wM:=@Nat.lt_succ_of_lt
def wN:=@Int.mul_left_comm
def wO:=@PySem.Calls.callWith_builtin
def wQ:=@List.getElem?_eq_none
def wR:=@PySem.typeIs_str
def wU:=@List.cons_append
def wV:=@Int.mul_le_mul_of_nonneg_right
def wW:=@PySem.wpAny_attempt
def wX:=@List.sum_cons
def wY:=@List.all_cons
def wZ:=@Int.mul_assoc
def w6:=@Sum.inr.inj
def w8:=@List.mem_of_getLast?
def w9:=@PySem.Around.under_plainId
def vb:=@PySem.W.hideAll_get
def vc:=@List.take_succ_cons
def vd:=@List.filterMap_cons
def ve:=@PySem.Heap.SameBut.update
def vf:=@PySem.F.plain_extend_loop
def vg:=@if_true
def vh:=@PySem.wpAny_typeOf
def vi:=@beq_iff_eq
def vj:=@Nat.mod_lt
def vk:=@PySem.W.callWith_K
def vm:=@PySem.Obj.data_mapFields
def vn:=@List.mem_filterMap
def vo:=@Int.fdiv_eq_ediv_of_nonneg
def vq:=@List.mem_of_find?_eq_some
def vt:=@List.any_eq_false
def vv:=@PySem.F.args_zip_next_1
def vw:=@PySem.Calls.spliced_nil
def vx:=@PySem.W.mg_of
abbrev vy:=PySem.Value
abbrev vz:=PySem.Shared
abbrev vA:=PySem.Program
abbrev vB:=PySem.World
abbrev vC:=PySem.Around
abbrev vD:=PySem.FuncData
abbrev vE:=PySem.Addr
abbrev vF:=PySem.Heap
namespace L2
open PySem PySem.Spec PyProof.Rows
abbrev Key:=Sum Int Str
noncomputable def Eu:Key->vy->Bool
 | .inl k,v=>Value.isInt k v
 | .inr x,v=>Value.isStrOf x v
noncomputable def WR (w:vB):Key->Int
 | .inl k=>hashInt k
 | .inr x=>hashStr w x
def di:∀{k:Key} {v:vy},Eu k v=true->(∃i t,k=Sum.inl i/\v=Value.int i t)\/(∃x t,k=Sum.inr x/\v=Value.str x t)
 | .inl i,v,h=>by
  let⟨t,e⟩:=Value.isInt_shape (k:=i) (v:=v) h;exact .inl {(i),t,rfl,e}
 | .inr x,v,h=>by
  let⟨t,e⟩:=Value.isStrOf_shape (x:=x) (v:=v) h;exact .inr {(x),t,rfl,e}
def Nb (i:Int) (t:Tok):Eu (.inl i) (.int i t)=true:=by simp[Eu,Value.isInt]
def oG (x:Str) (t:Tok):Eu (.inr x) (.str x t)=true:=by simp[Eu,Value.isStrOf]
def T6 (a b:Int):decide ((Sum.inl a:Key)=Sum.inl b)=(a == b):=by
 by_cases e:a=b
 ·subst e;simp
 ·let h:¬(Sum.inl a:Key)=Sum.inl b:=λq=>e (Sum.inl.inj q)
  rw[ze h];exact(xG.mpr e).symm
def T3 (a b:Str):decide ((Sum.inr a:Key)=Sum.inr b)=decide (a=b):=by
 by_cases e:a=b
 ·subst e;simp
 ·let h:¬(Sum.inr a:Key)=Sum.inr b:=λq=>e (w6 q)
  rw[ze h,ze e]
def T5 (a:Int) (b:Str):decide ((Sum.inl a:Key)=Sum.inr b)=false:=ze (λq=>nomatch q)
def T4 (a:Str) (b:Int):decide ((Sum.inr a:Key)=Sum.inl b)=false:=ze (λq=>nomatch q)
noncomputable def dg (prog:vA) (w:vB):PySem.KeyKind prog w Key where
 is:=Eu
 hash:=WR w
 inj:=λv a b ha hb=>by
  rcases di ha with⟨i,t,rfl,rfl⟩ | ⟨x,t,rfl,rfl⟩
  ·rcases di hb with⟨j,u,rfl,e⟩ | ⟨y,u,rfl,e⟩
   ·injection e with e1 _;rw[e1]
   ·exact nomatch e
  ·rcases di hb with⟨j,u,rfl,e⟩ | ⟨y,u,rfl,e⟩
   ·exact nomatch e
   ·injection e with e1 _;rw[e1]
 byValue:=λk v h=>by
  rcases di h with⟨i,t,rfl,rfl⟩ | ⟨x,t,rfl,rfl⟩ <;> rfl
 pyHash:=λhv h=>by
  rcases di hv with⟨i,t,rfl,rfl⟩ | ⟨x,t,rfl,rfl⟩
  ·exact wpAny_pyHash_int h
  ·exact wpAny_pyHash_str h
 eqBool:=λhu hv h=>by
  rcases di hu with⟨i,t,rfl,rfl⟩ | ⟨x,t,rfl,rfl⟩
  ·rcases di hv with⟨j,u,rfl,rfl⟩ | ⟨y,u,rfl,rfl⟩
   ·rw[T6] at h;exact wpAny_eqBool_int h
   ·rw[T5] at h;exact SeqAt.EqAt.int_str i t y u _ _ _ _ h
  ·rcases di hv with⟨j,u,rfl,rfl⟩ | ⟨y,u,rfl,rfl⟩
   ·rw[T4] at h;exact SeqAt.EqAt.str_int x t j u _ _ _ _ h
   ·rw[T3] at h;exact wpAny_eqBool_str h
 «strs»:=λk x t v h=>by
  rcases di h with⟨i,u,rfl,e⟩ | ⟨y,u,rfl,e⟩
  ·exact nomatch e
  ·injection e with e1 _
   subst e1;cases v <;> rfl
def IQ (prog:vA) (w:vB) (i:Int) (t:Tok):(dg prog w).is (.inl i) (.int i t)=true:=Nb i t
def uB (prog:vA) (w:vB) (x:Str) (t:Tok):(dg prog w).is (.inr x) (.str x t)=true:=oG x t
end L2
namespace L2
open PySem PySem.Spec PyProof.Rows
inductive V where
 | bP | bl (b:Bool) | int (i:Int) | str (x:Str) | Mj (b:Array UInt8) | RI (b:UInt64) | ref (a:vE) | ty (n:String)
 deriving DecidableEq
def RelV:V->vy->Prop
 | .bP,u=>u=Value.none
 | .bl b,u=>u=Value.bool b
 | .int i,u=>∃t,u=Value.int i t
 | .str x,u=>∃t,u=Value.str x t
 | .Mj b,u=>∃t,u=Value.bytes b t
 | .RI b,u=>∃t,u=Value.float b t
 | .ref a,u=>u=Value.ref a
 | .ty n,u=>u=Value.type n
abbrev Vals:List V->List vy->Prop:=Paired RelV
theorem Vals.length (r:Vals xs us):⇑xs=⇑us:=x6 r
theorem Vals.get:∀{xs:List V} {us:List vy} {i:Nat} {x:V},Vals xs us->xs[i]?=some x->∃u,us[i]?=some u/\RelV x u
 | _,_,_,_,.nil,e=>by simp at e
 | _,_,0,_,.cons r _,e=>by simp at e;subst e;exact{_,rfl,r}
 | _,_,i+1,x,.cons _ t,e=>by
  let⟨u,h1,h2⟩:=Vals.get (i:=i) (x:=x) t (by simpa using e);exact{u,by simpa using h1,h2}
theorem Vals.append:∀{xs ys:List V} {us ws:List vy},Vals xs us->Vals ys ws->Vals (xs++ys) (us++ws)
 | _,_,_,_,.nil,s=>s
 | _,_,_,_,.cons r t,s=>.cons r (Vals.append t s)
theorem Vals.take:∀{xs:List V} {us:List vy} (n:Nat),Vals xs us->Vals (xs.take n) (us.take n)
 | _,_,0,_=>.nil
 | _,_,_+1,.nil=>.nil
 | _,_,n+1,.cons r t=>.cons r (Vals.take n t)
theorem Vals.drop:∀{xs:List V} {us:List vy} (n:Nat),Vals xs us->Vals (xs.drop n) (us.drop n)
 | _,_,0,r=>r
 | _,_,_+1,.nil=>.nil
 | _,_,n+1,.cons _ t=>Vals.drop n t
def mf:Option V->Option vy->Prop
 | some v,some u=>RelV v u
 | none,none=>True
 | _,_=>False
def KV:List (κ×V)->List (κ×vy)->Prop:=Paired λ(p:κ×V) (q:κ×vy)=>p.1=q.1/\RelV p.2 q.2
noncomputable def kV:Key->V
 | .inl i=>.int i
 | .inr x=>.str x
inductive HO where
 | lst (xs:List V)
 | tup (xs:List V)
 | dK (kvs:List (Key×V)) | dT (kvs:List (List Key×V))
 | set (S:Int->Bool) (n:Nat)
 | ins (C dx:vE) (fs:List (Str×V))
 | own (x:vE)
 | xd (fs:List (Str×V))
 | met (f x:vE)
 | MR (lo hi:Int)
 | mV (o:Obj) (u:HO)
 | Ot (ps:Array vy)
 | ext (φ:vF->Prop)
abbrev Hp:=vE->Option HO
noncomputable def upd (H:Hp) (a:vE) (o:HO):Hp:=λb=>if b=a then some o else H b
def aB:upd H a o a=some o:=by unfold upd;rw[yO rfl]
def aC (h:b≠a):upd H a o b=H b:=by unfold upd;rw[yN h]
def bq {H:Hp} {a b:vE} {o u:HO} (h:H a=some o) (h':H b=some u) (d:o≠u):a≠b:=by
 intro e;subst e;rw[h] at h';exact d (yk h')
def bA {H:Hp} {a b:vE} {o:HO} (h:H a=some o) (h':H b=none):a≠b:=by
 intro e;subst e;rw[h] at h';cases h'
section
variable (P:vA) (w:vB)
def cC (H:Hp) (h:vF) (a:vE):HO->Prop
 | .lst xs=>⇑xs<=sizeLine/\∃(its:List vy) (n:Nat),Vals xs its/\h.get? a=some {cls:=.type "list",data:=.seq its.toArray n}
 | .tup xs=>⇑xs<=sizeLine/\∃its:List vy,Vals xs its/\IsTup h a its.toArray
 | .dK kvs=>⇑kvs<=sizeLine/\(a == sysModules)=false/\∃vs,KV kvs vs/\h.DictOf (dg P w) a vs
 | .dT kvs=>⇑kvs<=sizeLine/\(a == sysModules)=false/\∃xs:List (List Key×vE×vy),
   Paired (λ(p:List Key×V) (q:List Key×vE×vy)=>p.1=q.1/\H q.2.1=some (.tup (p.1.map kV))/\RelV p.2 q.2.2) kvs xs/\
   ∃o es ep,h.get? a=some o/\o.ExactDict/\o.data=.dict es ep/\es.toList=xs.map (entryOfKey (tupleKind (dg P w)))/\(xs.map (·.1)).Nodup
 | .set S n=>h.SetOf (intKind P w) a S n
 | .ins C dx fs=>H dx=some (.own a)/\⇑fs<=1000/\dx≠a/\h.get? a=some (PySem.W.instObj C dx)/\
   ∃mA,h.Ns1 dx mA/\(∀f,mf (fs.lookup f) (mA f))/\PySem.Within mA (fs.map (·.1))
 | .own _=>∃o,h.get? a=some o
 | .xd fs=>∃mA,h.Ns1 a mA/\∀f,mf (fs.lookup f) (mA f)
 | .MR lo hi=>∃t u v,h.get? a=some {cls:=.type "range",data:=.fields #[.int lo t,.int hi u,.int 1 v]}
 | .mV o u=>h.get? a=some o/\cC H h a u
 | .Ot ps=>h.get? a=some {cls:=.none,data:=.fields ps}
 | .met f x=>h.get? a=some (PySem.W.methodObj (.ref f) (.ref x))
 | .ext φ=>φ h/\(∃o,h.get? a=some o)/\∀h1 h2:vF,φ h1->(∀o,h1.get? a=some o->h2.get? a=some o)->φ h2
def qt (H:Hp) (h:vF):Prop:=∀a o,H a=some o->cC P w H h a o
end
section
variable {P:vA} {w:vB} {H H':Hp} {h h':vF} {a:vE} {o:HO}
theorem cC.lt (x:cC P w H h a o):a<h.objs.size:=by
 cases o with
 | lst xs=>let⟨_,_,_,_,e⟩:=x;exact yy e
 | tup xs=>let⟨_,_,_,p⟩:=x;exact p.lt
 | dK kvs=>let⟨_,_,_,_,o,_,_,e,_⟩:=x;exact yy e
 | dT kvs=>let⟨_,_,_,_,o,_,_,e,_⟩:=x;exact yy e
 | set S n=>let⟨o,_,_,_,e,_⟩:=x;exact yy e
 | ins C dx fs=>let⟨_,_,_,e,_⟩:=x;exact yy e
 | own y=>let⟨_,e⟩:=x;exact yy e
 | xd fs=>let⟨_,⟨_,_,_,e,_⟩,_⟩:=x;exact yy e
 | MR lo hi=>let⟨_,_,_,e⟩:=x;exact yy e
 | mV ob u=>let⟨e,_⟩:=x;exact yy e
 | Ot ps=>exact yy (show h.get? a=some _ from x)
 | met f y=>exact yy (show h.get? a=some _ from x)
 | ext φ=>let⟨_,⟨_,e⟩,_⟩:=x;exact yy e
theorem Paired.TV:∀{l₁:List α} {l₂:List β},Paired F l₁ l₂->(∀a b,F a b->G a b)->Paired G l₁ l₂
 | _,_,.nil,_=>.nil
 | _,_,.cons r t,f=>.cons (f _ _ r) (Paired.TV t f)
def cC.lz (x:cC P w H h a o) (k:∀b u,(b=a\/H b=some (.own a))->h.get? b=some u->h'.get? b=some u)
  (ho:∀b,H b=some (.own a)->H' b=some (.own a)) (ht:∀b xs,H b=some (.tup xs)->H' b=some (.tup xs)):cC P w H' h' a o:=by
 induction o with
 | lst xs=>let⟨z,its,n,r,e⟩:=x;exact{z,its,n,r,k _ _ (.inl rfl) e}
 | tup xs=>let⟨z,its,r,ob,e,c⟩:=x;exact{z,its,r,ob,k _ _ (.inl rfl) e,c}
 | dK kvs=>let⟨z,y,vs,r,ob,es,ep,e,c⟩:=x;exact{z,y,vs,r,ob,es,ep,k _ _ (.inl rfl) e,c}
 | dT kvs=>
  let⟨z,y,xs,r,ob,es,ep,e,c⟩:=x;exact{z,y,xs,Paired.TV r λp q z=>{z.1,ht _ _ z.2.1,z.2.2},ob,es,ep,k _ _ (.inl rfl) e,c}
 | set S n=>let⟨ob,es,ep,t,e,c⟩:=x;exact{ob,es,ep,t,k _ _ (.inl rfl) e,c}
 | ins C dx fs=>
  let⟨d,z,ne,e,mA,⟨od,es,ep,e2,c⟩,r⟩:=x;exact{ho _ d,z,ne,k _ _ (.inl rfl) e,mA,{od,es,ep,k _ _ (.inr d) e2,c},r}
 | own y=>let⟨ob,e⟩:=x;exact{ob,k _ _ (.inl rfl) e}
 | xd fs=>let⟨mA,⟨od,es,ep,e,c⟩,r⟩:=x;exact{mA,{od,es,ep,k _ _ (.inl rfl) e,c},r}
 | MR lo hi=>let⟨t,u,v,e⟩:=x;exact{t,u,v,k _ _ (.inl rfl) e}
 | mV ob u ih=>let⟨e,q⟩:=x;exact{k _ _ (.inl rfl) e,ih q}
 | Ot ps=>
  let e:h.get? a=some {cls:=.none,data:=.fields ps}:=x;show h'.get? a=some {cls:=.none,data:=.fields ps};exact k a _ (.inl rfl) e
 | met f y=>
  let e:h.get? a=some (PySem.W.methodObj (.ref f) (.ref y)):=x;show h'.get? a=some (PySem.W.methodObj (.ref f) (.ref y));exact k a _ (.inl rfl) e
 | ext φ=>let⟨p,⟨o,e⟩,st⟩:=x;exact{st _ _ p λo q=>k _ _ (.inl rfl) q,{o,k _ _ (.inl rfl) e},st}
theorem qt.lt (x:qt P w H h) (e:H a=some o):a<h.objs.size:=(x a o e).lt
def qt.fresh (x:qt P w H h) (e:h.objs.size<=a):H a=none:=by
 cases q:H a with
 | none=>rfl
 | some u=>exact absurd (yc (x.lt q) e) (yf _)
def qt.kept (x:qt P w H h) (k:∀b u,h.get? b=some u->h'.get? b=some u):qt P w H h':=λa o e=>
 (x a o e).lz (λb u _ q=>k b u q) (λ_ q=>q) λ_ _ q=>q
def qt.laid (x:qt P w H h) (k:∀b u,h.get? b=some u->h'.get? b=some u) (hp:h.objs.size<=a) (new:cC P w (upd H a o) h' a o):qt P w (upd H a o) h':=λb u e=>by
 let hn:=x.fresh hp
 by_cases hb:b=a
 ·subst hb;rw[aB] at e;cases e;exact new
 ·rw[aC hb] at e
  exact(x b u e).lz (λc v _ q=>k c v q) (λc q=>by rw[aC (bA q hn)];exact q) λc xs q=>by rw[aC (bA q hn)];exact q
end
def Rd (H:Hp) (a:vE) (u:HO):Prop:=H a=some u\/∃o,H a=some (.mV o u)
def Rd.ok (r:Rd H a u) (x:qt P w H h):cC P w H h a u:=by
 rcases r with r | ⟨o,r⟩
 ·exact x a u r
 ·let⟨_,q⟩:=x a _ r
  exact q
def VI:Option HO->Prop
 | some (.lst _)=>True
 | some (.dK _)=>True
 | some (.dT _)=>True
 | some (.set _ _)=>True
 | some (.ins _ _ _)=>True
 | some (.ext _)=>True
 | _=>False
section
variable {P:vA} {w:vB} {H:Hp} {h h':vF} {x e:vE} {o':HO}
def qt.write (ok:qt P w H h) (mu:VI (H x)) (he:e=x\/H e=some (.own x)) (k:∀b u,b≠e->h.get? b=some u->h'.get? b=some u) (heo:∃u,h'.get? e=some u)
  (new:cC P w (upd H x o') h' x o'):qt P w (upd H x o') h':=λb u q=>by
 let nown:∀c y,H c=some (.own y)->c≠x:=λc y r z=>by subst z;rw[r] at mu;exact mu
 let ntup:∀c xs,H c=some (.tup xs)->c≠x:=λc xs r z=>by subst z;rw[r] at mu;exact mu
 by_cases hb:b=x
 ·subst hb;rw[aB] at q;cases q;exact new
 ·rw[aC hb] at q
  by_cases hbe:b=e
  ·let q':H b=some (.own x):=by
    rcases he with z | z
    ·exact absurd (hbe.trans z) hb
    ·rw[hbe];exact z
   rw[q] at q';cases q';let⟨v,hv⟩:=heo;exact{v,by rw[hbe];exact hv}
  ·refine(ok b u q).lz (λc v hc r=>k c v ?_ r) (λc r=>by rw[aC (nown c b r)];exact r) λc xs r=>by rw[aC (ntup c xs r)];exact r
   rcases hc with rfl | hc
   ·exact hbe
   ·rintro rfl
    rcases he with z | z
    ·exact nown c b hc z
    ·rw[hc] at z;cases z;exact hb rfl
end
structure Un (fs ex:List vE) (H H':Hp) (h h':vF):Prop where
 keep:∀b o,h.get? b=some o->H b=none->b∉fs->b∉ex->h'.get? b=some o
 slot:∀b o,h.get? b=some o->H b=none->b∈fs->b∉ex->∃sl,h'.get? b=some {o with slots:=sl}
 free:∀b o,h.get? b=some o->H b=none->b∉ex->H' b=none
 there:∀b o,h.get? b=some o->b∉ex->∃o',h'.get? b=some o'
 oO:∀b xs,H b=some (.tup xs)->H' b=some (.tup xs)
 mU:∀b o u,H b=some (.mV o u)->H' b=some (.mV o u)
 oP:∀b ps,H b=some (.Ot ps)->∃more,H' b=some (.Ot (ps++more))
section
variable {fs fs' ex ex':List vE} {H H1 H2:Hp} {h h1 h2 h':vF} {a x e:vE} {o:HO}
def Un.any (u:Un fs ex H H1 h h1) (q:h.get? b=some ob) (n:H b=none) (hx:b∉ex):∃sl,h1.get? b=some {ob with slots:=sl}:=by
 by_cases hb:b∈fs
 ·exact u.slot b ob q n hb hx
 ·exact{ob.slots,u.keep b ob q n hb hx}
def Un.kept (k:∀b u,h.get? b=some u->h'.get? b=some u):Un fs ex H H h h':=
 {λb ob q _ _ _=>k b ob q,λb ob q _ _ _=>{ob.slots,k b ob q},λ_ _ _ n _=>n,λb ob q _=>{ob,k b ob q},λ_ _ q=>q,λ_ _ _ q=>q,λ_ ps q=>{#[],by rw[q];simp}}
def Un.refl:Un fs ex H H h h:=Un.kept λ_ _ q=>q
def Un.laid (k:∀b u,h.get? b=some u->h'.get? b=some u) (hp:h.objs.size<=a) (hn:H a=none):Un fs ex H (upd H a o) h h' where
 keep:=λb u q _ _ _=>k b u q
 slot:=λb u q _ _ _=>{u.slots,k b u q}
 free:=λb u q n _=>by rw[aC (yj (yc (yy q) hp))];exact n
 there:=λb u q _=>{u,k b u q}
 oO:=λb xs q=>by rw[aC (bA q hn)];exact q
 mU:=λb u xs q=>by rw[aC (bA q hn)];exact q
 oP:=λb ps q=>{#[],by rw[aC (bA q hn),q];simp}
def Un.write (mu:VI (H x)) (he:e=x\/H e=some (.own x)) (k:∀b u,b≠e->h.get? b=some u->h'.get? b=some u) (heo:∃u,h'.get? e=some u):Un fs ex H (upd H x o) h h':=by
 let hx:∀b,H b=none->b≠x:=λb n z=>by subst z;rw[n] at mu;exact mu
 let hb:∀b,H b=none->b≠e:=λb n z=>by
  subst z;rcases he with r | r
  ·exact hx b n r
  ·rw[n] at r;cases r
 let hm:∀b u,H b=some u->¬VI (some u)->b≠x:=λb u q nm z=>by subst z;rw[q] at mu;exact nm mu
 refine{λb u q n _ _=>k b u (hb b n) q,λb u q n _ _=>{u.slots,k b u (hb b n) q},λb u q n _=>by rw[aC (hx b n)];exact n,λb u q _=>?_,
  λb xs q=>by rw[aC (hm b _ q λz=>z)];exact q,λb u xs q=>by rw[aC (hm b _ q λz=>z)];exact q,λb ps q=>{#[],by rw[aC (hm b _ q λz=>z),q];simp}}
 by_cases hbe:b=e
 ·subst hbe;exact heo
 ·exact{u,k b u hbe q}
end
noncomputable def VV (h:vF) (H:Hp):List vE:=(List.range h.objs.size).filter λa=>(H a).isSome
noncomputable def F4 (h:vF) (H:Hp):vF:=PySem.W.hideAll h (VV h H)
def Ni (h:vF) (H:Hp):(F4 h H).objs.size=h.objs.size:=PySem.W.hideAll_size _ _
def PU (e:h.get? b=some o) (n:H b=none):(F4 h H).get? b=some o:=
 vb _ e λhm=>by
  let q:(H b).isSome=true:=(wA.mp hm).2;rw[n] at q;simp at q
def Rv (e:(F4 h H).get? b=some o):h.get? b=some o/\H b=none:=by
 let e':h.get? b=some o:=PySem.W.of_hideAll (VV h H) e;refine{e',?_};cases q:H b with
 | none=>rfl
 | some x=>
  let hm:b∈VV h H:=wA.mpr {yS.mpr (yy e'),by simp[q]};let z:(F4 h H).get? b=none:=PySem.W.hideAll_none (VV h H) hm;rw[z] at e;cases e
end L2
namespace L2
open PySem PySem.Spec PyProof.Rows
structure Mod (K:yB) (mg:Str->Option vy) (base:vF):Prop where
 TZ:K.In base
 glob:base.Ns mainGlobals mg
 blt:∃mb,base.Ns builtinsNs mb/\∀x:Str,x≠ "__name__"->mb x=bootBuiltins x
 nolimit:base.NoLimit
set_option genInjectivity false in
structure Cx where
 prog:vA
 w:vB
 K:yB
 mg:Str->Option vy
 base:vF
 A:vC
 N:List Str
 s₀:vz
 H₀:Hp
 env:Env
 outer:List Env
 stack:List Env
 ex:List vE
 fn:Str->Bool
 calm:Bool
 pn:List (vE×Obj)
 xe:vy->vz->Prop
noncomputable def o7 (l:List Env):List vE:=l.filterMap (·.frame)
noncomputable abbrev Cx.fs (X:Cx):List vE:=o7 X.outer
def Uv (sc:Scope) (x:Str):Prop:=sc.names.lookup x=some .local\/sc.names.lookup x=some .cell\/sc.names.lookup x=some .free
def Loc (sc:Scope) (x:Str):Prop:=sc.names.lookup x=some .local\/sc.names.lookup x=some .cell
def Look (env:Env) (h:vF) (m:Str->Option vy) (x:Str) (u:vy):Prop:=
 (env.kindOf x=some .local/\m x=some u)\/((env.kindOf x=some .cell\/env.kindOf x=some .free)/\∃c,env.cells.lookup x=some c/\h.IsCell c (some u))
structure Cx.Ok (X:Cx):Prop where
 mod:Mod X.K X.mg X.base
 kind:X.env.scope.kind=.function
 glob:X.env.globals=mainGlobals
 blt:X.env.builtins=builtinsNs
 above:X.s₀.heap.objs.size<=X.env.locals
 inj:∀x y c,X.env.cells.lookup x=some c->X.env.cells.lookup y=some c->x=y
 has:∀x,(X.env.kindOf x=some .cell\/X.env.kindOf x=some .free)->∃c,X.env.cells.lookup x=some c
 Us:∀x c,X.fn x=true->X.env.cells.lookup x=some c->X.s₀.heap.objs.size<=c
 hd:X.calm=true->X.A.handled=none
 frames:X.A.frames=some X.stack
 UE:X.stack=X.outer\/(X.stack=X.env::X.outer/\X.env.frame=some X.env.locals)
 VZ:∀b∈X.ex,b≠X.env.locals/\∀x c,X.env.cells.lookup x=some c->c≠b
 bs:∀b o,X.base.get? b=some o->X.s₀.heap.get? b=some o/\X.H₀ b=none
 N6:X.base.objs.size<=X.s₀.heap.objs.size
 vQ:∀b o,X.base.get? b=some o->b∉X.ex
 KR:∀b∈X.ex,b∉X.fs
 oU:X.s₀.heap.FunFrames X.base X.outer
 IY:∀b∈X.fs,X.H₀ b=none
structure Inv (X:Cx) (pins:List (vE×Obj)) (U:List (Option V)) (H:Hp) (s:vz):Prop where
 ok:X.Ok
 os:s.os=X.s₀.os
 bare:AllBare s.gens
 base:Un X.fs X.ex X.H₀ H X.s₀.heap s.heap
 loc:∃m,s.heap.Ns X.env.locals m/\∀(i:Nat) (x:Str) (v:V),X.N[i]?=some x->U[i]?=some (some v)->Uv X.env.scope x->∃u,RelV v u/\Look X.env s.heap m x u
 cell:∀x c,X.env.cells.lookup x=some c->∃v,s.heap.IsCell c v
 free:H X.env.locals=none
 j8:∀x c,X.env.cells.lookup x=some c->H c=none
 pin:∀p∈X.pn++pins,s.heap.get? p.1=some p.2/\H p.1=none/\p.1≠X.env.locals/\p.1∉X.fs/\∀v,p.2.data≠.cell v
 b9:qt X.prog X.w H s.heap
 len:U.length=⇑X.N
section
variable {X:Cx} {pins:List (vE×Obj)} {U:List (Option V)} {H H':Hp} {s:vz} {h':vF}
def Cx.Ok.WO (ok:X.Ok) (e:X.base.get? b=some o):b∉X.fs:=λhb=>by
 have:=(ok.oU.mem hb).1;rw[e] at this;cases this
theorem Inv.bs (I:Inv X pins U H s):∀b o,X.base.get? b=some o->s.heap.get? b=some o/\H b=none:=λb o e=>
 {I.base.keep b o (I.ok.bs b o e).1 (I.ok.bs b o e).2 (I.ok.WO e) (I.ok.vQ b o e),I.base.free b o (I.ok.bs b o e).1 (I.ok.bs b o e).2 (I.ok.vQ b o e)}
def Inv.bk (I:Inv X pins U H s):∀b o,X.base.get? b=some o->s.heap.get? b=some o:=λb o e=>(I.bs b o e).1
theorem Inv.mod (I:Inv X pins U H s):Mod X.K X.mg X.base:=I.ok.mod
def Inv.rF (I:Inv X pins U H s):X.K.In s.heap:=I.ok.mod.TZ.keeps I.bk
theorem Inv.lt (I:Inv X pins U H s):X.env.locals<↑s:=let ⟨_,hn,_⟩:=I.loc;hn.lt
def Inv.sz (I:Inv X pins U H s):X.s₀.heap.objs.size<=↑s:=zM I.ok.above (yh I.lt)
def Inv.Vf (I:Inv X pins U H s) (h:↑s<=a):a∉X.fs:=λhb=>by
 let⟨_,o,ho,_⟩:=I.ok.oU.mem hb;exact absurd (yc (yy ho) (zM I.sz h)) (yf _)
def Inv.QK (I:Inv X pins U H s):∀x c,X.env.cells.lookup x=some c->c≠X.env.locals:=λx c e z=>by
 let⟨v,o,ho,hd⟩:=I.cell x c e;let⟨m,⟨o',es,ep,ho',hd',_⟩,_⟩:=I.loc;rw[z,ho'] at ho;cases ho;rw[hd'] at hd;cases hd
theorem Inv.oU (I:Inv X pins U H s):s.heap.FunFrames X.base X.outer:=by
 let all:∀(l:List Env),(∀b∈o7 l,b∈X.fs)->X.s₀.heap.FunFrames X.base l->s.heap.FunFrames X.base l:=by
  intro l
  induction l with
  | nil=>intro _ _;trivial
  | cons env r ih=>
   intro hs hl;let⟨hk,⟨L,o,hf,hn,ho,hd⟩,hr⟩:=hl;let hL:L∈X.fs:=hs L (by unfold o7;rw[vd,hf];exact zr);let⟨sl,e⟩:=I.base.slot L o ho (I.ok.IY L hL) hL λz=>I.ok.KR L z hL;exact{hk,{L,_,hf,hn,e,hd},ih (λb hb=>hs b (by unfold o7;rw[vd,hf];exact zp _ hb)) hr}
 exact all X.outer (λ_ hb=>hb) I.ok.oU
theorem Inv.stack (I:Inv X pins U H s):s.heap.FunFrames X.base X.stack:=by
 rcases I.ok.UE with e | ⟨e,hf⟩
 ·rw[e];exact I.oU
 ·rw[e]
  let⟨m,hn,_⟩:=I.loc;refine .cons (by rw[I.ok.kind];decide) hf hn ?_ I.oU;exact Heap.get?_none_of_le (zM I.ok.N6 I.ok.above)
def Inv.E5 (I:Inv X pins U H s):∀b∈o7 X.stack,b∈X.env.locals::X.fs:=λb hb=>by
 rcases I.ok.UE with e | ⟨e,hf⟩
 ·rw[e] at hb;exact zp _ hb
 ·rw[e] at hb
  unfold o7 at hb;rw[vd,hf] at hb;exact hb
def Inv.qG (I:Inv X pins U H s):∀b∈o7 X.stack,H b=none:=λb hb=>by
 rcases zD.mp (I.E5 b hb) with e | hb
 ·rw[e];exact I.free
 ·let⟨_,o,ho,_⟩:=I.ok.oU.mem hb
  exact I.base.free b o ho (I.ok.IY b hb) λz=>I.ok.KR b z hb
def Inv.step {g':Array GenState} {t':Nat} {d':Drawn} {ch:List vE} (I:Inv X pins U H s)
  (hch:∀b∈ch,(b∈X.ex\/X.s₀.heap.objs.size<=b)/\b≠X.env.locals/\(∀x c,X.env.cells.lookup x=some c->c≠b)/\∀p∈X.pn++pins,p.1≠b)
  (keep:∀b o,b≠X.env.locals->b∉X.fs->b∉ch->s.heap.get? b=some o->H b=none->h'.get? b=some o)
  (slot:∀b o,b≠X.env.locals->b∈X.fs->b∉ch->s.heap.get? b=some o->H b=none->∃sl,h'.get? b=some {o with slots:=sl}) (free:∀b o,b∉ch->s.heap.get? b=some o->H b=none->H' b=none)
  (there:∀b o,b∉ch->s.heap.get? b=some o->∃o',h'.get? b=some o')
  (oO:∀b xs,H b=some (.tup xs)->H' b=some (.tup xs)) (mU:∀b o u,H b=some (.mV o u)->H' b=some (.mV o u)) (oP:∀b ps,H b=some (.Ot ps)->∃more,H' b=some (.Ot (ps++more)))
  (ns:∀m,s.heap.Ns X.env.locals m->h'.Ns X.env.locals m) (b9:qt X.prog X.w H' h') (hg:AllBare g') :
  Inv X pins U H' {s with heap:=h',gens:=g',drawn:=d',toks:=t'}:=by
 let neL:∀b o,X.s₀.heap.get? b=some o->b≠X.env.locals:=λb o e=>yj (yc (yy e) I.ok.above);let neC:∀b o,X.s₀.heap.get? b=some o->b∉X.ex->b∉ch:=λb o e hx hb=>by
  rcases(hch b hb).1 with z | z
  ·exact hx z
  ·exact absurd (yc (yy e) z) (yf _)
 let cellK:∀x c,X.env.cells.lookup x=some c->∀v,s.heap.IsCell c v->h'.IsCell c v:=λx c e v ⟨o,ho,hd⟩=>by
  let nch:c∉ch:=λz=>(hch c z).2.2.1 x c e rfl
  by_cases hc:c∈X.fs
  ·let⟨sl,q⟩:=slot c o (I.QK x c e) hc nch ho (I.j8 x c e)
   exact{_,q,hd}
  ·exact{o,keep c o (I.QK x c e) hc nch ho (I.j8 x c e),hd}
 refine{I.ok,I.os,hg,{λb o e n hb hx=>?_,λb o e n hb hx=>?_,λb o e n hx=>?_,λb o e hx=>?_,λb xs e=>oO b xs (I.base.oO b xs e),λb o xs e=>mU b o xs (I.base.mU b o xs e),λb ps e=>?_},?_,λx c e=>?_,?_,λx c e=>?_,λp hp=>?_,b9,I.len}
 ·exact keep b o (neL b o e) hb (neC b o e hx) (I.base.keep b o e n hb hx) (I.base.free b o e n hx)
 ·let⟨sl,e1⟩:=I.base.slot b o e n hb hx
  let⟨sl',e2⟩:=slot b _ (neL b o e) hb (neC b o e hx) e1 (I.base.free b o e n hx);exact{(sl'),e2}
 ·let⟨o',e1⟩:=I.base.there b o e hx
  exact free b o' (neC b o e hx) e1 (I.base.free b o e n hx)
 ·let⟨o',e1⟩:=I.base.there b o e hx
  exact there b o' (neC b o e hx) e1
 ·let⟨m1,e1⟩:=I.base.oP b ps e
  let⟨m2,e2⟩:=oP b _ e1;exact{m1++m2,by rw[e2,Array.append_assoc]}
 ·let⟨m,hn,hl⟩:=I.loc
  refine{m,ns m hn,λi x v e1 e2 e3=>?_};let⟨u,r,l⟩:=hl i x v e1 e2 e3;refine{u,r,?_};rcases l with l | ⟨k,c,e,z⟩
  ·exact .inl l
  ·exact .inr {k,c,e,cellK x c e _ z}
 ·let⟨v,z⟩:=I.cell x c e
  exact{v,cellK x c e v z}
 ·let⟨m,⟨o,_,_,ho,_⟩,_⟩:=I.loc
  exact free _ o (λz=>(hch _ z).2.1 rfl) ho I.free
 ·let⟨v,o,ho,hd⟩:=I.cell x c e
  exact free c o (λz=>(hch c z).2.2.1 x c e rfl) ho (I.j8 x c e)
 ·let⟨e,n,ne,nf,d⟩:=I.pin p hp
  let nch:p.1∉ch:=λz=>(hch p.1 z).2.2.2 p hp rfl;exact{keep p.1 p.2 ne nf nch e n,free p.1 p.2 nch e n,ne,nf,d}
def Inv.un {t':Nat} (I:Inv X pins U H s) (u:Un X.fs [] H H' s.heap h') (b9:qt X.prog X.w H' h'):Inv X pins U H' {s with heap:=h',toks:=t'}:=by
 let⟨m,⟨o,es,ep,ho,r⟩,_⟩:=id I.loc;let⟨sl,hL⟩:=u.any ho I.free (by simp);exact I.step (g':=s.gens) (d':=s.drawn) (ch:=[]) (λ_ z=>nomatch z) (λb o _ hb _ e n=>u.keep b o e n hb (by simp)) (λb o _ hb _ e n=>u.slot b o e n hb (by simp)) (λb o _ e n=>u.free b o e n (by simp)) (λb o _ e=>u.there b o e (by simp)) u.oO u.mU u.oP (λm' hm=>by
  let⟨o',es',ep',ho',r'⟩:=hm;rw[ho] at ho';cases ho';exact{_,es',ep',hL,r'}) b9 I.bare
def Inv.call {g':Array GenState} {t':Nat} {d':Drawn} {ch:List vE} (I:Inv X pins U H s) (u:Un (o7 X.stack) ch H H' s.heap h') (b9:qt X.prog X.w H' h') (hg:AllBare g')
  (hch:∀b∈ch,(b∈X.ex\/X.s₀.heap.objs.size<=b)/\b≠X.env.locals/\(∀x c,X.env.cells.lookup x=some c->c≠b)/\∀p∈X.pn++pins,p.1≠b) :
  Inv X pins U H' {s with heap:=h',gens:=g',drawn:=d',toks:=t'}:=by
 let⟨m,⟨o,es,ep,ho,r⟩,_⟩:=id I.loc;let⟨sl,hL⟩:=u.any ho I.free λz=>(hch _ z).2.1 rfl;exact I.step (ch:=ch) hch (λb o hL hb hc e n=>u.keep b o e n (λz=>(zD.mp (I.E5 b z)).elim hL hb) hc) (λb o _ _ hc e n=>u.any e n hc) (λb o hc e n=>u.free b o e n hc) (λb o hc e=>u.there b o e hc) u.oO u.mU u.oP (λm' hm=>by
  let⟨o',es',ep',ho',r'⟩:=hm;rw[ho] at ho';cases ho';exact{_,es',ep',hL,r'}) b9 hg
def Inv.turned {t':Nat} {it:vE} (I:Inv X pins U H s) (k:∀b o,b≠it->s.heap.get? b=some o->h'.get? b=some o) (hn:H it=none) (hL:it≠X.env.locals)
  (h1:it∈X.ex\/X.s₀.heap.objs.size<=it) (h2:∀x c,X.env.cells.lookup x=some c->c≠it) (h3:∀p∈X.pn++pins,p.1≠it):Inv X pins U H {s with heap:=h',toks:=t'}:=by
 let nit:∀b u,H b=some u->b≠it:=λb u e z=>by rw[z,hn] at e;cases e
 refine I.step (g':=s.gens) (d':=s.drawn) (ch:=[it]) (λb hb=>?_) (λb o _ _ hc e _=>k b o (λz=>hc (by simp[z])) e) (λb o _ _ hc e _=>{o.slots,k b o (λz=>hc (by simp[z])) e}) (λ_ _ _ _ n=>n)
  (λb o hc e=>{o,k b o (λz=>hc (by simp[z])) e}) (λ_ _ e=>e) (λ_ _ _ e=>e) (λb ps e=>{#[],by rw[e];simp}) (λm hm=>?_) (λb u e=>?_) I.bare
 ·let e:b=it:=by simpa using hb
  subst e;exact{(h1),hL,h2,h3}
 ·let⟨o,es,ep,ho,r⟩:=hm
  exact{o,es,ep,k _ o (Ne.symm hL) ho,r}
 ·refine(I.b9 b u e).lz (λc v hc q=>k c v ?_ q) (λ_ q=>q) λ_ _ q=>q
  rcases hc with z | z
  ·rw[z];exact nit b u e
  ·exact nit c _ z
def Inv.tok (I:Inv X pins U H s) (t:Nat):Inv X pins U H {s with toks:=t}:=I.un (h':=s.heap) (t':=t) Un.refl I.b9
theorem Inv.kept (I:Inv X pins U H s) (k:∀b u,s.heap.get? b=some u->h'.get? b=some u):Inv X pins U H {s with heap:=h',toks:=t'}:=I.un (Un.kept k) (I.b9.kept k)
theorem Inv.laid (I:Inv X pins U H s) (k:∀b u,s.heap.get? b=some u->h'.get? b=some u) (hp:↑s<=a) (new:cC X.prog X.w (upd H a o) h' a o) :
  Inv X pins U (upd H a o) {s with heap:=h',toks:=t'}:=I.un (Un.laid k hp (I.b9.fresh hp)) (I.b9.laid k hp new)
theorem Inv.write (I:Inv X pins U H s) (mu:VI (H x)) (he:e=x\/H e=some (.own x)) (k:∀b u,b≠e->s.heap.get? b=some u->h'.get? b=some u) (heo:∃u,h'.get? e=some u)
  (new:cC X.prog X.w (upd H x o) h' x o):Inv X pins U (upd H x o) {s with heap:=h',toks:=t'}:=I.un (Un.write mu he k heo) (I.b9.write mu he k heo new)
def Inv.oA (I:Inv X pins U H s) (h:∀p∈pins',s.heap.get? p.1=some p.2/\H p.1=none/\p.1≠X.env.locals/\p.1∉X.fs/\∀v,p.2.data≠.cell v):Inv X pins' U H s:=
 {I.ok,I.os,I.bare,I.base,I.loc,I.cell,I.free,I.j8,λp hp=>(zG.mp hp).elim (λz=>I.pin p (zJ _ z)) (h p),I.b9,I.len}
def IK {N:List Str} (hN:N.Nodup) {i j:Nat} {x:Str} (a:N[i]?=some x) (b:N[j]?=some x):i=j:=by
 let⟨h1,e1⟩:=zy.mp a;let⟨h2,e2⟩:=zy.mp b;exact(List.getElem_inj hN).mp (e1.trans e2.symm)
def Ei {M:Model} {A:vC} {E:vy->vz->Prop} {i:Nat} {x:Str} {v:V} {u:vy} {Q:Unit->vz->Prop} (I:Inv X pins U H s) (hN:X.N.Nodup) (hi:X.N[i]?=some x) (hx:Loc X.env.scope x) (r:RelV v u)
  (h:∀s',Inv X pins (U.set i (some v)) H s'->(∃a,Heap.SameBut a s.heap s'.heap/\(a=X.env.locals\/X.env.cells.lookup x=some a))->Q .unit s') (hf:X.fn x=true\/X.env.scope.names.lookup x=some .local<|>qa_):wpAny M A (storeName X.env x u) Q E s:=by
 let⟨m,hn,hl⟩:=id I.loc;let hcls:(X.env.scope.kind == .class||(X.env.scope.kind == .module&&X.env.locals != X.env.globals))=false:=by rw[I.ok.kind];rfl
 let hiU:i<U.length:=by rw[I.len];exact(zy.mp hi).1
 let QK:=I.QK;let tracked:∀{a:vE} {h':vF},(∃o,s.heap.get? a=some o/\H a=none)->Heap.SameBut a s.heap h'->qt X.prog X.w H h':=λ{a h'} ha hs b ob e=>by
  let⟨_,_,hfree⟩:=ha;refine(I.b9 b ob e).lz (λc w' hc q=>(hs.2 c ?_).trans q) (λ_ q=>q) λ_ _ q=>q;rintro rfl;rcases hc with rfl | hc
  ·rw[hfree] at e;cases e
  ·rw[hfree] at hc;cases hc
 rcases hx with hk | hk
 ·refine wpAny_storeName_local hk hn (λh' hn' hs=>?_) hcls
  let⟨oL,_,_,hoL,_⟩:=id hn;refine h _ {I.ok,I.os,I.bare,{λb o e n hb hx=>?_,λb o e n hb hx=>?_,I.base.free,λb o e hx=>?_,I.base.oO,I.base.mU,I.base.oP},{_,hn',λj y v' e1 e2 e3=>?_},λy c e=>?_,I.free,I.j8,λp hp=>?_,tracked {(oL),hoL,I.free} hs,by simpa using I.len} {_,hs,.inl rfl}
  ·exact(hs.2 b (yj (yc (yy e) I.ok.above))).trans (I.base.keep b o e n hb hx)
  ·let⟨sl,e1⟩:=I.base.slot b o e n hb hx
   exact{sl,(hs.2 b (yj (yc (yy e) I.ok.above))).trans e1}
  ·let⟨o',e1⟩:=I.base.there b o e hx
   exact{o',(hs.2 b (yj (yc (yy e) I.ok.above))).trans e1}
  ·by_cases hj:j=i
   ·subst hj
    rw[hi] at e1;cases e1;rw[List.getElem?_set_self hiU] at e2;cases e2;exact{u,r,.inl {hk,by simp}}
   ·rw[List.getElem?_set_ne (Ne.symm hj)] at e2
    let⟨u',r',q⟩:=hl j y v' e1 e2 e3;refine{u',r',?_};rcases q with⟨k,e⟩ | ⟨k,c,e,z⟩
    ·refine .inl {k,?_}
     have:y≠x:=λe=>hj (IK hN e1 (e▸hi));simp[this,e]
    ·exact .inr {k,c,e,z.sameBut hs (QK y c e)}
  ·let⟨w',z⟩:=I.cell y c e
   exact{w',z.sameBut hs (QK y c e)}
  ·let⟨e,n,ne,nf,d⟩:=I.pin p hp
   exact{(hs.2 p.1 ne).trans e,n,ne,nf,d}
 ·let hfn:X.fn x=true:=by
   rcases hf with z | z
   ·exact z
   ·rw[z] at hk;cases hk
  let⟨c,hc⟩:=I.ok.has x (.inl hk);let⟨w',z⟩:=I.cell x c hc;refine wpAny_storeName_cell I.ok.kind hk hc z (λh' hc' hs=>?_);let⟨oc,hoc,hocd⟩:=id z;refine h {s with heap:=h'} {I.ok,I.os,I.bare,{λb o e n hb hx=>?_,λb o e n hb hx=>?_,I.base.free,λb o e hx=>?_,I.base.oO,I.base.mU,I.base.oP},{m,hn.sameBut hs (Ne.symm (QK x c hc)),λj y v' e1 e2 e3=>?_},λy c' e=>?_,I.free,I.j8,λp hp=>?_,tracked {oc,hoc,I.j8 x c hc} hs,by simpa using I.len} {c,hs,.inr hc}
  ·exact(hs.2 b (yj (yc (yy e) (I.ok.Us x c hfn hc)))).trans (I.base.keep b o e n hb hx)
  ·let⟨sl,e1⟩:=I.base.slot b o e n hb hx
   exact{sl,(hs.2 b (yj (yc (yy e) (I.ok.Us x c hfn hc)))).trans e1}
  ·let⟨o',e1⟩:=I.base.there b o e hx
   exact{o',(hs.2 b (yj (yc (yy e) (I.ok.Us x c hfn hc)))).trans e1}
  ·by_cases hj:j=i
   ·subst hj
    rw[hi] at e1;cases e1;rw[List.getElem?_set_self hiU] at e2;cases e2;exact{u,r,.inr {.inl hk,c,hc,hc'}}
   ·rw[List.getElem?_set_ne (Ne.symm hj)] at e2
    let⟨u',r',q⟩:=hl j y v' e1 e2 e3;refine{u',r',?_};rcases q with q | ⟨k,c',e,z'⟩
    ·exact .inl q
    ·refine .inr {k,c',e,z'.sameBut hs ?_}
     rintro rfl;exact hj (IK hN e1 (I.ok.inj _ _ _ e hc▸hi))
  ·by_cases hcc:c'=c
   ·subst hcc;exact{_,hc'}
   ·let⟨w2,z2⟩:=I.cell y c' e
    exact{w2,z2.sameBut hs hcc}
  ·let⟨e,n,ne,nf,d⟩:=I.pin p hp
   refine{(hs.2 p.1 ?_).trans e,n,ne,nf,d};intro q;rw[q,hoc] at e;let q':oc=p.2:=yk e;exact d w' (by rw[<-q'];exact hocd)
def nc (I:Inv X pins U H s) (hN:X.N.Nodup) (hi:X.N[i]?=some x) (hx:Loc X.env.scope x) (r:RelV v u)
  (h:∀s',Inv X pins (U.set i (some v)) H s'->Q .unit s') (hf:X.fn x=true\/X.env.scope.names.lookup x=some .local<|>qa_):wpAny M A (storeName X.env x u) Q E s:=
 Ei I hN hi hx r (λs' I' _=>h s' I') hf
def Inv.Qp (I:Inv X pins U H s) (ho:s'.os=s.os) (u:Un (o7 X.stack) ch H H' s.heap s'.heap) (b9:qt X.prog X.w H' s'.heap) (hg:AllBare s'.gens)
  (hch:∀b∈ch,(b∈X.ex\/X.s₀.heap.objs.size<=b)/\b≠X.env.locals/\(∀x c,X.env.cells.lookup x=some c->c≠b)/\∀p∈X.pn++pins,p.1≠b):Inv X pins U H' s':=by
 let⟨h',g',d',t',o'⟩:=s';let e:o'=s.os:=ho;subst e;exact I.call (g':=g') (t':=t') (d':=d') u b9 hg hch
end
abbrev XK:=vy->Option vE->Hp->Prop
abbrev St:=List (Option V)
abbrev VK:=V->Hp->Prop
abbrev TE:=St->Hp->VK->Prop
abbrev TT:=St->Hp->(Bool->Hp->Prop)->Prop
abbrev TA:=St->Hp->(List V->Hp->Prop)->Prop
structure Ends where
 nx:St->Hp->Prop
 rt:VK
 bk:St->Hp->Prop:=λ_ _=>False
 ct:St->Hp->Prop:=λ_ _=>False
abbrev TS:=Ends->St->Hp->Prop
def EP (X:Cx) (pins:List (vE×Obj)) (U:St) (Q:VK) (u:vy) (s':vz):Prop:=∃v H',Inv X pins U H' s'/\RelV v u/\Q v H'
def TP (X:Cx) (pins:List (vE×Obj)) (U:St) (Q:Bool->Hp->Prop) (b:Bool) (s':vz):Prop:=∃H',Inv X pins U H' s'/\Q b H'
def AP (X:Cx) (pins:List (vE×Obj)) (U:St) (Q:List V->Hp->Prop) (us:List vy) (s':vz):Prop:=∃vs H',Inv X pins U H' s'/\Vals vs us/\Q vs H'
def SP (X:Cx) (pins:List (vE×Obj)) (D:Ends) (f:Flow) (s':vz):Prop:=
 match f with
 | .next=>∃U' H',Inv X pins U' H' s'/\D.nx U' H'
 | .brk=>∃U' H',Inv X pins U' H' s'/\D.bk U' H'
 | .cont=>∃U' H',Inv X pins U' H' s'/\D.ct U' H'
 | .ret u=>∃v U' H',Inv X pins U' H' s'/\RelV v u/\D.rt v H'
def PE (X:Cx) (e:Expr) (t:TE):Prop:=
 ∀(pins:List (vE×Obj)) (s:vz) (U:St) (H:Hp) (Q:VK),Inv X pins U H s->t U H Q->wpAny (model X.prog X.w) X.A (eval e X.env) (EP X pins U Q) X.xe s
def PT (X:Cx) (e:Expr) (t:TT):Prop:=
 ∀(pins:List (vE×Obj)) (s:vz) (U:St) (H:Hp) (Q:Bool->Hp->Prop),Inv X pins U H s->t U H Q->wpAny (model X.prog X.w) X.A (isTrue e X.env (eval e X.env)) (TP X pins U Q) X.xe s
def PW (X:Cx) (e:Expr) (t:TT):Prop:=
 ∀(whole:Sem vy) (pins:List (vE×Obj)) (s:vz) (U:St) (H:Hp) (Q:Bool->Hp->Prop),Inv X pins U H s->t U H Q->wpAny (model X.prog X.w) X.A (isTrue e X.env whole) (TP X pins U Q) X.xe s
def PW.pt (h:PW X e t):PT X e t:=h _
def PA (X:Cx) (es:List Expr) (t:TA):Prop:=
 ∀(pos:Pos) (pins:List (vE×Obj)) (s:vz) (U:St) (H:Hp) (Q:List V->Hp->Prop),Inv X pins U H s->t U H Q->wpAny (model X.prog X.w) X.A (spliced (backTo pos (starEach es X.env))) (AP X pins U Q) X.xe s
def PS (X:Cx) (st:Stmt) (t:TS):Prop:=
 ∀(pins:List (vE×Obj)) (s:vz) (U:St) (H:Hp) (D:Ends),Inv X pins U H s->t D U H->wpAny (model X.prog X.w) X.A (exec st X.env) (SP X pins D) X.xe s
def EV (X:Cx) (st:List Stmt) (t:TS):Prop:=
 ∀(pins:List (vE×Obj)) (s:vz) (U:St) (H:Hp) (D:Ends),Inv X pins U H s->t D U H->wpAny (model X.prog X.w) X.A (execs st X.env) (SP X pins D) X.xe s
def cX (h:wpAny M A t Q E s) (hQ:∀a s,Q a s->Q' a s):wpAny M A t Q' E s:=xg h hQ λ_ _ x=>x
end L2
namespace L2
open PySem PySem.Spec PyProof.Rows
section
variable {X:Cx}
def aW (i:Nat):TE:=λU H Q=>∃v,U[i]?=some (some v)/\Q v H
def tC (v:V):TE:=λ_ H Q=>Q v H
def TB (hN:X.N[i]?=some x) (hv:Uv X.env.scope x) (hd:(x == ("__debug__": Str))=false<|>qb_) (hcd:(x == ("__classdict__": Str))=false<|>qb_):PE X (.Name x pos) (aW i):=by
 intro pins s U H Q I h;let⟨v,e,h⟩:=h;let⟨m,hn,hl⟩:=I.loc;let⟨u,r,l⟩:=hl i x v hN e hv;let fin:EP X pins U Q u s:={(v),H,I,r,h}
 rcases l with⟨hk,hm⟩ | ⟨hk,c,hc,hcell⟩
 ·exact wpAny_Name (wpAny_loadName_local I.ok.kind hk hn hm fin) hd
 ·rcases hk with hk | hk
  ·exact wpAny_Name (wpAny_loadName_cell I.ok.kind hk hc hcell fin) hd
  ·exact wpAny_Name (wpAny_loadName_free I.ok.kind hk hc hcell fin hcd) hd
def ae:PE X (.Constant (.int i) j pos) (tC (.int i)):=λ_ _ _ H _ I h=>wpAny_Constant_int {.int i,H,I.tok _,{_,rfl},h}
def gU:PE X (.Constant (.bool b) j pos) (tC (.bl b)):=λ_ _ _ H _ I h=>Constant_bool {.bl b,H,I,rfl,h}
def aS:PE X (.Constant .none j pos) (tC .bP):=λ_ _ _ H _ I h=>Constant_none {.bP,H,I,rfl,h}
def aL:PE X (.Constant (.str x) j pos) (tC (.str x)):=λ_ _ _ H _ I h=>Calls.Constant_str {.str x,H,I.tok _,{_,rfl},h}
def Gl (X:Cx) (x:Str):Prop:=X.env.kindOf x=some .globalImplicit
def jY (I:Inv X pins U H s) (hg:Gl X x) (hm:X.mg x=some u) (h:Q u s)
  (hd:(x == ("__debug__": Str))=false<|>qb_):wpAny (model X.prog X.w) X.A (eval (.Name x pos) X.env) Q E s:=
 Calls.Name_function_global I.ok.kind hg (Calls.loadGlobal_global (by rw[I.ok.glob];exact I.mod.glob.keeps I.bk) hm h) hd
def jB (I:Inv X pins U H s) (hg:Gl X x) (hm:X.mg x=none) (hv:bootBuiltins x=some u) (h:Q u s)
  (hn:x≠ "__name__"<|>qb_) (hd:(x == ("__debug__": Str))=false<|>qb_):wpAny (model X.prog X.w) X.A (eval (.Name x pos) X.env) Q E s:=by
 let⟨mb,h1,h2⟩:=I.mod.blt;exact Calls.Name_function_global I.ok.kind hg (Calls.loadGlobal_builtin (by rw[I.ok.glob];exact I.mod.glob.keeps I.bk) hm (by rw[I.ok.blt];exact h1.keeps I.bk) ((h2 x hn).trans hv) h) hd
def b7 (hg:Gl X x) (hm:X.mg x=some u) (r:RelV v u) (hd:(x == ("__debug__": Str))=false<|>qb_):PE X (.Name x pos) (tC v):=
 λ_ _ _ H _ I h=>jY I hg hm {(v),H,I,r,h} hd
def Rn (hg:Gl X x) (hm:X.mg x=none) (hv:bootBuiltins x=some u) (r:RelV v u) (hn:x≠ "__name__"<|>qb_) (hd:(x == ("__debug__": Str))=false<|>qb_):PE X (.Name x pos) (tC v):=
 λ_ _ _ H _ I h=>jB I hg hm hv {(v),H,I,r,h} hn hd
variable {a b:Expr} {ta tb:TE} {pos:Pos}
def PC (X:Cx) (op:CmpOp) (a b:Expr) (t:TE):Prop:=
 ∀(pins:List (vE×Obj)) (s:vz) (U:St) (H:Hp) (Q:VK),Inv X pins U H s->t U H Q->
  wpAny (model X.prog X.w) X.A (eval a X.env) (λv s₁=>wpAny (model X.prog X.w) X.A (eval b X.env) (λu s₂=>wpAny (model X.prog X.w) X.A (compareOp op v u) (EP X pins U Q) X.xe s₂) X.xe s₁) X.xe s
def IM (b:Expr) (h:op≠.In) (h2:op≠.NotIn):behindInMarks op b=false:=by
 let e1:(op == CmpOp.In)=false:=by cases op <;> first | rfl | exact absurd rfl h
 let e2:(op == CmpOp.NotIn)=false:=by cases op <;> first | rfl | exact absurd rfl h2
 cases b <;> simp[behindInMarks,e1,e2]
def Oy (ta:TE):TE:=λU H Q=>ta U H λx H1=>Q (.bl (decide (x=.bP))) H1
def Ox (ta:TE):TE:=λU H Q=>ta U H λx H1=>Q (.bl (!decide (x=.bP))) H1
def RelV.IJ (r:RelV x v):(v == Value.none)=decide (x=.bP):=by
 cases x with
 | bP=>cases r;rfl
 | bl _=>cases r;rfl
 | int _=>let⟨t,rfl⟩:=r;rfl
 | str _=>let⟨t,rfl⟩:=r;rfl
 | Mj _=>let⟨t,rfl⟩:=r;rfl
 | RI _=>let⟨t,rfl⟩:=r;rfl
 | ref _=>cases r;rfl
 | ty _=>cases r;rfl
def cx (ha:PE X a ta):PC X .Is a (.Constant .none j pos') (Oy ta):=by
 intro pins s U H Q I h;refine cX (ha pins s U H _ I h) λv s1 z0=>?_;let⟨x,H1,I1,r1,q1⟩:=z0;exact Constant_none (is_none_gen {.bl _,H1,I1,by rw[r1.IJ];rfl,q1})
def eT (ha:PE X a ta):PC X .IsNot a (.Constant .none j pos') (Ox ta):=by
 intro pins s U H Q I h;refine cX (ha pins s U H _ I h) λv s1 z0=>?_;let⟨x,H1,I1,r1,q1⟩:=z0;exact Constant_none (isnot_none_gen {.bl _,H1,I1,by rw[r1.IJ];rfl,q1})
def tB (t:TE):TT:=λU H Q=>t U H λx H1=>∃c,x=.bl c/\Q c H1
def tm (h:PC X op a b t) (h1:behindInMarks op b=false<|>qc_):PE X (.Compare a [op] [b] pos) t:=λpins s U H Q I hw=>wpAny_Compare1 (h pins s U H Q I hw) h1
def bw (h:PC X op a b t) (h1:behindInMarks op b=false<|>qc_):PT X (.Compare a [op] [b] pos) (tB t):=by
 intro pins s U H Q I hw;refine wpAny_isTrue_Compare1 (cX (h pins s U H _ I hw) λv s1 h1=>cX h1 λu s2 h2=>cX h2 λc s3 z0=>?_) h1;let⟨x,H1,I1,r1,q1⟩:=z0;let⟨d,rfl,q⟩:=q1;cases r1;exact xi {(H1),I1,q}
def cU (h:PE X e t) (he:(∀whole,isTrue e X.env whole=(do let v <-whole;standAt e.pos;holding [v] (truthy v)))<|>qd_):PT X e (tB t):=by
 intro pins s U H Q I hw;refine isTrue_plain (cX (h pins s U H _ I hw) λv s1 z0=>?_) (he _);let⟨x,H1,I1,r1,q1⟩:=z0;let⟨d,rfl,q⟩:=q1;cases r1;exact xi {(H1),I1,q}
variable {tA tB':TT} {rest:List Expr}
def Tg (t u:TT):TT:=λU H Q=>t U H λc H1=>if c=true then u U H1 Q else Q false H1
def Wz (t u:TT):TT:=λU H Q=>t U H λc H1=>if c=true then Q true H1 else u U H1 Q
def QT (t:TT):TT:=λU H Q=>t U H λc H1=>Q (!c) H1
def cP (ha:PT X a tA):PW X (.BoolOp .And [a] pos) tA:=by
 intro wh pins s U H Q I h;refine isTrue_and (cX (ha pins s U H Q I h) λc s1 e=>?_);cases c with
 | true=>exact isTrue_and_nil e
 | false=>exact e
def dw (ha:PT X a tA):PW X (.BoolOp .Or [a] pos) tA:=by
 intro wh pins s U H Q I h;refine isTrue_or (cX (ha pins s U H Q I h) λc s1 e=>?_);cases c with
 | false=>exact isTrue_or_nil e
 | true=>exact e
def dm (ha:PT X a tA) (hb:PW X (.BoolOp .And (b::rest) pos) tB'):PW X (.BoolOp .And (a::b::rest) pos) (Tg tA tB'):=by
 intro wh pins s U H Q I h;refine isTrue_and (cX (ha pins s U H _ I h) λc s1 z0=>?_);let⟨H1,I1,q1⟩:=z0;cases c with
 | true=>exact hb wh pins s1 U H1 Q I1 q1
 | false=>exact{(H1),I1,q1}
def d8 (ha:PT X a tA) (hb:PW X (.BoolOp .Or (b::rest) pos) tB'):PW X (.BoolOp .Or (a::b::rest) pos) (Wz tA tB'):=by
 intro wh pins s U H Q I h;refine isTrue_or (cX (ha pins s U H _ I h) λc s1 z0=>?_);let⟨H1,I1,q1⟩:=z0;cases c with
 | true=>exact{(H1),I1,q1}
 | false=>exact hb wh pins s1 U H1 Q I1 q1
def fH (ha:PT X a tA):PT X (.UnaryOp .Not a pos) (QT tA):=by
 intro pins s U H Q I h;exact isTrue_not (ha pins s U H (λc H1=>Q (!c) H1) I h)
def Se (ta tb:TE):TE:=λU H Q=>ta U H λx H1=>∃c,x=.bl c/\if c=true then tb U H1 Q else Q (.bl false) H1
def UY (ta tb:TE):TE:=λU H Q=>ta U H λx H1=>∃c,x=.bl c/\if c=true then Q (.bl true) H1 else tb U H1 Q
def UZ (ta:TE):TE:=λU H Q=>ta U H λx H1=>∃c,x=.bl c/\Q (.bl (!c)) H1
def pP (h:PE X a t):PE X (.BoolOp op [a] pos) t:=λpins s U H Q I hw=>BoolOp_one (h pins s U H Q I hw)
def tq (ha:PE X a ta) (hb:PE X (.BoolOp .And (b::rest) pos) tb):PE X (.BoolOp .And (a::b::rest) pos) (Se ta tb):=by
 intro pins s U H Q I h;refine BoolOp_and (cX (ha pins s U H _ I h) λv s1 z0=>?_);let⟨x,H1,I1,r1,q1⟩:=z0;let⟨c,rfl,q1⟩:=q1;cases r1;refine xi ?_;cases c with
 | true=>exact hb pins s1 U H1 Q I1 q1
 | false=>exact{.bl false,H1,I1,rfl,q1}
def Pf (ha:PE X a ta) (hb:PE X (.BoolOp .Or (b::rest) pos) tb):PE X (.BoolOp .Or (a::b::rest) pos) (UY ta tb):=by
 intro pins s U H Q I h;refine BoolOp_or (cX (ha pins s U H _ I h) λv s1 z0=>?_);let⟨x,H1,I1,r1,q1⟩:=z0;let⟨c,rfl,q1⟩:=q1;cases r1;refine xi ?_;cases c with
 | false=>exact hb pins s1 U H1 Q I1 q1
 | true=>exact{.bl true,H1,I1,rfl,q1}
def Xt (t:TT) (ta tb:TE):TE:=λU H Q=>t U H λc H1=>if c=true then ta U H1 Q else tb U H1 Q
def Il (hc:PT X c tA) (ha:PE X a ta) (hb:PE X b tb):PE X (.IfExp c a b pos) (Xt tA ta tb):=by
 intro pins s U H Q I h;refine wpAny_IfExp (cX (hc pins s U H _ I h) λd s1 z0=>?_);let⟨H1,I1,q1⟩:=z0;cases d with
 | true=>exact ha pins s1 U H1 Q I1 q1
 | false=>exact hb pins s1 U H1 Q I1 q1
end
end L2
namespace L2
open PySem PySem.Spec PyProof.Rows
def aH (K:yB) (H:Hp) (a:vE) (xs:List V):Prop:=
 Rd H a (.lst xs)\/
  ∃(o:Obj) (its:Array vy) (n:Nat),K.lookup a=some o/\o.cls=.type "list"/\o.dict=none/\o.data=.seq its n/\its.size<=sizeLine/\Vals xs its.toList
def cW (K:yB) (H:Hp) (a:vE) (xs:List V):Prop:=
 Rd H a (.tup xs)\/
  ∃(o:Obj) (its:Array vy) (n:Nat),K.lookup a=some o/\o.cls=.type "tuple"/\o.data=.seq its n/\its.size<=sizeLine/\Vals xs its.toList
noncomputable def W5:vy->Option V
 | .none=>some .bP
 | .bool b=>some (.bl b)
 | .int i _=>some (.int i)
 | .str x _=>some (.str x)
 | .bytes b _=>some (.Mj b)
 | .float b _=>some (.RI b)
 | .ref a=>some (.ref a)
 | .type n=>some (.ty n)
 | _=>none
def RelV.abs (r:RelV x u):W5 u=some x:=by
 cases x with
 | bP=>cases r;rfl
 | bl _=>cases r;rfl
 | int _=>let⟨t,rfl⟩:=r;rfl
 | str _=>let⟨t,rfl⟩:=r;rfl
 | Mj _=>let⟨t,rfl⟩:=r;rfl
 | RI _=>let⟨t,rfl⟩:=r;rfl
 | ref _=>cases r;rfl
 | ty _=>cases r;rfl
def RelV.inj (r:RelV x u) (q:RelV y u):x=y:=yk (r.abs.symm.trans q.abs)
theorem Vals.inj:∀{xs ys:List V} {us:List vy},Vals xs us->Vals ys us->xs=ys
 | _,_,_,.nil,k=>by cases k;rfl
 | _,_,_,.cons r t,k=>by
  cases k with
  | cons r' t'=>rw[r.inj r',Vals.inj t t']
section
variable {X:Cx} {pins:List (vE×Obj)} {U:St} {H:Hp} {s:vz} {a:vE} {xs ys:List V}
def aH.of {K:yB} (h:H a=some (.lst xs)):aH K H a xs:=.inl (.inl h)
def cW.of {K:yB} (h:H a=some (.tup xs)):cW K H a xs:=.inl (.inl h)
def Inv.list (I:Inv X pins U H s) (h:aH X.K H a xs):∃its:List vy,Vals xs its/\PlainL s.heap a its.toArray/\⇑xs<=sizeLine:=by
 rcases h with h | ⟨o,its,n,hk,hc,hd,hs,hz,r⟩
 ·let⟨z,its,n,r,e⟩:=h.ok I.b9
  exact{its,r,{_,n,e,rfl,rfl,rfl},z}
 ·refine{its.toList,r,{o,n,I.rF a o hk,hc,hd,by simpa using hs},?_}
  let e:=⇑r;simp only[yQ] at e;ext
def Inv.tuple (I:Inv X pins U H s) (h:cW X.K H a xs):∃its:List vy,Vals xs its/\IsTup s.heap a its.toArray/\⇑xs<=sizeLine:=by
 rcases h with h | ⟨o,its,n,hk,hc,hs,hz,r⟩
 ·let⟨z,its,r,p⟩:=h.ok I.b9
  exact{(its),r,p,z}
 ·refine{its.toList,r,{o,I.rF a o hk,hc,n,by simpa using hs},?_}
  let e:=⇑r;simp only[yQ] at e;ext
def Inv.BF (I:Inv X pins U H s) (h:aH X.K H a xs) (h':aH X.K H a ys):xs=ys:=by
 let⟨its,r,⟨o,n,e,_,_,d⟩,_⟩:=I.list h;let⟨its',r',⟨o',n',e',_,_,d'⟩,_⟩:=I.list h';rw[e] at e';cases e';rw[d] at d';injection d' with d1 _;have:its=its':=by simpa using y6 Array.toList d1
 subst this;exact r.inj r'
def Inv.Eg (I:Inv X pins U H s) (h:cW X.K H a xs) (h':cW X.K H a ys):xs=ys:=by
 let⟨its,r,⟨o,e,_,n,d⟩,_⟩:=I.tuple h;let⟨its',r',⟨o',e',_,n',d'⟩,_⟩:=I.tuple h';rw[e] at e';cases e';rw[d] at d';injection d' with d1 _;have:its=its':=by simpa using y6 Array.toList d1
 subst this;exact r.inj r'
end
abbrev Cx.qB (X:Cx) (E:vy->vz->Prop):Cx:={X with xe:=E}
abbrev Cx.Kz (X:Cx):Cx:=X.qB λ_ _=>False
theorem Cx.Ok.qB {X:Cx} (ok:X.Ok) (E:vy->vz->Prop):(X.qB E).Ok:=
 {(ok.mod),ok.kind,ok.glob,ok.blt,ok.above,ok.inj,ok.has,ok.Us,ok.hd,ok.frames,ok.UE,ok.VZ,ok.bs,ok.N6,ok.vQ,ok.KR,ok.oU,ok.IY}
def Cx.Ok.hJ {X:Cx} {E:vy->vz->Prop} (ok:(X.qB E).Ok):X.Ok:=
 {(ok.mod),ok.kind,ok.glob,ok.blt,ok.above,ok.inj,ok.has,ok.Us,ok.hd,ok.frames,ok.UE,ok.VZ,ok.bs,ok.N6,ok.vQ,ok.KR,ok.oU,ok.IY}
section
variable {X:Cx} {pins:List (vE×Obj)} {U:St} {H:Hp} {s:vz} {E:vy->vz->Prop}
theorem Inv.qB (I:Inv X pins U H s) (E:vy->vz->Prop):Inv (X.qB E) pins U H s:={I.ok.qB E,I.os,I.bare,I.base,I.loc,I.cell,I.free,I.j8,I.pin,I.b9,I.len}
theorem Inv.hJ (I:Inv (X.qB E) pins U H s):Inv X pins U H s:={(I.ok.hJ),I.os,I.bare,I.base,I.loc,I.cell,I.free,I.j8,I.pin,I.b9,I.len}
theorem SP.hJ (h:SP (X.qB E) pins D f s'):SP X pins D f s':=by
 cases f with
 | next=>let⟨U',H',I,q⟩:=h;exact{U',H',I.hJ,q}
 | brk=>let⟨U',H',I,q⟩:=h;exact{U',H',I.hJ,q}
 | cont=>let⟨U',H',I,q⟩:=h;exact{U',H',I.hJ,q}
 | ret u=>let⟨v,U',H',I,r,q⟩:=h;exact{v,U',H',I.hJ,r,q}
theorem EV.Kz {st:List Stmt} {t:TS} (h:EV X.Kz st t):EV X st t:=λpins s U H D I hw=>
 xg (h pins s U H D (I.qB _) hw) (λ_ _ q=>q.hJ) λ_ _ z=>False.elim z
end
section
variable {X:Cx} {st:Stmt} {rest:List Stmt} {t u:TS} {e:Expr} {te:TE} {pos:Pos}
def Sb:TS:=λD U H=>D.nx U H
def SW (t u:TS):TS:=λD U H=>t {D with nx:=u D} U H
def aA:EV X [] Sb:=λ_ _ U H _ I h=>wy {U,H,I,h}
def af (h1:PS X st t) (h2:EV X rest u):EV X (st::rest) (SW t u):=by
 intro pins s U H D I h;refine wpAny_execs_cons (cX (h1 pins s U H {D with nx:=u D} I h) λf s1 q=>?_);cases f with
 | next=>
  let⟨U',H',I',q⟩:=q;exact h2 pins s1 U' H' D I' q
 | ret v=>exact q
 | brk=>exact q
 | cont=>exact q
def ak (h1:PS X st t):EV X [st] t:=by
 intro pins s U H D I h;refine wpAny_execs_cons (cX (h1 pins s U H D I h) λf s1 q=>?_);cases f with
 | next=>exact wy q
 | ret v=>exact q
 | brk=>exact q
 | cont=>exact q
def Tf:TS:=λD U H=>D.bk U H
def O9:PS X (.Break pos) Tf:=λ_ _ U H _ I h=>wpAny_Break {U,H,I,h}
def Inv.quiet (I:Inv X pins U H s):interactive X.env=false:=by simp[interactive,I.ok.kind]
def Sd (te:TE):TS:=λD U H=>te U H λ_ H1=>D.nx U H1
def bu (he:PE X e te) (hs:swapsWith e none pos.line X.env=pure false<|>qe_):PS X (.Expr e pos) (Sd te):=by
 intro pins s U H D I h;refine wpAny_Expr_any (cX (he pins s U H _ I h) λv s1 z0=>?_) I.quiet hs;let⟨x,H1,I1,r1,q1⟩:=z0;exact{U,H1,I1,q1}
def SX (te:TE):TS:=λD U H=>te U H D.rt
def aq (he:PE X e te):PS X (.Return (some e) pos) (SX te):=by
 intro pins s U H D I h;refine wpAny_Return_some (cX (he pins s U H _ I h) λv s1 z0=>?_);let⟨x,H1,I1,r1,q1⟩:=z0;exact{x,U,H1,I1,r1,q1}
def QU (c:TT) (t u:TS):TS:=λD U H=>c U H λb H1=>if b=true then t D U H1 else u D U H1
def aI (hc:PT X c tc) (ha:EV X a t) (hb:EV X b u):PS X (.If c a b pos) (QU tc t u):=by
 intro pins s U H D I h;refine wpAny_If (cX (hc pins s U H _ I h) λd s1 z0=>?_);let⟨H1,I1,q1⟩:=z0;cases d with
 | true=>exact ha pins s1 U H1 D I1 q1
 | false=>exact hb pins s1 U H1 D I1 q1
def S5:TS:=λ_ _ _=>False
def O7:PS X st S5:=λ_ _ _ _ _ _ h=>h.elim
end
abbrev TG:=V->St->Hp->(St->Hp->Prop)->Prop
abbrev VG:=List V->St->Hp->(St->Hp->Prop)->Prop
def PG (X:Cx) (target:Expr) (t:TG):Prop:=
 ∀(pins:List (vE×Obj)) (s:vz) (U:St) (H:Hp) (v:V) (u:vy) (Q:St->Hp->Prop),Inv X pins U H s->RelV v u->t v U H Q->
  wpAny (model X.prog X.w) X.A (assign target X.env u) (λ_ s'=>∃U' H',Inv X pins U' H' s'/\Q U' H') X.xe s
def V3 (X:Cx) (ts:List Expr) (t:VG):Prop:=
 ∀(pins:List (vE×Obj)) (s:vz) (U:St) (H:Hp) (vs:List V) (us:List vy) (Q:St->Hp->Prop),Inv X pins U H s->Vals vs us->t vs U H Q->
  wpAny (model X.prog X.w) X.A (assignInOrder ((assignEach ts X.env).map (·.2)) us) (λ_ s'=>∃U' H',Inv X pins U' H' s'/\Q U' H') X.xe s
section
variable {X:Cx} {pos:Pos}
def bW (i:Nat):TG:=λv U H Q=>Q (U.set i (some v)) H
def LV (hN:X.N.Nodup) (hi:X.N[i]?=some x) (hx:Loc X.env.scope x) (hf:X.fn x=true\/X.env.scope.names.lookup x=some .local<|>qa_):PG X (.Name x pos) (bW i):=by
 intro pins s U H v u Q I r h;exact wpAny_assign_Name (nc I hN hi hx r (λs' I'=>{_,H,I',h}) hf)
def F7:VG:=λvs U H Q=>vs=[]/\Q U H
def fB (t:TG) (u:VG):VG:=λvs U H Q=>∃v r,vs=v::r/\t v U H λU' H'=>u r U' H' Q
def cK:V3 X [] F7:=by
 intro pins s U H vs us Q I r h;let⟨e,h⟩:=h;subst e;cases r;exact assignInOrder_nil {U,H,I,h}
def aM (h1:PG X e t) (h2:V3 X es u)
  (hs:(assignEach (e::es) X.env).map (·.2)=assign e X.env::(assignEach es X.env).map (·.2)<|>qe_):V3 X (e::es) (fB t u):=by
 intro pins s U H vs us Q I r h;let⟨v,vr,e1,h⟩:=h;subst e1;cases r with
 | cons r rr=>
  rw[hs];refine assignInOrder_cons (cX (h1 pins s U H _ _ _ I r h) λ_ s1 z0=>?_);let⟨σ1,H1,I1,q1⟩:=z0;exact h2 pins s1 σ1 H1 _ _ Q I1 rr q1
def F6 (K:yB) (n:Nat) (t:VG):TG:=λv U H Q=>∃a xs,v=.ref a/\cW K H a xs/\⇑xs=n/\t xs U H Q
def dA (hc:X.calm=true) (h:V3 X es t)
  (hn:⇑(assignEach es X.env)=n<|>qe_) (hst:(assignEach es X.env).findIdx? (·.1)=none<|>qe_):PG X (.Tuple es k pos) (F6 X.K n t):=by
 intro pins s U H v u Q I r hw;let⟨a,xs,e1,hq,hl,hw⟩:=hw;subst e1;cases r;let⟨its,rv,ht,hz⟩:=I.tuple hq;refine assign_Tuple_tuple (I.ok.hd hc) ht (by simp[hn,<-hl,⇑rv]) hst λh' hx=>?_;let I1:Inv X pins U H {s with heap:=h'}:=I.kept (t':=s.toks) λb o e=>hx b o (yj (yy e)) e;exact h pins _ U H xs _ Q I1 (by simpa using rv) hw
def Hu (te:TE) (g:TG):TS:=λD U H=>te U H λx H1=>g x U H1 D.nx
def O5 (hN:X.N.Nodup) (hi:X.N[i]?=some x) (hx:Loc X.env.scope x) (he:PE X e te) (hs:swapsWith e (some (.Name x pos')) pos.line X.env=pure false<|>qe_) (hf:X.fn x=true\/X.env.scope.names.lookup x=some .local<|>qa_) :
  PS X (.Assign [.Name x pos'] e pos) (Hu te (bW i)):=by
 intro pins s U H D I h;refine wpAny_Assign_Name (cX (he pins s U H _ I h) λv s1 z0=>?_) hs;let⟨y,H1,I1,r1,q1⟩:=z0;exact nc I1 hN hi hx r1 (λs2 I2=>{_,H1,I2,q1}) hf
def Wy (i j:Nat) (ta:TA):TS:=λD U H=>ta U H λvs H1=>∃v w,vs=[v,w]/\D.nx ((U.set i (some v)).set j (some w)) H1
def O6 (hc:X.calm=true) (hN:X.N.Nodup) (hi:X.N[i]?=some x) (hj:X.N[j]?=some y) (hij:i≠j)
  (hx:X.env.scope.names.lookup x=some .local) (hy:X.env.scope.names.lookup y=some .local) (ha:PA X [a,b] ta)
  (hw:swappedStores [.Tuple [.Name x px,.Name y py] kt pt] (.Tuple [a,b] k2 pt2) X.env=pure (some [x,y]))
  (hs:swapsWithSole [.Tuple [.Name x px,.Name y py] kt pt] (.Tuple [a,b] k2 pt2) pos.line X.env=pure false<|>qe_) :
  PS X (.Assign [.Tuple [.Name x px,.Name y py] kt pt] (.Tuple [a,b] k2 pt2) pos) (Wy i j ta):=by
 intro pins s U H D I h;rw[exec_Assign_arm];refine yu (wpAny_standAt ?_);rw[hs];refine yu (yw ?_);rw[yN ∅];refine yu (Tuple_ (cX (ha _ pins s U H _ I h) λus s1 z0=>?_));let⟨vs,H1,I1,r1,q1⟩:=z0;let⟨v,w,e1,q1⟩:=q1;subst e1;obtain⟨u1,u2,rfl,rv,rw'⟩:∃u1 u2,us=[u1,u2]/\RelV v u1/\RelV w u2:=by
  cases r1 with
  | cons p q=>
   cases q with
   | cons p' q'=>
    cases q';exact{_,_,rfl,p,p'}
 refine xf ?_ (by show 2<=sizeLine;decide);let I2:Inv X pins U H1 {s1 with heap:=s1.heap.push {cls:=.type "tuple",data:=.seq [u1,u2].toArray}}:=I1.kept (t':=s1.toks) λb o e=>yv _ e;rw[hw];refine yu (yw ?_);show wpAny (model X.prog X.w) X.A (do rule "assign.swapped-stores";let items <-unpackItems (.ref ↑s1) 2 none;assignInOrder [λv=>bindName X.env y v,λv=>bindName X.env x v] items.reverse;pure Flow.next) _ _ _;refine yu (wpAny_rule (yu (unpackItems_tuple (items:=#[u1,u2]) (I.ok.hd hc) (IsTup.new s1.heap _) λh' hx'=>?_)));let I3:=I2.kept (h':=h') (t':=s1.toks) λb o e=>hx' b o (yj (yy e)) e;show wpAny _ _ (assignInOrder [λv=>bindName X.env y v,λv=>bindName X.env x v] [u2,u1] >>= λ_=>pure Flow.next) _ _ _;refine yu (assignInOrder_cons (wpAny_bindName (nc I3 hN hj (.inl hy) rw' (λs2 I4=>?_) (.inr hy))));refine assignInOrder_cons (wpAny_bindName (nc I4 hN hi (.inl hx) rv (λs3 I5=>assignInOrder_nil (yw ?_)) (.inr hx)));rw[List.set_comm _ _ (Ne.symm hij)] at I5;exact{_,H1,I5,q1}
end
section
variable {X:Cx} {pos:Pos}
def Ou (c:TT) (tb:TS):TS:=λD U H=>∃W:Nat->St->Hp->Prop,(∃m,W m U H)/\∀m U H,W m U H->
 c U H λb H1=>if b=true then∃N:St->Hp->Prop,(∀U' H',N U' H'->∃m',m'<m/\W m' U' H')/\tb {D with nx:=N,ct:=N,bk:=D.nx} U H1 else D.nx U H1
def nK (hp:PassesOwn (model X.prog X.w) X.A X.env X.xe) (hc:PT X c tc) (hb:EV X body tb):PS X (.While c body [] pos) (Ou tc tb):=by
 intro pins s U H D I h;let⟨W,⟨m0,w0⟩,turn⟩:=h;refine wpAny_While (codeAny_whileLoop (λn s'=>∃U' H',Inv X pins U' H' s'/\W n U' H') ?_ m0 {U,H,I,w0});rintro n s1 ⟨σ1,H1,I1,w1⟩;refine xW hp (cX (hc pins s1 σ1 H1 _ I1 (turn n σ1 H1 w1)) λb s2 z0=>?_);let⟨H2,I2,q2⟩:=z0;cases b with
 | true=>
  let⟨N,hN,q2⟩:=q2;rw[yO rfl];refine xW hp (cX (hb pins s2 σ1 H2 _ I2 q2) λf s3 q3=>?_);cases f with
  | next=>
   let⟨σ3,H3,I3,n3⟩:=q3;let⟨m',hm,w3⟩:=hN σ3 H3 n3;exact{m',hm,σ3,H3,I3,w3}
  | cont=>
   let⟨σ3,H3,I3,n3⟩:=q3;let⟨m',hm,w3⟩:=hN σ3 H3 n3;exact{m',hm,σ3,H3,I3,w3}
  | brk=>exact q3
  | ret v=>exact q3
 | false=>
  rw[yN zL];exact wy {σ1,H2,I2,q2}
end
structure It where
 go:Nat->Hp->Prop
 JV:Nat->Hp->V->Hp->Prop
 stop:Nat->Hp->Prop
def qA (X:Cx) (pins:List (vE×Obj)) (H:Hp) (b:vE):Prop:=
 H b=none/\b≠X.env.locals/\b∉X.fs/\(b∈X.ex\/X.s₀.heap.objs.size<=b)/\(∀x c,X.env.cells.lookup x=some c->c≠b)/\∀p∈X.pn++pins,p.1≠b
def Inv.vT (I:Inv X pins U H s) (hb:↑s<=b) (hn:H' b=none):qA X pins H' b:=by
 refine{hn,yi (yc I.lt hb),I.Vf hb,.inr (zM I.sz hb),λx c e z=>?_,λp hp z=>?_}
 ·let⟨v,q⟩:=I.cell x c e
  exact absurd (yc q.lt (by rw[z];exact hb)) (yf _)
 ·exact absurd (yc (yy (I.pin p hp).1) (by rw[z];exact hb)) (yf _)
structure Turn (P:vA) (w:vB) (K:yB) (tg:Expr) (J:It) (fp:List vE) (it:vE) (tn:Nat->vF->Prop):Prop where
 mem:it∈fp
 obj:∀i h,tn i h->∀b∈fp,∃o,h.get? b=some o/\∀v,o.data≠.cell v
 keep:∀i h h',tn i h->(∀b∈fp,∀o,h.get? b=some o->h'.get? b=some o)->tn i h'
 item:∀(X:Cx),X.prog=P->X.w=w->X.K=K->X.calm=true->∀(i:Nat) (pins:List (vE×Obj)) (s:vz) (U:St) (H:Hp) (E:vy->vz->Prop),Inv X pins U H s->(∀b∈fp,qA X pins H b)->tn i s.heap->J.go i H->
  wpAny (model P w) X.A (pyNext (.ref it)) (λr s1=>∃u,r=some u/\
   wpAny (model P w) X.A (letOwnedTupleGo tg (.ref it) u) (λ_ s2=>∃x H',Inv X pins U H' s2/\RelV x u/\J.JV i H x H'/\tn (i+1) s2.heap/\∀b∈fp,H' b=none) E s1) E s
 done:∀(X:Cx),X.prog=P->X.w=w->X.K=K->X.calm=true->∀(i:Nat) (pins:List (vE×Obj)) (s:vz) (U:St) (H:Hp) (E:vy->vz->Prop),Inv X pins U H s->(∀b∈fp,qA X pins H b)->tn i s.heap->J.stop i H->
  wpAny (model P w) X.A (pyNext (.ref it)) (λr s1=>r=none/\Inv X pins U H s1) E s
 self:∀(A:vC) (i:Nat) (s:vz) (Q:vy->vz->Prop) (E:vy->vz->Prop),tn i s.heap->Q (.ref it) s->wpAny (model P w) A (pyIter (.ref it)) Q E s
abbrev TI:=St->Hp->(It->Hp->Prop)->Prop
def Xj (X:Cx) (pins:List (vE×Obj)) (U:St) (tg:Expr) (R:It->Hp->Prop) (itv:vy) (s2:vz):Prop:=
 ∃(it:vE) (fp:List vE) (tn:Nat->vF->Prop) (J:It) (H':Hp),itv=.ref it/\Inv X pins U H' s2/\Turn X.prog X.w X.K tg J fp it tn/\tn 0 s2.heap/\(∀b∈fp,qA X pins H' b)/\R J H'
def PI (X:Cx) (tg iter:Expr) (wi:TI):Prop:=
 ∀(pins:List (vE×Obj)) (s:vz) (U:St) (H:Hp) (R:It->Hp->Prop),Inv X pins U H s->wi U H R->
  wpAny (model X.prog X.w) X.A (eval iter X.env) (λv s1=>wpAny (model X.prog X.w) X.A (pyIter v) (Xj X pins U tg R) X.xe s1) X.xe s
def EE (ho:s.heap.get? it=some o) (hc:o.cls=.type n) (hd:o.data=.fields vs)
    (hn:["enumerate","zip","dict_itemiterator","dict_reverseitemiterator","odict_iterator","itertools.zip_longest","itertools.pairwise"].contains n=false) (hQ:Q .unit s):wpAny M A (letOwnedTupleGo tg (.ref it) u) Q E s:=by
  unfold letOwnedTupleGo;cases tg <;> first
    | exact yw hQ
    | (cases u <;> first
        | exact yw hQ
        | (refine yu (wpAny_load ho ?_)
           rw[hc,hd];show wpAny M A (if(["enumerate","zip","dict_itemiterator","dict_reverseitemiterator","odict_iterator","itertools.zip_longest","itertools.pairwise"].contains n&&vs[0]? == some (rawInt _))=true then _ else _) Q E s;rw[yN (by intro h;rw[hn,yU] at h;cases h)];exact yw hQ))
noncomputable def GX (K:yB) (a:vE):It:=
 {λi H=>∃xs x,aH K H a xs/\xs[i]?=some x,λi H x H'=>H'=H/\∀xs,aH K H a xs->xs[i]?=some x,λi H=>∃xs,aH K H a xs/\⇑xs<=i}
noncomputable def R7 (K:yB) (a:vE):It:=
 {λi H=>∃xs x,cW K H a xs/\xs[i]?=some x,λi H x H'=>H'=H/\∀xs,cW K H a xs->xs[i]?=some x,λi H=>∃xs,cW K H a xs/\⇑xs<=i}
noncomputable def Lw (lo:Int) (n:Nat):It:={λi _=>i<n,λi H x H'=>H'=H/\x=.int (lo+i),λi _=>n<=i}
def My {P:vA} {w:vB} {K:yB} {tg:Expr} (a it:vE):Turn P w K tg (GX K a) [it] it (λi h=>h.IsListIter it a i) where
 mem:=by simp
 obj:=λi h st b hb=>by
  let e:b=it:=by simpa using hb
  subst e;let⟨o,e,c,d⟩:=st;exact{o,e,λv z=>by rw[d] at z;cases z}
 keep:=λi h h' st k=>st.at λo e=>k it (by simp) o e
 item:=by
  intro X hP hw hK hc i pins s U H E I hf st hg;subst hP hw hK;let⟨xs,x,hq,hx⟩:=hg;let⟨its,rv,p,hz⟩:=I.list hq;let⟨u,hu,ru⟩:=rv.get hx;let⟨f0,f1,f2,f3,f4,f5⟩:=hf it (by simp);refine wpAny_pyNext_list_item st p.isList (x:=u) (by simpa using hu) λh' st' sb=>?_;let I1:Inv X pins U H {s with heap:=h'}:=I.turned (t':=s.toks) (λb o hb e=>(sb.2 b hb).trans e) f0 f1 f3 f4 f5;let⟨o,e,c,d⟩:=id st';exact{u,rfl,EE (s:={s with heap:=h'}) e c d ∅ {x,H,I1,ru,{rfl,λys hy=>by rw[I.BF hy hq];exact hx},st',λb hb=>(hf b hb).1}}
 done:=by
  intro X hP hw hK hc i pins s U H E I hf st hg;subst hP hw hK;let⟨xs,hq,hx⟩:=hg;let⟨its,rv,p,hz⟩:=I.list hq;let⟨f0,f1,f2,f3,f4,f5⟩:=hf it (by simp);let hl:=⇑rv;exact wpAny_pyNext_list_end (I.ok.hd hc) st p.isList (by simp;ext) λh' eb=>{rfl,I.turned (t':=s.toks) (λb o hb e=>eb b o hb e) f0 f1 f3 f4 f5}
 self:=λ_ _ _ _ _ st h=>wpAny_pyIter_listiter st h
def J3 {P:vA} {w:vB} {K:yB} {tg:Expr} (a it:vE):Turn P w K tg (R7 K a) [it] it (λi h=>h.IsTupleIter it a i) where
 mem:=by simp
 obj:=λi h st b hb=>by
  let e:b=it:=by simpa using hb
  subst e;let⟨o,e,c,d⟩:=st;exact{o,e,λv z=>by rw[d] at z;cases z}
 keep:=λi h h' st k=>st.at λo e=>k it (by simp) o e
 item:=by
  intro X hP hw hK hc i pins s U H E I hf st hg;subst hP hw hK;let⟨xs,x,hq,hx⟩:=hg;let⟨its,rv,p,hz⟩:=I.tuple hq;let⟨u,hu,ru⟩:=rv.get hx;let⟨f0,f1,f2,f3,f4,f5⟩:=hf it (by simp);refine wpAny_pyNext_tuple_item st (show s.heap.IsTuple a its.toArray from p) (x:=u) (by simpa using hu) λh' st' sb=>?_;let I1:Inv X pins U H {s with heap:=h'}:=I.turned (t':=s.toks) (λb o hb e=>(sb.2 b hb).trans e) f0 f1 f3 f4 f5;let⟨o,e,c,d⟩:=id st';exact{u,rfl,EE (s:={s with heap:=h'}) e c d ∅ {x,H,I1,ru,{rfl,λys hy=>by rw[I.Eg hy hq];exact hx},st',λb hb=>(hf b hb).1}}
 done:=by
  intro X hP hw hK hc i pins s U H E I hf st hg;subst hP hw hK;let⟨xs,hq,hx⟩:=hg;let⟨its,rv,p,hz⟩:=I.tuple hq;let⟨f0,f1,f2,f3,f4,f5⟩:=hf it (by simp);let hl:=⇑rv;exact wpAny_pyNext_tuple_end (I.ok.hd hc) st (show s.heap.IsTuple a its.toArray from p) (by simp;ext) λh' eb=>{rfl,I.turned (t':=s.toks) (λb o hb e=>eb b o hb e) f0 f1 f3 f4 f5}
 self:=λ_ _ _ _ _ st h=>wpAny_pyIter_tupleiter st h
def J4 {P:vA} {w:vB} {K:yB} {tg:Expr} (it:vE) (lo:Int) (n:Nat):Turn P w K tg (Lw lo n) [it] it (λi h=>IsRangeIter h it (lo+(i:Nat)*1) ((n:Int)-(i:Nat)) 1) where
 mem:=by simp
 obj:=λi h st b hb=>by
  let e:b=it:=by simpa using hb
  subst e;exact{_,st,λv z=>by
   let z':Data.fields _=Data.cell v:=z;cases z'}
 keep:=λi h h' st k=>k it (by simp) _ st
 item:=by
  intro X hP hw hK hc i pins s U H E I hf st hg;subst hP hw hK;let⟨f0,f1,f2,f3,f4,f5⟩:=hf it (by simp);let W:=Walks.range (prog:=X.prog) (w:=X.w) (I.ok.hd hc) it lo 1 n;refine W.item i s _ _ hg st λv h' tk hv st' kk=>?_;let⟨t,rfl⟩:=hv;let I1:Inv X pins U H {s with heap:=h',toks:=tk}:=I.turned (λb o hb e=>kk b o (by simpa using hb) e) f0 f1 f3 f4 f5;refine{_,rfl,EE (s:={s with heap:=h',toks:=tk}) (n:="range_iterator") st' rfl rfl ∅ {.int (lo+i),H,I1,{t,?_},{(rfl),rfl},st',λb hb=>(hf b hb).1}};rw[Int.mul_one]
 done:=by
  intro X hP hw hK hc i pins s U H E I hf st hg;subst hP hw hK;let⟨f0,f1,f2,f3,f4,f5⟩:=hf it (by simp);exact wpAny_pyNext_range_end (I.ok.hd hc) st (by have:n<=i:=hg;ext) λh' eb=>{rfl,I.turned (t':=s.toks) (λb o hb e=>eb b o hb e) f0 f1 f3 f4 f5}
 self:=λ_ _ _ _ _ st h=>wpAny_pyIter_rangeiter st h
end L2
namespace L2
open PySem PySem.Spec PyProof.Rows
section
variable {X:Cx} {tg:Expr}
def L5 (K:yB) (tl:TE):TI:=λU H R=>tl U H λx H1=>∃a,x=.ref a/\(∃xs,aH K H1 a xs)/\R (GX K a) H1
def WU (K:yB) (tl:TE):TI:=λU H R=>tl U H λx H1=>∃a,x=.ref a/\(∃xs,cW K H1 a xs)/\R (R7 K a) H1
def bf {l:Expr} {tl:TE} (hl:PE X l tl):PI X tg l (L5 X.K tl):=by
 intro pins s U H R I h;refine cX (hl pins s U H _ I h) λv s1 z0=>?_;let⟨x,H1,I1,r1,q1⟩:=z0;let⟨a,e,⟨xs,hq⟩,q⟩:=q1;subst e;cases r1;let⟨its,rv,p,hz⟩:=I1.list hq;refine wL p.isList ?_;refine{↑s1,[↑s1],_,_,H1,rfl,I1.kept (t':=s1.toks) λb o e=>yv _ e,My a _,{_,yx _ rfl,rfl,rfl},λb hb=>?_,q};let e:b=↑s1:=by simpa using hb
 subst e;exact I1.vT (zm _) (I1.b9.fresh (zm _))
def jr {l:Expr} {tl:TE} (hl:PE X l tl):PI X tg l (WU X.K tl):=by
 intro pins s U H R I h;refine cX (hl pins s U H _ I h) λv s1 z0=>?_;let⟨x,H1,I1,r1,q1⟩:=z0;let⟨a,e,⟨xs,hq⟩,q⟩:=q1;subst e;cases r1;let⟨its,rv,p,hz⟩:=I1.tuple hq;refine wpAny_pyIter_tuple (show s1.heap.IsTuple a its.toArray from p) ?_;refine{↑s1,[↑s1],_,_,H1,rfl,I1.kept (t':=s1.toks) λb o e=>yv _ e,J3 a _,{_,yx _ rfl,rfl,rfl},λb hb=>?_,q};let e:b=↑s1:=by simpa using hb
 subst e;exact I1.vT (zm _) (I1.b9.fresh (zm _))
def Ig {pins:List (vE×Obj)} {U:St} {H:Hp} {s:vz} {R:It->Hp->Prop} {E:vy->vz->Prop} {lo hi:Int} {t u v:Tok} {tk:Nat} (I:Inv X pins U H s) (h1:-(2^62)<=lo) (h2:lo<2^62) (h3:-(2^62)<=hi) (h4:hi<2^62)
  (q:R (Lw lo (hi-lo).toNat) H):wpAny (model X.prog X.w) X.A (pyIter (.ref ↑s)) (Xj X pins U tg R) E {s with heap:=s.heap.push {cls:=.type "range",data:=.fields #[.int lo t,.int hi u,.int 1 v]},toks:=tk}:=by
 refine wpAny_pyIter_range (IsRange.new ..) (small_one h1 h2 h3 h4) ?_;let I1:Inv X pins U H {s with heap:=s.heap.push {cls:=.type "range",data:=.fields #[.int lo t,.int hi u,.int 1 v]},toks:=tk}:=I.kept λb o e=>yv _ e;refine{(s.heap.push {cls:=.type "range",data:=.fields #[.int lo t,.int hi u,.int 1 v]}).objs.size,[(s.heap.push {cls:=.type "range",data:=.fields #[.int lo t,.int hi u,.int 1 v]}).objs.size],_,_,H,rfl,
  I1.kept (t':=tk) λb o e=>yv _ e,J4 _ lo (hi-lo).toNat,?_,λb hb=>?_,q}
 ·let e1:lo+((0:Nat):Int)*1=lo:=by simp
  let e2:(((hi-lo).toNat:Nat):Int)-((0:Nat):Int)=Builtin.Range.rangeSize lo hi 1:=by rw[rangeSize_one];split <;> ext
  show IsRangeIter _ _ (lo+((0:Nat):Int)*1) ((((hi-lo).toNat:Nat):Int)-((0:Nat):Int)) 1;rw[e1,e2];exact yx _ rfl
 ·let e:b=(s.heap.push {cls:=.type "range",data:=.fields #[.int lo t,.int hi u,.int 1 v]}).objs.size:=by simpa using hb
  subst e;exact I1.vT (zm _) (I1.b9.fresh (zm _))
def PR (ta:TA):TI:=λU H R=>ta U H λvs H1=>∃j:Int,vs=[.int j]/\-(2^62)<=j/\j<2^62/\R (Lw 0 j.toNat) H1
def Vq (ta:TA):TI:=λU H R=>ta U H λvs H1=>∃i j:Int,vs=[.int i,.int j]/\(-(2^62)<=i/\i<2^62/\-(2^62)<=j/\j<2^62)/\R (Lw i (j-i).toNat) H1
def cQ {a:Expr} {ta:TA} {p pos:Pos} (hg:Gl X "range") (hm:X.mg "range"= none) (ha:PA X [a] ta) (hs:starEach [a] X.env=[(false,eval a X.env)]<|>qe_):PI X tg (.Call (.Name "range" p) [a] [] pos) (PR ta):=by
 intro pins s U H R I h;refine Call_ (jB I hg hm boot_range (yM (cX (ha pos pins s U H _ I h) λus s1 z0=>?_) hs rfl));let⟨vs,H1,I1,r1,q1⟩:=z0;let⟨j,e,q1,q2,q⟩:=q1;subst e;cases r1 with
 | cons r rr=>
  cases rr;let⟨t,rfl⟩:=r;exact call_range_1 (Ig I1 () () q1 q2 (by simpa using q))
def kI (hg:Gl X "range") (hm:X.mg "range"= none) (ha:PA X [a,b] ta) (hs:starEach [a,b] X.env=[(false,eval a X.env),(false,eval b X.env)]<|>qe_) (hs2:starEach [b] X.env=[(false,eval b X.env)]<|>qe_) :
  PI X tg (.Call (.Name "range" p) [a,b] [] pos) (Vq ta):=by
 intro pins s U H R I h;refine Call_ (jB I hg hm boot_range (yM (cX (ha pos pins s U H _ I h) λus s1 z0=>?_) (by rw[hs,hs2]) (by rw[hs2];rfl)));let⟨vs,H1,I1,r1,q1⟩:=z0;let⟨i,j,e,⟨q1,q2,q3,q4⟩,q⟩:=q1;subst e;cases r1 with
 | cons r rr=>
  cases rr with
  | cons r' rr=>
   cases rr;let⟨t,rfl⟩:=r;let⟨t',rfl⟩:=r';exact call_range_2 (Ig I1 q1 q2 q3 q4 q)
def S8 (wi:TI) (g:TG) (tb:TS):TS:=λD U H=>wi U H λJ H1=>∃W:Nat->Nat->St->Hp->Prop,(∃m,W 0 m U H1)/\∀i m U H,W i m U H->
 (J.stop i H/\D.nx U H)\/(J.go i H/\∃N:St->Hp->Prop,(∀U' H',N U' H'->∃m',m'<m/\W (i+1) m' U' H')/\∀x H',J.JV i H x H'->g x U H' λσ2 H2=>tb {D with nx:=N,ct:=N,bk:=D.nx} σ2 H2)
noncomputable def tf (fp:List vE) (h:vF):List (vE×Obj):=fp.filterMap λb=>(h.get? b).map λo=>(b,o)
def gz (hb:b∈fp) (e:h.get? b=some o):(b,o)∈tf fp h:=vn.mpr {b,hb,by rw[e];rfl}
def M1 (hp:p∈tf fp h):p.1∈fp/\h.get? p.1=some p.2:=by
 let⟨b,hb,e⟩:=vn.mp hp;cases q:h.get? b with
 | none=>rw[q] at e;cases e
 | some o=>
  rw[q] at e;let e':(b,o)=p:=yk e;subst e';exact{(hb),q}
def Inv.pinned (I:Inv X pins U H s) (hf:∀b∈fp,qA X pins H b) (ho:∀b∈fp,∃o,s.heap.get? b=some o/\∀v,o.data≠.cell v):Inv X (pins++tf fp s.heap) U H s:=
 I.oA λp hp=>(zG.mp hp).elim (λz=>I.pin p (zI _ z)) λz=>by
  let⟨hb,e⟩:=M1 z;let⟨f0,f1,f2,_⟩:=hf p.1 hb;let⟨o,e',d⟩:=ho p.1 hb;rw[e] at e';cases e';exact{(e),f0,f1,f2,d}
def Inv.AG (I:Inv X (pins++pl) U H s):Inv X pins U H s:=I.oA λp hp=>I.pin p (zI _ (zJ _ hp))
def bY (hp:PassesOwn (model X.prog X.w) X.A X.env X.xe) (hc:X.calm=true) (hi:PI X tg iter wi) (hg:PG X tg g) (hb:EV X body tb)
  (hs:(∀x,foldedSetIterable iter X.env x=pure x)<|>qd_):PS X (.For tg iter body [] pos) (S8 wi g tb):=by
 intro pins s U H D I h;refine wpAny_For (cX (hi pins s U H _ I h) λv s1 h1=>cX h1 λitv s2 h2=>?_) hs;let⟨it,fp,tn,J,H2,e,I2,T,st2,f2,W,⟨m0,w0⟩,turn⟩:=h2;subst e;let stat:∀{H':Hp},(∀b∈fp,H' b=none)->∀b∈fp,qA X pins H' b:=λhn b hb=>{hn b hb,(f2 b hb).2}
 refine codeAny_forLoop_any (λn s'=>∃i U' H',Inv X pins U' H' s'/\tn i s'.heap/\(∀b∈fp,H' b=none)/\W i n U' H') ?_ m0 {0,U,H2,I2,st2,λb hb=>(f2 b hb).1,w0};rintro n s3 ⟨i,σ3,H3,I3,st3,fr3,w3⟩;rcases turn i n σ3 H3 w3 with⟨stop,qn⟩ | ⟨go,N,hN,step⟩
 ·refine xW hp (cX (T.done X rfl rfl rfl hc i pins s3 σ3 H3 X.xe I3 (stat fr3) st3 stop) λr s4 ⟨hr,I4⟩=>?_)
  subst hr;exact wy {σ3,H3,I4,qn}
 ·refine xW hp (cX (T.item X rfl rfl rfl hc i pins s3 σ3 H3 X.xe I3 (stat fr3) st3 go) λr s4 ⟨u,hr,h4⟩=>?_)
  subst hr;refine xW hp (cX h4 λ_ s5 z0=>?_);let⟨x,H5,I5,r5,y5,st5,fr5⟩:=z0;let I5':=I5.pinned (stat fr5) (T.obj _ _ st5);refine xW hp (cX (hg _ s5 σ3 H5 x u _ I5' r5 (step x H5 y5)) λ_ s6 z0=>?_);let⟨σ6,H6,I6,q6⟩:=z0;refine xW hp (cX (hb _ s6 σ6 H6 _ I6 q6) λf s7 q7=>?_);let again:∀{σ7:St} {H7:Hp},Inv X (pins++tf fp s5.heap) σ7 H7 s7->N σ7 H7->∃m,m<n/\∃i U' H',Inv X pins U' H' s7/\tn i s7.heap/\(∀b∈fp,H' b=none)/\W i m U' H':=λ{σ7 H7} I7 n7=>by
   let⟨m',hm,w7⟩:=hN σ7 H7 n7;refine{m',hm,i+1,σ7,H7,I7.AG,T.keep _ _ _ st5 λb hb o e=>(I7.pin (b,o) (zI _ (zI _ (gz hb e)))).1,λb hb=>?_,w7};let⟨o,e,d⟩:=T.obj _ _ st5 b hb;exact(I7.pin (b,o) (zI _ (zI _ (gz hb e)))).2.1
  cases f with
  | next=>let⟨σ7,H7,I7,n7⟩:=q7;exact again I7 n7
  | cont=>let⟨σ7,H7,I7,n7⟩:=q7;exact again I7 n7
  | brk=>let⟨σ7,H7,I7,q7⟩:=q7;exact{σ7,H7,I7.AG,q7}
  | ret v=>let⟨x7,σ7,H7,I7,r7,q7⟩:=q7;exact{x7,σ7,H7,I7.AG,r7,q7}
end
def eL {K:yB} {a:vE} {xs:List V} {g:TG} {tb:TS} {D:Ends} {U:St} {H:Hp} (Pv:Nat->St->Hp->Prop) (h0:Pv 0 U H) (hl:∀i U H,i<=⇑xs->Pv i U H->aH K H a xs)
  (hs:∀i x U H,xs[i]?=some x->Pv i U H->g x U H λσ2 H2=>tb {D with nx:=Pv (i+1),ct:=Pv (i+1),bk:=D.nx} σ2 H2) (hd:∀U H,Pv ⇑xs U H->D.nx U H) :
  ∃W:Nat->Nat->St->Hp->Prop,(∃m,W 0 m U H)/\∀i m U H,W i m U H->
   ((GX K a).stop i H/\D.nx U H)\/((GX K a).go i H/\∃N:St->Hp->Prop,(∀U' H',N U' H'->∃m',m'<m/\W (i+1) m' U' H')/\∀x H',(GX K a).JV i H x H'->g x U H' λσ2 H2=>tb {D with nx:=N,ct:=N,bk:=D.nx} σ2 H2):=by
 refine{λi m U H=>m=⇑xs-i/\i<=⇑xs/\Pv i U H,{⇑xs,by simp,yg _,h0},?_};rintro i m U H ⟨rfl,hi,p⟩;let q:=hl i U H hi p
 by_cases hlt:i<⇑xs
 ·refine .inr {{xs,xs[i],q,by simp[hlt]},Pv (i+1),λU' H' p'=>{⇑xs-(i+1),(),rfl,hlt,p'},λx H' y=>?_}
  let⟨e,y⟩:=y;subst e;exact hs i x U _ (y xs q) p
 ·let e:i=⇑xs:=()
  subst e;exact .inl {{xs,q,zm _},hd U H p}
def L7 {K:yB} {a:vE} {xs:List V} {g:TG} {tb:TS} {D:Ends} {U:St} {H:Hp} (Pv:Nat->St->Hp->Prop) (h0:Pv 0 U H) (hl:∀i U H,i<=⇑xs->Pv i U H->cW K H a xs)
  (hs:∀i x U H,xs[i]?=some x->Pv i U H->g x U H λσ2 H2=>tb {D with nx:=Pv (i+1),ct:=Pv (i+1),bk:=D.nx} σ2 H2) (hd:∀U H,Pv ⇑xs U H->D.nx U H) :
  ∃W:Nat->Nat->St->Hp->Prop,(∃m,W 0 m U H)/\∀i m U H,W i m U H->
   ((R7 K a).stop i H/\D.nx U H)\/((R7 K a).go i H/\∃N:St->Hp->Prop,(∀U' H',N U' H'->∃m',m'<m/\W (i+1) m' U' H')/\∀x H',(R7 K a).JV i H x H'->g x U H' λσ2 H2=>tb {D with nx:=N,ct:=N,bk:=D.nx} σ2 H2):=by
 refine{λi m U H=>m=⇑xs-i/\i<=⇑xs/\Pv i U H,{⇑xs,by simp,yg _,h0},?_};rintro i m U H ⟨rfl,hi,p⟩;let q:=hl i U H hi p
 by_cases hlt:i<⇑xs
 ·refine .inr {{xs,xs[i],q,by simp[hlt]},Pv (i+1),λU' H' p'=>{⇑xs-(i+1),(),rfl,hlt,p'},λx H' y=>?_}
  let⟨e,y⟩:=y;subst e;exact hs i x U _ (y xs q) p
 ·let e:i=⇑xs:=()
  subst e;exact .inl {{xs,q,zm _},hd U H p}
def gB {lo:Int} {n:Nat} {g:TG} {tb:TS} {D:Ends} {U:St} {H:Hp} (Pv:Nat->St->Hp->Prop) (h0:Pv 0 U H)
  (hs:∀i U H,i<n->Pv i U H->g (.int (lo+i)) U H λσ2 H2=>tb {D with nx:=Pv (i+1),ct:=Pv (i+1),bk:=D.nx} σ2 H2) (hd:∀U H,Pv n U H->D.nx U H) :
  ∃W:Nat->Nat->St->Hp->Prop,(∃m,W 0 m U H)/\∀i m U H,W i m U H->
   ((Lw lo n).stop i H/\D.nx U H)\/((Lw lo n).go i H/\∃N:St->Hp->Prop,(∀U' H',N U' H'->∃m',m'<m/\W (i+1) m' U' H')/\∀x H',(Lw lo n).JV i H x H'->g x U H' λσ2 H2=>tb {D with nx:=N,ct:=N,bk:=D.nx} σ2 H2):=by
 refine{λi m U H=>m=n-i/\i<=n/\Pv i U H,{n,by simp,yg _,h0},?_};rintro i m U H ⟨rfl,hi,p⟩
 by_cases hlt:i<n
 ·refine .inr {hlt,Pv (i+1),λU' H' p'=>{n-(i+1),(),rfl,hlt,p'},λx H' y=>?_}
  let⟨e,y⟩:=y;subst e y;exact hs i U _ hlt p
 ·let e:i=n:=()
  subst e;exact .inl {zm _,hd U H p}
end L2
namespace L2
open PySem PySem.Spec PyProof.Rows
abbrev R2:=V->V->Hp->VK->Prop
def oj (X:Cx) (f:vy->vy->Sem vy) (r:R2):Prop:=
 ∀(pins:List (vE×Obj)) (s:vz) (U:St) (H:Hp) (x y:V) (v u:vy) (Q:VK),Inv X pins U H s->RelV x v->RelV y u->r x y H Q->
  wpAny (model X.prog X.w) X.A (f v u) (EP X pins U Q) X.xe s
def W6 (X:Cx) (f:vy->Sem vy) (r:V->Hp->VK->Prop):Prop:=
 ∀(pins:List (vE×Obj)) (s:vz) (U:St) (H:Hp) (x:V) (v:vy) (Q:VK),Inv X pins U H s->RelV x v->r x H Q->
  wpAny (model X.prog X.w) X.A (f v) (EP X pins U Q) X.xe s
def fC (X:Cx) (f:vy) (r:List V->Hp->VK->Prop):Prop:=
 ∀(pins:List (vE×Obj)) (s:vz) (U:St) (H:Hp) (xs:List V) (us:List vy) (Q:VK),Inv X pins U H s->Vals xs us->r xs H Q->
  wpAny (model X.prog X.w) X.A (call f us) (EP X pins U Q) X.xe s
def eO (r:R2) (ta tb:TE):TE:=λU H Q=>ta U H λx H1=>tb U H1 λy H2=>r x y H2 Q
def Xs (r:V->Hp->VK->Prop) (ta:TE):TE:=λU H Q=>ta U H λx H1=>r x H1 Q
def rI (C:Int->Int->Prop) (g:Int->Int->V):R2:=λx y H Q=>∃i j,x=.int i/\y=.int j/\C i j/\Q (g i j) H
def sr (g:Int->Int->V):R2:=λx y H Q=>∃i j,x=.int i/\y=.int j/\Q (g i j) H
def rU (g:Int->V):V->Hp->VK->Prop:=λx H Q=>∃i,x=.int i/\Q (g i) H
section
variable {X:Cx} {a b c:Expr} {ta tb tc:TE} {pos:Pos}
def Ut (ha:PE X a ta) (hb:PE X b tb) {pins:List (vE×Obj)} {s:vz} {U:St} {H:Hp} {R:V->V->Hp->Prop} (I:Inv X pins U H s)
  (h:ta U H λx H1=>tb U H1 λy H2=>R x y H2) {Q:vy->vz->Prop} {f:vy->vy->Sem vy}
  (hf:∀v u s2 x y H2,Inv X pins U H2 s2->RelV x v->RelV y u->R x y H2->wpAny (model X.prog X.w) X.A (f v u) Q X.xe s2) :
  wpAny (model X.prog X.w) X.A (eval a X.env) (λv s₁=>wpAny (model X.prog X.w) X.A (eval b X.env) (λu s₂=>wpAny (model X.prog X.w) X.A (f v u) Q X.xe s₂) X.xe s₁) X.xe s:=by
 refine cX (ha pins s U H _ I h) λv s1 z0=>?_;let⟨x,H1,I1,r1,q1⟩:=z0;refine cX (hb pins s1 U H1 _ I1 q1) λu s2 z0=>?_;let⟨y,H2,I2,r2,q2⟩:=z0;exact hf v u s2 x y H2 I2 r1 r2 q2
def ax {op:Operator} {r:R2} (ho:oj X (binaryOp op) r) (ha:PE X a ta) (hb:PE X b tb):PE X (.BinOp a op b pos) (eO r ta tb):=by
 intro pins s U H Q I h;exact wpAny_BinOp (Ut ha hb I h λv u s2 x y H2 I2 rx ry q=>ho pins s2 U H2 x y v u Q I2 rx ry q)
def nL (ho:W6 X (unaryOp op) r) (ha:PE X a ta):PE X (.UnaryOp op a pos) (Xs r ta):=by
 intro pins s U H Q I h;refine UnaryOp_ (cX (ha pins s U H _ I h) λv s1 z0=>?_);let⟨x,H1,I1,r1,q1⟩:=z0;exact ho pins s1 U H1 x v Q I1 r1 q1
def UI {f:vy->vy->Sem vy} {C:Int->Int->Prop} {g:Int->Int->Int}
  (rule:∀(i j:Int) (t u:Tok) (s:vz) (Q:vy->vz->Prop) (E:vy->vz->Prop),C i j->Q (.int (g i j) s.toks) {s with toks:=s.toks+1}->wpAny (model X.prog X.w) X.A (f (.int i t) (.int j u)) Q E s) :
  oj X f (rI C λi j=>.int (g i j)):=by
 intro pins s U H x y v u Q I rx ry h;let⟨i,j,rfl,rfl,hc,q⟩:=h;let⟨t,rfl⟩:=rx;let⟨t',rfl⟩:=ry;exact rule i j t t' s _ _ hc {.int (g i j),H,I.tok _,{_,rfl},q}
def TQ {f:vy->vy->Sem vy} {g:Int->Int->Int}
  (rule:∀(i j:Int) (t u:Tok) (s:vz) (Q:vy->vz->Prop) (E:vy->vz->Prop),Q (.int (g i j) s.toks) {s with toks:=s.toks+1}->wpAny (model X.prog X.w) X.A (f (.int i t) (.int j u)) Q E s) :
  oj X f (sr λi j=>.int (g i j)):=by
 intro pins s U H x y v u Q I rx ry h;let⟨i,j,rfl,rfl,q⟩:=h;let⟨t,rfl⟩:=rx;let⟨t',rfl⟩:=ry;exact rule i j t t' s _ _ {.int (g i j),H,I.tok _,{_,rfl},q}
def Ru {f:vy->vy->Sem vy} {g:Int->Int->Bool}
  (rule:∀(i j:Int) (t u:Tok) (s:vz) (Q:vy->vz->Prop) (E:vy->vz->Prop),Q (.bool (g i j)) s->wpAny (model X.prog X.w) X.A (f (.int i t) (.int j u)) Q E s) :
  oj X f (sr λi j=>.bl (g i j)):=by
 intro pins s U H x y v u Q I rx ry h;let⟨i,j,rfl,rfl,q⟩:=h;let⟨t,rfl⟩:=rx;let⟨t',rfl⟩:=ry;exact rule i j t t' s _ _ {.bl (g i j),H,I,rfl,q}
def UD (i j:Int):Prop:=0<j/\j<1073741824
def N2 (i j:Int):Prop:=(-(2^64)<i/\i<2^64)\/(-(2^64)<j/\j<2^64)
def N2.ok (h:N2 i j):IntMulOk i j:=by
 rcases h with⟨h1,h2⟩ | ⟨h1,h2⟩
 ·exact .of_left (intBits_le_64 h1 h2)
 ·exact .of_right (intBits_le_64 h1 h2)
def J2 (k:Nat):(0:Int)<=2^k:=by
 rw[two_pow_cast];exact Int.natCast_nonneg _
def aQ:oj X (binaryOp .Add) (sr λi j=>.int (i+j)):=TQ λ_ _ _ _ _ _ _ q=>add_int q
def jt:oj X (binaryOp .Sub) (sr λi j=>.int (i-j)):=TQ λ_ _ _ _ _ _ _ q=>sub_int q
def dP:oj X (binaryOp .Mult) (rI N2 λi j=>.int (i*j)):=UI λ_ _ _ _ _ _ _ hc q=>mul_int q hc.ok
def aU:oj X (binaryOp .FloorDiv) (rI UD λi j=>.int (i/j)):=UI λi j _ _ _ _ _ hc q=>by
 let h1:(0:Int)<j:=hc.1;let h2:j<1073741824:=hc.2;exact floordiv_int () (by rw[vo i ()];exact q) (.inl (PyProof.noPylong_small ()))
def aR:oj X (binaryOp .Mod) (rI (λ_ j=>0<j) λi j=>.int (i%j)):=UI λi j _ _ _ _ _ hc q=>by
 let h1:(0:Int)<j:=hc;exact mod_int' () (by rw[Int.fmod_eq_emod_of_nonneg i ()];exact q)
def TM:oj X (binaryOp .RShift) (rI (λ_ j=>0<=j) λi j=>.int (i/2^j.toNat)):=UI λi j _ _ _ _ _ hc q=>
 rshift_int hc (by rw[vo i (J2 _)];exact q)
def TN:oj X (binaryOp .BitAnd) (sr λi j=>.int (Builtin.bitAnd i j)):=TQ λ_ _ _ _ _ _ _ q=>and_int q
def Xr {f:vy->Sem vy} {g:Int->Int}
  (rule:∀(i:Int) (t:Tok) (s:vz) (Q:vy->vz->Prop) (E:vy->vz->Prop),Q (.int (g i) s.toks) {s with toks:=s.toks+1}->wpAny (model X.prog X.w) X.A (f (.int i t)) Q E s) :
  W6 X f (rU λi=>.int (g i)):=by
 intro pins s U H x v Q I rx h;let⟨i,rfl,q⟩:=h;let⟨t,rfl⟩:=rx;exact rule i t s _ _ {.int (g i),H,I.tok _,{_,rfl},q}
def je:W6 X (unaryOp .USub) (rU λi=>.int (-i)):=Xr λ_ _ _ _ _ q=>neg_int q
end
noncomputable def Q3:V->V->Bool
 | .bP,.bP=>true | .bP,.int _=>true | .int _,.bP=>true | .bP,.bl _=>true | .bl _,.bP=>true | .bP,.str _=>true | .str _,.bP=>true
 | .int _,.int _=>true | .bl _,.bl _=>true | .str _,.str _=>true | .Mj _,.Mj _=>true
 | .int _,.str _=>true | .str _,.int _=>true | .bl _,.str _=>true | .str _,.bl _=>true
 | _,_=>false
def WL:R2:=λx y H Q=>Q3 x y=true/\Q (.bl (decide (x=y))) H
def WJ:R2:=λx y H Q=>Q3 x y=true/\Q (.bl (!decide (x=y))) H
def Ge:decide (V.int i=V.int j)=(i == j):=by
 rw[xO];simp
def Qj:decide (V.bl i=V.bl j)=(i == j):=by
 rw[xO];simp
def Gb:decide (V.str i=V.str j)=(i == j):=by
 rw[xO];simp
def Md:decide (V.Mj i=V.Mj j)=(i.toList == j.toList):=by
 rw[xO];cases i;cases j;simp
section
variable {X:Cx} {a b c:Expr} {ta tb tc:TE} {pos:Pos}
def cj (I:Inv X pins U H s) (q:Q (.bl k) H) (e:k=k'):EP X pins U Q (.bool k') s:=by
 subst e;exact{.bl k,H,I,rfl,q}
def cZ:oj X (compareOp .Eq) WL:=by
 intro pins s U H x y v u Q I rx ry h;let⟨hs,q⟩:=h;cases x with
 | bP=>
  cases rx;cases y with
  | bP=>cases ry;exact PySem.EqNone.eq_none_none (cj I q (by simp))
  | bl j=>cases ry;exact PySem.EqNone.eq_none_bool (cj I q (by simp))
  | int j=>let⟨t',rfl⟩:=ry;exact PySem.EqNone.eq_none_int (cj I q (by simp))
  | str j=>let⟨t',rfl⟩:=ry;exact PySem.EqNone.eq_none_str (cj I q (by simp))
  | _=>exact absurd (show false=true from hs) zL
 | bl i=>
  cases rx;cases y with
  | bP=>cases ry;exact PySem.EqNone.eq_bool_none (cj I q (by simp))
  | bl j=>cases ry;exact eq_bool (cj I q Qj)
  | str j=>let⟨t',rfl⟩:=ry;exact PySem.EqMixed.eq_bool_str (cj I q (by simp))
  | _=>exact absurd (show false=true from hs) zL
 | int i=>
  let⟨t,rfl⟩:=rx;cases y with
  | bP=>cases ry;exact PySem.EqNone.eq_int_none (cj I q (by simp))
  | int j=>let⟨t',rfl⟩:=ry;exact eq_int (cj I q Ge)
  | str j=>let⟨t',rfl⟩:=ry;exact PySem.EqMixed.eq_int_str (cj I q (by simp))
  | _=>exact absurd (show false=true from hs) zL
 | str i=>
  let⟨t,rfl⟩:=rx;cases y with
  | bP=>cases ry;exact PySem.EqNone.eq_str_none (cj I q (by simp))
  | bl j=>cases ry;exact PySem.EqMixed.eq_str_bool (cj I q (by simp))
  | int j=>let⟨t',rfl⟩:=ry;exact PySem.EqMixed.eq_str_int (cj I q (by simp))
  | str j=>let⟨t',rfl⟩:=ry;exact eq_str (cj I q Gb)
  | _=>exact absurd (show false=true from hs) zL
 | Mj i=>
  let⟨t,rfl⟩:=rx;cases y with
  | Mj j=>let⟨t',rfl⟩:=ry;exact PySem.W.eq_bytes (cj I q Md)
  | _=>exact absurd (show false=true from hs) zL
 | _=>cases y <;> exact absurd (show false=true from hs) zL
def kK:oj X (compareOp .NotEq) WJ:=by
 intro pins s U H x y v u Q I rx ry h;let⟨hs,q⟩:=h;cases x with
 | bP=>
  cases rx;cases y with
  | bP=>cases ry;exact PySem.EqNone.ne_none_none (cj I q (by simp))
  | bl j=>cases ry;exact PySem.EqNone.ne_none_bool (cj I q (by simp))
  | int j=>let⟨t',rfl⟩:=ry;exact PySem.EqNone.ne_none_int (cj I q (by simp))
  | str j=>let⟨t',rfl⟩:=ry;exact PySem.EqNone.ne_none_str (cj I q (by simp))
  | _=>exact absurd (show false=true from hs) zL
 | bl i=>
  cases rx;cases y with
  | bP=>cases ry;exact PySem.EqNone.ne_bool_none (cj I q (by simp))
  | bl j=>cases ry;exact ne_bool (cj I q (y6 not Qj))
  | str j=>let⟨t',rfl⟩:=ry;exact PySem.EqMixed.ne_bool_str (cj I q (by simp))
  | _=>exact absurd (show false=true from hs) zL
 | int i=>
  let⟨t,rfl⟩:=rx;cases y with
  | bP=>cases ry;exact PySem.EqNone.ne_int_none (cj I q (by simp))
  | int j=>let⟨t',rfl⟩:=ry;exact ne_int (cj I q (y6 not Ge))
  | str j=>let⟨t',rfl⟩:=ry;exact PySem.EqMixed.ne_int_str (cj I q (by simp))
  | _=>exact absurd (show false=true from hs) zL
 | str i=>
  let⟨t,rfl⟩:=rx;cases y with
  | bP=>cases ry;exact PySem.EqNone.ne_str_none (cj I q (by simp))
  | bl j=>cases ry;exact PySem.EqMixed.ne_str_bool (cj I q (by simp))
  | int j=>let⟨t',rfl⟩:=ry;exact PySem.EqMixed.ne_str_int (cj I q (by simp))
  | str j=>let⟨t',rfl⟩:=ry;exact ne_str (cj I q (y6 not Gb))
  | _=>exact absurd (show false=true from hs) zL
 | Mj i=>
  let⟨t,rfl⟩:=rx;cases y with
  | Mj j=>let⟨t',rfl⟩:=ry;exact PySem.W.ne_bytes (cj I q (y6 not Md))
  | _=>exact absurd (show false=true from hs) zL
 | _=>cases y <;> exact absurd (show false=true from hs) zL
def fe:oj X (compareOp .Lt) (sr λi j=>.bl (decide (i<j))):=Ru λ_ _ _ _ _ _ _ q=>lt_int q
def fX:oj X (compareOp .LtE) (sr λi j=>.bl (decide (i<=j))):=Ru λ_ _ _ _ _ _ _ q=>le_int q
def fq:oj X (compareOp .Gt) (sr λi j=>.bl (decide (j<i))):=Ru λ_ _ _ _ _ _ _ q=>gt_int q
def Iv:oj X (compareOp .GtE) (sr λi j=>.bl (decide (j<=i))):=Ru λ_ _ _ _ _ _ _ q=>ge_int q
def Er:oj X (compareOp .In) (λx y H Q=>∃i j,x=.str i/\y=.str j/\Q (.bl (!(Builtin.Str.occurrences j i 0 ⇑j 1).isEmpty)) H):=by
 intro pins s U H x y v u Q I rx ry h;let⟨i,j,rfl,rfl,q⟩:=h;let⟨t,rfl⟩:=rx;let⟨t',rfl⟩:=ry;exact in_str (cj I q rfl)
def jz (b:Expr) (h:op≠.In<|>qb_) (h2:op≠.NotIn<|>qb_):behindInMarks op b=false:=by
 let e1:(op == CmpOp.In)=false:=by cases op <;> first | rfl | exact absurd rfl h
 let e2:(op == CmpOp.NotIn)=false:=by cases op <;> first | rfl | exact absurd rfl h2
 cases b <;> simp[behindInMarks,e1,e2]
def dN (ho:oj X (compareOp op) r) (ha:PE X a ta) (hb:PE X b tb) (hm:behindInMarks op b=false):PE X (.Compare a [op] [b] pos) (eO r ta tb):=by
 intro pins s U H Q I h;exact wpAny_Compare1 (Ut ha hb I h λv u s2 x y H2 I2 rx ry q=>ho pins s2 U H2 x y v u Q I2 rx ry q) hm
def kF (t:TE):TT:=λU H Q=>t U H λx H'=>∃k,x=.bl k/\Q k H'
def gK (ho:oj X (compareOp op) r) (ha:PE X a ta) (hb:PE X b tb) (hm:behindInMarks op b=false):PT X (.Compare a [op] [b] pos) (kF (eO r ta tb)):=by
 intro pins s U H Q I h;refine wpAny_isTrue_Compare1 (cX (ha pins s U H _ I h) λv s1 z0=>?_) hm;let⟨x,H1,I1,r1,q1⟩:=z0;refine cX (hb pins s1 U H1 _ I1 q1) λu s2 z1=>?_;let⟨y,H2,I2,r2,q2⟩:=z1;refine cX (ho pins s2 U H2 x y v u _ I2 r1 r2 q2) λc s3 z2=>?_;let⟨z,H3,I3,r3,k,e,q3⟩:=z2;subst e;cases r3;exact xi {(H3),I3,q3}
def AQ (r r':R2) (ta tb tc:TE):TE:=λU H Q=>ta U H λx H1=>tb U H1 λy H2=>r x y H2 λz H3=>∃k,z=.bl k/\
 (if k=true then tc U H3 λw' H4=>r' y w' H4 Q else Q (.bl false) H3)
def Ip (ho:oj X (compareOp op) r) (ho':oj X (compareOp op') r') (ha:PE X a ta) (hb:PE X b tb) (hc:PE X c tc)
  (hm:lastMarks [op,op'] [b,c]=false<|>qf_):PE X (.Compare a [op,op'] [b,c] pos) (AQ r r' ta tb tc):=by
 intro pins s U H Q I h;refine Compare_chain (cX (ha pins s U H _ I h) λv s1 z0=>?_) hm;let⟨x,H1,I1,r1,q1⟩:=z0;refine chain_link (cX (hb pins s1 U H1 _ I1 q1) λu s2 z1=>?_);let⟨y,H2,I2,r2,q2⟩:=z1;refine cX (ho pins s2 U H2 x y v u _ I2 r1 r2 q2) λd s3 z2=>?_;let⟨z,H3,I3,r3,k,e,q3⟩:=z2;subst e;cases r3;refine xi ?_;cases k with
 | false=>exact ite_ff {.bl false,H3,I3,rfl,q3}
 | true=>exact ite_tt (chain_last (cX (hc pins s3 U H3 _ I3 q3) λw' s4 ⟨z',H4,I4,r4,q4⟩=>ho' pins s4 U H4 y z' u w' Q I4 r2 r4 q4))
def O4 (ho:oj X (compareOp op) r) (ho':oj X (compareOp op') r') (ha:PE X a ta) (hb:PE X b tb) (hc:PE X c tc)
  (hm:lastMarks [op,op'] [b,c]=false<|>qf_):PT X (.Compare a [op,op'] [b,c] pos) (kF (AQ r r' ta tb tc)):=by
 intro pins s U H Q I h;refine isTrue_chain (cX (ha pins s U H _ I h) λv s1 z0=>?_) hm;let⟨x,H1,I1,r1,q1⟩:=z0;refine test_link (cX (hb pins s1 U H1 _ I1 q1) λu s2 z1=>?_);let⟨y,H2,I2,r2,q2⟩:=z1;refine cX (ho pins s2 U H2 x y v u _ I2 r1 r2 q2) λd s3 z2=>?_;let⟨z,H3,I3,r3,k,e,q3⟩:=z2;subst e;cases r3;refine xi ?_;cases k with
 | false=>
  let⟨k',e',q'⟩:=q3;cases e';exact ite_ff {(H3),I3,q'}
 | true=>
  refine ite_tt (test_last (cX (hc pins s3 U H3 _ I3 q3) λw' s4 z0=>?_));let⟨z',H4,I4,r4,q4⟩:=z0;refine cX (ho' pins s4 U H4 y z' u w' _ I4 r2 r4 q4) λd' s5 z1=>?_;let⟨z2,H5,I5,r5,k2,e2,q5⟩:=z1;subst e2;cases r5;exact xi {(H5),I5,q5}
def BG:(sizeLine:Nat)<2^63:=by rw[yC];decide
def bZ:oj X (binaryOp .Add) (λx y H Q=>∃i j,x=.str i/\y=.str j/\⇑i+⇑j<=sizeLine/\Q (.str (i++j)) H):=by
 intro pins s U H x y v u Q I rx ry h;let⟨i,j,rfl,rfl,hz,q⟩:=h;let⟨t,rfl⟩:=rx;let⟨t',rfl⟩:=ry;exact add_str (λt' tk=>{.str (i++j),H,I.tok _,{_,rfl},q}) hz
def vals1 (r:Vals [x] us):∃u,us=[u]/\RelV x u:=by
 cases r with
 | cons r1 r2=>cases r2;exact{_,rfl,r1}
def vals2 (r:Vals [x,y] us):∃u w',us=[u,w']/\RelV x u/\RelV y w':=by
 cases r with
 | cons r1 r2=>
  cases r2 with
  | cons r3 r4=>cases r4;exact{_,_,rfl,r1,r3}
def JB:fC X (.builtin "abs") (λxs H Q=>∃i,xs=[.int i]/\Q (.int (if i<0 then -i else i)) H):=by
 intro pins s U H xs us Q I r h;let⟨i,rfl,q⟩:=h;let⟨u,rfl,t,rfl⟩:=vals1 r;exact call_abs_int λu tk=>{.int (if i<0 then -i else i),H,I.tok _,{_,rfl},q}
def NK (hc:X.calm=true):fC X (.builtin "min") (λxs H Q=>∃i j,xs=[.int i,.int j]/\Q (.int (if j<i then j else i)) H):=by
 intro pins s U H xs us Q I r h;let⟨i,j,rfl,q⟩:=h;let⟨u,w',rfl,⟨t,rfl⟩,⟨t',rfl⟩⟩:=vals2 r;refine min_two_ints (I.ok.hd hc) λh' tk k=>{_,H,I.kept k,?_,q}
 by_cases hj:j<i
 ·rw[yO hj,yO hj];exact{_,rfl}
 ·rw[yN hj,yN hj];exact{_,rfl}
def NM:fC X (.type "int") (λxs H Q=>(∃i,xs=[.int i]/\Q (.int i) H)\/∃k,xs=[.bl k]/\Q (.int (if k then 1 else 0)) H):=by
 intro pins s U H xs us Q I r h;rcases h with⟨i,rfl,q⟩ | ⟨k,rfl,q⟩
 ·let⟨u,rfl,t,rfl⟩:=vals1 r
  exact call_int_int {.int i,H,I,{_,rfl},q}
 ·let⟨u,rfl,r1⟩:=vals1 r
  cases r1;exact call_int_bool {.int (if k then 1 else 0),H,I.tok _,{_,rfl},q}
def aV:fC X (.type "str") (λxs H Q=>∃i,xs=[.int i]/\i.natAbs.log2<1920/\Q (.str (toString i)) H):=by
 intro pins s U H xs us Q I r h;let⟨i,rfl,hz,q⟩:=h;let⟨u,rfl,t,rfl⟩:=vals1 r;exact PySem.P.str_of_int hz {.str _,H,I.tok _,{_,rfl},q}
end
end L2
namespace L2
open PySem PySem.Spec PyProof.Rows
structure NZ (h:vF) (x dx C:vE) (mA:Str->Option vy):Prop where
 obj:h.get? x=some (PySem.W.instObj C dx)
 ns:h.Ns1 dx mA
 ne:dx≠x
def M8 {h:vF} {dx:vE} {mA:Str->Option vy} (n:h.Ns1 dx mA):∃od,h.get? dx=some od/\∀name,PySem.W.lookIn name od=some (mA name):=by
 let⟨o,es,ep,ho,hd,hk,_,hm⟩:=n;refine{o,ho,λname=>?_};let e:=hm name;unfold nsFind findBy at e;rw[<-Array.find?_toList] at e;unfold PySem.W.lookIn;rw[hd];dsimp only;split
 ·rename_i y q
  rw[q] at e;exact y6 some e
 ·rename_i q
  rw[q] at e;let a:es.toList.any (·.refKey)=false:=by
   rw[vt];intro y hy;let⟨z,t,hkey⟩:=hk y (Array.mem_toList_iff.mp hy);simp[DictEntry.refKey,hkey]
  let a':¬es.toList.any (·.refKey)=true:=by rw[a];exact zL
  rw[yN a'];exact y6 some e
def NZ.look (I:NZ h x dx C mA):∃od,PySem.W.InstAt h x (PySem.W.instObj C dx) C (some od)/\∀name,PySem.W.lookIn name od=some (mA name):=
 let ⟨od,ho,hl⟩:=M8 I.ns
 {od,{(I.obj),rfl,rfl,ho},hl}
section
variable {prog:vA} {w:vB} {A:vC} {E:vy->vz->Prop} {s:vz} {K:yB} {x dx C f:vE} {mA:Str->Option vy} {name:Str} {v:vy}
def get_map (X:K.In s.heap) (I:NZ s.heap x dx C mA) (hg:PySem.W.plainGet K C name=true) (hh:PySem.W.hasDictIn K C=true)
  (ha:PySem.W.findIn K (.ref C) name=some none) (hv:mA name=some v) (hv':PySem.W.handedIn v=true) (h:Q v {s with toks:=s.toks+1}) :
  wpAny (model prog w) A (getAttr (.ref x) name expr) Q E s:=by
 let⟨od,J,hl⟩:=I.look;exact PySem.W.get_value X J (PySem.W.plainGet_of hg).1 (PySem.W.findObj_own hh ha rfl (by rw[hl,hv])) hv' h
def Q2 (X:K.In s.heap) (I:NZ s.heap x dx C mA)
  (hs:PySem.W.findIn K (.ref C) "__setattr__"= some (some (.builtin "object.__setattr__"))) (hp:PySem.W.plainOver K C=true) (ht:PySem.W.takerIn K C name=some none) (hh:PySem.W.hasDictIn K C=true)
  (hw:PySem.Within mA ns) (hsz:⇑ns<=sizeLine)
  (h:∀h',NZ h' x dx C (λy=>if y=name then some v else mA y)->Heap.SameBut dx s.heap h'->Q .unit {s with heap:=h',toks:=s.toks+2}) :
  wpAny (model prog w) A (setAttr (.ref x) name v) Q E s:=by
 let⟨od,J,hl⟩:=I.look;refine PySem.W.set_plain X J hs (PySem.W.osa_open (s:={s with toks:=s.toks+1}) (r:=none) X J hp ht λb=>?_);let⟨cd,hc,hd'⟩:=PySem.W.any_some hh;let hx:s.heap.get? x=some ⟨.ref C,some dx,.plain,#[]⟩:=I.obj;refine yu (yw (yu (yu (wpAny_loadPart hx (yu (PySem.W.Looks.here (s:={s with toks:=s.toks+1}) (PySem.W.looks_clsIn X hc) ?_))))));rw[hd'];refine yw (a:=some dx) (yu (yw (yu ?_)));refine wpAny_nsSet1 (s:={s with toks:=s.toks+1}) I.ns λh' hn2 hs2=>?_;let⟨oD,esD,epD,hoD,hdD,hcD⟩:=hn2.count (PySem.Within.cons name v hw);refine yu (wpAny_lookBehind hoD (by rw[hdD];exact pastItsLine_dict (zM hcD (by rw[zv];ext))) ?_);exact yw (h _ {(hs2.2 _ (Ne.symm I.ne)).trans I.obj,hn2,I.ne} hs2)
def Pz (X:K.In s.heap) (hm:PySem.W.makesIn K C=true)
  (hi:PySem.W.findIn K (.ref C) "__init__"= some (some (.ref f))) (hf:PySem.W.typeIn K (.ref f)=some (.type "function"))
  (h:codeAny (model prog w) (A.under (.builtin "type.__call__" {.ref C::vs,kw})) (.call (.ref f) {.ref (↑s+1)::vs,kw}) (PySem.W.InitBack (↑s+1) R)
   {s with heap:=(s.heap.push PySem.W.emptyDict).push (PySem.W.instObj C ↑s)}) :
  codeAny (model prog w) A (.call (.ref C) {(vs),kw}) R s:=by
 let⟨hh,g,d,t,os⟩:=s;exact PySem.W.make_core (PySem.W.makes_of X hm) (PySem.W.looks_findIn X hi) (λself=>PySem.W.bind_fn X self hf) (.inl rfl) h
end
noncomputable def aX (f:Str) (v:V):List (Str×V)->List (Str×V)
 | []=>[(f,v)]
 | (g,x)::r=>if g=f then(g,v)::r else(g,x)::aX f v r
theorem uD (f g:Str) (v:V):∀fs:List (Str×V),(aX f v fs).lookup g=if g=f then some v else fs.lookup g
 | []=>by
  show List.lookup g [(f,v)]=_
  by_cases h:g=f
  ·let hb:(g == f)=true:=vi.mpr h
   simp only[List.lookup,hb,yO h]
  ·let hb:(g == f)=false:=xG.mpr h
   simp only[List.lookup,hb,yN h]
 | (k,x)::r=>by
  let ih:=uD f g v r;rw[show aX f v ((k,x)::r)=(if k=f then(k,v)::r else(k,x)::aX f v r) from rfl]
  by_cases hk:k=f
  ·rw[yO hk]
   by_cases h:g=k
   ·let hb:(g == k)=true:=vi.mpr h
    simp only[List.lookup,hb,yO (h.trans hk)]
   ·let hb:(g == k)=false:=xG.mpr h
    simp only[List.lookup,hb,yN (λe:g=f=>h (e.trans hk.symm))]
  ·rw[yN hk]
   by_cases h:g=k
   ·let hb:(g == k)=true:=vi.mpr h
    simp only[List.lookup,hb,yN (λe:g=f=>hk (h.symm.trans e))]
   ·let hb:(g == k)=false:=xG.mpr h
    simp only[List.lookup,hb];exact ih
theorem tM (f:Str) (v:V):∀fs:List (Str×V),f∈(aX f v fs).map (·.1)/\∀g,g∈fs.map (·.1)->g∈(aX f v fs).map (·.1)
 | []=>{by simp[aX],λg h=>by simp at h}
 | (k,x)::r=>by
  let⟨i1,i2⟩:=tM f v r;rw[show aX f v ((k,x)::r)=(if k=f then(k,v)::r else(k,x)::aX f v r) from rfl]
  by_cases hk:k=f
  ·rw[yO hk]
   subst hk;exact{by simp,λg h=>by simpa using h}
  ·rw[yN hk]
   refine{?_,λg h=>?_}
   ·rw[zj]
    exact zp _ i1
   ·rw[zj] at h ⊢
    rcases zD.mp h with e | e
    ·exact zD.mpr (.inl e)
    ·exact zp _ (i2 g e)
theorem uE (f:Str) (v:V):∀fs:List (Str×V),⇑(aX f v fs)<=⇑fs+1
 | []=>by simp[aX]
 | (k,x)::r=>by
  let ih:=uE f v r;rw[show aX f v ((k,x)::r)=(if k=f then(k,v)::r else(k,x)::aX f v r) from rfl]
  by_cases hk:k=f
  ·rw[yO hk,zv,zv];ext
  ·rw[yN hk,zv,zv];ext
def mf.some_of (r:mf (some v) o):∃u,o=some u/\RelV v u:=by
 cases o with
 | none=>exact(show False from r).elim
 | some u=>exact{(u),rfl,r}
def Nj (r:RelV v u):PySem.W.handedIn u=true:=by
 cases v with
 | bP=>cases(show u=Value.none from r);rfl
 | bl b=>cases(show u=Value.bool b from r);rfl
 | int i=>let⟨t,e⟩:=(show∃t,u=Value.int i t from r);cases e;rfl
 | str x=>let⟨t,e⟩:=(show∃t,u=Value.str x t from r);cases e;rfl
 | Mj b=>let⟨t,e⟩:=(show∃t,u=Value.bytes b t from r);cases e;rfl
 | RI b=>let⟨t,e⟩:=(show∃t,u=Value.float b t from r);cases e;rfl
 | ref a=>cases(show u=Value.ref a from r);rfl
 | ty n=>cases(show u=Value.type n from r);rfl
section
variable {P:vA} {w:vB} {H H':Hp} {h h':vF} {a C dx:vE} {fs fs':List (Str×V)}
def F1 (b9:qt P w H h) (e:H a=some (.ins C dx fs)):∃mA,NZ h a dx C mA/\(∀f,mf (fs.lookup f) (mA f))/\PySem.Within mA (fs.map (·.1))/\⇑fs<=1000/\H dx=some (.own a):=by
 let⟨d,z,ne,ob,mA,n,r,q⟩:=(show cC P w H h a (.ins C dx fs) from b9 a _ e)
 exact{mA,{(ob),n,ne},r,q,z,d}
end
structure Sa (K:yB) (C:vE):Prop where
 pg:PySem.W.plainGet K C Str.empty=true
 hd:PySem.W.hasDictIn K C=true
 po:PySem.W.plainOver K C=true
 sa:PySem.W.findIn K (.ref C) "__setattr__"= some (some (.builtin "object.__setattr__"))
def Sa.get {K:yB} {C:vE} (c:Sa K C) (f:Str):PySem.W.plainGet K C f=true:=c.pg
def eN (K:yB) (C:vE) (f:Str):Prop:=PySem.W.findIn K (.ref C) f=some none
def eN.UU {K:yB} {C:vE} {f:Str} (n:eN K C f):PySem.W.takerIn K C f=some none:=by
 unfold PySem.W.takerIn;rw[show PySem.W.findIn K (.ref C) f=some none from n];rfl
section
variable {X:Cx} {pins:List (vE×Obj)} {U:St} {H:Hp} {s:vz} {a C dx:vE} {fs:List (Str×V)} {f:Str} {v:V} {A:vC} {E:vy->vz->Prop}
def KP (I:Inv X pins U H s) (e:H a=some (.ins C dx fs)) (c:Sa X.K C) (n:eN X.K C f) (l:fs.lookup f=some v)
  (h:∀u s',Inv X pins U H s'->RelV v u->Q u s'):wpAny (model X.prog X.w) A (getAttr (.ref a) f b) Q E s:=by
 let⟨mA,O,r,_,_,_⟩:=F1 I.b9 e;let⟨u,hu,ru⟩:=mf.some_of (v:=v) (o:=mA f) (by rw[<-l];exact r f);exact get_map I.rF O (c.get f) c.hd n hu (Nj ru) (h u _ (I.tok _) ru)
def Ke (I:Inv X pins U H s) (e:H a=some (.ins C dx fs)) (c:Sa X.K C) (n:eN X.K C f) (hl:⇑fs<1000) (ry:RelV y u)
  (h:∀s',Inv X pins U (upd H a (.ins C dx (aX f y fs))) s'->Q .unit s'):wpAny (model X.prog X.w) A (setAttr (.ref a) f u) Q E s:=by
 let⟨mA,O,r,wi,_,ho⟩:=F1 I.b9 e;let hz:⇑(fs.map (·.1))<=sizeLine:=by rw[za,yC];ext
 refine Q2 I.rF O c.sa c.po n.UU c.hd wi hz λh' O' sb=>h _ ?_;let hd:∃o,h'.get? dx=some o:=let ⟨o,_,_,e',_⟩:=O'.ns;{(o),e'};refine I.write (x:=a) (e:=dx) (by rw[e];exact True.intro) (.inr ho) (λb q hb z=>(sb.2 b hb).trans z) hd ?_;refine{by rw[aC O.ne];exact ho,?_,O.ne,O'.obj,_,O'.ns,λg=>?_,λg hg=>?_}
 ·have:=uE f y fs;ext
 ·show mf ((aX f y fs).lookup g) (if g=f then some u else mA g)
  rw[uD]
  by_cases q:g=f
  ·rw[yO q,yO q];exact ry
  ·rw[yN q,yN q];exact r g
 ·by_cases q:g=f
  ·rw[q];exact(tM f y fs).1
  ·refine(tM f y fs).2 g (wi g λz=>hg ?_)
   show(if g=f then some u else mA g)=none;rw[yN q];exact z
def Inv.made (I:Inv X pins U H s):Inv X pins U (upd (upd H ↑s (.own (↑s+1))) (↑s+1) (.ins C ↑s []))
  {s with heap:=(s.heap.push PySem.W.emptyDict).push (PySem.W.instObj C ↑s)}:=by
 let e1:(s.heap.push PySem.W.emptyDict).get? ↑s=some PySem.W.emptyDict:=yx s.heap rfl;let e2:((s.heap.push PySem.W.emptyDict).push (PySem.W.instObj C ↑s)).get? (↑s+1)=some (PySem.W.instObj C ↑s):=by
  have:=yx (s.heap.push PySem.W.emptyDict) (o:=PySem.W.instObj C ↑s) rfl
  rwa [xm] at this
 let e3:(s.heap.push PySem.W.emptyDict).Ns ↑s (λ_=>none):={PySem.W.emptyDict,#[],_,e1,rfl,(λe he=>absurd he (by simp)),λ_=>rfl}
 let I1:=I.laid (a:=↑s) (o:=.own (↑s+1)) (h':=s.heap.push PySem.W.emptyDict) (t':=s.toks) (λb u q=>yv _ q) (zm _) {_,e1};refine I1.laid (a:=↑s+1) (o:=.ins C ↑s []) (t':=s.toks) (λb u q=>yv _ q) (Nat.le_of_eq (xm _ _)) ?_;let ne:↑s≠↑s+1:=yj (xR _);refine{by rw[aC ne,aB],yg _,ne,e2,λ_=>none,(Heap.Ns1.of_empty e3).at λo q=>yv _ q,λ_=>True.intro,λy hy=>absurd rfl hy}
def RY (hb:attributeBase e f env (eval e env)=eval e env)
  (h:wpAny (model prog w) A (eval e env) (λo s₁=>wpAny (model prog w) A (getAttr o f true) Q E s₁) E s):wpAny (model prog w) A (eval (.Attribute e f pos) env) Q E s:=
 Attribute_any_ h (by rw[arm_eval_Attribute,hb])
end
def QV (K:yB) (ta:TE) (f:Str):TE:=λU H Q=>ta U H λx H1=>∃a C dx fs v,x=.ref a/\H1 a=some (.ins C dx fs)/\Sa K C/\eN K C f/\fs.lookup f=some v/\Q v H1
def WH (K:yB) (ta tv:TE) (f:Str):TS:=λD U H=>tv U H λy H1=>ta U H1 λx H2=>∃a C dx fs,x=.ref a/\H2 a=some (.ins C dx fs)/\Sa K C/\eN K C f/\⇑fs<1000/\
 D.nx U (upd H2 a (.ins C dx (aX f y fs)))
section
variable {X:Cx} {o e value:Expr} {f:Str} {pos pos' tpos:Pos} {ta tv:TE}
def bO (he:PE X e ta) (hb:attributeBase e f X.env (eval e X.env)=eval e X.env):PE X (.Attribute e f pos) (QV X.K ta f):=by
 intro pins s U H Q I h;refine RY hb (cX (he pins s U H _ I h) λu s1 z0=>?_);let⟨x,H1,I1,rx,a,C,dx,fs,v,ex,ea,c,n,l,q⟩:=z0;subst ex;obtain rfl:u=Value.ref a:=rx;exact KP I1 ea c n l λu' s2 I2 ru=>{(v),H1,I2,ru,q}
def jq (ha:PE X o ta) (hv:PE X value tv) (hs:swapsWith value (some (.Attribute o f pos')) pos.line X.env=pure false):PS X (.Assign [.Attribute o f pos'] value pos) (WH X.K ta tv f):=by
 intro pins s U H D I h;refine plainObj_wpAny_Assign_Attribute (cX (hv pins s U H _ I h) λu s1 z0=>?_) hs;let⟨y,H1,I1,ry,q⟩:=z0;refine cX (ha pins s1 U H1 _ I1 q) λov s2 z1=>?_;let⟨x,H2,I2,rx,a,C,dx,fs,ex,ea,c,n,l,q2⟩:=z1;subst ex;obtain rfl:ov=Value.ref a:=rx;exact Ke I2 ea c n l ry λs3 I3=>{U,_,I3,q2}
end
section
variable {X:Cx} {pins:List (vE×Obj)} {U:St} {H:Hp} {s:vz} {A:vC} {E:vy->vz->Prop} {Q:vy->vz->Prop} {c:vy} {b:Bool}
inductive ui (K:yB) (H:Hp):V->vy->Prop where
 | bP:ui K H .bP (.type "NoneType")
 | bl (x:Bool):ui K H (.bl x) (.type "bool")
 | int (i:Int):ui K H (.int i) (.type "int")
 | str (x:Str):ui K H (.str x) (.type "str")
 | RI (x:UInt64):ui K H (.RI x) (.type "float")
 | lst {a:vE} {xs:List V} (e:H a=some (.lst xs)):ui K H (.ref a) (.type "list")
 | mV {a:vE} {o:Obj} {xs:List V} (e:H a=some (.mV o (.lst xs))):ui K H (.ref a) (.type "list")
 | tup {a:vE} {xs:List V} (e:H a=some (.tup xs)):ui K H (.ref a) (.type "tuple")
 | dK {a:vE} {kvs:List (Key×V)} (e:H a=some (.dK kvs)):ui K H (.ref a) (.type "dict")
 | dT {a:vE} {kvs:List (List Key×V)} (e:H a=some (.dT kvs)):ui K H (.ref a) (.type "dict")
 | ins {a C dx:vE} {fs:List (Str×V)} (e:H a=some (.ins C dx fs)) (cl:Sa K C) (ha:PySem.W.findIn K (.ref C) "__class__"= some (some (.builtin "object.__class__")))
   (hn:PySem.W.specialIn K (.builtin "object.__class__") "__get__"= some (some (.builtin "getset_descriptor.__get__"))) (htk:PySem.W.takesIn K (.builtin "object.__class__")=some true)
   (hm:PySem.W.mroIn K C (.type "object")=some true):ui K H (.ref a) (.ref C)
def Nf (I:Inv X pins U H s) (rx:RelV x u) (ty:ui X.K H x t) (e:PySem.W.kitOne X.K t c=some b) (h:∀tk,Q (.bool b) {s with toks:=tk}) :
  wpAny (model X.prog X.w) A (call (.builtin "isinstance") [u,c]) Q E s:=by
 cases ty with
 | bP=>cases(show u=Value.none from rx);exact xn PySem.W.kitx_none I.rF True.intro e (λz=>nomatch z) h
 | bl y=>cases(show u=Value.bool y from rx);exact xn PySem.W.kitx_bool I.rF True.intro e (λz=>nomatch z) h
 | int i=>let⟨t,q⟩:=(show∃t,u=Value.int i t from rx);cases q;exact xn PySem.W.kitx_int I.rF True.intro e (λz=>nomatch z) h
 | str y=>let⟨t,q⟩:=(show∃t,u=Value.str y t from rx);cases q;exact xn PySem.W.kitx_str I.rF True.intro e (λz=>nomatch z) h
 | RI y=>let⟨t,q⟩:=(show∃t,u=Value.float y t from rx);cases q;exact xn PySem.W.kitx_float I.rF True.intro e (λz=>nomatch z) h
 | @lst a xs ea=>
  cases(show u=Value.ref a from rx);let⟨_,_,n,_,h1⟩:=(show cC X.prog X.w H s.heap a (.lst xs) from I.b9 a _ ea)
  exact xn PySem.W.kitx_list I.rF {_,h1,rfl} e (λz=>nomatch z) h
 | @mV a ob xs ea=>
  cases(show u=Value.ref a from rx);let⟨_,_,_,n,_,h1⟩:=(show cC X.prog X.w H s.heap a (.mV ob (.lst xs)) from I.b9 a _ ea)
  exact xn PySem.W.kitx_list I.rF {_,h1,rfl} e (λz=>nomatch z) h
 | @tup a xs ea=>
  cases(show u=Value.ref a from rx);let⟨_,_,_,p⟩:=(show cC X.prog X.w H s.heap a (.tup xs) from I.b9 a _ ea)
  let⟨o,h1,h2,_⟩:=p;exact xn PySem.W.kitx_tuple I.rF {(o),h1,h2} e (λz=>nomatch z) h
 | @dK a kvs ea=>
  cases(show u=Value.ref a from rx);let⟨_,_,vs,_,p⟩:=(show cC X.prog X.w H s.heap a (.dK kvs) from I.b9 a _ ea)
  let⟨o,es,ep,h1,h2,_⟩:=p;exact xn PySem.W.kitx_dict I.rF {(o),h1,h2.1} e (λz=>nomatch z) h
 | @dT a kvs ea=>
  cases(show u=Value.ref a from rx);let⟨_,_,xs,_,o,es,ep,h1,h2,_⟩:=(show cC X.prog X.w H s.heap a (.dT kvs) from I.b9 a _ ea)
  exact xn PySem.W.kitx_dict I.rF {(o),h1,h2.1} e (λz=>nomatch z) h
 | @ins a C dx fs ea cl ha hn htk hm=>
  cases(show u=Value.ref a from rx);let⟨mA,O,_⟩:=F1 I.b9 ea;let⟨od,J,_⟩:=O.look;exact xn (PySem.W.kitx_own (cl.get _) cl.hd ha hn htk hm) I.rF J e (λz=>nomatch z) h
end
end L2
namespace L2
open PySem PySem.Spec PyProof.Rows
structure fP (k:Nat) (A:vC):Prop where
 hd:A.handled=none
 dp:A.depth+3*k+5<recursionLimit
 un:A.units+16*k+200<cLine
def fP.mono (r:fP k A) (h:j<=k):fP j A:={r.hd,by have:=r.dp;ext,by have:=r.un;ext}
theorem fP.deeper (r:fP (k+1) A) (env:Env):fP k (A.deeper env):=
 {r.hd,by have:=r.dp;show A.depth+1+3*k+5<_;ext,by have:=r.un;show A.units+3+16*k+200<_;ext}
def KJ {A:vC} {C:vE} {us:List vy} {kw:List (Str×vy)}:(A.under (.builtin "type.__call__" {.ref C::us,kw})).depth=A.depth+1:=by
 first | rfl | simp[Around.under,Code.weight,Code.isCreation,Code.isGuard,Code.isCaller,Code.frames,Code.isFrame,guardIds]
def KI {A:vC} {C:vE} {us:List vy} {kw:List (Str×vy)}:(A.under (.builtin "type.__call__" {.ref C::us,kw})).units=A.units+1:=by
 first | rfl | simp[Around.under,Code.cUnits,Code.frames,Code.isFrame]
def fP.make (r:fP (k+1) A) (C:vE) (us:List vy) (kw:List (Str×vy)):fP k (A.under (.builtin "type.__call__" {.ref C::us,kw})):=
 {r.hd,by have:=r.dp;rw[KJ];ext,by have:=r.un;rw[KI];ext}
theorem fP.depth (r:fP k A):A.depth<recursionLimit:=by have:=r.dp;ext
theorem fP.units (r:fP k A):A.units+64<cLine:=by have:=r.un;ext
def dY:TA:=λ_ H Q=>Q [] H
def bI (ta:TE) (tr:TA):TA:=λU H Q=>ta U H λx H1=>tr U H1 λxs H2=>Q (x::xs) H2
section
variable {X:Cx} {e:Expr} {es:List Expr} {te:TE} {t:TA} {pos:Pos}
def ag:PA X [] dY:=λ_ _ _ _ H Q I h=>vw {[],H,I,.nil,h}
def ah (ha:PE X e te) (hr:PA X es t) (hs:starEach (e::es) X.env=(false,eval e X.env)::starEach es X.env<|>qe_):PA X (e::es) (bI te t):=by
 intro pos pins s U H Q I h;rw[hs];show wpAny _ _ (spliced ((false,eval e X.env)::backTo pos (starEach es X.env))) _ _ s;refine wF (cX (ha pins s U H _ I h) λu s1 z0=>?_);let⟨x,H1,I1,r1,q1⟩:=z0;refine cX (hr pos pins s1 U H1 _ I1 q1) λus s2 z0=>?_;let⟨xs,H2,I2,r2,q2⟩:=z0;exact{x::xs,H2,I2,.cons r1 r2,q2}
def Ho (t:TA):TE:=λU H Q=>t U H λxs H1=>⇑xs<=sizeLine/\∀p,H1 p=none->Q (.ref p) (upd H1 p (.tup xs))
def Hs (t:TA):TE:=λU H Q=>t U H λxs H1=>⇑xs<=sizeLine/\∀p,H1 p=none->Q (.ref p) (upd H1 p (.lst xs))
def bF {x1} (h:PA X es t):PE X (.Tuple es x1 pos) (Ho t):=by
 intro pins s U H Q I hq;refine wpAny_Tuple_spliced (cX (h pos pins s U H _ I hq) λus s1 z0=>?_);let⟨xs,H1,I1,r,z,q⟩:=z0;refine{by rw[<-⇑r];exact z,?_};let hf:H1 ↑s1=none:=I1.b9.fresh (zm _);refine{.ref ↑s1,upd H1 ↑s1 (.tup xs),I1.laid (t':=s1.toks) (λb u e=>yv _ e) (zm _) ?_,rfl,q _ hf};exact{z,us,r,{_,yx _ rfl,rfl,_,rfl}}
def aZ (h:PA X es t):PE X (.List es pos) (Hs t):=by
 intro pins s U H Q I hq;refine wpAny_List_spliced (cX (h pos pins s U H _ I hq) λus s1 z0=>?_);let⟨xs,H1,I1,r,z,q⟩:=z0;refine{by rw[<-⇑r];exact z,?_};let hf:H1 ↑s1=none:=I1.b9.fresh (zm _);refine{.ref ↑s1,upd H1 ↑s1 (.lst xs),I1.laid (t':=s1.toks) (λb u e=>yv _ e) (zm _) ?_,rfl,q _ hf};exact{z,us,0,r,yx _ rfl}
end
abbrev Sp:=List V->Hp->VK->XK->Prop
abbrev LA:=List Env->Hp->vz->XK->vy->vz->Prop
structure JR (P:vA) (w:vB) (K:yB) (mg:Str->Option vy) (base:vF) (A:vC) (outer:List Env) (s:vz) (H:Hp):Prop where
 frames:A.frames=some outer
 mod:Mod K mg base
 bs:∀b o,base.get? b=some o->s.heap.get? b=some o/\H b=none
 N6:base.objs.size<=↑s
 oU:s.heap.FunFrames base outer
 IY:∀b∈o7 outer,H b=none
 b9:qt P w H s.heap
 bare:AllBare s.gens
def CE (outer:List Env) (P:vA) (w:vB) (H:Hp) (s:vz) (Q:VK) (u:vy) (s':vz):Prop:=
 ∃v H',s'.os=s.os/\AllBare s'.gens/\Un (o7 outer) [] H H' s.heap s'.heap/\qt P w H' s'.heap/\RelV v u/\Q v H'
def CR (CX:LA) (outer:List Env) (P:vA) (w:vB) (H:Hp) (s:vz) (Q:VK) (E:XK) (r:Result) (s':vz):Prop:=
 match r with
 | .ok (.ret u)=>CE outer P w H s Q u s'
 | .ok _=>False
 | .error e=>CX outer H s E e s'
structure dB (P:vA) (w:vB) (K:yB) (mg:Str->Option vy) (base:vF) (CX:LA) (k:Nat) (f:vE) (fd:vD) (ps:List Str) (sp:Sp):Prop where
 len:∀vs H Q E,sp vs H Q E->⇑vs=⇑ps
 run:∀(A:vC) (outer:List Env) (s:vz) (H:Hp) (args:Args) (us:List vy) (vs:List V) (Q:VK) (E:XK),fP k A->JR P w K mg base A outer s H->BindsTo s fd args (ps.zip us)->Vals vs us->sp vs H Q E->
  codeAny (model P w) A (.call (.ref f) args) (CR CX outer P w H s Q E) s
theorem dB.mono {P:vA} {w:vB} {K:yB} {mg:Str->Option vy} {base:vF} {CX:LA} {j k:Nat} {f:vE} {fd:vD} {ps:List Str} {sp:Sp} (F:dB P w K mg base CX j f fd ps sp) (h:j<=k) :
  dB P w K mg base CX k f fd ps sp:={F.len,λA outer s H args us vs Q E hr=>F.run A outer s H args us vs Q E (hr.mono h)}
def JR.make {P:vA} {w:vB} {K:yB} {mg:Str->Option vy} {base:vF} {A:vC} {outer:List Env} {s:vz} {H:Hp} (e:JR P w K mg base A outer s H) (C:vE) (us:List vy) (kw:List (Str×vy)) :
  JR P w K mg base (A.under (.builtin "type.__call__" {.ref C::us,kw})) outer s H:={by first | exact e.frames | (simpa[Around.under,Code.envs,Code.isFrame,pushEnvs] using e.frames),e.mod,e.bs,e.N6,e.oU,e.IY,e.b9,e.bare}
section
variable {X:Cx} {pins:List (vE×Obj)} {U:St} {H:Hp} {s s':vz}
def Inv.RN (I:Inv X pins U H s):JR X.prog X.w X.K X.mg X.base X.A X.stack s H:=
 {I.ok.frames,I.ok.mod,I.bs,zM I.ok.N6 I.sz,I.stack,I.qG,I.b9,I.bare}
def Inv.after (I:Inv X pins U H s) (h:CE X.stack X.prog X.w H s Q u s'):EP X pins U Q u s':=by
 let⟨v,H',os,bare,un,b9,r,q⟩:=h;let⟨hh,g,d,t,os'⟩:=s';obtain rfl:os'=s.os:=os;exact{v,H',I.call (h':=hh) (g':=g) (d':=d) (t':=t) (ch:=[]) un b9 bare (λb z=>absurd z (by simp)),r,q}
end
def fR (sp:Sp) (dvs:List V) (E:XK) (t:TA):TE:=λU H Q=>t U H λvs H1=>sp (vs++dvs) H1 Q E
def U0 (C:vE) (sp:Sp) (dvs:List V) (E:XK) (t:TA):TE:=λU H Q=>t U H λvs H1=>∀x dx,H1 x=none->H1 dx=none->dx≠x->
 sp (.ref x::(vs++dvs)) (upd (upd H1 dx (.own x)) x (.ins C dx [])) (λv H2=>v=.bP/\Q (.ref x) H2) E
def Binds (K:yB) (fd:vD) (ps:List Str) (ds:List vy):Prop:=
 ∀(s:vz) (us:List vy),K.In s.heap->⇑(us++ds)=⇑ps->BindsTo s fd {us,[]} (ps.zip (us++ds))
def Binds.all {K:yB} {fd:vD} {ps:List Str} (h:∀us:List vy,⇑us=⇑ps->bindArgs fd {us,[]}=pure (ps.zip us)):Binds K fd ps []:=λs us _ hl=>by
 rw[zV] at hl ⊢;exact .of_eq (h us hl)
def Passes (CX:LA) (X:Cx) (E:XK):Prop:=∀(pins:List (vE×Obj)) (U:St) (H:Hp) (s:vz) (e:vy) (s':vz),Inv X pins U H s->CX X.stack H s E e s'->X.xe e s'
section
variable {X:Cx} {CX:LA} {k:Nat} {f C:vE} {fd:vD} {ps:List Str} {sp:Sp} {dvs:List V} {ds:List vy} {E:XK} {x m:Str} {p pos apos:Pos} {e o:Expr} {es:List Expr} {ta:TE} {t:TA}
def OQ (F:dB X.prog X.w X.K X.mg X.base CX k f fd ps sp) (hr:fP k X.A) (hb:Binds X.K fd ps ds) (hd:Vals dvs ds) (hx:Passes CX X E)
  (I:Inv X pins U H s) (r:Vals vs us) (h:sp (vs++dvs) H Q E):wpAny (model X.prog X.w) X.A (call (.ref f) us) (EP X pins U Q) X.xe s:=by
 let r2:Vals (vs++dvs) (us++ds):=r.append hd;let hl:⇑(us++ds)=⇑ps:=by rw[<-⇑r2];exact F.len _ _ _ _ h
 refine wpAny_call (xU (F.run X.A X.stack s H {us,[]} (us++ds) (vs++dvs) Q E hr I.RN (hb s us I.rF hl) r2 h) λr s' hq=>?_);cases r with
 | error e=>exact hx pins U H s e s' I hq
 | ok fl=>
  cases fl with
  | ret u=>exact I.after hq
  | next=>exact False.elim hq
  | brk=>exact False.elim hq
  | cont=>exact False.elim hq
def Rm (F:dB X.prog X.w X.K X.mg X.base CX k f fd ps sp) (hr:fP k X.A) (hg:Gl X x) (hm:X.mg x=some (.ref f)) (hk:PySem.W.keepIn X.K (.ref f)=true) (hb:Binds X.K fd ps ds) (hd:Vals dvs ds) (hx:Passes CX X E)
  (ha:PA X (e::es) t) (hdb:(x == ("__debug__": Str))=false<|>qb_) (he:starEach (e::es) X.env=(false,eval e X.env)::starEach es X.env<|>qe_) (hpl:(backTo pos (starEach es X.env)).any (·.1)=false<|>qe_) :
  PE X (.Call (.Name x p) (e::es) [] pos) (fR sp dvs E t):=by
 intro pins s U H Q I h;refine xt (jY I hg hm ?_ hdb);refine vk (h₀:=X.base) I.ok.mod.TZ hk (cX (ha pos pins s U H _ I h) λus s1 z0=>?_) he hpl;let⟨vs,H1,I1,r,q⟩:=z0;refine{I1.rF,?_};exact OQ F hr hb hd hx I1 r q
structure Mk (K:yB) (C f:vE):Prop where
 makes:PySem.W.makesIn K C=true
 init:PySem.W.findIn K (.ref C) "__init__"= some (some (.ref f))
 fn:PySem.W.isFn K (.ref f)=true
 kp:PySem.W.keepIn K (.ref C)=true
def OP (M:Mk X.K C f) (F:dB X.prog X.w X.K X.mg X.base CX k f fd ps sp) (hr:fP (k+1) X.A) (hb:Binds X.K fd ps ds) (hd:Vals dvs ds)
  (hx:Passes CX X E) (I:Inv X pins U H s) (r:Vals vs us)
  (h:∀x dx,H x=none->H dx=none->dx≠x->sp (.ref x::(vs++dvs)) (upd (upd H dx (.own x)) x (.ins C dx [])) (λv H2=>v=.bP/\Q (.ref x) H2) E) :
  wpAny (model X.prog X.w) X.A (call (.ref C) us) (EP X pins U Q) X.xe s:=by
 let hq:=h (↑s+1) ↑s (I.b9.fresh (x9 _)) (I.b9.fresh (zm _)) (yj (xR _));let I2:=Inv.made (C:=C) I;let r2:Vals (V.ref (↑s+1)::(vs++dvs)) (Value.ref (↑s+1)::(us++ds)):=.cons rfl (r.append hd);let hl:⇑(Value.ref (↑s+1)::us++ds)=⇑ps:=by
  let e:=⇑r2;rw[F.len _ _ _ _ hq] at e;exact e.symm
 refine wpAny_call (Pz (f:=f) I.rF M.makes M.init (vi.mp M.fn) (xU (F.run _ X.stack _ _ {Value.ref (↑s+1)::us,[]} (Value.ref (↑s+1)::(us++ds)) _ _ E (hr.make C us [])
  (I2.RN.make C us []) (hb _ (Value.ref (↑s+1)::us) I2.rF hl) r2 hq) λr s' hq'=>?_))
 cases r with
 | error e=>exact hx pins U _ _ e s' I2 hq'
 | ok fl=>
  cases fl with
  | ret u=>
   let⟨v,H',I3,rv,ev,q3⟩:=I2.after hq';subst ev;exact{rv,{V.ref (↑s+1),H',I3,rfl,q3}}
  | next=>exact False.elim hq'
  | brk=>exact False.elim hq'
  | cont=>exact False.elim hq'
def Pg (M:Mk X.K C f) (F:dB X.prog X.w X.K X.mg X.base CX k f fd ps sp) (hr:fP (k+1) X.A) (hg:Gl X x) (hm:X.mg x=some (.ref C)) (hb:Binds X.K fd ps ds) (hd:Vals dvs ds) (hx:Passes CX X E)
  (hdb:(x == ("__debug__": Str))=false<|>qb_):PE X (.Call (.Name x p) [] [] pos) (U0 C sp dvs E dY):=by
 intro pins s U H Q I h;refine xt (jY I hg hm ?_ hdb);exact PySem.W.callWith_K0 I.rF M.kp (OP (us:=[]) M F hr hb hd hx I .nil h)
end
section
variable {X:Cx} {CX:LA} {k:Nat} {f C:vE} {fd:vD} {ps ks:List Str} {sp:Sp} {E:XK} {x m:Str} {p pos apos kpos:Pos} {e o:Expr} {es:List Expr} {kws:List Keyword} {te ta:TE} {t tk:TA} {nm:Option Str}
variable {g:List vy->List vy->List vy} {gV:List V->List V->List V}
end
structure gq (N P:List Str) (sc:Scope):Prop where
 kind:sc.kind=.function
 co:sc.isCoroutine=false
 gen:sc.isGenerator=false
 nd:N.Nodup
 pre:N.take P.length=P
 par:∀x∈P,sc.names.lookup x=some .local\/sc.names.lookup x=some .cell
 TU:∀y∈sc.names,y.2≠.free
theorem EO {kindOf:Str->Option NameKind} {x:Str}:∀{binds:List (Str×vy)} {m:Str->Option vy},(∀v,(x,v)∉binds)->bindL kindOf binds m x=m x
 | [],_,_=>rfl
 | (n,v)::r,m,h=>by
  unfold bindL;rw[EO λw hw=>h w (zp _ hw)];split
  ·have:x≠n:=by rintro rfl;exact h v zr
   simp[this]
  ·rfl
theorem ES {kindOf:Str->Option NameKind} {x:Str}:∀{binds:List (Str×vy)} {m:Str->Option vy},(∀v,(x,v)∉binds)->bindC kindOf binds m x=m x
 | [],_,_=>rfl
 | (n,v)::r,m,h=>by
  unfold bindC;rw[ES λw hw=>h w (zp _ hw)];split
  ·rfl
  ·have:x≠n:=by rintro rfl;exact h v zr
   simp[this]
theorem ER {kindOf:Str->Option NameKind} {x:Str} {v:vy}:∀{P:List Str} {vs:List vy} {i:Nat} {m:Str->Option vy},P.Nodup->P[i]?=some x->vs[i]?=some v->kindOf x=some .local->
  bindL kindOf (P.zip vs) m x=some v
 | [],_,_,_,_,h,_,_=>by simp at h
 | _::_,[],_,_,_,_,h,_=>by simp at h
 | p::P,w::vs,0,m,nd,h1,h2,hk=>by
  simp at h1 h2;subst h1;subst h2;show bindL kindOf ((p,w)::P.zip vs) m p=_;unfold bindL;rw[EO λv hv=>(yd.mp nd).1 (wz hv).1,yO hk];simp
 | p::P,w::vs,i+1,m,nd,h1,h2,hk=>by
  show bindL kindOf ((p,w)::P.zip vs) m x=_;unfold bindL;exact ER (i:=i) (yd.mp nd).2 (by simpa using h1) (by simpa using h2) hk
theorem ET {kindOf:Str->Option NameKind} {x:Str} {v:vy}:∀{P:List Str} {vs:List vy} {i:Nat} {m:Str->Option vy},P.Nodup->P[i]?=some x->vs[i]?=some v->kindOf x≠some .local->
  bindC kindOf (P.zip vs) m x=some v
 | [],_,_,_,_,h,_,_=>by simp at h
 | _::_,[],_,_,_,_,h,_=>by simp at h
 | p::P,w::vs,0,m,nd,h1,h2,hk=>by
  simp at h1 h2;subst h1;subst h2;show bindC kindOf ((p,w)::P.zip vs) m p=_;unfold bindC;rw[ES λv hv=>(yd.mp nd).1 (wz hv).1,yN hk];simp
 | p::P,w::vs,i+1,m,nd,h1,h2,hk=>by
  show bindC kindOf ((p,w)::P.zip vs) m x=_;unfold bindC;exact ET (i:=i) (yd.mp nd).2 (by simpa using h1) (by simpa using h2) hk
noncomputable def start (N:List Str) (vs:List V):St:=vs.map some++List.replicate (N.length-⇑vs) none
noncomputable def ku (CX:LA) (P:vA) (w:vB) (K:yB) (mg:Str->Option vy) (base:vF) (N:List Str) (qual:Str) (scope:Scope) (f:vE) (cd:vy) (A:vC) (outer:List Env) (s:vz) (H:Hp) (E:XK):Cx where
 prog:=P
 w:=w
 K:=K
 mg:=mg
 base:=base
 A:=A.deeper (envOfC qual scope ↑s f cd)
 N:=N
 s₀:=s
 H₀:=H
 env:=envOfC qual scope ↑s f cd
 outer:=outer
 stack:=envOfC qual scope ↑s f cd::outer
 ex:=[]
 calm:=true
 fn:=λ_=>true
 pn:=[]
 xe:=λe s'=>wpAny (model P w) (A.deeper (envOfC qual scope ↑s f cd)) (leaving (envOfC qual scope ↑s f cd) e) (λ_ s''=>CX outer H s E e s'') (λe' s''=>CX outer H s E e' s'') s'
def JA {sc:Scope} {n:Nat} {x:Str} (h:sc.names.lookup x=some .cell):∃c,(cellsFrom n sc.names []).lookup x=some c:=by
 let q:=PySem.W.cellsFrom_some sc.names n [] (.inl h);exact Option.isSome_iff_exists.mp q
def Ng {CX:LA} {P:vA} {w:vB} {K:yB} {mg:Str->Option vy} {base:vF} {N ps:List Str} {qual:Str} {scope:Scope} {f:vE} {cd:vy} {A:vC} {outer:List Env} {s s1:vz} {H:Hp} {E:XK} {us:List vy} {vs:List V}
  (S:gq N ps scope) (hd:A.handled=none) (e0:JR P w K mg base A outer s H) (hl:⇑vs=⇑ps) (r:Vals vs us)
  (x:InCallC s ↑s (bindL (envOfC qual scope ↑s f cd).kindOf (ps.zip us) λ_=>none) (cellsFrom (↑s+1) scope.names []) (bindC (envOfC qual scope ↑s f cd).kindOf (ps.zip us) λ_=>none) s1) :
  Inv (ku CX P w K mg base N qual scope f cd A outer s H E) [] (start N vs) H s1:=by
 let hpl:⇑ps<=N.length:=by have:=y6 List.length S.pre;rw[zQ] at this;ext
 let⟨h1,tk,rfl,hk⟩:=x.done;let noA:∀b:vE,b∉(ku CX P w K mg base N qual scope f cd A outer s H E).ex:=λb z=>absurd (show b∈([]:List vE) from z) (by simp);refine{{e0.mod,S.kind,rfl,rfl,zm _,λy z c h1 h2=>?_,λy hy=>?_,λy c _ h=>?_,λ_=>hd,Around.frames_deeper e0.frames,.inr {(rfl),rfl},λb z=>absurd z (noA b),e0.bs,e0.N6,λb _ _=>noA b,λb z=>absurd z (noA b),e0.oU,e0.IY},
  rfl,e0.bare,Un.kept hk,{_,x.toInCall.ns,λi y v h1 h2 h3=>?_},λy c h=>{_,x.cell y c h},e0.b9.fresh (zm _),λy c h=>?_,λp hp=>absurd (show p∈([]:List (vE×Obj)) from hp) (by simp),e0.b9.kept hk,?_}
 ·exact name_of_addr x.apart (wt h1) (wt h2)
 ·let hy:scope.names.lookup y=some .cell\/scope.names.lookup y=some .free:=hy
  rcases hy with hy | hy
  ·exact JA hy
  ·exact absurd rfl (S.TU _ (wt hy))
 ·exact yh (x.above y c (wt h))
 ·let hi:i<⇑vs:=by
   unfold start at h2
   by_cases hi:i<⇑vs
   ·exact hi
   ·rw[z9 (by simpa using hi)] at h2
    rw[List.getElem?_replicate] at h2;split at h2 <;> cases h2
  let ha:vs[i]?=some v:=by
   unfold start at h2;rw[wq (by simpa using hi),zK] at h2;cases e:vs[i]? with
   | none=>rw[e] at h2;cases h2
   | some a=>rw[e] at h2;cases h2;rfl
  let⟨u,hu,rv⟩:=r.get ha;let hp:ps[i]?=some y:=by
   rw[<-S.pre,List.getElem?_take_of_lt ()];exact h1
  let ndP:ps.Nodup:=by rw[<-S.pre];exact S.nd.sublist (List.take_sublist _ _)
  refine{u,rv,?_};rcases S.par y (zC hp) with k | k
  ·exact .inl {k,ER ndP hp hu k}
  ·let⟨c,e⟩:=JA (n:=↑s+1) k
   refine .inr {.inl k,c,e,?_};let q:=x.cell y c e;rw[ET ndP hp hu (by show scope.names.lookup y≠_;rw[k];decide)] at q;exact q
 ·exact e0.b9.fresh (yh (x.above y c (wt h)))
 ·unfold start
  show _=N.length;rw[zh,za,List.length_replicate];ext
def Sw {CX:LA} {P:vA} {w:vB} {K:yB} {mg:Str->Option vy} {base:vF} {k:Nat} {f:vE} {name qual:Str} {params:Arguments} {body:List Stmt} {scope:Scope} {dV kV doc pm cdv ct oc:vy} {an od:Option vE}
  {osl:Array (Option vy)} {N ps:List Str} {sp:Sp} (lk:K.lookup f=some {oc,od,.func (PySem.W.fnOf name qual params body scope dV kV doc pm an cdv ct),osl}) (hcd:PySem.W.codeIn K cdv qual=true) (S:gq N ps scope)
  (len:∀vs H Q E,sp vs H Q E->⇑vs=⇑ps)
  (hbody:∀(A:vC) (outer:List Env) (s:vz) (H:Hp) (vs:List V) (Q:VK) (E:XK),fP k (A.deeper (envOfC qual scope ↑s f cdv))->sp vs H Q E->
   ∃t,EV (ku CX P w K mg base N qual scope f cdv A outer s H E) body t/\t {nx:=λ_ H'=>Q .bP H',rt:=Q} (start N vs) H) :
  dB P w K mg base CX (k+1) f (PySem.W.fnOf name qual params body scope dV kV doc pm an cdv ct) ps sp:=by
 refine{len,λA outer s H args us vs Q E hr e0 hb r hsp=>?_};let hl:=len _ _ _ _ hsp;let KX:K.In s.heap:=e0.mod.TZ.keeps λb o e=>(e0.bs b o e).1;let lim:s.heap.NoLimit:=e0.mod.nolimit.keeps λb o e=>(e0.bs b o e).1;let hkind:∀y∈ps.zip us,scope.names.lookup y.1=some .local\/(scope.names.lookup y.1=some .cell/\((cellsFrom (↑s+1) scope.names []).lookup y.1).isSome=true):=λ⟨n,v⟩ hy=>by
  rcases S.par n (wz hy).1 with q | q
  ·exact .inl q
  ·exact .inr {q,PySem.W.cellsFrom_some _ _ _ (.inl q)}
 refine codeAny_call_function hr.depth (KX _ _ lk) rfl S.co S.gen rfl (PySem.W.codeRec_of KX hcd) (hb _ _ _ _ ?_);refine wpAny_newFunctionEnv_cells S.kind hkind λenv he s1 x=>?_;subst he;refine{lim.keeps x.toInCall.keep,codeAny_func ?_};let⟨t,ht,hq⟩:=hbody A outer s H vs Q E (hr.deeper _) hsp;let I:Inv (ku CX P w K mg base N qual scope f cdv A outer s H E) [] (start N vs) H s1:=Ng S hr.hd e0 hl r x;refine xg (ht [] s1 (start N vs) H _ I hq) (λfl s' hs=>?_) λe s' hs=>hs;let fin:∀{U':St} {H':Hp} {v:V} {u:vy},Inv (ku CX P w K mg base N qual scope f cdv A outer s H E) [] U' H' s'->RelV v u->Q v H'->CE outer P w H s Q u s':=
  λ{U' H' v u} J rv q=>{(v),H',J.os,J.bare,J.base,J.b9,rv,q}
 cases fl with
 | ret u=>
  let⟨v,U',H',J,rv,q⟩:=hs;exact fin J rv q
 | next=>
  let⟨U',H',J,q⟩:=hs;exact fin (v:=V.bP) (u:=Value.none) J rfl q
 | brk=>
  let⟨_,_,_,q⟩:=hs;exact False.elim q
 | cont=>
  let⟨_,_,_,q⟩:=hs;exact False.elim q
end L2
namespace L2
open PySem PySem.Spec PyProof.Rows
section
variable {X:Cx} {x:Str} {p pos:Pos} {e:Expr} {es:List Expr} {t:TA} {id T:String} {r:List V->Hp->VK->Prop}
def LI (r:List V->Hp->VK->Prop) (t:TA):TE:=λU H Q=>t U H λvs H1=>r vs H1 Q
def Ir (hc:fC X (.builtin id) r) (hg:Gl X x) (hm:X.mg x=none) (hv:bootBuiltins x=some (.builtin id)) (ha:PA X (e::es) t) (hn:x≠ "__name__"<|>qb_) (hdb:(x == ("__debug__": Str))=false<|>qb_)
  (he:starEach (e::es) X.env=(false,eval e X.env)::starEach es X.env<|>qe_) (hpl:(backTo pos (starEach es X.env)).any (·.1)=false<|>qe_):PE X (.Call (.Name x p) (e::es) [] pos) (LI r t):=by
 intro pins s U H Q I h;refine xt (jB I hg hm hv ?_ hn hdb);refine PyProof.Rows.callWith_builtin1 (cX (ha pos pins s U H _ I h) λus s1 z0=>?_) he hpl;let⟨vs,H1,I1,r1,q1⟩:=z0;exact hc pins s1 U H1 vs us Q I1 r1 q1
def MY (hc:fC X (.type T) r) (hg:Gl X x) (hm:X.mg x=none) (hv:bootBuiltins x=some (.type T)) (ha:PA X (e::es) t) (hn:x≠ "__name__"<|>qb_) (hdb:(x == ("__debug__": Str))=false<|>qb_)
  (he:starEach (e::es) X.env=(false,eval e X.env)::starEach es X.env<|>qe_) (hpl:(backTo pos (starEach es X.env)).any (·.1)=false<|>qe_):PE X (.Call (.Name x p) (e::es) [] pos) (LI r t):=by
 intro pins s U H Q I h;refine xt (jB I hg hm hv ?_ hn hdb);refine yM (cX (ha pos pins s U H _ I h) λus s1 z0=>?_) he hpl;let⟨vs,H1,I1,r1,q1⟩:=z0;exact hc pins s1 U H1 vs us Q I1 r1 q1
end
end L2
namespace HT
open PySem PyProof.Rows
section
open PySem.SeqAt
open PySem.AutoSeq1 (wpAny_loadPart')
open PySem.MeetsSeq PySem.MeetsSeq2 PySem.MeetsSeq3
end
section
variable {prog:vA} {w:vB} {A:vC} {E:vy->vz->Prop} {s:vz}
def RX {t b:vE} {vs ws:List vy} {Q:vy->vz->Prop} (ht:IsTup s.heap t vs.toArray) (hb:IsTup s.heap b ws.toArray) (hv:vs≠[])
  (h1:ws=[]->Q (.ref t) s) (h2:ws≠[]->Q (.ref ↑s) {s with heap:=s.heap.push {cls:=.type "tuple",data:=.seq (vs++ws).toArray}})
  (hsz:⇑vs+⇑ws<=sizeLine):wpAny (model prog w) A (binaryOp .Add (.ref t) (.ref b)) Q E s:=by
 let⟨⟨cls,dd,data,sl⟩,ho,hc,n,hd⟩:=id ht;let⟨⟨cls2,dd2,data2,sl2⟩,ho2,hc2,n2,hd2⟩:=id hb;simp only at hc hd hc2 hd2;subst hc hd hc2 hd2;let e:vs.toArray++ws.toArray=(vs++ws).toArray:=by simp
 by_cases hw:ws=[]
 ·exact concat_meets {_,ho,rfl} {_,ho2,rfl} noFill_tuple_add seq_tuple_add PySem.F.slot_tuple_add PySem.F.entry_tuple_add (PySem.F.args_tuple_add_2 _ _)
   (tuple_addW1 t b vs.toArray ws.toArray n n2 dd dd2 sl sl2 (by simpa using hv) (by simp[hw])) {ho,ho2,h1 hw}
 ·refine concat_meets {_,ho,rfl} {_,ho2,rfl} noFill_tuple_add seq_tuple_add PySem.F.slot_tuple_add PySem.F.entry_tuple_add (PySem.F.args_tuple_add_2 _ _)
   (tuple_addW2 t b vs.toArray ws.toArray n n2 dd dd2 sl sl2 (by simpa using hv) (by simpa using hw) (by rw[yb,yb];exact hsz)) {ho,ho2,?_}
  rw[e];exact h2 hw
noncomputable def fc (n d:Nat):Option Int->Nat
 | none=>d
 | some v=>if v<0 then(v+(n:Int)).toNat else min v.toNat n
def HW (n d:Nat):fc n d none=d:=rfl
def Tn (n d:Nat) (hd:d<=n) (o:Option Int):fc n d o<=n:=by
 cases o with
 | none=>exact hd
 | some v=>
  show(if v<0 then(v+(n:Int)).toNat else min v.toNat n)<=n
  by_cases hv:v<0
  ·rw[yO hv];ext
  ·rw[yN hv];exact Nat.min_le_right _ _
def Mi (v:Int) (n d:Nat):(if v<0 then max (v+(n:Int)) 0 else min v (n:Int))=((fc n d (some v):Nat):Int):=by
 show(if v<0 then max (v+(n:Int)) 0 else min v (n:Int))=(((if v<0 then(v+(n:Int)).toNat else min v.toNat n):Nat):Int)
 by_cases hv:v<0
 ·simp only[yO hv];ext
 ·simp only[yN hv];ext
def Lf (lo hi:Option Int) (n:Nat):Builtin.Slice.sliceAdjust lo hi 1 (n:Int)=(((fc n 0 lo:Nat):Int),((fc n n hi:Nat):Int)):=by
 let h1:¬((1:Int)<0):=()
 unfold Builtin.Slice.sliceAdjust;simp only[h1,wu];refine Prod.ext ?_ ?_
 ·cases lo with
  | none=>rfl
  | some v=>exact Mi v n 0
 ·cases hi with
  | none=>rfl
  | some v=>exact Mi v n n
def Kw (i j:Nat):Builtin.Slice.slicePlaces (i:Int) (j:Int) 1=j-i:=by
 unfold Builtin.Slice.slicePlaces;let h1:(1:Int)>0:=()
 simp only[h1,vg,Int.ediv_one];split <;> ext
def AY (p:IsPart v o) (h:Q o s):wpAny (model prog w) A (Builtin.Slice.slicePartIndex v) Q E s:=by
 cases p with
 | none=>exact slicePart_none h
 | int i t=>exact slicePart_int h
def kG {sl:vE} {vl vu:vy} {lo hi:Option Int} {n:Nat} {Q:Int×Int×Nat->vz->Prop} (hs:s.heap.IsSliceOf sl vl vu .none) (pl:IsPart vl lo) (pu:IsPart vu hi)
  (h:Q (((fc n 0 lo:Nat):Int),1,fc n n hi-fc n 0 lo) s):wpAny (model prog w) A (Builtin.Slice.sliceApplied (.ref sl) (pure (n:Int))) Q E s:=by
 let⟨os,hos,hcs,hds⟩:=id hs;unfold Builtin.Slice.sliceApplied Builtin.Slice.sliceFields;refine yu (yu (y7 hos hds (x:=vl) rfl (yu (y7 hos hds (x:=vu) rfl (yu (y7 hos hds (x:=.none) rfl (yw ?_)))))));refine yu (slicePart_none ?_);show wpAny _ _ (if((1:Int) == 0)=true then _ else _) _ _ s;rw[yN ∅];refine yu (AY pl (yu (AY pu (yu (yw ?_)))));show wpAny _ _ (match Builtin.Slice.sliceAdjust lo hi 1 (n:Int) with | (lo,hi)=>pure (lo,(1:Int),Builtin.Slice.slicePlaces lo hi 1)) _ _ s;rw[Lf lo hi n];show wpAny _ _ (pure (((fc n 0 lo:Nat):Int),(1:Int),Builtin.Slice.slicePlaces ((fc n 0 lo:Nat):Int) ((fc n n hi:Nat):Int) 1)) _ _ s;rw[Kw];exact yw h
def Pb (xs:Array vy) (i k:Nat):((List.range k).filterMap λ(m:Nat)=>xs[((i:Int)+(m:Int)*1).toNat]?).toArray=((xs.toList.drop i).take k).toArray:=by
 let e:(λ(m:Nat)=>xs[((i:Int)+(m:Int)*1).toNat]?)=λm=>xs[i+m]?:=by
  funext m
  have:((i:Int)+(m:Int)*1).toNat=i+m:=()
  rw[this]
 rw[e];have:=pick_run xs i k;rw[List.filterMap_map] at this;let e2:((λx=>xs[x]?)∘λx=>i+x)=λm=>xs[i+m]?:=rfl;rw[e2] at this;rw[this]
def rM {t sl:vE} {items:Array vy} {vl vu:vy} {lo hi:Option Int} {Q:vy->vz->Prop} (ht:IsTup s.heap t items) (hs:s.heap.IsSliceOf sl vl vu .none) (pl:IsPart vl lo) (pu:IsPart vu hi)
  (hw:¬(fc items.size 0 lo=0/\fc items.size items.size hi=items.size))
  (h:Q (.ref ↑s) {s with heap:=s.heap.push {cls:=.type "tuple",data:=.seq ((items.toList.drop (fc items.size 0 lo)).take (fc items.size items.size hi-fc items.size 0 lo)).toArray}})
  (hsz:items.size<=sizeLine):wpAny (model prog w) A (getItem (.ref t) (.ref sl)) Q E s:=by
 let htake:sizeOk (.seq ((items.toList.drop (fc items.size 0 lo)).take (fc items.size items.size hi-fc items.size 0 lo)).toArray):=by
  show((items.toList.drop (fc items.size 0 lo)).take (fc items.size items.size hi-fc items.size 0 lo)).toArray.size<=sizeLine;rw[yb,zQ,xD,yQ];ext
 let hj:fc items.size items.size hi<=items.size:=Tn _ _ (zm _) hi;let⟨os,hos,hcs,hds⟩:=id hs;let hTs:s.TypeIs (.ref sl) "slice":={(os),hos,hcs}
 unfold getItem
 try with_reducible refine xJ ?_
 first | refine yu (yw ?_) | skip
 refine yu (wpAny_sequenceKey ht.typeIs ∅ ?_);refine yu (yZ (name:=Str.ofString "__getitem__") ht.typeIs xQ
  (xb xQ ht.typeIs entry_tuple_getitem ?_ (args_tuple_getitem _ _)))
 show wpAny _ _ (Builtin.Tuple.tupleItemsOf (.ref t) >>= _) _ _ s;refine yu (tupleItemsOf_ ht ?_);refine yu (vh hTs ?_);rw[yO ∅];refine yu (kG hs pl pu ?_);let hno:¬((((fc items.size 0 lo:Nat):Int) == 0&&(1:Int) == 1&&(fc items.size items.size hi-fc items.size 0 lo) == items.size)=true):=by
  intro q;rw[zO,zO] at q;let q1:((fc items.size 0 lo:Nat):Int)=0:=eq_of_beq q.1.1;let q2:fc items.size items.size hi-fc items.size 0 lo=items.size:=eq_of_beq q.2;exact hw {(()),()}
 show wpAny _ _ (if(((fc items.size 0 lo:Nat):Int) == 0&&(1:Int) == 1&&(fc items.size items.size hi-fc items.size 0 lo) == items.size)=true then _ else _) _ _ s;rw[yN hno,Pb]
 first
  | exact yu (m:=Builtin.Tuple.tupleExact _) (xf (yw {_,rfl,yw h}) htake)
  | exact yu (m:=Builtin.Tuple.tupleExact _) (xf (yu (yw (yw {_,rfl,yw h}))) htake)
  | exact yu (yu (m:=Builtin.Tuple.tupleExact _) (xf (yw (yw {_,rfl,yw h})) htake))
  | exact yu (yu (m:=Builtin.Tuple.tupleExact _) (xf (yw {_,rfl,yw h}) htake))
end
end HT
namespace L2
open PySem PySem.Spec PyProof.Rows
abbrev TO:=St->Hp->(Option Int->Hp->Prop)->Prop
def PO (X:Cx) (e:Option Expr) (t:TO):Prop:=
 ∀(pins:List (vE×Obj)) (s:vz) (U:St) (H:Hp) (Q:Option Int->Hp->Prop),Inv X pins U H s->t U H Q->
  wpAny (model X.prog X.w) X.A (evalPart e X.env) (λu s'=>∃o H',Inv X pins U H' s'/\IsPart u o/\Q o H') X.xe s
def E3:TO:=λ_ H Q=>Q none H
def Ov (t:TE):TO:=λU H Q=>t U H λx H1=>∃i,x=.int i/\Q (some i) H1
def intsAre_of:∀{us:List vy},Vals (ns.map V.int) us->IntsAre us ns:=by
 induction ns with
 | nil=>intro us r;rw[yn] at r;cases r;exact .nil
 | cons n ns ih=>
  intro us r;rw[zj] at r;cases r with
  | cons r1 r2=>
   let⟨t,e⟩:=r1;subst e;exact .cons n t (ih r2)
section
variable {X:Cx} {e:Expr} {te:TE} {lo hi:Option Expr} {tl th:TO} {pos p2:Pos}
def dE:PO X none E3:=by
 intro pins s U H Q I h;rw[evalPart_none];exact yw {none,H,I,.none,h}
def dC (h:PE X e te):PO X (some e) (Ov te):=by
 intro pins s U H Q I hw;rw[evalPart_some];refine cX (h pins s U H _ I hw) λu s1 z0=>?_;let⟨x,H1,I1,r1,q1⟩:=z0;let⟨i,rfl,q⟩:=q1;let⟨t,rfl⟩:=r1;exact{some i,H1,I1,.int i t,q}
def QD (X:Cx) (r:V->Option Int->Option Int->Hp->VK->Prop):Prop:=
 ∀(pins:List (vE×Obj)) (s:vz) (U:St) (H:Hp) (x:V) (v vl vu:vy) (lo hi:Option Int) (sl:vE) (Q:VK),Inv X pins U H s->RelV x v->s.heap.IsSliceOf sl vl vu .none->IsPart vl lo->IsPart vu hi->r x lo hi H Q->
  ∃T id,typeLookup (.type T) "__getitem__"= pure (some (.builtin id))/\s.TypeIs v T/\wpAny (model X.prog X.w) X.A (getItem v (.ref sl)) (EP X pins U Q) X.xe s
def QD.or (h:QD X r) (h':QD X r'):QD X (λx lo hi H Q=>r x lo hi H Q\/r' x lo hi H Q):=by
 intro pins s U H x v vl vu lo hi sl Q I rx hs pl pu q;rcases q with q | q
 ·exact h pins s U H x v vl vu lo hi sl Q I rx hs pl pu q
 ·exact h' pins s U H x v vl vu lo hi sl Q I rx hs pl pu q
def Wx (r:V->Option Int->Option Int->Hp->VK->Prop) (te:TE) (tl th:TO):TE:=λU H Q=>te U H λx H1=>tl U H1 λl H2=>th U H2 λu H3=>r x l u H3 Q
def cY (hr:QD X r) (he:PE X e te) (hl:PO X lo tl) (hu:PO X hi th):PE X (.Subscript e (.Slice lo hi none p2) pos) (Wx r te tl th):=by
 intro pins s U H Q I h;refine Subscript_ (cX (he pins s U H _ I h) λv s1 z0=>?_);let⟨x,H1,I1,r1,q1⟩:=z0;refine wpAny_Slice (cX (hl pins s1 U H1 _ I1 q1) λvl s2 z0=>?_);let⟨l,H2,I2,pl,q2⟩:=z0;refine cX (hu pins s2 U H2 _ I2 q2) λvu s3 z1=>?_;let⟨u,H3,I3,pu,q3⟩:=z1;rw[evalPart_none];refine yw ?_;let I4:Inv X pins U H3 {s3 with heap:=s3.heap.push {cls:=.type "slice",data:=.fields #[vl,vu,.none]}}:=I3.kept (t':=s3.toks) λb ob q=>yv _ q;let⟨T,id,hT,ht,hg⟩:=hr pins {s3 with heap:=s3.heap.push {cls:=.type "slice",data:=.fields #[vl,vu,.none]}} U H3 x v vl vu l u ↑s3 Q I4 r1 (Heap.IsSliceOf.new ..) pl pu q3;show wpAny (model X.prog X.w) X.A (subscriptTail e (.Slice lo hi none p2) v (.ref ↑s3)) (EP X pins U Q) X.xe {s3 with heap:=s3.heap.push {cls:=.type "slice",data:=.fields #[vl,vu,.none]}};exact tail_any (ops:=[.ref ↑s3,v]) ht hT hg (by with_unfolding_all rfl)
noncomputable def ky (xs:List V) (lo hi:Option Int):List V:=(xs.drop (HT.fc ⇑xs 0 lo)).take (HT.fc ⇑xs ⇑xs hi-HT.fc ⇑xs 0 lo)
def uK (xs:List V) (lo hi:Option Int):⇑(ky xs lo hi)<=⇑xs:=by
 unfold ky;rw[zQ,xD];ext
def U9 (K:yB):V->Option Int->Option Int->Hp->VK->Prop:=λx lo hi H Q=>∃a xs,x=.ref a/\cW K H a xs/\
 ¬(HT.fc ⇑xs 0 lo=0/\HT.fc ⇑xs ⇑xs hi=⇑xs)/\∀p,H p=none->Q (.ref p) (upd H p (.tup (ky xs lo hi)))
def Ti:QD X (U9 X.K):=by
 intro pins s U H x v vl vu lo hi sl Q I rx hs pl pu h;let⟨a,xs,rfl,hx,hw,q⟩:=h;cases rx;let⟨its,r,ht,hz⟩:=I.tuple hx;let hlen:its.toArray.size=⇑xs:=by rw[yb];exact r.length.symm
 refine{"tuple",_,xQ.lookup,ht.typeIs,?_};refine HT.rM ht hs pl pu (by rw[hlen];exact hw) ?_ (by rw[hlen];exact hz);rw[hlen];refine{.ref ↑s,_,I.laid (t':=s.toks) (o:=.tup (ky xs lo hi)) (λb ob q=>yv _ q) (zm _) ?_,rfl,q _ (I.b9.fresh (zm _))};exact{zM (uK xs lo hi) hz,_,(r.drop (HT.fc ⇑xs 0 lo)).take (HT.fc ⇑xs ⇑xs hi-HT.fc ⇑xs 0 lo),IsTup.new _ _}
def Va (K:yB):R2:=λx y H Q=>∃a b xs ys,x=.ref a/\y=.ref b/\cW K H a xs/\cW K H b ys/\xs≠[]/\⇑xs+⇑ys<=sizeLine/\
 (ys=[]->Q (.ref a) H)/\(ys≠[]->∀p,H p=none->Q (.ref p) (upd H p (.tup (xs++ys))))
def Vals.FU {xs:List V} {us:List vy} (r:Vals xs us):us=[]↔xs=[]:=by
 cases r with
 | nil=>simp
 | cons _ _=>simp
def Rt:oj X (binaryOp .Add) (Va X.K):=by
 intro pins s U H x y v u Q I rx ry h;let⟨a,b,xs,ys,rfl,rfl,ha,hb,hx,hz,q1,q2⟩:=h;cases rx;cases ry;let⟨its,r1,p1,_⟩:=I.tuple ha;let⟨its2,r2,p2,_⟩:=I.tuple hb;refine HT.RX p1 p2 (λz=>hx (r1.FU.mp z)) (λz=>{.ref a,H,I,rfl,q1 (r2.FU.mp z)}) (λz=>?_) (by rw[<-⇑r1,<-⇑r2];exact hz);refine{.ref ↑s,_,I.laid (t':=s.toks) (o:=.tup (xs++ys)) (λb ob q=>yv _ q) (zm _) ?_,rfl,q2 (λw=>z (r2.FU.mpr w)) _ (I.b9.fresh (zm _))};exact{by rw[zh];exact hz,_,r1.append r2,IsTup.new _ _}
end
end L2
namespace L2
open PySem PySem.Spec PyProof.Rows
noncomputable def Sr (n:Nat) (i:Int):Option Nat:=if 0<=i then(if i<n then some i.toNat else none) else if -(n:Int)<=i then some (i+n).toNat else none
noncomputable def DR (xs:List α) (i:Int):Option α:=(Sr ⇑xs i).bind λj=>xs[j]?
def RD (h:Sr n i=some j):seqIndex? i n=some j/\j<n/\-(n:Int)<=i/\i<n:=by
 unfold Sr at h
 by_cases h0:0<=i
 ·rw[yO h0] at h
  by_cases h1:i<n
  ·rw[yO h1] at h
   let e:i.toNat=j:=yk h;exact{by rw[seqIndex_of h0 h1,e],(),(),h1}
  ·rw[yN h1] at h;cases h
 ·rw[yN h0] at h
  by_cases h1:-(n:Int)<=i
  ·rw[yO h1] at h
   let e:(i+n).toNat=j:=yk h;exact{by rw[seqIndex_neg () h1,e],(),h1,()}
  ·rw[yN h1] at h;cases h
def GD (h:DR xs i=some v):∃j,seqIndex? i ⇑xs=some j/\xs[j]?=some v/\j<⇑xs/\-(⇑xs:Int)<=i/\i<⇑xs:=by
 unfold DR at h;cases e:Sr ⇑xs i with
 | none=>rw[e] at h;cases h
 | some j=>
  rw[e] at h;let⟨h1,h2,h3,h4⟩:=RD e;exact{(j),h1,h,h2,h3,h4}
def bz {α:Type} {xs:List α} {j:Nat} {v:α} (h:xs[j]?=some v):DR xs (j:Int)=some v:=by
 let hj:j<⇑xs:=(zy.mp h).1;let e:Sr ⇑xs (j:Int)=some j:=by
  unfold Sr;rw[yO (),yO ()];simp
 unfold DR;rw[e];exact h
def rY (xs:List α) (v:α):DR (xs++[v]) (-1)=some v:=by
 let hl:⇑(xs++[v])=⇑xs+1:=by simp
 let e:Sr ⇑(xs++[v]) (-1)=some ⇑xs:=by
  unfold Sr;rw[hl,yN ∅,yO ()]
  congr 1
  ext
 unfold DR;rw[e];show(xs++[v])[⇑xs]?=some v;simp
def so (b:Expr):Prop:=∀o i,subscripted b false o i=operate [o,i] (getItem o i)
def V5 (X:Cx) (r:R2):Prop:=
 ∀(value slice:Expr) (pins:List (vE×Obj)) (s:vz) (U:St) (H:Hp) (x y:V) (v u:vy) (Q:VK),Inv X pins U H s->RelV x v->RelV y u->r x y H Q->
  subscripted slice false v u=operate [v,u] (getItem v u)->wpAny (model X.prog X.w) X.A (subscriptTail value slice v u) (EP X pins U Q) X.xe s
def Xk (X:Cx) (id:String) (r:V->List V->Hp->VK->Prop):Prop:=
 ∀(pins:List (vE×Obj)) (s:vz) (U:St) (H:Hp) (x:V) (xs:List V) (v:vy) (us:List vy) (Q:VK),Inv X pins U H s->RelV x v->Vals xs us->r x xs H Q->
  wpAny (model X.prog X.w) X.A (call (.builtin id) (v::us)) (EP X pins U Q) X.xe s
section
variable {X:Cx} {a b:Expr} {ta tb:TE} {pos:Pos}
def Br (hr:V5 X r) (ha:PE X a ta) (hb:PE X b tb) (hs:so b):PE X (.Subscript a b pos) (eO r ta tb):=by
 intro pins s U H Q I h;exact Subscript_ (Ut ha hb I h λv u s2 x y H2 I2 rx ry q=>hr a b pins s2 U H2 x y v u Q I2 rx ry q (hs _ _))
inductive Rf (K:yB) (x y:V) (H:Hp) (Q:VK):Prop
 | mk (p:vE) (xs:List V) (i:Int) (v:V) (_:x=.ref p) (_:y=.int i) (_:aH K H p xs) (_:DR xs i=some v) (_:Q v H)
inductive lK (K:yB) (x y:V) (H:Hp) (Q:VK):Prop
 | mk (p:vE) (xs:List V) (i:Int) (v:V) (_:x=.ref p) (_:y=.int i) (_:cW K H p xs) (_:DR xs i=some v) (_:Q v H)
def Rc:R2:=λx y H Q=>∃z i c,x=.str z/\y=.int i/\⇑z<=sizeLine/\DR z.cps.toList i=some c/\Q (.str {#[c]}) H
def L4:V5 X (Rf X.K):=by
 intro value slice pins s U H x y v u Q I rx ry h hs;let⟨p,xs,i,z,rfl,rfl,hq,he,q⟩:=h;cases rx;let⟨t,rfl⟩:=ry;let⟨its,r,pl,hz⟩:=I.list hq;let⟨j,h1,h2,h3,h4,h5⟩:=GD he;let⟨w,ew,rw'⟩:=r.get h2;let hl:=⇑r;let hn:=BG;let fin:EP X pins U Q w s:={(z),H,I,rw',q}
 by_cases h0:0<=i
 ·let hj:i.toNat=j:=by
   rw[seqIndex_of h0 h5] at h1;exact yk h1
  exact item_listR pl.isList h0 () (by rw[hj];simpa using ew) fin hs
 ·let hj:(i+(its.toArray.size:Int)).toNat=j:=by
   rw[seqIndex_neg () h4] at h1;rw[yb,<-hl];exact yk h1
  exact subscriptTail_builtinR (x:=w) pl.isList.typeIs slot_list_getitem.lookup
   (wpAny_getItem_list_neg (Q:=λr s'=>r=w/\EP X pins U Q r s') pl.isList () (by rw[yb] <;> ext) () (by rw[hj];simpa using ew) {(rfl),fin}) hs
def T8:V5 X (lK X.K):=by
 intro value slice pins s U H x y v u Q I rx ry h hs;let⟨p,xs,i,z,rfl,rfl,hq,he,q⟩:=h;cases rx;let⟨t,rfl⟩:=ry;let⟨its,r,pl,hz⟩:=I.tuple hq;let⟨j,h1,h2,h3,h4,h5⟩:=GD he;let⟨w,ew,rw'⟩:=r.get h2;let hl:=⇑r;let hn:=BG;let fin:EP X pins U Q w s:={(z),H,I,rw',q}
 exact subscriptTail_builtinR (x:=w) pl.typeIs slot_tuple_getitem.lookup
  (getItem_tuple (j:=j) (Q:=λr s'=>r=w/\EP X pins U Q r s') pl () () (by rw[yb,<-hl];exact h1) (by simpa using ew) {(rfl),fin}) hs
def F0:V5 X Rc:=by
 intro value slice pins s U H x y v u Q I rx ry h hs;let⟨z,i,c,rfl,rfl,hz,he,q⟩:=h;let⟨t,rfl⟩:=rx;let⟨t',rfl⟩:=ry;let⟨j,h1,h2,h3,h4,h5⟩:=GD he;let hl:⇑z.cps.toList=⇑z:=by simp[Str.length]
 rw[hl] at h1 h4 h5;let hn:=BG;exact tail_any (wR s z t) slot_str_getitem.lookup (getItem_str (c:=c) (by
  let e1:decide (i < -(2^63:Int))=false:=ze ();let e2:decide (i≥2^63)=false:=ze ();rw[e1,e2,Bool.or_false]) (by rw[h1];simpa using h2) {.str {#[c]},H,I.tok _,{_,rfl},q}) hs
def Fi (lo hi:Option Int) (n:Nat):(sliceBounds lo hi none n).1=((HT.fc n 0 lo:Nat):Int)/\(sliceBounds lo hi none n).2.1=((HT.fc n n hi:Nat):Int)/\(sliceBounds lo hi none n).2.2=1:=by
 refine{?_,?_,rfl}
 ·cases lo with
  | none=>simp[sliceBounds,HT.fc]
  | some i=>
   simp only[sliceBounds,HT.fc,Option.getD_none,show(1:Int)>0 by decide,vg]
   by_cases h:i<0
   ·simp only[h,vg] <;> ext
   ·simp only[h,wu] <;> ext
 ·cases hi with
  | none=>simp[sliceBounds,HT.fc]
  | some i=>
   simp only[sliceBounds,HT.fc,Option.getD_none,show(1:Int)>0 by decide,vg]
   by_cases h:i<0
   ·simp only[h,vg] <;> ext
   ·simp only[h,wu] <;> ext
def CW (its:List vy) (lo hi:Option Int):slicePick its.toArray lo hi none=((its.drop (HT.fc ⇑its 0 lo)).take (HT.fc ⇑its ⇑its hi-HT.fc ⇑its 0 lo)).toArray:=by
 let⟨h1,h2,h3⟩:=Fi lo hi its.toArray.size;unfold slicePick;rw[h1,h2,h3];simp only[sliceRange_one,pick_run,yb] <;> rfl
def WI (K:yB):V->Option Int->Option Int->Hp->VK->Prop:=λx lo hi H Q=>∃a xs,x=.ref a/\aH K H a xs/\∀p,H p=none->Q (.ref p) (upd H p (.lst (ky xs lo hi)))
def fV:QD X (WI X.K):=by
 intro pins s U H x v vl vu lo hi sl Q I rx hs pl pu h;let⟨a,xs,rfl,hx,q⟩:=h;cases rx;let⟨its,r,ht,hz⟩:=I.list hx;let hlen:=⇑r;refine{"list",_,slot_list_getitem.lookup,ht.isList.typeIs,?_};refine wpAny_getItem_list_slice ht.isList hs pl pu .none (by simp) ?_ (by rw[yb] <;> ext);rw[CW,<-hlen];refine{.ref ↑s,_,I.laid (t':=s.toks) (o:=.lst (ky xs lo hi)) (λb ob q=>yv _ q) (zm _) ?_,rfl,q _ (I.b9.fresh (zm _))};exact{zM (uK xs lo hi) hz,_,0,(r.drop (HT.fc ⇑xs 0 lo)).take (HT.fc ⇑xs ⇑xs hi-HT.fc ⇑xs 0 lo),yx _ rfl}
noncomputable def mK:V->Bool
 | .bP=>true
 | .bl _=>true
 | .int _=>true
 | .str _=>true
 | _=>false
noncomputable def RM:V->V->Bool
 | .bP,.bP=>true
 | .bl a,.bl b=>a == b
 | .bl a,.int b=>(if a then 1 else 0) == b
 | .int a,.bl b=>a == (if b then 1 else 0)
 | .int a,.int b=>a == b
 | .str a,.str b=>a == b
 | _,_=>false
def Qb (ry:RelV y u) (rx:RelV x v) (fy:mK y=true) (fx:mK x=true):SeqAt.EqAt A s u v (RM y x):=by
 cases y with
 | bP=>
  cases ry;cases x with
  | bP=>cases rx;exact SeqAt.EqAt.same _
  | bl b=>cases rx;exact SeqAt.EqAt.none_bool b
  | int b=>let⟨t,rfl⟩:=rx;exact SeqAt.EqAt.none_int b t
  | str b=>let⟨t,rfl⟩:=rx;exact SeqAt.EqAt.none_str b t
  | _=>exact absurd (show false=true from fx) zL
 | bl a=>
  cases ry;cases x with
  | bP=>cases rx;exact SeqAt.EqAt.bool_none a
  | bl b=>cases rx;exact SeqAt.EqAt.bool_bool a b
  | int b=>let⟨t,rfl⟩:=rx;exact SeqAt.EqAt.bool_int a b t
  | str b=>let⟨t,rfl⟩:=rx;exact SeqAt.EqAt.bool_str a b t
  | _=>exact absurd (show false=true from fx) zL
 | int a=>
  let⟨t',rfl⟩:=ry;cases x with
  | bP=>cases rx;exact SeqAt.EqAt.int_none a t'
  | bl b=>cases rx;exact SeqAt.EqAt.int_bool a t' b
  | int b=>let⟨t,rfl⟩:=rx;exact SeqAt.EqAt.int_int a t' b t
  | str b=>let⟨t,rfl⟩:=rx;exact SeqAt.EqAt.int_str a t' b t
  | _=>exact absurd (show false=true from fx) zL
 | str a=>
  let⟨t',rfl⟩:=ry;cases x with
  | bP=>cases rx;exact SeqAt.EqAt.str_none a t'
  | bl b=>cases rx;exact SeqAt.EqAt.str_bool a t' b
  | int b=>let⟨t,rfl⟩:=rx;exact SeqAt.EqAt.str_int a t' b t
  | str b=>let⟨t,rfl⟩:=rx;exact SeqAt.EqAt.str_str a t' b t
  | _=>exact absurd (show false=true from fx) zL
 | _=>exact absurd (show false=true from fy) zL
noncomputable def KS (x:V) (u:vy):Bool:=match u with
 | .none=>RM .bP x
 | .bool b=>RM (.bl b) x
 | .int i _=>RM (.int i) x
 | .str z _=>RM (.str z) x
 | _=>false
def Qa (r:RelV y u) (f:mK y=true):KS x u=RM y x:=by
 cases y with
 | bP=>cases r;rfl
 | bl b=>cases r;rfl
 | int i=>let⟨t,rfl⟩:=r;rfl
 | str z=>let⟨t,rfl⟩:=r;rfl
 | _=>exact absurd (show false=true from f) zL
theorem rZ:∀{xs:List V} {us:List vy},Vals xs us->xs.all mK=true->us.any (KS x)=xs.any λy=>RM y x
 | _,_,.nil,_=>rfl
 | y::xs,u::us,.cons r t,f=>by
  rw[wY,zO] at f;rw[xu,xu,Qa r f.1,rZ t f.2]
theorem nV (rx:RelV x v) (fx:mK x=true):∀{xs:List V} {us:List vy},Vals xs us->xs.all mK=true->∀u∈us,SeqAt.EqAt A s u v (KS x u)
 | _,_,.nil,_=>λu hu=>by cases hu
 | y::xs,u::us,.cons r t,f=>λu' hu=>by
  rw[wY,zO] at f;rcases zD.mp hu with rfl | hu
  ·rw[Qa r f.1];exact Qb r rx f.1 fx
  ·exact nV rx fx t f.2 u' hu
noncomputable def F2 (x:V) (xs:List V):Bool:=xs.any λy=>RM y x
inductive UG (K:yB) (neg:Bool) (x y:V) (H:Hp) (Q:VK):Prop
 | mk (p:vE) (xs:List V) (_:y=.ref p) (_:aH K H p xs\/cW K H p xs) (_:mK x=true) (_:xs.all mK=true) (_:Q (.bl (if neg then !F2 x xs else F2 x xs)) H)
def iZ:oj X (compareOp .In) (UG X.K false):=by
 intro pins s U H x y v u Q I rx ry h;let⟨p,xs,rfl,hq,fx,fs,q⟩:=h;cases ry;rcases hq with hq | hq
 ·let⟨its,r,pl,hz⟩:=I.list hq
  refine SeqAt.in_listAt (KS x) pl.isList (λw hw=>nV rx fx r fs w (by simpa using hw)) {.bl _,H,I,rfl,?_};rw[show its.toArray.any (KS x)=its.any (KS x) by simp,rZ r fs];exact q
 ·let⟨its,r,pl,hz⟩:=I.tuple hq
  refine SeqAt.in_tupleAt (KS x) pl (λw hw=>nV rx fx r fs w (by simpa using hw)) {.bl _,H,I,rfl,?_};rw[show its.toArray.any (KS x)=its.any (KS x) by simp,rZ r fs];exact q
def eU:oj X (compareOp .NotIn) (UG X.K true):=by
 intro pins s U H x y v u Q I rx ry h;let⟨p,xs,rfl,hq,fx,fs,q⟩:=h;cases ry;rcases hq with hq | hq
 ·let⟨its,r,pl,hz⟩:=I.list hq
  refine SeqAt.notIn_listAt (KS x) pl.isList (λw hw=>nV rx fx r fs w (by simpa using hw)) {.bl _,H,I,rfl,?_};rw[show its.toArray.any (KS x)=its.any (KS x) by simp,rZ r fs];exact q
 ·let⟨its,r,pl,hz⟩:=I.tuple hq
  refine SeqAt.notIn_tupleAt (KS x) pl (λw hw=>nV rx fx r fs w (by simpa using hw)) {.bl _,H,I,rfl,?_};rw[show its.toArray.any (KS x)=its.any (KS x) by simp,rZ r fs];exact q
def aE:fC X (.builtin "len") (λxs H Q=>∃p ys,xs=[.ref p]/\(aH X.K H p ys\/cW X.K H p ys)/\Q (.int ⇑ys) H):=by
 intro pins s U H xs us Q I r h;let⟨p,ys,rfl,hq,q⟩:=h;let⟨u,rfl,rx⟩:=vals1 r;cases rx;let hn:=BG;rcases hq with hq | hq
 ·let⟨its,r',pl,hz⟩:=I.list hq
  let hlen:=⇑r';exact Calls.call_len_list pl.isList (by simp only[yb] <;> ext) {.int ⇑ys,H,I.tok _,{s.toks+1,by rw[yb,hlen]},q}
 ·let⟨its,r',pl,hz⟩:=I.tuple hq
  let hlen:=⇑r';exact len_tuple pl (by simp only[yb] <;> ext) {.int ⇑ys,H,I.tok _,{s.toks+1,by rw[yb,hlen]},q}
def gh:fC X (.builtin "len") (λxs H Q=>∃z,xs=[.str z]/\⇑z<=sizeLine/\Q (.int ⇑z) H):=by
 intro pins s U H xs us Q I r h;let⟨z,rfl,hz,q⟩:=h;let⟨u,rfl,t,rfl⟩:=vals1 r;let hn:=BG;exact len_str () {.int ⇑z,H,I.tok _,{_,rfl},q}
def iP:fC X (.type "list") (λxs H Q=>∃p ys,xs=[.ref p]/\(aH X.K H p ys\/cW X.K H p ys)/\∀l,H l=none->Q (.ref l) (upd H l (.lst ys))):=by
 intro pins s U H xs us Q I r h;let⟨p,ys,rfl,hq,q⟩:=h;let⟨u,rfl,rx⟩:=vals1 r;cases rx;let fin:∀(its:List vy),Vals ys its->⇑ys<=sizeLine->∀(h':vF) (c':Nat),(∀b o',s.heap.get? b=some o'->h'.get? b=some o')->
   h'.get? ↑s=some {cls:=.type "list",dict:=none,data:=.seq its.toArray c',slots:=#[]}->EP X pins U Q (.ref ↑s) {s with heap:=h'}:=λits r' hz h' c' kp e=>
  {.ref ↑s,_,I.laid (t':=s.toks) kp (zm _) (show cC X.prog X.w _ h' _ (.lst ys) from{(hz),its,c',r',e}),rfl,q _ (I.b9.fresh (zm _))}
 rcases hq with hq | hq
 ·let⟨its,r',pl,hz⟩:=I.list hq
  let hlen:=⇑r';let⟨o,ho,hc,n,hd⟩:=pl.isList;exact call_list_seq p (.inl rfl) ho hc hd (λh' c' kp e=>fin its r' hz h' c' kp e) (by simp only[yb] <;> ext)
 ·let⟨its,r',pl,hz⟩:=I.tuple hq
  let hlen:=⇑r';let⟨o,ho,hc,n,hd⟩:=pl;exact call_list_seq p (.inr rfl) ho hc hd (λh' c' kp e=>fin its r' hz h' c' kp e) (by simp only[yb] <;> ext)
def cL:fC X (.type "tuple") (λxs H Q=>∃p ys,xs=[.ref p]/\((aH X.K H p ys/\∀l,H l=none->Q (.ref l) (upd H l (.tup ys)))\/(cW X.K H p ys/\Q (.ref p) H))):=by
 intro pins s U H xs us Q I r h;let⟨p,ys,rfl,h⟩:=h;let⟨u,rfl,rx⟩:=vals1 r;cases rx;rcases h with⟨hq,q⟩ | ⟨hq,q⟩
 ·let⟨its,r',pl,hz⟩:=I.list hq
  let hlen:=⇑r';refine call_tuple_list pl.isList (λh' kp=>?_) (by simp only[yb] <;> ext);let I1:Inv X pins U H {s with heap:=h'}:=I.kept (t':=s.toks) kp;let I2:Inv X pins U (upd H h'.objs.size (.tup ys)) {s with heap:=h'.push {cls:=.type "tuple",data:=.seq its.toArray}}:=
   I1.laid (t':=s.toks) (λb o e=>yv _ e) (zm _) (show cC X.prog X.w _ _ _ (.tup ys) from{hz,its,r',IsTup.new _ _})
  exact{.ref h'.objs.size,_,I2,rfl,q _ (I1.b9.fresh (zm _))}
 ·let⟨its,r',pl,hz⟩:=I.tuple hq
  exact call_tuple_same pl {.ref p,H,I,rfl,q}
def VU (K:yB) (T:String) (x:V) (H:Hp):Prop:=match x with
 | .str _=>T ="str"
 | .int _=>T ="int"
 | .ref p=>(T ="list"/\∃xs,aH K H p xs)\/(T ="tuple"/\∃o,K.lookup p=some o/\o.cls=.type "tuple"/\o.dict=none)\/
   (T ="dict"/\((∃kvs,H p=some (.dK kvs))\/∃kvs,H p=some (.dT kvs)))\/(T ="set"/\∃S n,H p=some (.set S n))
 | _=>False
def Oi (I:Inv X pins U H s) (r:RelV x v) (ty:VU X.K T x H) :
  s.TypeIs v T/\∀a,v=.ref a->∃ob,s.heap.get? a=some ob/\ob.dict=none:=by
 cases x with
 | str z=>
  let⟨t,rfl⟩:=r;cases(show T ="str" from ty);exact{wR s z t,λ_ e=>nomatch e}
 | int i=>
  let⟨t,rfl⟩:=r;cases(show T ="int" from ty);exact{typeIs_int s i t,λ_ e=>nomatch e}
 | ref p=>
  cases r;rcases ty with⟨rfl,xs,hq⟩ | ⟨rfl,o,hk,hc,hd⟩ | ⟨rfl,hk⟩ | ⟨rfl,S,n,hk⟩
  ·let⟨its,_,pl,_⟩:=I.list hq
   refine{pl.isList.typeIs,λa e=>?_};cases e;let⟨o,n,e,c,hd,_⟩:=pl;exact{(o),e,hd}
  ·refine{{o,I.rF p o hk,hc},λa e=>?_}
   cases e;exact{o,I.rF _ o hk,hd}
  ·let z:∃o,s.heap.get? p=some o/\o.ExactDict:=by
    rcases hk with⟨kvs,hk⟩ | ⟨kvs,hk⟩
    ·let⟨_,_,_,_,o,_,_,e,ex,_⟩:=I.b9 p _ hk
     exact{(o),e,ex}
    ·let⟨_,_,_,_,o,_,_,e,ex,_⟩:=I.b9 p _ hk
     exact{(o),e,ex}
   let⟨o,e,ex⟩:=z;refine{{(o),e,ex.1},λa e2=>?_};cases e2;exact{(o),e,ex.2.1}
  ·let⟨o,_,_,_,e,ex,_⟩:=I.b9 p _ hk
   refine{{(o),e,ex.1},λa e2=>?_};cases e2;exact{(o),e,ex.2.1}
 | _=>exact False.elim ty
def WC (K:yB) (T:String) (r:V->List V->Hp->VK->Prop) (to:TE):TE:=λU H Q=>to U H λx H1=>VU K T x H1/\r x [] H1 Q
def VX (K:yB) (T:String) (r:V->List V->Hp->VK->Prop) (to:TE) (t:TA):TE:=λU H Q=>to U H λx H1=>VU K T x H1/\t U H1 λxs H2=>r x xs H2 Q
variable {o e:Expr} {es:List Expr} {to:TE} {t:TA} {name:Str} {apos cpos:Pos} {T id:String} {r:V->List V->Hp->VK->Prop}
def TJ (pa:PlainAttrs T) (slot:Slot T name id) (hty:typeOf (.builtin id)=pure (.type "method_descriptor")) (hm:Xk X id r) (ho:PE X o to)
  (hbase:attributeBase o name X.env (eval o X.env)=eval o X.env<|>qe_) (hline:(apos.endLine == cpos.line)=true<|>qe_):PE X (.Call (.Attribute o name apos) [] [] cpos) (WC X.K T r to):=by
 intro pins s U H Q I h;refine wpAny_Call_method0_late hbase hline (cX (ho pins s U H _ I h) λv s1 z0=>?_);let⟨x,H1,I1,r1,ty,q1⟩:=z0;let⟨h1,h2⟩:=Oi I1 r1 ty;exact{T,id,pa,slot,hty,h1,h2,wO rfl (PySem.evalArgs_none (hm pins s1 U H1 x [] v [] Q I1 r1 .nil q1))}
def bJ (pa:PlainAttrs T) (slot:Slot T name id) (hty:typeOf (.builtin id)=pure (.type "method_descriptor")) (hm:Xk X id r) (ho:PE X o to) (ha:PA X (e::es) t)
  (hbase:attributeBase o name X.env (eval o X.env)=eval o X.env<|>qe_)
  (hfew:((backTo cpos (starEach (e::es) X.env)).all (λx=>!x.1)&&(backToKw cpos (keywordEach [] X.env)).all (λx=>x.1.isSome)
   &&decide (⇑(e::es)+⇑([]:List Keyword)+(if([]:List Keyword).isEmpty then 0 else 1)<30))=true<|>qe_)
  (hline:(apos.endLine == cpos.line)=true<|>qe_) (hs:starEach (e::es) X.env=(false,eval e X.env)::starEach es X.env<|>qe_) (hplain:(backTo cpos (starEach es X.env)).any (·.1)=false<|>qe_) :
  PE X (.Call (.Attribute o name apos) (e::es) [] cpos) (VX X.K T r to t):=by
 intro pins s U H Q I h;refine wpAny_Call_method_late hbase hfew hline rfl (cX (ho pins s U H _ I h) λv s1 z0=>?_);let⟨x,H1,I1,r1,ty,q1⟩:=z0;let⟨h1,h2⟩:=Oi I1 r1 ty;refine{T,id,pa,slot,hty,h1,h2,?_};let hA:=ha cpos pins s1 U H1 _ I1 q1;rw[hs] at hA ⊢;refine wO (by show(false||(backTo cpos (starEach es X.env)).any (·.1))=false;rw[hplain] <;> rfl) (Calls.evalArgs_plain ?_);refine cX hA λus s2 z0=>?_;let⟨vs,H2,I2,r2,q2⟩:=z0;exact hm pins s2 U H2 x vs v us Q I2 r1 r2 q2
end
end L2
namespace L2
open PySem PySem.Spec PyProof.Rows
def R5 (X:Cx) (id:String) (r:V->List V->Hp->VK->Prop):Prop:=
 ∀(pins:List (vE×Obj)) (s:vz) (U:St) (H:Hp) (x:V) (xs:List V) (v:vy) (us:List vy) (Q:VK),Inv X pins U H s->RelV x v->Vals xs us->r x xs H Q->
  wpAny (model X.prog X.w) X.A (call (.builtin id) (v::us)) (EP X pins U Q) X.xe s
def Vals.one {x:V} {us:List vy} (h:Vals [x] us):∃u,us=[u]/\RelV x u:=by
 cases h with
 | cons r t=>cases t;exact{_,rfl,r}
theorem Vals.zero:∀{us:List vy},Vals [] us->us=[]
 | _,.nil=>rfl
theorem Vals.reverse (h:Vals xs us):Vals xs.reverse us.reverse:=by
 induction h with
 | nil=>exact .nil
 | cons r t ih=>rw[List.reverse_cons,List.reverse_cons];exact Vals.append ih (.cons r .nil)
section
variable {X:Cx} {pins:List (vE×Obj)} {U:St} {H:Hp} {s:vz} {l b:vE} {xs ys zs:List V}
def Inv.Ry {its its':List vy} {n:Nat} {f:Array vy->Array vy} {t':Nat} (I:Inv X pins U H s) (hH:H l=some (.lst xs))
  (e:s.heap.get? l=some {cls:=.type "list",data:=.seq its.toArray n}) (hf:f its.toArray=its'.toArray) (hv:Vals ys its') (hz:⇑ys<=sizeLine) :
  Inv X pins U (upd H l (.lst ys)) {s with heap:=s.heap.update l (Obj.mapSeq f),toks:=t'}:=by
 let q:=PySem.IsL.update e f;rw[hf] at q;refine I.write (x:=l) (e:=l) (by rw[hH];exact trivial) (.inl rfl) (λb' u hb hu=>(yz s.heap (Obj.mapSeq f) (Ne.symm hb)).trans hu) {_,q} ?_;exact{hz,its',_,hv,q}
def Inv.Vj (I:Inv X pins U H s) (hv:Vals ys its) (hz:⇑ys<=sizeLine) :
  Inv X pins U (upd H ↑s (.lst ys)) {s with heap:=s.heap.push {cls:=.type "list",data:=.seq its.toArray},toks:=t'}:=
 I.laid (λ_ _ q=>yv _ q) (zm _) {hz,its,0,hv,yx _ rfl}
theorem Inv.fresh (I:Inv X pins U H s):H ↑s=none:=I.b9.fresh (zm _)
def Inv.M6 (I:Inv X pins U H s) (hH:H l=some (.lst xs)):⇑xs<=sizeLine/\∃(its:List vy) (n:Nat),Vals xs its/\⇑xs=⇑its/\s.heap.get? l=some {cls:=.type "list",data:=.seq its.toArray n}:=by
 let⟨z,its,n,r,e⟩:=I.b9 l _ hH;exact{(z),its,n,r,⇑r,e}
def II (h:n<=sizeLine):Builtin.List.listTooLong n=false:=by
 unfold Builtin.List.listTooLong;exact ze ()
end
section
variable {X:Cx}
inductive Rg (x:V) (vs:List V) (H:Hp) (Q:VK):Prop
 | mk (l:vE) (xs:List V) (y:V) (_:x=.ref l) (_:vs=[y]) (_:H l=some (.lst xs)) (_:⇑xs<sizeLine) (_:Q .bP (upd H l (.lst (xs++[y]))))
def bB:R5 X "list.append" Rg:=by
 intro pins s U H x vs v us Q I rx rv h;let⟨l,xs,y,rfl,rfl,hH,hz,q⟩:=h;cases rx;let⟨u,rfl,ru⟩:=rv.one;let⟨z,its,n,r,hl,e⟩:=I.M6 hH;refine wB F.slot_list_append {_,e,rfl} F.entry_list_append (F.args_list_append_2 _ _) (PySem.list_append l its.toArray n u (by rw[yb];ext)) {e,?_};refine{.bP,_,I.Ry (its':=its++[u]) hH e (by simp) (r.append (.cons ru .nil)) ?_,rfl,q};rw[zh,List.length_singleton];ext
inductive LU (x:V) (vs:List V) (H:Hp) (Q:VK):Prop
 | mk (l b:vE) (xs zs:List V) (_:x=.ref l) (_:vs=[.ref b]) (_:H l=some (.lst xs)) (_:H b=some (.lst zs)) (_:⇑xs+⇑zs<=sizeLine) (_:Q .bP (upd H l (.lst (xs++zs))))
def M4:R5 X "list.extend" LU:=by
 intro pins s U H x vs v us Q I rx rv h;let⟨l,b,xs,zs,rfl,rfl,hH,hB,hz,q⟩:=h;cases rx;let⟨u,rfl,ru⟩:=rv.one;cases ru;let⟨z,its,n,r,hl,e⟩:=I.M6 hH;let⟨z2,its2,n2,r2,hl2,e2⟩:=I.M6 hB;let hsz:its.toArray.size+its2.toArray.size<=sizeLine:=by rw[yb,yb];ext
 let hlong:¬(!its.toArray.isEmpty&&Builtin.List.listTooLong (its.toArray.size+its2.toArray.size))=true:=by
  rw[II hsz,wK];exact zL
 refine wB F.slot_list_extend {_,e,rfl} F.entry_list_extend (F.args_list_extend_2 _ _)
  (AutoSeq1.list_extend_list_list_0 l its.toArray n b its2.toArray n2 hlong (by rw[yb];ext) ()) {e,e2,?_}
 refine{.bP,_,I.Ry (its':=its++its2) hH e (by simp) (r.append r2) ?_,rfl,q};rw[zh];ext
def O1:V->List V->Hp->VK->Prop:=λx vs H Q=>∃l xs,x=.ref l/\vs=[]/\H l=some (.lst xs)/\Q .bP (upd H l (.lst xs.reverse))
def KC:R5 X "list.reverse" O1:=by
 intro pins s U H x vs v us Q I rx rv h;let⟨l,xs,rfl,rfl,hH,q⟩:=h;cases rx;let hus:=rv.zero;subst hus;let⟨z,its,n,r,hl,e⟩:=I.M6 hH;refine wB F.slot_list_reverse {_,e,rfl} F.entry_list_reverse (F.args_list_reverse_1 _) (AutoSeq1.list_reverse_list_0 l its.toArray n (by rw[yb];ext)) {e,?_};refine{.bP,_,I.Ry (its':=its.reverse) hH e (by simp) r.reverse ?_,rfl,q};rw[List.length_reverse];ext
end
section
variable {prog:vA} {w:vB} {A:vC} {E:vy->vz->Prop} {s:vz}
end
section
variable {X:Cx}
end
end L2
namespace Xo
open PySem PySem.W PySem.Calls PyProof.Rows
def vS:∀(ns:List Int) (vs:List vy),WellAll P h vs (ns.map WData.int)->IntsAre vs ns:=by
 intro ns
 induction ns with
 | nil=>
  intro vs w;rw[yn] at w;cases w;exact .nil
 | cons n ns ih=>
  intro vs w;rw[zj] at w;cases w with
  | cons a b=>
   cases a;exact .cons _ _ (ih _ b)
def MK {l:OpenLaw} {n:Nat} (hn:l.most=some n) {P:Params} {h:vF} {args:List WData} {vals:List vy}
  (hpre:l.row.toRowW.claim.pre args=true) (hwl:WellAll P h vals args) :
  ∃a vs ns,vals=[Value.ref a]/\args=[WData.list (ns.map WData.int)]/\h.get? a=some {cls:=.type "list",data:=.seq vs.toArray}/\IntsAre vs ns/\⇑ns<=n:=by
 let hsh:WShape.hasAll [] args [.list .int]=true:=(pre_splitW hpre).1;let hc:l.pre.holds [] {args:=args}=true:=(pre_splitW hpre).2;let⟨d,r,rfl,h1,h2⟩:=hasAllW_cons hsh;obtain rfl:=hasAllW_nil h2;let⟨xs,rfl,h3⟩:=hasW_list h1;let⟨ns,rfl⟩:=items_int h3;let hlen:⇑ns<=n:=by
  unfold OpenLaw.pre at hc;let h4:(WTm.not (.lt (.lit (.int (n:Int))) (.len (.arg 0)))).holds [] {args:=[.list (ns.map .int)]}=true:=by
   let h4:=(holds_andW hc).1;rw[hn] at h4;exact h4
  let h5:=condW_of h4 (w_not (w_lt w_lit (w_len_list (w_arg rfl))));rw[za] at h5;refine Nat.le_of_not_lt λq=>?_;let q':(n:Int)<((⇑ns:Nat):Int):=()
  first
   | (rw[zg q'] at h5;exact absurd h5 ∅)
   | (simp at h5;ext)
 cases hwl with
 | cons w1 w2=>
  cases w2;cases w1 with
  | list ho hall=>exact{_,_,ns,rfl,rfl,ho,vS ns _ hall,hlen}
def MU (l:OpenLaw) (args:List WData):l.row.toRowW.claim.post args (.bool true) args=true:=
 postW_of (r:=l.row.toRowW) (X:=(true == true))
  (show WShape.has [] (.bool true) .bool=true by first | rfl | decide | simp[WShape.has,WShape.arms,WShape.armsAll])
  (show(WTm.eq .res (.lit (.bool true))).value [] {args:=args,res:=some (.bool true),after:=args}=some (.bool (true == true)) from w_eq_bool (w_res rfl) w_lit) rfl
def JD {l:OpenLaw} {n:Nat} {q:vA} {loose:List Str} {XP:(Str->Option vy)->vF->Prop} {YP:vB->vF->Prop} {d:DefRec}
  (hn:l.most=some n) (hdf:d.params.defaults=[])
  (call:∀(w:vB) (s₀ s₁:vz) (mg mb:Str->Option vy) (fa:vE) (o:Obj) (pm cd doc:vy) (a:vE) (vs:List vy) (ns:List Int),
   Ground q loose [] XP w s₀ mg mb s₁.heap->YP w s₁.heap->
   s₁.heap.get? fa=some o->o.data=.func (docDef d.name d.params d.body d.scope pm cd doc)->s₁.heap.CodeRec cd d.name->mg d.name=some (.ref fa)->
   s₁.heap.get? a=some {cls:=.type "list",data:=.seq vs.toArray}->IntsAre vs ns->⇑ns<=n->s₁.gens=#[]->
   codeAny (model l.prog w) callerA (.call (.ref fa) {[.ref a],[]}) (λr s'=>r=.ok (.ret (.bool true))/\OldK s₁.heap s'.heap/\s'.os=s₁.os/\AllBare s'.gens) s₁) :
  WalkO q loose XP YP l.row.toRowW d [] (λf vs=>PySem.call f vs):=by
 intro w s₀ s₁ mg mb G Y fa o pm cd doc dV kV ho hd hcd hD hmg hg args vals as hpre hlay hrd hwl hlo;obtain rfl:dV=.none:=Dflts.none hD hdf;obtain rfl:kV=.none:=Dflts.noKw hD;let⟨a,vs,ns,rfl,rfl,hobj,hints,hlen⟩:=MK hn hpre hwl;refine enter_call (xU (call w s₀ s₁ mg mb fa o pm cd doc a vs ns G Y ho (fd_plain hd) hcd hmg hobj hints hlen hg) λr s' hq=>?_);let⟨rfl,h2,h3,h4⟩:=hq;exact{.inl {.bool true,.bool true,[],rfl,λ_=>rfl,.bool true,MU l _,λ_=>{List.Pairwise.nil,λ_ hm=>(nomatch hm)}},h2,h3,h4}
section
variable {prog:vA} {w:vB} {A:vC} {E:vy->vz->Prop} {s:vz} {K:Frag}
end
end Xo
namespace L2
open PySem PySem.Spec PyProof.Rows
theorem Ee:∀{vs:List vy} {ns:List Int},IntsAre vs ns->Vals (ns.map V.int) vs
 | _,_,.nil=>.nil
 | _,_,.cons n t h=>.cons {(t),rfl} (Ee h)
def Uy (H:Hp):Prop:=∀b,H b=none\/∃o xs,H b=some (.mV o (.lst xs))
def PL {P:vA} {w:vB} {K:yB} {mg mb:Str->Option vy} {CX:LA} {k:Nat} {fa a:vE} {fd:vD} {x:Str} {sp:Sp} {s₁:vz} {vs:List vy} {ns:List Int}
  (KX:K.In s₁.heap) (hns:s₁.heap.Ns mainGlobals mg) (hb:s₁.heap.Ns builtinsNs mb) (hbb:∀x:Str,x≠ "__name__"->mb x=bootBuiltins x) (hlim:s₁.heap.NoLimit) (hg:s₁.gens=#[])
  (ha:s₁.heap.get? a=some {cls:=.type "list",data:=.seq vs.toArray}) (hi:IntsAre vs ns) (hl:⇑ns<=sizeLine) (hr:fP k callerA)
  (F:∀base:vF,K.In base->base.Ns mainGlobals mg->dB P w K mg base CX k fa fd [x] sp) (hbind:∀(s:vz) (u:vy),BindsTo s fd {[u],[]} [(x,u)])
  (hsp:∀H:Hp,Uy H->aH K H a (ns.map V.int)->sp [.ref a] H (λv _=>v=.bl true) λ_ _ _=>False)
  (hCX:∀H e s',CX [] H s₁ (λ_ _ _=>False) e s'->False) :
  codeAny (model P w) callerA (.call (.ref fa) {[.ref a],[]}) (λr s'=>r=.ok (.ret (.bool true))/\OldK s₁.heap s'.heap/\s'.os=s₁.os/\AllBare s'.gens) s₁:=by
 let rv:=Ee hi;let lenV:=⇑hi;let core:∀H:Hp,Uy H->aH K H a (ns.map V.int)->qt P w H s₁.heap->(∀b,H b≠none->b=a)->(H a≠none->K.lookup a=none)->
   codeAny (model P w) callerA (.call (.ref fa) {[.ref a],[]}) (λr s'=>r=.ok (.ret (.bool true))/\OldK s₁.heap s'.heap/\s'.os=s₁.os/\AllBare s'.gens) s₁:=by
  intro H hO hS b9 hA hK;let base_of:∀{b:vE} {o:Obj},s₁.heap.get? b=some o->H b=none->(F4 s₁.heap H).get? b=some o:=λe n=>PU e n;let noA:∀{b:vE} {o:Obj} {es:Array DictEntry} {ep:Nat},s₁.heap.get? b=some o->o.data=.dict es ep->H b=none:=λ{b o es ep} e d=>by
   cases q:H b with
   | none=>rfl
   | some u=>
    let e':b=a:=hA b (by rw[q];simp);subst e';rw[ha] at e;cases e;let d':Data.seq vs.toArray _=Data.dict es ep:=d;cases d'
  let nsK:∀{b:vE} {m:Str->Option vy},s₁.heap.Ns b m->(F4 s₁.heap H).Ns b m:=λ{b m} ⟨o,es,ep,e,d,r⟩=>{o,es,ep,base_of e (noA e d),d,r}
  let hKb:K.In (F4 s₁.heap H):=λb o e=>base_of (KX b o e) (by
   cases q:H b with
   | none=>rfl
   | some u=>
    let e':b=a:=hA b (by rw[q];simp);subst e';rw[hK (by rw[q];simp)] at e;cases e)
  let hM:Mod K mg (F4 s₁.heap H):={hKb,nsK hns,{mb,nsK hb,hbb},let ⟨mc,h1,h2⟩:=hlim;{mc,nsK h1,h2}}
  let e0:JR P w K mg (F4 s₁.heap H) callerA [] s₁ H:={rfl,hM,λb o e=>Rv e,Nat.le_of_eq (Ni _ _),trivial,λb hb=>absurd (show b∈([]:List vE) from hb) (by simp),b9,.of_eq hg}
  refine xU ((F _ hKb (nsK hns)).run callerA [] s₁ H {[.ref a],[]} [.ref a] [.ref a] _ _ hr e0 (hbind s₁ (.ref a)) (.cons rfl .nil) (hsp H hO hS)) λr s' h=>?_;cases r with
  | error e=>exact(hCX H e s' h).elim
  | ok fl=>
   cases fl with
   | next=>exact False.elim h
   | brk=>exact False.elim h
   | cont=>exact False.elim h
   | ret u=>
    let⟨v,H',os,bare,un,hok',r',q⟩:=h;let q':v=.bl true:=q;subst q';obtain rfl:u=Value.bool true:=r';refine{rfl,OldK.of_keep λb o e=>?_,os,bare};cases q:H b with
    | none=>exact un.keep b o e q (by intro z;exact absurd (show b∈([]:List vE) from z) (by simp)) (by simp)
    | some u=>
     rcases hO b with z | ⟨ob,xs,z⟩
     ·rw[q] at z;cases z
     ·let z2:=un.mU b ob _ z
      let⟨e1,_⟩:=b9 b _ z;let⟨e2,_⟩:=hok' b _ z2;rw[e] at e1;cases e1;exact e2
 cases hk:K.lookup a with
 | some o=>
  let e:=KX a o hk;rw[ha] at e;cases e;refine core (λ_=>none) (λ_=>.inl rfl) (.inr {_,vs.toArray,_,hk,rfl,rfl,rfl,by rw[yb,lenV];exact hl,by simpa using rv}) (λb u z=>by let z':(none:Option HO)=some u:=z;cases z') (λb z=>absurd rfl z) λz=>absurd rfl z
 | none=>
  refine core (λb=>if b=a then some (.mV {cls:=.type "list",data:=.seq vs.toArray} (.lst (ns.map V.int))) else none) (λb=>?_) (.inl (.inr {{cls:=.type "list",data:=.seq vs.toArray},yO rfl})) (λb u z=>?_) (λb z=>?_) λ_=>hk
  ·by_cases hb:b=a
   ·exact .inr {_,_,yO hb}
   ·exact .inl (yN hb)
  ·by_cases hb:b=a
   ·let z':=(yO hb).symm.trans z
    cases z';subst hb;exact{ha,by rw[za];exact hl,vs,_,rv,ha}
   ·let z':=(yN hb).symm.trans z
    cases z'
  ·by_cases hb:b=a
   ·exact hb
   ·exact absurd (yN hb) z
end L2
namespace L2
open PySem PySem.Spec PyProof.Rows
def QP {l:PySem.W.OpenLaw} {n k:Nat} {q:vA} {loose:List Str} {XP:(Str->Option vy)->vF->Prop} {YP:vB->vF->Prop} {d:DefRec} {K:Params->yB} {CX:vB->LA} {sp:vB->Sp} {x:Str}
  (hn:l.most=some n) (hn2:n<=sizeLine) (hdf:d.params.defaults=[]) (hr:fP k callerA)
  (hY:∀(w:vB) (h:vF),YP w h->(K w.params).In h)
  (F:∀(w:vB) (mg:Str->Option vy) (fa:vE) (h:vF),(K w.params).In h->h.Ns mainGlobals mg->mg d.name=some (.ref fa)->
   ∃fd:vD,(∀(s:vz) (u:vy),BindsTo s fd {[u],[]} [(x,u)])/\
    ∀base:vF,(K w.params).In base->base.Ns mainGlobals mg->dB l.prog w (K w.params) mg base (CX w) k fa fd [x] (sp w))
  (hsp:∀(w:vB) (H:Hp) (a:vE) (ns:List Int),⇑ns<=n->Uy H->aH (K w.params) H a (ns.map V.int)->sp w [.ref a] H (λv _=>v=.bl true) λ_ _ _=>False)
  (hCX:∀(w:vB) (H:Hp) (s:vz) (e:vy) (s':vz),CX w [] H s (λ_ _ _=>False) e s'->False) :
  PySem.W.WalkO q loose XP YP l.row.toRowW d [] (λf vs=>PySem.call f vs):=by
 refine Xo.JD hn hdf λw s₀ s₁ mg mb fa o pm cd doc a vs ns G Y ho hd hcd hmg hobj hints hlen hg=>?_;let KX:=hY w _ Y;let⟨fd,hb,hF⟩:=F w mg fa _ KX G.T.g hmg;exact PL KX G.T.g G.T.b G.T.builtins G.T.nolimit hg hobj hints (zM hlen hn2) hr hF hb (λH hO hS=>hsp w H a ns hlen hO hS) λH e s'=>hCX w H s₁ e s'
end L2
namespace L2
open PySem PySem.Spec PyProof.Rows
def inClass (s:Stmt) (j:Nat):Stmt:=match s with
 | .ClassDef _ _ _ body _ _ _ _ _ _ _=>body.getD j (.Pass {0,0,0,0})
 | _=>.Pass {0,0,0,0}
noncomputable def dh (s:Stmt):Arguments:=match s with
 | .FunctionDef _ a _ _ _ _ _ _ _ _=>a
 | _=>{posonlyargs:=[],args:=[],vararg:=none,kwonlyargs:=[],kw_defaults:=[],kwarg:=none,defaults:=[]}
noncomputable def cA (s:Stmt):List Stmt:=match s with
 | .FunctionDef _ _ b _ _ _ _ _ _ _=>b
 | _=>[]
noncomputable def aT (s:Stmt):Scope:=match s with
 | .FunctionDef _ _ _ _ _ _ sc _ _ _=>sc
 | _=>{kind:=.function,names:=[],isGenerator:=false,isCoroutine:=false}
abbrev JT:LA:=λ_ _ _ _ _ _=>False
abbrev E0:XK:=λ_ _ _=>False
def LW:Passes JT X E0:=λ_ _ _ _ _ _ _ h=>h.elim
structure QH (K:yB) (x qual:Str) (st:Stmt) (f:vE) (fd:vD):Prop where
 ex:∃(oc:vy) (od:Option vE) (kV doc pm:vy) (an:Option vE) (cdv ct:vy) (osl:Array (Option vy)),
  fd=PySem.W.fnOf x qual (dh st) (cA st) (aT st) .none kV doc pm an cdv ct/\K.lookup f=some {oc,od,.func fd,osl}/\PySem.W.codeIn K cdv qual=true
 kp:PySem.W.keepIn K (.ref f)=true
section
variable {P:vA} {w:vB} {K:yB} {mg:Str->Option vy} {base:vF}
def QH.ok {x qual:Str} {st:Stmt} {f:vE} {fd:vD} {N ps:List Str} {k:Nat} {sp:Sp} (F:QH K x qual st f fd) (S:gq N ps (aT st)) (len:∀vs H Q E,sp vs H Q E->⇑vs=⇑ps)
  (hbody:∀(cdv:vy) (A:vC) (outer:List Env) (s:vz) (H:Hp) (vs:List V) (Q:VK) (E:XK),fP k (A.deeper (envOfC qual (aT st) ↑s f cdv))->sp vs H Q E->
   ∃t,EV (ku JT P w K mg base N qual (aT st) f cdv A outer s H E).Kz (cA st) t/\t {nx:=λ_ H'=>Q .bP H',rt:=Q} (start N vs) H):dB P w K mg base JT (k+1) f fd ps sp:=by
 let⟨oc,od,kV,doc,pm,an,cdv,ct,osl,rfl,lk,hcd⟩:=F.ex;refine Sw lk hcd S len λA outer s H vs Q E hr hsp=>?_;let⟨t,h,q⟩:=hbody cdv A outer s H vs Q E hr hsp;exact{(t),h.Kz,q}
def QH.binds {x qual:Str} {st:Stmt} {f:vE} {fd:vD} {ps:List Str} (F:QH K x qual st f fd)
  (h:∀(kV doc pm:vy) (an:Option vE) (cdv ct:vy) (us:List vy),⇑us=⇑ps->bindArgs (PySem.W.fnOf x qual (dh st) (cA st) (aT st) .none kV doc pm an cdv ct) {us,[]}=pure (ps.zip us)):Binds K fd ps []:=by
 let⟨oc,od,kV,doc,pm,an,cdv,ct,osl,rfl,lk,hcd⟩:=F.ex;exact .all (h kV doc pm an cdv ct)
def ko {x qual:Str} {st:Stmt} {f:vE} {oc:vy} {od an:Option vE} {osl:Array (Option vy)} {kV doc pm cdv ct:vy} (l:K.lookup f=some {oc,od,.func (PySem.W.fnOf x qual (dh st) (cA st) (aT st) .none kV doc pm an cdv ct),osl})
  (c:PySem.W.codeIn K cdv qual=true) (k:PySem.W.keepIn K (.ref f)=true):QH K x qual st f (PySem.W.fnOf x qual (dh st) (cA st) (aT st) .none kV doc pm an cdv ct):={{(oc),od,kV,doc,pm,an,cdv,ct,osl,rfl,l,c},k}
end
def fK (hr:fP k A):A.units+1<cLine:=Nat.lt_of_le_of_lt (Nat.add_le_add_left (by decide:1<=64) _) hr.units
section
variable {X:Cx}
def pv (i:Nat) (hN:X.N[i]?=some x<|>qe_) (hv:Uv X.env.scope x<|>qg_) (hd:(x == ("__debug__": Str))=false<|>qb_)
  (hcd:(x == ("__classdict__": Str))=false<|>qb_):PE X (.Name x pos) (aW i):=TB hN hv hd hcd
end
def Vm {A B:Prop} (h:B):if false=true then A else B:=by
 rw[yN zL];exact h
def WS {A B:Prop} (h:A):if true=true then A else B:=by
 rw[yO rfl];exact h
def vR {c A B:Prop} [Decidable c] (h1:c->A) (h2:¬c->B):if c then A else B:=by
 by_cases h:c
 ·rw[yO h]
  exact h1 h
 ·rw[yN h]
  exact h2 h
def Ss {c A B:Prop} [Decidable c] (hc:c) (h:B):if(!decide c)=true then A else B:=by
 rw[zg hc];exact Vm h
def au (H H':Hp):Prop:=∀b o,H b=some o->H' b=some o
def au.refl (H:Hp):au H H:=λ_ _ h=>h
def au.trans (a:au H H1) (b:au H1 H2):au H H2:=λc o h=>b c o (a c o h)
def au.seq {K:yB} {H H':Hp} {a:vE} {xs:List V} (e:au H H') (h:aH K H a xs):aH K H' a xs:=by
 rcases h with(h | ⟨o,h⟩) | h
 ·exact .inl (.inl (e _ _ h))
 ·exact .inl (.inr {o,e _ _ h})
 ·exact .inr h
end L2
namespace Lm
def red (t b:Int):Int×Int:=(t/(Int.gcd t b:Int),b/(Int.gcd t b:Int))
def Aw {t b:Int} (hb:0<b):0<(Int.gcd t b:Int):=by
 have:0<Int.gcd t b:=Int.gcd_pos_of_ne_zero_right t ();ext
def lF {t b k:Int} (hk:0<k) (hb:0<b):red (k*t) (k*b)=red t b:=by
 let g0:=Aw (t:=t) hb;let e:(Int.gcd (k*t) (k*b):Int)=k*(Int.gcd t b:Int):=by
  rw[Int.gcd_mul_left];simp only[Int.natCast_mul];rw[Int.natAbs_of_nonneg ()]
 unfold red;rw[e,Int.mul_ediv_mul_of_pos _ _ hk,Int.mul_ediv_mul_of_pos _ _ hk]
def jh {t b:Int} (hb:0<b):∃g,0<g/\t=g*(red t b).1/\b=g*(red t b).2/\0<(red t b).2/\(red t b).2<=b:=by
 let g0:=Aw (t:=t) hb;let d1:(Int.gcd t b:Int) ∣ t:=Int.gcd_dvd_left ..;let d2:(Int.gcd t b:Int) ∣ b:=Int.gcd_dvd_right ..;let e1:(Int.gcd t b:Int)*(t/(Int.gcd t b:Int))=t:=Int.mul_ediv_cancel' d1;let e2:(Int.gcd t b:Int)*(b/(Int.gcd t b:Int))=b:=Int.mul_ediv_cancel' d2;refine{_,g0,e1.symm,e2.symm,?_,?_}
 ·exact Int.ediv_pos_of_pos_of_dvd hb () d2
 ·exact zX _ ()
def Bj {t b:Int} (ht:0<=t):0<=(red t b).1:=zW ht (Int.natCast_nonneg _)
def Bk {t b:Int} (ht:0<=t):(red t b).1<=t:=zX _ ht
def Q9 {t b:Int} (hb:0<b):red (red t b).1 (red t b).2=red t b:=by
 let⟨g,g0,e1,e2,p,_⟩:=jh (t:=t) hb;let h:=lF (t:=(red t b).1) (b:=(red t b).2) g0 p;rw[<-e1,<-e2] at h;exact h.symm
def Tr {t b s c:Int} (hb:0<b) (hc:0<c) (h:t*c=s*b):red t b=red s c:=by
 let h1:red (c*t) (c*b)=red t b:=lF hc hb;let h2:red (b*s) (b*c)=red s c:=lF hb hc;rw[<-h1,<-h2,xE c t,h,xE s b,xE c b]
def add (x y:Int×Int):Int×Int:=red (x.1*y.2+y.1*x.2) (x.2*y.2)
def R0 {t b s c:Int} (hb:0<b) (hc:0<c):add (red t b) (red s c)=red (t*c+s*b) (b*c):=by
 let⟨g,g0,e1,e2,p,_⟩:=jh (t:=t) hb;let⟨k,k0,f1,f2,q,_⟩:=jh (t:=s) hc;unfold add;generalize hx:red t b=x at *;generalize hy:red s c=y at *;let h:=lF (t:=x.1*y.2+y.1*x.2) (b:=x.2*y.2) (xB g0 k0) (xB p q);rw[<-h]
 congr 1
 ·rw[e1,e2,f1,f2,Int.mul_add]
  congr 1 <;> simp only[wZ,wN,xE]
 ·rw[e2,f2];simp only[wZ,wN,xE]
end Lm
namespace Lm
def Rd (x:Int×Int):Prop:=∃t b,0<=t/\0<b/\x=red t b
def Rd.of {t b:Int} (ht:0<=t) (hb:0<b):Rd (red t b):={(t),b,ht,hb,rfl}
def Rd.pos {x:Int×Int} (h:Rd x):0<=x.1/\0<x.2/\red x.1 x.2=x:=by
 let⟨t,b,ht,hb,rfl⟩:=h;let⟨g,g0,e1,e2,p,_⟩:=jh (t:=t) hb;exact{Bj ht,p,Q9 hb}
def Rd.zero:Rd (0,1):={0,1,∅,∅,∅}
theorem Rd.add {x y:Int×Int} (h:Rd x) (k:Rd y):Rd (add x y):=by
 let⟨a,b,_⟩:=h.pos;let⟨c,d,_⟩:=k.pos;refine{_,_,?_,xB b d,rfl};exact Int.add_nonneg (wc a ()) (wc c ())
def IX {x y:Int} (hx:0<=x) (hy:0<y):Int.gcd y (x%y)=Int.gcd x y:=by
 let e:(x%y).natAbs=x.natAbs%y.natAbs:=by
  let⟨a,rfl⟩:=yL hx;let⟨b,rfl⟩:=yL (xa hy);rfl
 show Nat.gcd y.natAbs (x%y).natAbs=Nat.gcd x.natAbs y.natAbs;rw[e,Nat.gcd_comm x.natAbs,Nat.gcd_rec y.natAbs x.natAbs,Nat.gcd_comm]
def P2 {t b:Int} (hb:0<b):(Int.gcd t b:Int)<=b:=by
 let h:Int.gcd t b<=b.natAbs:=Nat.gcd_le_right _ ();ext
end Lm
namespace Lm
end Lm
namespace Lm
theorem Mh {c:Nat}:∀{p q A B:List Nat},c∉p->c∉q->p++c::A=q++c::B->p=q/\A=B
 | [],[],A,B,_,_,h=>{rfl,by simpa using h}
 | [],y::q,A,B,_,hq,h=>by
  simp at h;exact absurd (by rw[h.1];exact zr) hq
 | x::p,[],A,B,hp,_,h=>by
  simp at h;exact absurd (by rw[<-h.1];exact zr) hp
 | x::p,y::q,A,B,hp,hq,h=>by
  simp only[wU,List.cons.injEq] at h;let⟨e,h⟩:=h;let⟨e1,e2⟩:=Mh (λz=>hp (zp _ z)) (λz=>hq (zp _ z)) h;exact{by rw[e,e1],e2}
def PV:∀(n:Nat),0<n->∃c r,Nat.toDigits 10 n=c::r/\c≠'0':=by
 intro n
 induction n using Nat.strongRecOn with
 | _ n ih=>
  intro hn
  by_cases h:n<10
  ·rw[Nat.toDigits_of_lt_base h]
   refine{_,[],rfl,?_};exact(by decide:∀n<10,0<n->Nat.digitChar n≠'0') n h hn
  ·let hd:n%10<10:=vj _ ∅
   let⟨c,r,e,hc⟩:=ih (n/10) () ();let t:=Nat.toDigits_append_toDigits (b:=10) (n:=n/10) (d:=n%10) ∅ () hd;rw[Nat.div_add_mod,e] at t;exact{c,r++Nat.toDigits 10 (n%10),by rw[<-t];rfl,hc}
def TY {n k:Nat} (hk:0<k):n<10^k->⇑(Nat.toDigits 10 n)<=k:=by
 intro h
 induction k generalizing n with
 | zero=>ext
 | succ k ih=>
  by_cases h10:n<10
  ·rw[Nat.toDigits_of_lt_base h10];simp
  ·let hd:n%10<10:=vj _ ∅
   let hk0:0<k:=by
    rcases Nat.eq_zero_or_pos k with rfl | z
    ·simp at h;ext
    ·exact z
   have:=ih hk0 (n:=n/10) (by rw[Nat.div_lt_iff_lt_mul ∅];rw[Nat.pow_succ] at h;exact h);let t:=Nat.toDigits_append_toDigits (b:=10) (n:=n/10) (d:=n%10) ∅ () hd;rw[Nat.div_add_mod] at t;rw[<-t,zh,Nat.toDigits_of_lt_base hd];simp;ext
end Lm
namespace L2
open PySem
def fk (t:Bool) (h:vF) (a:vE) (items:Array vy):Prop:=match t with
 | true=>h.IsTuple a items
 | false=>h.IsList a items
def dt (t:Bool) (h:vF) (it a:vE) (k:Nat):Prop:=match t with
 | true=>h.IsTupleIter it a k
 | false=>h.IsListIter it a k
noncomputable def rH (t:Bool) (a:vE):Obj:=match t with
 | true=>{cls:=.type "tuple_iterator",data:=.fields #[.ref a,.int 0 0]}
 | false=>{cls:=.type "list_iterator",data:=.fields #[.ref a,.int 0 0]}
theorem fk.at {t:Bool} {h h':vF} {a:vE} {items:Array vy} (x:fk t h a items) (e:∀o,h.get? a=some o->h'.get? a=some o):fk t h' a items:=by
 cases t
 ·exact Heap.IsList.at x e
 ·let⟨o,ho,r⟩:=x;exact{o,e o ho,r}
theorem dt.at {t:Bool} {h h':vF} {it a:vE} {k:Nat} (x:dt t h it a k) (e:∀o,h.get? it=some o->h'.get? it=some o):dt t h' it a k:=by
 cases t
 ·exact Heap.IsListIter.at x e
 ·exact Heap.IsTupleIter.at x e
def fk.but {t:Bool} {h h':vF} {a b:vE} {items:Array vy} (x:fk t h a items) (hs:Heap.SameBut b h h') (n:a≠b):fk t h' a items:=x.at λo e=>hs.extBut a o n e
def dt.but {t:Bool} {h h':vF} {it a b:vE} {k:Nat} (x:dt t h it a k) (hs:Heap.SameBut b h h') (n:it≠b):dt t h' it a k:=x.at λo e=>hs.extBut it o n e
theorem dt.get {t:Bool} {h:vF} {it a:vE} {k:Nat} (x:dt t h it a k):∃o,h.get? it=some o/\∀v,o.data≠.cell v:=by
 cases t
 ·let⟨o,e,_,d⟩:=x;exact{o,e,λv z=>by rw[d] at z;cases z}
 ·let⟨o,e,_,d⟩:=x;exact{o,e,λv z=>by rw[d] at z;cases z}
def dt.new (t:Bool) (h:vF) (a:vE):dt t (h.push (rH t a)) h.objs.size a 0:=by
 cases t
 ·exact{_,yx _ rfl,rfl,rfl}
 ·exact{_,yx _ rfl,rfl,rfl}
section
variable {prog:vA} {w:vB} {A:vC} {E:vy->vz->Prop} {s:vz}
def LN {t:Bool} {a:vE} {items:Array vy} {Q:vy->vz->Prop} (hl:fk t s.heap a items) (hQ:Q (.ref ↑s) {s with heap:=s.heap.push (rH t a)}) :
  wpAny (model prog w) A (pyIter (.ref a)) Q E s:=by
 cases t
 ·exact wL hl hQ
 ·exact wpAny_pyIter_tuple hl hQ
def qH {t:Bool} {it a:vE} {i:Nat} {items:Array vy} {x:vy} {Q:vy->vz->Prop} (hit:dt t s.heap it a i) (hl:fk t s.heap a items) (hx:items[i]?=some x)
  (hQ:∀h',dt t h' it a (i+1)->Heap.SameBut it s.heap h'->Q x {s with heap:=h'}):wpAny (model prog w) A (Builtin.SmallTypes.nextOf (.ref it)) Q E s:=by
 cases t
 ·exact wpAny_nextOf_list_item hit hl hx hQ
 ·let hit':s.heap.IsTupleIter it a i:=hit
  let⟨o,ho,hc,hd⟩:=id hit';let⟨ol,hol,_,nl,hdl⟩:=(show s.heap.IsTuple a items from hl)
  unfold Builtin.SmallTypes.nextOf;refine yu (yZ (name:=Str.ofString "__next__") hit'.typeIs wg (xb wg hit'.typeIs F.entry_tuple_iterator_next ?_ (F.args_tuple_iterator_next_1 _)));show wpAny _ _ (field (.ref it) 0 >>= _) _ _ s;refine yu (y7 ho hd (x:=.ref a) rfl ?_);show wpAny _ _ (if(Value.ref a == Value.none)=true then _ else _) _ _ s;rw[yN (show¬((Value.ref a == Value.none)=true) from zL)];show wpAny _ _ (field (.ref it) 1 >>= _) _ _ s;refine yu (y7 ho hd (x:=.int i 0) rfl ?_);show wpAny _ _ (seqItems? (.ref a) >>= _) _ _ s;refine yu (xw hol hdl ?_);simp only[x8,hx];refine yu (wpAny_setField ho hd (by simp) (yw {x,rfl,yw (hQ _ ?_ (ve ..))}));exact{_,yA _ ho (Obj.isFreed_of_fields (vm hd _)),(Obj.cls_mapFields ..).trans hc,by rw[vm hd];simp[rawInt]}
def E7 {t:Bool} {it a:vE} {i:Nat} {items:Array vy} {Q:vy->vz->Prop} (hh:A.handled=none) (hit:dt t s.heap it a i) (hl:fk t s.heap a items) (hx:items[i]?=none)
  (hE:∀h' e,Heap.ExtBut it s.heap h'->(∃o,h'.get? e=some o/\o.cls=.type "StopIteration")->E (.ref e) {s with heap:=h'}):wpAny (model prog w) A (Builtin.SmallTypes.nextOf (.ref it)) Q E s:=by
 cases t
 ·exact wpAny_nextOf_list_end hh hit hl hx hE
 ·let hit':s.heap.IsTupleIter it a i:=hit
  let⟨o,ho,hc,hd⟩:=id hit';let⟨ol,hol,_,nl,hdl⟩:=(show s.heap.IsTuple a items from hl)
  unfold Builtin.SmallTypes.nextOf;refine yu (yZ (name:=Str.ofString "__next__") hit'.typeIs wg (xb wg hit'.typeIs F.entry_tuple_iterator_next ?_ (F.args_tuple_iterator_next_1 _)));show wpAny _ _ (field (.ref it) 0 >>= _) _ _ s;refine yu (y7 ho hd (x:=.ref a) rfl ?_);show wpAny _ _ (if(Value.ref a == Value.none)=true then _ else _) _ _ s;rw[yN (show¬((Value.ref a == Value.none)=true) from zL)];show wpAny _ _ (field (.ref it) 1 >>= _) _ _ s;refine yu (y7 ho hd (x:=.int i 0) rfl ?_);show wpAny _ _ (seqItems? (.ref a) >>= _) _ _ s;refine yu (xw hol hdl ?_);simp only[x8,hx];refine yu (wpAny_rule (yu (wpAny_setField ho hd (by simp) ?_)));show wpAny _ _ (newExc (.type "StopIteration") [] >>= _) _ _ _;refine yu ?_;simp only[newExc,newTuple];refine yu (xf ?_ (by size_fits));refine yu (m:=firstArgMember _ _) (wpAny_of_eq (a:=Value.none) (by first | rfl | (simp only[firstArgMember];rfl)) (xf ?_ (by size_fits)));simp only[raiseNew];refine yu (wpAny_handled ?_)
  first | rw[show A.in1.handled=none from hh] | rw[hh]
  exact yu (yw (wpAny_throw (hE _ _ (((ve ..).extBut.push _).push _) {_,yx _ rfl,rfl})))
structure NW (z TI TO i1 i2:vE):Prop where
 a1:TI≠z
 a2:TO≠z
 a3:i1≠z
 a4:i2≠z
 a5:TI≠TO
 a6:TI≠i1
 a7:TI≠i2
 a8:TO≠i1
 a9:TO≠i2
 b1:i1≠i2
structure CF (l z TO i1 i2:vE):Prop where
 a1:l≠z
 a2:l≠TO
 a3:l≠i1
 a4:l≠i2
def sk (z TO i1 i2:vE) (h h':vF):Prop:=∀c o,c≠z->c≠TO->c≠i1->c≠i2->h.get? c=some o->h'.get? c=some o
structure QL (t1 t2:Bool) (h:vF) (z TI TO i1 i2 l1 l2:vE) (k:Nat) (f0:vy):Prop where
 z:IsZip h z TI TO f0
 ti:IsPair h TI (.ref i1) (.ref i2)
 to:∃a b,IsPair h TO a b
 i1:dt t1 h i1 l1 k
 i2:dt t2 h i2 l2 k
def Oc {t1 t2:Bool} {z TI TO i1 i2 l1 l2:vE} {k:Nat} {xs ys:Array vy} {x y:vy} {Q:vy->vz->Prop} (D:NW z TI TO i1 i2) (L1:CF l1 z TO i1 i2) (L2:CF l2 z TO i1 i2)
  (S:QL t1 t2 s.heap z TI TO i1 i2 l1 l2 k .none) (hl1:fk t1 s.heap l1 xs) (hl2:fk t2 s.heap l2 ys) (hx:xs[k]?=some x) (hy:ys[k]?=some y)
  (hQ:∀h',QL t1 t2 h' z TI TO i1 i2 l1 l2 (k+1) (rawInt ↑s)->IsPair h' ↑s x y->sk z TO i1 i2 s.heap h'->Q (.ref ↑s) {s with heap:=h'}) :
  wpAny (model prog w) A (Builtin.«zip.__next__» {[.ref z],[]}) (λfin s'=>∃v,fin=.done (.ret v)/\Q v s') E s:=by
 let⟨hz,hTI,⟨a,b,hTO⟩,h1,h2⟩:=S;show wpAny _ _ (field (.ref z) 2 >>= _) _ _ _;refine yu (y7 hz rfl (x:=.bool false) rfl ?_);show wpAny _ _ (field (.ref z) 3 >>= _) _ _ _;refine yu (y7 hz rfl (x:=.ref TI) rfl (yu (xw hTI rfl ?_)));show wpAny _ _ (Builtin.SmallTypes.ownedTupleIsFree (.ref z) >>= _) _ _ _;refine yu ?_;unfold Builtin.SmallTypes.ownedTupleIsFree;refine yu (y7 hz rfl (x:=.none) rfl (yw ?_));simp only[vg];refine yu (wpAny_rule (yu (y7 hz rfl (x:=.ref TO) rfl (yu (xM hz (by simp) λg1 z1 q1=>?_)))));replace z1:IsZip g1 z TI TO .ellipsis:=z1;refine yu ?_;simp only[List.zipIdx_cons,List.zipIdx_nil,List.forIn_cons,List.forIn_nil];refine yu (yu (wpAny_onRaise ?_));show wpAny _ _ (Builtin.SmallTypes.nextOf (.ref i1) >>= _) _ _ _;refine yu (qH (h1.but q1 D.a3) (hl1.but q1 L1.a1) hx λg2 p2 q2=>yw ?_);let o2:IsPair g2 TO a b:=q2.extBut _ _ D.a8 (q1.extBut _ _ D.a2 hTO);refine yu (xw o2 rfl (yu (wpAny_updateSeq_pair o2 λg3 o3 q3=>yu (wpAny_letGo (yw (yu (yu (wpAny_onRaise ?_))))))));replace o3:IsPair g3 TO x b:=o3;show wpAny _ _ (Builtin.SmallTypes.nextOf (.ref i2) >>= _) _ _ _;refine yu (qH (((h2.but q1 D.a4).but q2 D.b1.symm).but q3 D.a9.symm) (((hl2.but q1 L2.a1).but q2 L2.a3).but q3 L2.a2) hy λg4 p4 q4=>yw ?_);let o4:IsPair g4 TO x b:=q4.extBut _ _ D.a9 o3;refine yu (xw o4 rfl (yu (wpAny_updateSeq_pair o4 λg5 o5 q5=>yu (wpAny_letGo (yw (yw ?_))))));replace o5:IsPair g5 TO x y:=o5;refine yu (xw o5 rfl (yu (wpAny_newTuple ?_)));let sz:g5.objs.size=↑s:=by rw[q5.1,q4.1,q3.1,q2.1,q1.1]
 let z5:IsZip g5 z TI TO .ellipsis:=q5.extBut _ _ D.a2.symm (q4.extBut _ _ D.a4.symm (q3.extBut _ _ D.a2.symm (q2.extBut _ _ D.a3.symm z1)));let k5:sk z TO i1 i2 s.heap g5:=λc o c1 c2 c3 c4 e=>q5.extBut _ _ c2 (q4.extBut _ _ c4 (q3.extBut _ _ c2 (q2.extBut _ _ c3 (q1.extBut _ _ c1 e))));let r1:dt t1 g5 i1 l1 (k+1):=((p2.but q3 D.a8.symm).but q4 D.b1).but q5 D.a8.symm;let r2:dt t2 g5 i2 l2 (k+1):=p4.but q5 D.a9.symm;let zl:z<g5.objs.size:=yy z5;show wpAny _ _ (Builtin.SmallTypes.ownedTupleHandOut (.ref z) (.ref g5.objs.size) >>= _) _ _ _;refine yu ?_;unfold Builtin.SmallTypes.ownedTupleHandOut;let z6:IsZip (g5.push {cls:=.type "tuple",data:=.seq #[x,y]}) z TI TO .ellipsis:=yv _ z5;refine yu (xM z6 (by simp) λg7 z7 q7=>?_);replace z7:IsZip g7 z TI TO (rawInt g5.objs.size):=z7;refine xM z7 (by simp) λg8 z8 q8=>?_;replace z8:IsZip g8 z TI TO (rawInt g5.objs.size):=z8;let up:∀c o,c≠z->g5.get? c=some o->g8.get? c=some o:=λc o c1 e=>q8.extBut _ _ c1 (q7.extBut _ _ c1 (yv _ e));let t8:IsPair g8 g5.objs.size x y:=q8.extBut _ _ (yi zl) (q7.extBut _ _ (yi zl) (yx _ rfl));rw[sz] at z8 t8;refine yw {_,rfl,?_};show Q (.ref g5.objs.size) _;rw[sz];exact hQ g8 {z8,up _ _ D.a1 (k5 _ _ D.a1 D.a5 D.a6 D.a7 hTI),{_,_,up _ _ D.a2 o5},r1.at λo e=>up _ o D.a3 e,r2.at λo e=>up _ o D.a4 e} t8 λc o c1 c2 c3 c4 e=>up c o c1 (k5 c o c1 c2 c3 c4 e)
def Ob {t1 t2:Bool} {z TI TO i1 i2 l1 l2:vE} {k:Nat} {xs ys:Array vy} {Q:Fin->vz->Prop} (hh:A.handled=none) (D:NW z TI TO i1 i2) (L1:CF l1 z TO i1 i2) (L2:CF l2 z TO i1 i2)
  (S:QL t1 t2 s.heap z TI TO i1 i2 l1 l2 k .none) (hl1:fk t1 s.heap l1 xs) (hl2:fk t2 s.heap l2 ys) (hend:xs[k]?=none\/ys[k]?=none)
  (hE:∀h' e,sk z TO i1 i2 s.heap h'->(∃o,h'.get? e=some o/\o.cls=.type "StopIteration")->E (.ref e) {s with heap:=h'}) :
  wpAny (model prog w) A (Builtin.«zip.__next__» {[.ref z],[]}) Q E s:=by
 let⟨hz,hTI,⟨a,b,hTO⟩,h1,h2⟩:=S;show wpAny _ _ (field (.ref z) 2 >>= _) _ _ _;refine yu (y7 hz rfl (x:=.bool false) rfl ?_);show wpAny _ _ (field (.ref z) 3 >>= _) _ _ _;refine yu (y7 hz rfl (x:=.ref TI) rfl (yu (xw hTI rfl ?_)));show wpAny _ _ (Builtin.SmallTypes.ownedTupleIsFree (.ref z) >>= _) _ _ _;refine yu ?_;unfold Builtin.SmallTypes.ownedTupleIsFree;refine yu (y7 hz rfl (x:=.none) rfl (yw ?_));simp only[vg];refine yu (wpAny_rule (yu (y7 hz rfl (x:=.ref TO) rfl (yu (xM hz (by simp) λg1 z1 q1=>?_)))));replace z1:IsZip g1 z TI TO .ellipsis:=z1;refine yu ?_;simp only[List.zipIdx_cons,List.zipIdx_nil,List.forIn_cons,List.forIn_nil];refine yu (yu (wpAny_onRaise ?_));show wpAny _ _ (Builtin.SmallTypes.nextOf (.ref i1) >>= _) _ _ _;cases hx:xs[k]? with
 | none=>
  refine yu (E7 hh (h1.but q1 D.a3) (hl1.but q1 L1.a1) hx λg2 e q2 he=>?_);let⟨oe,hoe,hce⟩:=he;let z2:IsZip g2 z TI TO .ellipsis:=q2 _ _ D.a3.symm z1;let hez:e≠z:=λx=>by subst x;rw[z2] at hoe;cases hoe;simp at hce
  exact xM z2 (by simp) λg3 _ q3=>hE g3 e (λc o c1 _ c3 _ x=>q3.extBut _ _ c1 (q2 _ _ c3 (q1.extBut _ _ c1 x))) {oe,q3.extBut _ _ hez hoe,hce}
 | some x=>
  let hy:ys[k]?=none:=by rcases hend with h | h;rw[hx] at h;cases h;exact h
  refine yu (qH (h1.but q1 D.a3) (hl1.but q1 L1.a1) hx λg2 p2 q2=>yw ?_);let o2:IsPair g2 TO a b:=q2.extBut _ _ D.a8 (q1.extBut _ _ D.a2 hTO);refine yu (xw o2 rfl (yu (wpAny_updateSeq_pair o2 λg3 o3 q3=>yu (wpAny_letGo (yw (yu (yu (wpAny_onRaise ?_))))))));show wpAny _ _ (Builtin.SmallTypes.nextOf (.ref i2) >>= _) _ _ _;refine yu (E7 hh (((h2.but q1 D.a4).but q2 D.b1.symm).but q3 D.a9.symm) (((hl2.but q1 L2.a1).but q2 L2.a3).but q3 L2.a2) hy λg4 e q4 he=>?_);let⟨oe,hoe,hce⟩:=he;let z4:IsZip g4 z TI TO .ellipsis:=q4 _ _ D.a4.symm (q3.extBut _ _ D.a2.symm (q2.extBut _ _ D.a3.symm z1));let hez:e≠z:=λx=>by subst x;rw[z4] at hoe;cases hoe;simp at hce
  exact xM z4 (by simp) λg5 _ q5=>hE g5 e (λc o c1 c2 c3 c4 x=>q5.extBut _ _ c1 (q4 _ _ c4 (q3.extBut _ _ c2 (q2.extBut _ _ c3 (q1.extBut _ _ c1 x))))) {oe,q5.extBut _ _ hez hoe,hce}
def G8 {t1 t2:Bool} {z TI TO i1 i2 l1 l2:vE} {k:Nat} {xs ys:Array vy} {x y:vy} {Q:Option vy->vz->Prop} (D:NW z TI TO i1 i2) (L1:CF l1 z TO i1 i2) (L2:CF l2 z TO i1 i2)
  (S:QL t1 t2 s.heap z TI TO i1 i2 l1 l2 k .none) (hl1:fk t1 s.heap l1 xs) (hl2:fk t2 s.heap l2 ys) (hx:xs[k]?=some x) (hy:ys[k]?=some y)
  (hQ:∀h',QL t1 t2 h' z TI TO i1 i2 l1 l2 (k+1) (rawInt ↑s)->IsPair h' ↑s x y->sk z TO i1 i2 s.heap h'->Q (some (.ref ↑s)) {s with heap:=h'}) :
  wpAny (model prog w) A (pyNext (.ref z)) Q E s:=by
 let hT:s.TypeIs (.ref z) "zip":={_,S.z,rfl}
 unfold pyNext;exact yu (wW (yZ (name:=Str.ofString "__next__") hT xN (xb xN hT F.entry_zip_next (Oc D L1 L2 S hl1 hl2 hx hy λh' a1 a2 a3=>yw (hQ h' a1 a2 a3)) (vv _))))
def G5 {t1 t2:Bool} {z TI TO i1 i2 l1 l2:vE} {k:Nat} {xs ys:Array vy} {Q:Option vy->vz->Prop} (hh:A.handled=none) (D:NW z TI TO i1 i2) (L1:CF l1 z TO i1 i2) (L2:CF l2 z TO i1 i2)
  (S:QL t1 t2 s.heap z TI TO i1 i2 l1 l2 k .none) (hl1:fk t1 s.heap l1 xs) (hl2:fk t2 s.heap l2 ys) (hend:xs[k]?=none\/ys[k]?=none)
  (hQ:∀h',sk z TO i1 i2 s.heap h'->Q none {s with heap:=h'}):wpAny (model prog w) A (pyNext (.ref z)) Q E s:=by
 let hT:s.TypeIs (.ref z) "zip":={_,S.z,rfl}
 unfold pyNext;refine yu (wW (yZ (name:=Str.ofString "__next__") hT xN (xb xN hT F.entry_zip_next (Ob hh D L1 L2 S hl1 hl2 hend λh' e hk he=>?_) (vv _))));let⟨o,ho,hc⟩:=he;exact yu (wpAny_isInstance (T:="StopIteration") (b:=true) {(o),ho,hc} isSubtype_stop (yw (hQ _ hk)))
end
noncomputable abbrev VT (t1:Bool) (h:vF) (l1:vE):vF:=h.push (rH t1 l1)
noncomputable abbrev UJ (t1 t2:Bool) (h:vF) (l1 l2:vE):vF:=(VT t1 h l1).push (rH t2 l2)
noncomputable abbrev VS (t1 t2:Bool) (h:vF) (l1 l2:vE):vF:=(UJ t1 t2 h l1 l2).push {cls:=.type "tuple",data:=.seq #[.ref h.objs.size,.ref (VT t1 h l1).objs.size]}
noncomputable abbrev VR (t1 t2:Bool) (h:vF) (l1 l2:vE):vF:=(VS t1 t2 h l1 l2).push {cls:=.type "tuple",data:=.seq #[.none,.none]}
noncomputable abbrev SG (t1 t2:Bool) (h:vF) (l1 l2:vE):vF:=(VR t1 t2 h l1 l2).push {cls:=.type "zip",data:=.fields #[.none,.bool false,.bool false,.ref (UJ t1 t2 h l1 l2).objs.size,.ref (VS t1 t2 h l1 l2).objs.size]}
def Oe (t1 t2:Bool) (l1 l2:vE) (xs ys:Array vy) :
  Meets (Builtin.«zip.__new__» {[.type "zip",.ref l1,.ref l2],[]}) (λ_ R s=>fk t1 s.heap l1 xs/\fk t2 s.heap l2 ys/\R (.ok (.ret (.ref (VR t1 t2 s.heap l1 l2).objs.size))) {s with heap:=SG t1 t2 s.heap l1 l2}):=
 .of_wp λprog w A R s h=>by
  let⟨hp,g,d,tk,os⟩:=s;let⟨a1,a2,h⟩:=h;let hsub:=sub_zip;let b1:fk t1 (Shared.heap {(hp),g,d,tk,os}) l1 xs:=a1;let b2:fk t2 (Shared.heap {hp.push (rH t1 l1),g,d,tk,os}) l2 ys:=a2.at λo e=>yv _ e;wp_walk using LN b1,LN b2;exact{_,rfl,h}
def G9 {prog:vA} {w:vB} {A:vC} {E:vy->vz->Prop} {s:vz} {t1 t2:Bool} {l1 l2:vE} {xs ys:Array vy} {Q:vy->vz->Prop} (hl1:fk t1 s.heap l1 xs) (hl2:fk t2 s.heap l2 ys)
  (h:∀h',QL t1 t2 h' (↑s+4) (↑s+2) (↑s+3) ↑s (↑s+1) l1 l2 0 .none->(∀c o,s.heap.get? c=some o->h'.get? c=some o)->Q (.ref (↑s+4)) {s with heap:=h'}) :
  wpAny (model prog w) A (call (.type "zip") [.ref l1,.ref l2]) Q E s:=by
 refine callType_new F.called_zip ∅ (F.typeCall_zip_2 _ _) (F.newCall_zip_2 _ _) (λobj=>F.args_object_init_3 obj _ _) F.entry_zip_new (Oe t1 t2 l1 l2 xs ys) {hl1,hl2,?_};let z1:(VT t1 s.heap l1).objs.size=↑s+1:=xm ..;let z2:(UJ t1 t2 s.heap l1 l2).objs.size=↑s+2:=by rw[xm,z1]
 let z3:(VS t1 t2 s.heap l1 l2).objs.size=↑s+3:=by rw[xm,z2]
 let z4:(VR t1 t2 s.heap l1 l2).objs.size=↑s+4:=by rw[xm,z3]
 let up:∀c o,(UJ t1 t2 s.heap l1 l2).get? c=some o->(SG t1 t2 s.heap l1 l2).get? c=some o:=λc o e=>yv _ (yv _ (yv _ e));let g5:(SG t1 t2 s.heap l1 l2).get? (VR t1 t2 s.heap l1 l2).objs.size=some _:=yx _ rfl;let g4:(SG t1 t2 s.heap l1 l2).get? (VS t1 t2 s.heap l1 l2).objs.size=some _:=yv _ (yx _ rfl);let g3:(SG t1 t2 s.heap l1 l2).get? (UJ t1 t2 s.heap l1 l2).objs.size=some _:=yv _ (yv _ (yx _ rfl));let g2:dt t2 (SG t1 t2 s.heap l1 l2) (VT t1 s.heap l1).objs.size l2 0:=(dt.new t2 _ l2).at (up _);let g1:dt t1 (SG t1 t2 s.heap l1 l2) ↑s l1 0:=((dt.new t1 _ l1).at λo e=>yv _ e).at (up _);show _/\_;rw[z2,z3,z4] at g5;rw[z1,z2] at g3;rw[z3] at g4;rw[z1] at g2;rw[z4];exact{{_,g5,rfl},h _ {g5,g3,{_,_,g4},g1,g2} λc o x=>up c o (yv _ (yv _ x))}
end L2
namespace L2
open PySem PySem.Spec PyProof.Rows
def aY (h:H p=none):au H (upd H p o):=λb u e=>by rw[aC (bA e h)];exact e
def laid {H:Hp} {o:HO} {Q:VK} (k:∀p H',au H H'->H' p=some o->Q (.ref p) H'):∀p,H p=none->Q (.ref p) (upd H p o):=λp hp=>k p _ (aY hp) aB
def au.tup {K:yB} {H H':Hp} {a:vE} {xs:List V} (e:au H H') (h:cW K H a xs):cW K H' a xs:=by
 rcases h with(h | ⟨o,h⟩) | h
 ·exact .inl (.inl (e _ _ h))
 ·exact .inl (.inr {o,e _ _ h})
 ·exact .inr h
section
variable {X:Cx} {pins:List (vE×Obj)} {U:St} {H:Hp} {s:vz} {h':vF}
def Inv.AH {T:vE} {o:HO} {ch:List vE} {t':Nat} (I:Inv X pins U H s) (hf:∀b∈ch,qA X pins H b) (hT:↑s<=T) (k:∀b u,b∉ch->s.heap.get? b=some u->h'.get? b=some u)
  (new:cC X.prog X.w (upd H T o) h' T o):Inv X pins U (upd H T o) {s with heap:=h',toks:=t'}:=by
 let hn:H T=none:=I.b9.fresh hT;let neT:∀b u,s.heap.get? b=some u->b≠T:=λb u e=>yj (yc (yy e) hT);let nch:∀b u,H b=some u->b∉ch:=λb u e hb=>by rw[(hf b hb).1] at e;cases e
 refine I.step (g':=s.gens) (d':=s.drawn) (ch:=ch) (λb hb=>?_) (λb u _ _ hc e _=>k b u hc e) (λb u _ _ hc e _=>{u.slots,k b u hc e}) (λb u hc e n=>by rw[aC (neT b u e)];exact n) (λb u hc e=>{u,k b u hc e})
  (λb xs e=>by rw[aC (bA e hn)];exact e) (λb ob u e=>by rw[aC (bA e hn)];exact e) (λb ps e=>{#[],by rw[aC (bA e hn),e];simp}) (λm hm=>?_) (λb u e=>?_) I.bare
 ·let⟨f0,f1,f2,f3,f4,f5⟩:=hf b hb
  exact{(f3),f1,f4,f5}
 ·let⟨ob,es,ep,ho,r⟩:=hm
  exact{ob,es,ep,k _ _ (λz=>(hf _ z).2.1 rfl) ho,r}
 ·by_cases hb:b=T
  ·subst hb;rw[aB] at e;cases e;exact new
  ·rw[aC hb] at e
   refine(I.b9 b u e).lz (λc v hc q=>k c v ?_ q) (λc q=>by rw[aC (bA q hn)];exact q) λc xs q=>by rw[aC (bA q hn)];exact q
   rcases hc with z | z
   ·rw[z];exact nch b u e
   ·exact nch c _ z
def Inv.turns {ch:List vE} {t':Nat} (I:Inv X pins U H s) (hf:∀b∈ch,qA X pins H b) (k:∀b u,b∉ch->s.heap.get? b=some u->h'.get? b=some u):Inv X pins U H {s with heap:=h',toks:=t'}:=by
 let nch:∀b u,H b=some u->b∉ch:=λb u e hb=>by rw[(hf b hb).1] at e;cases e
 refine I.step (g':=s.gens) (d':=s.drawn) (ch:=ch) (λb hb=>?_) (λb u _ _ hc e _=>k b u hc e) (λb u _ _ hc e _=>{u.slots,k b u hc e}) (λb u hc e n=>n) (λb u hc e=>{u,k b u hc e})
  (λb xs e=>e) (λb ob u e=>e) (λb ps e=>{#[],by rw[e];simp}) (λm hm=>?_) (λb u e=>?_) I.bare
 ·let⟨f0,f1,f2,f3,f4,f5⟩:=hf b hb
  exact{(f3),f1,f4,f5}
 ·let⟨ob,es,ep,ho,r⟩:=hm
  exact{ob,es,ep,k _ _ (λz=>(hf _ z).2.1 rfl) ho,r}
 ·refine(I.b9 b u e).lz (λc v hc q=>k c v ?_ q) (λc q=>q) λc xs q=>q
  rcases hc with z | z
  ·rw[z];exact nch b u e
  ·exact nch c _ z
def GB:bootBuiltins "enumerate"= some (.type "enumerate"):=by decide +kernel
def Qr:bootBuiltins "zip"= some (.type "zip"):=by decide +kernel
noncomputable def UB (K:yB) (a:vE):It:=
 {λi H=>∃xs x,aH K H a xs/\xs[i]?=some x,λi H x H'=>∃p v,H p=none/\x=.ref p/\H'=upd H p (.tup [.int (i:Int),v])/\∀xs,aH K H a xs->xs[i]?=some v,λi H=>∃xs,aH K H a xs/\⇑xs<=i}
def MA {P:vA} {w:vB} {K:yB} {es:List Expr} {kt:Nat} {tp:Pos} (a it e:vE) (hne:e≠it) :
  Turn P w K (.Tuple es kt tp) (UB K a) [e,it] e (λi h=>(∃old,IsEnum h e it (i:Int) old)/\h.IsListIter it a i) where
 mem:=by simp
 obj:=λi h st b hb=>by
  let⟨⟨old,he⟩,o,e1,c,d⟩:=st;rcases zD.mp hb with z | z
  ·subst z;exact{_,he,λv z=>by cases z}
  ·let z':b=it:=by simpa using z
   subst z';exact{o,e1,λv z=>by rw[d] at z;cases z}
 keep:=λi h h' st k=>{let ⟨old,he⟩:=st.1;{old,k e (by simp) _ he},st.2.at λo e=>k it (by simp) o e}
 item:=by
  intro X hP hw hK hc i pins s U H E I hf st hg;subst hP hw hK;let⟨xs,x,hq,hx⟩:=hg;let⟨its,rv,p,hz⟩:=I.list hq;let⟨u,hu,ru⟩:=rv.get hx;let⟨⟨old,he⟩,hit⟩:=st;refine wpAny_pyNext_enum_item he hit p.isList (x:=u) (by simpa using hu) hne λg1 ho hit1 hT hsz hk=>?_;refine{_,rfl,wpAny_letOwnedTupleGo_enum (s:={s with heap:=g1,toks:=s.toks+1}) ho λg2 he2 hs2=>?_};let hel:e<↑s:=yy he;let gT:g2.get? ↑s=some {cls:=.type "tuple",data:=.seq #[.int i s.toks,u]}:=hs2.extBut _ _ (yi hel) hT;let I1:Inv X pins U (upd H ↑s (.tup [.int (i:Int),x])) {s with heap:=g2,toks:=s.toks+1}:=
   I.AH hf (zm _) (λb ob hb q=>hs2.extBut _ _ (λz=>hb (by simp[z])) (hk b ob (λz=>hb (by simp[z])) (λz=>hb (by simp[z])) q))
    {by show 2<=sizeLine;decide,[.int i s.toks,u],.cons {_,rfl} (.cons ru .nil),{_,gT,rfl,_,rfl}}
  refine{.ref ↑s,_,I1,rfl,{_,x,I.b9.fresh (zm _),rfl,rfl,λys hy=>by rw[I.BF hy hq];exact hx},{{_,by simpa using he2},hit1.at λo q=>hs2.extBut _ _ hne.symm q},λb hb=>?_};let hb':=(hf b hb).1;obtain⟨o,ho',_⟩:∃o,s.heap.get? b=some o/\True:=by
   rcases zD.mp hb with z | z
   ·subst z;exact{_,he,trivial}
   ·let z':b=it:=by simpa using z
    subst z';let⟨o,e1,_⟩:=hit;exact{(o),e1,trivial}
  rw[aC (yj (yy ho'))];exact hb'
 done:=by
  intro X hP hw hK hc i pins s U H E I hf st hg;subst hP hw hK;let⟨xs,hq,hx⟩:=hg;let⟨its,rv,p,hz⟩:=I.list hq;let⟨⟨old,he⟩,hit⟩:=st;let hl:=⇑rv;exact wpAny_pyNext_enum_end (I.ok.hd hc) he hit p.isList (by simp;ext) λg1 eb=>{rfl,I.turns (t':=s.toks) hf λb o hb q=>eb b o (λz=>hb (by simp[z])) q}
 self:=λ_ _ _ _ _ st h=>let ⟨_,he⟩:=st.1;wpAny_pyIter_enum he h
def Su (K:yB) (ta:TA):TI:=λU H R=>ta U H λvs H1=>∃a xs,vs=[.ref a]/\aH K H1 a xs/\R (UB K a) H1
def An {a:Expr} {ta:TA} {es:List Expr} {kt:Nat} {tp p pos:Pos} (hg:Gl X "enumerate") (hm:X.mg "enumerate"= none) (ha:PA X [a] ta) (hs:starEach [a] X.env=[(false,eval a X.env)]<|>qe_) :
  PI X (.Tuple es kt tp) (.Call (.Name "enumerate" p) [a] [] pos) (Su X.K ta):=by
 intro pins s U H R I h;refine Call_ (jB I hg hm GB (yM (cX (ha pos pins s U H _ I h) λus s1 z0=>?_) hs rfl));let⟨vs,H1,I1,r1,q1⟩:=z0;let⟨l,xs,e,hq,q⟩:=q1;subst e;cases r1 with
 | cons r rr=>
  cases rr;cases r;let⟨its,rv,pl,hz⟩:=I1.list hq;refine call_enumerate_list pl.isList λg he hit hsz hk=>?_;refine wpAny_pyIter_enum (s:={s1 with heap:=g}) he ?_;let I2:Inv X pins U H1 {s1 with heap:=g}:=I1.kept (t':=s1.toks) hk;refine{↑s1+1,[↑s1+1,↑s1],_,UB X.K l,H1,rfl,I2,MA l ↑s1 (↑s1+1) (yi (xR _)),{{_,by simpa using he},hit},λb hb=>?_,q};let hb':↑s1<=b:=by
   rcases zD.mp hb with z | z
   ·subst z;exact x9 _
   ·let z':b=↑s1:=by simpa using z
    subst z';exact zm _
  exact I1.vT hb' (I1.b9.fresh hb')
def Ea (t:Bool) (K:yB) (H:Hp) (a:vE) (xs:List V):Prop:=match t with
 | true=>cW K H a xs
 | false=>aH K H a xs
def Inv.sq (I:Inv X pins U H s) (h:Ea t X.K H a xs):∃its:List vy,Vals xs its/\fk t s.heap a its.toArray/\⇑xs<=sizeLine:=by
 cases t
 ·let⟨its,r,p,z⟩:=I.list h;exact{(its),r,p.isList,z}
 ·let⟨its,r,p,z⟩:=I.tuple h;exact{(its),r,p,z}
def Inv.OH (I:Inv X pins U H s) (h:Ea t X.K H a xs) (h':Ea t X.K H a ys):xs=ys:=by
 cases t
 ·exact I.BF h h'
 ·exact I.Eg h h'
def fk.lt (x:fk t h a items):a<h.objs.size:=by
 cases t
 ·let⟨o,e,_⟩:=x;exact yy e
 ·let⟨o,e,_⟩:=x;exact yy e
noncomputable def V6 (t1 t2:Bool) (K:yB) (a b:vE):It:=
  {λi H=>∃xs ys x y,Ea t1 K H a xs/\Ea t2 K H b ys/\xs[i]?=some x/\ys[i]?=some y,
   λi H x H'=>∃p u v,H p=none/\x=.ref p/\H'=upd H p (.tup [u,v])/\(∀xs,Ea t1 K H a xs->xs[i]?=some u)/\∀ys,Ea t2 K H b ys->ys[i]?=some v,
   λi H=>∃xs ys,Ea t1 K H a xs/\Ea t2 K H b ys/\(⇑xs<=i\/⇑ys<=i)}
def Ol {P:vA} {w:vB} {K:yB} {es:List Expr} {kt:Nat} {tp:Pos} (t1 t2:Bool) (a b z TI TO i1 i2:vE) (D:NW z TI TO i1 i2) (L1:CF a z TO i1 i2) (L2:CF b z TO i1 i2) :
  Turn P w K (.Tuple es kt tp) (V6 t1 t2 K a b) [z,TI,TO,i1,i2] z (λi h=>QL t1 t2 h z TI TO i1 i2 a b i .none) where
 mem:=by simp
 obj:=λi h st c hc=>by
  let⟨hz,hi,⟨_,_,ho⟩,h1,h2⟩:=st;simp only[zD,zE,yV] at hc;rcases hc with e | e | e | e | e
  ·subst e;exact{_,hz,λv q=>by cases q}
  ·subst e;exact{_,hi,λv q=>by cases q}
  ·subst e;exact{_,ho,λv q=>by cases q}
  ·subst e;exact h1.get
  ·subst e;exact h2.get
 keep:=λi h h' st k=>{k z (by simp) _ st.z,k TI (by simp) _ st.ti,let ⟨x,y,e⟩:=st.to;{x,y,k TO (by simp) _ e},st.i1.at λo e=>k i1 (by simp) o e,st.i2.at λo e=>k i2 (by simp) o e}
 item:=by
  intro X hP hw hK hc i pins s U H E I hf st hg;subst hP hw hK;let⟨xs,ys,x,y,hq,hq',hx,hy⟩:=hg;let⟨its,rv,p,hz⟩:=I.sq hq;let⟨jts,rw',p',hz'⟩:=I.sq hq';let⟨u,hu,ru⟩:=rv.get hx;let⟨u',hu',ru'⟩:=rw'.get hy;refine G8 D L1 L2 st p p' (x:=u) (y:=u') (by simpa using hu) (by simpa using hu') λg1 S1 hT hk=>?_;refine{_,rfl,wpAny_letOwnedTupleGo_zip (s:={s with heap:=g1}) S1.z λg2 z2 hs2=>?_};let zl:z<↑s:=yy st.z;let gT:g2.get? ↑s=some {cls:=.type "tuple",data:=.seq #[u,u']}:=hs2.extBut _ _ (yi zl) hT;let I1:Inv X pins U (upd H ↑s (.tup [x,y])) {s with heap:=g2}:=
   I.AH (t':=s.toks) hf (zm _) (λc ob hb q=>hs2.extBut _ _ (λe=>hb (by simp[e])) (hk c ob (λe=>hb (by simp[e])) (λe=>hb (by simp[e])) (λe=>hb (by simp[e])) (λe=>hb (by simp[e])) q))
    {by show 2<=sizeLine;decide,[u,u'],.cons ru (.cons ru' .nil),{_,gT,rfl,_,rfl}}
  refine{.ref ↑s,_,I1,rfl,{_,x,y,I.b9.fresh (zm _),rfl,rfl,λzs h=>by rw[I.OH h hq];exact hx,λzs h=>by rw[I.OH h hq'];exact hy},{z2,hs2.extBut _ _ D.a1 S1.ti,let ⟨x,y,e⟩:=S1.to;{x,y,hs2.extBut _ _ D.a2 e},S1.i1.but hs2 D.a3,S1.i2.but hs2 D.a4},λc hc=>?_};let hb':=(hf c hc).1;obtain⟨o,ho',_⟩:∃o,s.heap.get? c=some o/\True:=by
   obtain⟨hz,hi,⟨_,_,ho⟩,⟨q1,e1,_⟩,⟨q2,e2,_⟩⟩:_/\_/\_/\_/\_:={(st.z),st.ti,st.to,st.i1.get,st.i2.get}
   simp only[zD,zE,yV] at hc;rcases hc with e | e | e | e | e
   ·subst e;exact{_,hz,trivial}
   ·subst e;exact{_,hi,trivial}
   ·subst e;exact{_,ho,trivial}
   ·subst e;exact{_,e1,trivial}
   ·subst e;exact{_,e2,trivial}
  rw[aC (yj (yy ho'))];exact hb'
 done:=by
  intro X hP hw hK hc i pins s U H E I hf st hg;subst hP hw hK;let⟨xs,ys,hq,hq',hx⟩:=hg;let⟨its,rv,p,hz⟩:=I.sq hq;let⟨jts,rw',p',hz'⟩:=I.sq hq';let hl:=⇑rv;let hl':=⇑rw';refine G5 (I.ok.hd hc) D L1 L2 st p p' ?_ λg1 eb=>{rfl,I.turns (t':=s.toks) hf λc o hb q=>eb c o (λe=>hb (by simp[e])) (λe=>hb (by simp[e])) (λe=>hb (by simp[e])) (λe=>hb (by simp[e])) q}
  rcases hx with h | h
  ·exact .inl (by simp;ext)
  ·exact .inr (by simp;ext)
 self:=λ_ _ _ _ _ st h=>wpAny_pyIter_zip st.z h
def WT (K:yB) (ta:TA):TI:=λU H R=>ta U H λvs H1=>∃t1 t2 a b xs ys,vs=[.ref a,.ref b]/\Ea t1 K H1 a xs/\Ea t2 K H1 b ys/\R (V6 t1 t2 K a b) H1
def Pc {a b:Expr} {ta:TA} {es:List Expr} {kt:Nat} {tp p pos:Pos} (hg:Gl X "zip") (hm:X.mg "zip"= none) (ha:PA X [a,b] ta)
  (hs:starEach [a,b] X.env=[(false,eval a X.env),(false,eval b X.env)]<|>qe_) (hs2:starEach [b] X.env=[(false,eval b X.env)]<|>qe_) :
  PI X (.Tuple es kt tp) (.Call (.Name "zip" p) [a,b] [] pos) (WT X.K ta):=by
 intro pins s U H R I h;refine Call_ (jB I hg hm Qr (yM (cX (ha pos pins s U H _ I h) λus s1 z0=>?_) (by rw[hs,hs2]) (by rw[hs2];rfl)));let⟨vs,H1,I1,r1,q1⟩:=z0;let⟨t1,t2,a,b,xs,ys,e,hq,hq',q⟩:=q1;subst e;cases r1 with
 | cons r rr=>
  cases rr with
  | cons r' rr=>
   cases rr;cases r;cases r';let⟨its,rv,pl,hz⟩:=I1.sq hq;let⟨jts,rv',pl',hz'⟩:=I1.sq hq';let la:=pl.lt;let lb:=pl'.lt;refine G9 pl pl' λg S hk=>?_;refine wpAny_pyIter_zip (s:={s1 with heap:=g}) S.z ?_;let I2:Inv X pins U H1 {s1 with heap:=g}:=I1.kept (t':=s1.toks) hk;let D:NW (↑s1+4) (↑s1+2) (↑s1+3) ↑s1 (↑s1+1):=by
    constructor <;> (show _≠(_:Nat)) <;> ext
   let L:∀c,c<↑s1->CF c (↑s1+4) (↑s1+3) ↑s1 (↑s1+1):=λc hc=>by
    constructor <;> (show _≠(_:Nat)) <;> ext
   refine{↑s1+4,[_,_,_,_,_],_,V6 t1 t2 X.K a b,H1,rfl,I2,Ol t1 t2 a b _ _ _ _ _ D (L a la) (L b lb),S,λc hc=>?_,q};let hb':↑s1<=c:=by
    simp only[zD,zE,yV] at hc;rcases hc with e | e | e | e | e <;> (subst e;first | exact Nat.le_add_right _ _ | exact zm _)
   exact I1.vT hb' (I1.b9.fresh hb')
def FA (bs:List Bool):((List.range ⇑bs).all λi=>(bs[i]?).getD true)=bs.all id:=by
 rw[xO,yp,yp];constructor
 ·intro h b hb
  let⟨i,hi,e⟩:=List.mem_iff_getElem.mp hb;have:=h i (yS.mpr hi);rw[zd hi,e] at this;exact this
 ·intro h i hi
  let hi':=yS.mp hi;rw[zd hi'];exact h _ (ym hi')
def oK (hc:X.calm=true):fC X (.builtin "all") (λxs H Q=>∃(a:vE) (bs:List Bool),xs=[.ref a]/\aH X.K H a (bs.map V.bl)/\Q (.bl (bs.all id)) H):=by
 intro pins s U H xs us Q I r h;let⟨a,bs,e,hq,q⟩:=h;subst e;cases r with
 | cons r rr=>
  cases rr;cases r;let⟨its,rv,p,hz⟩:=I.list hq;let hlt:a<↑s:=by let⟨o,n,e,_⟩:=p;exact yy e
  let hlen:⇑bs=⇑its:=by have:=⇑rv;rw[za] at this;exact this
  refine call_all_walk (wL p.isList ?_);refine{↑s,[↑s,a],[↑s],its.toArray.size,_,_,λi=>(bs[i]?).getD true,rfl,Walks.list (A:=X.A.in1) (I.ok.hd hc) _ a (yj hlt) its.toArray,
   {{_,yx _ rfl,rfl,rfl},p.isList.push _},λi v s' Q' E' hP hQ=>?_,λh' tk hk=>?_}
  ·let hP':its[i]?=some v:=by simpa using hP
   let hi:i<⇑bs:=by rw[hlen];exact(zy.mp hP').1
   let hm:(bs.map V.bl)[i]?=some (.bl bs[i]):=by rw[zK,zd hi];rfl
   let⟨u,hu,ru⟩:=rv.get hm;rw[hP'] at hu;cases hu;cases ru;dsimp only at hQ;rw[zd hi] at hQ;exact xi hQ
  ·let e:((List.range its.toArray.size).all λi=>(bs[i]?).getD true)=bs.all id:=by rw[yb,<-hlen];exact FA bs
   rw[e];exact{.bl _,H,I.kept λb o x=>hk b o (λhm=>by rw[zA.mp hm] at x;exact yf _ (yy x)) (yv _ x),rfl,q}
end
section
variable {X:Cx} {pos:Pos}
end
inductive Ty where
 | bP | bl | int | str | tup | lst | VD
noncomputable def Ty.name:Ty->String
 | .bP=> "NoneType" | .bl=> "bool" | .int=> "int" | .str=> "str" | .tup=> "tuple" | .lst=> "list" | .VD=> "dict"
noncomputable def SV:Option HO->Option Ty
 | some (.tup _)=>some .tup
 | some (.lst _)=>some .lst
 | some (.mV _ (.lst _))=>some .lst
 | some (.dK _)=>some .VD
 | some (.dT _)=>some .VD
 | _=>none
noncomputable def tag (H:Hp):V->Option Ty
 | .bP=>some .bP
 | .bl _=>some .bl
 | .int _=>some .int
 | .str _=>some .str
 | .ref a=>SV (H a)
 | _=>none
def QS {H:Hp} {a:vE} {xs:List V} (h:H a=some (.lst xs)):tag H (.ref a)=some .lst:=by show SV (H a)=_;rw[h];rfl
def SU {K:yB} {H:Hp} {x:V} {n:Ty} (h:tag H x=some n):ui K H x (.type n.name):=by
 cases x with
 | bP=>cases h;exact .bP
 | bl b=>cases h;exact .bl b
 | int i=>cases h;exact .int i
 | str y=>cases h;exact .str y
 | Mj _=>cases h
 | RI _=>cases h
 | ty _=>cases h
 | ref a=>
  let h:SV (H a)=some n:=h;cases q:H a with
  | none=>rw[q] at h;cases h
  | some o=>
   rw[q] at h;cases o with
   | tup _=>cases h;exact .tup q
   | lst _=>cases h;exact .lst q
   | mV _ o=>
    cases o with
    | lst _=>cases h;exact .mV q
    | _=>cases h
   | dK _=>cases h;exact .dK q
   | dT _=>cases h;exact .dT q
   | _=>cases h
def Ty.sub:Ty->Ty->Bool
 | .bl,.bl=>true | .int,.int=>true | .str,.str=>true | .tup,.tup=>true | .lst,.lst=>true | .VD,.VD=>true | .bP,.bP=>true
 | .bl,.int=>true
 | _,_=>false
def RC (K:yB) (a b:Ty):PySem.W.kitOne K (.type a.name) (.type b.name)=some (a.sub b):=by
 cases a <;> cases b <;> first | rfl | decide +kernel | kernel_rfl
def WA (c:Ty) (ta:TE):TE:=λU H Q=>ta U H λx H1=>∃n,tag H1 x=some n/\Q (.bl (n.sub c)) H1
section
variable {X:Cx}
def TH (c:Ty) (hx:bootBuiltins x=some (.type c.name)) (ha:PE X a ta) (hm:X.mg "isinstance"= none) (hm2:X.mg x=none)
  (hg:Gl X "isinstance"<|>qe_) (hg2:Gl X x<|>qe_) (hn:x≠ "__name__"<|>qb_) (hd:(x == ("__debug__": Str))=false<|>qb_)
  (hs:starEach [a,.Name x p2] X.env=(false,eval a X.env)::starEach [.Name x p2] X.env<|>qe_) (hs2:starEach [.Name x p2] X.env=[(false,eval (.Name x p2) X.env)]<|>qe_) :
  PE X (.Call (.Name "isinstance" p1) [a,.Name x p2] [] pos) (WA c ta):=by
 let hc:fC X (.builtin "isinstance") (λxs H Q=>∃v n,xs=[v,.ty c.name]/\tag H v=some n/\Q (.bl (n.sub c)) H):=by
  intro pins s U H xs us Q I r h;let⟨v,n,e,ht,q⟩:=h;subst e;cases r with
  | cons r rr=>
   cases rr with
   | cons r' rr=>
    cases rr;cases r';exact Nf I r (SU ht) (RC _ _ _) λtk=>{.bl _,H,I.tok tk,rfl,q}
 let hb:PE X (.Name x p2) (tC (.ty c.name)):=Rn (u:=.type c.name) hg2 hm2 hx rfl hn hd;let ht:=Ir (p:=p1) (pos:=pos) hc hg hm (by decide +kernel) (ah ha (ah hb ag hs2) hs) (he:=hs) (hpl:=by rw[hs2];rfl);intro pins s U H Q I h;let mono:ta U H (λx H1=>∃n,tag H1 x=some n/\Q (.bl (n.sub c)) H1)->LI (λxs H Q=>∃v n,xs=[v,.ty c.name]/\tag H v=some n/\Q (.bl (n.sub c)) H) (bI ta (bI (tC (.ty c.name)) dY)) U H Q:=λz=>by
  show ta U H λx H1=>∃v n,[x,V.ty c.name]=[v,.ty c.name]/\tag H1 v=some n/\Q (.bl (n.sub c)) H1;let e:(λx H1=>∃n,tag H1 x=some n/\Q (.bl (n.sub c)) H1)=(λ(x:V) (H1:Hp)=>∃v n,[x,V.ty c.name]=[v,V.ty c.name]/\tag H1 v=some n/\Q (.bl (n.sub c)) H1):=by
   funext x H1
   apply propext;constructor
   ·rintro⟨n,h1,h2⟩;exact{(x),n,rfl,h1,h2}
   ·rintro⟨v,n,e,h1,h2⟩;cases e;exact{(n),h1,h2}
  rw[<-e];exact z
 exact ht pins s U H Q I (mono h)
end
inductive Dt where
 | bP | bl (b:Bool) | int (i:Int) | str (x:Str) | tup (l:List Dt)
mutual
def Is (H:Hp):Dt->V->Prop
 | .bP,v=>v=.bP
 | .bl b,v=>v=.bl b
 | .int i,v=>v=.int i
 | .str x,v=>v=.str x
 | .tup l,v=>∃a vs,v=.ref a/\H a=some (.tup vs)/\aD H l vs
def aD (H:Hp):List Dt->List V->Prop
 | [],vs=>vs=[]
 | d::l,vs=>∃v r,vs=v::r/\Is H d v/\aD H l r
end
mutual
theorem Is.mono (s:au H H'):∀{d:Dt} {v:V},Is H d v->Is H' d v
 | .bP,_,h=>by unfold Is at h ⊢;exact h
 | .bl _,_,h=>by unfold Is at h ⊢;exact h
 | .int _,_,h=>by unfold Is at h ⊢;exact h
 | .str _,_,h=>by unfold Is at h ⊢;exact h
 | .tup l,_,h=>by
  unfold Is at h ⊢;let⟨a,vs,e,ha,hl⟩:=h;exact{a,vs,e,s _ _ ha,aD.mono s hl}
theorem aD.mono (s:au H H'):∀{l:List Dt} {vs:List V},aD H l vs->aD H' l vs
 | [],_,h=>by unfold aD at h ⊢;exact h
 | d::l,_,h=>by
  unfold aD at h ⊢;let⟨v,r,e,hv,hr⟩:=h;exact{v,r,e,Is.mono s hv,aD.mono s hr}
end
theorem aD.len:∀{l:List Dt} {vs:List V},aD H l vs->⇑vs=⇑l
 | [],_,h=>by unfold aD at h;rw[h];rfl
 | d::l,_,h=>by
  unfold aD at h;let⟨v,r,e,_,hr⟩:=h;rw[e,zv,zv,aD.len hr]
theorem aD.get:∀{l:List Dt} {vs:List V} {i:Nat} {v:V},aD H l vs->vs[i]?=some v->∃d,l[i]?=some d/\Is H d v
 | [],_,i,v,h,e=>by unfold aD at h;rw[h] at e;simp at e
 | d::l,_,i,v,h,e=>by
  unfold aD at h;let⟨u,r,e1,hv,hr⟩:=h;subst e1;cases i with
  | zero=>simp at e;subst e;exact{(d),rfl,hv}
  | succ i=>
   let⟨d',h1,h2⟩:=aD.get (i:=i) hr (by simpa using e);exact{d',by simpa using h1,h2}
def au.jy (e:upd H p o=H') (h:H p=none):au H H':=e▸aY h
def jG (e:upd H p o=H'):H' p=some o:=e▸aB
def bR {c:Bool} {A B:Prop} (h:c=true) (q:A):if c=true then A else B:=by rw[yO h];exact q
def bX {c:Bool} {A B:Prop} (h:c=false) (q:B):if c=true then A else B:=by rw[yN (by rw[h];decide)];exact q
def cM:⇑[a,b]<=sizeLine:=by show 2<=sizeLine;decide
def nF:⇑[a,b,c]<=sizeLine:=by show 3<=sizeLine;decide
def iM (h:H p=some (.tup [.int a,.int b])):Is H (.tup [.int a,.int b]) (.ref p):=by
 unfold Is;exact{p,_,rfl,h,by simp only[aD,Is];exact{_,_,rfl,rfl,_,_,rfl,rfl,rfl}}
def rN {K:yB} {a:vE} {xs:List V} {g:TG} {tb:TS} {D:Ends} {U:St} {H:Hp} (Pv:Nat->St->Hp->Prop) (h0:Pv 0 U H) (hl:∀i U H,i<=⇑xs->Pv i U H->aH K H a xs)
  (hs:∀i x U H p H',xs[i]?=some x->Pv i U H->au H H'->H' p=some (.tup [.int (i:Int),x])->g (.ref p) U H' λσ2 H2=>tb {D with nx:=Pv (i+1),ct:=Pv (i+1),bk:=D.nx} σ2 H2) (hd:∀U H,Pv ⇑xs U H->D.nx U H) :
  ∃W:Nat->Nat->St->Hp->Prop,(∃m,W 0 m U H)/\∀i m U H,W i m U H->
   ((UB K a).stop i H/\D.nx U H)\/((UB K a).go i H/\∃N:St->Hp->Prop,(∀U' H',N U' H'->∃m',m'<m/\W (i+1) m' U' H')/\∀x H',(UB K a).JV i H x H'->g x U H' λσ2 H2=>tb {D with nx:=N,ct:=N,bk:=D.nx} σ2 H2):=by
 refine{λi m U H=>m=⇑xs-i/\i<=⇑xs/\Pv i U H,{⇑xs,by simp,yg _,h0},?_};rintro i m U H ⟨rfl,hi,p⟩;let q:=hl i U H hi p
 by_cases hlt:i<⇑xs
 ·refine .inr {{xs,xs[i],q,by simp[hlt]},Pv (i+1),λU' H' p'=>{⇑xs-(i+1),(),rfl,hlt,p'},λx H' y=>?_}
  let⟨pp,v,hp,e1,e2,y⟩:=y;subst e1 e2;exact hs i v U H pp _ (y xs q) p (aY hp) aB
 ·let e:i=⇑xs:=()
  subst e;exact .inl {{xs,q,zm _},hd U H p}
section
variable {X:Cx} {pos:Pos}
def Inv.Vk (I2:Inv X pins σ2 H2 s2) (hC:↑s2<=C) (I:Inv X pins U H s) (hn:H C=none) (hs:Heap.SameBut C s.heap h'):Inv X pins U H {s with heap:=h'}:=by
 let⟨f0,f1,f2,f3,f4,f5⟩:=I2.vT hC hn;exact I.turned (t':=s.toks) (λb o hb e=>hs.extBut b o hb e) f0 f1 f3 f4 f5
end
section
variable {X:Cx} {pins:List (vE×Obj)} {U:St} {H:Hp} {s:vz}
def Sz (n:Nat) (i:Int):Prop:=i.natAbs<2^n
def Sz.mono (h:Sz n i) (k:n<=m):Sz m i:=yc h (Nat.pow_le_pow_right ∅ k)
def Sz.mul (h:Sz n i) (k:Sz m j):Sz (n+m) (i*j):=by
 unfold Sz at *;rw[Int.natAbs_mul,Nat.pow_add];exact Nat.mul_lt_mul'' h k
def Sz.add (h:Sz n i) (k:Sz n j):Sz (n+1) (i+j):=by
 unfold Sz at *;have:=Int.natAbs_add_le i j;rw[Nat.pow_succ];ext
def Sz.le (h:Sz n j) (h0:0<=i) (hl:i<=j):Sz n i:=by
 unfold Sz at *;have:i.natAbs<=j.natAbs:=()
 ext
def Sz.bits (h:Sz n i):Builtin.Int.intBits i<=n:=by
 unfold Builtin.Int.intBits;split
 ·exact yg _
 ·rename_i hz
  have:i.natAbs≠0:=by
   intro e;have:i=0:=Int.natAbs_eq_zero.mp e;subst this;exact hz rfl
  have:=(Nat.log2_lt this).mpr h;ext
def VP (i j:Int):Prop:=Sz 20000 i/\Sz 20000 j
def VQ (_ j:Int):Prop:=0<j/\Sz 8999 j
def ra:oj X (binaryOp .Mult) (rI VP λi j=>.int (i*j)):=UI λ_ _ _ _ _ _ _ hc q=>mul_int q (.of_bits (zM hc.1.bits ∅) (zM hc.2.bits ∅))
def rg:oj X (binaryOp .FloorDiv) (rI VQ λi j=>.int (i/j)):=UI λi j _ _ _ _ _ hc q=>by
 let h1:(0:Int)<j:=hc.1;refine floordiv_int () (by rw[vo i ()];exact q) (.inl (PyProof.noPylong_of_log2 ?_));let h2:j.natAbs<2^8999:=hc.2;let h3:j.natAbs≠0:=()
 exact xH ((Nat.log2_lt h3).mpr h2) ∅
def Qv {ns:List Int} {j:Int} (h0:0<=j) (h1:j<⇑ns):DR (ns.map V.int) j=some (.int (ns.getD j.toNat 0)):=by
 let⟨k,rfl⟩:=yL h0;refine bz ?_;let hk:k<⇑ns:=()
 rw[zK,zd hk];simp[List.getD,hk]
end
section
variable {X:Cx} {pos:Pos}
def Sl (K:yB):R2:=λx y H Q=>∃l b xs zs,x=.ref l/\y=.ref b/\aH K H l xs/\aH K H b zs/\⇑xs+⇑zs<=sizeLine/\∀p,H p=none->Q (.ref p) (upd H p (.lst (xs++zs)))
def eV:oj X (binaryOp .Add) (Sl X.K):=by
 intro pins s U H x y v u Q I rx ry h;let⟨l,b,xs,zs,rfl,rfl,hH,hB,hz,q⟩:=h;cases rx;cases ry;let⟨its,r,p,z⟩:=I.list hH;let⟨jts,r',p',z'⟩:=I.list hB;let l1:=⇑r;let l2:=⇑r';let⟨⟨cls,dd,data,sl⟩,ho,hc,n,hd⟩:=id p.isList;let⟨⟨cls2,dd2,data2,sl2⟩,ho2,hc2,n2,hd2⟩:=id p'.isList;simp only at hc hd hc2 hd2;subst hc hd hc2 hd2;refine concat_meets {_,ho,rfl} {_,ho2,rfl} noFill_list_add seq_list_add PySem.F.slot_list_add PySem.F.entry_list_add (PySem.F.args_list_add_2 _ _) (list_addW l b its.toArray jts.toArray n n2 dd dd2 sl sl2 (by rw[yb,yb];ext)) {ho,ho2,?_};let ea:its.toArray++jts.toArray=(its++jts).toArray:=by simp
 rw[ea];exact{.ref _,_,I.Vj (t':=s.toks) (r.append r') (by rw[zh];ext),rfl,q _ I.fresh}
end
def CH (n:Nat) (x:Int×Int):Prop:=Sz n x.1/\Sz n x.2
theorem CH.red (ht:0<=t) (hb:0<b) (h1:Sz n t) (h2:Sz n b):CH n (Lm.red t b):=by
 let⟨g,g0,_,_,p,l⟩:=Lm.jh (t:=t) hb;exact{h1.le (Lm.Bj ht) (Lm.Bk ht),h2.le (xa p) l}
theorem CH.add (hx:Lm.Rd x) (hy:Lm.Rd y) (h:CH n x) (k:CH m y):CH (n+m+1) (Lm.add x y):=by
 let⟨a,b,_⟩:=hx.pos;let⟨c,d,_⟩:=hy.pos;refine CH.red (Int.add_nonneg (wc a ()) (wc c ())) (xB b d) ?_ ((h.2.mul k.2).mono ());refine Sz.add (h.1.mul k.2) ?_;have:=k.1.mul h.2;rw[Nat.add_comm] at this;exact this
noncomputable def dec (n:Int):Str:=Str.ofString (toString n)
def ly {x y:Str} (h:x.cps.toList=y.cps.toList):x=y:=by
 cases x;cases y;simp only[Str.mk.injEq];exact Array.toList_inj.mp h
def cF (x y:Str):(x++y).cps.toList=x.cps.toList++y.cps.toList:=Array.toList_append ..
def len_app (x y:Str):⇑(x++y)=⇑x+⇑y:=Array.size_append ..
def NO (x y z:Str):x++y++z=x++(y++z):=ly (by rw[cF,cF,cF,cF,zF])
def Az (m:Nat):(dec (m:Int)).cps.toList=(Nat.toDigits 10 m).map Char.toNat:=PySem.W.KIN.signs_num m
def Gd (m:Nat):⇑(dec (m:Int))=⇑(Nat.toDigits 10 m):=by
 let h:=y6 List.length (Az m);rw[za,yQ] at h;exact h
def RS (h:c∈(Nat.toDigits 10 m).map Char.toNat):48<=c/\c<=57:=by
 let⟨ch,hc,e⟩:=zH.mp h;let r:=Nat.isDigit_of_mem_toDigits ∅ ∅ hc;rw[<-e];simp only[Char.isDigit,zO,xF] at r;exact{(r.1),r.2}
section
variable {X:Cx}
end
section
variable {X:Cx}
def Tt:V->Option Int->Option Int->Hp->VK->Prop:=λx lo hi H Q=>∃t:Str,x=.str t/\⇑t<=sizeLine/\Q (.str (PySem.Txt.slice t lo hi)) H
def Kd:QD X Tt:=by
 intro pins s U H x v vl vu lo hi sl Q I rx hs pl pu h;let⟨t,rfl,hz,q⟩:=h;let⟨tk,rfl⟩:=rx;let⟨o,ho,hc,hd⟩:=hs;let fin:∀(l u:Option (Int×Tok)),l.map (·.1)=lo->u.map (·.1)=hi->partValue l=vl->partValue u=vu->
   ∃T id,typeLookup (.type T) "__getitem__"= pure (some (.builtin id))/\s.TypeIs (.str t tk) T/\wpAny (model X.prog X.w) X.A (getItem (.str t tk) (.ref sl)) (EP X pins U Q) X.xe s:=by
  intro l u e1 e2 e3 e4;subst e1 e2 e3 e4;exact{"str",_,F.slot_str_getitem.lookup,wR _ _ _,wpAny_getItem_str_slice (l:=l) (u:=u) (st:=none) {(o),ho,hc,hd} rfl
   (post_val_or_str {zM (PySem.Txt.slice_le t _ _) hz,λt' k=>{.str _,H,I.tok _,{_,rfl},q}})}
 cases pl with
 | none=>
  cases pu with
  | none=>exact fin none none rfl rfl rfl rfl
  | int j tj=>exact fin none (some (j,tj)) rfl rfl rfl rfl
 | int i ti=>
  cases pu with
  | none=>exact fin (some (i,ti)) none rfl rfl rfl rfl
  | int j tj=>exact fin (some (i,ti)) (some (j,tj)) rfl rfl rfl rfl
noncomputable def VM (x:Str):It:={λi _=>i<⇑x,λi H v H'=>H'=H/\∃c,x.cps[i]?=some c/\v=.str {#[c]},λi _=>⇑x<=i}
def Om {P:vA} {w:vB} {K:yB} {tg:Expr} (x:Str) (t:Tok) (it:vE) (ty:String) (hty:ty ="str_ascii_iterator"\/ty ="str_iterator"):Turn P w K tg (VM x) [it] it (λi h=>i<=⇑x/\h.IsStrIter it ty x t i) where
 mem:=by simp
 obj:=λi h st b hb=>by
  let e:b=it:=by simpa using hb
  subst e;let⟨_,o,e,c,d⟩:=st;exact{o,e,λv z=>by rw[d] at z;cases z}
 keep:=λi h h' st k=>{st.1,let ⟨o,ho,r⟩:=st.2;{o,k it (by simp) o ho,r}}
 item:=by
  intro X hP hw hK hc i pins s U H E I hf st hg;subst hP hw hK;let W:Walks X.prog X.w X.A it [it] [it] x.cps.size (SignAt x) (λi h=>h.IsStrIter it ty x t i):=by
   rcases hty with rfl | rfl
   ·exact Walks.strAscii (I.ok.hd hc) it x t
   ·exact Walks.strWide (I.ok.hd hc) it x t
  refine W.item i s _ _ hg st.2 λv h' tk hv z' kk=>?_;let⟨c,u,hcx,rfl⟩:=hv;let I1:Inv X pins U H {s with heap:=h',toks:=tk}:=I.turns hf λb o hb e=>kk b o (by simpa using hb) e;let⟨o,e,cc,d⟩:=id z';let hgl:i<⇑x:=hg;refine{_,rfl,EE (s:={s with heap:=h',toks:=tk}) (n:=ty) e cc d ?_ {.str {#[c]},H,I1,{(u),rfl},{(rfl),c,hcx,rfl},{(hgl),z'},λb hb=>(hf b hb).1}};rcases hty with rfl | rfl <;> decide
 done:=by
  intro X hP hw hK hc i pins s U H E I hf st hg;subst hP hw hK;let hi:i=x.cps.size:=Nat.le_antisymm st.1 hg;subst hi;let W:Walks X.prog X.w X.A it [it] [it] x.cps.size (SignAt x) (λi h=>h.IsStrIter it ty x t i):=by
   rcases hty with rfl | rfl
   ·exact Walks.strAscii (I.ok.hd hc) it x t
   ·exact Walks.strWide (I.ok.hd hc) it x t
  exact W.done s _ _ st.2 λh' tk eb=>{rfl,I.turns hf λb o hb e=>eb b o (by simpa using hb) e}
 self:=λA i s Q E z h=>by
  rcases hty with rfl | rfl
  ·exact wpAny_pyIter_striter_ascii z.2 h
  ·exact wpAny_pyIter_striter_wide z.2 h
def WV (tl:TE):TI:=λU H R=>tl U H λx H1=>∃t,x=.str t/\R (VM t) H1
def Pd {tg l:Expr} {tl:TE} (hl:PE X l tl):PI X tg l (WV tl):=by
 intro pins s U H R I h;refine cX (hl pins s U H _ I h) λv s1 z0=>?_;let⟨x,H1,I1,r1,q1⟩:=z0;let⟨t,e,q⟩:=q1;subst e;let⟨tk,rfl⟩:=r1;refine wpAny_pyIter_strU ?_;refine{↑s1,[↑s1],_,_,H1,rfl,I1.kept (t':=s1.toks) λb o e=>yv _ e,Om t tk _ (strIterType t) ?_,{yg _,_,yx _ rfl,rfl,rfl},λb hb=>?_,q}
 ·unfold strIterType
  split
  ·exact .inl rfl
  ·exact .inr rfl
 ·let e:b=↑s1:=by simpa using hb
  subst e;exact I1.vT (zm _) (I1.b9.fresh (zm _))
theorem Ed:∀(l:List (Str×Tok)),Vals ((l.map (·.1)).map V.str) (strValues l)
 | []=>.nil
 | (x,t)::r=>.cons {(t),rfl} (Ed r)
def Ts:V->List V->Hp->VK->Prop:=λx vs H Q=>∃(t y:Str),x=.str t/\vs=[.str y]/\⇑y=1/\⇑t+2<=sizeLine/\∀l,H l=none->Q (.ref l) (upd H l (.lst ((PySem.Txt.split t y).map V.str)))
def jA:R5 X "str.split" Ts:=by
 intro pins s U H x vs v us Q I rx rv h;let⟨t,y,rfl,rfl,hy,hz,q⟩:=h;let⟨tk,rfl⟩:=rx;let⟨u,rfl,tk',rfl⟩:=rv.one;let hy':(⇑y == 0)=false:=by rw[hy];rfl
 let hle:=split_le t y;let fin:∀(l:List (Str×Tok)) (k:Nat),l.map (·.1)=PySem.Txt.split t y->
   EP X pins U Q (.ref ↑s) {s with heap:=s.heap.push {cls:=.type "list",data:=.seq (strValues l).toArray},toks:=k}:=λl k e=>
  {.ref _,_,I.Vj (t':=k) (by rw[<-e];exact Ed l) (by rw[za];ext),rfl,q _ I.fresh}
 cases h1:(decide (⇑t<⇑y)||decide (Builtin.Str.strKind t<Builtin.Str.strKind y))
 ·cases hf:(Builtin.Str.occurrences t y 0 ⇑t (⇑t+1)).isEmpty
  ·let es:PySem.Txt.split t y=Builtin.Str.partsBetween t (Builtin.Str.occurrences t y 0 ⇑t (⇑t+1)) ⇑y:=by
    unfold PySem.Txt.split;rw[h1,hf];rfl
   refine wB F.slot_str_split (wR s t tk) F.entry_str_split (F.args_str_split_2 _ _) (meets_str_split_sep t y tk tk' h1 hy' hf () (by rw[<-es];ext)) ?_;rw[strsFrom_eq];exact fin (numbered s.toks _) _ ((numbered_texts _ _).trans es.symm)
  ·let es:PySem.Txt.split t y=[t]:=by
    unfold PySem.Txt.split;rw[h1,hf];rfl
   refine wB F.slot_str_split (wR s t tk) F.entry_str_split (F.args_str_split_2 _ _) (meets_str_split_not_found t y tk tk' h1 hy' hf) ?_;exact fin [(t,tk)] _ es.symm
 ·let es:PySem.Txt.split t y=[t]:=by
   unfold PySem.Txt.split;rw[h1];rfl
  refine wB F.slot_str_split (wR s t tk) F.entry_str_split (F.args_str_split_2 _ _) (meets_str_split_cannot_occur t y tk tk' h1) ?_;exact fin [(t,tk)] _ es.symm
def Rb:V->List V->Hp->VK->Prop:=λx vs H Q=>∃(t y:Str),x=.str t/\vs=[.str y]/\Q (.bl (decide (0+⇑y<=⇑t)&&Builtin.Str.subAt t y 0)) H
def Ds:R5 X "str.startswith" Rb:=by
 intro pins s U H x vs v us Q I rx rv h;let⟨t,y,rfl,rfl,q⟩:=h;let⟨tk,rfl⟩:=rx;let⟨u,rfl,tk',rfl⟩:=rv.one;exact wB F.slot_str_startswith (wR s t tk) F.entry_str_startswith (F.args_str_startswith_2 _ _) (gives_str_startswith t y tk tk').meets {.bl _,H,I,rfl,q}
def Gw:fC X (.type "int") (λxs H Q=>∃(t:Str) (n:Int),xs=[.str t]/\PySem.intText? t=some n/\⇑t<=640/\Q (.int n) H):=by
 intro pins s U H xs us Q I r h;let⟨t,n,rfl,hn,hl,q⟩:=h;let⟨u,rfl,tk,rfl⟩:=vals1 r;exact PySem.W.KIN.call_text hn hl {.int n,H,I.tok _,{_,rfl},q}
end
def join_one (sep x:Str):Str.join sep [x]=x:=rfl
def eX (sep x y:Str) (r:List Str):Str.join sep (x::y::r)=x++sep++Str.join sep (y::r):=rfl
theorem IU:∀{ps qs:List Str},ps≠[]->qs≠[]->(∀p∈ps,c∉p.cps.toList)->(∀q∈qs,c∉q.cps.toList)->Str.join {#[c]} ps=Str.join {#[c]} qs->ps=qs
 | [],_,h,_,_,_,_=>absurd rfl h
 | _,[],_,h,_,_,_=>absurd rfl h
 | [p],[q],_,_,_,_,h=>by rw[join_one,join_one] at h;rw[h]
 | [p],q::q2::r,_,_,hp,_,h=>by
  rw[join_one,eX] at h;let e:=y6 (λz:Str=>z.cps.toList) h;simp only[cF] at e;exact absurd (show c∈p.cps.toList by rw[e];simp) (hp p zr)
 | p::p2::r,[q],_,_,_,hq,h=>by
  rw[join_one,eX] at h;let e:=y6 (λz:Str=>z.cps.toList) h;simp only[cF] at e;exact absurd (show c∈q.cps.toList by rw[<-e];simp) (hq q zr)
 | p::p2::r,q::q2::r',_,_,hp,hq,h=>by
  rw[eX,eX] at h;let e:=y6 (λz:Str=>z.cps.toList) h;simp only[cF,zF] at e;let⟨e1,e2⟩:=Lm.Mh (hp p zr) (hq q zr) (show p.cps.toList++c::(Str.join {#[c]} (p2::r)).cps.toList=q.cps.toList++c::(Str.join {#[c]} (q2::r')).cps.toList from e);let ih:=IU (ps:=p2::r) (qs:=q2::r') (by simp) (by simp) (λz hz=>hp z (zp _ hz)) (λz hz=>hq z (zp _ hz)) (ly e2);rw[ih,ly e1]
def gy (ne:ps≠[]) (fr:∀p∈ps,c∉p.cps.toList):PySem.Txt.split (Str.join {#[c]} ps) {#[c]}=ps:=by
 refine IU ?_ ne (PySem.StrLaws.split_free _ c) fr (PySem.StrLaws.join_split _ _);intro z;have:=split_pos (Str.join {#[c]} ps) {#[c]};rw[z] at this;exact absurd this ∅
def E8 (ha:c∉a.cps.toList) (hb:c∉b.cps.toList):PySem.Txt.split (a++{#[c]}++b) {#[c]}=[a,b]:=by
 refine gy (ps:=[a,b]) (by simp) λp hp=>?_;rcases zD.mp hp with rfl | hp
 ·exact ha
 ·rw[zA.mp hp];exact hb
def split1 (ha:c∉a.cps.toList):PySem.Txt.split a {#[c]}=[a]:=by
 refine gy (ps:=[a]) (by simp) λp hp=>?_;rw[zA.mp hp];exact ha
def Th (ha:c∉a.cps.toList) (hb:c∉b.cps.toList) (hd:c∉d.cps.toList):PySem.Txt.split (a++{#[c]}++b++{#[c]}++d) {#[c]}=[a,b,d]:=by
 let e:a++({#[c]}:Str)++b++⟨#[c]⟩++d=Str.join ⟨#[c]⟩ [a,b,d]:=by
  rw[eX,eX,join_one];simp only[NO]
 rw[e];refine gy (ps:=[a,b,d]) (by simp) λp hp=>?_;rcases zD.mp hp with rfl | hp
 ·exact ha
 rcases zD.mp hp with rfl | hp
 ·exact hb
 ·rw[zA.mp hp];exact hd
def Ay (h:n<0):dec n ="-" ++ dec (-n):=by
 obtain⟨m,rfl⟩:∃m:Nat,n=Int.negSucc m:={(-n-1).toNat,()}
 refine ly ?_;rw[cF];let e1:(dec (Int.negSucc m)).cps.toList=("-" ++ toString (m+1)).toList.map Char.toNat:=PyProof.Rows.signs_ofString _;let e2:(dec (-(Int.negSucc m))).cps.toList=(toString (m+1)).toList.map Char.toNat:=PyProof.Rows.signs_ofString _;rw[e1,e2,String.toList_append,zk];rfl
def kW {n:Nat} {c:Nat} (h:c∈(dec (n:Int)).cps.toList):48<=c/\c<=57:=by
 rw[Az] at h;exact RS h
def Nw {n:Nat} (h:(dec (n:Int)).cps[0]?=some 48):⇑(dec (n:Int))=1:=by
 rcases Nat.eq_zero_or_pos n with rfl | hn
 ·rw[Gd];decide
 ·let⟨c,r,e,hc⟩:=Lm.PV n hn
  rw[<-xk,Az,e] at h;simp only[zj,List.getElem?_cons_zero,xP] at h;exact absurd (Char.toNat_inj.mp (by rw[h];rfl)) hc
def Jk {n:Nat}:1<=⇑(dec (n:Int)):=by
 rw[Gd];exact PySem.toDigits_len_ge 10 n
def EL {n k:Nat} (hk:0<k) (h:n<10^k):⇑(dec (n:Int))<=k:=by rw[Gd];exact Lm.TY hk h
def Uc (a:Option Int) (n:Nat):Builtin.Str.strSliceIndices a none 1 n=Builtin.Str.strSliceIndices a (some (n:Int)) 1 n:=by
 let h:¬((n:Int)<0):=()
 let e:max (0:Int) (min (n:Int) (n:Int))=n:=()
 simp only[Builtin.Str.strSliceIndices,h,wu,e,show((1:Int)>0)=True from by simp,vg]
def Ub (b:Option Int) (n:Nat):Builtin.Str.strSliceIndices none b 1 n=Builtin.Str.strSliceIndices (some ((0:Nat):Int)) b 1 n:=by
 let h:¬(((0:Nat):Int)<0):=()
 let e:max (0:Int) (min ((0:Nat):Int) (n:Int))=0:=()
 simp only[Builtin.Str.strSliceIndices,h,wu,e,show((1:Int)>0)=True from by simp,vg]
def Ek (x:Str) (hab:a<=b) (hb:b<=⇑x):(PySem.Txt.slice x (some (a:Int)) (some (b:Int))).cps.toList=(x.cps.toList.drop a).take (b-a):=by
 unfold PySem.Txt.slice;split
 ·rename_i h
  rw[PySem.StrLaws.strSliceIndices_plain hab hb] at h;simp only[wk,yW,vi,za,zR] at h;let hl:⇑x.cps.toList=⇑x:=yQ;let ea:a=0:=()
  let eb:b-a=⇑x.cps.toList:=()
  rw[eb,ea,List.drop_zero,zN]
 ·exact PySem.StrLaws.sliced_plain x hab hb
def pC (x:Str) (h:a<=⇑x):(PySem.Txt.slice x (some (a:Int)) none).cps.toList=x.cps.toList.drop a:=by
 let e:PySem.Txt.slice x (some (a:Int)) none=PySem.Txt.slice x (some (a:Int)) (some ((⇑x:Nat):Int)):=by
  unfold PySem.Txt.slice;rw[Uc]
 let hl:⇑x.cps.toList=⇑x:=yQ;rw[e,Ek x h (zm _),xy (by rw[xD];ext)]
def HF (x:Str) (h:b<=⇑x):(PySem.Txt.slice x none (some (b:Int))).cps.toList=x.cps.toList.take b:=by
 let e:PySem.Txt.slice x none (some (b:Int))=PySem.Txt.slice x (some ((0:Nat):Int)) (some (b:Int)):=by
  unfold PySem.Txt.slice;rw[Ub]
 rw[e,Ek x (yg _) h,List.drop_zero,Nat.sub_zero]
def pQ {K:yB} {mg:Str->Option vy} {base:vF} {x:Str} {C:vE} {bm:List vy} {newId:String} (P:vA) (m:Mod K mg base) (e:PySem.W.nsIn K mainGlobals x=some (some (.ref C)))
  (q:PySem.W.excIn K C bm newId=true):OwnCls x C bm newId mg base:=by
 let⟨mb,hb,hbb⟩:=m.blt;let⟨o0,es0,ep0,hg0,hd0,sk0,look⟩:=m.glob;let fr:∀y,y∉(es0.toList.filterMap λ(d:DictEntry)=>match d.key with | .str z _=>some z | _=>none)->mg y=none:=λy hy=>by
  rw[<-look y];show(es0.find? λd=>d.key.isStr y).map (·.val)=none;cases hf:es0.find? λd=>d.key.isStr y with
  | none=>rfl
  | some d=>
   exfalso;let hm:=Array.mem_of_find?_eq_some hf;let hk:=Array.find?_some hf;let⟨z,t,ez⟩:=sk0 d hm;let ezy:z=y:=by rw[ez] at hk;exact eq_of_beq (show(z == y)=true from hk)
   exact hy (vn.mpr {d,by simpa using hm,by rw[ez,ezy]})
 exact PySem.W.own_of_in (p:=P) (loose:=es0.toList.filterMap λ(d:DictEntry)=>match d.key with | .str z _=>some z | _=>none) m.TZ {m.glob,hb,m.nolimit,hbb,λy _ hl _ _ _=>fr y hl} e q
structure N9 (P:vA) (w:vB) (fs:List vE) (H H':Hp) (h B h':vF):Prop where
 keep:∀b o,h.get? b=some o->H b=none->b∉fs->B.get? b=some o
 slot:∀b o,h.get? b=some o->H b=none->b∈fs->∃sl,h'.get? b=some {o with slots:=sl}
 free:∀b o,h.get? b=some o->H b=none->H' b=none
 there:∀b o,h.get? b=some o->b∉fs->∃o',B.get? b=some o'
 oO:∀b xs,H b=some (.tup xs)->H' b=some (.tup xs)
 mU:∀b o u,H b=some (.mV o u)->H' b=some (.mV o u)
 oP:∀b ps,H b=some (.Ot ps)->∃more,H' b=some (.Ot (ps++more))
 b9:qt P w H' B
 lz:B.StaysIn h'
section
variable {P:vA} {w:vB} {fs:List vE} {H H':Hp} {h B h' h2:vF}
def N9.un (f:N9 P w fs H H' h B h') (IY:∀b∈fs,H b=none):Un fs [] H H' h h' where
 keep:=λb o e n hb _=>f.lz b o (f.keep b o e n hb)
 slot:=λb o e n hb _=>f.slot b o e n hb
 free:=λb o e n _=>f.free b o e n
 there:=λb o e _=>by
  by_cases hb:b∈fs
  ·let⟨sl,q⟩:=f.slot b o e (IY b hb) hb
   exact{_,q}
  ·let⟨o',q⟩:=f.there b o e hb
   exact{o',f.lz b o' q}
 oO:=f.oO
 mU:=f.mU
 oP:=f.oP
def N9.on (f:N9 P w fs H H' h B h') (u:h'.UpToSlots h2) (st:B.StaysIn h2) (nf:∀b∈fs,∃o,h'.get? b=some o/\∀vs,o.data≠.fields vs):N9 P w fs H H' h B h2:=
 {f.keep,λb o e n hb=>by
  let⟨sl,q⟩:=f.slot b o e n hb;let⟨o1,q1,nd⟩:=nf b hb;rw[q] at q1;cases q1;let⟨sl2,q2⟩:=u b _ q nd;exact{(sl2),q2},f.free,f.there,f.oO,f.mU,f.oP,f.b9,st}
end
def JS (P:vA) (w:vB):LA:=λouter H s E e s'=>∃(a:vE) (cls a0:vy) (B:vF) (H':Hp),e=.ref a/\s'.os=s.os/\AllBare s'.gens/\Heap.FlyingW B outer a cls a0 s'.heap/\N9 P w (o7 outer) H H' s.heap B s'.heap/\E cls none H'
def P6 (hf:env.frame=some L):o7 (env::outer)=L::o7 outer:=by
 unfold o7;rw[vd,hf]
def SY (C:vE) (te:TA) (E:XK):TS:=λ_ U H=>te U H λvs H1=>⇑vs<=sizeLine/\E (.ref C) none H1
section
variable {P:vA} {w:vB} {K:yB} {mg:Str->Option vy} {base:vF} {N:List Str} {qual:Str} {scope:Scope} {f:vE} {cdv:vy} {A:vC} {outer:List Env} {s₀:vz} {H₀:Hp} {E:XK}
def Ij
  (hC0:PySem.W.nsIn K mainGlobals x=some (some (.ref C))) (hQ0:PySem.W.excIn K C bm newId=true) (FB:ExcBaseFacts Bn newId initId bm) (hg:Gl (ku (JS P w) P w K mg base N qual scope f cdv A outer s₀ H₀ E) x)
  (ha:PA (ku (JS P w) P w K mg base N qual scope f cdv A outer s₀ H₀ E) (e₀::es) ta) (hd:(x == ("__debug__": Str))=false<|>qb_)
  (hs:starEach (e₀::es) (ku (JS P w) P w K mg base N qual scope f cdv A outer s₀ H₀ E).env=(false,eval e₀ (ku (JS P w) P w K mg base N qual scope f cdv A outer s₀ H₀ E).env)::starEach es (ku (JS P w) P w K mg base N qual scope f cdv A outer s₀ H₀ E).env<|>qe_)
  (hpl:(backTo cpos (starEach es (ku (JS P w) P w K mg base N qual scope f cdv A outer s₀ H₀ E).env)).any (·.1)=false<|>qe_) :
  PS (ku (JS P w) P w K mg base N qual scope f cdv A outer s₀ H₀ E) (.Raise (some (.Call (.Name x np) (e₀::es) [] cpos)) none pos) (SY C ta E):=by
 intro pins s U H D I h;let O:OwnCls x C bm newId mg base:=pQ P I.ok.mod hC0 hQ0;let⟨tl,Nn,nm,q,bs,hdct,sn,sub,ab,col,dd,k0,k1,k2,k3,k5,mN,hC,hN,hni,T⟩:=O.obj;refine wpAny_Raise_call_subT (C:=C) (nm:=nm) (q:=q) (N:=Nn) (bs:=bs) (bm:=tl) (hdct:=hdct) (sn:=sn) (sub:=sub) (ab:=ab) (col:=col) (dd:=dd) (k0:=k0) (k1:=k1) (k2:=k2) (k3:=k3) (k5:=k5)
  FB (mN:=mN) (T.hasType FB.hasBase) (I.ok.hd rfl) (by rw[hs];show(false||(backTo cpos (starEach es (ku (JS P w) P w K mg base N qual scope f cdv A outer s₀ H₀ E).env)).any (·.1))=false;rw[hpl];rfl) hni (jY I hg O.bound {rfl,?_} hd)
 let hA:=ha cpos pins s U H _ I h;rw[hs] at hA ⊢;refine Calls.evalArgs_plain (xg hA (λus s2 z0=>?_) λ_ _ y=>y);let⟨vs,H2,I2,r2,hl,q2⟩:=z0;refine{rfl,?_,I2.bk _ _ hC,hN.keeps I2.bk,T.keeps I2.bk,λh' e mk=>?_}
 ·show ⇑us<=sizeLine
  rw[<-⇑r2];exact hl
 show wpAny (model P w) (A.deeper (envOfC qual scope ↑s₀ f cdv)) (leaving (envOfC qual scope ↑s₀ f cdv) (.ref e)) (λ_ s''=>JS P w outer H₀ s₀ E (.ref e) s'') (λe' s''=>JS P w outer H₀ s₀ E e' s'') {s2 with heap:=h'};let hfr:o7 (envOfC qual scope ↑s₀ f cdv::outer)=↑s₀::o7 outer:=P6 rfl;let hst:s2.heap.FunFrames base (envOfC qual scope ↑s₀ f cdv::outer):=I2.stack;let hin:∀env∈(envOfC qual scope ↑s₀ f cdv::outer),∀a,env.frame=some a->a∈o7 (envOfC qual scope ↑s₀ f cdv::outer):=λenv he a hf=>vn.mpr {(env),he,hf};let hl:=PySem.W.funFrames_hide (as:=o7 (envOfC qual scope ↑s₀ f cdv::outer)) hst hin;refine wpAny_leaves_madeW (base:=PySem.W.hideAll s2.heap (o7 (envOfC qual scope ↑s₀ f cdv::outer))) (h:=s2.heap) I2.ok.frames rfl (λb o q=>PySem.W.of_hideAll _ q) hl mk (λh'' t fl _ _ ups=>?_);let low:∀b o,s₀.heap.get? b=some o->b≠↑s₀:=λb o e z=>absurd (yy e) (by rw[z];exact yf _);let nin:∀b o,s₀.heap.get? b=some o->b∉o7 outer->b∉o7 (envOfC qual scope ↑s₀ f cdv::outer):=λb o e n z=>by
  rw[hfr] at z;rcases zD.mp z with z | z
  ·exact low b o e z
  ·exact n z
 let vQ:∀b:vE,b∉(ku (JS P w) P w K mg base N qual scope f cdv A outer s₀ H₀ E).ex:=λb z=>absurd (show b∈([]:List vE) from z) (by simp);refine{e,.ref C,.ref t,_,H2,rfl,I2.os,I2.bare,fl,{λb o q n hb=>vb _ (I2.base.keep b o q n hb (vQ b)) (nin b o q hb),λb o q n hb=>?_,λb o q n=>I2.base.free b o q n (vQ b),λb o q hb=>?_,I2.base.oO,I2.base.mU,I2.base.oP,λa o q=>?_,fl.1},q2}
 ·let⟨sl,e1⟩:=I2.base.slot b o q n hb (vQ b)
  let⟨_,o1,e2,nd⟩:=I2.ok.oU.mem hb;let e3:=mk.keeps _ _ e1;let e2':s₀.heap.get? b=some o1:=e2;rw[q] at e2';cases e2';let⟨sl2,e4⟩:=ups b _ e3 nd;exact{(sl2),e4}
 ·let⟨o',e1⟩:=I2.base.there b o q (vQ b)
  exact{o',vb _ e1 (nin b o q hb)}
 ·refine(I2.b9 a o q).lz (λb u hb e1=>vb _ e1 λz=>?_) (λ_ z=>z) λ_ _ z=>z
  let n:=I2.qG b z;rcases hb with rfl | hb
  ·rw[q] at n;cases n
  ·rw[hb] at n;cases n
def QH.Xu {x:Str} {st:Stmt} {fd:vD} {ps:List Str} {k:Nat} {sp:Sp} (F:QH K x qual st f fd) (S:gq N ps (aT st)) (len:∀vs H Q E,sp vs H Q E->⇑vs=⇑ps)
  (hbody:∀(cdv:vy) (A:vC) (outer:List Env) (s:vz) (H:Hp) (vs:List V) (Q:VK) (E:XK),fP k (A.deeper (envOfC qual (aT st) ↑s f cdv))->sp vs H Q E->
   ∃t,EV (ku (JS P w) P w K mg base N qual (aT st) f cdv A outer s H E) (cA st) t/\t {nx:=λ_ H'=>Q .bP H',rt:=Q} (start N vs) H):dB P w K mg base (JS P w) (k+1) f fd ps sp:=by
 let⟨oc,od,kV,doc,pm,an,cdv,ct,osl,rfl,lk,hcd⟩:=F.ex;exact Sw lk hcd S len λA outer s H vs Q E hr hsp=>hbody cdv A outer s H vs Q E hr hsp
end
abbrev Cx.held (X:Cx) (e:vy):Cx:={X with A:=X.A.mark (some e),calm:=false}
theorem Cx.Ok.held {X:Cx} (ok:X.Ok) (e:vy):(X.held e).Ok:=
 {ok.mod,ok.kind,ok.glob,ok.blt,ok.above,ok.inj,ok.has,ok.Us,λz=>(nomatch (show false=true from z)),ok.frames,ok.UE,ok.VZ,ok.bs,ok.N6,ok.vQ,ok.KR,ok.oU,ok.IY}
def Cx.Ok.lj {X:Cx} {e:vy} (ok:(X.held e).Ok) (hd:X.calm=true->X.A.handled=none):X.Ok:=
 {(ok.mod),ok.kind,ok.glob,ok.blt,ok.above,ok.inj,ok.has,ok.Us,hd,ok.frames,ok.UE,ok.VZ,ok.bs,ok.N6,ok.vQ,ok.KR,ok.oU,ok.IY}
section
variable {X:Cx} {pins:List (vE×Obj)} {U:St} {H:Hp} {s:vz} {e:vy}
theorem Inv.held (I:Inv X pins U H s) (e:vy):Inv (X.held e) pins U H s:={I.ok.held e,I.os,I.bare,I.base,I.loc,I.cell,I.free,I.j8,I.pin,I.b9,I.len}
theorem Inv.lj (I:Inv (X.held e) pins U H s) (hd:X.calm=true->X.A.handled=none):Inv X pins U H s:={I.ok.lj hd,I.os,I.bare,I.base,I.loc,I.cell,I.free,I.j8,I.pin,I.b9,I.len}
theorem SP.lj (hd:X.calm=true->X.A.handled=none) (h:SP (X.held e) pins D f s'):SP X pins D f s':=by
 cases f with
 | next=>let⟨U',H',I,q⟩:=h;exact{U',H',I.lj hd,q}
 | brk=>let⟨U',H',I,q⟩:=h;exact{U',H',I.lj hd,q}
 | cont=>let⟨U',H',I,q⟩:=h;exact{U',H',I.lj hd,q}
 | ret u=>let⟨v,U',H',I,r,q⟩:=h;exact{v,U',H',I.lj hd,r,q}
end
def UX (i:Nat) (sp:Sp) (t:TA) (C:vE) (th:TS):TS:=λD U H=>t U H λvs H1=>sp vs H1 (λv H2=>bW i v U H2 D.nx) λcls _ H2=>cls=.ref C/\th D U H2
section
variable {X:Cx} {k:Nat} {f:vE} {fd:vD} {ps:List Str} {sp:Sp} {fx cn x:Str} {p pos cpos pa tpos np hpos:Pos} {e₀:Expr} {es:List Expr} {t:TA} {i:Nat} {C:vE} {bm:List vy} {newId:String} {b₀:Stmt} {suite:List Stmt} {th:TS}
def Ri (F:dB X.prog X.w X.K X.mg X.base (JS X.prog X.w) k f fd ps sp) (hr:fP k X.A) (hg:Gl X fx) (hm:X.mg fx=some (.ref f)) (hk:PySem.W.keepIn X.K (.ref f)=true) (hb:Binds X.K fd ps []) (ha:PA X.Kz (e₀::es) t)
  (hc:X.calm=true) (hN:X.N.Nodup) (hi:X.N[i]?=some x) (hx:Loc X.env.scope x) (hgc:Gl X cn) (hC0:PySem.W.nsIn X.K mainGlobals cn=some (some (.ref C))) (hQ0:PySem.W.excIn X.K C bm newId=true) (hbase:bm.contains (.type "BaseException")=true) (hstk:X.stack=X.env::X.outer) (hfrm:X.env.frame=some X.env.locals)
  (hsu:∀e,EV (X.held e).Kz (b₀::suite) th)
  (hdb:(fx == ("__debug__": Str))=false<|>qb_) (hdc:(cn == ("__debug__": Str))=false<|>qb_) (he:starEach (e₀::es) X.env=(false,eval e₀ X.env)::starEach es X.env<|>qe_) (hpl:(backTo cpos (starEach es X.env)).any (·.1)=false<|>qe_)
  (hs:swapsWith (.Call (.Name fx p) (e₀::es) [] cpos) (some (.Name x tpos)) pa.line X.env=pure false<|>qe_) (hf:X.fn x=true\/X.env.scope.names.lookup x=some .local<|>qa_) :
  PS X (.Try [.Assign [.Name x tpos] (.Call (.Name fx p) (e₀::es) [] cpos) pa] [.ExceptHandler (some (.Name cn np)) none (b₀::suite) hpos] [] [] pos) (UX i sp t C th):=by
 intro pins s U H D I h;let O:OwnCls cn C bm newId X.mg X.base:=pQ X.prog I.ok.mod hC0 hQ0;refine wpAny_Try_except (wpAny_execs_cons ?_);refine wpAny_Assign_Name ?_ hs;refine xt (jY I hg hm ?_ hdb);let hA:wpAny (model X.prog X.w) X.A (spliced (backTo cpos (starEach (e₀::es) X.env))) (AP X.Kz pins U _) (λ_ _=>False) s:=ha cpos pins s U H _ (I.qB _) h;refine vk (h₀:=X.base) I.ok.mod.TZ hk (xg hA (λus s1 z0=>?_) λ_ _ z=>z.elim) he hpl;let⟨vs,H1,I1',r,q⟩:=z0;refine{I1'.rF,?_};let I1:Inv X pins U H1 s1:=I1'.hJ;let hl:⇑us=⇑ps:=by rw[<-⇑r];exact F.len _ _ _ _ q
 refine wpAny_call (xU (F.run X.A X.stack s1 H1 {us,[]} us vs _ _ hr I1.RN (by have:=hb s1 us I1.rF (by rw[zV];exact hl);rw[zV] at this;exact this) r q) λrr s' hq=>?_);cases rr with
 | ok fl=>
  cases fl with
  | ret u=>
   let⟨v,H2,I2,r2,q2⟩:=I1.after hq;refine nc I2 hN hi hx r2 (λs2 I3=>?_) hf;exact wy (wy {_,H2,I3,q2})
  | next=>exact False.elim hq
  | brk=>exact False.elim hq
  | cont=>exact False.elim hq
 | error ev=>
  let⟨a,cls,a0,B,H',rfl,os,bare,fl,fly,⟨rfl,q2⟩⟩:=hq;let IY:∀b∈o7 X.stack,H1 b=none:=I1.qG;let nf:∀{hh:vF},Heap.FunFrames hh B X.stack->∀b∈o7 X.stack,∃o,hh.get? b=some o/\∀vs,o.data≠.fields vs:=λhF b hb=>(hF.mem hb).2;let back:∀(hh:vF),N9 X.prog X.w (o7 X.stack) H1 H' s1.heap B hh->Inv X pins U H' {s' with heap:=hh}:=λhh fy=>
   I1.Qp (s':={s' with heap:=hh}) (ch:=[]) os (fy.un IY) (fy.b9.kept fy.lz) bare λb z=>absurd z (by simp)
  let hfr:X.A.frames=some (X.env::X.outer):=by rw[<-hstk];exact I1.ok.frames
  refine wpAny_looks_onW hfr hfrm (by rw[<-hstk];exact fl) λh4 held4 up4=>?_;refine wpAny_landsW held4 λh5 fl5 up5=>?_;let fl5':Heap.FlyingW B X.stack a (.ref C) a0 h5:=by rw[hstk];exact fl5
  let fy5:N9 X.prog X.w (o7 X.stack) H1 H' s1.heap B h5:=fly.on (up4.trans up5) fl5.1 (nf fl.2.2.1);let I5:=back h5 fy5;let⟨ob,hob,hobc⟩:=fl5'.there;let⟨tl,Nn,nm,qn,bs,hdct,sn,sub,ab,col,dd,k0,k1,k2,k3,k5,mN,hC,hN',hni,T⟩:=O.obj;refine wpAny_handleBy_cons (codeAny_handlers_test (jY (X:=X.held (.ref a)) (I5.held _) hgc O.bound ?_ hdc)) (by intro q;cases q);refine wpAny_excMatches_sub_self (I5.bk _ _ hC) hob hobc (T.hasType hbase) (codeAny_handlers_suite ?_);refine lands_againW fl5' λh6 fl6 up6=>?_;let fy6:N9 X.prog X.w (o7 X.stack) H1 H' s1.heap B h6:=fy5.on up6 fl6.1 (nf fl5'.2.2.1);let I6:=back h6 fy6;refine xg (hsu (.ref a) pins _ U H' D ((I6.held _).qB _) q2) (λfl s7 z=>?_) λ_ _ z=>z.elim;exact SP.lj I.ok.hd (SP.hJ z)
end
section
variable {X:Cx}
def OC {zs:List Str} {its:List vy} (r:Vals (zs.map V.str) its) {j:Nat} (h:j<⇑its):∃z t,zs[j]?=some z/\its[j]=.str z t:=by
 let hl:⇑zs=⇑its:=by have:=⇑r;rw[za] at this;exact this
 let⟨u,hu,ru⟩:=r.get (i:=j) (x:=.str (zs[j]'())) (by rw[zK,zd ()];rfl);let⟨t,rfl⟩:=ru;rw[zd h] at hu;exact{_,t,zd (),yk hu}
end
section
variable {K:yB} {D x:vE} {prog:vA} {w:vB} {A:vC} {E:vy->vz->Prop} {h:vF} {g:Array GenState} {d:Drawn} {t:Nat} {os:OsState}
open Builtin Builtin.ObjectAttr Builtin.Getset_descriptor in
end
section
variable {X:Cx}
end
def cC.here (x:cC P w H h a o):∃ob,h.get? a=some ob:=by
 cases o with
 | lst xs=>let⟨_,_,_,_,e⟩:=x;exact{_,e}
 | tup xs=>let⟨_,_,_,o,e,_⟩:=x;exact{_,e}
 | dK kvs=>let⟨_,_,_,_,o,_,_,e,_⟩:=x;exact{_,e}
 | dT kvs=>let⟨_,_,_,_,o,_,_,e,_⟩:=x;exact{_,e}
 | set S n=>let⟨o,_,_,_,e,_⟩:=x;exact{_,e}
 | ins C dx fs=>let⟨_,_,_,e,_⟩:=x;exact{_,e}
 | own y=>exact x
 | xd fs=>let⟨_,⟨_,_,_,e,_⟩,_⟩:=x;exact{_,e}
 | MR lo hi=>let⟨_,_,_,e⟩:=x;exact{_,e}
 | mV ob u=>let⟨e,_⟩:=x;exact{_,e}
 | Ot ps=>exact{_,x}
 | met f y=>exact{_,x}
 | ext φ=>exact x.2.1
section
variable {X:Cx} {pins:List (vE×Obj)} {U:St} {H:Hp} {s:vz}
def Inv.US (I:Inv X pins U H s) (hn:H a=none) (h0:X.s₀.heap.get? a=none) (hl:a≠X.env.locals) (hc:∀x c,X.env.cells.lookup x=some c->c≠a) (hp:∀p∈X.pn++pins,p.1≠a)
  (new:cC X.prog X.w (upd H a o) s.heap a o):Inv X pins U (upd H a o) s where
 ok:=I.ok
 os:=I.os
 bare:=I.bare
 base:={I.base.keep,I.base.slot,λb ob e n hx=>by rw[aC (λz=>by rw[z,h0] at e;cases e)];exact I.base.free b ob e n hx,I.base.there,
  λb xs e=>by have:=I.base.oO b xs e;rw[aC (bA this hn)];exact this,λb ob u e=>by have:=I.base.mU b ob u e;rw[aC (bA this hn)];exact this,
  λb ps e=>by let⟨m,e1⟩:=I.base.oP b ps e;exact{m,by rw[aC (bA e1 hn)];exact e1}}
 loc:=I.loc
 cell:=I.cell
 free:=by rw[aC (Ne.symm hl)];exact I.free
 j8:=λx c e=>by rw[aC (hc x c e)];exact I.j8 x c e
 pin:=λp hpp=>by let⟨e,n,ne,nf,d⟩:=I.pin p hpp;exact{e,by rw[aC (hp p hpp)];exact n,ne,nf,d}
 b9:=λb u e=>by
  by_cases hb:b=a
  ·subst hb
   rw[aB] at e;cases e;exact new
  ·rw[aC hb] at e
   refine(I.b9 b u e).lz (λ_ _ _ q=>q) (λc q=>?_) λc xs q=>?_
   ·rw[aC (bA q hn)];exact q
   ·rw[aC (bA q hn)];exact q
 len:=I.len
end
section
variable {X:Cx} {k:Nat} {f:vE} {fd:vD} {ps:List Str} {sp:Sp} {fx cn n x:Str} {p pos cpos pa tpos np hpos:Pos} {e₀:Expr} {es:List Expr} {t:TA} {i j:Nat} {C S:vE} {bm bmS:List vy} {newId newIdS:String} {b₀:Stmt} {suite:List Stmt} {th:TS}
end
end L2
namespace L2
open PySem PySem.Spec PyProof.Rows
section
variable {κ:Type} [DecidableEq κ]
noncomputable def cS (kvs:List (κ×V)) (k:κ):Option V:=(kvs.find? λkv=>decide (kv.1=k)).map (·.2)
noncomputable def putK (kvs:List (κ×V)) (k:κ) (v:V):List (κ×V):=
 if(kvs.any λkv=>decide (kv.1=k))=true then kvs.map (λkv=>if kv.1=k then(kv.1,v) else kv) else kvs++[(k,v)]
def Hf {k:κ}:cS ([]:List (κ×V)) k=none:=rfl
def eC {p:κ×V} {r:List (κ×V)} {k:κ} (e:p.1=k):cS (p::r) k=some p.2:=by simp[cS,yT,e]
def eD {p:κ×V} {r:List (κ×V)} {k:κ} (e:¬p.1=k):cS (p::r) k=cS r k:=by simp[cS,yT,e]
theorem m7 (k:κ):∀kvs:List (κ×V),(kvs.any λkv=>decide (kv.1=k))=(cS kvs k).isSome
 | []=>rfl
 | p::r=>by
  rw[xu]
  by_cases e:p.1=k
  ·simp only[eC e,zg e,Bool.true_or,Option.isSome_some]
  ·rw[eD e,ze e,Bool.false_or];exact m7 k r
theorem Hg (k j:κ) (y:V):∀kvs:List (κ×V),cS (kvs.map λkv=>if kv.1=k then(kv.1,y) else kv) j=(cS kvs j).map λx=>if j=k then y else x
 | []=>rfl
 | p::r=>by
  let ih:=Hg k j y r;rw[zj]
  by_cases h:p.1=k
  ·rw[yO h]
   by_cases e:p.1=j
   ·rw[eC (p:=(p.1,y)) e,eC e,xo,yO (e.symm.trans h)]
   ·rw[eD (p:=(p.1,y)) e,eD e,ih]
  ·rw[yN h]
   by_cases e:p.1=j
   ·rw[eC (p:=p) e,eC e,xo,yN (λz=>h (e.trans z))]
   ·rw[eD (p:=p) e,eD e,ih]
theorem Ef (k j:κ) (y:V):∀kvs:List (κ×V),cS kvs k=none->cS (kvs++[(k,y)]) j=if j=k then some y else cS kvs j
 | [],_=>by
  by_cases e:k=j
  ·rw[yO e.symm];exact eC (p:=(k,y)) e
  ·rw[yN (λz=>e z.symm)];exact eD (p:=(k,y)) e
 | p::r,hn=>by
  rw[wU];let hk:¬p.1=k:=λz=>by rw[eC z] at hn;cases hn
  rw[eD hk] at hn;let ih:=Ef k j y r hn
  by_cases e:p.1=j
  ·rw[eC e,eC e,yN (λz=>hk (e.trans z))]
  ·rw[eD e,eD e,ih]
def qE (kvs:List (κ×V)) (k j:κ) (y:V):cS (putK kvs k y) j=if j=k then some y else cS kvs j:=by
 unfold putK
 by_cases a:(kvs.any λkv=>decide (kv.1=k))=true
 ·rw[yO a,Hg]
  rw[m7] at a
  by_cases e:j=k
  ·let⟨x,hx⟩:=Option.isSome_iff_exists.mp a
   rw[yO e,e,hx,xo,yO rfl]
  ·rw[yN e]
   cases cS kvs j with
   | none=>rfl
   | some x=>rw[xo,yN e]
 ·rw[yN a]
  refine Ef k j y kvs ?_;rw[m7] at a;cases q:cS kvs k with
  | none=>rfl
  | some x=>rw[q] at a;exact(a rfl).elim
def gY (kvs:List (κ×V)) (k:κ) (v:V):⇑(putK kvs k v)<=⇑kvs+1:=by
 unfold putK;split
 ·rw[za];ext
 ·rw[zh,zv,xq];ext
def O3 {kvs:List (κ×V)} {k:κ} (v:V) (h:cS kvs k=none):putK kvs k v=kvs++[(k,v)]:=by
 unfold putK;rw[m7,h];exact yN ∅
def mf.kP (r:mf o u):o.isSome=u.isSome:=by
 cases o with
 | none=>cases u with
  | none=>rfl
  | some _=>exact(show False from r).elim
 | some _=>cases u with
  | none=>exact(show False from r).elim
  | some _=>rfl
theorem mf.getD (r:mf o u) (rd:RelV d d'):RelV (o.getD d) (u.getD d'):=by
 cases o with
 | none=>cases u with
  | none=>exact rd
  | some _=>exact(show False from r).elim
 | some _=>cases u with
  | none=>exact(show False from r).elim
  | some _=>exact r
def KV.val {kvs:List (κ×V)} {vs:List (κ×vy)} (r:KV kvs vs) (k:κ):mf (cS kvs k) (valueAt vs k):=by
 unfold KV at r
 induction r with
 | nil=>exact True.intro
 | @cons p q ps qs h t ih=>
  let⟨h1,h2⟩:=h
  by_cases e:p.1=k
  ·let e':q.1=k:=h1.symm.trans e
   let b:valueAt (q::qs) k=some q.2:=by simp[valueAt,yT,e']
   rw[eC e,b];exact h2
  ·let e':¬q.1=k:=λz=>e (h1.trans z)
   let b:valueAt (q::qs) k=valueAt qs k:=by simp[valueAt,yT,e']
   rw[eD e,b];exact ih
theorem KV.any (r:KV kvs vs) (k:κ):(kvs.any λkv=>decide (kv.1=k))=vs.any λkv=>decide (kv.1=k):=by
 unfold KV at r
 induction r with
 | nil=>rfl
 | cons h t ih=>rw[xu,xu,ih,h.1]
def KV.Tp (r:KV kvs vs) (k:κ) (ry:RelV y u) :
  KV (kvs.map λkv=>if kv.1=k then(kv.1,y) else kv) (vs.map λkv=>if kv.1=k then(kv.1,u) else kv):=by
 unfold KV at r ⊢
 induction r with
 | nil=>exact .nil
 | @cons p q ps qs h t ih=>
  rw[zj,zj];refine .cons ?_ ih;let⟨h1,h2⟩:=h
  by_cases e:p.1=k
  ·rw[yO e,yO (h1.symm.trans e)];exact{(h1),ry}
  ·rw[yN e,yN (λz=>e (h1.trans z))];exact{(h1),h2}
def KV.put (r:KV kvs vs) (k:κ) (ry:RelV y u):KV (putK kvs k y) (stored vs k u):=by
 unfold putK stored;rw[r.any k]
 by_cases e:(vs.any λkv=>decide (kv.1=k))=true
 ·rw[yO e,yO e];exact r.Tp k ry
 ·rw[yN e,yN e];exact Paired.snoc r {(rfl),ry}
theorem KV.length (r:KV kvs vs):⇑kvs=⇑vs:=x6 r
end
def Ew (r:RelV (kV k) u):(dg P w).is k u=true:=by
 cases k with
 | inl i=>let⟨t,e⟩:=(show∃t,u=Value.int i t from r);subst e;exact IQ P w i t
 | inr x=>let⟨t,e⟩:=(show∃t,u=Value.str x t from r);subst e;exact uB P w x t
theorem Ex:∀{ks:List Key} {us:List vy},Vals (ks.map kV) us->ItemsAre (dg P w) ks us
 | [],_,r=>by rw[yn] at r;cases r;exact .nil
 | k::ks,_,r=>by
  rw[zj] at r;cases r with
  | cons h t=>exact .cons (Ew h) (Ex t)
abbrev KT (H:Hp):List (List Key×V)->List (List Key×vE×vy)->Prop:=Paired λp q=>p.1=q.1/\H q.2.1=some (.tup (p.1.map kV))/\RelV p.2 q.2.2
def KT.val {H:Hp} {kvs:List (List Key×V)} {xs:List (List Key×vE×vy)} (r:KT H kvs xs) (k:List Key):mf (cS kvs k) ((atKey xs k).map (·.2)):=by
 induction r with
 | nil=>exact True.intro
 | @cons p q ps qs h t ih=>
  let⟨h1,_,h2⟩:=h
  by_cases e:p.1=k
  ·let e':q.1=k:=h1.symm.trans e
   let b:atKey (q::qs) k=some q.2:=by simp[atKey,yT,e']
   rw[eC e,b];exact h2
  ·let e':¬q.1=k:=λz=>e (h1.trans z)
   let b:atKey (q::qs) k=atKey qs k:=by simp[atKey,yT,e']
   rw[eD e,b];exact ih
def KT.Tp (r:KT H kvs xs) (k:List Key) (ry:RelV y u) :
  KT H (kvs.map λkv=>if kv.1=k then(kv.1,y) else kv) (xs.map (putAt k u)):=by
 induction r with
 | nil=>exact .nil
 | @cons p q ps qs h t ih=>
  rw[zj,zj];refine .cons ?_ ih;let⟨h1,h2,h3⟩:=h;unfold putAt
  by_cases e:p.1=k
  ·rw[yO e,yO (h1.symm.trans e)];exact{(h1),h2,ry}
  ·rw[yN e,yN (λz=>e (h1.trans z))];exact{(h1),h2,h3}
def KT.put (r:KT H kvs xs) (k:List Key) (hb:H b=some (.tup (k.map kV))) (ry:RelV y u) :
  KT H (putK kvs k y) (storedH xs k b u):=by
 let e:(kvs.any λkv=>decide (kv.1=k))=(atKey xs k).isSome:=by
  rw[m7,(r.val k).kP,Option.isSome_map]
 unfold putK storedH;rw[e]
 by_cases q:(atKey xs k).isSome=true
 ·rw[yO q,yO q];exact r.Tp k ry
 ·rw[yN q,yN q];exact Paired.snoc r {(rfl),hb,ry}
def KT.keeps (r:KT H kvs xs) (ht:∀b ys,H b=some (.tup ys)->H' b=some (.tup ys)):KT H' kvs xs:=
 Paired.TV r λ_ _ z=>{z.1,ht _ _ z.2.1,z.2.2}
section
variable {P:vA} {w:vB} {H:Hp} {h:vF} {a:vE}
def Sh (ok:qt P w H h) (e:Rd H a u):cC P w H h a u:=e.ok ok
def uI (ok:qt P w H h) (e:Rd H a (.dK kvs)):⇑kvs<=sizeLine/\(a == sysModules)=false/\∃vs,KV kvs vs/\h.DictOf (dg P w) a vs:=
 show cC P w H h a (.dK kvs) from Sh ok e
def VC (ok:qt P w H h) (e:H a=some (.dK kvs)):⇑kvs<=sizeLine/\(a == sysModules)=false/\∃vs,KV kvs vs/\h.DictOf (dg P w) a vs:=uI ok (.inl e)
def tN (ok:qt P w H h) (e:H a=some (.tup (ks.map kV))):(tupleKind (dg P w)).is h ks a:=by
 let⟨_,its,r,o,h1,h2,n,h3⟩:=(show cC P w H h a (.tup (ks.map kV)) from ok a _ e)
 exact{o,its.toArray,n,h1,h2,h3,by simpa using Ex r}
def BU (ok:qt P w H h) (e:Rd H a (.dT kvs)):⇑kvs<=sizeLine/\(a == sysModules)=false/\
  ∃xs,KT H kvs xs/\h.DictOfH (tupleKind (dg P w)) a xs:=by
 let⟨z,y,xs,r,o,es,ep,h1,h2,h3,h4,h5⟩:=(show cC P w H h a (.dT kvs) from Sh ok e)
 refine{z,y,xs,r,o,es,ep,h1,h2,h3,h4,λx hx=>?_,h5};let all:∀{l:List (List Key×V)} {m:List (List Key×vE×vy)},KT H l m->∀x∈m,(tupleKind (dg P w)).is h x.1 x.2.1:=by
  intro l m q
  induction q with
  | nil=>intro x hx;exact nomatch hx
  | @cons p q ps qs hq t ih=>
   intro x hx;rcases zD.mp hx with e | hx
   ·subst e
    exact tN ok (by rw[<-hq.1];exact hq.2.1)
   ·exact ih x hx
 exact all r x hx
def VB (ok:qt P w H h) (e:H a=some (.dT kvs)):⇑kvs<=sizeLine/\(a == sysModules)=false/\
  ∃xs,KT H kvs xs/\h.DictOfH (tupleKind (dg P w)) a xs:=BU ok (.inl e)
end
def GZ (H:Hp) (a:vE) (y:V) (r:Option V):Prop:=
 (∃kvs k,Rd H a (.dK kvs)/\y=kV k/\r=cS kvs k)\/∃kvs k b,Rd H a (.dT kvs)/\y=.ref b/\H b=some (.tup (k.map kV))/\r=cS kvs k
def VO (H:Hp) (a:vE) (y v:V) (H':Hp):Prop:=
 (∃kvs k,H a=some (.dK kvs)/\y=kV k/\⇑kvs<sizeLine/\H'=upd H a (.dK (putK kvs k v)))\/
 ∃kvs k b,H a=some (.dT kvs)/\y=.ref b/\H b=some (.tup (k.map kV))/\⇑kvs<sizeLine/\H'=upd H a (.dT (putK kvs k v))
section
variable {X:Cx} {pins:List (vE×Obj)} {U:St} {H:Hp} {s:vz} {a:vE} {y v:V} {u r:vy} {o:Option V} {A:vC} {E:vy->vz->Prop}
def Inv.big (I:Inv X pins U H s):sysModules<↑s:=by
 let h:mainGlobals<↑s:=(I.mod.glob.keeps I.bk).lt;exact xH ∅ h
def NA (hu:A.units+1<cLine) (I:Inv X pins U H s) (g:GZ H a y (some v)) (ry:RelV y u) (h:∀w' s',Inv X pins U H s'->RelV v w'->Q w' s') :
  wpAny (model X.prog X.w) A (getItem (.ref a) u) Q E s:=by
 rcases g with⟨kvs,k,e,ey,l⟩ | ⟨kvs,k,b,e,ey,eb,l⟩
 ·subst ey
  let⟨z,hd,vs,rel,dd⟩:=uI I.b9 e;let⟨w',hw,rw'⟩:=mf.some_of (v:=v) (o:=valueAt vs k) (by rw[l];exact rel.val k);exact wpAny_getItem_of (Ew ry) dd.mapOf hw (h w' _ (I.tok _) rw')
 ·subst ey
  cases(show u=Value.ref b from ry);let⟨z,hd,xs,rel,dd⟩:=BU I.b9 e;let⟨w',hw,rw'⟩:=mf.some_of (v:=v) (o:=(atKey xs k).map (·.2)) (by rw[l];exact rel.val k);let⟨p,hp,hp2⟩:=Option.map_eq_some_iff.mp hw;refine wpAny_getItem_heap (wC hu) (tN I.b9 eb) dd hp ?_;rw[hp2];exact h w' _ (I.tok _) rw'
def W4 (hu:A.units+1<cLine) (I:Inv X pins U H s) (g:GZ H a y o) (ry:RelV y u) (h:∀s',Inv X pins U H s'->Q (.bool o.isSome) s') :
  wpAny (model X.prog X.w) A (compareOp .In u (.ref a)) Q E s:=by
 rcases g with⟨kvs,k,e,ey,l⟩ | ⟨kvs,k,b,e,ey,eb,l⟩
 ·subst ey
  let⟨z,hd,vs,rel,dd⟩:=uI I.b9 e;refine wpAny_in_of (Ew ry) hd dd.mapOf ?_;rw[<-(rel.val k).kP,<-l];exact h _ (I.tok _)
 ·subst ey
  cases(show u=Value.ref b from ry);let⟨z,hd,xs,rel,dd⟩:=BU I.b9 e;refine wpAny_in_heap (wC hu) (tN I.b9 eb) hd dd ?_;let q:=(rel.val k).kP;rw[Option.isSome_map] at q;rw[<-q,<-l];exact h _ (I.tok _)
def RU (hu:A.units+1<cLine) (I:Inv X pins U H s) (g:GZ H a y o) (ry:RelV y u) (h:∀s',Inv X pins U H s'->Q (.bool (!o.isSome)) s') :
  wpAny (model X.prog X.w) A (compareOp .NotIn u (.ref a)) Q E s:=by
 rcases g with⟨kvs,k,e,ey,l⟩ | ⟨kvs,k,b,e,ey,eb,l⟩
 ·subst ey
  let⟨z,hd,vs,rel,dd⟩:=uI I.b9 e;refine wpAny_notIn_of (Ew ry) hd dd.mapOf ?_;rw[<-(rel.val k).kP,<-l];exact h _ (I.tok _)
 ·subst ey
  cases(show u=Value.ref b from ry);let⟨z,hd,xs,rel,dd⟩:=BU I.b9 e;refine wpAny_notIn_heap (wC hu) (tN I.b9 eb) hd dd ?_;let q:=(rel.val k).kP;rw[Option.isSome_map] at q;rw[<-q,<-l];exact h _ (I.tok _)
def Mf (I:Inv X pins U H s) (mu:VI (H a)) (hs:Heap.SameBut a s.heap h') (he:∃q,h'.get? a=some q) (new:cC X.prog X.w (upd H a ob) h' a ob) :
  Inv X pins U (upd H a ob) {s with heap:=h',toks:=t'}:=
 I.write (x:=a) (e:=a) mu (.inl rfl) (λb q hb z=>(hs.2 b hb).trans z) he new
def Uq (z:⇑kvs<=sizeLine) (hd:(a == sysModules)=false) (rel:KV kvs vs) (dd:h'.DictOf (dg P w) a vs) :
  cC P w H' h' a (.dK kvs):={(z),hd,vs,rel,dd}
def Nz (hu:A.units+1<cLine) (I:Inv X pins U H s) (g:VO H a y v H') (ry:RelV y u) (rv:RelV v r) (h:∀s',Inv X pins U H' s'->Q .unit s') :
  wpAny (model X.prog X.w) A (setItem (.ref a) u r) Q E s:=by
 rcases g with⟨kvs,k,e,ey,l,eH⟩ | ⟨kvs,k,b,e,ey,eb,l,eH⟩
 ·subst ey eH
  let⟨z,hd,vs,rel,dd⟩:=VC I.b9 e;let hz:⇑vs<=sizeLine:=by rw[<-⇑rel];exact z
  let hl:⇑(putK kvs k v)<=sizeLine:=by have:=gY kvs k v;ext
  refine wpAny_setItem_pairs (hsz:=hz) (Ew ry) dd λh' dd' hs=>h _ ?_;let he:∃q,h'.get? a=some q:=let ⟨q,_,_,hq,_⟩:=dd';{(q),hq};exact Mf I (by rw[e];exact True.intro) hs he (Uq hl hd (rel.put k rv) dd')
 ·subst ey eH
  cases(show u=Value.ref b from ry);let⟨z,hd,xs,rel,dd⟩:=VB I.b9 e;let hz:⇑xs<=sizeLine:=by rw[<-x6 rel];exact z
  let hl:⇑(putK kvs k v)<=sizeLine:=by have:=gY kvs k v;ext
  refine wpAny_setItem_heap (hsz:=hz) (wC hu) (tN I.b9 eb) dd λh' dd' hs=>h _ ?_;let⟨q,es,ep,hq,h2,h3,h4,_,h5⟩:=dd';refine Mf I (by rw[e];exact True.intro) hs ⟨q,hq⟩ ⟨hl,hd,_,(rel.put k eb rv).keeps λc ys ec=>?_,q,es,ep,hq,h2,h3,h4,h5⟩;rw[aC (bq ec e (λz=>nomatch z))];exact ec
end
section
variable {X:Cx} {pins:List (vE×Obj)} {U:St} {H:Hp} {s:vz} {a:vE} {kvs:List (Key×V)} {k:Key} {u:vy} {A:vC} {E:vy->vz->Prop}
def VE (I:Inv X pins U H s) (e:Rd H a (.dK kvs)) (h:∀t s',Inv X pins U H s'->Q (.int ⇑kvs t) s'):wpAny (model X.prog X.w) A (call (.builtin "len") [.ref a]) Q E s:=by
 let⟨z,hd,vs,rel,dd⟩:=uI I.b9 e;refine call_len_dict hd dd (by rw[<-⇑rel];rw[yC] at z;ext) ?_;rw[<-⇑rel];exact h _ _ (I.tok _)
end
def Uz (i:Expr):Prop:=∀ov iv,subscripted i false ov iv=operate [ov,iv] (getItem ov iv)
def LK {prog:vA} {w:vB} {A:vC} {E:vy->vz->Prop} {s:vz} {env:Env} {value slice:Expr} {pos:Pos} {T id:String} {Q:vy->vz->Prop}
  (hl:typeLookup (.type T) "__getitem__"= pure (some (.builtin id))) (hs:Uz slice)
  (h:wpAny (model prog w) A (eval value env) (λo s₁=>wpAny (model prog w) A (eval slice env) (λi s₂=>s₂.TypeIs o T/\wpAny (model prog w) A (getItem o i) Q E s₂) E s₁) E s) :
  wpAny (model prog w) A (eval (.Subscript value slice pos) env) Q E s:=by
 refine Subscript_ (xg h (λo s₁ h₁=>xg h₁ (λi s₂ h₂=>?_) λ_ _ x=>x) λ_ _ x=>x);let⟨hT,h₂⟩:=h₂;unfold subscriptTail;refine yu ?_;rw[getitemInPython_of_ne hT.not_modules];refine yu (wpAny_specialOf hT hl ?_);let fin:wpAny (model prog w) A (subscripted slice false o i) (λr s₃=>wpAny (model prog w) A (letTemporaryGo value o r >>= λ_=>pure r) Q E s₃) E s₂:=by
  rw[hs o i];exact wpAny_operating (xg h₂ (λr s₃ h₃=>yu (wpAny_letTemporaryGo (yw h₃))) λ_ _ x=>x)
 first
  | exact yw (yu fin)
  | exact yu (yw (yu fin))
  | exact yu fin
def Ji (I:Inv X pins U H s) (g:GZ H a y o):s.TypeIs (.ref a) "dict":=by
 rcases g with⟨kvs,k,e,_,_⟩ | ⟨kvs,k,b,e,_,_,_⟩
 ·let⟨_,_,vs,_,dd⟩:=uI I.b9 e
  exact dd.typeIs
 ·let⟨_,_,xs,_,dd⟩:=BU I.b9 e
  exact dd.typeIs
def U2 (td ty:TE):TE:=λU H Q=>td U H λx H1=>ty U H1 λy H2=>∃a v,x=.ref a/\GZ H2 a y (some v)/\Q v H2
def WB (ty td:TE):TE:=λU H Q=>ty U H λy H1=>td U H1 λx H2=>∃a o,x=.ref a/\GZ H2 a y o/\Q (.bl o.isSome) H2
def QX (ty td:TE):TE:=λU H Q=>ty U H λy H1=>td U H1 λx H2=>∃a o,x=.ref a/\GZ H2 a y o/\Q (.bl (!o.isSome)) H2
def U8 (td ty tv:TE):TS:=λD U H=>tv U H λv H1=>td U H1 λx H2=>ty U H2 λy H3=>∃a H4,x=.ref a/\VO H3 a y v H4/\D.nx U H4
section
variable {X:Cx} {o i e value:Expr} {pos pos' tpos:Pos} {td ty tv:TE}
def Ao (hu:X.A.units+1<cLine) (ho:PE X o td) (hi:PE X i ty) (hs:Uz i):PE X (.Subscript o i pos) (U2 td ty):=by
 intro pins s U H Q I h;refine LK PySem.F.slot_dict_getitem.lookup hs (cX (ho pins s U H _ I h) λu s1 z0=>?_);let⟨x,H1,I1,rx,q1⟩:=z0;refine cX (hi pins s1 U H1 _ I1 q1) λiv s2 z1=>?_;let⟨y,H2,I2,ry,a,v,ex,g,q2⟩:=z1;subst ex;obtain rfl:u=Value.ref a:=rx;exact{Ji I2 g,NA hu I2 g ry λw' s3 I3 rw'=>{(v),H2,I3,rw',q2}}
def FE (hu:X.A.units+1<cLine) (hi:PE X i ty) (ho:PE X o td):PC X .In i o (WB ty td):=by
 intro pins s U H Q I h;refine cX (hi pins s U H _ I h) λiv s1 z0=>?_;let⟨y,H1,I1,ry,q1⟩:=z0;refine cX (ho pins s1 U H1 _ I1 q1) λu s2 z1=>?_;let⟨x,H2,I2,rx,a,ov,ex,g,q2⟩:=z1;subst ex;obtain rfl:u=Value.ref a:=rx;exact W4 hu I2 g ry λs3 I3=>{.bl ov.isSome,H2,I3,rfl,q2}
def tw (hu:X.A.units+1<cLine) (hi:PE X i ty) (ho:PE X o td):PC X .NotIn i o (QX ty td):=by
 intro pins s U H Q I h;refine cX (hi pins s U H _ I h) λiv s1 z0=>?_;let⟨y,H1,I1,ry,q1⟩:=z0;refine cX (ho pins s1 U H1 _ I1 q1) λu s2 z1=>?_;let⟨x,H2,I2,rx,a,ov,ex,g,q2⟩:=z1;subst ex;obtain rfl:u=Value.ref a:=rx;exact RU hu I2 g ry λs3 I3=>{.bl (!ov.isSome),H2,I3,rfl,q2}
def lM (hu:X.A.units+1<cLine) (ho:PE X o td) (hi:PE X i ty) (hv:PE X value tv) (hs:swapsWith value (some (.Subscript o i pos')) pos.line X.env=pure false) :
  PS X (.Assign [.Subscript o i pos'] value pos) (U8 td ty tv):=by
 intro pins s U H D I h;refine wpAny_Assign_Subscript (cX (hv pins s U H _ I h) λr s1 z0=>?_) hs;let⟨v,H1,I1,rv,q1⟩:=z0;refine cX (ho pins s1 U H1 _ I1 q1) λu s2 z1=>?_;let⟨x,H2,I2,rx,q2⟩:=z1;refine cX (hi pins s2 U H2 _ I2 q2) λiv s3 z2=>?_;let⟨y,H3,I3,ry,a,H4,ex,g,q3⟩:=z2;subst ex;obtain rfl:u=Value.ref a:=rx;exact Nz hu I3 g ry rv λs4 I4=>{U,H4,I4,q3}
end
def Qi (h:vF) (hb:sysModules<h.objs.size):cC P w H (h.push {cls:=.type "dict",data:=.dict #[]}) h.objs.size (.dK []):=
 {yg _,xG.mpr (Ne.symm (yj hb)),[],.nil,Heap.DictOf.new h}
def Qe (h:vF) (hb:sysModules<h.objs.size):cC P w H (h.push {cls:=.type "dict",data:=.dict #[]}) h.objs.size (.dT []):=
 {yg _,xG.mpr (Ne.symm (yj hb)),[],.nil,_,#[],0,yx _ rfl,{(rfl),rfl,rfl},rfl,rfl,wa}
def Ta:TE:=λ_ H Q=>∀p,H p=none->Q (.ref p) (upd H p (.dK []))
def S9:TE:=λ_ H Q=>∀p,H p=none->Q (.ref p) (upd H p (.dT []))
section
variable {X:Cx} {pos:Pos}
def kJ:PE X (.Dict [] [] pos) Ta:=λpins s U H Q I h=>
 wpAny_Dict_empty {.ref ↑s,_,I.laid (a:=↑s) (o:=.dK []) (t':=s.toks) (λ_ _ q=>yv _ q) (zm _) (Qi s.heap I.big),rfl,h _ (I.b9.fresh (zm _))}
def Pj:PE X (.Dict [] [] pos) S9:=λpins s U H Q I h=>
 wpAny_Dict_empty {.ref ↑s,_,I.laid (a:=↑s) (o:=.dT []) (t':=s.toks) (λ_ _ q=>yv _ q) (zm _) (Qe s.heap I.big),rfl,h _ (I.b9.fresh (zm _))}
end
structure M2 (X:Cx) (o:Expr) (m:Str) (apos:Pos) (e f:Expr) (cpos:Pos):Prop where
 base:attributeBase o m X.env (eval o X.env)=eval o X.env
 Xy:((backTo cpos (starEach [e,f] X.env)).all (λx=>!x.1)&&(backToKw cpos (keywordEach [] X.env)).all (λx=>x.1.isSome)
  &&decide (⇑([e,f]:List Expr)+⇑([]:List Keyword)+(if([]:List Keyword).isEmpty then 0 else 1)<30))=true
 line:(apos.endLine == cpos.line)=true
 trees:backTo cpos (starEach [e,f] X.env)=[(false,eval e X.env),(false,eval f X.env)]
def Xm (H:Hp) (a:vE):Prop:=(∃kvs,Rd H a (.dK kvs))\/∃kvs,Rd H a (.dT kvs)
def Ua (I:Inv X pins U H s) (d:Xm H a) :
  s.TypeIs (.ref a) "dict"/\(∀b,Value.ref a=.ref b->∃ob,s.heap.get? b=some ob/\ob.dict=none)/\(a == sysModules)=false:=by
 rcases d with⟨kvs,e⟩ | ⟨kvs,e⟩
 ·let⟨_,hd,vs,_,dd⟩:=uI I.b9 e
  refine{dd.typeIs,λb q=>?_,hd};cases q;let⟨ob,_,_,h1,h2,_⟩:=dd;exact{(ob),h1,h2.2.1}
 ·let⟨_,hd,xs,_,dd⟩:=BU I.b9 e
  refine{dd.typeIs,λb q=>?_,hd};cases q;let⟨ob,_,_,h1,h2,_⟩:=dd;exact{(ob),h1,h2.2.1}
section
variable {X:Cx} {pins:List (vE×Obj)} {U:St} {H:Hp} {s:vz} {a:vE} {y d:V} {u r:vy} {o:Option V} {A:vC} {E:vy->vz->Prop}
def Ur (hu:A.units+1<cLine) (I:Inv X pins U H s) (g:GZ H a y o) (ry:RelV y u) (rd:RelV d r) (h:∀w' s',Inv X pins U H s'->RelV (o.getD d) w'->Q w' s') :
  wpAny (model X.prog X.w) A (call (.builtin "dict.get") [.ref a,u,r]) Q E s:=by
 rcases g with⟨kvs,k,e,ey,l⟩ | ⟨kvs,k,b,e,ey,eb,l⟩
 ·subst ey
  let⟨z,hd,vs,rel,dd⟩:=uI I.b9 e;refine call_meetsIn PySem.F.slot_dict_get dd.typeIs PySem.F.entry_dict_get (PySem.F.args_dict_get_3 _ _ _) (meets_dict_get_default (dg X.prog X.w) a (Ew ry) hd r) {_,dd.mapOf,h _ _ (I.tok _) ?_};rw[l];exact(rel.val k).getD rd
 ·subst ey
  cases(show u=Value.ref b from ry);let⟨z,hd,xs,rel,dd⟩:=BU I.b9 e;refine call_meetsIn PySem.F.slot_dict_get dd.typeIs PySem.F.entry_dict_get (PySem.F.args_dict_get_3 _ _ _) (meetsH_dict_get_default (tupleKind (dg X.prog X.w)) a b hd r) {wC hu,k,xs,tN I.b9 eb,dd,h _ _ (I.tok _) ?_};rw[l];exact(rel.val k).getD rd
end
def Td (td ty tx:TE):TE:=λU H Q=>td U H λx H1=>∃a,x=.ref a/\Xm H1 a/\ty U H1 λy H2=>tx U H2 λz H3=>∃o,GZ H3 a y o/\Q (o.getD z) H3
section
variable {X:Cx} {o e f:Expr} {apos cpos:Pos} {td ty tx:TE}
def Io (hu:X.A.units+1<cLine) (ho:PE X o td) (he:PE X e ty) (hf:PE X f tx) (m:M2 X o "get" apos e f cpos):PE X (.Call (.Attribute o "get" apos) [e,f] [] cpos) (Td td ty tx):=by
 intro pins s U H Q I h;refine wpAny_Call_method m.base m.Xy m.line PySem.F.plainAttrs_dict PySem.F.slot_dict_get PySem.F.type_dict_get (cX (ho pins s U H _ I h) λu s1 z0=>?_);let⟨x,H1,I1,rx,a,ex,d,q1⟩:=z0;subst ex;obtain rfl:u=Value.ref a:=rx;let⟨t1,t2,_⟩:=Ua I1 d;refine{t1,t2,?_};rw[m.trees];refine wO rfl (Calls.evalArgs_plain (wF (cX (he pins s1 U H1 _ I1 q1) λiv s2 z0=>?_)));let⟨y,H2,I2,ry,q2⟩:=z0;refine wF (cX (hf pins s2 U H2 _ I2 q2) λfv s3 z1=>?_);let⟨z,H3,I3,rz,ov,g,q3⟩:=z1;refine vw ?_;exact Ur hu I3 g ry rz λw' s4 I4 rw'=>{_,H3,I4,rw',q3}
end
section
variable {X:Cx} {pins:List (vE×Obj)} {U:St} {H:Hp} {s:vz} {a:vE} {kvs:List (Key×V)} {A:vC} {E:vy->vz->Prop}
end
section
variable {X:Cx} {pins:List (vE×Obj)} {U:St} {H:Hp} {s:vz} {a:vE} {y:V} {u:vy} {A:vC} {E:vy->vz->Prop}
end
end L2
namespace L2
open PySem PySem.Spec PyProof.Rows
section
variable {κ:Type} [DecidableEq κ]
end
end L2
namespace L2
open PySem PySem.Spec PyProof.Rows
def cR (U₀:St) (g:TG) (tc:TT) (te:TE) (Q:VK) (J:It) (H1:Hp):Prop:=∃W:Nat->Nat->List V->St->Hp->Prop,(∃m,W 0 m [] U₀ H1)/\∀i m xs U' H',W i m xs U' H'->
 (J.stop i H'/\⇑xs<=sizeLine/\∀D,H' D=none->Q (.ref D) (upd H' D (.lst xs)))\/
 (J.go i H'/\⇑xs<sizeLine/\∀x H2,J.JV i H' x H2->g x U' H2 λσ3 H3=>tc σ3 H3 λb H4=>if b=true then te σ3 H4 λy H5=>∃m',m'<m/\W (i+1) m' (xs++[y]) σ3 H5 else∃m',m'<m/\W (i+1) m' xs σ3 H4)
noncomputable def cO (X:Cx) (N:List Str) (scope:Scope) (cl:List (Str×vE)) (C:vE) (s₀:vz) (H₀:Hp) (ex:List vE):Cx:=
 {X with N:=N,s₀:=s₀,H₀:=H₀,env:=compEnvC scope (cellsFrom (C+1) scope.names cl) C X.env,outer:=X.stack,stack:=X.stack,ex:=ex,fn:=λx=>((cellsFrom (C+1) scope.names []).lookup x).isSome,pn:=[],xe:=λ_ _=>False}
def m9 (fr:List (Option Nat)) (wi:TI) (g:TG) (tc:TT) (te:TE):TE:=λU H Q=>wi U H λJ H1=>cR (fr.map λo=>o.bind λj=>(U[j]?).join) g tc te Q J H1
def R4 (X:Cx) (ifs:List Expr) (tc:TT):Prop:=∀(pins:List (vE×Obj)) (s:vz) (U:St) (H:Hp) (Q:Bool->Hp->Prop),Inv X pins U H s->tc U H Q->
 wpAny (model X.prog X.w) X.A (forIn ifs true λc r=>if r=true then do let ok <-isTrue c X.env (eval c X.env);pure (ForInStep.yield ok) else pure (ForInStep.yield r)) (TP X pins U Q) X.xe s
def qF:TT:=λ_ H Q=>Q true H
def bx:R4 X [] qF:=λ_ _ _ H _ I h=>wpAny_tests_nil {(H),I,h}
def fW (h:PT X c tc):R4 X [c] tc:=λpins s U H Q I q=>wpAny_tests_one (h pins s U H Q I q)
theorem dj:∀(names:List (Str×NameKind)) (n:Nat) (acc:List (Str×vE)),cellsFrom n names acc=cellsFrom n names []++acc
 | [],_,_=>rfl
 | (x,k)::r,n,acc=>by
  unfold cellsFrom;split
  ·rw[dj r (n+1) ((x,n)::acc),dj r (n+1) [(x,n)],zF];rfl
  ·exact dj r n acc
def Rq {h:vF} {lo:Nat} {cs:List (Str×vE)} (ok:CellsOk h lo cs) {x y:Str} {c:vE} (e:cs.lookup x=some c) (e':cs.lookup y=some c):x=y:=by
 let key:∀(l:List (Str×vE)),l.Pairwise (λx y=>x.2≠y.2)->(x,c)∈l->(y,c)∈l->x=y:=by
  intro l
  induction l with
  | nil=>intro _ h;cases h
  | cons p r ih=>
   intro hp h1 h2;rw[xc] at hp;rcases zD.mp h1 with h1 | h1
   ·rcases zD.mp h2 with h2 | h2
    ·rw[<-h1] at h2;exact(Prod.mk.inj h2).1.symm
    ·exact absurd rfl (by have:=hp.1 _ h2;rw[<-h1] at this;exact this)
   ·rcases zD.mp h2 with h2 | h2
    ·exact absurd rfl (by have:=hp.1 _ h1;rw[<-h2] at this;exact this)
    ·exact ih hp.2 h1 h2
 exact key cs ok.apart (mem_of_lookup e) (mem_of_lookup e')
def FV
  (hQ:∀g1:vF,g1.Ns ↑s (λ_=>none)->(∀b o,s.heap.get? b=some o->g1.get? b=some o)->CellsOk g1 (↑s+1) (cellsFrom (↑s+1) scope.names [])->
   Q (newEnv scope ↑s globals (cellsFrom (↑s+1) scope.names cl) qual none .none (some outer) builtinsNs) {s with heap:=g1}) :
  wpAny M A (newFunctionEnv scope globals cl [] qual none .none (some outer)) Q E s:=by
 simp only[newFunctionEnv,Option.isSome_some,vg];refine yu (wpAny_alloc ?_);refine yu (wpAny_layCells _ (λname kind cells=>by cases hkc:kind == NameKind.cell <;> simp[hkc]) _ _ _ _ ?_);let ok:=cellsFrom_ok scope.names (s.heap.push {cls:=.type "dict",data:=.dict #[]}) (↑s+1) [] {λ_ _ hm=>(nomatch hm),List.Pairwise.nil} (by rw[xm];exact zm _);rw[xm] at ok;rw[show({s with heap:=s.heap.push {cls:=.type "dict",data:=.dict #[]}}:vz).heap.objs.size=↑s+1 from xm ..];exact yu (yw (yw (hQ _ ((Heap.Ns.new s.heap (.type "dict")).keeps (pushCells_keeps _ _)) (λb o e=>pushCells_keeps _ _ b o (yv _ e)) ok)))
def K7 (I:Nat->vz->Prop)
  (turn:∀n s,I n s->wpAny (model prog w) A (pyNext it) (λr s1=>match r with
   | none=>R (.ok .next) s1
   | some v=>wpAny (model prog w) A (letOwnedTupleGo target it v) (λ_ s2=>wpAny (model prog w) A (assign target env v) (λ_ s3=>
     wpAny (model prog w) A (forIn ifs true λc r=>if r=true then do let ok <-isTrue c env (eval c env);pure (ForInStep.yield ok) else pure (ForInStep.yield r)) (λok s3'=>if ok=true then wpAny (model prog w) A (eval elt env) (λx s4=>
     wpAny (model prog w) A (call (.builtin "list.append") [acc,x]) (λ_ s5=>∃m,m<n/\I m s5) (λ_ _=>False) s4) (λ_ _=>False) s3' else∃m,m<n/\I m s3') (λ_ _=>False) s3) (λ_ _=>False) s2) (λ_ _=>False) s1) (λ_ _=>False) s)
  (n:Nat) (h:I n s):codeAny (model prog w) A (.compLoop (.ListComp elt [{target,iter,ifs,0}] scope pos) 0 it acc env) R s:=by
 refine codeAny_loop rfl I (λn s hI=>?_) n h;show wpAny _ _ ((compTurn (.ListComp elt [{target,iter,ifs,0}] scope pos) 0 it acc env).onRaise (λx=>do noteFrame x env;theTreesLotGoes x)) _ _ s;refine wpAny_noted ?_;rw[compTurn_list];let no:∀(E:vy->vz->Prop) (x:vy) (s':vz),False->E x s':=λ_ _ _ f=>f.elim;refine yu (wpAny_standAt (yu (xg (turn n s hI) (λr s1 h1=>?_) (no _))));cases r with
 | none=>exact yw h1
 | some v=>
  refine yu (xg h1 (λ_ s2 h2=>yu (xg h2 (λ_ s3 h3=>yu (xg h3 (λok s3' h3'=>?_) (no _))) (no _))) (no _));cases ok with
  | false=>
   rw[yN ∅] at h3';exact yw {(rfl),h3'}
  | true=>
   rw[yO rfl] at h3';exact yu (yu (xg h3' (λx s4 h4=>yu (xg h4 (λ_ s5 h5=>yw (yw {(rfl),h5})) (no _))) (no _)))
section
variable {X:Cx} {pos:Pos}
def Cd {elt target iter:Expr} {scope:Scope} {N:List Str} {fr:List (Option Nat)} {cl:List (Str×vE)} {g:TG} {tc:TT} {te:TE} {ifs:List Expr} (hc:X.calm=true) (hsub:∀x c,cl.lookup x=some c->X.env.cells.lookup x=some c) (hhas:∀C x,((compEnvC scope cl C X.env).kindOf x=some .cell\/(compEnvC scope cl C X.env).kindOf x=some .free)->(∃c,cl.lookup x=some c)\/∃c,(cellsFrom (C+1) scope.names []).lookup x=some c)
  (hlen:⇑fr=N.length) (hfr:∀(i:Nat) x j,N[i]?=some x->fr[i]?=some (some j)->X.N[j]?=some x/\Uv X.env.scope x/\X.env.kindOf x≠some .local/\(∀C,(compEnvC scope cl C X.env).kindOf x=some .cell\/(compEnvC scope cl C X.env).kindOf x=some .free)/\(∀c,X.env.cells.lookup x=some c->cl.lookup x=some c)/\∀C,(cellsFrom (C+1) scope.names []).lookup x=none) (hkind:scope.kind=.function)
  (hg:∀C s₀ H₀ ex,PG (cO X N scope cl C s₀ H₀ ex) target g) (hif:∀C s₀ H₀ ex,R4 (cO X N scope cl C s₀ H₀ ex) ifs tc) (he:∀C s₀ H₀ ex,PE (cO X N scope cl C s₀ H₀ ex) elt te)
  {pins:List (vE×Obj)} {U:St} {s2:vz} {it:vE} {fp:List vE} {tn:Nat->vF->Prop} {J:It} {H2:Hp} {Q:VK} {RR:vy->vE->Result->vz->Prop} (I2:Inv X pins U H2 s2) (T:Turn X.prog X.w X.K target J fp it tn) (st2:tn 0 s2.heap) (f2:∀b∈fp,qA X pins H2 b)
  (ok:cR (fr.map λo=>o.bind λj=>(U[j]?).join) g tc te Q J H2)
  (fin:∀D C s4 H' xs,↑s2<=D->↑s2<=C->C≠D->Inv X pins U (upd H' D (.lst xs)) s4->H' D=none->H' C=none->(∃m,s4.heap.Ns C m)->(∀D,H' D=none->Q (.ref D) (upd H' D (.lst xs)))->RR (.ref D) C (.ok .next) s4) :
  wpAny (model X.prog X.w) X.A (newList []) (λacc s3=>wpAny (model X.prog X.w) X.A (newFunctionEnv scope X.env.globals cl [] X.env.qual none .none (some X.env)) (λcenv s4=>
   codeAny (model X.prog X.w) X.A (.compStart (.ListComp elt [{target,iter,ifs,0}] scope pos) 0 (.ref it) acc {cenv with scope:=relabel scope X.env}) (RR acc cenv.locals) s4) X.xe s3) X.xe s2:=by
 let⟨W,⟨m0,w0⟩,turn⟩:=ok;refine xf (FV λg1 hns hold hown=>?_);dsimp only at hns hold hown ⊢;generalize hG:s2.heap.push {cls:=.type "list",dict:=none,data:=.seq ([]:List vy).toArray}=G2 at hns hold hown ⊢;let hC:G2.objs.size=↑s2+1:=by rw[<-hG,xm]
 let below:∀b,b<↑s2->b≠G2.objs.size/\b≠↑s2:=λb hb=>{by rw[hC];exact yj (wM hb),yj hb}
 let hDC:↑s2≠G2.objs.size:=by rw[hC];exact yj (xR _)
 let old:∀b o,s2.heap.get? b=some o->g1.get? b=some o:=λb o e=>hold b o (hG▸yv _ e);let hacc:g1.get? ↑s2=some {cls:=.type "list",data:=.seq ([]:List vy).toArray 0}:=hold _ _ (hG▸yx _ rfl);let hsC:↑s2<G2.objs.size:=by rw[hC];exact xR _
 let csl:∀x c,(cellsFrom (G2.objs.size+1) scope.names cl).lookup x=some c->((cellsFrom (G2.objs.size+1) scope.names []).lookup x=some c/\G2.objs.size<c/\g1.IsCell c none)\/((cellsFrom (G2.objs.size+1) scope.names []).lookup x=none/\cl.lookup x=some c/\X.env.cells.lookup x=some c/\c<↑s2):=λx c e=>by
  rw[dj,wD] at e;cases q:(cellsFrom (G2.objs.size+1) scope.names []).lookup x with
  | some d=>
   rw[q] at e;cases e;let⟨z1,z2⟩:=hown.empty x _ (mem_of_lookup q);exact .inl {(rfl),z2,z1}
  | none=>
   rw[q] at e;let⟨v,z⟩:=I2.cell x c (hsub x c e);exact .inr {rfl,e,hsub x c e,z.lt}
 let fplt:∀b∈fp,b<↑s2:=λb hb=>let ⟨o,e,_⟩:=T.obj _ _ st2 b hb;yy e;let QK:∀b∈fp,∀x c,(cellsFrom (G2.objs.size+1) scope.names cl).lookup x=some c->c≠b:=λb hb x c e=>by
  rcases csl x c e with⟨_,l,_⟩ | ⟨_,_,z,_⟩
  ·exact yi (xH (fplt b hb) (xH hsC l))
  ·exact(f2 b hb).2.2.2.2.1 x c z
 letI Y:Cx:=cO X N scope cl G2.objs.size s2 H2 fp
 let okY:Y.Ok:=by
  refine{I2.ok.mod,hkind,I2.ok.glob,I2.ok.blt,?_,λx y c e e'=>?_,λx hx=>?_,λx c hf e=>?_,I2.ok.hd,I2.ok.frames,.inl rfl,λb hb=>{(below b (fplt b hb)).1,λx c e=>QK b hb x c e},I2.bs,zM I2.ok.N6 I2.sz,λb o e hb=>?_,λb hb hf=>?_,I2.stack,I2.qG}
  ·show ↑s2<=G2.objs.size
   rw[hC];exact x9 _
  ·rcases csl x c e with⟨q,l,_⟩ | ⟨_,q,z,l⟩
   ·rcases csl y c e' with⟨q',l',_⟩ | ⟨_,q',z',l'⟩
    ·exact Rq hown q q'
    ·exact absurd (xH (xH hsC l) l') (yf _)
   ·rcases csl y c e' with⟨q',l',_⟩ | ⟨_,q',z',l'⟩
    ·exact absurd (xH (xH hsC l') l) (yf _)
    ·exact I2.ok.inj x y c z z'
  ·show∃c,(cellsFrom (G2.objs.size+1) scope.names cl).lookup x=some c
   rw[dj,wD];rcases hhas G2.objs.size x hx with⟨c,e⟩ | ⟨c,e⟩
   ·rw[e];cases(cellsFrom (G2.objs.size+1) scope.names []).lookup x with
    | none=>exact{(c),rfl}
    | some d=>exact{(d),rfl}
   ·rw[e];exact{(c),rfl}
  ·let hf':((cellsFrom (G2.objs.size+1) scope.names []).lookup x).isSome=true:=hf
   rcases csl x c e with⟨q,l,_⟩ | ⟨q,_⟩
   ·exact yh (xH hsC l)
   ·rw[q] at hf';cases hf'
  ·rcases(f2 b hb).2.2.2.1 with z | z
   ·exact I2.ok.vQ b o e z
   ·exact absurd (yc (yy e) (zM I2.ok.N6 z)) (yf _)
  ·rcases zD.mp (I2.E5 b hf) with z | z
   ·exact(f2 b hb).2.1 z
   ·exact(f2 b hb).2.2.1 z
 let cl2:∀x c,(cellsFrom (G2.objs.size+1) scope.names cl).lookup x=some c->(∃v,g1.IsCell c v)/\H2 c=none/\c≠↑s2:=λx c e=>by
  rcases csl x c e with⟨_,l,z⟩ | ⟨_,_,z,l⟩
  ·exact{{_,z},I2.b9.fresh (yh (xH hsC l)),yi (xH hsC l)}
  ·let⟨v,oc,hoc,hd⟩:=I2.cell x c z
   exact{{v,oc,old _ _ hoc,hd},I2.j8 x c z,yj l}
 let Dfs:↑s2∉Y.fs:=λhb=>by
  rcases zD.mp (I2.E5 _ hb) with z | z
  ·exact absurd (z▸I2.lt) (yf _)
  ·exact I2.Vf (zm _) z
 let hCf:H2 G2.objs.size=none:=I2.b9.fresh (by rw[hC];exact x9 _);let start:∀tk,Inv Y [(↑s2,{cls:=.type "list",data:=.seq ([]:List vy).toArray 0})] (fr.map λo=>o.bind λj=>(U[j]?).join) H2 {s2 with heap:=g1,toks:=tk}:=λtk=>
  {okY,rfl,I2.bare,Un.kept old,{_,hns,λi x v e1 e2 _=>by
    rw[zK] at e2;cases ef:fr[i]? with
    | none=>rw[ef] at e2;cases e2
    | some o=>
     cases o with
     | none=>rw[ef] at e2;cases e2
     | some j=>
      rw[ef] at e2;let e2':(U[j]?).join=some v:=by simpa using e2
      let ej:U[j]?=some (some v):=by
       cases q:U[j]? with
       | none=>rw[q] at e2';cases e2'
       | some w=>rw[q] at e2';cases w with
        | none=>cases e2'
        | some w=>cases e2';rfl
      let⟨k1,k2,k3,k4,k5,k6⟩:=hfr i x j e1 ef;let⟨m,_,hl⟩:=I2.loc;let⟨u,r,l⟩:=hl j x v k1 ej k2;refine{u,r,?_};rcases l with l | ⟨_,c,ec,z⟩
      ·exact absurd l.1 k3
      ·let⟨oc,hoc,hd⟩:=z
       exact .inr {k4 G2.objs.size,c,by show(cellsFrom (G2.objs.size+1) scope.names cl).lookup x=some c;rw[dj,wD,k6];exact k5 c ec,oc,old _ _ hoc,hd}},
   λx c e=>(cl2 x c e).1,hCf,λx c e=>(cl2 x c e).2.1,
   λp hp=>by
    let e:p=(↑s2,{cls:=.type "list",data:=.seq ([]:List vy).toArray 0}):=by simpa using (show p∈[]++[_] from hp)
    subst e;exact{hacc,I2.b9.fresh (zm _),hDC,Dfs,λv z=>by cases z},I2.b9.kept old,by rw[za,hlen];rfl}
 let stat:∀{H':Hp} {ob:Obj},(∀b∈fp,H' b=none)->∀b∈fp,qA Y [(↑s2,ob)] H' b:=λ{H' ob} hn b hb=>by
  refine{hn b hb,(below b (fplt b hb)).1,λz=>okY.KR b hb z,.inl hb,QK b hb,λp hp=>?_};let e:p=(↑s2,ob):=by simpa using (show p∈[]++[_] from hp)
  subst e;exact(below b (fplt b hb)).2.symm
 let loop:∀tk,codeAny (model X.prog X.w) X.A (.compLoop (.ListComp elt [{target,iter,ifs,0}] scope pos) 0 (.ref it) (.ref ↑s2) (compEnvC scope (cellsFrom (G2.objs.size+1) scope.names cl) G2.objs.size X.env))
   (RR (.ref ↑s2) G2.objs.size) {s2 with heap:=g1,toks:=tk}:=by
  intro tk;refine K7 (λn s'=>∃i U' H' xs its k,Inv Y [(↑s2,{cls:=.type "list",data:=.seq its.toArray k})] U' H' s'/\tn i s'.heap/\(∀b∈fp,H' b=none)/\Vals xs its/\W i n xs U' H') ?_ m0
   {0,_,H2,[],[],0,start tk,T.keep _ _ _ st2 λb _ o e=>old b o e,λb hb=>(f2 b hb).1,.nil,w0}
  rintro n s3 ⟨i,σ3,H3,xs,its,k,I3,st3,fr3,rv3,w3⟩;rcases turn i n xs σ3 H3 w3 with⟨stop,hz,qn⟩ | ⟨go,hz,step⟩
  ·refine cX (T.done Y rfl rfl rfl hc i _ s3 σ3 H3 _ I3 (stat fr3) st3 stop) λr s4 ⟨hr,I4⟩=>?_
   subst hr;let⟨m,hm,_⟩:=id I4.loc;let⟨pD,nD,neD,fD,_⟩:=I4.pin (↑s2,{cls:=.type "list",data:=.seq its.toArray k}) (by show _∈[]++[_];simp);refine fin ↑s2 G2.objs.size s4 H3 xs (zm _) (by rw[hC];exact x9 _) hDC.symm (I2.Qp (s':=s4) (ch:=fp) I4.os ?_ ?_ I4.bare (λb hb=>{(f2 b hb).2.2.2.1,(f2 b hb).2.1,(f2 b hb).2.2.2.2.1,(f2 b hb).2.2.2.2.2})) nD I4.free {(m),hm} qn
   ·let ub:Un Y.fs Y.ex H2 H3 s2.heap s4.heap:=I4.base
    let lt:∀b o,s2.heap.get? b=some o->b≠G2.objs.size/\b≠↑s2:=λb o e=>below b (yy e);refine{λb o e n hb hx=>ub.keep b o e n hb hx,λb o e n hb hx=>ub.slot b o e n hb hx,λb o e n hx=>?_,λb o e hx=>ub.there b o e hx,λb ys e=>?_,λb o u e=>?_,λb ps e=>?_}
    ·rw[aC (lt b o e).2];exact ub.free b o e n hx
    ·let q:=ub.oO b ys e
     rw[aC (bA q nD)];exact q
    ·let q:=ub.mU b o u e
     rw[aC (bA q nD)];exact q
    ·let⟨more,q⟩:=ub.oP b ps e
     exact{more,by rw[aC (bA q nD)];exact q}
   ·intro b u e
    by_cases hb:b=↑s2
    ·subst hb;rw[aB] at e;cases e
     exact{(hz),its,k,rv3,pD}
    ·rw[aC hb] at e
     exact(I4.b9 b u e).lz (λc v hc' q=>q) (λc q=>by rw[aC (bA q nD)];exact q) λc ys q=>by rw[aC (bA q nD)];exact q
  ·refine cX (T.item Y rfl rfl rfl hc i _ s3 σ3 H3 _ I3 (stat fr3) st3 go) λr s4 ⟨u,hr,h4⟩=>?_
   subst hr;refine cX h4 λ_ s5 z0=>?_;let⟨x,H5,I5,r5,y5,st5,fr5⟩:=z0;let I5':=I5.pinned (stat fr5) (T.obj _ _ st5);refine cX (hg G2.objs.size s2 H2 fp _ s5 σ3 H5 x u _ I5' r5 (step x H5 y5)) λ_ s6 z0=>?_;let⟨σ6,H6,I6,q6⟩:=z0;refine cX (hif G2.objs.size s2 H2 fp _ s6 σ6 H6 _ I6 q6) λb s6' z0=>?_;let⟨H6',I6',q6'⟩:=z0;cases b with
   | false=>
    rw[yN ∅] at q6' ⊢;let⟨m',hm,w7⟩:=q6';let inD:(↑s2,({cls:=.type "list",data:=.seq its.toArray k}:Obj))∈Y.pn++([(↑s2,({cls:=.type "list",data:=.seq its.toArray k}:Obj))]++tf fp s5.heap):=by show _∈[]++_;simp
    let⟨pD,nD,neD,fD,dD⟩:=I6'.pin _ inD;let I7':Inv Y [] σ6 H6' s6':=I6'.oA λp hp=>nomatch hp;refine{m',hm,i+1,σ6,H6',xs,its,k,I7'.oA λp hp=>?_,T.keep _ _ _ st5 (λb hb o e=>(I6'.pin (b,o) (zI _ (zI _ (gz hb e)))).1),λb hb=>?_,rv3,w7}
    ·let e:p=(↑s2,{cls:=.type "list",data:=.seq its.toArray k}):=by simpa using hp
     subst e;exact{(pD),nD,neD,fD,dD}
    ·let⟨o,e,d⟩:=T.obj _ _ st5 b hb
     exact(I6'.pin (b,o) (zI _ (zI _ (gz hb e)))).2.1
   | true=>
   rw[yO rfl] at q6' ⊢;refine cX (he G2.objs.size s2 H2 fp _ s6' σ6 H6' _ I6' q6') λv s7 z0=>?_;let⟨y,H7,I7,r7,m',hm,w7⟩:=z0;let inD:(↑s2,({cls:=.type "list",data:=.seq its.toArray k}:Obj))∈Y.pn++([(↑s2,({cls:=.type "list",data:=.seq its.toArray k}:Obj))]++tf fp s5.heap):=by show _∈[]++_;simp
   let⟨pD,nD,neD,fD,dD⟩:=I7.pin _ inD;let hlen:=⇑rv3;refine wpAny_list_append_plain (items:=its.toArray) (hsz:=by rw[yb];ext) {(k),pD} λg8 pl8 sb8=>?_;let⟨k8,e8⟩:=pl8;let I7':Inv Y [] σ6 H7 s7:=I7.oA λp hp=>nomatch hp;let I8:Inv Y [] σ6 H7 {s7 with heap:=g8}:=I7'.turned (t':=s7.toks) (λb o hb e=>sb8.extBut b o hb e) nD neD (.inr (zm _)) (λx c e=>(cl2 x c e).2.2) (λp hp=>(nomatch (show p∈([]:List (vE×Obj)) from hp)));let e8':g8.get? ↑s2=some {cls:=.type "list",data:=.seq (its++[v]).toArray k8}:=by rw[e8];simp
   let fpD:∀b∈fp,∀o,s5.heap.get? b=some o->g8.get? b=some o:=λb hb o e=>sb8.extBut b o (below b (fplt b hb)).2 (I7.pin (b,o) (zI _ (zI _ (gz hb e)))).1;refine{m',hm,i+1,σ6,H7,xs++[y],its++[v],k8,I8.oA λp hp=>?_,T.keep _ _ _ st5 fpD,λb hb=>?_,rv3.append (.cons r7 .nil),w7}
   ·let e:p=(↑s2,{cls:=.type "list",data:=.seq (its++[v]).toArray k8}):=by simpa using hp
    subst e;exact{e8',nD,neD,fD,λv z=>by cases z}
   ·let⟨o,e,d⟩:=T.obj _ _ st5 b hb
    exact(I7.pin (b,o) (zI _ (zI _ (gz hb e)))).2.1
 exact codeAny_compStart_list (loop _) (T.self _ _ _ _ _ (T.keep _ _ _ st2 λb _ o e=>old b o e) (loop _))
def MX {elt target iter:Expr} {scope:Scope} {N:List Str} {fr:List (Option Nat)} {cl:List (Str×vE)} {wi:TI} {g:TG} {tc:TT} {te:TE} {ifs:List Expr} (hc:X.calm=true) (hclos:closureFor scope X.env=pure cl) (hsub:∀x c,cl.lookup x=some c->X.env.cells.lookup x=some c) (hhas:∀C x,((compEnvC scope cl C X.env).kindOf x=some .cell\/(compEnvC scope cl C X.env).kindOf x=some .free)->(∃c,cl.lookup x=some c)\/∃c,(cellsFrom (C+1) scope.names []).lookup x=some c)
  (hlen:⇑fr=N.length) (hfr:∀(i:Nat) x j,N[i]?=some x->fr[i]?=some (some j)->X.N[j]?=some x/\Uv X.env.scope x/\X.env.kindOf x≠some .local/\(∀C,(compEnvC scope cl C X.env).kindOf x=some .cell\/(compEnvC scope cl C X.env).kindOf x=some .free)/\(∀c,X.env.cells.lookup x=some c->cl.lookup x=some c)/\∀C,(cellsFrom (C+1) scope.names []).lookup x=none) (hkind:scope.kind=.function)
  (hnames:∀y∈scope.names,y.2=.local->scope.names.lookup y.1=some .local) (hi:PI X target iter wi)
  (hg:∀C s₀ H₀ ex,PG (cO X N scope cl C s₀ H₀ ex) target g) (hif:∀C s₀ H₀ ex,R4 (cO X N scope cl C s₀ H₀ ex) ifs tc) (he:∀C s₀ H₀ ex,PE (cO X N scope cl C s₀ H₀ ex) elt te) (hs:(∀x,foldedSetIterable iter X.env x=pure x)<|>qd_) :
  PE X (.ListComp elt [{target,iter,ifs,0}] scope pos) (m9 fr wi g tc te):=by
 intro pins s U H Q I h;rw[eval_ListComp];refine wpAny_comprehension_free (use:=none) (cl:=cl) rfl hs hclos hkind hnames (cX (hi pins s U H _ I h) λxv s1 h1=>cX h1 λitv s2 h2=>?_);let⟨it,fp,tn,J,H2,e,I2,T,st2,f2,ok⟩:=h2;subst e;refine Cd (RR:=λacc C=>compPost (model X.prog X.w) X.A X.xe none (EP X pins U Q) acc C) hc hsub hhas hlen hfr hkind hg hif he I2 T st2 f2 ok ?_;intro D C s4 H' xs hD hC hne I4 nD nC ⟨m,hm⟩ qn;refine{m,hm,λg5 hs5=>{.ref D,upd H' D (.lst xs),I2.Vk hC I4 (by rw[aC hne];exact nC) hs5,rfl,qn D nD}}
def MT {elt target iter:Expr} {scope:Scope} {N:List Str} {fr:List (Option Nat)} {cl:List (Str×vE)} {wi:TI} {g:TG} {tc:TT} {te:TE} {ifs:List Expr} (hc:X.calm=true) (hclos:closureFor scope X.env=pure cl) (hsub:∀x c,cl.lookup x=some c->X.env.cells.lookup x=some c) (hhas:∀C x,((compEnvC scope cl C X.env).kindOf x=some .cell\/(compEnvC scope cl C X.env).kindOf x=some .free)->(∃c,cl.lookup x=some c)\/∃c,(cellsFrom (C+1) scope.names []).lookup x=some c)
  (hlen:⇑fr=N.length) (hfr:∀(i:Nat) x j,N[i]?=some x->fr[i]?=some (some j)->X.N[j]?=some x/\Uv X.env.scope x/\X.env.kindOf x≠some .local/\(∀C,(compEnvC scope cl C X.env).kindOf x=some .cell\/(compEnvC scope cl C X.env).kindOf x=some .free)/\(∀c,X.env.cells.lookup x=some c->cl.lookup x=some c)/\∀C,(cellsFrom (C+1) scope.names []).lookup x=none) (hkind:scope.kind=.function)
  (hnames:∀y∈scope.names,y.2=.local->scope.names.lookup y.1=some .local) (hi:PI X target iter wi)
  (hg:∀C s₀ H₀ ex,PG (cO X N scope cl C s₀ H₀ ex) target g) (hif:∀C s₀ H₀ ex,R4 (cO X N scope cl C s₀ H₀ ex) ifs tc) (he:∀C s₀ H₀ ex,PE (cO X N scope cl C s₀ H₀ ex) elt te) (hs:(∀x,foldedSetIterable iter X.env x=pure x)<|>qd_)  {i:Nat} {x:Str} {ps pa:Pos} (hN:X.N.Nodup) (hx1:X.N[i]?=some x) (hx2:Loc X.env.scope x) (hsw:swapsWith (.ListComp elt [{target,iter,ifs,0}] scope pos) (some (.Name x ps)) pa.line X.env=pure true<|>qe_)
  (hf:X.fn x=true\/X.env.scope.names.lookup x=some .local<|>qa_) :
  PS X (.Assign [.Name x ps] (.ListComp elt [{target,iter,ifs,0}] scope pos) pa) (Hu (m9 fr wi g tc te) (bW i)):=by
 intro pins s U H D I h;rw[exec_Assign_Name_used _ _ _ _ hsw];refine yu (wpAny_standAt (yu ?_));show wpAny _ X.A (do let _ <-comprehension (.ListComp elt [{target,iter,ifs,0}] scope pos) scope X.env _ (newList []) false (eval iter X.env) (some (assign (.Name x ps) X.env))) _ _ s;refine yu (xg (wpAny_comprehension_free (use:=some (assign (.Name x ps) X.env)) (cl:=cl) (Q:=λ_ s'=>SP X pins D .next s') rfl hs hclos hkind hnames (cX (hi pins s U H _ I h) λxv s1 h1=>cX h1 λitv s2 h2=>?_)) (λ_ s' hq=>yw (yw hq)) λ_ _ e=>e);let⟨it,fp,tn,J,H2,e,I2,T,st2,f2,ok⟩:=h2;subst e;refine Cd (RR:=λacc C=>compPost (model X.prog X.w) X.A X.xe (some (assign (.Name x ps) X.env)) (λ_ s'=>SP X pins D .next s') acc C) hc hsub hhas hlen hfr hkind hg hif he I2 T st2 f2 ok ?_;intro E C s4 H' xs hE hC hne I4 nE nC ⟨m,hm⟩ qn;show wpAny _ X.A (assign (.Name x ps) X.env (.ref E)) _ _ s4;refine wpAny_assign_Name (Ei I4 hN hx1 hx2 (v:=.ref E) rfl (λs5 I5 hw=>?_) hf);let⟨aw,sb,ha⟩:=hw;let hCn:(upd H' E (.lst xs)) C=none:=by rw[aC hne];exact nC
 let⟨f0,f1,f2',f3,f4,f5⟩:=I2.vT hC hCn;let neC:C≠aw:=by
  rcases ha with z | z
  ·rw[z];exact f1
  ·exact λq=>f4 x aw z q.symm
 refine{m,hm.sameBut sb neC,λg6 hs6=>?_};exact{_,_,I2.Vk hC I5 hCn hs6,qn E nE}
end
def GR (cells:List (Str×vE)):List (Str×vE)->Prop
 | []=>True
 | p::r=>cells.lookup p.1=some p.2/\GR cells r
theorem GR.sub:∀{cl:List (Str×vE)},GR cells cl->∀x c,cl.lookup x=some c->cells.lookup x=some c
 | [],_,x,c,e=>by cases e
 | (y,d)::r,h,x,c,e=>by
  rw[yq] at e;split at e
  ·rename_i q
   cases e;rw[eq_of_beq q];exact h.1
  ·exact GR.sub h.2 x c e
def N1 (X:Cx) (scope:Scope) (cl:List (Str×vE)):List Str->List Nat->Prop
 | [],[]=>True
 | y::ys,j::js=>(X.N[j]?=some y/\(X.env.kindOf y=some .cell\/X.env.kindOf y=some .free)/\((relabel scope X.env).names.lookup y=some .cell\/(relabel scope X.env).names.lookup y=some .free)/\∃c,X.env.cells.lookup y=some c/\cl.lookup y=some c)/\N1 X scope cl ys js
 | _,_=>False
theorem N1.len:∀{ys:List Str} {js:List Nat},N1 X scope cl ys js->⇑js=⇑ys
 | [],[],_=>rfl
 | _::_,_::_,h=>by rw[zv,zv,N1.len h.2]
 | [],_::_,h=>h.elim
 | _::_,[],h=>h.elim
theorem N1.get:∀{ys:List Str} {js:List Nat} {i:Nat} {y:Str} {j:Nat},N1 X scope cl ys js->ys[i]?=some y->js[i]?=some j->
  X.N[j]?=some y/\(X.env.kindOf y=some .cell\/X.env.kindOf y=some .free)/\((relabel scope X.env).names.lookup y=some .cell\/(relabel scope X.env).names.lookup y=some .free)/\∃c,X.env.cells.lookup y=some c/\cl.lookup y=some c
 | [],_,_,_,_,_,e,_=>by simp at e
 | _::_,[],_,_,_,h,_,_=>h.elim
 | y::ys,j::js,0,_,_,h,e,e'=>by simp at e e';subst e e';exact h.1
 | y::ys,j::js,i+1,_,_,h,e,e'=>N1.get (i:=i) h.2 (by simpa using e) (by simpa using e')
theorem Lb:∀{names:List (Str×NameKind)} {n:Nat} {x:Str} {c:vE},(cellsFrom n names []).lookup x=some c->(x,NameKind.cell)∈names
 | [],_,_,_,e=>by cases e
 | (y,k)::r,n,x,c,e=>by
  unfold cellsFrom at e;split at e
  ·rename_i hk
   rw[dj,wD] at e;cases q:(cellsFrom (n+1) r []).lookup x with
   | some d=>exact zp _ (Lb q)
   | none=>
    rw[q] at e;let e':([(y,n)]:List (Str×vE)).lookup x=some c:=e;rw[yq] at e';split at e'
    ·rename_i z
     rw[eq_of_beq z,eq_of_beq hk];exact zr
    ·cases e'
  ·exact zp _ (Lb e)
theorem Lc:∀{names:List (Str×NameKind)} {n:Nat} {x:Str},(x,NameKind.cell)∈names->∃c,(cellsFrom n names []).lookup x=some c
 | [],_,_,h=>by cases h
 | (y,k)::r,n,x,h=>by
  unfold cellsFrom;split
  ·rw[dj,wD]
   cases q:(cellsFrom (n+1) r []).lookup x with
   | some d=>exact{(d),rfl}
   | none=>
    rcases zD.mp h with h | h
    ·let⟨e1,_⟩:=Prod.mk.inj h
     exact{n,by show([(y,n)]:List (Str×vE)).lookup x=some n;rw[e1,yq,wk]}
    ·let⟨c,e⟩:=Lc (n:=n+1) h
     rw[q] at e;cases e
  ·rename_i hk
   rcases zD.mp h with h | h
   ·cases h;exact absurd rfl hk
   ·exact Lc h
theorem uC:∀{L:List (Str×NameKind)} {x:Str} {k:NameKind},L.lookup x=some k->(x,k)∈L
 | [],_,_,h=>by cases h
 | (y,j)::r,x,k,h=>by
  rw[yq] at h;split at h
  ·rename_i q;cases h;rw[eq_of_beq q];exact zr
  ·exact zp _ (uC h)
section
variable {X:Cx} {pos:Pos} {elt target iter:Expr} {ifs:List Expr} {scope:Scope} {ts ys:List Str} {js:List Nat} {cl:List (Str×vE)} {wi:TI} {g:TG} {tc:TT} {te:TE}
def EM (hcl:GR X.env.cells cl) (hLo:((relabel scope X.env).names.all λp=>(p.2 != .cell&&p.2 != .free)||ys.contains p.1||scope.names.contains (p.1,.cell))=true) (hno:∀p∈scope.names,p.2=.cell->p.1∉ys) (hfr:N1 X scope cl ys js) :
  (∀(C:vE) x,((compEnvC scope cl C X.env).kindOf x=some .cell\/(compEnvC scope cl C X.env).kindOf x=some .free)->(∃c,cl.lookup x=some c)\/∃c,(cellsFrom (C+1) scope.names []).lookup x=some c)/\
  ⇑(ts.map (λ_=>(none:Option Nat))++js.map some)=⇑(ts++ys)/\
  (∀(i:Nat) x j,(ts++ys)[i]?=some x->(ts.map (λ_=>(none:Option Nat))++js.map some)[i]?=some (some j)->X.N[j]?=some x/\Uv X.env.scope x/\X.env.kindOf x≠some .local/\(∀C,(compEnvC scope cl C X.env).kindOf x=some .cell\/(compEnvC scope cl C X.env).kindOf x=some .free)/\(∀c,X.env.cells.lookup x=some c->cl.lookup x=some c)/\∀C,(cellsFrom (C+1) scope.names []).lookup x=none):=by
 refine{λC x hx=>?_,by simp[N1.len hfr],λi x j h1 h2=>?_}
 ·let key:∀k,(relabel scope X.env).names.lookup x=some k->(k=.cell\/k=.free)->(∃c,cl.lookup x=some c)\/∃c,(cellsFrom (C+1) scope.names []).lookup x=some c:=λk hk hk'=>by
   have:=(yp.mp hLo) _ (uC hk);rw[Bool.or_eq_true,Bool.or_eq_true] at this;rcases this with(z | z) | z
   ·rcases hk' with rfl | rfl <;> simp at z
   ·let hm:x∈ys:=List.contains_iff_mem.mp z
    let⟨n,hn⟩:=List.getElem?_of_mem hm;let hl:n<⇑js:=by rw[hfr.len];exact(zy.mp hn).1
    let⟨_,_,_,c,_,e⟩:=hfr.get hn (zd hl);exact .inl {(c),e}
   ·exact .inr (Lc (List.contains_iff_mem.mp z))
  rcases hx with hx | hx
  ·exact key _ hx (.inl rfl)
  ·exact key _ hx (.inr rfl)
 ·let hi:⇑ts<=i:=by
   rcases xI i ⇑ts with h | h
   ·rw[wq (by simpa using h),zK] at h2
    cases q:ts[i]? with
    | none=>rw[q] at h2;cases h2
    | some z=>rw[q] at h2;cases h2
   ·exact h
  rw[z9 hi] at h1;rw[z9 (by simpa using hi),za,zK] at h2;let h2':js[i-⇑ts]?=some j:=by
   cases q:js[i-⇑ts]? with
   | none=>rw[q] at h2;cases h2
   | some z=>rw[q] at h2;cases h2;rfl
  let⟨k1,k2,k3,c,k4,k5⟩:=hfr.get h1 h2';refine{k1,.inr k2,λz=>?_,λC=>k3,λd hd=>?_,λC=>?_}
  ·rcases k2 with k2 | k2 <;> (rw[z] at k2;cases k2)
  ·rw[k4] at hd;cases hd;exact k5
  ·cases q:(cellsFrom (C+1) scope.names []).lookup x with
   | none=>rfl
   | some d=>exact absurd (zC h1) (hno _ (Lb q) rfl)
def Pk (hc:X.calm=true) (hclos:closureFor scope X.env=pure cl) (hcl:GR X.env.cells cl) (hLo:((relabel scope X.env).names.all λp=>(p.2 != .cell&&p.2 != .free)||ys.contains p.1||scope.names.contains (p.1,.cell))=true) (hno:∀p∈scope.names,p.2=.cell->p.1∉ys) (hfr:N1 X scope cl ys js) (hkind:scope.kind=.function)
  (hnames:∀y∈scope.names,y.2=.local->scope.names.lookup y.1=some .local) (hi:PI X target iter wi)
  (hg:∀C s₀ H₀ ex,PG (cO X (ts++ys) scope cl C s₀ H₀ ex) target g) (hif:∀C s₀ H₀ ex,R4 (cO X (ts++ys) scope cl C s₀ H₀ ex) ifs tc) (he:∀C s₀ H₀ ex,PE (cO X (ts++ys) scope cl C s₀ H₀ ex) elt te) (hs:(∀x,foldedSetIterable iter X.env x=pure x)<|>qd_) :
  PE X (.ListComp elt [{target,iter,ifs,0}] scope pos) (m9 (ts.map (λ_=>none)++js.map some) wi g tc te):=by
 let⟨a,b,c⟩:=EM (ts:=ts) hcl hLo hno hfr;exact MX hc hclos hcl.sub a b c hkind hnames hi hg hif he hs
def O8 (hc:X.calm=true) (hclos:closureFor scope X.env=pure cl) (hcl:GR X.env.cells cl) (hLo:((relabel scope X.env).names.all λp=>(p.2 != .cell&&p.2 != .free)||ys.contains p.1||scope.names.contains (p.1,.cell))=true) (hno:∀p∈scope.names,p.2=.cell->p.1∉ys) (hfr:N1 X scope cl ys js) (hkind:scope.kind=.function)
  (hnames:∀y∈scope.names,y.2=.local->scope.names.lookup y.1=some .local) (hi:PI X target iter wi)
  (hg:∀C s₀ H₀ ex,PG (cO X (ts++ys) scope cl C s₀ H₀ ex) target g) (hif:∀C s₀ H₀ ex,R4 (cO X (ts++ys) scope cl C s₀ H₀ ex) ifs tc) (he:∀C s₀ H₀ ex,PE (cO X (ts++ys) scope cl C s₀ H₀ ex) elt te) (hN:X.N.Nodup) (hx1:X.N[i]?=some x) (hx2:Loc X.env.scope x) (hs:(∀x,foldedSetIterable iter X.env x=pure x)<|>qd_) (hsw:swapsWith (.ListComp elt [{target,iter,ifs,0}] scope pos) (some (.Name x ps)) pa.line X.env=pure true<|>qe_)
  (hf:X.fn x=true\/X.env.scope.names.lookup x=some .local<|>qa_) :
  PS X (.Assign [.Name x ps] (.ListComp elt [{target,iter,ifs,0}] scope pos) pa) (Hu (m9 (ts.map (λ_=>none)++js.map some) wi g tc te) (bW i)):=by
 let⟨a,b,c⟩:=EM (ts:=ts) hcl hLo hno hfr;exact MT hc hclos hcl.sub a b c hkind hnames hi hg hif he hs hN hx1 hx2 hsw hf
end
def JU (n:Nat) (f:Nat->List V) (Pv:Nat->St->Hp->Prop) (i m:Nat) (xs:List V) (U:St) (H:Hp):Prop:=m=n-i/\i<=n/\xs=f i/\Pv i U H
def JU.push (hi:i<n) (e:f (i+1)=f i++[y]) (p:Pv (i+1) U H):∃m',m'<n-i/\JU n f Pv (i+1) m' (f i++[y]) U H:={n-(i+1),(),rfl,hi,e.symm,p}
def JU.skip (hi:i<n) (e:f (i+1)=f i) (p:Pv (i+1) U H):∃m',m'<n-i/\JU n f Pv (i+1) m' (f i) U H:={n-(i+1),(),rfl,hi,e.symm,p}
def oa (n:Nat) (f:Nat->List V) (Pv:Nat->St->Hp->Prop) (hz:∀i,i<=n->⇑(f i)<=i) (hn:n<=sizeLine) (f0:f 0=[]) (h0:Pv 0 U₀ H1)
  (go:∀i U H,i<n->Pv i U H->J.go i H) (stop:∀U H,Pv n U H->J.stop n H)
  (turn:∀i x U H H2,i<n->Pv i U H->J.JV i H x H2->g x U H2 λσ3 H3=>tc σ3 H3 λb H4=>if b=true then te σ3 H4 λy H5=>∃m',m'<n-i/\JU n f Pv (i+1) m' (f i++[y]) σ3 H5 else∃m',m'<n-i/\JU n f Pv (i+1) m' (f i) σ3 H4)
  (fin:∀U H,Pv n U H->∀D,H D=none->Q (.ref D) (upd H D (.lst (f n)))):cR U₀ g tc te Q J H1:=by
 refine{JU n f Pv,{n,by simp,yg _,f0.symm,h0},?_};rintro i m xs U H ⟨rfl,hi,rfl,p⟩;have:=hz i hi;rcases xI i n with hlt | hge
 ·exact .inr {go i U H hlt p,(),λx H2 y=>turn i x U H H2 hlt p y}
 ·let e:i=n:=()
  subst e;exact .inl {stop U H p,(),fin U H p}
section
variable {X:Cx}
def Fz (bs:List Bool):((List.range ⇑bs).any λi=>(bs[i]?).getD false)=bs.any id:=by
 rw[xO,yo,yo];constructor
 ·rintro⟨i,hi,e⟩
  let hi':=yS.mp hi;rw[zd hi'] at e;exact{_,ym hi',e}
 ·rintro⟨b,hb,e⟩
  let⟨i,hi,e'⟩:=List.mem_iff_getElem.mp hb;exact{i,yS.mpr hi,by rw[zd hi,e'];exact e}
def gH (hc:X.calm=true):fC X (.builtin "any") (λxs H Q=>∃(a:vE) (bs:List Bool),xs=[.ref a]/\aH X.K H a (bs.map V.bl)/\Q (.bl (bs.any id)) H):=by
 intro pins s U H xs us Q I r h;let⟨a,bs,e,hq,q⟩:=h;subst e;cases r with
 | cons r rr=>
  cases rr;cases r;let⟨its,rv,p,hz⟩:=I.list hq;let hlt:a<↑s:=by let⟨o,n,e,_⟩:=p;exact yy e
  let hlen:⇑bs=⇑its:=by have:=⇑rv;rw[za] at this;exact this
  refine call_any_walk (wL p.isList ?_);refine{↑s,[↑s,a],[↑s],its.toArray.size,_,_,λi=>(bs[i]?).getD false,rfl,Walks.list (A:=X.A.in1) (I.ok.hd hc) _ a (yj hlt) its.toArray,
   {{_,yx _ rfl,rfl,rfl},p.isList.push _},λi v s' Q' E' hP hQ=>?_,λh' tk hk=>?_}
  ·let hP':its[i]?=some v:=by simpa using hP
   let hi:i<⇑bs:=by rw[hlen];exact(zy.mp hP').1
   let hm:(bs.map V.bl)[i]?=some (.bl bs[i]):=by rw[zK,zd hi];rfl
   let⟨u,hu,ru⟩:=rv.get hm;rw[hP'] at hu;cases hu;cases ru;dsimp only at hQ;rw[zd hi] at hQ;exact xi hQ
  ·let e:((List.range its.toArray.size).any λi=>(bs[i]?).getD false)=bs.any id:=by rw[yb,<-hlen];exact Fz bs
   rw[e];exact{.bl _,H,I.kept λb o x=>hk b o (λhm=>by rw[zA.mp hm] at x;exact yf _ (yy x)) (yv _ x),rfl,q}
def uA (ns:List Int):∀k,k<=⇑ns->preSum (λi=>(ns[i]?).getD 0) k=(ns.take k).sum:=by
 intro k
 induction k with
 | zero=>intro _;simp[preSum]
 | succ k ih=>
  intro hk;let hk':k<⇑ns:=hk;let e:=ih (yh hk');rw[List.take_succ,List.sum_append,<-e,zd hk'];simp[preSum,zd hk']
def NI (hc:X.calm=true):fC X (.builtin "sum") (λxs H Q=>∃(a:vE) (ns:List Int),xs=[.ref a]/\aH X.K H a (ns.map V.int)/\(∀n∈ns,0<=n/\n<1000000)/\⇑ns<=1000/\Q (.int ns.sum) H):=by
 intro pins s U H xs us Q I r h;let⟨a,ns,e,hq,hb,hl,q⟩:=h;subst e;cases r with
 | cons r rr=>
  cases rr;cases r;let⟨its,rv,p,hz⟩:=I.list hq;let hlt:a<↑s:=by let⟨o,n,e,_⟩:=p;exact yy e
  let hlen:⇑ns=⇑its:=by have:=⇑rv;rw[za] at this;exact this
  let bnd:∀k,k<=⇑ns->0<=(ns.take k).sum/\(ns.take k).sum<=1000000*k:=by
   intro k
   induction k with
   | zero=>intro _;simp
   | succ k ih=>
    intro hk;let hk':k<⇑ns:=hk;have:=ih (yh hk');rw[List.take_succ,List.sum_append,zd hk'];let hb':=hb _ (ym hk');simp only[Option.toList_some,wX,List.sum_nil];ext
  refine call_sum_walk (wL p.isList ?_);refine{↑s,[↑s,a],[↑s],its.toArray.size,_,_,λi=>(ns[i]?).getD 0,rfl,Walks.list (A:=X.A.in1) (I.ok.hd hc) _ a (yj hlt) its.toArray,
   {{_,yx _ rfl,rfl,rfl},p.isList.push _},λb hb'=>?_,λi v hP=>?_,λj hj=>?_,λh' tk t' hk=>?_}
  ·rw[xm]
   rcases zD.mp hb' with e | e
   ·rw[e];exact xR _
   ·rw[zA.mp e];exact wM hlt
  ·let hP':its[i]?=some v:=by simpa using hP
   let hi:i<⇑ns:=by rw[hlen];exact(zy.mp hP').1
   let hm:(ns.map V.int)[i]?=some (.int ns[i]):=by rw[zK,zd hi];rfl
   let⟨u,hu,ru⟩:=rv.get hm;rw[hP'] at hu;cases hu;dsimp only;rw[zd hi];exact ru
  ·let hj':j<⇑ns:=by rw[hlen];simpa using hj
   let b1:=hb _ (ym hj');let b2:=bnd (j+1) hj';rw[uA ns (j+1) hj'];dsimp only;rw[zd hj'];simp only[Option.getD_some];constructor <;> (unfold InLong;ext)
  ·let e:preSum (λi=>(ns[i]?).getD 0) its.toArray.size=ns.sum:=by rw[yb,<-hlen,uA ns _ (zm _),zN]
   rw[e];exact{.int _,H,I.kept λb o x=>hk b o (λhm=>by rw[zA.mp hm] at x;exact yf _ (yy x)) (yv _ x),{_,rfl},q}
end
section
variable {prog:vA} {w:vB} {A:vC} {E:vy->vz->Prop} {s:vz}
def DM (hl:IsTup s.heap l vs.toArray)
  (h:Q vs {s with heap:=(s.heap.push (seqObj "list" #[] 0)).update ↑s (Obj.mapSeq (·++vs.toArray))}) (hsz:⇑vs<=sizeLine) :
  wpAny (model prog w) A (collect (.ref l)) Q E s:=by
 let⟨o,ho,hc,n,hd⟩:=id hl;unfold collect;refine yu (wpAny_runValue (xX entry_proto_collect' ?_));show wpAny _ _ (do again (.builtin "list.__iadd__" {[<-newList [],.ref l],[]})) _ _ s;refine yu (wpAny_newList (yw {Code.quiet_builtin _ (by decide +kernel),xX entry_list_iadd' ?_}));show wpAny _ _ (Builtin.List.listExtendWith (.ref ↑s) (.ref l) (.ref ↑s)) _ _ {s with heap:=s.heap.push (seqObj "list" #[] 0)};unfold Builtin.List.listExtendWith;let ho':(s.heap.push (seqObj "list" #[] 0)).get? l=some o:=yv _ ho;refine yu (vh (T:="tuple") {(o),ho',hc} ?_);let ht:(Value.type "tuple"== Value.type "tuple")=true:=by rfl
 rw[yO (by rw[ht];simp)];refine yu (listItems_at ho' hd ?_);refine yu (listItems_at (xs:=#[]) (n:=0) (yx _ rfl) rfl ?_);rw[yN (by simp)];refine yu (listUpdate_at (xs:=#[]) (n:=0) (yx _ rfl) rfl ?_ (yg _) (by show(#[]++vs.toArray).size<=sizeLine+1;simp only[Array.size_append,yb,xq];ext));refine yw ?_;show wpAny (model prog w) A (do
   let o <-load ↑s
   match o.data with
   | .seq xs _=>pure xs.toList
   | _=>unsupported "internal:collect") Q E {s with heap:=(s.heap.push (seqObj "list" #[] 0)).update ↑s (Obj.mapSeq (·++vs.toArray))}
 refine yu (wpAny_load (get?_update_seq (yx _ rfl) _) ?_);show wpAny _ _ (pure ((#[]:Array vy)++vs.toArray).toList) Q E _;rw[show((#[]:Array vy)++vs.toArray).toList=vs by simp];exact yw h
def Kc (hl:IsTup s.heap l vs.toArray) (hI:IntsAre vs ns) (h64:⇑vs<64)
  (h:∀(out:Array vy) (ns':List Int),IntsAre out.toList ns'->ns'.Perm ns->ns'.Pairwise (·<=·)->Q (.ref (↑s+1)) {s with heap:=sortedAll s.heap vs out}) :
  wpAny (model prog w) A (call (.builtin "sorted") [.ref l]) Q E s:=by
 refine Calls.call_function_entry kind_sorted plain_sorted entry_sorted (args_sorted1 _) ?_;unfold Builtin.«sorted»;refine yu (m:=checkCount "sorted" 1 1 _) (yw ?_);refine yu (DM hl ?_ (by rw[yC];ext));refine yu (wpAny_newList ?_);let hsz:((s.heap.push (seqObj "list" #[] 0)).update ↑s (Obj.mapSeq (·++vs.toArray))).objs.size=↑s+1:=by
  rw[Heap.size_update,size_push']
 let hoL:(((s.heap.push (seqObj "list" #[] 0)).update ↑s (Obj.mapSeq (·++vs.toArray))).push (seqObj "list" vs.toArray 0)).get? (↑s+1)=some (seqObj "list" vs.toArray 0):=by
  rw[<-hsz];exact yx _ rfl
 show wpAny _ _ _ _ _ {s with heap:=((s.heap.push (seqObj "list" #[] 0)).update ↑s (Obj.mapSeq (·++vs.toArray))).push (seqObj "list" vs.toArray 0)};rw[hsz];refine yu (xJ (xb slot_list_sort {_,hoL,rfl} entry_list_sort (list_sort_tree hoL hI h64 λout ns' a1 a2 a3=>{_,rfl,?_}) (args_list_sort _)));exact yw {_,rfl,h out ns' a1 a2 a3}
def CV (h:vF) (vs:List vy) (out:Array vy):∃n,(sortedAll h vs out).get? (h.objs.size+1)=some {cls:=.type "list",data:=.seq out n}:=by
 let hsz:((h.push (seqObj "list" #[] 0)).update h.objs.size (Obj.mapSeq (·++vs.toArray))).objs.size=h.objs.size+1:=by rw[Heap.size_update,size_push']
 let h1:(((h.push (seqObj "list" #[] 0)).update h.objs.size (Obj.mapSeq (·++vs.toArray))).push (seqObj "list" vs.toArray 0)).get? (h.objs.size+1)=some (seqObj "list" vs.toArray 0):=by
  rw[<-hsz];exact yx _ rfl
 unfold sortedAll sortedHeap;let h2:=get?_update_seq h1 (λ_=>#[]);let h3:=yv (seqObj "list" #[] 0) (yv (seqObj "tuple" vs.toArray 0) h2);exact{_,get?_update_seq h3 (λ_=>out)}
def uW (h:vF) (vs:List vy) (out:Array vy) (b:vE) (o:Obj) (e:h.get? b=some o):(sortedAll h vs out).get? b=some o:=by
 let hb:b<h.objs.size:=yy e;unfold sortedAll sortedHeap;let n1:h.objs.size≠b:=yi hb;let n2:h.objs.size+1≠b:=yi (wM hb);rw[yz _ _ n2];refine yv _ (yv _ ?_);rw[yz _ _ n2];refine yv _ ?_;rw[yz _ _ n1];exact yv _ e
end
theorem qC:∀{us:List vy} {ns:List Int},IntsAre us ns->Vals (ns.map V.int) us
 | _,_,.nil=>.nil
 | _,_,.cons r t h=>.cons {_,rfl} (qC h)
section
variable {X:Cx}
def rX:fC X (.builtin "sorted") (λxs H Q=>∃(a:vE) (ns:List Int),xs=[.ref a]/\(aH X.K H a (ns.map V.int)\/cW X.K H a (ns.map V.int))/\⇑ns<64/\∀ns':List Int,ns'.Perm ns->ns'.Pairwise (·<=·)->∀l,H l=none->Q (.ref l) (upd H l (.lst (ns'.map V.int)))):=by
 intro pins s U H xs us Q I r h;let⟨a,ns,rfl,hq,h64,q⟩:=h;let⟨u,rfl,rx⟩:=vals1 r;cases rx;let fin:∀(its:List vy),⇑ns=⇑its->∀(out:Array vy) (ns':List Int),IntsAre out.toList ns'->ns'.Perm ns->ns'.Pairwise (·<=·)->EP X pins U Q (.ref (↑s+1)) {s with heap:=sortedAll s.heap its out}:=λits hl out ns' a1 a2 a3=>by
  let⟨n,hn⟩:=CV s.heap its out;refine{.ref _,_,I.laid (t':=s.toks) (a:=↑s+1) (o:=.lst (ns'.map V.int)) (uW s.heap its out) (x9 _) ?_,rfl,q ns' a2 a3 _ (I.b9.fresh (x9 _))};refine{by rw[za,a2.length_eq,yC];ext,out.toList,n,qC a1,by simpa using hn}
 rcases hq with hq | hq
 ·let⟨its,rv,p,_⟩:=I.list hq
  let hl:⇑ns=⇑its:=by have:=⇑rv;rw[za] at this;exact this
  exact sorted_ints p.isList (intsAre_of rv) () (fin its hl)
 ·let⟨its,rv,p,_⟩:=I.tuple hq
  let hl:⇑ns=⇑its:=by have:=⇑rv;rw[za] at this;exact this
  exact Kc p (intsAre_of rv) () (fin its hl)
theorem LL:∀{zs:List Str} {us:List vy},Vals (zs.map V.str) us->∃l:List (Str×Tok),us=strValues l/\l.map (·.1)=zs
 | [],_,.nil=>{[],rfl,rfl}
 | z::zs,_,.cons ⟨t,e⟩ r=>by
  let⟨l,e1,e2⟩:=LL r;subst e e1 e2;exact{(z,t)::l,rfl,rfl}
def rJoin (K:yB):V->List V->Hp->VK->Prop:=λx vs H Q=>∃(sep:Str) (a:vE) (zs:List Str),x=.str sep/\vs=[.ref a]/\aH K H a (zs.map V.str)/\(zs.map (λz:Str=>⇑z+⇑sep)).sum<=sizeLine/\Q (.str (Str.join sep zs)) H
theorem IZ (sep:Str):∀(zs:List Str) (k:Nat),zs.foldl (λn z=>n+⇑z+⇑sep) k=k+(zs.map (λz:Str=>⇑z+⇑sep)).sum
 | [],k=>by simp
 | z::zs,k=>by
  rw[List.foldl_cons,IZ sep zs,zj,wX];ext
theorem LJ (sep:Str):∀zs:List Str,(zs.map (·.length)).sum+⇑zs*⇑sep=(zs.map (λz:Str=>⇑z+⇑sep)).sum
 | []=>by simp
 | z::zs=>by
  let ih:=LJ sep zs;simp only[zj,wX,zv,Nat.succ_mul] at ih ⊢;ext
def gL:R5 X "str.join" (rJoin X.K):=by
 intro pins s U H x vs v us Q I rx rv h;let⟨sep,a,zs,rfl,rfl,hq,hz,q⟩:=h;let⟨tk,rfl⟩:=rx;let⟨u,rfl,ru⟩:=rv.one;cases ru;let⟨its,ri,p,_⟩:=I.list hq;let⟨l,e1,e2⟩:=LL ri;subst e1;let hl:Builtin.Str.tooLong ((l.map (·.1)).toArray.foldl (·+·.length+⇑sep) 0)=false:=by
  rw[e2,List.foldl_toArray,IZ,Nat.zero_add];exact ze ()
 let hj:Builtin.Str.glued sep (l.map (·.1))=Str.join sep zs:=by rw[e2];exact StrLaws.glued_eq_join sep zs
 let jl:⇑(Str.join sep zs)<=sizeLine:=by
  exact zM (StrLaws.join_length_le sep zs) (zM (Nat.le_of_eq (LJ sep zs)) hz)
 refine wB F.slot_str_join (wR s sep tk) F.entry_str_join (F.args_str_join_2 _ _) (meets_str_join_list sep tk a l hl) {p.isList,?_}
 match l,e2,hj with
 | [],e2,hj=>
  subst e2;exact{by rw[hj];exact jl,.str _,H,I.tok _,{_,rfl},by rw[hj];exact q}
 | [z],e2,hj=>
  subst e2;exact{.str _,H,I,{_,rfl},q}
 | z::z'::r,e2,hj=>
  subst e2;exact{by rw[hj];exact jl,.str _,H,I.tok _,{_,rfl},by rw[hj];exact q}
noncomputable def pL (x:Str) (n:Nat):Str:={(List.replicate n x.cps).foldl (·++·) #[]}
def Sk:R2:=λx y H Q=>∃(t:Str) (n:Int),x=.str t/\y=.int n/\0<=n/\n<=1000/\⇑t<=1000/\Q (.str (pL t n.toNat)) H
def qU (x:Str) (n:Nat):(pL x n).cps.toList=(List.replicate n x.cps.toList).flatten:=by
 let key:∀(n:Nat) (a:Array Nat),((List.replicate n x.cps).foldl (·++·) a).toList=a.toList++(List.replicate n x.cps.toList).flatten:=by
  intro n
  induction n with
  | zero=>intro a;simp
  | succ n ih=>intro a;rw[List.replicate_succ,List.foldl_cons,ih,List.replicate_succ,ya];simp
 have:=key n #[];show((List.replicate n x.cps).foldl (·++·) #[]).toList=_;rw[this];rfl
def Ie (x:Str) (n:Nat):⇑(pL x n)=n*⇑x:=by
 let e:⇑(pL x n)=⇑(pL x n).cps.toList:=yQ.symm;rw[e,qU];let e2:⇑x.cps.toList=⇑x:=yQ;simp[e2]
def OV (x:Str):pL x 1=x:=ly (by rw[qU];simp)
def Rr:oj X (binaryOp .Mult) Sk:=by
 intro pins s U H x y v u Q I rx ry h;let⟨t,n,rfl,rfl,h0,h1,hl,q⟩:=h;let⟨tk,rfl⟩:=rx;let⟨tk',rfl⟩:=ry;let sl:=yC;let hm:⇑t*n.toNat<=1000000:=by
  have:⇑t*n.toNat<=1000*1000:=wI hl ();ext
 refine P.mul_str (by rw[ze (),ze ()];rfl) (λh2 _=>?_) (λ_ _=>ze ()) ?_
 ·have:(2^63-1)/1000<=((2:Int)^63-1)/n:=by
   rw[Int.le_ediv_iff_mul_le ()];have:n*9223372036854775<=1000*9223372036854775:=wV h1 ∅;ext
  ext
 ·by_cases c1:n<1
  ·let e:n.toNat=0:=()
   rw[yO c1];rw[e] at q;exact{∅,.str _,H,I.tok _,{_,rfl},q}
  ·rw[yN c1]
   refine post_val_or_str {?_,λt' k=>{.str _,H,I.tok _,{_,rfl},?_}}
   ·split
    ·ext
    ·have:=Ie t n.toNat
     let e:n.toNat*⇑t=⇑t*n.toNat:=Nat.mul_comm _ _;show(pL t n.toNat).length<=sizeLine;ext
   ·let ee:(if(n == 1||⇑t == 0)=true then t else pL t n.toNat)=pL t n.toNat:=by
     split
     ·rename_i c2
      rw[Bool.or_eq_true,vi,vi] at c2;rcases c2 with rfl | c2
      ·exact(OV t).symm
      ·refine ly ?_
       let e2:t.cps.toList=[]:=yt.mp (by rw[yQ];exact c2);rw[qU,e2];simp
     ·rfl
    show Q (.str (if(n == 1||⇑t == 0)=true then t else pL t n.toNat)) H;rw[ee];exact q
end
def KD (P:vA) (w:vB) (K:yB) (a:vE) (kvs:List (Str×V)):Prop:=
 (a == sysModules)=false/\(kvs.map (·.1)).Nodup/\∀h:vF,K.In h->∃vs:List (Key×vy),KV (kvs.map λp=>((Sum.inr p.1:Key),p.2)) vs/\h.DictOf (dg P w) a vs
noncomputable def Jf (Pm:Params) (l:List (Str×Tok×vE)):List DictEntry:=l.map λp=>{PyData.keyHash Pm p.1,.str p.1 p.2.1,.ref p.2.2}
theorem Pu:∀{l:List Str},l.Nodup->(l.map (Sum.inr:Str->Key)).Nodup
 | [],_=>wa
 | x::r,h=>by
  rw[yd] at h;rw[zj,yd];exact{λz=>by let⟨y,hy,e⟩:=zH.mp z;exact h.1 (w6 e▸hy),Pu h.2}
def Vl {P:vA} {w:vB} {K:yB} {a:vE} {l:List (Str×Tok×vE)} {n:Nat} (hl:K.lookup a=some {cls:=.type "dict",data:=.dict (Jf w.params l).toArray n}) (hs:(a == sysModules)=false) (nd:(l.map (·.1)).Nodup) :
  KD P w K a (l.map λp=>(p.1,V.ref p.2.2)):=by
 let e1:(l.map λp=>(p.1,V.ref p.2.2)).map (·.1)=l.map (·.1):=by rw[zB];rfl
 refine{hs,by rw[e1];exact nd,λh X=>{l.map λp=>(Sum.inr p.1,.ref p.2.2),?_,_,_,_,X _ _ hl,{(rfl),rfl,rfl},rfl,?_,?_,?_}}
 ·clear hl nd e1
  induction l with
  | nil=>exact .nil
  | cons p r ih=>exact .cons {(rfl),rfl} ih
 ·intro e he
  rw[List.mem_toArray] at he;let⟨p,_,rfl⟩:=zH.mp he;exact{Sum.inr p.1,oG p.1 p.2.1,rfl}
 ·show PySem.Pairs _ (Jf w.params l) _
  clear hl nd e1
  induction l with
  | nil=>exact .nil
  | cons p r ih=>exact .cons (oG p.1 p.2.1) rfl ih
 ·let e2:(l.map λp=>((Sum.inr p.1:Key),(Value.ref p.2.2))).map (·.1)=(l.map (·.1)).map Sum.inr:=by rw[zB,zB];rfl
  rw[e2];exact Pu nd
noncomputable def sC (kvs:List (Str×V)) (k:Str):Option V:=(kvs.find? λp=>decide (p.1=k)).map (·.2)
theorem KN:∀{kvs:List (Str×V)} {vs:List (Key×vy)} (k:Str),KV (kvs.map λp=>((Sum.inr p.1:Key),p.2)) vs->mf (sC kvs k) (valueAt vs (Sum.inr k))
 | [],_,_,.nil=>trivial
 | (x,v)::r,_,k,.cons (b:=b) h t=>by
  let⟨h1,h2⟩:=h;let⟨bk,bv⟩:=b;dsimp only at h1 h2;subst h1
  by_cases e:x=k
  ·subst e
   simp only[sC,valueAt,yT,decide_true];exact h2
  ·let ih:=KN k t
   let e':¬((Sum.inr x:Key)=Sum.inr k):=λz=>e (w6 z);simp only[sC,valueAt,yT,e,e',decide_false] at ih ⊢;exact ih
def Tc (P:vA) (w:vB) (K:yB) (td ty:TE):TE:=λU H Q=>td U H λx H1=>ty U H1 λy H2=>∃a kvs k v,x=.ref a/\KD P w K a kvs/\y=.str k/\sC kvs k=some v/\Q v H2
def U1 (P:vA) (w:vB) (K:yB) (b:Bool) (ty td:TE):TE:=λU H Q=>ty U H λy H1=>td U H1 λx H2=>∃a kvs k,x=.ref a/\KD P w K a kvs/\y=.str k/\Q (.bl (b ^^ (sC kvs k).isSome)) H2
section
variable {X:Cx} {pos:Pos} {o i:Expr} {td ty:TE}
theorem mf.KO:∀{a:Option V} {b:Option vy},mf a b->a.isSome=b.isSome
 | some _,some _,_=>rfl
 | none,none,_=>rfl
 | some _,none,h=>h.elim
 | none,some _,h=>h.elim
def Im (ho:PE X o td) (hi:PE X i ty) (hs:Uz i):PE X (.Subscript o i pos) (Tc X.prog X.w X.K td ty):=by
 intro pins s U H Q I h;refine LK PySem.F.slot_dict_getitem.lookup hs (cX (ho pins s U H _ I h) λu s1 z0=>?_);let⟨x,H1,I1,rx,q1⟩:=z0;refine cX (hi pins s1 U H1 _ I1 q1) λiv s2 z1=>?_;let⟨y,H2,I2,ry,a,kvs,k,v,ex,kd,ey,hv,q2⟩:=z1;subst ex ey;obtain rfl:u=Value.ref a:=rx;let⟨tk,rfl⟩:=ry;let⟨hd,_,hk⟩:=kd;let⟨vs,rel,dd⟩:=hk _ I2.rF;let rv:=KN k rel;rw[hv] at rv;cases hw:valueAt vs (Sum.inr k) with
 | none=>rw[hw] at rv;exact rv.elim
 | some w'=>
  rw[hw] at rv;exact{dd.typeIs,wpAny_getItem_of (oG k tk) dd.mapOf hw {v,H2,I2.tok _,rv,q2}}
def Ro (hi:PE X i ty) (ho:PE X o td):PC X .In i o (U1 X.prog X.w X.K false ty td):=by
 intro pins s U H Q I h;refine cX (hi pins s U H _ I h) λiv s1 z0=>?_;let⟨y,H1,I1,ry,q1⟩:=z0;refine cX (ho pins s1 U H1 _ I1 q1) λu s2 z1=>?_;let⟨x,H2,I2,rx,a,kvs,k,ex,kd,ey,q2⟩:=z1;subst ex ey;obtain rfl:u=Value.ref a:=rx;let⟨tk,rfl⟩:=ry;let⟨hd,_,hk⟩:=kd;let⟨vs,rel,dd⟩:=hk _ I2.rF;refine wpAny_in_of (uB _ _ k tk) hd dd.mapOf ?_;let e:=mf.KO (KN k rel);exact{.bl _,H2,I2.tok _,rfl,by rw[e,Bool.false_xor] at q2;exact q2}
end
structure UC (X:Cx) (CX:LA) (k:Nat) (f:vE) (sp:Sp):Prop where
 ok:∃fd ps,dB X.prog X.w X.K X.mg X.base CX k f fd ps sp/\PySem.W.keepIn X.K (.ref f)=true/\Binds X.K fd ps []
def Te (Tb:vE->Sp->Prop) (E:XK) (i:Nat) (t:TA):TE:=λU H Q=>∃f sp,U[i]?=some (some (.ref f))/\Tb f sp/\t U H λvs H1=>sp vs H1 Q E
section
variable {X:Cx} {CX:LA} {k:Nat} {x:Str} {i:Nat} {p pos:Pos} {e:Expr} {es:List Expr} {t:TA} {E:XK}
def Iq (Tb:vE->Sp->Prop) (hT:∀f sp,Tb f sp->UC X CX k f sp) (hr:fP k X.A) (hv:PE X (.Name x p) (aW i)) (hx:Passes CX X E)
  (ha:PA X (e::es) t) (he:starEach (e::es) X.env=(false,eval e X.env)::starEach es X.env<|>qe_) (hpl:(backTo pos (starEach es X.env)).any (·.1)=false<|>qe_) :
  PE X (.Call (.Name x p) (e::es) [] pos) (Te Tb E i t):=by
 intro pins s U H Q I h;let⟨f,sp,hf,hTb,h⟩:=h;let⟨fd,ps,F,hk,hb⟩:=(hT f sp hTb).ok;refine xt (cX (hv pins s U H (λv H1=>v=.ref f/\H1=H) I {_,hf,rfl,rfl}) λu s1 z0=>?_);let⟨v,H1,I1,rv,ev,eH⟩:=z0;subst ev eH;obtain rfl:u=Value.ref f:=rv;refine vk (h₀:=X.base) I1.ok.mod.TZ hk (cX (ha pos pins s1 U _ _ I1 h) λus s2 z0=>?_) he hpl;let⟨vs,H2,I2,r,q⟩:=z0;refine{I2.rF,?_};exact OQ F hr hb .nil hx I2 r (by rw[zV];exact q)
end
def UW (sp:Sp) (t:TA) (C:vE) (th:TS):TS:=λD U H=>t U H λvs H1=>sp vs H1 (λv H2=>D.rt v H2) λcls _ H2=>cls=.ref C/\th D U H2
section
variable {X:Cx} {k:Nat} {f:vE} {fd:vD} {ps:List Str} {sp:Sp} {fx cn:Str} {p pos cpos pa np hpos:Pos} {e₀:Expr} {es:List Expr} {t:TA} {C:vE} {bm:List vy} {newId:String} {b₀:Stmt} {suite:List Stmt} {th:TS}
def Rh (F:dB X.prog X.w X.K X.mg X.base (JS X.prog X.w) k f fd ps sp) (hr:fP k X.A) (hg:Gl X fx) (hm:X.mg fx=some (.ref f)) (hk:PySem.W.keepIn X.K (.ref f)=true) (hb:Binds X.K fd ps []) (ha:PA X.Kz (e₀::es) t)
  (hc:X.calm=true) (hgc:Gl X cn) (hC0:PySem.W.nsIn X.K mainGlobals cn=some (some (.ref C))) (hQ0:PySem.W.excIn X.K C bm newId=true) (hbase:bm.contains (.type "BaseException")=true) (hstk:X.stack=X.env::X.outer) (hfrm:X.env.frame=some X.env.locals)
  (hsu:∀e,EV (X.held e).Kz (b₀::suite) th)
  (hdb:(fx == ("__debug__": Str))=false<|>qb_) (hdc:(cn == ("__debug__": Str))=false<|>qb_) (he:starEach (e₀::es) X.env=(false,eval e₀ X.env)::starEach es X.env<|>qe_) (hpl:(backTo cpos (starEach es X.env)).any (·.1)=false<|>qe_) :
  PS X (.Try [.Return (some (.Call (.Name fx p) (e₀::es) [] cpos)) pa] [.ExceptHandler (some (.Name cn np)) none (b₀::suite) hpos] [] [] pos) (UW sp t C th):=by
 intro pins s U H D I h;let O:OwnCls cn C bm newId X.mg X.base:=pQ X.prog I.ok.mod hC0 hQ0;refine wpAny_Try_except (wpAny_execs_cons ?_);refine wpAny_Return_some ?_;refine xt (jY I hg hm ?_ hdb);let hA:wpAny (model X.prog X.w) X.A (spliced (backTo cpos (starEach (e₀::es) X.env))) (AP X.Kz pins U _) (λ_ _=>False) s:=ha cpos pins s U H _ (I.qB _) h;refine vk (h₀:=X.base) I.ok.mod.TZ hk (xg hA (λus s1 z0=>?_) λ_ _ z=>z.elim) he hpl;let⟨vs,H1,I1',r,q⟩:=z0;refine{I1'.rF,?_};let I1:Inv X pins U H1 s1:=I1'.hJ;let hl:⇑us=⇑ps:=by rw[<-⇑r];exact F.len _ _ _ _ q
 refine wpAny_call (xU (F.run X.A X.stack s1 H1 {us,[]} us vs _ _ hr I1.RN (by have:=hb s1 us I1.rF (by rw[zV];exact hl);rw[zV] at this;exact this) r q) λrr s' hq=>?_);cases rr with
 | ok fl=>
  cases fl with
  | ret u=>
   let⟨v,H2,I2,r2,q2⟩:=I1.after hq;exact{v,U,H2,I2,r2,q2}
  | next=>exact False.elim hq
  | brk=>exact False.elim hq
  | cont=>exact False.elim hq
 | error ev=>
  let⟨a,cls,a0,B,H',rfl,os,bare,fl,fly,⟨rfl,q2⟩⟩:=hq;let IY:∀b∈o7 X.stack,H1 b=none:=I1.qG;let nf:∀{hh:vF},Heap.FunFrames hh B X.stack->∀b∈o7 X.stack,∃o,hh.get? b=some o/\∀vs,o.data≠.fields vs:=λhF b hb=>(hF.mem hb).2;let back:∀(hh:vF),N9 X.prog X.w (o7 X.stack) H1 H' s1.heap B hh->Inv X pins U H' {s' with heap:=hh}:=λhh fy=>
   I1.Qp (s':={s' with heap:=hh}) (ch:=[]) os (fy.un IY) (fy.b9.kept fy.lz) bare λb z=>absurd z (by simp)
  let hfr:X.A.frames=some (X.env::X.outer):=by rw[<-hstk];exact I1.ok.frames
  refine wpAny_looks_onW hfr hfrm (by rw[<-hstk];exact fl) λh4 held4 up4=>?_;refine wpAny_landsW held4 λh5 fl5 up5=>?_;let fl5':Heap.FlyingW B X.stack a (.ref C) a0 h5:=by rw[hstk];exact fl5
  let fy5:N9 X.prog X.w (o7 X.stack) H1 H' s1.heap B h5:=fly.on (up4.trans up5) fl5.1 (nf fl.2.2.1);let I5:=back h5 fy5;let⟨ob,hob,hobc⟩:=fl5'.there;let⟨tl,Nn,nm,qn,bs,hdct,sn,sub,ab,col,dd,k0,k1,k2,k3,k5,mN,hC,hN',hni,T⟩:=O.obj;refine wpAny_handleBy_cons (codeAny_handlers_test (jY (X:=X.held (.ref a)) (I5.held _) hgc O.bound ?_ hdc)) (by intro q;cases q);refine wpAny_excMatches_sub_self (I5.bk _ _ hC) hob hobc (T.hasType hbase) (codeAny_handlers_suite ?_);refine lands_againW fl5' λh6 fl6 up6=>?_;let fy6:N9 X.prog X.w (o7 X.stack) H1 H' s1.heap B h6:=fy5.on up6 fl6.1 (nf fl5'.2.2.1);let I6:=back h6 fy6;refine xg (hsu (.ref a) pins _ U H' D ((I6.held _).qB _) q2) (λfl s7 z=>?_) λ_ _ z=>z.elim;exact SP.lj I.ok.hd (SP.hJ z)
end
section
variable {prog:vA} {w:vB} {A:vC} {E:vy->vz->Prop} {s:vz}
def OZ (hd:(d == sysModules)=false) (ho:s.heap.get? d=some o) (hx:o.ExactDict) (hdat:o.data=.dict es ep)
  (hQ:Q (.ref ↑s) {s with heap:=s.heap.push {cls:=.type "dict_keyiterator",data:=.fields #[.ref d,.int 0 0,.int es.size 0,.int ep 0]}}) :
  wpAny (model prog w) A (pyIter (.ref d)) Q E s:=by
 let hT:s.TypeIs (.ref d) "dict":={(o),ho,hx.1}
 refine wpAny_pyIter_slot hT F.slot_dict_iter (xb F.slot_dict_iter hT F.entry_dict_iter ?_ (F.args_dict_iter_1 _));unfold Builtin.«dict.__iter__»;refine yu ?_;unfold Builtin.Dict.dictSlotNone;refine yu (wpAny_notOrdered_dict hT ?_);show wpAny _ _ (pure (Value.ref d)) _ _ s;refine yw ?_;show wpAny _ _ (Builtin.Dict.showsAll d >>= _) _ _ s;unfold Builtin.Dict.showsAll;rw[yN (by rw[hd];exact zL)];refine yu (yw ?_);refine yu (wpAny_dictEntries ho hdat ?_);refine yu (wpAny_dictEpoch ho hdat ?_);refine yu (xf (yw {_,rfl,"dict_keyiterator",_,{_,yx _ rfl,rfl},xZ.lookup,?_}))
 simpa[rawInt] using hQ
def O0 (hit:s.heap.IsKeyIter it d i es.size ep)
  (hod:s.heap.get? d=some od) (hdd:od.data=.dict es ep) (hx:es[i]?=some e)
  (hQ:∀h',h'.IsKeyIter it d (i+1) es.size ep->Heap.SameBut it s.heap h'->Q (some e.key) {s with heap:=h'}) :
  wpAny (model prog w) A (pyNext (.ref it)) Q E s:=by
 let⟨o,ho,hc,hd⟩:=id hit;unfold pyNext;refine yu (wW (yZ (name:=Str.ofString "__next__") hit.typeIs xZ
  (xb xZ hit.typeIs F.entry_dict_keyiterator_next ?_ (F.args_dict_keyiterator_next_1 _))))
 refine yu (yw ?_);refine yu ?_;refine yu ?_
 first | refine yu (xT hit.typeIs (yw ?_)) | refine yu (wx hit.typeIs (yw ?_))
 refine yu (wpAny_fieldsOf ho hd ?_);let hown:Builtin.Dict_items.ownsTuple "dict_keyiterator"= false:=by decide
 rw[hown,yN zL];show wpAny _ _ (if(Value.ref d == Value.none)=true then _ else _) _ _ s;rw[yN (show¬((Value.ref d == Value.none)=true) from zL)];refine yu (yw ?_);refine yu (wpAny_dictEntries hod hdd ?_);rw[yN (by simp)];refine yu (yw ?_);refine yu (wpAny_dictEpoch hod hdd ?_);rw[yN (by simp)];refine yw ?_;dsimp only;rw[yN (show¬((i:Int)<0) from by ext),x8,hx];dsimp only;refine yu ?_
 first | refine yu (xT hit.typeIs (yw ?_)) | refine yu (wx hit.typeIs (yw ?_))
 refine yu (wpAny_isOneOf_keyiter hit.typeIs ?_);show wpAny _ _ (setField (.ref it) 1 (rawInt ((i:Int)+1)) >>= _) _ _ s;refine yu (wpAny_setField ho hd (by simp) ?_);let hit':(s.heap.update it (Obj.mapFields (·.setIfInBounds 1 (rawInt ((i:Int)+1))))).IsKeyIter it d (i+1) es.size ep:=
  {_,yA _ ho (Obj.isFreed_of_fields (vm hd _)),(Obj.cls_mapFields ..).trans hc,by rw[vm hd];simp[rawInt]}
 refine yu (xJ ?_);refine yu (wpAny_isOneOf_keyiter (s:={s with heap:=s.heap.update it (Obj.mapFields (·.setIfInBounds 1 (rawInt ((i:Int)+1))))}) hit'.typeIs ?_);show wpAny _ _ (pure e.key) _ _ _;exact yw (yw {_,rfl,yw (hQ _ hit' (ve ..))})
def Ra (hh:A.handled=none) (hit:s.heap.IsKeyIter it d i es.size ep)
  (hod:s.heap.get? d=some od) (hdd:od.data=.dict es ep) (hx:es.size<=i)
  (hQ:∀h',Heap.ExtBut it s.heap h'->Q none {s with heap:=h'}):wpAny (model prog w) A (pyNext (.ref it)) Q E s:=by
 let⟨o,ho,hc,hd⟩:=id hit;unfold pyNext;refine yu (wW (yZ (name:=Str.ofString "__next__") hit.typeIs xZ
  (xb xZ hit.typeIs F.entry_dict_keyiterator_next ?_ (F.args_dict_keyiterator_next_1 _))))
 refine yu (yw ?_);refine yu ?_;refine yu ?_
 first | refine yu (xT hit.typeIs (yw ?_)) | refine yu (wx hit.typeIs (yw ?_))
 refine yu (wpAny_fieldsOf ho hd ?_);let hown:Builtin.Dict_items.ownsTuple "dict_keyiterator"= false:=by decide
 rw[hown,yN zL];show wpAny _ _ (if(Value.ref d == Value.none)=true then _ else _) _ _ s;rw[yN (show¬((Value.ref d == Value.none)=true) from zL)];refine yu (yw ?_);refine yu (wpAny_dictEntries hod hdd ?_);rw[yN (by simp)];refine yu (yw ?_);refine yu (wpAny_dictEpoch hod hdd ?_);rw[yN (by simp)];refine yw ?_;dsimp only;rw[yN (show¬((i:Int)<0) from by ext),x8,Array.getElem?_eq_none hx];dsimp only;refine yu ?_
 first | refine yu (xT hit.typeIs (yw ?_)) | refine yu (wx hit.typeIs (yw ?_))
 show wpAny _ _ (setField (.ref it) 0 .none >>= _) _ _ s;refine yu (wpAny_setField ho hd (by simp) ?_);show wpAny _ _ (newExc (.type "StopIteration") [] >>= _) _ _ _;refine yu ?_;simp only[newExc,newTuple];refine yu (xf ?_ (by size_fits));refine yu (m:=firstArgMember _ _) (wpAny_of_eq (a:=Value.none) (by first | rfl | (simp only[firstArgMember];rfl)) ?_);refine xf ?_ (by size_fits);simp only[raiseNew];refine yu (wpAny_handled ?_);rw[show A.in1.handled=none from hh];refine yu (yw (wpAny_throw ?_));refine yu (wpAny_isInstance (T:="StopIteration") (b:=true) {_,yx _ rfl,rfl} isSubtype_stop ?_);exact yw (hQ _ (((ve ..).extBut.push _).push _))
end
def QI (H:Hp) (d:vE) (o:Obj) (n:Nat) (kat:Hp->Nat->V->Prop):Prop:=∃u,H d=some (.mV o u)/\((∃kvs:List (Key×V),u=.dK kvs/\n=⇑kvs/\kat=λ_ i x=>∃p,kvs[i]?=some p/\x=kV p.1)\/
 ∃kvs:List (List Key×V),u=.dT kvs/\n=⇑kvs/\kat=λH i x=>∃p b,kvs[i]?=some p/\H b=some (.tup (p.1.map kV))/\x=.ref b)
theorem Ep {K:Type} [DecidableEq K] {prog:vA} {w:vB} {knd:KeyKind prog w K}:∀{es:List DictEntry} {kvs:List (K×vy)} {i:Nat} {e:DictEntry},PySem.Pairs knd es kvs->es[i]?=some e->∃kv,kvs[i]?=some kv/\knd.is kv.1 e.key=true/\e.val=kv.2
 | _,_,_,_,.nil,h=>by simp at h
 | _,_,0,_,.cons a b _,h=>by simp at h;subst h;exact{_,rfl,a,b}
 | _,_,i+1,_,.cons _ _ t,h=>by
  let⟨kv,h1,h2⟩:=Ep (i:=i) t (by simpa using h);exact{kv,by simpa using h1,h2}
theorem lN:∀{l:List α} {m:List β} {i:Nat} {b:β},Paired F l m->m[i]?=some b->∃a,l[i]?=some a/\F a b
 | _,_,_,_,.nil,h=>by simp at h
 | _,_,0,_,.cons r _,h=>by simp at h;subst h;exact{_,rfl,r}
 | _,_,i+1,_,.cons _ t,h=>by
  let⟨a,h1,h2⟩:=lN (i:=i) t (by simpa using h);exact{a,by simpa using h1,h2}
section
variable {X:Cx} {pins:List (vE×Obj)} {U:St} {H:Hp} {s:vz} {d:vE} {o:Obj} {n:Nat} {kat:Hp->Nat->V->Prop}
def QI.raw (f:QI H d o n kat) (I:Inv X pins U H s):(d == sysModules)=false/\∃es ep,s.heap.get? d=some o/\o.ExactDict/\o.data=.dict es ep/\es.size=n/\∀i e,es[i]?=some e->∃x,RelV x e.key/\kat H i x:=by
 let⟨u,hH,hu⟩:=f;let⟨ho,ok⟩:=(show cC X.prog X.w H s.heap d (.mV o u) from I.b9 d _ hH)
 rcases hu with⟨kvs,rfl,rfl,rfl⟩ | ⟨kvs,rfl,rfl,rfl⟩
 ·let⟨_,hd,vs,rel,o',es,ep,ho',hx,hdat,_,hp,_⟩:=ok
  let hl:es.size=⇑kvs:=by
   let h1:=⇑hp;let h2:⇑kvs=⇑vs:=x6 rel;let h3:⇑es.toList=es.size:=yQ;ext
  rw[ho] at ho';cases ho';refine{hd,es,ep,ho,hx,hdat,hl,λi e he=>?_};let⟨kv,h1,h2,_⟩:=Ep hp (i:=i) (e:=e) (by rw[xk];exact he);let⟨p,h3,h4,_⟩:=lN rel h1;refine{kV p.1,?_,p,h3,rfl};rw[<-h4] at h2;rcases di h2 with⟨j,t,e1,e2⟩ | ⟨y,t,e1,e2⟩
  ·rw[e1,e2];exact{(t),rfl}
  ·rw[e1,e2];exact{(t),rfl}
 ·let⟨_,hd,xs,rel,o',es,ep,ho',hx,hdat,he,_⟩:=ok
  let h3:⇑es.toList=es.size:=yQ;let hl:es.size=⇑kvs:=by
   let h2:⇑kvs=⇑xs:=x6 rel;rw[he,za] at h3;ext
  rw[ho] at ho';cases ho';refine{hd,es,ep,ho,hx,hdat,hl,λi e hi=>?_};rw[<-xk,he,zK] at hi;cases q:xs[i]? with
  | none=>rw[q] at hi;cases hi
  | some y=>
   rw[q] at hi;cases hi;let⟨p,h4,h5,h6,_⟩:=lN rel q;exact{.ref y.2.1,rfl,p,y.2.1,h4,h6,rfl}
end
noncomputable def Xl (d:vE) (o:Obj) (n:Nat) (kat:Hp->Nat->V->Prop):It:={λi H=>QI H d o n kat/\i<n,λi H x H'=>H'=H/\kat H i x,λi H=>QI H d o n kat/\n<=i}
def Mz {P:vA} {w:vB} {K:yB} {tg:Expr} (d it:vE) (n:Nat) (kat:Hp->Nat->V->Prop) (o:Obj) (es:Array DictEntry) (ep:Nat) (hdat:o.data=.dict es ep) (hn:es.size=n) :
  Turn P w K tg (Xl d o n kat) [it] it (λi h=>h.IsKeyIter it d i n ep) where
 mem:=by simp
 obj:=λi h st b hb=>by
  let e:b=it:=by simpa using hb
  subst e;let⟨o,e,c,d⟩:=st;exact{o,e,λv z=>by rw[d] at z;cases z}
 keep:=λi h h' st k=>st.at λo e=>k it (by simp) o e
 item:=by
  intro X hP hw hK hc i pins s U H E I hf st hg;subst hP hw hK hn;let⟨fz,hlt⟩:=hg;let⟨hd,es',ep',ho,hx,hdat',hsz,hk⟩:=fz.raw I;rw[hdat] at hdat';cases hdat';let⟨f0,f1,f2,f3,f4,f5⟩:=hf it (by simp);let he:es[i]?=some es[i]:=Array.getElem?_eq_getElem hlt;let⟨x,rx,kx⟩:=hk i _ he;refine O0 st ho hdat he λh' st' sb=>?_;let I1:Inv X pins U H {s with heap:=h'}:=I.turned (t':=s.toks) (λb o hb e=>(sb.2 b hb).trans e) f0 f1 f3 f4 f5;let⟨oi,e,c,dd⟩:=id st';exact{_,rfl,EE (s:={s with heap:=h'}) e c dd ∅ {x,H,I1,rx,{(rfl),kx},st',λb hb=>(hf b hb).1}}
 done:=by
  intro X hP hw hK hc i pins s U H E I hf st hg;subst hP hw hK hn;let⟨fz,hge⟩:=hg;let⟨hd,es',ep',ho,hx,hdat',hsz,hk⟩:=fz.raw I;rw[hdat] at hdat';cases hdat';let⟨f0,f1,f2,f3,f4,f5⟩:=hf it (by simp);exact Ra (I.ok.hd hc) st ho hdat hge λh' eb=>{rfl,I.turned (t':=s.toks) (λb o hb e=>eb b o hb e) f0 f1 f3 f4 f5}
 self:=λ_ _ _ _ _ st h=>wpAny_pyIter_keyiter st h
def Vr (td:TE):TI:=λU H R=>td U H λx H1=>∃d o n kat,x=.ref d/\QI H1 d o n kat/\R (Xl d o n kat) H1
section
variable {X:Cx} {tg l:Expr} {tl:TE}
def Rk (hl:PE X l tl):PI X tg l (Vr tl):=by
 intro pins s U H R I h;refine cX (hl pins s U H _ I h) λv s1 z0=>?_;let⟨x,H1,I1,r1,q1⟩:=z0;let⟨d,o,n,kat,e,fz,q⟩:=q1;subst e;cases r1;let⟨hd,es,ep,ho,hx,hdat,hsz,hk⟩:=fz.raw I1;refine OZ hd ho hx hdat ?_;refine{↑s1,[↑s1],_,_,H1,rfl,I1.kept (t':=s1.toks) λb o e=>yv _ e,Mz d _ n kat o es ep hdat hsz,{_,yx _ rfl,rfl,by rw[hsz];rfl},λb hb=>?_,q};let e:b=↑s1:=by simpa using hb
 subst e;exact I1.vT (zm _) (I1.b9.fresh (zm _))
end
def Ly (H:Hp) (d:vE) (o:Obj) (kvs:List (Key×V)):Prop:=H d=some (.mV o (.dK kvs))
noncomputable def QG (d:vE) (o:Obj) (kvs:List (Key×V)):It:={λi H=>Ly H d o kvs/\i<⇑kvs,λi H x H'=>H'=H/\∃p,kvs[i]?=some p/\x=p.2,λi H=>Ly H d o kvs/\⇑kvs<=i}
section
variable {X:Cx} {pins:List (vE×Obj)} {U:St} {H:Hp} {s:vz} {d:vE} {o:Obj} {kvs:List (Key×V)}
def Ly.at' (f:Ly H d o kvs) (I:Inv X pins U H s):(d == sysModules)=false/\∃vs es ep,KV kvs vs/\o.data=.dict es ep/\s.heap.DictAt (dg X.prog X.w) d vs ep:=by
 let⟨ho,ok⟩:=(show cC X.prog X.w H s.heap d (.mV o (.dK kvs)) from I.b9 d _ f)
 let⟨_,hd,vs,rel,o',es,ep,ho',hx,hdat,hk,hp,nd⟩:=ok;rw[ho] at ho';cases ho';exact{(hd),vs,es,ep,rel,hdat,o,es,ho,hx,hdat,hk,hp,nd}
end
def Hj {P:vA} {w:vB} {K:yB} {tg:Expr} (d it:vE) (o:Obj) (kvs:List (Key×V)) (es:Array DictEntry) (ep:Nat) (hdat:o.data=.dict es ep) :
  Turn P w K tg (QG d o kvs) [it] it (λi h=>h.IsValIter it d i ⇑kvs ep) where
 mem:=by simp
 obj:=λi h st b hb=>by
  let e:b=it:=by simpa using hb
  subst e;let⟨o,e,c,d⟩:=st;exact{o,e,λv z=>by rw[d] at z;cases z}
 keep:=λi h h' st k=>st.at λo e=>k it (by simp) o e
 item:=by
  intro X hP hw hK hc i pins s U H E I hf st hg;subst hP hw hK;let⟨fz,hlt⟩:=hg;let⟨hd,vs,es',ep',rel,hdat',da⟩:=fz.at' I;rw[hdat] at hdat';cases hdat';let⟨f0,f1,f2,f3,f4,f5⟩:=hf it (by simp);let hl:⇑kvs=⇑vs:=x6 rel;let hi:vs[i]?=some (vs[i]'()):=zd ();let⟨p,h3,h4,h5⟩:=lN rel hi;refine wpAny_pyNext_values_item (by rw[<-hl];exact st) da hi λh' st' sb=>?_;let I1:Inv X pins U H {s with heap:=h'}:=I.turned (t':=s.toks) (λb o hb e=>(sb.2 b hb).trans e) f0 f1 f3 f4 f5;let⟨oi,e,c,dd⟩:=id st';exact{_,rfl,EE (s:={s with heap:=h'}) e c dd ∅ {p.2,H,I1,h5,{(rfl),p,h3,rfl},by rw[hl];exact st',λb hb=>(hf b hb).1}}
 done:=by
  intro X hP hw hK hc i pins s U H E I hf st hg;subst hP hw hK;let⟨fz,hge⟩:=hg;let⟨hd,vs,es',ep',rel,hdat',da⟩:=fz.at' I;rw[hdat] at hdat';cases hdat';let⟨f0,f1,f2,f3,f4,f5⟩:=hf it (by simp);let hl:⇑kvs=⇑vs:=x6 rel;exact wpAny_pyNext_values_end (I.ok.hd hc) (by rw[<-hl];exact st) da (by simp;ext) λh' eb=>{rfl,I.turned (t':=s.toks) (λb o hb e=>eb b o hb e) f0 f1 f3 f4 f5}
 self:=λ_ _ _ _ _ st h=>wpAny_pyIter_valiter st h
def RH (td:TE):TI:=λU H R=>td U H λx H1=>∃d o kvs,x=.ref d/\Ly H1 d o kvs/\R (QG d o kvs) H1
section
variable {X:Cx} {tg l:Expr} {tl:TE} {apos cpos:Pos}
def MW (hl:PE X l tl) (hbase:attributeBase l "values" X.env (eval l X.env)=eval l X.env<|>qe_) (hline:(apos.endLine == cpos.line)=true<|>qe_):PI X tg (.Call (.Attribute l "values" apos) [] [] cpos) (RH tl):=by
 intro pins s U H R I h;refine wpAny_Call_method0_late hbase hline (cX (hl pins s U H _ I h) λv s1 z0=>?_);let⟨x,H1,I1,r1,q1⟩:=z0;let⟨d,o,kvs,e,fz,q⟩:=q1;subst e;cases r1;let⟨hd,vs,es,ep,rel,hdat,da⟩:=fz.at' I1;refine{"dict","dict.values",F.plainAttrs_dict,F.slot_dict_values,F.type_dict_values,da.dictOf.typeIs,da.dictOf.mapOf.noDict,wO rfl (PySem.evalArgs_none ?_)};refine call_meetsIn F.slot_dict_values da.dictOf.typeIs F.entry_dict_values (F.args_dict_values_1 _) (meets_dict_values (dg X.prog X.w) d hd) {{(vs),da.dictOf},?_};let I2:Inv X pins U H1 {s1 with heap:=s1.heap.push {cls:=.type "dict_values",data:=.fields #[.ref d]}}:=I1.kept (t':=s1.toks) λb o e=>yv _ e;let⟨_,vs2,es2,ep2,rel2,hdat2,da2⟩:=fz.at' I2;rw[hdat] at hdat2;cases hdat2;let hl2:⇑kvs=⇑vs2:=x6 rel2;refine wpAny_pyIter_values (knd:=dg X.prog X.w) {_,yx _ rfl,rfl,rfl} da2 ?_;refine{_,[_],_,_,H1,rfl,I2.kept (t':=s1.toks) λb o e=>yv _ e,Hj d _ o kvs es ep hdat,{_,yx _ rfl,rfl,by rw[hl2];rfl},λb hb=>?_,q};rw[zA.mp hb];exact I2.vT (zm _) (I2.b9.fresh (zm _))
end
def KQ {d:vE} {o:Obj} {kvs:List (Key×V)} {g:TG} {tb:TS} {D:Ends} {U:St} {H:Hp} (Pv:Nat->St->Hp->Prop) (h0:Pv 0 U H) (hf:∀i U H,i<=⇑kvs->Pv i U H->Ly H d o kvs)
  (hs:∀i p U H,kvs[i]?=some p->Pv i U H->g p.2 U H λσ2 H2=>tb {D with nx:=Pv (i+1),ct:=Pv (i+1),bk:=D.nx} σ2 H2) (hd:∀U H,Pv ⇑kvs U H->D.nx U H) :
  ∃W:Nat->Nat->St->Hp->Prop,(∃m,W 0 m U H)/\∀i m U H,W i m U H->
   ((QG d o kvs).stop i H/\D.nx U H)\/((QG d o kvs).go i H/\∃Nn:St->Hp->Prop,(∀U' H',Nn U' H'->∃m',m'<m/\W (i+1) m' U' H')/\∀v H',(QG d o kvs).JV i H v H'->g v U H' λσ2 H2=>tb {D with nx:=Nn,ct:=Nn,bk:=D.nx} σ2 H2):=by
 refine{λi m U H=>m=⇑kvs-i/\i<=⇑kvs/\Pv i U H,{⇑kvs,by simp,yg _,h0},?_};rintro i m U H ⟨rfl,hi,pv'⟩;rcases xI i ⇑kvs with hlt | hge
 ·refine .inr {{hf i U H hi pv',hlt},Pv (i+1),λU' H' p'=>{⇑kvs-(i+1),(),rfl,hlt,p'},λv H' y=>?_}
  let⟨e1,p,hp,e2⟩:=y;rw[e1,e2];exact hs i p U H hp pv'
 ·let e:i=⇑kvs:=()
  subst e;exact .inl {{hf _ U H hi pv',zm _},hd U H pv'}
noncomputable def Vp:HO->Bool
 | .dK _=>true
 | .dT _=>true
 | _=>false
def dB.Sf {P:vA} {w:vB} {K:yB} {mg:Str->Option vy} {base:vF} {k:Nat} {f:vE} {fd:vD} {ps:List Str} {sp sp':Sp} (F:dB P w K mg base JT k f fd ps sp) (len:∀vs H Q E,sp' vs H Q E->⇑vs=⇑ps)
  (h:∀vs H Q E,sp' vs H Q E->∃d u,H d=some u/\Vp u=true/\∀o,sp vs (upd H d (.mV o u)) (λv H'=>Q v (upd H' d u)) E):dB P w K mg base JT k f fd ps sp':=by
 refine{len,λA outer s H args us vs Q E hr e hb hv hs=>?_};let⟨d,u,hd,hu,hsp⟩:=h vs H Q E hs;let okd:=e.b9 d u hd;let⟨o,ho⟩:=okd.here;let nt:∀xs,u≠.tup xs:=λxs z=>by rw[z] at hu;cases hu
 let no:∀x,u≠.own x:=λx z=>by rw[z] at hu;cases hu
 let nf:∀a b,u≠.mV a b:=λa b z=>by rw[z] at hu;cases hu
 let nb:∀a,u≠.Ot a:=λa z=>by rw[z] at hu;cases hu
 let off:∀b,H b=none->b≠d:=λb n z=>by rw[z,hd] at n;cases n
 let tup1:∀b xs,H b=some (.tup xs)->upd H d (.mV o u) b=some (.tup xs):=λb xs q=>by rw[aC (λz=>by rw[z,hd] at q;exact nt xs (yk q))];exact q
 let own1:∀b x,H b=some (.own x)->upd H d (.mV o u) b=some (.own x):=λb x q=>by rw[aC (λz=>by rw[z,hd] at q;exact no x (yk q))];exact q
 let e1:JR P w K mg base A outer s (upd H d (.mV o u)):=by
  refine{e.frames,e.mod,λb ob q=>{(e.bs b ob q).1,by rw[aC (off b (e.bs b ob q).2)];exact(e.bs b ob q).2},e.N6,e.oU,λb hb=>by rw[aC (off b (e.IY b hb))];exact e.IY b hb,λb ub q=>?_,e.bare}
  by_cases hbd:b=d
  ·subst hbd
   rw[aB] at q;cases q;exact{ho,okd.lz (λ_ _ _ z=>z) (λc z=>own1 c _ z) tup1}
  ·rw[aC hbd] at q
   exact(e.b9 b ub q).lz (λ_ _ _ z=>z) (λc z=>own1 c _ z) tup1
 refine xU (F.run A outer s _ args us vs _ E hr e1 hb hv (hsp o)) λr s' hq=>?_;cases r with
 | error x=>exact hq
 | ok fl=>
  cases fl with
  | next=>exact hq
  | brk=>exact hq
  | cont=>exact hq
  | ret uv=>
   let⟨v,H',os,bare,un,b9,rv,q⟩:=hq;let hd':H' d=some (.mV o u):=un.mU d o u aB;let off1:∀b,H b=none->upd H d (.mV o u) b=none:=λb n=>by rw[aC (off b n)];exact n
   let back:∀b z,H b=some z->b≠d->upd H d (.mV o u) b=some z:=λb z q n=>by rw[aC n];exact q
   refine{v,upd H' d u,os,bare,{λb ob q n hb hx=>un.keep b ob q (off1 b n) hb hx,λb ob q n hb hx=>un.slot b ob q (off1 b n) hb hx,λb ob q n hx=>by rw[aC (off b n)];exact un.free b ob q (off1 b n) hx,un.there,
    λb xs q=>?_,λb ob uu q=>?_,λb ps' q=>?_},λb ub q=>?_,rv,q}
   ·let n:b≠d:=λz=>by rw[z,hd] at q;exact nt xs (yk q)
    rw[aC n];exact un.oO b xs (back b _ q n)
   ·let n:b≠d:=λz=>by rw[z,hd] at q;exact nf ob uu (yk q)
    rw[aC n];exact un.mU b ob uu (back b _ q n)
   ·let n:b≠d:=λz=>by rw[z,hd] at q;exact nb ps' (yk q)
    let⟨m,z⟩:=un.oP b ps' (back b _ q n);exact{m,by rw[aC n];exact z}
   ·let own2:∀c x,H' c=some (.own x)->upd H' d u c=some (.own x):=λc x z=>by rw[aC (λy=>by rw[y,hd'] at z;cases z)];exact z
    let tup2:∀c xs,H' c=some (.tup xs)->upd H' d u c=some (.tup xs):=λc xs z=>by rw[aC (λy=>by rw[y,hd'] at z;cases z)];exact z
    by_cases hbd:b=d
    ·subst hbd
     rw[aB] at q;cases q;let⟨_,ok'⟩:=(show cC P w H' s'.heap b (.mV o u) from b9 b _ hd')
     exact ok'.lz (λ_ _ _ z=>z) (λc z=>own2 c _ z) tup2
    ·rw[aC hbd] at q
     exact(b9 b ub q).lz (λ_ _ _ z=>z) (λc z=>own2 c _ z) tup2
noncomputable def Ii (U:List Str) (x:Str):List Str:=if x∈U then U else U++[x]
noncomputable def gD (l:List Str):List Str:=l.foldl Ii []
def Jj (l:List Str):⇑(gD l)<=⇑l/\(⇑(gD l)=⇑l↔l.Nodup):=by
 let key:∀(l U:List Str),U.Nodup->⇑(l.foldl Ii U)<=U.length+⇑l/\(⇑(l.foldl Ii U)=U.length+⇑l↔(U++l).Nodup):=by
  intro l
  induction l with
  | nil=>intro U h;simp[h]
  | cons x l ih=>
   intro U h;rw[List.foldl_cons,zv]
   by_cases hx:x∈U
   ·rw[show Ii U x=U from yO hx]
    have:=ih U h;refine{(),{λe=>(),λe=>?_}};exact absurd hx (λz=>(zT.mp e).2.2 x z x zr rfl)
   ·rw[show Ii U x=U++[x] from yN hx]
    let hn:(U++[x]).Nodup:=zT.mpr {h,by simp,λa ha b hb e=>by rw[zA.mp hb] at e;exact hx (e▸ha)};have:=ih (U++[x]) hn;rw[zh,List.length_singleton,zF,List.singleton_append] at this;exact{(),{λe=>this.2.mp (),λe=>by have:=this.2.mpr e;ext}}
 have:=key l [] wa
 simpa[gD] using this
def sub_tuple_set:isSubtype (.type "tuple") (.type "set")=pure false:=by rw[isSubtype_type];kernel_rfl
def sub_tuple_frozenset:isSubtype (.type "tuple") (.type "frozenset")=pure false:=by rw[isSubtype_type];kernel_rfl
section
variable {prog:vA} {w:vB}
def OL {A:vC} {R:Result->vz->Prop} {I:vE} {fp wr:List vE} {G:Array GenState->Array GenState->Prop} {n:Nat} {P:Nat->vy->Prop} {St:Nat->vz->Prop} (W:WalksS prog w A.in1 I fp wr G n P St) (S:vE) (hSf:S∉fp)
  (zs:List Str) (hn:n=⇑zs) (hval:∀i v,P i v->∃z t,zs[i]?=some z/\v=.str z t) (hb:n+1<scanBound) :
  ∀(k i:Nat) (s:vz),n-i=k->i<=n->St i s->s.heap.SetOf (PySem.strKind prog w) S (λx=>decide (x∈gD (zs.take i))) ⇑(gD (zs.take i))->
   (∀s',Moved (S::wr) G s s'->s'.heap.SetOf (PySem.strKind prog w) S (λx=>decide (x∈gD zs)) ⇑(gD zs)->R (.ok (.ret .none)) s')->
   codeAny (model prog w) A (.builtin "set.update.loop" {[.ref S,.ref I],[]}) R s:=by
 let hSw:S∉wr:=λh=>hSf (W.sub _ h);let hsub:∀b∈wr,b∈S::wr:=λb hb=>zp _ hb;intro k
 induction k with
 | zero=>
  intro i s hk hi hst hS hR;let hin:i=n:=()
  subst hin;rw[hn,zN] at hS;refine xX F.entry_set_update_loop ?_;rw[w9 F.plain_set_update_loop _];show wpAny _ A.in1 (pyNext (.ref I) >>= _) _ _ s;refine yu (W.done s _ _ hst λs' hm=>?_);let⟨o,es,ep,t,ho,rest⟩:=hS;exact yw (hR s' (hm.mono hsub) {o,es,ep,t,hm.heap S _ hSw ho,rest})
 | succ k ih=>
  intro i s hk hi hst hS hR;let hlt:i<n:=()
  refine xX F.entry_set_update_loop ?_;rw[w9 F.plain_set_update_loop _];show wpAny _ A.in1 (pyNext (.ref I) >>= _) _ _ s;refine yu (W.item i s _ _ hlt hst λv s' hP hst' hm=>?_);let⟨z,t,hz,rfl⟩:=hval i v hP;let⟨o,es,ep,tb,ho,rest⟩:=hS;let hS':s'.heap.SetOf (PySem.strKind prog w) S (λx=>decide (x∈gD (zs.take i))) ⇑(gD (zs.take i)):={o,es,ep,tb,hm.heap S _ hSw ho,rest}
  show wpAny _ A.in1 (holding [Value.str z t] (setAdd S (.str z t)) >>= _) _ _ s';refine yu (xJ ?_);unfold setAdd;refine xJ ?_;refine yu ((PySem.strKind prog w).pyHash (k:=z) (strKind_is _ _ _ _) ?_);let hl:=(Jj (zs.take i)).1;rw[zQ] at hl;refine wpAny_setAddHashed_of (knd:=PySem.strKind prog w) (s:={s' with toks:=s'.toks+1}) (strKind_is _ _ _ _) rfl hS' () λh' hsb hS2=>?_;let et:zs.take (i+1)=zs.take i++[z]:=by rw[List.take_succ,hz];rfl
  let ed:gD (zs.take (i+1))=Ii (gD (zs.take i)) z:=by rw[et];unfold gD;rw[zY];rfl
  let hSi:h'.SetOf (PySem.strKind prog w) S (λx=>decide (x∈gD (zs.take (i+1)))) ⇑(gD (zs.take (i+1))):=by
   refine SetOf_congr hS2 (λx=>?_) ?_
   ·rw[ed]
    unfold Ii
    by_cases hx:z∈gD (zs.take i)
    ·rw[yO hx]
     by_cases e:x=z
     ·subst e;simp[hx]
     ·simp[e]
    ·rw[yN hx];simp[zG]
   ·rw[ed]
    unfold Ii
    by_cases hx:z∈gD (zs.take i) <;> simp[hx]
  refine yw {plainId_quiet F.plain_set_update_loop _,ih (i+1) _ () hlt (W.frame _ s' _ _ hst' (x9 _) λb hb o e=>?_) hSi λs'' hm'' hS''=>?_}
  ·rw[hsb.2 b (λh:b=S=>hSf (by rw[<-h];exact hb))];exact e
  ·refine hR s'' (Moved.trans W.gtrans ((hm.mono hsub).then_heap (x9 _) λb o hb e=>?_) hm'') hS''
   rw[hsb.2 b (λh:b=S=>hb (by rw[h];exact zr))];exact e
variable {A:vC} {E:vy->vz->Prop} {s:vz}
def Kf {l:vE} {items:Array vy} {zs:List Str} {Q:vy->vz->Prop} (hh:A.handled=none) (hl:IsTup s.heap l items) (hi:∀(i:Nat) (v:vy),items[i]?=some v->∃z t,zs[i]?=some z/\v=.str z t) (hn:items.size=⇑zs) (hb:items.size+1<scanBound)
  (h:∀(h':vF) (tk:Nat),h'.SetOf (PySem.strKind prog w) ↑s (λx=>decide (x∈gD zs)) ⇑(gD zs)->(∀b o,b<↑s->s.heap.get? b=some o->h'.get? b=some o)->Q (.ref ↑s) {s with heap:=h',toks:=tk}) :
  wpAny (model prog w) A (call (.type "set") [.ref l]) Q E s:=by
 let⟨c,tl,hmro⟩:=F.called_set.mro;let hmade:=F.called_set.made;let hsub:=F.called_set.sub;refine wpAny_call (codeAny_of_tree ?_);show wpAny _ _ (callAny (.type "set") _) _ _ _;refine yw {Code.quiet_builtin _ (by decide +kernel),xX F.entry_type_call ?_};rw[Around.under_plain (weight_type_call_type "set" [.ref l] []) rfl];let h1:=F.called_set.notType;let h2:=F.called_set.canCreate;let hct:=F.typeCall_set_1 (.ref l)
 repeat (any_goals (first | assumption | wp_step))
 letI fresh:Bool->Obj:=λled=>{cls:=.type "set",dict:=none,data:=.set #[] 0 (.fresh 0 0 led)}
 refine xU (code_set_new_1 (.ref l) (E:=E) (Q₁:=λobj s₁=>∃led:Bool,obj=.ref ↑s/\s₁={s with heap:=s.heap.push (fresh led)}) λled=>{(led),rfl,rfl}) λr s₁ hr=>?_;cases r with
 | error e=>exact hr
 | ok fl=>
  cases fl with
  | next=>exact hr.elim
  | brk=>exact hr.elim
  | cont=>exact hr.elim
  | ret obj=>
   let⟨led,rfl,rfl⟩:=hr;let hS:(s.heap.push (fresh led)).get? ↑s=some (fresh led):=yx _ rfl;let hT:Shared.TypeIs {s with heap:=s.heap.push (fresh led)} (.ref ↑s) "set":={_,hS,rfl}
   let hli:=F.called_set.init.lookup;let hbi:=F.called_set.init.bind (.ref ↑s)
   repeat (any_goals (first | assumption | wp_step))
   refine xU (codeAny_call_builtin (R:=wants (λr s₂=>r=.none/\∃h' tk,s₂={s with heap:=h',toks:=tk}/\h'.SetOf (PySem.strKind prog w) ↑s (λx=>decide (x∈gD zs)) ⇑(gD zs)/\
     (∀b o,b<↑s->s.heap.get? b=some o->h'.get? b=some o)) E) F.called_set.init.plain F.entry_set_init (check_set_init_1 hT ?_)) λr₂ s₂ hr₂=>?_
   ·let⟨⟨ocls,odict,odata,oslots⟩,hol,hcl,nl,hdl⟩:=hl
    simp only at hcl hdl;subst hcl hdl;let hol':(s.heap.push (fresh led)).get? l=some {cls:=.type "tuple",dict:=odict,data:=.seq items nl,slots:=oslots}:=yv _ hol;let hsls:=sub_tuple_set;let hslf:=sub_tuple_frozenset;let hne:(Value.type "tuple"== Value.type "dict")=false:=by decide
    let hl1:(s.heap.push (fresh led)).IsTuple l items:={_,hol',rfl,nl,rfl}
    unfold Builtin.«set.__init__» noKeywords Builtin.Frozenset.updateFrom;generalize hPI:pyIter=PI;wp_walk;subst hPI;refine wpAny_pyIter_tuple hl1 ?_;refine yu (wpAny_runValue ?_);let hlS:l<↑s:=yy hol;let hh3:A.in1.in1.in1.handled=none:=by simp[hh]
    let hz:(s.heap.push (fresh led)).objs.size=↑s+1:=xm ..;let hSf:↑s∉[(s.heap.push (fresh led)).objs.size,l]:=by
     rw[hz];simp only[zD,zE,yV,not_or];exact{yj (xR _),yi hlS}
    refine OL ((Walks.tuple hh3 _ l (by rw[hz];exact yj (wM hlS)) items).toS) ↑s hSf zs hn hi hb (items.size-0) 0 _ () (yg _)
     {{_,yx _ rfl,rfl,rfl},(hl1.push _)} ?hS0 ?hR
    case hS0=>
     exact SetOf_congr ((setObjOf_fresh (knd:=PySem.strKind prog w) led).setOf (yv _ hS) (by unfold scanBound;ext)) (λ_=>rfl) rfl
    case hR=>
     intro s' hm hS';let⟨h',g',d',tk',os'⟩:=s';let eg:g'=s.gens:=hm.gens;let ed:d'=s.drawn:=hm.drawn;let eo:os'=s.os:=hm.os;subst eg ed eo;refine yw (yw {rfl,h',tk',rfl,hS',λb o hb e=>?_});refine hm.heap b o ?_ (yv _ (yv _ e));simp only[zD,zE,yV,not_or];exact{yj hb,by rw[hz];exact yj (wM hb)}
   ·cases r₂ with
    | error e=>exact hr₂
    | ok fl₂=>
     cases fl₂ with
     | next=>exact hr₂.elim
     | brk=>exact hr₂.elim
     | cont=>exact hr₂.elim
     | ret r=>
      let⟨rfl,h',tk,rfl,hS',hk'⟩:=hr₂
      repeat (any_goals (first | assumption | wp_step))
      exact h _ _ hS' hk'
end
noncomputable def JQ (a:vE) (n:Nat):HO:=.ext λh=>∃o es ep t,h.get? a=some o/\o.ExactSet/\o.data=.set es ep t/\t.fits es.size=true/\es.size=n
section
variable {X:Cx}
def NJ (hc:X.calm=true):fC X (.type "set") (λxs H Q=>∃(a:vE) (zs:List Str),xs=[.ref a]/\cW X.K H a (zs.map V.str)/\⇑zs<=1000/\∀p,H p=none->Q (.ref p) (upd H p (JQ p ⇑(gD zs)))):=by
 intro pins s U H xs us Q I r h;let⟨a,zs,rfl,hq,hz,q⟩:=h;let⟨u,rfl,rx⟩:=vals1 r;cases rx;let⟨its,rv,p,_⟩:=I.tuple hq;let hl:⇑zs=⇑its:=by have:=⇑rv;rw[za] at this;exact this
 refine Kf (zs:=zs) (I.ok.hd hc) p (λi v hv=>?_) (by rw[yb,hl]) (by rw[yb];unfold scanBound;ext) λh' tk hS hk=>?_
 ·let hv':its[i]?=some v:=by simpa using hv
  let hi:i<⇑its:=(zy.mp hv').1;let⟨z,t,e1,e2⟩:=OC rv hi;have:=(zy.mp hv').2;exact{z,t,e1,by rw[<-this,e2]}
 ·let⟨o,es,ep,t,ho,hex,hd,hel,hmem,hb,hf,hn⟩:=hS
  refine{.ref _,_,I.laid (t':=tk) (a:=↑s) (o:=JQ ↑s ⇑(gD zs)) (λb ob e=>hk b ob (yy e) e) (zm _) ?_,rfl,q _ (I.b9.fresh (zm _))};exact{{(o),es,ep,t,ho,hex,hd,hf,hn},{(o),ho},λh1 h2 ⟨o,es,ep,t,e1,r⟩ kk=>{o,es,ep,t,kk o e1,r}}
def NL:fC X (.builtin "len") (λxs H Q=>∃(p:vE) (n:Nat),xs=[.ref p]/\H p=some (JQ p n)/\n<=1000/\Q (.int n) H):=by
 intro pins s U H xs us Q I r h;let⟨p,n,rfl,hp,hn,q⟩:=h;let⟨u,rfl,rx⟩:=vals1 r;cases rx;let⟨⟨o,es,ep,t,ho,hex,hd,hf,rfl⟩,_⟩:=(show cC X.prog X.w H s.heap p (JQ p n) from I.b9 p _ hp)
 exact call_len_set ho hex hd hf () {.int _,H,I.tok _,{_,rfl},q}
end
noncomputable def Rj:V->Bool
 | .bP=>true
 | .int _=>true
 | .str _=>true
 | _=>false
def Ik (h:Rj x=true):mK x=true:=by cases x <;> first | rfl | cases h
def Tz {x y:V} (a:Rj x=true) (b:Rj y=true):RM x y=decide (x=y):=by
 cases x <;> first | cases a;done | skip
 all_goals (cases y <;> first | rfl | exact Ge.symm | exact Gb.symm | cases b)
def Xh (K:yB) (H:Hp) (a b:vE) (xs ys:List V):Prop:=(aH K H a xs/\aH K H b ys)\/(cW K H a xs/\cW K H b ys)
def W8 (xs ys:List V):Prop:=xs=[]\/ys=[]\/(xs.all Rj=true/\ys.all Rj=true)
inductive WK (K:yB) (x y:V) (H:Hp) (Q:VK):Prop
 | mk (a b:vE) (xs ys:List V) (_:x=.ref a) (_:y=.ref b) (_:Xh K H a b xs ys) (_:W8 xs ys) (_:Q (.bl (decide (xs=ys))) H)
inductive Tu (K:yB) (x y:V) (H:Hp) (Q:VK):Prop
 | mk (a b:vE) (xs ys:List V) (_:x=.ref a) (_:y=.ref b) (_:Xh K H a b xs ys) (_:W8 xs ys) (_:Q (.bl (!decide (xs=ys))) H)
def LG (r:Vals xs its) (h:j<⇑its):∃x,xs[j]?=some x/\RelV x its[j]:=by
 let hl:=⇑r;let⟨u,hu,ru⟩:=r.get (i:=j) (x:=xs[j]'()) (zd ());rw[zd h] at hu;cases hu;exact{_,zd (),ru}
section
variable {X:Cx}
def Ga (r:Vals xs its) (r':Vals ys jts) (p:W8 xs ys):∀j (h1:j<its.toArray.size) (h2:j<jts.toArray.size),SeqAt.EqAt A s its.toArray[j] jts.toArray[j] (decide (xs[j]?=ys[j]?)):=by
 intro j h1 h2;let h1':j<⇑its:=by simpa using h1
 let h2':j<⇑jts:=by simpa using h2
 let⟨x,ex,rx⟩:=LG r h1';let⟨y,ey,ry⟩:=LG r' h2';let l1:=⇑r;let l2:=⇑r';let hp:Rj x=true/\Rj y=true:=by
  rcases p with e | e | ⟨q1,q2⟩
  ·rw[e] at ex;simp at ex
  ·rw[e] at ey;simp at ey
  ·exact{yp.mp q1 x (zC ex),yp.mp q2 y (zC ey)}
 let g1:its.toArray[j]=its[j]:=by simp
 let g2:jts.toArray[j]=jts[j]:=by simp
 let z:=Qb (A:=A) (s:=s) rx ry (Ik hp.1) (Ik hp.2);rw[Tz hp.1 hp.2] at z;let e:decide (xs[j]?=ys[j]?)=decide (x=y):=by rw[ex,ey,xO];simp
 rw[g1,g2,e];exact z
def all_eq {xs ys:List V} (h:⇑xs=⇑ys):((List.range ⇑xs).all λj=>decide (xs[j]?=ys[j]?))=decide (xs=ys):=by
 rw[xO,yp,xF];constructor
 ·intro hh
  refine List.ext_getElem? λj=>?_;rcases xI j ⇑xs with hj | hj
  ·exact ye (hh j (yS.mpr hj))
  ·rw[wQ hj,wQ ()]
 ·intro hh j _
  rw[hh];exact zg rfl
def FW {xs ys:List V} (h:⇑xs≠⇑ys):decide (xs=ys)=false:=ze λe=>h (by rw[e])
def Bv (hu:X.A.units+64<cLine):oj X (compareOp .Eq) (WK X.K):=by
 intro pins s U H x y v u Q I rx ry h;let⟨a,b,xs,ys,rfl,rfl,hs,pl,q⟩:=h;cases rx;cases ry;rcases hs with⟨ha,hb⟩ | ⟨ha,hb⟩
 ·let⟨its,r,p,_⟩:=I.list ha
  let⟨jts,r',p',_⟩:=I.list hb;let l1:=⇑r;let l2:=⇑r'
  by_cases hl:⇑xs=⇑ys
  ·let z:=SeqAt.RcAt.lists (A:=X.A) (s:=s) p.isList p'.isList (by rw[yb,yb];ext) () (Ga r r' pl)
   rw[yb,<-l1,all_eq hl] at z;exact z _ _ _ _ {.bl _,H,I,rfl,q}
  ·let z:=SeqAt.RcAt.lists_lengths (A:=X.A) (s:=s) p.isList p'.isList (by rw[yb,yb];simp;ext) ()
   rw[FW hl] at q;exact z _ _ _ _ {.bl false,H,I,rfl,q}
 ·let⟨its,r,p,_⟩:=I.tuple ha
  let⟨jts,r',p',_⟩:=I.tuple hb;let l1:=⇑r;let l2:=⇑r';let z:=SeqAt.RcAt.tuples (A:=X.A) (s:=s) p p' () (Ga r r' pl);rw[yb,yb,<-l1,<-l2] at z
  by_cases hl:⇑xs=⇑ys
  ·let em:min ⇑xs ⇑ys=⇑xs:=()
   rw[em,all_eq hl,hl,wk,Bool.and_true] at z;exact z _ _ _ _ {.bl _,H,I,rfl,q}
  ·rw[show(⇑xs == ⇑ys)=false by simpa using hl,wK] at z
   rw[FW hl] at q;exact z _ _ _ _ {.bl false,H,I,rfl,q}
def Bu (hu:X.A.units+64<cLine):oj X (compareOp .NotEq) (Tu X.K):=by
 intro pins s U H x y v u Q I rx ry h;let⟨a,b,xs,ys,rfl,rfl,hs,pl,q⟩:=h;cases rx;cases ry;rcases hs with⟨ha,hb⟩ | ⟨ha,hb⟩
 ·let⟨its,r,p,_⟩:=I.list ha
  let⟨jts,r',p',_⟩:=I.list hb;let l1:=⇑r;let l2:=⇑r'
  by_cases hl:⇑xs=⇑ys
  ·let z:=SeqAt.RcNeAt.lists (A:=X.A) (s:=s) p.isList p'.isList (by rw[yb,yb];ext) () (Ga r r' pl)
   rw[yb,<-l1,all_eq hl] at z;exact z _ _ _ _ {.bl _,H,I,rfl,q}
  ·let z:=SeqAt.RcNeAt.lists_lengths (A:=X.A) (s:=s) p.isList p'.isList (by rw[yb,yb];simp;ext) ()
   rw[FW hl] at q;exact z _ _ _ _ {.bl true,H,I,rfl,q}
 ·let⟨its,r,p,_⟩:=I.tuple ha
  let⟨jts,r',p',_⟩:=I.tuple hb;let l1:=⇑r;let l2:=⇑r';let z:=SeqAt.RcNeAt.tuples (A:=X.A) (s:=s) p p' () (Ga r r' pl);rw[yb,yb,<-l1,<-l2] at z
  by_cases hl:⇑xs=⇑ys
  ·let em:min ⇑xs ⇑ys=⇑xs:=()
   rw[em,all_eq hl,hl,wk,Bool.and_true] at z;exact z _ _ _ _ {.bl _,H,I,rfl,q}
  ·rw[show(⇑xs == ⇑ys)=false by simpa using hl,wK] at z
   rw[FW hl] at q;exact z _ _ _ _ {.bl true,H,I,rfl,q}
def Si (K:yB):V->Option Int->Option Int->Hp->VK->Prop:=λx lo hi H Q=>∃a xs,x=.ref a/\cW K H a xs/\(HT.fc ⇑xs 0 lo=0/\HT.fc ⇑xs ⇑xs hi=⇑xs)/\Q (.ref a) H
def QZ:QD X (Si X.K):=by
 intro pins s U H x v vl vu lo hi sl Q I rx hs pl pu h;let⟨a,xs,rfl,hx,hw,q⟩:=h;cases rx;let⟨its,r,ht,hz⟩:=I.tuple hx;let hlen:its.toArray.size=⇑xs:=by rw[yb];exact r.length.symm
 refine{"tuple",_,xQ.lookup,ht.typeIs,?_};rw[<-hlen] at hw;let⟨os,hos,hcs,hds⟩:=id hs;let hTs:s.TypeIs (.ref sl) "slice":={(os),hos,hcs}
 unfold getItem
 try with_reducible refine xJ ?_
 first | refine yu (yw ?_) | skip
 refine yu (wpAny_sequenceKey ht.typeIs ∅ ?_);refine yu (yZ (name:=Str.ofString "__getitem__") ht.typeIs xQ
  (xb xQ ht.typeIs entry_tuple_getitem ?_ (args_tuple_getitem _ _)))
 show wpAny _ _ (Builtin.Tuple.tupleItemsOf (.ref a) >>= _) _ _ s;refine yu (tupleItemsOf_ ht ?_);refine yu (vh hTs ?_);rw[yO ∅];refine yu (HT.kG hs pl pu ?_);show wpAny _ _ (if(((HT.fc its.toArray.size 0 lo:Nat):Int) == 0&&(1:Int) == 1&&(HT.fc its.toArray.size its.toArray.size hi-HT.fc its.toArray.size 0 lo) == its.toArray.size)=true then _ else _) _ _ s;rw[yO (by rw[hw.1,hw.2];simp)];unfold Builtin.Tuple.tupleIsExact;refine yu ?_
 repeat (any_goals (first | assumption | exact⟨_,rfl,yw ⟨.ref a,H,I,rfl,q⟩⟩ | refine yu (vh ht.typeIs ?_) | wp_step))
def Sj (K:yB):V->Option Int->Option Int->Hp->VK->Prop:=λx lo hi H Q=>U9 K x lo hi H Q\/Si K x lo hi H Q
def LP:QD X (Sj X.K):=QD.or Ti QZ
def Ih (K:yB):V->List V->Hp->VK->Prop:=λx vs H Q=>∃l b xs zs,x=.ref l/\vs=[.ref b]/\H l=some (.lst xs)/\H b=some (.tup zs)/\⇑xs+⇑zs<=sizeLine/\Q .bP (upd H l (.lst (xs++zs)))
def O2 (K:yB):V->List V->Hp->VK->Prop:=λx vs H Q=>LU x vs H Q\/Ih K x vs H Q
def KG:R5 X "list.extend" (Ih X.K):=by
 intro pins s U H x vs v us Q I rx rv h;let⟨l,b,xs,zs,rfl,rfl,hH,hB,hz,q⟩:=h;cases rx;let⟨u,rfl,ru⟩:=rv.one;cases ru;let⟨z,its,n,r,hl,e⟩:=I.M6 hH;let⟨_,its2,r2,⟨oc,od,oda,osl⟩,ho,hoc,n2,hod⟩:=(show cC X.prog X.w H s.heap b (.tup zs) from I.b9 b _ hB)
 let l1:=⇑r;let l2:=⇑r2;let hsz:its.toArray.size+its2.toArray.size<=sizeLine:=by rw[yb,yb];ext
 let hlong:¬(!its.toArray.isEmpty&&Builtin.List.listTooLong (its.toArray.size+its2.toArray.size))=true:=by
  rw[II hsz,wK];exact zL
 dsimp only at hoc hod;subst hoc hod;refine xb F.slot_list_extend {_,e,rfl} F.entry_list_extend ?_ (F.args_list_extend_2 _ _);show wpAny _ _ (Builtin.List.listExtendWith (.ref l) (.ref b) .none) _ _ s;unfold Builtin.List.listExtendWith;refine yu (vh (T:="tuple") {_,ho,rfl} ?_);let ht:(Value.type "tuple"== Value.type "tuple")=true:=by rfl
 rw[yO (by rw[ht];simp)];refine yu (listItems_at ho rfl ?_);refine yu (listItems_at e rfl ?_);rw[yN hlong];refine yu (listUpdate_at e rfl ?_ (by rw[yb];ext) (by show(its.toArray++its2.toArray).size<=sizeLine+1;rw[Array.size_append];ext));refine yw {_,rfl,?_};refine{.bP,_,I.Ry (its':=its++its2) hH e (by simp) (r.append r2) ?_,rfl,q};rw[zh];ext
def dR:R5 X "list.extend" (O2 X.K):=by
 intro pins s U H x vs v us Q I rx rv h;rcases h with h | h
 ·exact M4 pins s U H x vs v us Q I rx rv h
 ·exact KG pins s U H x vs v us Q I rx rv h
def Ld:fC X (.builtin "len") (λxs H Q=>∃p kvs,xs=[.ref p]/\H p=some (.dK kvs)/\Q (.int (⇑kvs:Nat)) H):=by
 intro pins s U H xs us Q I r h;let⟨p,kvs,rfl,hp,q⟩:=h;let⟨u,rfl,rx⟩:=vals1 r;cases rx;exact VE I (.inl hp) λt s' I'=>{.int _,H,I',{_,rfl},q}
end
abbrev Vd (K:yB):List V->Hp->VK->Prop:=λxs H Q=>∃p ys,xs=[.ref p]/\(aH K H p ys\/cW K H p ys)/\Q (.int ⇑ys) H
abbrev WM (K:yB):List V->Hp->VK->Prop:=λxs H Q=>∃(a:vE) (bs:List Bool),xs=[.ref a]/\aH K H a (bs.map V.bl)/\Q (.bl (bs.any id)) H
abbrev Vb:List V->Hp->VK->Prop:=λxs H Q=>∃i,xs=[.int i]/\i.natAbs.log2<1920/\Q (.str (toString i)) H
abbrev Tw (K:yB):List V->Hp->VK->Prop:=λxs H Q=>∃p ys,xs=[.ref p]/\((aH K H p ys/\∀l,H l=none->Q (.ref l) (upd H l (.tup ys)))\/(cW K H p ys/\Q (.ref p) H))
abbrev Vc (K:yB):List V->Hp->VK->Prop:=λxs H Q=>∃p ys,xs=[.ref p]/\(aH K H p ys\/cW K H p ys)/\∀l,H l=none->Q (.ref l) (upd H l (.lst ys))
noncomputable def cG (lo:Int) (n:Nat):List Int:=(List.range n).map λi=>lo+(i:Nat)
def S7 (ta:TA):TE:=λU H Q=>ta U H λvs H1=>∃i j:Int,vs=[.int i,.int j]/\(-(2^62)<=i/\i<2^62/\-(2^62)<=j/\j<2^62)/\(j-i).toNat<=1000000/\∀l,H1 l=none->Q (.ref l) (upd H1 l (.lst ((cG i (j-i).toNat).map V.int)))
theorem LF:∀{xs:List V} {us:List vy},⇑xs=⇑us->(∀(i:Nat) (x:V) (u:vy),xs[i]?=some x->us[i]?=some u->RelV x u)->Vals xs us
 | [],[],_,_=>.nil
 | x::xs,u::us,h,k=>.cons (k 0 x u rfl rfl) (LF (by simpa using h) λi y v e e'=>k (i+1) y v (by simpa using e) (by simpa using e'))
 | [],_::_,h,_=>by simp at h
 | _::_,[],h,_=>by simp at h
section
variable {X:Cx}
def qZ (hc:X.calm=true) (hg0:Gl X "list") (hm0:X.mg "list"= none) (hg:Gl X "range") (hm:X.mg "range"= none) (ha:PA X [a,b] ta)
  (hs:starEach [a,b] X.env=[(false,eval a X.env),(false,eval b X.env)]<|>qe_) (hs2:starEach [b] X.env=[(false,eval b X.env)]<|>qe_)
  (hs1:starEach [.Call (.Name "range" p2) [a,b] [] pos2] X.env=[(false,eval (.Call (.Name "range" p2) [a,b] [] pos2) X.env)]<|>qe_) :
  PE X (.Call (.Name "list" p1) [.Call (.Name "range" p2) [a,b] [] pos2] [] pos1) (S7 ta):=by
 intro pins s U H Q I h;refine xt (jB I hg0 hm0 (by decide +kernel:bootBuiltins "list"= some (.type "list")) ?_ ∅ ∅);refine yM (Q:=_) ?_ hs1 rfl;rw[hs1];refine wF ?_;refine Call_ (jB I hg hm boot_range (yM (cX (ha pos2 pins s U H _ I h) λus s1 z0=>?_) (by rw[hs,hs2]) (by rw[hs2];rfl)));let⟨vs,H1,I1,r1,q1⟩:=z0;let⟨i,j,e,⟨q1,q2,q3,q4⟩,hz,q⟩:=q1;subst e;cases r1 with
 | cons r rr=>
  cases rr with
  | cons r' rr=>
   cases rr;let⟨t,rfl⟩:=r;let⟨t',rfl⟩:=r';refine call_range_2 ?_;refine vw ?_;let I2:Inv X pins U H1 {s1 with heap:=s1.heap.push {cls:=.type "range",data:=.fields #[.int i t,.int j t',.int 1 s1.toks]},toks:=s1.toks+1}:=I1.kept λb o e=>yv _ e;let hn:Builtin.Range.rangeSize i j 1=(((j-i).toNat:Nat):Int):=by rw[rangeSize_one];split <;> ext
   refine call_list_range (I2.ok.hd hc) (IsRange.new ..) (small_one q1 q2 q3 q4) hn (zM hz ∅) λh' tk acc c hk hS hit=>?_;let rv:Vals ((cG i (j-i).toNat).map V.int) acc.toList:=by
    refine LF ?_ ?_
    ·let e1:⇑acc.toList=(j-i).toNat:=by rw[yQ];exact hit.1
     rw[za,e1];unfold cG;simp
    ·intro k x u hx hu
     rw[xk] at hu;let⟨tk',rfl⟩:=hit.2 k u hu;let hk':k<(j-i).toNat:=by
      have:=(Array.getElem?_eq_some_iff.mp hu).1;rw[hit.1] at this;exact this
     unfold cG at hx;rw[zB,zK,List.getElem?_range hk'] at hx;cases hx;exact{tk',by simp}
   let hl:H1 (s1.heap.push {cls:=.type "range",data:=.fields #[.int i t,.int j t',.int 1 s1.toks]}).objs.size=none:=I2.b9.fresh (zm _);refine{.ref _,_,I2.laid (t':=tk) hk (zm _) (show cC X.prog X.w _ h' _ (.lst ((cG i (j-i).toNat).map V.int)) from{?_,acc.toList,c,rv,?_}),rfl,q _ hl}
   ·rw[za]
    let sl:=yC;unfold cG;simp;ext
   ·simpa using hS
end
def JX:typeLookup (.type "zip") "__len__"= pure none:=by rw[typeLookup_type,builtinLookup_eq_fast];kernel_rfl
def G6:typeLookup (.type "zip") "__length_hint__"= pure none:=by rw[typeLookup_type,builtinLookup_eq_fast];kernel_rfl
section
variable {prog:vA} {w:vB} {A:vC} {E:vy->vz->Prop} {s:vz}
def uL (ho:s.heap.get? a=some o) (h:Q (some o) s):wpAny (model prog w) A (loadIfAlive a) Q E s:=
 λΓ p _=>by
  unfold loadIfAlive;rw[Sem.wp_loadIfAlive,ho];exact h
abbrev Lx (h:vF) (z TI TO T:vE) (f1:Bool):Prop:=h.get? z=some {cls:=.type "zip",dict:=none,data:=.fields #[rawInt T,.bool f1,.bool false,.ref TI,.ref TO],slots:=#[]}
structure V1 (t1 t2:Bool) (h:vF) (z TI TO i1 i2 l1 l2:vE) (k:Nat):Prop where
 z:∃T f1,Lx h z TI TO T f1/\(∃o,h.get? T=some o)/\T≠z/\T≠i1/\T≠i2
 ti:IsPair h TI (.ref i1) (.ref i2)
 to:∃o,h.get? TO=some o
 i1:dt t1 h i1 l1 k
 i2:dt t2 h i2 l2 k
def IH {z TI TO T:vE} {f1:Bool} {o:Obj} {Q:Bool->vz->Prop} (hz:Lx s.heap z TI TO T f1) (hT:s.heap.get? T=some o)
  (hQ:∀h',Lx h' z TI TO T true->Heap.SameBut z s.heap h'->Q false {s with heap:=h'}):wpAny (model prog w) A (Builtin.SmallTypes.ownedTupleIsFree (.ref z)) Q E s:=by
 unfold Builtin.SmallTypes.ownedTupleIsFree;refine yu (y7 hz rfl (x:=rawInt T) rfl ?_);show wpAny _ _ (loadIfAlive ((T:Int).toNat) >>= _) _ _ _;rw[x8];refine yu (uL hT ?_);show wpAny _ _ (field (.ref z) 1 >>= _) _ _ _;refine yu (y7 hz rfl (x:=.bool f1) rfl ?_);cases f1 with
 | true=>exact yw (hQ s.heap hz {rfl,λ_ _=>rfl})
 | false=>
  show wpAny _ _ (setField (.ref z) 1 (.bool true) >>= _) _ _ _;exact yu (xM hz (by simp) λg1 z1 q1=>yw (hQ g1 z1 q1))
def Mw {t1 t2:Bool} {z TI TO i1 i2 l1 l2:vE} {k:Nat} {xs ys:Array vy} {x y:vy} {Q:vy->vz->Prop} (D:NW z TI TO i1 i2) (L1:CF l1 z TO i1 i2) (L2:CF l2 z TO i1 i2)
  (S:V1 t1 t2 s.heap z TI TO i1 i2 l1 l2 k) (hl1:fk t1 s.heap l1 xs) (hl2:fk t2 s.heap l2 ys) (hx:xs[k]?=some x) (hy:ys[k]?=some y)
  (hQ:∀h',V1 t1 t2 h' z TI TO i1 i2 l1 l2 (k+1)->IsPair h' ↑s x y->sk z TO i1 i2 s.heap h'->Q (.ref ↑s) {s with heap:=h'}) :
  wpAny (model prog w) A (Builtin.«zip.__next__» {[.ref z],[]}) (λfin s'=>∃v,fin=.done (.ret v)/\Q v s') E s:=by
 let⟨⟨T,f1,hz,⟨o,hT⟩,n1,n2,n3⟩,hTI,⟨oT,hTO⟩,h1,h2⟩:=S;show wpAny _ _ (field (.ref z) 2 >>= _) _ _ _;refine yu (y7 hz rfl (x:=.bool false) rfl ?_);show wpAny _ _ (field (.ref z) 3 >>= _) _ _ _;refine yu (y7 hz rfl (x:=.ref TI) rfl (yu (xw hTI rfl ?_)));show wpAny _ _ (Builtin.SmallTypes.ownedTupleIsFree (.ref z) >>= _) _ _ _;refine yu (IH hz hT λg1 z1 q1=>?_);simp only[wG,wu];refine yu ?_;simp only[List.forIn_toArray,List.forIn_cons,List.forIn_nil];refine yu (yu (xJ ?_));show wpAny _ _ (Builtin.SmallTypes.nextOf (.ref i1) >>= _) _ _ _;refine yu (qH (h1.but q1 D.a3) (hl1.but q1 L1.a1) hx λg2 p2 q2=>yw ?_);refine yw ?_;refine yu (yu (xJ ?_));show wpAny _ _ (Builtin.SmallTypes.nextOf (.ref i2) >>= _) _ _ _;refine yu (qH ((h2.but q1 D.a4).but q2 D.b1.symm) ((hl2.but q1 L2.a1).but q2 L2.a3) hy λg3 p3 q3=>yw ?_);refine yw (yw ?_);let sz:g3.objs.size=↑s:=by rw[q3.1,q2.1,q1.1]
 let k3:∀c o,c≠z->c≠i1->c≠i2->s.heap.get? c=some o->g3.get? c=some o:=λc o c1 c3 c4 e=>q3.extBut _ _ c4 (q2.extBut _ _ c3 (q1.extBut _ _ c1 e));show wpAny _ _ (newTuple [x,y] >>= _) _ _ _;refine yu (wpAny_newTuple ?_);refine yw {_,rfl,?_};let up:∀c o,g3.get? c=some o->(g3.push {cls:=.type "tuple",data:=.seq #[x,y]}).get? c=some o:=λc o e=>yv _ e;let gp:(g3.push {cls:=.type "tuple",data:=.seq #[x,y]}).get? g3.objs.size=some {cls:=.type "tuple",data:=.seq #[x,y]}:=yx _ rfl;rw[sz] at gp;show Q (.ref g3.objs.size) _;rw[sz];refine hQ _ {{T,true,up _ _ (q3.extBut _ _ D.a4.symm (q2.extBut _ _ D.a3.symm z1)),{o,up _ _ (k3 _ _ n1 n2 n3 hT)},n1,n2,n3},up _ _ (k3 _ _ D.a1 D.a6 D.a7 hTI),{oT,up _ _ (k3 _ _ D.a2 D.a8 D.a9 hTO)},(p2.but q3 D.b1).at (up _),p3.at (up _)} gp λc o c1 c2 c3 c4 e=>up _ _ (k3 c o c1 c3 c4 e)
def Mv {t1 t2:Bool} {z TI TO i1 i2 l1 l2:vE} {k:Nat} {xs:Array vy} {Q:Fin->vz->Prop} (hh:A.handled=none) (D:NW z TI TO i1 i2) (L1:CF l1 z TO i1 i2)
  (S:V1 t1 t2 s.heap z TI TO i1 i2 l1 l2 k) (hl1:fk t1 s.heap l1 xs) (hx:xs[k]?=none)
  (hE:∀h' e,sk z TO i1 i2 s.heap h'->(∃o,h'.get? e=some o/\o.cls=.type "StopIteration")->E (.ref e) {s with heap:=h'}) :
  wpAny (model prog w) A (Builtin.«zip.__next__» {[.ref z],[]}) Q E s:=by
 let⟨⟨T,f1,hz,⟨o,hT⟩,n1,n2,n3⟩,hTI,⟨oT,hTO⟩,h1,h2⟩:=S;show wpAny _ _ (field (.ref z) 2 >>= _) _ _ _;refine yu (y7 hz rfl (x:=.bool false) rfl ?_);show wpAny _ _ (field (.ref z) 3 >>= _) _ _ _;refine yu (y7 hz rfl (x:=.ref TI) rfl (yu (xw hTI rfl ?_)));show wpAny _ _ (Builtin.SmallTypes.ownedTupleIsFree (.ref z) >>= _) _ _ _;refine yu (IH hz hT λg1 z1 q1=>?_);simp only[wG,wu];refine yu ?_;simp only[List.forIn_toArray,List.forIn_cons,List.forIn_nil];refine yu (yu (xJ ?_));show wpAny _ _ (Builtin.SmallTypes.nextOf (.ref i1) >>= _) _ _ _;refine yu (E7 hh (h1.but q1 D.a3) (hl1.but q1 L1.a1) hx λg2 e q2 he=>?_);exact hE g2 e (λc o c1 c2 c3 c4 x=>q2 _ _ c3 (q1.extBut _ _ c1 x)) he
def NV (t1 t2:Bool) (h:vF) (z TI TO i1 i2 l1 l2:vE) (k:Nat):Prop:=(k=0/\QL t1 t2 h z TI TO i1 i2 l1 l2 0 .none)\/V1 t1 t2 h z TI TO i1 i2 l1 l2 k
def NV.type {t1 t2:Bool} {z TI TO i1 i2 l1 l2:vE} {k:Nat} (S:NV t1 t2 s.heap z TI TO i1 i2 l1 l2 k):s.TypeIs (.ref z) "zip":=by
 rcases S with⟨_,S⟩ | S
 ·exact{_,S.z,rfl}
 ·let⟨_,_,e,_⟩:=S.z;exact{_,e,rfl}
theorem NV.at {t1 t2:Bool} {h h':vF} {z TI TO i1 i2 l1 l2:vE} {k:Nat} (S:NV t1 t2 h z TI TO i1 i2 l1 l2 k) {B:vE} (hk:∀c o,c≠B->h.get? c=some o->h'.get? c=some o) (hB:∃o,h'.get? B=some o) (nB:B∉[z,TI,TO,i1,i2]):NV t1 t2 h' z TI TO i1 i2 l1 l2 k:=by
 simp only[zD,zE,yV,not_or] at nB;let⟨b1,b2,b3,b4,b5⟩:=nB;rcases S with⟨e,S⟩ | S
 ·exact .inl {e,hk _ _ (Ne.symm b1) S.z,hk _ _ (Ne.symm b2) S.ti,(let ⟨x,y,q⟩:=S.to;{x,y,hk _ _ (Ne.symm b3) q}),S.i1.at λo=>hk _ o (Ne.symm b4),S.i2.at λo=>hk _ o (Ne.symm b5)}
 ·let⟨T,f1,z1,⟨o,hT⟩,n1,n2,n3⟩:=S.z
  refine .inr {{T,f1,hk _ _ (Ne.symm b1) z1,?_,n1,n2,n3},hk _ _ (Ne.symm b2) S.ti,(let ⟨x,q⟩:=S.to;{x,hk _ _ (Ne.symm b3) q}),S.i1.at λo=>hk _ o (Ne.symm b4),S.i2.at λo=>hk _ o (Ne.symm b5)}
  by_cases e:T=B
  ·rw[e];exact hB
  ·exact{o,hk _ _ e hT}
def NV.obj {t1 t2:Bool} {h:vF} {z TI TO i1 i2 l1 l2:vE} {k:Nat} (S:NV t1 t2 h z TI TO i1 i2 l1 l2 k):∀b∈[z,TI,TO,i1,i2],∃o,h.get? b=some o:=by
 intro b hb;simp only[zD,zE,yV] at hb;rcases S with⟨e,S⟩ | S
 ·rcases hb with rfl | rfl | rfl | rfl | rfl
  ·exact{_,S.z}
  ·exact{_,S.ti}
  ·exact let ⟨x,y,q⟩:=S.to;{_,q}
  ·exact let ⟨o,e,_⟩:=S.i1.get;{(o),e}
  ·exact let ⟨o,e,_⟩:=S.i2.get;{(o),e}
 ·rcases hb with rfl | rfl | rfl | rfl | rfl
  ·let⟨_,_,e,_⟩:=S.z;exact{_,e}
  ·exact{_,S.ti}
  ·exact S.to
  ·exact let ⟨o,e,_⟩:=S.i1.get;{(o),e}
  ·exact let ⟨o,e,_⟩:=S.i2.get;{(o),e}
def Mu {t1 t2:Bool} {z TI TO i1 i2 l1 l2:vE} {k:Nat} {xs ys:Array vy} {x y:vy} {Q:Option vy->vz->Prop} (D:NW z TI TO i1 i2) (L1:CF l1 z TO i1 i2) (L2:CF l2 z TO i1 i2)
  (S:NV t1 t2 s.heap z TI TO i1 i2 l1 l2 k) (hl1:fk t1 s.heap l1 xs) (hl2:fk t2 s.heap l2 ys) (hx:xs[k]?=some x) (hy:ys[k]?=some y)
  (hQ:∀h',NV t1 t2 h' z TI TO i1 i2 l1 l2 (k+1)->IsPair h' ↑s x y->sk z TO i1 i2 s.heap h'->Q (some (.ref ↑s)) {s with heap:=h'}) :
  wpAny (model prog w) A (pyNext (.ref z)) Q E s:=by
 let ob:=S.obj;let lt:∀b∈[z,TI,TO,i1,i2],↑s≠b:=λb hb e=>by
  let⟨o,ho⟩:=ob b hb;rw[<-e] at ho;exact absurd (yy ho) (yf _)
 rcases S with⟨e,S⟩ | S
 ·subst e
  refine G8 D L1 L2 S hl1 hl2 hx hy λh' a1 a2 a3=>hQ h' (.inr {{_,false,a1.z,{_,a2},lt z (by simp),lt i1 (by simp),lt i2 (by simp)},a1.ti,(let ⟨x,y,q⟩:=a1.to;{_,q}),a1.i1,a1.i2}) a2 a3
 ·let hT:s.TypeIs (.ref z) "zip":=by let⟨_,_,e,_⟩:=S.z;exact{_,e,rfl}
  unfold pyNext;exact yu (wW (yZ (name:=Str.ofString "__next__") hT xN (xb xN hT F.entry_zip_next (Mw D L1 L2 S hl1 hl2 hx hy λh' a1 a2 a3=>yw (hQ h' (.inr a1) a2 a3)) (vv _))))
def Mt {t1 t2:Bool} {z TI TO i1 i2 l1 l2:vE} {k:Nat} {xs ys:Array vy} {Q:Option vy->vz->Prop} (hh:A.handled=none) (D:NW z TI TO i1 i2) (L1:CF l1 z TO i1 i2) (L2:CF l2 z TO i1 i2)
  (S:NV t1 t2 s.heap z TI TO i1 i2 l1 l2 k) (hl1:fk t1 s.heap l1 xs) (hl2:fk t2 s.heap l2 ys) (hx:xs[k]?=none)
  (hQ:∀h',sk z TO i1 i2 s.heap h'->Q none {s with heap:=h'}):wpAny (model prog w) A (pyNext (.ref z)) Q E s:=by
 rcases S with⟨e,S⟩ | S
 ·subst e
  exact G5 hh D L1 L2 S hl1 hl2 (.inl hx) hQ
 ·let hT:s.TypeIs (.ref z) "zip":=by let⟨_,_,e,_⟩:=S.z;exact{_,e,rfl}
  unfold pyNext;refine yu (wW (yZ (name:=Str.ofString "__next__") hT xN (xb xN hT F.entry_zip_next (Mv hh D L1 S hl1 hx λh' e hk he=>?_) (vv _))));let⟨o,ho,hc⟩:=he;exact yu (wpAny_isInstance (T:="StopIteration") (b:=true) {(o),ho,hc} isSubtype_stop (yw (hQ _ hk)))
end
def Pairs (H:Hp) (xs ys us:List V) (k:Nat):Prop:=⇑us=k/\∀(j:Nat) (x y:V),j<k->xs[j]?=some x->ys[j]?=some y->∃q,us[j]?=some (.ref q)/\H q=some (.tup [x,y])
def au.Sg {t:Bool} {K:yB} {H H':Hp} {a:vE} {xs:List V} (e:au H H') (h:Ea t K H a xs):Ea t K H' a xs:=by
 cases t
 ·exact e.seq h
 ·exact e.tup h
abbrev Mr (h:vF) (S:vE) (acc:Array vy) (c:Nat):Prop:=h.get? S=some {cls:=.type "list",dict:=none,data:=.seq acc c,slots:=#[]}
section
variable {X:Cx} {pins:List (vE×Obj)} {U:St}
def Of {A:vC} {R:Result->vz->Prop} {t1 t2:Bool} {a b z TI TO i1 i2 S:vE} {xs ys:List V} {res:vy} (hh:A.handled=none) (D:NW z TI TO i1 i2) (L1:CF a z TO i1 i2) (L2:CF b z TO i1 i2) (hl:⇑xs=⇑ys) (hz:⇑xs<=sizeLine) (nS:S∉[z,TI,TO,i1,i2]) :
  ∀(n k:Nat) (s:vz) (H:Hp) (acc:Array vy) (c:Nat) (us:List V),⇑xs-k=n->k<=⇑xs->Inv X pins U H s->(∀b∈[z,TI,TO,i1,i2,S],qA X pins H b)->NV t1 t2 s.heap z TI TO i1 i2 a b k->Ea t1 X.K H a xs->Ea t2 X.K H b ys->
  Mr s.heap S acc c->Vals us acc.toList->Pairs H xs ys us k->
  (∀(s':vz) (H':Hp) (us':List V) (acc':Array vy) (c':Nat),Inv X pins U H' s'->qA X pins H' S->au H H'->Mr s'.heap S acc' c'->Vals us' acc'.toList->Pairs H' xs ys us' ⇑xs->R (.ok (.ret res)) s')->
  codeAny (model X.prog X.w) A (.builtin "list.extend.loop" {[.ref S,.ref z,res],[]}) R s:=by
 intro n
 induction n with
 | zero=>
  intro k s H acc c us hk hi I hf S0 q1 q2 hS rv pr hR;let e:k=⇑xs:=()
  subst e;let⟨its,rx,p1,_⟩:=I.sq q1;let⟨jts,ry,p2,_⟩:=I.sq q2;refine xX F.entry_extend_loop ?_;rw[w9 vf _];show wpAny _ A.in1 (pyNext (.ref z) >>= _) _ _ s;let hl:=⇑rx;refine yu (Mt (A:=A.in1) hh D L1 L2 S0 p1 p2 (by simp;ext) λh' hk'=>?_);let kk:∀b u,b∉[z,TI,TO,i1,i2,S]->s.heap.get? b=some u->h'.get? b=some u:=λb u hb e=>hk' b u (λz=>hb (by simp[z])) (λz=>hb (by simp[z])) (λz=>hb (by simp[z])) (λz=>hb (by simp[z])) e;let kS:Mr h' S acc c:=hk' S _ (λz=>nS (by simp[z])) (λz=>nS (by simp[z])) (λz=>nS (by simp[z])) (λz=>nS (by simp[z])) hS;exact yw (hR _ H us acc c (I.turns (t':=s.toks) hf kk) (hf S (by simp)) (λ_ _ e=>e) kS rv pr)
 | succ n ih=>
  intro k s H acc c us hk hi I hf S0 q1 q2 hS rv pr hR;let hlt:k<⇑xs:=()
  let⟨its,rx,p1,_⟩:=I.sq q1;let⟨jts,ry,p2,_⟩:=I.sq q2;let⟨u,hu,ru⟩:=rx.get (zd hlt);let⟨u',hu',ru'⟩:=ry.get (zd (show k<⇑ys by ext));refine xX F.entry_extend_loop ?_;rw[w9 vf _];show wpAny _ A.in1 (pyNext (.ref z) >>= _) _ _ s;let ob:=S0.obj;let lt:∀b∈[z,TI,TO,i1,i2,S],b≠↑s:=λb hb e=>by
   obtain⟨o,ho⟩:∃o,s.heap.get? b=some o:=by
    rcases zG.mp (show b∈[z,TI,TO,i1,i2]++[S] from hb) with z' | z'
    ·exact ob b z'
    ·rw[zA.mp z'];exact{_,hS}
   rw[e] at ho;exact absurd (yy ho) (yf _)
  refine yu (Mu (A:=A.in1) D L1 L2 S0 p1 p2 (x:=u) (y:=u') (by simpa using hu) (by simpa using hu') λh' S1 hT hk'=>?_);let kS:Mr h' S acc c:=hk' S _ (λz=>nS (by simp[z])) (λz=>nS (by simp[z])) (λz=>nS (by simp[z])) (λz=>nS (by simp[z])) hS;let az:acc.size=k:=by rw[<-yQ,<-⇑rv];exact pr.1
  show wpAny _ A.in1 (updateSeq S (·.push (.ref ↑s)) >>= _) _ _ _;refine yu ?_;let oth:∀b o,b≠S->h'.get? b=some o->(h'.update S (Obj.mapSeq (·.push (.ref ↑s)))).get? b=some o:=λb o hb e=>(yz _ _ (Ne.symm hb)).trans e;let S2:=yA (Obj.mapSeq (·.push (Value.ref ↑s))) kS rfl;let hn:H ↑s=none:=I.b9.fresh (zm _);let hT2:=oth _ _ (Ne.symm (lt S (by simp))) hT;let I2:Inv X pins U (upd H ↑s (.tup [xs[k],ys[k]])) {s with heap:=h'.update S (Obj.mapSeq (·.push (.ref ↑s))),toks:=s.toks}:=
   I.AH (t':=s.toks) hf (zm _) (λb o hb e=>oth b o (λz=>hb (by simp[z])) (hk' b o (λz=>hb (by simp[z])) (λz=>hb (by simp[z])) (λz=>hb (by simp[z])) (λz=>hb (by simp[z])) e))
    {by show 2<=sizeLine;decide,[u,u'],.cons ru (.cons ru' .nil),{_,hT2,rfl,_,rfl}}
  let s1:au H (upd H ↑s (.tup [xs[k],ys[k]])):=aY hn;refine wpAny_updateSeq kS rfl (yw {plainId_quiet vf _,ih (k+1) _ (upd H ↑s (.tup [xs[k],ys[k]])) (acc.push (.ref ↑s)) _ (us++[.ref ↑s]) () hlt I2 (λb hb=>?_) ?_ (s1.Sg q1) (s1.Sg q2) S2 ?_ ?_ ?_})
   (by rw[az];ext) (by show(acc.push _).size<=sizeLine+1;rw[Array.size_push,az];ext)
  ·let⟨f0,f1,f2,f3,f4,f5⟩:=hf b hb
   exact{by rw[aC (lt b hb)];exact f0,f1,f2,f3,f4,f5}
  ·exact S1.at (B:=S) oth {_,S2} nS
  ·rw[Array.toList_push]
   exact Vals.append rv (.cons rfl .nil)
  ·refine{by rw[zh,pr.1];rfl,λj x y hj hx hy=>?_}
   rcases xI j k with z' | z'
   ·let⟨q,e1,e2⟩:=pr.2 j x y z' hx hy
    exact{q,by rw[wq (by rw[pr.1];exact z')];exact e1,s1 _ _ e2}
   ·let e:j=k:=()
    subst e;rw[zd hlt] at hx;rw[zd (show j<⇑ys by ext)] at hy;cases hx;cases hy;exact{↑s,by rw[z9 (by rw[pr.1];exact zm _),pr.1,Nat.sub_self];rfl,aB}
  ·exact λs' H' us' acc' c' I' f' sm l' v' p'=>hR s' H' us' acc' c' I' f' (s1.trans sm) l' v' p'
def DN {A:vC} {E:vy->vz->Prop} {s:vz} {H:Hp} {Q:vy->vz->Prop} {t1 t2:Bool} {a b z TI TO i1 i2:vE} {xs ys:List V} (hh:A.handled=none) (D:NW z TI TO i1 i2) (L1:CF a z TO i1 i2) (L2:CF b z TO i1 i2) (hl:⇑xs=⇑ys) (hz:⇑xs<=sizeLine)
  (I:Inv X pins U H s) (hf:∀b∈[z,TI,TO,i1,i2],qA X pins H b) (Z0:QL t1 t2 s.heap z TI TO i1 i2 a b 0 .none) (q1:Ea t1 X.K H a xs) (q2:Ea t2 X.K H b ys)
  (hQ:∀(s':vz) (H':Hp) (us':List V) (l:vE),Inv X pins U H' s'->H l=none->au H H'->H' l=some (.lst us')->Pairs H' xs ys us' ⇑xs->Q (.ref l) s') :
  wpAny (model X.prog X.w) A (call (.type "list") [.ref z]) Q E s:=by
 let S0:NV t1 t2 s.heap z TI TO i1 i2 a b 0:=.inl {(rfl),Z0};let nS:↑s∉[z,TI,TO,i1,i2]:=λhb=>by
  let⟨o,ho⟩:=S0.obj _ hb;exact absurd (yy ho) (yf _)
 refine callType_codes (Q₁:=λobj s₁=>obj=.ref ↑s/\s₁={s with heap:=s.heap.push {cls:=.type "list",data:=.seq #[]}}) F.called_list (F.typeCall_list_1 _) F.entry_list_init
  (code_list_new _ {(rfl),rfl}) λobj s₁ h₁=>?_
 let⟨rfl,rfl⟩:=h₁;let hS:(s.heap.push {cls:=.type "list",data:=.seq #[]}).get? ↑s=some {cls:=.type "list",data:=.seq #[]}:=yx _ rfl;refine{{_,hS,rfl},F.args_list_init_2 _ _,?_};let kp:∀b o,s.heap.get? b=some o->(s.heap.push {cls:=.type "list",data:=.seq #[]}).get? b=some o:=λb o e=>yv _ e;let fS:qA X pins H ↑s:=I.vT (zm _) (I.b9.fresh (zm _));let hf6:∀b∈[z,TI,TO,i1,i2,↑s],qA X pins H b:=λb hb=>by
  rcases zG.mp (show b∈[z,TI,TO,i1,i2]++[↑s] from hb) with z' | z'
  ·exact hf b z'
  ·rw[zA.mp z'];exact fS
 let S1:NV t1 t2 (s.heap.push {cls:=.type "list",data:=.seq #[]}) z TI TO i1 i2 a b 0:=S0.at (B:=↑s) (λc o _ e=>kp c o e) {_,hS} nS;let I1:Inv X pins U H {s with heap:=s.heap.push {cls:=.type "list",data:=.seq #[]}}:=I.kept (t':=s.toks) kp;let zz:IsZip (s.heap.push {cls:=.type "list",data:=.seq #[]}) z TI TO .none:=kp _ _ Z0.z;generalize hS0:↑s=S at hS nS fS hf6 ⊢;let s0S:X.s₀.heap.objs.size<=S:=by rw[<-hS0];exact I.sz
 let lo:↑s<=S:=Nat.le_of_eq hS0;clear kp;generalize (s.heap.push {cls:=.type "list",data:=.seq #[]}:vF)=h1 at hS S1 I1 zz;show wpAny _ A.in1.in1 (do let old <-Builtin.List.listItems (.ref S);Builtin.List.listUpdate (.ref S) (λ_=>#[]);letGo old.toList.reverse;Builtin.List.listExtendWith (.ref S) (.ref z) .none) _ _ _;refine yu ?_;unfold Builtin.List.listItems;refine yu (xw hS rfl (yw ?_));show wpAny _ A.in1.in1 (updateSeq S (λ_=>#[]) >>= λ_=>letGo (#[]:Array vy).toList.reverse >>= λ_=>Builtin.List.listExtendWith (.ref S) (.ref z) .none) _ _ _;refine yu (wpAny_updateSeq hS rfl ?_);let hS2:=yA (Obj.mapSeq (λ_=>(#[]:Array vy))) hS rfl;let oth:∀b o,b≠S->h1.get? b=some o->(h1.update S (Obj.mapSeq (λ_=>(#[]:Array vy)))).get? b=some o:=
  λb o hb e=>(yz _ _ (Ne.symm hb)).trans e
 refine yu (wpAny_letGo ?_);let hSI:S≠z:=λe=>nS (by rw[e];simp);replace zz:=oth _ _ hSI.symm zz;let S2:=S1.at (B:=S) oth {_,hS2} nS;let I2:=I1.turns (t':=s.toks) (ch:=[S]) (λb hb=>by rw[zA.mp hb];exact fS) (λb o hb e=>oth b o (λz=>hb (by simp[z])) e);clear oth S1 I1 hS;generalize (h1.update S (Obj.mapSeq (λ_=>(#[]:Array vy))):vF)=h2 at hS2 S2 I2 zz;dsimp only at I2 ⊢;unfold Builtin.List.listExtendWith;let hT:Shared.TypeIs {s with heap:=h2,toks:=s.toks} (.ref z) "zip":=S2.type (s:={s with heap:=h2,toks:=s.toks});refine yu (vh hT ?_);let e1:Builtin.List.listSameRef (.ref S) (.ref z)=false:=by simp[Builtin.List.listSameRef,hSI]
 let e2:(Value.type "zip"== Value.type "list")=false:=by decide
 let e3:(Value.type "zip"== Value.type "tuple")=false:=by decide
 simp only[e1,e2,e3,Bool.or_false,wG,wu];refine yu (wpAny_pyIter_zip (s:={s with heap:=h2,toks:=s.toks}) zz ?_);refine yu (xJ ?_);unfold Builtin.List.listLengthHint;refine yu (wpAny_specialOf hT JX ?_);show wpAny _ A.in1.in1 (specialOf (Value.ref z) (Str.ofString "__length_hint__") >>= _) _ _ _;refine yu (wpAny_specialOf hT G6 ?_);refine yw ?_;show wpAny _ A.in1.in1 (rule "list.extend.makes-room" >>= λ_=>Builtin.List.listTouch (.ref S) >>= λ_=>
  again (.builtin "list.extend.loop" {[.ref S,.ref z,.none],[]})) _ _ _
 refine yu (wpAny_rule ?_);refine yu ?_;show wpAny _ A.in1.in1 (updateSeq S (·.push .none) >>= λ_=>updateSeq S (·.pop)) _ _ _;refine yu (wpAny_updateSeq hS2 rfl ?_);let hS3:=yA (Obj.mapSeq (·.push Value.none)) hS2 rfl;refine wpAny_updateSeq (hz:=by seq_fits) hS3 rfl ?_;let hS4:=yA (Obj.mapSeq (·.pop)) hS3 rfl;let oth:∀b o,b≠S->h2.get? b=some o->((h2.update S (Obj.mapSeq (·.push Value.none))).update S (Obj.mapSeq (·.pop))).get? b=some o:=
  λb o hb e=>(yz _ _ (Ne.symm hb)).trans ((yz _ _ (Ne.symm hb)).trans e)
 let S4:=S2.at (B:=S) oth {_,hS4} nS;let I4:=I2.turns (t':=s.toks) (ch:=[S]) (λb hb=>by rw[zA.mp hb];exact fS) (λb o hb e=>oth b o (λz=>hb (by simp[z])) e);refine yw {plainId_quiet vf _,Of (X:=X) (pins:=pins) (U:=U) (A:=A.in1) hh D L1 L2 hl hz nS ⇑xs 0 _ H _ _ [] rfl (yg _) I4 hf6 S4 q1 q2 hS4 .nil {rfl,λj x y hj=>()} λs' H' us' acc' c' I' f' sm l' v' p'=>?_};refine{rfl,?_};let⟨f0,f1,f2,f3,f4,f5⟩:=f';let I5:Inv X pins U (upd H' S (.lst us')) s':=I'.US f0 (by
  cases q:X.s₀.heap.get? S with
  | none=>rfl
  | some o=>exact absurd (yy q) (Nat.not_lt.mpr s0S)) f1 f4 f5 {by rw[p'.1];exact hz,acc'.toList,c',v',l'}
 refine hQ s' _ us' S I5 fS.1 (sm.trans (aY f0)) aB {p'.1,λj x y hj hx hy=>?_};let⟨q,e1,e2⟩:=p'.2 j x y hj hx hy;exact{q,e1,aY f0 _ _ e2}
def S6 (K:yB) (ta:TA):TE:=λU H Q=>ta U H λvs H1=>∃t1 t2 a b xs ys,vs=[.ref a,.ref b]/\Ea t1 K H1 a xs/\Ea t2 K H1 b ys/\⇑xs=⇑ys/\∀l H2 us,au H1 H2->H1 l=none->H2 l=some (.lst us)->Pairs H2 xs ys us ⇑xs->Q (.ref l) H2
def Ph (hc:X.calm=true) (hg0:Gl X "list") (hm0:X.mg "list"= none) (hg:Gl X "zip") (hm:X.mg "zip"= none) (ha:PA X [a,b] ta)
  (hs:starEach [a,b] X.env=[(false,eval a X.env),(false,eval b X.env)]<|>qe_) (hs2:starEach [b] X.env=[(false,eval b X.env)]<|>qe_)
  (hs1:starEach [.Call (.Name "zip" p2) [a,b] [] pos2] X.env=[(false,eval (.Call (.Name "zip" p2) [a,b] [] pos2) X.env)]<|>qe_) :
  PE X (.Call (.Name "list" p1) [.Call (.Name "zip" p2) [a,b] [] pos2] [] pos1) (S6 X.K ta):=by
 intro pins s U H Q I h;refine xt (jB I hg0 hm0 (by decide +kernel:bootBuiltins "list"= some (.type "list")) ?_ ∅ ∅);refine yM (Q:=_) ?_ hs1 rfl;rw[hs1];refine wF ?_;refine Call_ (jB I hg hm Qr (yM (cX (ha pos2 pins s U H _ I h) λus s1 z0=>?_) (by rw[hs,hs2]) (by rw[hs2];rfl)));let⟨vs,H1,I1,r1,q1⟩:=z0;let⟨t1,t2,a,b,xs,ys,e,hq,hq',hl,q⟩:=q1;subst e;cases r1 with
 | cons r rr=>
  cases rr with
  | cons r' rr=>
   cases rr;cases r;cases r';let⟨its,rv,pl,hz⟩:=I1.sq hq;let⟨jts,rv',pl',hz'⟩:=I1.sq hq';let la:=pl.lt;let lb:=pl'.lt;refine G9 pl pl' λg S hk=>?_;refine vw ?_;let I2:Inv X pins U H1 {s1 with heap:=g}:=I1.kept (t':=s1.toks) hk;let D:NW (↑s1+4) (↑s1+2) (↑s1+3) ↑s1 (↑s1+1):=by
    constructor <;> (show _≠(_:Nat)) <;> ext
   let L:∀c,c<↑s1->CF c (↑s1+4) (↑s1+3) ↑s1 (↑s1+1):=λc hc=>by
    constructor <;> (show _≠(_:Nat)) <;> ext
   refine DN (I2.ok.hd hc) D (L a la) (L b lb) hl hz I2 (λc hc=>?_) S hq hq' λs' H' us' l I' hn sm e pr=>{.ref l,H',I',rfl,q l H' us' sm hn e pr}
   let hb':↑s1<=c:=by
    simp only[zD,zE,yV] at hc;rcases hc with e | e | e | e | e <;> (subst e;first | exact Nat.le_add_right _ _ | exact zm _)
   exact I1.vT hb' (I1.b9.fresh hb')
end
end L2
namespace Sc
open PySem L2 Lm
noncomputable def mixed (c k:Int):Int:=(c%2305843009213693951+1)*(k*k+48271)*40692%2147483399
def cu (h0:0<=i) (h1:i<2^n):Sz n i:=by
 unfold Sz;let e:((2^n:Nat):Int)=(2:Int)^n:=by simp
 rw[<-e] at h1;ext
def Ug (h1:48<=c) (h2:c<=57):c∈("0123456789": Str).cps.toList:=by
 have:c=48\/c=49\/c=50\/c=51\/c=52\/c=53\/c=54\/c=55\/c=56\/c=57:=()
 rcases this with rfl | rfl | rfl | rfl | rfl | rfl | rfl | rfl | rfl | rfl <;> decide
noncomputable def iK (x:Int×Int):Str:=if x.2=1 then dec x.1 else dec x.1 ++"/" ++ dec x.2
abbrev Item:=Option (Int×Int)×(Int×Int)
noncomputable def pV:Item->Str
 | (none,x)=> "r:" ++ iK x
 | (some q,x)=>dec q.1 ++":" ++ dec q.2 ++":" ++ iK x
def QM (x:Int×Int):Prop:=Rd x/\0<x.1/\x.1<10000/\x.2<10000
def QE (q:Int×Int):Prop:=-100<q.1/\q.1<100/\-100<q.2/\q.2<100/\(q.2-7*q.1)%12=0
def N0 (it:Item):Prop:=QM it.2/\∀q,it.1=some q->QE q
def gf (h1:c≠45) (h2:¬(48<=c/\c<=57)):c∉(dec n).cps.toList:=by
 intro z
 by_cases h0:0<=n
 ·let⟨m,rfl⟩:=yL h0
  exact h2 (kW z)
 ·obtain⟨m,em⟩:∃m:Nat,-n=(m:Int):={(-n).toNat,()}
  rw[Ay (),em,cF] at z;rcases zG.mp z with z | z
  ·let e:("-": Str).cps.toList=[45]:=rfl
   rw[e] at z;exact h1 (zA.mp z)
  ·exact h2 (kW z)
def Et (h:QM x):58∉(iK x).cps.toList:=by
 unfold iK;split
 ·exact gf ∅ ∅
 ·rw[cF,cF]
  intro z;rcases zG.mp z with z | z
  ·rcases zG.mp z with z | z
   ·exact gf ∅ ∅ z
   ·let e:("/": Str).cps.toList=[47]:=rfl
    rw[e] at z;exact absurd (zA.mp z) ∅
  ·exact gf ∅ ∅ z
def Jl (h0:0<=n) (h:n<10000):⇑(dec n)<=4:=by
 let⟨m,rfl⟩:=yL h0;exact EL ∅ ()
abbrev jL (x:Int×Int):HO:=.tup [.int x.1,.int x.2]
inductive Ls (H:Hp):V->Option (Int×Int)->Prop where
 | bP:Ls H .bP none
 | ref {b:vE} {q:Int×Int}:H b=some (jL q)->Ls H (.ref b) (some q)
def Ls.mono (s:au H H') (h:Ls H v o):Ls H' v o:=by
 cases h with
 | bP=>exact .bP
 | ref h=>exact .ref (s _ _ h)
def Xb (H:Hp) (v:V) (it:Item):Prop:=∃p pv a,v=.ref p/\H p=some (.tup [pv,.ref a])/\H a=some (jL it.2)/\Ls H pv it.1
noncomputable def vU:List Nat:=("0123456789": Str).cps.toList
noncomputable def rn (most:Int) (cs:List Nat):Option Int:=
 if(⇑cs:Int)<1 then none else if most<⇑cs then none else if cs.all (λc=>decide (c∈vU))=true then(if cs[0]?=some 48/\1<⇑cs then none else some ((NumText.digitsVal cs:Nat):Int)) else none
noncomputable def ov:Option Int->V
 | none=>.bP
 | some n=>.int n
noncomputable def rs (most:Int) (t:Str):Option Int:=if t.cps.toList[0]?=some 45 then(match rn most (t.cps.toList.drop 1) with | some n=>if n=0 then none else some (-n) | none=>none) else rn most t.cps.toList
noncomputable def rp (a b:Str):Option (Int×Int):=match rs 2 a,rs 2 b with
 | some f,some h=>if(h-7*f)%12=0 then some (f,h) else none
 | _,_=>none
noncomputable def QJ (t:Str):Option (Int×Int):=match Txt.split t "/" with
 | [a]=>(match rn 4 a.cps.toList with | some n=>some (red n 1) | none=>none)
 | [a,b]=>(match rn 4 a.cps.toList,rn 4 b.cps.toList with | some n,some m=>if m=0 then none else some (red n m) | _,_=>none)
 | _=>none
noncomputable def lr (t:Str):Option (Int×Int):=match QJ t with
 | some x=>if x.1=0 then none else some x
 | none=>none
noncomputable def ir (t:Str):Option Item:=match lr ((Txt.split t ":").getLast?.getD "") with
 | none=>none
 | some x=>if(Txt.split t ":").dropLast=[("r": Str)] then some (none,x) else match (Txt.split t ":").dropLast with
  | [a,b]=>(match rp a b with | some q=>some (some q,x) | none=>none)
  | _=>none
def R8 (H:Hp) (v:V):Option Item->Prop
 | none=>v=.bP
 | some it=>Xb H v it
def Jd (h:c∈vU):48<=c/\c<=57:=by
 let e:vU=[48,49,50,51,52,53,54,55,56,57]:=rfl;rw[e] at h;simp at h;ext
def OT (h:rn most cs=some n) (hm:most<=4):0<=n/\n<10000/\(cs.all (λc=>decide (c∈vU))=true):=by
 unfold rn at h;split at h
 ·cases h
 ·split at h
  ·cases h
  ·split at h
   ·rename_i h1 h2 h3
    split at h
    ·cases h
    ·cases h
     refine{Int.natCast_nonneg _,?_,h3};let hl:⇑cs<=4:=()
     let key:∀(l:List Nat) (a:Nat),l.all (λc=>decide (c∈vU))=true->l.foldl (λacc c=>acc*10+(c-48)) a<(a+1)*10^⇑l:=by
      intro l
      induction l with
      | nil=>intro a _;simp
      | cons c l ih=>
       intro a ha;rw[wY,zO] at ha;let i3:=Jd (ye ha.1);let i1:=ih (a*10+(c-48)) ha.2;let i2:(a*10+(c-48)+1)*10^⇑l<=((a+1)*10)*10^⇑l:=Nat.mul_le_mul_right _ ();rw[List.foldl_cons,zv,Nat.pow_succ,Nat.mul_comm (10^⇑l) 10,<-Nat.mul_assoc];exact yc i1 i2
     let k1:NumText.digitsVal cs<10^⇑cs:=by have:=key cs 0 h3;rw[Nat.zero_add,Nat.one_mul] at this;exact this
     let k2:10^⇑cs<=10^4:=Nat.pow_le_pow_right ∅ hl;ext
   ·cases h
def Le (h:cs.all (λc=>decide (c∈vU))=true):NumText.AllDigits cs:=λc hc=>by
 have:=(yp.mp h) c hc;exact Jd (ye this)
inductive jO (vs:List V) (H:Hp) (Q:VK) (E:XK):Prop
 | mk (a b:Int) (_:vs=[.int a,.int b]) (_:0<=a) (_:0<=b) (_:Q (.int (Int.gcd a b:Nat)) H)
inductive fU (vs:List V) (H:Hp) (Q:VK) (E:XK):Prop
 | mk (t b:Int) (_:vs=[.int t,.int b]) (_:0<=t) (_:0<b) (_:Sz 8999 b) (_:∀p H',au H H'->H' p=some (jL (red t b))->Q (.ref p) H')
inductive OJ (vs:List V) (H:Hp) (Q:VK) (E:XK):Prop
 | mk (x y:Int×Int) (p q:vE) (n m:Nat) (_:vs=[.ref p,.ref q]) (_:H p=some (jL x)) (_:H q=some (jL y)) (_:Rd x) (_:Rd y) (_:CH n x) (_:CH m y) (_:n+m<=8999) (_:∀r H',au H H'->H' r=some (jL (add x y))->Q (.ref r) H')
inductive J9 (vs:List V) (H:Hp) (Q:VK) (E:XK):Prop
 | mk (x y:Int×Int) (p q:vE) (_:vs=[.ref p,.ref q]) (_:H p=some (jL x)) (_:H q=some (jL y)) (_:CH 8999 x) (_:CH 8999 y) (_:Q (.bl (decide (x.1*y.2<y.1*x.2))) H)
inductive CT (vs:List V) (H:Hp) (Q:VK) (E:XK):Prop
 | mk (c k:Int) (_:vs=[.int c,.int k]) (_:0<=k) (_:k<1000000) (_:Q (.int (mixed c k)) H)
abbrev AX:Sp:=fU
inductive hV (vs:List V) (H:Hp) (Q:VK) (E:XK):Prop
 | mk (t:Str) (most:Int) (_:vs=[.str t,.int most]) (_:⇑t<=600) (_:∀H',au H H'->Q (ov (rn most t.cps.toList)) H')
inductive mj (vs:List V) (H:Hp) (Q:VK) (E:XK):Prop
 | mk (t:Str) (most:Int) (_:vs=[.str t,.int most]) (_:⇑t<=600) (_:∀H',au H H'->Q (ov (rs most t)) H')
inductive nh (vs:List V) (H:Hp) (Q:VK) (E:XK):Prop
 | mk (a b:Str) (_:vs=[.str a,.str b]) (_:⇑a<=600) (_:⇑b<=600) (_:∀v H',au H H'->Ls H' v (rp a b)->Q v H')
def mi (C:vE):Sp:=λvs H Q E=>∃(t:Str),vs=[.str t]/\⇑t<=600/\(∀x,QJ t=some x->∀p H',au H H'->H' p=some (jL x)->Q (.ref p) H')/\(QJ t=none->∀H',au H H'->E (.ref C) none H')
def gS:Sp:=λvs H Q _=>∃(t:Str),vs=[.str t]/\⇑t<=600/\∀v H',au H H'->Ls H' v (lr t)->Q v H'
def oW:Sp:=λvs H Q _=>∃(t:Str),vs=[.str t]/\⇑t<=600/\∀v H',au H H'->R8 H' v (ir t)->Q v H'
noncomputable def dL (x:Int×Int):Dt:=.tup [.int x.1,.int x.2]
noncomputable def dO (f:α->Dt):Option α->Dt
 | none=>.bP
 | some x=>f x
noncomputable def eM (it:Item):Dt:=.tup [dO dL it.1,dL it.2]
noncomputable def j9 (l:List Int):Dt:=.tup (l.map .int)
noncomputable def mO (l:List Str):Dt:=.tup (l.map .str)
abbrev End:=Int×List Int
noncomputable def mX (e:End):Dt:=.tup [.int e.1,j9 e.2]
structure Rep where
 first:Int
 last:Int
 times:Int
 ends:List End
noncomputable def gF (r:Rep):Dt:=.tup [.int r.first,.int r.last,.int r.times,.tup (r.ends.map mX)]
structure Oa where
 aP:Int×Int
 key:Int
 marks:List Str
noncomputable def kX (b:Oa):Dt:=.tup [dL b.aP,.int b.key,mO b.marks]
structure Jump where
 mT:Int
 kO:Int
 bS:Int
 fh:Option Int
noncomputable def jC (j:Jump):Dt:=.tup [.int j.mT,.int j.kO,.int j.bS,dO .int j.fh]
noncomputable def words (t:Str):List Str:=(Txt.split t " ").filter λw=>decide (w≠ "")
noncomputable def sgn:List Nat:=("abcdefghijklmnopqrstuvwxyz0123456789": Str).cps.toList
noncomputable def cI (t:Str):Option Str:=if(⇑t:Int)<1 then none else if(12:Int)<⇑t then none else if t.cps.toList.all (λc=>decide (c∈sgn))=true then some t else none
noncomputable def os:Option Str->V
 | none=>.bP
 | some x=>.str x
noncomputable def fI (t:Str):Option Int:=rn 3 t.cps.toList
noncomputable def mz (t:Str) (lo hi:Int):Option Int:=match fI t with
 | some n=>if n<lo then none else if hi<n then none else some n
 | none=>none
noncomputable def Bg (a b:Str):Option (Int×Int):=match rp a b with
 | some q=>if 12<(if q.1<0 then -q.1 else q.1) then none else some q
 | none=>none
noncomputable def DQ:List Int:=[1,2,4,8,16,32]
noncomputable def jg (t:Str):Option (Int×Int):=match Txt.split t "/" with
 | [a,b]=>(match mz a 1 32,fI b with | some m,some n=>if n∈DQ then some (m,n) else none | _,_=>none)
 | _=>none
noncomputable def Ib (t:Str):Option Int:=match rs 3 t with
 | some k=>if 7<(if k<0 then -k else k) then none else some k
 | none=>none
noncomputable def oh:List (Option α)->Option (List α)
 | []=>some []
 | none::_=>none
 | some x::r=>match oh r with
  | some l=>some (x::l)
  | none=>none
noncomputable def Bi (t:Str):Option End:=match Txt.split t ":" with
 | [a,b]=>(match fI a,oh ((Txt.split b ",").map fI) with | some n,some ps=>some (n,ps) | _,_=>none)
 | _=>none
noncomputable def nI:List Str->Option (Str×(Int×Int)×(Int×Int))
 | [a,b,c,d]=>(match cI a,Bg b c,QJ d with | some n,some t,some l=>some (n,t,l) | _,_,_=>none)
 | _=>none
noncomputable def sZ (ws:List Str):Option (Str×List Str):=match ws with
 | a::b::r=>(match oh ((a::b::r).map cI) with | some (n::ps)=>some (n,ps) | _=>none)
 | _=>none
noncomputable def FC:List Str->Option Oa
 | m::k::ms=>(match oh (ms.map cI) with | some l=>(match jg m,Ib k with | some x,some y=>some {(x),y,l} | _,_=>none) | none=>none)
 | _=>none
noncomputable def uz:List Str->Option (Str×Int×Str)
 | [a,b,c]=>(match cI a,fI b,cI c with | some x,some y,some z=>some (x,y,z) | _,_,_=>none)
 | _=>none
noncomputable def lJ:List Str->Option (Int×Str×List Item)
 | b::p::i::r=>(match oh ((i::r).map ir) with | some l=>if l.all (λit=>it.1.isNone)=true then none else(match fI b,cI p with | some x,some y=>some (x,y,l) | _,_=>none) | none=>none)
 | _=>none
noncomputable def lI:List Str->Option Rep
 | a::b::c::r=>(match oh (r.map Bi) with | some l=>(match fI a,fI b,mz c 2 9 with | some x,some y,some z=>some {(x),y,z,l} | _,_,_=>none) | none=>none)
 | _=>none
noncomputable def Bq:List Str->Option Jump
 | [a,b,c,d]=>(match fI a,fI b,fI c with | some x,some y,some z=>(match fI d with | some n=>some {x,y,z,some n} | none=>if d ="end" then some {(x),y,z,none} else none) | _,_,_=>none)
 | _=>none
noncomputable def one (f:Str->Option α):List Str->Option α
 | [w]=>f w
 | _=>none
inductive Told where
 | bK (n:Str)
 | cJ (n:Str) (t l:Int×Int)
 | cw (n:Str) (ps:List Str)
 | bar (b:Oa)
 | aF (l:Int×Int)
 | holds (p:Str) (b:Int) (i:Str)
 | aJ (b:Int) (p:Str) (its:List Item)
 | rep (r:Rep)
 | bC (j:Jump)
noncomputable def oz:List Str->Option Told
 | []=>none
 | w::r=>
  if w ="player" then(one cI r).map .bK
  else if w ="instrument" then(nI r).map λx=>.cJ x.1 x.2.1 x.2.2
  else if w ="staff" then(sZ r).map λx=>.cw x.1 x.2
  else if w ="bar" then(FC r).map .bar
  else if w ="upbeat" then(one lr r).map .aF
  else if w ="holds" then(uz r).map λx=>.holds x.1 x.2.1 x.2.2
  else if w ="notes" then(lJ r).map λx=>.aJ x.1 x.2.1 x.2.2
  else if w ="repeat" then(lI r).map .rep
  else if w ="jump" then(Bq r).map .bC
  else none
noncomputable def dq (r:Rep):List (Int×Int×List Int):=(r.ends.zip ((r.ends.drop 1).map (·.1)++[r.last+1])).map λp=>(p.1.1,p.2-1,p.1.2)
noncomputable def sortI (l:List Int):List Int:=l.mergeSort
noncomputable def fZ:List End->Int->List Int->Option (Int×List Int)
 | [],a,ps=>some (a,ps)
 | e::r,a,ps=>if e.1<=a then none else if e.2≠sortI e.2 then none else fZ r e.1 (ps++e.2)
noncomputable def MR (lo:Int) (n:Nat):List Int:=(List.range n).map λi=>lo+(i:Nat)
noncomputable def gd (r:Rep):Bool:=match r.ends with
 | []=>true
 | _=>(match fZ r.ends (r.first-1) [] with | none=>false | some (a,ps)=>decide (a<=r.last)&&decide (sortI ps=MR 1 (r.times+1-1).toNat))
noncomputable def lE (rs:List Rep) (r:Rep):Bool:=match rs.getLast? with
 | some q=>if r.first<=q.last then false else decide (r.first<=r.last)&&gd r
 | none=>decide (r.first<=r.last)&&gd r
noncomputable def du (rs:List Rep) (b:Int):Option Rep:=rs.find? λr=>decide (r.first<=b)&&decide (b<=r.last)
noncomputable def eG (rs:List Rep) (b:Int):Bool:=match du rs b with
 | none=>true
 | some r=>decide (b=r.last)
noncomputable def dn (rs:List Rep) (b:Int):Bool:=match du rs b with
 | none=>true
 | some r=>decide (b=r.first)
noncomputable def ig (rs:List Rep) (b:Int):Bool:=rs.all λr=>(dq r).all λe=>!(decide (e.1<=b)&&decide (b<=e.2.1)&&!decide (r.times∈e.2.2))
noncomputable def fA (rs:List Rep) (j:Jump):Bool:=
 if j.bS<j.kO then false else if j.mT<j.bS then false else
 match j.fh with
 | some c=>(decide (j.mT<c)&&dn rs c&&ig rs c)&&(eG rs j.mT&&dn rs j.kO&&ig rs j.bS)
 | none=>eG rs j.mT&&dn rs j.kO&&ig rs j.bS
structure bH where
 players:List Str:=[]
 ao:List (Str×(Int×Int)×(Int×Int)):=[]
 aK:List (Str×List Str):=[]
 aG:List Oa:=[]
 aF:Option (Int×Int):=none
 holds:List (Str×List (Int×Str)):=[]
 aJ:List ((Int×Str)×List Item):=[]
 repeats:List Rep:=[]
 bC:Option Jump:=none
noncomputable def bH.aP (S:bH) (b:Nat):Int×Int:=match S.aG[b]? with
 | some x=>red x.aP.1 x.aP.2
 | none=>(0,1)
noncomputable def bH.len (S:bH) (b:Nat):Int×Int:=match S.aF with
 | some u=>if b=0 then u else S.aP b
 | none=>S.aP b
noncomputable def ke (l:List Item):Int×Int:=l.foldl (λt it=>add t it.2) (0,1)
noncomputable def bH.has (S:bH) (bs:List Int):Bool:=bs.all λb=>decide (b<⇑S.aG)
noncomputable def fault (S:bH):Told->Option Str
 | .bK n=>if n∈S.players then some "twice" else if 12<=⇑S.players then some "many" else none
 | .cJ n _ _=>if n∈S.ao.map (·.1) then some "twice" else if 12<=⇑S.ao then some "many" else none
 | .cw n ps=>if n∈S.aK.map (·.1) then some "twice" else if¬ps.Nodup then some "twice" else if S.aK.any (λq=>ps.any λp=>decide (p∈q.2))=true then some "twice" else if ps.any (λp=>!decide (p∈S.players))=true then some "name" else none
 | .bar _=>if 200<=⇑S.aG then some "many" else none
 | .aF l=>if S.aF.isSome=true then some "twice" else if ⇑S.aG=0 then some "bar" else if¬l.1*(S.aP 0).2<(S.aP 0).1*l.2 then some "length" else if S.aJ.any (λp=>decide (p.1.1=0))=true then some "length" else none
 | .holds p b i=>
  let hs:=(S.holds.lookup p).getD []
  if(match hs.getLast? with | some q=>decide (b<=q.1) | none=>false)=true then some "twice" else if p∉S.players then some "name" else if i∉S.ao.map (·.1) then some "name" else if¬S.has [b]=true then some "bar" else if 20<=⇑hs then some "many" else none
 | .aJ b p its=>if(b,p)∈S.aJ.map (·.1) then some "twice" else if p∉S.players then some "name" else if¬S.has [b]=true then some "bar" else if ke its≠S.len b.toNat then some "length" else if 40<⇑its then some "many" else none
 | .rep r=>if¬S.has ([r.first,r.last]++r.ends.map (·.1))=true then some "bar" else if S.bC.isSome=true then some "form" else if¬lE S.repeats r=true then some "form" else if 20<=⇑S.repeats then some "many" else none
 | .bC j=>if S.bC.isSome=true then some "twice" else if¬S.has ([j.mT,j.kO,j.bS]++j.fh.toList)=true then some "bar" else if¬fA S.repeats j=true then some "form" else none
noncomputable def e9 (hs:List (Str×List (Int×Str))) (p:Str) (h:Int×Str):List (Str×List (Int×Str)):=
 if p∈hs.map (·.1) then hs.map λq=>if q.1=p then(q.1,q.2++[h]) else q else hs++[(p,[h])]
noncomputable def bQ (S:bH):Told->bH
 | .bK n=>{S with players:=S.players++[n]}
 | .cJ n t l=>{S with ao:=S.ao++[(n,t,l)]}
 | .cw n ps=>{S with aK:=S.aK++[(n,ps)]}
 | .bar b=>{S with aG:=S.aG++[b]}
 | .aF l=>{S with aF:=some l}
 | .holds p b i=>{S with holds:=e9 S.holds p (b,i)}
 | .aJ b p its=>{S with aJ:=S.aJ++[((b,p),its)]}
 | .rep r=>{S with repeats:=S.repeats++[r]}
 | .bC j=>{S with bC:=some j}
theorem de (h:Is H d v):∀{ds:List Dt} {vs:List V},aD H ds vs->aD H (ds++[d]) (vs++[v])
 | [],_,q=>by unfold aD at q;subst q;show aD H [d] [v];unfold aD;exact{v,[],rfl,h,by unfold aD;rfl}
 | c::ds,_,q=>by
  unfold aD at q;let⟨u,r,rfl,h1,h2⟩:=q;show aD H (c::(ds++[d])) (u::(r++[v]));unfold aD;exact{u,_,rfl,h1,de h h2}
def ED (h:aH K H p xs) (hi:i<⇑xs):(GX K p).go i H:={xs,xs[i],h,zd hi}
def F5 (h:cW K H p xs) (hi:i<⇑xs):(R7 K p).go i H:={xs,xs[i],h,zd hi}
def eQ (e:au H H') (h:H a=some (.tup xs)):cW K H' a xs:=cW.of (e _ _ h)
theorem _root_.L2.au.back (s:au H H') (h:H' a=none):H a=none:=by
 cases q:H a with
 | none=>rfl
 | some u=>rw[s _ _ q] at h;cases h
def nZ {α:Type} {J:It} {ws:List α} {enc:α->V} {U₀:St} {g:TG} {te:TE} {Q:VK} {H1:Hp} (F:α->Dt) (Pσ:St->Prop) (hn:⇑ws<=sizeLine) (h0:Pσ U₀)
  (go:∀i H,i<⇑ws->au H1 H->J.go i H) (stop:∀H,au H1 H->J.stop ⇑ws H) (yl:∀(i:Nat) x H H2 (hi:i<⇑ws),au H1 H->J.JV i H x H2->H2=H/\x=enc ws[i])
  (turn:∀(a:α) (U:St) (H:Hp) (R:St->V->Hp->Prop),a∈ws->au H1 H->Pσ U->(∀σ3 y H5,au H H5->Is H5 (F a) y->Pσ σ3->R σ3 y H5)->g (enc a) U H λσ3 H3=>te σ3 H3 λy H5=>R σ3 y H5)
  (fin:∀D vs H,au H1 H->H1 D=none->H D=some (.lst vs)->aD H (ws.map F) vs->Q (.ref D) H):cR U₀ g qF te Q J H1:=by
 refine{λi m xs U H=>m=⇑ws-i/\i<=⇑ws/\⇑xs=i/\au H1 H/\aD H ((ws.take i).map F) xs/\Pσ U,{_,rfl,yg _,rfl,au.refl _,by simp[aD],h0},?_};rintro i m xs U H ⟨rfl,hi,hx,sm,il,pσ⟩;rcases xI i ⇑ws with hlt | hge
 ·refine .inr {go i H hlt sm,(),?_}
  intro x H2 hy;let⟨rfl,rfl⟩:=yl i x H H2 hlt sm hy;refine turn ws[i] U H2 (λσ3 y H5=>if true=true then∃m',m'<⇑ws-i/\(m'=⇑ws-(i+1)/\i+1<=⇑ws/\⇑(xs++[y])=i+1/\au H1 H5/\aD H5 ((ws.take (i+1)).map F) (xs++[y])/\Pσ σ3) else False) (ym hlt) sm pσ ?_;rintro σ3 y H5 s5 iy p3;rw[yO rfl];refine{_,(),rfl,hlt,by simp[hx],sm.trans s5,?_,p3};rw[xx,zd hlt,zk];exact de iy (il.mono s5)
 ·let e:i=⇑ws:=()
  subst e;refine .inl {stop H sm,(),λD hD=>?_};let il':aD H (ws.map F) xs:=by rw[zN] at il;exact il
  exact fin D xs _ (sm.trans (aY hD)) (sm.back hD) aB (il'.mono (aY hD))
def Cc {α:Type} {J:It} {ws:List α} {enc:α->V} {U₀:St} {g:TG} {te:TE} {Q:VK} {H1:Hp} (F:α->Dt) (Pσ:St->Prop) (hn:⇑ws<=sizeLine) (h0:Pσ U₀)
  (go:∀i H,i<⇑ws->au H1 H->J.go i H) (stop:∀H,au H1 H->J.stop ⇑ws H) (yl:∀(i:Nat) x H H2 (hi:i<⇑ws),au H1 H->J.JV i H x H2->H2=H/\x=enc ws[i])
  (turn:∀(a:α) (U:St) (H:Hp) (R:St->V->Hp->Prop),a∈ws->au H1 H->Pσ U->(∀σ3 y H5,au H H5->Is H5 (F a) y->Pσ σ3->R σ3 y H5)->g (enc a) U H λσ3 H3=>te σ3 H3 λy H5=>R σ3 y H5)
  (fin:∀D vs H,au H1 H->H D=some (.lst vs)->aD H (ws.map F) vs->Q (.ref D) H):cR U₀ g qF te Q J H1:=nZ F Pσ hn h0 go stop yl turn λD vs H s _=>fin D vs H s
def dW {K:yB} {α:Type} {p:vE} {ws:List α} {enc:α->V} {U₀:St} {g:TG} {te:TE} {Q:VK} {H1:Hp} (F:α->Dt) (Pσ:St->Prop) (hn:⇑ws<=sizeLine) (hp:aH K H1 p (ws.map enc)) (h0:Pσ U₀)
  (turn:∀(a:α) (U:St) (H:Hp) (R:St->V->Hp->Prop),a∈ws->au H1 H->Pσ U->(∀σ3 y H5,au H H5->Is H5 (F a) y->Pσ σ3->R σ3 y H5)->g (enc a) U H λσ3 H3=>te σ3 H3 λy H5=>R σ3 y H5)
  (fin:∀D vs H,au H1 H->H1 D=none->H D=some (.lst vs)->aD H (ws.map F) vs->Q (.ref D) H):cR U₀ g qF te Q (GX K p) H1:=by
 refine nZ F Pσ hn h0 (λi H hi sm=>ED (sm.seq hp) (by rw[za];exact hi)) (λH sm=>{_,sm.seq hp,by rw[za];exact zm _}) ?_ turn fin;rintro i x H H2 hi sm ⟨rfl,hy⟩;let hx':=hy _ (sm.seq hp);rw[zK,zd hi] at hx';cases hx';exact{(rfl),rfl}
def eZ {K:yB} {α:Type} {p:vE} {ws:List α} {enc:α->V} {U₀:St} {g:TG} {te:TE} {Q:VK} {H1:Hp} (F:α->Dt) (Pσ:St->Prop) (hn:⇑ws<=sizeLine) (hp:aH K H1 p (ws.map enc)) (h0:Pσ U₀)
  (turn:∀(a:α) (U:St) (H:Hp) (R:St->V->Hp->Prop),a∈ws->au H1 H->Pσ U->(∀σ3 y H5,au H H5->Is H5 (F a) y->Pσ σ3->R σ3 y H5)->g (enc a) U H λσ3 H3=>te σ3 H3 λy H5=>R σ3 y H5)
  (fin:∀D vs H,au H1 H->H D=some (.lst vs)->aD H (ws.map F) vs->Q (.ref D) H):cR U₀ g qF te Q (GX K p) H1:=by
 refine Cc F Pσ hn h0 (λi H hi sm=>ED (sm.seq hp) (by rw[za];exact hi)) (λH sm=>{_,sm.seq hp,by rw[za];exact zm _}) ?_ turn fin;rintro i x H H2 hi sm ⟨rfl,hy⟩;let hx':=hy _ (sm.seq hp);rw[zK,zd hi] at hx';cases hx';exact{(rfl),rfl}
def gG {K:yB} {α:Type} {p:vE} {ws:List α} {enc:α->V} {U₀:St} {g:TG} {te:TE} {Q:VK} {H1:Hp} (F:α->Dt) (Pσ:St->Prop) (hn:⇑ws<=sizeLine) (hp:H1 p=some (.tup (ws.map enc))) (h0:Pσ U₀)
  (turn:∀(a:α) (U:St) (H:Hp) (R:St->V->Hp->Prop),a∈ws->au H1 H->Pσ U->(∀σ3 y H5,au H H5->Is H5 (F a) y->Pσ σ3->R σ3 y H5)->g (enc a) U H λσ3 H3=>te σ3 H3 λy H5=>R σ3 y H5)
  (fin:∀D vs H,au H1 H->H D=some (.lst vs)->aD H (ws.map F) vs->Q (.ref D) H):cR U₀ g qF te Q (R7 K p) H1:=by
 refine Cc F Pσ hn h0 (λi H hi sm=>F5 (eQ sm hp) (by rw[za];exact hi)) (λH sm=>{_,eQ sm hp,by rw[za];exact zm _}) ?_ turn fin;rintro i x H H2 hi sm ⟨rfl,hy⟩;let hx':=hy _ (eQ sm hp);rw[zK,zd hi] at hx';cases hx';exact{(rfl),rfl}
noncomputable def gx (v:V):Bool:=decide (v=.bP)
noncomputable def Dt.gx:Dt->Bool
 | .bP=>true
 | _=>false
def PQ:∀{d:Dt} {v:V},Is H d v->gx v=Dt.gx d
 | .bP,_,h=>by unfold Is at h;subst h;rfl
 | .bl _,_,h=>by unfold Is at h;subst h;rfl
 | .int _,_,h=>by unfold Is at h;subst h;rfl
 | .str _,_,h=>by unfold Is at h;subst h;rfl
 | .tup _,_,h=>by unfold Is at h;let⟨a,vs,rfl,_⟩:=h;rfl
theorem j0:∀{ds:List Dt} {vs:List V},aD H ds vs->vs.any gx=ds.any Dt.gx
 | [],_,h=>by unfold aD at h;subst h;rfl
 | d::ds,_,h=>by
  unfold aD at h;let⟨v,r,rfl,h1,h2⟩:=h;rw[xu,xu,PQ h1,j0 h2]
theorem ki:∀{bs:List Bool} {vs:List V},aD H (bs.map Dt.bl) vs->vs=bs.map V.bl
 | [],_,h=>by unfold aD at h;exact h
 | b::bs,_,h=>by
  rw[zj] at h;unfold aD at h;let⟨v,r,rfl,h1,h2⟩:=h;unfold Is at h1;rw[h1,ki h2];rfl
theorem dG:∀{bs:List Str} {vs:List V},aD H (bs.map Dt.str) vs->vs=bs.map V.str
 | [],_,h=>by unfold aD at h;exact h
 | b::bs,_,h=>by
  rw[zj] at h;unfold aD at h;let⟨v,r,rfl,h1,h2⟩:=h;unfold Is at h1;rw[h1,dG h2];rfl
theorem dS:∀{bs:List Int} {vs:List V},aD H (bs.map Dt.int) vs->vs=bs.map V.int
 | [],_,h=>by unfold aD at h;exact h
 | b::bs,_,h=>by
  rw[zj] at h;unfold aD at h;let⟨v,r,rfl,h1,h2⟩:=h;unfold Is at h1;rw[h1,dS h2];rfl
theorem E4:∀{bs:List Str},aD H (bs.map Dt.str) (bs.map V.str)
 | []=>by simp[aD]
 | b::bs=>by rw[zj,zj];unfold aD;exact{_,_,rfl,by unfold Is;rfl,E4}
theorem rK:∀{bs:List Int},aD H (bs.map Dt.int) (bs.map V.int)
 | []=>by simp[aD]
 | b::bs=>by rw[zj,zj];unfold aD;exact{_,_,rfl,by unfold Is;rfl,rK}
def Lz (d:α->Dt):Prop:=∀a,Dt.gx (d a)=false
theorem i9 {α:Type} {d:α->Dt} (f:Lz d):∀{l:List (Option α)},(l.map (dO d)).any Dt.gx=true->oh l=none
 | [],h=>by cases h
 | none::_,_=>rfl
 | some x::r,h=>by
  rw[zj,xu] at h;let e:Dt.gx (dO d (some x))=false:=f x;rw[e,Bool.false_or] at h;show(match oh r with | some l=>some (x::l) | none=>none)=none;rw[i9 f h]
theorem i7:∀{l:List (Option α)},(l.map (dO d)).any Dt.gx=false->∃xs,oh l=some xs/\l.map (dO d)=xs.map d/\⇑xs=⇑l
 | [],_=>{[],rfl,rfl,rfl}
 | none::_,h=>by cases h
 | some x::r,h=>by
  rw[zj,xu,Bool.or_eq_false_iff] at h;let⟨xs,e1,e2,e3⟩:=i7 h.2;refine{x::xs,?_,?_,by simp[e3]}
  ·show(match oh r with | some l=>some (x::l) | none=>none)=_
   rw[e1]
  ·rw[zj,zj,e2];rfl
def Ja:Lz Dt.str:=λ_=>rfl
def P7:Lz Dt.int:=λ_=>rfl
def Ue:Lz dL:=λ_=>rfl
def P8:Lz mX:=λ_=>rfl
def Nl:Lz eM:=λ_=>rfl
def BK (h:Ls H v o):Is H (dO dL o) v:=by
 cases h with
 | bP=>unfold dO Is;rfl
 | ref h=>exact iM h
def fg (h:Is H (dO dL o) v):Ls H v o:=by
 cases o with
 | none=>unfold dO Is at h;subst h;exact .bP
 | some q=>
  unfold dO dL Is at h;let⟨a,vs,rfl,ha,hl⟩:=h;let e:[Dt.int q.1,Dt.int q.2]=[q.1,q.2].map Dt.int:=rfl;rw[e] at hl;rw[dS hl] at ha;exact .ref ha
def BL (o:Option Int):Is H (dO .int o) (ov o):=by cases o <;> (unfold dO Is;rfl)
def Ey (o:Option Str):Is H (dO .str o) (os o):=by cases o <;> (unfold dO Is;rfl)
def Vn (h:R8 H v o):Is H (dO eM o) v:=by
 cases o with
 | none=>unfold dO Is;exact h
 | some it=>
  let⟨p,pv,a,rfl,h1,h2,h3⟩:=h;unfold dO eM;unfold Is;refine{p,_,rfl,h1,?_};unfold aD;refine{_,_,rfl,BK h3,?_};unfold aD;exact{_,_,rfl,iM h2,by unfold aD;rfl}
def Hy:Sp:=λvs H Q _=>∃(t:Str),vs=[.str t]/\⇑t<=1000000/\∀p H',au H H'->H' p=some (.lst ((words t).map V.str))->Q (.ref p) H'
def lA:Sp:=λvs H Q _=>∃(t:Str),vs=[.str t]/\⇑t<=600/\∀H',au H H'->Q (os (cI t)) H'
def kf:Sp:=λvs H Q _=>∃(t:Str),vs=[.str t]/\⇑t<=600/\∀H',au H H'->Q (ov (fI t)) H'
inductive AV (vs:List V) (H:Hp) (Q:VK) (E:XK):Prop
 | mk (t:Str) (lo hi:Int) (_:vs=[.str t,.int lo,.int hi]) (_:⇑t<=600) (_:∀H',au H H'->Q (ov (mz t lo hi)) H')
def Fc:Sp:=λvs H Q _=>∃(t:Str),vs=[.str t]/\⇑t<=600/\∀v H',au H H'->Ls H' v (QJ t)->Q v H'
inductive Fb (vs:List V) (H:Hp) (Q:VK) (E:XK):Prop
 | mk (a b:Str) (_:vs=[.str a,.str b]) (_:⇑a<=600) (_:⇑b<=600) (_:∀v H',au H H'->Ls H' v (Bg a b)->Q v H')
def CO (K:yB):Sp:=λvs H Q _=>∃(t:Str),vs=[.str t]/\⇑t<=600/\∀v H',au H H'->Ls H' v (jg t)->Q v H'
def HB:Sp:=λvs H Q _=>∃(t:Str),vs=[.str t]/\⇑t<=600/\∀H',au H H'->Q (ov (Ib t)) H'
inductive CQ (K:yB) (vs:List V) (H:Hp) (Q:VK) (E:XK):Prop
 | mk (a:vE) (us:List V) (_:vs=[.ref a]) (_:aH K H a us) (_:⇑us<=1000000) (_:∀H',au H H'->Q (if us.any gx=true then .bP else .ref a) H')
inductive CP (vs:List V) (H:Hp) (Q:VK) (E:XK):Prop
 | mk (a:vE) (us:List V) (_:vs=[.ref a]) (_:H a=some (.tup us)) (_:⇑us<=1000000) (_:∀H',au H H'->Q (if us.any gx=true then .bP else .ref a) H')
def uo:Sp:=λvs H Q _=>∃(t:Str),vs=[.str t]/\⇑t<=600/\∀v H',au H H'->Is H' (dO mX (Bi t)) v->Q v H'
inductive fT (K:yB) (D:Hp->Hp->V->List Str->Prop) (vs:List V) (H:Hp) (Q:VK) (E:XK):Prop
 | mk (p:vE) (ws:List Str) (_:vs=[.ref p]) (_:aH K H p (ws.map V.str)) (_:⇑ws<=1000000) (_:(∀x∈ws,⇑x<=600)) (_:∀v H',au H H'->D H H' v ws->Q v H')
noncomputable def d7 (x:Str×(Int×Int)×(Int×Int)):Dt:=.tup [.str x.1,dL x.2.1,dL x.2.2]
noncomputable def gE (x:Str×List Str):Dt:=.tup [.str x.1,mO x.2]
noncomputable def uJ (x:Str×Int×Str):Dt:=.tup [.str x.1,.int x.2.1,.str x.2.2]
def Mq (H:Hp) (v:V) (x:Int×Str×List Item):Prop:=∃a q vs,v=.ref a/\H a=some (.tup [.int x.1,.str x.2.1,.ref q])/\H q=some (.lst vs)/\aD H (x.2.2.map eM) vs
def iX (H0 H:Hp) (v:V) (x:Int×Str×List Item):Prop:=∃a q vs,v=.ref a/\H a=some (.tup [.int x.1,.str x.2.1,.ref q])/\H q=some (.lst vs)/\aD H (x.2.2.map eM) vs/\H0 q=none
def iX.at (h:iX H0 H v x):Mq H v x:=by
 let⟨a,q,vs,h1,h2,h3,h4,_⟩:=h;exact{(a),q,vs,h1,h2,h3,h4}
theorem iX.back (s:au H00 H0) (h:iX H0 H v x):iX H00 H v x:=by
 let⟨a,q,vs,h1,h2,h3,h4,h5⟩:=h;exact{a,q,vs,h1,h2,h3,h4,s.back h5}
def o9 (d:α->Dt) (f:List Str->Option α) (_ H:Hp) (v:V) (ws:List Str):Prop:=Is H (dO d (f ws)) v
def VH (H0 H:Hp) (v:V) (ws:List Str):Prop:=match lJ ws with
 | none=>v=.bP
 | some x=>iX H0 H v x
def nX (h:Is H d v):aD H [d] [v]:=by unfold aD;exact{_,_,rfl,h,by unfold aD;rfl}
def aN (h:Is H d v) (r:aD H ds vs):aD H (d::ds) (v::vs):=by unfold aD;exact{_,_,rfl,h,r}
def cD:aD H [] []:=by unfold aD;rfl
def cz (h:H a=some (.tup vs)) (r:aD H ds vs):Is H (.tup ds) (.ref a):=by unfold Is;exact{_,_,rfl,h,r}
def eJ:Is H (.str x) (.str x):=by unfold Is;rfl
def cE:Is H (.int x) (.int x):=by unfold Is;rfl
def dU:Is H .bP .bP:=by unfold Is;rfl
def fM (xs:List V) (k:Nat):ky xs (some (k:Int)) none=xs.drop k:=by
 unfold ky;rw[HT.HW];let e:HT.fc ⇑xs 0 (some (k:Int))=min k ⇑xs:=by unfold HT.fc;simp;ext
 rw[e];rcases Nat.le_total k ⇑xs with h | h
 ·rw[Nat.min_eq_left h]
  exact xy (by rw[xD];exact zm _)
 ·rw[Nat.min_eq_right h,List.drop_eq_nil_of_le (zm _),List.drop_eq_nil_of_le h,List.take_nil]
def AA (xs:List V) (k:Nat):ky xs none (some (k:Int))=xs.take k:=by
 unfold ky;rw[HT.HW,List.drop_zero,Nat.sub_zero];let e:HT.fc ⇑xs ⇑xs (some (k:Int))=min k ⇑xs:=by unfold HT.fc;simp;ext
 rw[e];rcases Nat.le_total k ⇑xs with h | h
 ·rw[Nat.min_eq_left h]
 ·rw[Nat.min_eq_right h,xy (zm _),xy h]
def pO (a b:Str) (r:List Str):sZ (a::b::r)=(match oh ((a::b::r).map cI) with | some (n::ps)=>some (n,ps) | _=>none):=rfl
def gJ (H0 H:Hp) (v:V):Option Told->Prop
 | none=>v=.bP
 | some (.bK n)=>v=.str n
 | some (.cJ n t l)=>Is H (d7 (n,t,l)) v
 | some (.cw n ps)=>Is H (gE (n,ps)) v
 | some (.bar b)=>Is H (kX b) v
 | some (.aF l)=>Is H (dL l) v
 | some (.holds p b i)=>Is H (uJ (p,b,i)) v
 | some (.aJ b p its)=>iX H0 H v (b,p,its)
 | some (.rep r)=>Is H (gF r) v
 | some (.bC j)=>Is H (jC j) v
inductive HA (K:yB) (vs:List V) (H:Hp) (Q:VK) (E:XK):Prop
 | mk (p:vE) (x:Str) (ws:List Str) (_:vs=[.ref p]) (_:aH K H p ((x::ws).map V.str)) (_:⇑ws<=999999) (_:(∀y∈x::ws,⇑y<=600)) (_:∀v H',au H H'->gJ H H' v (oz (x::ws))->Q v H')
def m8 (h:Is H (dO d o) v) (hg:∀x,Is H (d x) v->gJ H0 H v (some (g x))):gJ H0 H v (o.map g):=by
 cases o with
 | none=>unfold dO Is at h;exact h
 | some x=>exact hg x h
theorem gJ.back (s:au H00 H0):∀{t:Option Told},gJ H0 H v t->gJ H00 H v t
 | none,h=>h
 | some (.bK _),h=>h
 | some (.cJ _ _ _),h=>h
 | some (.cw _ _),h=>h
 | some (.bar _),h=>h
 | some (.aF _),h=>h
 | some (.holds _ _ _),h=>h
 | some (.aJ _ _ _),h=>iX.back s h
 | some (.rep _),h=>h
 | some (.bC _),h=>h
def cm {α:Type} {l:List α} {i:Nat} {x:α} (h:l[i]?=some x):l.take (i+1)=l.take i++[x]:=by rw[xx,h];rfl
theorem Ma:∀{l:List α} {i:Nat} {x:α},l[i]?=some x->(l.take i).find? p=none->p x=true->l.find? p=some x
 | [],i,x,h,_,_=>by simp at h
 | y::l,0,x,h,_,hx=>by simp at h;subst h;rw[yT,hx]
 | y::l,i+1,x,h,hn,hx=>by
  rw[vc,yT] at hn;rw[yT];cases q:p y with
  | true=>rw[q] at hn;cases hn
  | false=>rw[q] at hn;exact Ma (by simpa using h) hn hx
def EF {α:Type} {p:α->Bool} {l:List α} {i:Nat} {x:α} (h:l[i]?=some x) (hn:(l.take i).find? p=none) (hx:p x=false):(l.take (i+1)).find? p=none:=by
 rw[cm h,List.find?_append,hn];simp[hx]
def Eb (K:yB) (H:Hp) (p:vE) (rs:List Rep):Prop:=∃vs,aH K H p vs/\aD H (rs.map gF) vs
theorem Eb.mono {K:yB} {H H':Hp} (s:au H H') {p:vE} {rs:List Rep} (h:Eb K H p rs):Eb K H' p rs:=by
 let⟨vs,h1,h2⟩:=h;exact{vs,s.seq h1,h2.mono s}
def dz (h:Is H (gF r) v):∃a e,v=.ref a/\H a=some (.tup [.int r.first,.int r.last,.int r.times,.ref e])/\Is H (.tup (r.ends.map mX)) (.ref e):=by
 unfold gF Is at h;let⟨a,vs,rfl,ha,hl⟩:=h;unfold aD at hl;let⟨v1,r1,rfl,h1,hl⟩:=hl;unfold aD at hl;let⟨v2,r2,rfl,h2,hl⟩:=hl;unfold aD at hl;let⟨v3,r3,rfl,h3,hl⟩:=hl;unfold aD at hl;let⟨v4,r4,rfl,h4,hl⟩:=hl;unfold aD at hl;subst hl;unfold Is at h1 h2 h3;subst h1 h2 h3;let h4':=h4;unfold Is at h4;let⟨e,us,rfl,he,hle⟩:=h4;exact{(a),e,rfl,ha,h4'}
def pX (h:Is H (mX e) v):∃a q,v=.ref a/\H a=some (.tup [.int e.1,.ref q])/\H q=some (.tup (e.2.map V.int)):=by
 unfold mX Is at h;let⟨a,vs,rfl,ha,hl⟩:=h;unfold aD at hl;let⟨v1,r1,rfl,h1,hl⟩:=hl;unfold aD at hl;let⟨v2,r2,rfl,h2,hl⟩:=hl;unfold aD at hl;subst hl;unfold Is at h1;subst h1;unfold j9 Is at h2;let⟨q,us,rfl,hq,hle⟩:=h2;rw[dS hle] at hq;exact{(a),q,rfl,ha,hq}
def cV {H:Hp} {α:Type} {d:α->Dt} {xs:List α} {vs:List V} {i:Nat} {v:V} (h:aD H (xs.map d) vs) (e:vs[i]?=some v):∃x,xs[i]?=some x/\Is H (d x) v:=by
 let⟨c,h1,h2⟩:=h.get e;rw[zK] at h1;cases q:xs[i]? with
 | none=>rw[q] at h1;cases h1
 | some x=>rw[q] at h1;cases h1;exact{(x),rfl,h2}
def aO {H:Hp} {α:Type} {d:α->Dt} {xs:List α} {vs:List V} (h:aD H (xs.map d) vs):⇑vs=⇑xs:=by rw[h.len,za]
inductive uO (K:yB) (vs:List V) (H:Hp) (Q:VK) (E:XK):Prop
 | mk (p:vE) (rs:List Rep) (b:Int) (_:vs=[.ref p,.int b]) (_:Eb K H p rs) (_:∀v,Is H (dO gF (du rs b)) v->Q v H)
inductive Fd (K:yB) (vs:List V) (H:Hp) (Q:VK) (E:XK):Prop
 | mk (p:vE) (rs:List Rep) (b:Int) (_:vs=[.ref p,.int b]) (_:Eb K H p rs) (_:Q (.bl (eG rs b)) H)
inductive Fe (K:yB) (vs:List V) (H:Hp) (Q:VK) (E:XK):Prop
 | mk (p:vE) (rs:List Rep) (b:Int) (_:vs=[.ref p,.int b]) (_:Eb K H p rs) (_:Q (.bl (dn rs b)) H)
noncomputable def NF (x:Int×Int×List Int):Dt:=.tup [.int x.1,.int x.2.1,j9 x.2.2]
inductive Ka (vs:List V) (H:Hp) (Q:VK) (E:XK):Prop
 | mk (v:V) (r:Rep) (_:vs=[v]) (_:Is H (gF r) v) (_:⇑r.ends<=1000000) (_:∀p us H',au H H'->H' p=some (.lst us)->aD H' ((dq r).map NF) us->Q (.ref p) H')
inductive uR (K:yB) (vs:List V) (H:Hp) (Q:VK) (E:XK):Prop
 | mk (p:vE) (rs:List Rep) (b:Int) (_:vs=[.ref p,.int b]) (_:Eb K H p rs) (_:(∀r∈rs,⇑r.ends<=1000000)) (_:∀H',au H H'->Q (.bl (ig rs b)) H')
def Cb {α:Type} {J:It} {ws:List α} {U₀:St} {g:TG} {te:TE} {Q:VK} {H1:Hp} (Y:α->V->Hp->Prop) (F:α->Dt) (Pσ:St->Prop) (hn:⇑ws<=sizeLine) (h0:Pσ U₀)
  (go:∀i H,i<⇑ws->au H1 H->J.go i H) (stop:∀H,au H1 H->J.stop ⇑ws H) (yl:∀(i:Nat) x H H2 (hi:i<⇑ws),au H1 H->J.JV i H x H2->au H H2/\Y ws[i] x H2)
  (turn:∀(a:α) (x:V) (U:St) (H:Hp) (R:St->V->Hp->Prop),a∈ws->au H1 H->Y a x H->Pσ U->(∀σ3 y H5,au H H5->Is H5 (F a) y->Pσ σ3->R σ3 y H5)->g x U H λσ3 H3=>te σ3 H3 λy H5=>R σ3 y H5)
  (fin:∀D vs H,au H1 H->H D=some (.lst vs)->aD H (ws.map F) vs->Q (.ref D) H):cR U₀ g qF te Q J H1:=by
 refine{λi m xs U H=>m=⇑ws-i/\i<=⇑ws/\⇑xs=i/\au H1 H/\aD H ((ws.take i).map F) xs/\Pσ U,{_,rfl,yg _,rfl,au.refl _,by simp[aD],h0},?_};rintro i m xs U H ⟨rfl,hi,hx,sm,il,pσ⟩;rcases xI i ⇑ws with hlt | hge
 ·refine .inr {go i H hlt sm,(),?_}
  intro x H2 hy;let⟨s2,hY⟩:=yl i x H H2 hlt sm hy;refine turn ws[i] x U H2 (λσ3 y H5=>if true=true then∃m',m'<⇑ws-i/\(m'=⇑ws-(i+1)/\i+1<=⇑ws/\⇑(xs++[y])=i+1/\au H1 H5/\aD H5 ((ws.take (i+1)).map F) (xs++[y])/\Pσ σ3) else False) (ym hlt) (sm.trans s2) hY pσ ?_;rintro σ3 y H5 s5 iy p3;rw[yO rfl];refine{_,(),rfl,hlt,by simp[hx],(sm.trans s2).trans s5,?_,p3};rw[xx,zd hlt,zk];exact de iy (il.mono (s2.trans s5))
 ·let e:i=⇑ws:=()
  subst e;refine .inl {stop H sm,(),λD hD=>?_};let il':aD H (ws.map F) xs:=by rw[zN] at il;exact il
  exact fin D xs _ (sm.trans (aY hD)) aB (il'.mono (aY hD))
structure Ow where
 dx:vE
 pl:vE
 ins:vE
 st:vE
 ba:vE
 ho:vE
 no:vE
 re:vE
 hs:List vE
 ns:List vE
noncomputable def Ow.lists (o:Ow):List vE:=[o.pl,o.ba,o.re]++o.hs++o.ns
noncomputable def Q4 (o:Ow) (ub jm:V):List (Str×V):=[("players",.ref o.pl),("instruments",.ref o.ins),("staffs",.ref o.st),("bars",.ref o.ba),("upbeat",ub),("holds",.ref o.ho),("notes",.ref o.no),("repeats",.ref o.re),("jump",jm)]
noncomputable def kS (x:Str):Key:=Sum.inr x
noncomputable def kN (x:Int×Str):List Key:=[Sum.inl x.1,Sum.inr x.2]
noncomputable def Qo (x:Str×(Int×Int)×(Int×Int)):Dt:=.tup [dL x.2.1,dL x.2.2]
noncomputable def RW (x:Str×List Str):Dt:=mO x.2
noncomputable def Mg (x:Int×Str):Dt:=.tup [.int x.1,.str x.2]
def ck (H:Hp) (d:α->Dt):List (List α)->List vE->Prop
 | [],as=>as=[]
 | l::r,as=>∃a t vs,as=a::t/\H a=some (.lst vs)/\aD H (l.map d) vs/\ck H d r t
inductive Xi (C:vE) (H:Hp) (a:vE) (o:Ow) (u:Option (Int×Int)) (j:Option Jump):Prop
 | mk (ub jm:V) (_:H a=some (.ins C o.dx (Q4 o ub jm))) (_:Is H (dO dL u) ub) (_:Is H (dO jC j) jm)
inductive QF {α:Type} (H:Hp) (d:α->Dt) (a:vE) (l:List α):Prop
 | mk (vs:List V) (_:H a=some (.lst vs)) (_:aD H (l.map d) vs)
inductive R9 {α:Type} (H:Hp) (d:Str×α->Dt) (a:vE) (l:List (Str×α)):Prop
 | mk (vs:List V) (_:H a=some (.dK ((l.map λx=>kS x.1).zip vs))) (_:aD H (l.map d) vs)
structure b8 (C:vE) (H:Hp) (a:vE) (S:bH) (o:Ow):Prop where
 obj:Xi C H a o S.aF S.bC
 pl:H o.pl=some (.lst (S.players.map V.str))
 ins:R9 H Qo o.ins S.ao
 st:R9 H RW o.st S.aK
 ba:QF H kX o.ba S.aG
 ho:H o.ho=some (.dK ((S.holds.map λx=>kS x.1).zip (o.hs.map V.ref)))/\ck H Mg (S.holds.map (·.2)) o.hs
 no:H o.no=some (.dT ((S.aJ.map λx=>kN x.1).zip (o.ns.map V.ref)))/\ck H eM (S.aJ.map (·.2)) o.ns
 re:QF H gF o.re S.repeats
 nd:o.lists.Nodup
 dd:[o.ins,o.st,o.ho].Nodup
theorem ck.mono (s:au H H'):∀{ls:List (List α)} {as:List vE},ck H d ls as->ck H' d ls as
 | [],_,h=>h
 | l::r,_,⟨a,t,vs,e,h1,h2,h3⟩=>{a,t,vs,e,s _ _ h1,h2.mono s,ck.mono s h3}
theorem b8.mono (s:au H H') (h:b8 C H a S o):b8 C H' a S o where
 obj:=by let⟨ub,jm,h1,h2,h3⟩:=h.obj;exact{ub,jm,s _ _ h1,h2.mono s,h3.mono s}
 pl:=s _ _ h.pl
 ins:=by let⟨vs,h1,h2⟩:=h.ins;exact{vs,s _ _ h1,h2.mono s}
 st:=by let⟨vs,h1,h2⟩:=h.st;exact{vs,s _ _ h1,h2.mono s}
 ba:=by let⟨vs,h1,h2⟩:=h.ba;exact{vs,s _ _ h1,h2.mono s}
 ho:={s _ _ h.ho.1,h.ho.2.mono s}
 no:={s _ _ h.no.1,h.no.2.mono s}
 re:=by let⟨vs,h1,h2⟩:=h.re;exact{vs,s _ _ h1,h2.mono s}
 nd:=h.nd
 dd:=h.dd
def cg (o:Option HO):Prop:=∀vs,o≠some (.tup vs)
mutual
theorem Is.upd (hx:cg (H x)):∀{d:Dt} {v:V},Is H d v->Is (upd H x o) d v
 | .bP,_,h=>by unfold Is at h ⊢;exact h
 | .bl _,_,h=>by unfold Is at h ⊢;exact h
 | .int _,_,h=>by unfold Is at h ⊢;exact h
 | .str _,_,h=>by unfold Is at h ⊢;exact h
 | .tup l,_,h=>by
  unfold Is at h ⊢;let⟨a,vs,e,ha,hl⟩:=h;let ne:a≠x:=λz=>hx vs (by rw[<-z];exact ha);exact{a,vs,e,by rw[aC ne];exact ha,aD.upd hx hl}
theorem aD.upd (hx:cg (H x)):∀{l:List Dt} {vs:List V},aD H l vs->aD (L2.upd H x o) l vs
 | [],_,h=>by unfold aD at h ⊢;exact h
 | d::l,_,h=>by
  unfold aD at h ⊢;let⟨v,r,e,hv,hr⟩:=h;exact{v,r,e,Is.upd hx hv,aD.upd hx hr}
end
theorem ck.upd (hx:cg (H x)):∀{ls:List (List α)} {as:List vE},x∉as->ck H d ls as->ck (L2.upd H x o) d ls as
 | [],_,_,h=>h
 | l::r,_,nx,⟨a,t,vs,e,h1,h2,h3⟩=>by
  subst e;let ne:a≠x:=λz=>nx (by rw[z];exact zr);exact{a,t,vs,rfl,by rw[aC ne];exact h1,aD.upd hx h2,ck.upd hx (λz=>nx (zp _ z)) h3}
structure Cf (K:yB) (C:vE):Prop where
 cls:Sa K C
 players:eN K C "players"
 ao:eN K C "instruments"
 aK:eN K C "staffs"
 aG:eN K C "bars"
 aF:eN K C "upbeat"
 holds:eN K C "holds"
 aJ:eN K C "notes"
 repeats:eN K C "repeats"
 bC:eN K C "jump"
def RQ (n:Nat):NumText.digitsVal (dec (n:Int)).cps.toList=n:=by rw[Az];exact PySem.W.KIN.val_back n
def To {most:Int} {n k:Nat} (hk:0<k) (hm:(k:Int)<=most) (h:n<10^k):rn most (dec (n:Int)).cps.toList=some (n:Int):=by
 let l1:=Jk (n:=n);let l2:=EL hk h;let el:⇑(dec (n:Int)).cps.toList=⇑(dec (n:Int)):=yQ;let ha:((dec (n:Int)).cps.toList.all λc=>decide (c∈vU))=true:=yp.mpr λc hc=>zg (Ug (kW hc).1 (kW hc).2);unfold rn;rw[yN (),yN (),yO ha,yN,RQ];rintro⟨z1,z2⟩;have:=Nw (n:=n) (by rw[<-xk];exact z1);ext
def ou {most n:Int} {k:Nat} (hk:0<k) (hm:(k:Int)<=most) (h0:0<=n) (h:n<10^k):rn most (dec n).cps.toList=some n:=by
 let⟨m,rfl⟩:=yL h0;exact To hk hm (by exact_mod_cast h)
def fE {n:Int} (h0:0<=n) (h:n<1000):fI (dec n)=some n:=ou (k:=3) ∅ ∅ h0 ()
def El (h0:0<=n) (h:n<1000) (h1:lo<=n) (h2:n<=hi):mz (dec n) lo hi=some n:=by
 unfold mz;rw[fE h0 h];dsimp only;rw[yN (),yN ()]
def Ko {most n:Int} {k:Nat} (hk:0<k) (hm:(k:Int)<=most) (h1:-(10^k)<n) (h2:n<10^k):rs most (dec n)=some n:=by
 unfold rs
 by_cases h0:0<=n
 ·rw[yN,ou hk hm h0 h2]
  intro z;let⟨m,rfl⟩:=yL h0;have:=kW (zC z);ext
 ·let e:(dec n).cps.toList=45::(dec (-n)).cps.toList:=by rw[Ay (),cF];rfl
  rw[e,yO (show(45::(dec (-n)).cps.toList)[0]?=some 45 from rfl)];show(match rn most (dec (-n)).cps.toList with | some n=>if n=0 then none else some (-n) | none=>none)=_;rw[ou hk hm () ()];dsimp only;rw[yN (),Int.neg_neg]
def OR {q:Int×Int} (h:QE q):rp (dec q.1) (dec q.2)=some q:=by
 let⟨h1,h2,h3,h4,h5⟩:=h;unfold rp;rw[Ko (k:=2) ∅ ∅ () (),Ko (k:=2) ∅ ∅ () ()];dsimp only;rw[yO h5]
def Jm (n:Int):47∉(dec n).cps.toList:=gf ∅ ∅
def Me (n:Int):58∉(dec n).cps.toList:=gf ∅ ∅
def IS {x:Int×Int} (h:Rd x) (h1:x.1<10000) (h2:x.2<10000):QJ (iK x)=some x:=by
 let⟨p1,p2,p3⟩:=h.pos;unfold iK QJ
 by_cases c:x.2=1
 ·rw[yO c,show Txt.split (dec x.1) "/"= [dec x.1] from split1 (c:=47) (Jm _)]
  dsimp only;rw[ou (k:=4) ∅ ∅ p1 ()];dsimp only;rw[<-c,p3]
 ·rw[yN c,show Txt.split (dec x.1 ++"/" ++ dec x.2) "/"= [dec x.1,dec x.2] from E8 (c:=47) (Jm _) (Jm _)]
  dsimp only;rw[ou (k:=4) ∅ ∅ p1 (),ou (k:=4) ∅ ∅ () ()];dsimp only;rw[yN (),p3]
def FZ (h:QM x):lr (iK x)=some x:=by
 let⟨h1,h2,h3,h4⟩:=h;unfold lr;rw[IS h1 h3 h4];dsimp only;rw[yN ()]
def RF (h:N0 it):ir (pV it)=some it:=by
 let⟨o,x⟩:=it;let⟨h1,h2⟩:=h;cases o with
 | none=>
  let e:Txt.split (pV (none,x)) ":"= [("r": Str),iK x]:=E8 (c:=58) (a:="r") ∅ (Et h1);unfold ir;rw[e];show(match lr (iK x) with | none=>none | some x=>_)=_;rw[FZ h1];exact yO rfl
 | some q=>
  let e:Txt.split (pV (some q,x)) ":"= [dec q.1,dec q.2,iK x]:=Th (c:=58) (Me _) (Me _) (Et h1);unfold ir;rw[e];show(match lr (iK x) with | none=>none | some x=>_)=_;rw[FZ h1];dsimp only;rw[yN (by simp)];show(match rp (dec q.1) (dec q.2) with | some q=>some (some q,x) | none=>none)=_;rw[OR (h2 q rfl)]
def Kq (h1:1<=a) (h2:a<=32) (h3:b∈DQ):jg (dec a ++"/" ++ dec b)=some (a,b):=by
 let hb:0<=b/\b<1000:=by
  unfold DQ at h3;simp at h3;ext
 unfold jg;rw[show Txt.split (dec a ++"/" ++ dec b) "/"= [dec a,dec b] from E8 (c:=47) (Jm _) (Jm _)];dsimp only;rw[El () () h1 h2,fE hb.1 hb.2];dsimp only;rw[yO h3]
def OU {k:Int} (h1:-7<=k) (h2:k<=7):Ib (dec k)=some k:=by
 unfold Ib;rw[Ko (k:=3) ∅ ∅ () ()];dsimp only;rw[yN (by split <;> ext)]
def MP (h:QE q) (h1:-12<=q.1) (h2:q.1<=12):Bg (dec q.1) (dec q.2)=some q:=by
 unfold Bg;rw[OR h];dsimp only;rw[yN (by split <;> ext)]
theorem og:∀{l:List α},(∀x∈l,f (g x)=some x)->oh ((l.map g).map f)=some l
 | [],_=>rfl
 | x::l,h=>by
  rw[zj,zj,h x zr];unfold oh;rw[og λy hy=>h y (zp _ hy)]
noncomputable def oV (e:End):Str:=dec e.1 ++":" ++ Str.join "," (e.2.map dec)
def Xc (e:End):Prop:=0<=e.1/\e.1<1000/\e.2≠[]/\∀p∈e.2,0<=p/\p<1000
theorem oH (hs:c∉sep.cps.toList):∀{zs:List Str},(∀z∈zs,c∉z.cps.toList)->c∉(Str.join sep zs).cps.toList
 | [],_=>by show c∉("": Str).cps.toList;exact zE
 | [z],h=>h z zr
 | z::y::r,h=>by
  rw[eX,cF,cF];intro m;rcases zG.mp m with m | m
  ·rcases zG.mp m with m | m
   ·exact h z zr m
   ·exact hs m
  ·exact oH hs (λx hx=>h x (zp _ hx)) m
def OW (h:Xc e):Bi (oV e)=some e:=by
 let⟨h1,h2,h3,h4⟩:=h;let f:58∉(Str.join "," (e.2.map dec)).cps.toList:=oH ∅ λz hz=>by
  let⟨y,_,rfl⟩:=zH.mp hz;exact Me _
 unfold Bi oV;rw[show Txt.split (dec e.1 ++":" ++ Str.join "," (e.2.map dec)) ":"= [dec e.1,Str.join "," (e.2.map dec)] from E8 (c:=58) (Me _) f];dsimp only;rw[show Txt.split (Str.join "," (e.2.map dec)) ","= e.2.map dec from gy (c:=44) (by simpa using h3) λz hz=>by
  let⟨y,_,rfl⟩:=zH.mp hz;exact gf ∅ ∅]
 rw[fE h1 h2,og λx hx=>fE (h4 x hx).1 (h4 x hx).2]
def NX (w:Str):Prop:=w≠ ""/\32∉w.cps.toList/\10∉w.cps.toList
def J0 (ne:ws≠[]) (h:∀w∈ws,NX w):words (Str.join " " ws)=ws:=by
 unfold words;rw[show Txt.split (Str.join " " ws) " "= ws from gy (c:=32) ne λw hw=>(h w hw).2.1];exact List.filter_eq_self.mpr λw hw=>zg (h w hw).1
def fL (n:Int):NX (dec n):=by
 refine{λz=>?_,gf ∅ ∅,gf ∅ ∅}
 by_cases h:0<=n
 ·let⟨m,rfl⟩:=yL h
  have:=Jk (n:=m);rw[z] at this;exact absurd this ∅
 ·let e:(dec n).cps.toList=45::(dec (-n)).cps.toList:=by rw[Ay (),cF];rfl
  rw[z] at e;cases e
def JE (ha:NX a) (hb1:32∉b.cps.toList) (hb2:10∉b.cps.toList):NX (a++b):=by
 refine{λz=>ha.1 (ly ?_),λm=>?_,λm=>?_}
 ·let e:(a++b).cps.toList=("": Str).cps.toList:=by rw[z]
  rw[cF] at e;exact(List.append_eq_nil_iff.mp e).1
 ·rw[cF] at m
  rcases zG.mp m with m | m
  ·exact ha.2.1 m
  ·exact hb1 m
 ·rw[cF] at m
  rcases zG.mp m with m | m
  ·exact ha.2.2 m
  ·exact hb2 m
def GF (ha:NX a) (hb1:32∉b.cps.toList) (hb2:10∉b.cps.toList) (hc:NX c):NX (a++b++c):=JE (JE ha hb1 hb2) hc.2.1 hc.2.2
def BE (x:Int×Int):NX (iK x):=by
 unfold iK;split
 ·exact fL _
 ·exact GF (fL _) ∅ ∅ (fL _)
def T9 (it:Item):NX (pV it):=by
 let⟨o,x⟩:=it;cases o with
 | none=>exact JE (a:="r:") {∅,∅,∅} (BE x).2.1 (BE x).2.2
 | some q=>exact GF (GF (fL _) ∅ ∅ (fL _)) ∅ ∅ (BE x)
def Um (e:End):NX (oV e):=by
 let f:∀c,c≠44->c≠45->¬(48<=c/\c<=57)->c∉(Str.join "," (e.2.map dec)).cps.toList:=λc h0 h1 h2=>oH (by show c∉[44];simpa using h0) λz hz=>by
  let⟨y,_,rfl⟩:=zH.mp hz;exact gf h1 h2
 unfold oV;exact JE (JE (fL _) ∅ ∅) (f 32 ∅ ∅ ∅) (f 10 ∅ ∅ ∅)
def gw (n:Str):Prop:=cI n=some n
def gw.w (h:gw n):NX n:=by
 unfold gw cI at h;split at h
 ·cases h
 ·split at h
  ·cases h
  ·split at h
   ·rename_i h1 _ h3
    let hs:∀c,c∉sgn->c∉n.cps.toList:=λc hc m=>hc (ye (yp.mp h3 c m));refine{λz=>h1 (by rw[z];decide),hs 32 ∅,hs 10 ∅}
   ·cases h
noncomputable def ctxt:Option Int->Str
 | none=> "end"
 | some n=>dec n
noncomputable def wordsOf:Told->List Str
 | .bK n=>["player",n]
 | .cJ n t l=>["instrument",n,dec t.1,dec t.2,iK l]
 | .cw n ps=> "staff":: n::ps
 | .bar b=> "bar":: (dec b.aP.1 ++"/" ++ dec b.aP.2)::dec b.key::b.marks
 | .aF l=>["upbeat",iK l]
 | .holds p b i=>["holds",p,dec b,i]
 | .aJ b p its=> "notes":: dec b::p::its.map pV
 | .rep r=> "repeat":: dec r.first::dec r.last::dec r.times::r.ends.map oV
 | .bC j=>["jump",dec j.mT,dec j.kO,dec j.bS,ctxt j.fh]
noncomputable def rowOf (t:Told):Str:=Str.join " " (wordsOf t)
def NB (n:Int):Prop:=0<=n/\n<1000
def Sy:Told->Prop
 | .bK n=>gw n
 | .cJ n t l=>gw n/\QE t/\-12<=t.1/\t.1<=12/\Lm.Rd l/\l.1<10000/\l.2<10000
 | .cw n ps=>gw n/\ps≠[]/\∀p∈ps,gw p
 | .bar b=>1<=b.aP.1/\b.aP.1<=32/\b.aP.2∈DQ/\-7<=b.key/\b.key<=7/\∀m∈b.marks,gw m
 | .aF l=>QM l
 | .holds p b i=>gw p/\NB b/\gw i
 | .aJ b p its=>NB b/\gw p/\(∀it∈its,N0 it)/\its.all (λit=>it.1.isNone)=false
 | .rep r=>NB r.first/\NB r.last/\2<=r.times/\r.times<=9/\∀e∈r.ends,Xc e
 | .bC j=>NB j.mT/\NB j.kO/\NB j.bS/\∀c,j.fh=some c->NB c
def Mo (h:∀p∈l,gw p):oh (l.map cI)=some l:=by
 have:=og (f:=cI) (g:=λx:Str=>x) (l:=l) h
 rwa [List.map_id'] at this
def Kt (h:Sy t):oz (wordsOf t)=some t:=by
 cases t with
 | bK n=>
  show(cI n).map Told.bK=_;rw[show cI n=some n from h];rfl
 | cJ n t l=>
  let⟨h1,h2,h3,h4,h5,h6,h7⟩:=h;show(nI [n,dec t.1,dec t.2,iK l]).map (λx=>Told.cJ x.1 x.2.1 x.2.2)=_;unfold nI;dsimp only;rw[show cI n=some n from h1,MP h2 h3 h4,IS h5 h6 h7];rfl
 | cw n ps=>
  let⟨h1,h2,h3⟩:=h;show(sZ (n::ps)).map (λx=>Told.cw x.1 x.2)=_;let⟨b,r,rfl⟩:=List.exists_cons_of_ne_nil h2;rw[pO,Mo (l:=n::b::r) λp hp=>by
   rcases zD.mp hp with e | e
   ·rw[e];exact h1
   ·exact h3 p e]
  rfl
 | bar b=>
  let⟨h1,h2,h3,h4,h5,h6⟩:=h;show(FC ((dec b.aP.1 ++"/" ++ dec b.aP.2)::dec b.key::b.marks)).map Told.bar=_;unfold FC;dsimp only;rw[Mo h6,Kq h1 h2 h3,OU h4 h5];rfl
 | aF l=>
  show(lr (iK l)).map Told.aF=_;rw[FZ h];rfl
 | holds p b i=>
  let⟨h1,h2,h3⟩:=h;show(uz [p,dec b,i]).map (λx=>Told.holds x.1 x.2.1 x.2.2)=_;unfold uz;dsimp only;rw[show cI p=some p from h1,fE h2.1 h2.2,show cI i=some i from h3];rfl
 | aJ b p its=>
  let⟨h1,h2,h3,h4⟩:=h;show(lJ (dec b::p::its.map pV)).map (λx=>Told.aJ x.1 x.2.1 x.2.2)=_;cases its with
  | nil=>cases h4
  | cons i r=>
   show(lJ (dec b::p::pV i::r.map pV)).map _=_;unfold lJ;let e:=og (f:=ir) (g:=pV) (l:=i::r) λx hx=>RF (h3 x hx);rw[zj] at e;dsimp only;rw[e];dsimp only;rw[h4,fE h1.1 h1.2,show cI p=some p from h2];rfl
 | rep r=>
  let⟨h1,h2,h3,h4,h5⟩:=h;show(lI (dec r.first::dec r.last::dec r.times::r.ends.map oV)).map Told.rep=_;unfold lI;dsimp only;rw[og λx hx=>OW (h5 x hx),fE h1.1 h1.2,fE h2.1 h2.2,El () () h3 h4];rfl
 | bC j=>
  let⟨h1,h2,h3,h4⟩:=h;show(Bq [dec j.mT,dec j.kO,dec j.bS,ctxt j.fh]).map Told.bC=_;unfold Bq;dsimp only;rw[fE h1.1 h1.2,fE h2.1 h2.2,fE h3.1 h3.2];let⟨a,b,c,d⟩:=j;cases d with
  | none=>rfl
  | some n=>
   dsimp only[ctxt];rw[fE (h4 n rfl).1 (h4 n rfl).2];rfl
def LD (h:Sy t):∀w∈wordsOf t,NX w:=by
 let lit:∀s:Str,s≠ ""->32∉s.cps.toList->10∉s.cps.toList->NX s:=λs a b c=>{(a),b,c}
 cases t with
 | bK n=>
  intro w hw;simp only[wordsOf,zD,zE,yV] at hw;rcases hw with rfl | rfl
  ·exact lit _ ∅ ∅ ∅
  ·exact gw.w h
 | cJ n t l=>
  intro w hw;simp only[wordsOf,zD,zE,yV] at hw;rcases hw with rfl | rfl | rfl | rfl | rfl
  ·exact lit _ ∅ ∅ ∅
  ·exact gw.w h.1
  ·exact fL _
  ·exact fL _
  ·exact BE _
 | cw n ps=>
  intro w hw;simp only[wordsOf,zD] at hw;rcases hw with rfl | rfl | hw
  ·exact lit _ ∅ ∅ ∅
  ·exact gw.w h.1
  ·exact gw.w (h.2.2 _ hw)
 | bar b=>
  intro w hw;simp only[wordsOf,zD] at hw;rcases hw with rfl | rfl | rfl | hw
  ·exact lit _ ∅ ∅ ∅
  ·exact GF (fL _) ∅ ∅ (fL _)
  ·exact fL _
  ·exact gw.w (h.2.2.2.2.2 _ hw)
 | aF l=>
  intro w hw;simp only[wordsOf,zD,zE,yV] at hw;rcases hw with rfl | rfl
  ·exact lit _ ∅ ∅ ∅
  ·exact BE _
 | holds p b i=>
  intro w hw;simp only[wordsOf,zD,zE,yV] at hw;rcases hw with rfl | rfl | rfl | rfl
  ·exact lit _ ∅ ∅ ∅
  ·exact gw.w h.1
  ·exact fL _
  ·exact gw.w h.2.2
 | aJ b p its=>
  intro w hw;simp only[wordsOf,zD,zH] at hw;rcases hw with rfl | rfl | rfl | ⟨x,_,rfl⟩
  ·exact lit _ ∅ ∅ ∅
  ·exact fL _
  ·exact gw.w h.2.1
  ·exact T9 _
 | rep r=>
  intro w hw;simp only[wordsOf,zD,zH] at hw;rcases hw with rfl | rfl | rfl | rfl | ⟨x,_,rfl⟩
  ·exact lit _ ∅ ∅ ∅
  ·exact fL _
  ·exact fL _
  ·exact fL _
  ·exact Um _
 | bC j=>
  intro w hw;simp only[wordsOf,zD,zE,yV] at hw;rcases hw with rfl | rfl | rfl | rfl | rfl
  ·exact lit _ ∅ ∅ ∅
  ·exact fL _
  ·exact fL _
  ·exact fL _
  ·unfold ctxt
   cases j.fh with
   | none=>exact lit _ ∅ ∅ ∅
   | some n=>exact fL _
def J1 (t:Told):wordsOf t≠[]:=by cases t <;> simp[wordsOf]
def MQ (h:Sy t):words (rowOf t)=wordsOf t:=J0 (J1 t) (LD h)
def OS (h:Sy t):10∉(rowOf t).cps.toList:=oH ∅ λw hw=>(LD h w hw).2.2
noncomputable def kindOf:HO->Nat
 | .lst _=>0
 | .tup _=>1
 | .ins _ _ _=>2
 | .dK _=>3
 | .dT _=>4
 | _=>5
def fO {a b:Nat} (h:Nat.beq a b=false):a≠b:=λz=>by rw[z,Nat.beq_refl] at h;cases h
def bq {H:Hp} {a b:vE} {u v:HO} (h1:H a=some u) (h2:H b=some v) (k:kindOf u≠kindOf v):a≠b:=λz=>by
 rw[z,h2] at h1;cases h1;exact k rfl
noncomputable def own (a:vE) (o:Ow):List vE:=[a,o.pl,o.ins,o.st,o.ba,o.ho,o.no,o.re]++o.hs++o.ns
def Al (L:List vE) (H H':Hp):Prop:=∀b u,b∉L->H b=some u->H' b=some u
def Al.of (s:au H H'):Al L H H':=λb u _ h=>s b u h
def Al.trans (s:Al L H H') (t:Al L H' H''):Al L H H'':=λb u n h=>t b u n (s b u n h)
theorem Al.upd (h:x∈L):Al L H (L2.upd H x o):=λb u n e=>by
 rw[aC (λz=>n (by rw[z];exact h))];exact e
structure Nd (o:Ow):Prop where
 pb:o.pl≠o.ba
 pr:o.pl≠o.re
 ph:o.pl∉o.hs
 pn:o.pl∉o.ns
 br:o.ba≠o.re
 bh:o.ba∉o.hs
 bn:o.ba∉o.ns
 rh:o.re∉o.hs
 rn:o.re∉o.ns
 hh:o.hs.Nodup
 nn:o.ns.Nodup
 hn:∀x∈o.hs,x∉o.ns
def Nd.of (h:o.lists.Nodup):Nd o:=by
 unfold Ow.lists at h;rw[zT] at h;let⟨h1,h2,h3⟩:=h;rw[zT] at h1;let⟨h4,h5,h6⟩:=h1;simp only[yd,zD,zE,yV,not_or] at h4;refine{h4.1.1,h4.1.2,λz=>?_,λz=>?_,h4.2.1,λz=>?_,λz=>?_,λz=>?_,λz=>?_,h5,h2,λx hx z=>?_}
 ·exact h6 o.pl (by simp) o.pl z rfl
 ·exact h3 o.pl (by simp) o.pl z rfl
 ·exact h6 o.ba (by simp) o.ba z rfl
 ·exact h3 o.ba (by simp) o.ba z rfl
 ·exact h6 o.re (by simp) o.re z rfl
 ·exact h3 o.re (by simp) o.re z rfl
 ·exact h3 x (by simp[hx]) x z rfl
def Nd.to (h:Nd o):o.lists.Nodup:=by
 unfold Ow.lists;rw[zT];refine{?_,h.nn,?_}
 ·rw[zT]
  refine{?_,h.hh,?_}
  ·simp only[yd,zD,zE,yV,not_or]
   exact{{(h.pb),h.pr},h.br,λz=>z,wa}
  ·intro x hx y hy e
   subst e;simp only[zD,zE,yV] at hx;rcases hx with rfl | rfl | rfl
   ·exact h.ph hy
   ·exact h.bh hy
   ·exact h.rh hy
 ·intro x hx y hy e
  subst e;rw[zG] at hx;rcases hx with hx | hx
  ·simp only[zD,zE,yV] at hx
   rcases hx with rfl | rfl | rfl
   ·exact h.pn hy
   ·exact h.bn hy
   ·exact h.rn hy
  ·exact h.hn x hx hy
section
variable {C a x:vE} {H:Hp} {S:bH} {o:Ow} {u:HO}
def b8.Es (h:b8 C H a S o) (nx:cg (H x)) (n:a≠x):Xi C (L2.upd H x u) a o S.aF S.bC:=by
 let⟨ub,jm,h1,h2,h3⟩:=h.obj;exact{ub,jm,by rw[aC n];exact h1,Is.upd nx h2,Is.upd nx h3}
def b8.FD (h:b8 C H a S o) (n:o.pl≠x):L2.upd H x u o.pl=some (.lst (S.players.map V.str)):=by rw[aC n];exact h.pl
def b8.rL (h:b8 C H a S o) (nx:cg (H x)) (n:o.ins≠x):R9 (L2.upd H x u) Qo o.ins S.ao:=by
 let⟨vs,h1,h2⟩:=h.ins;exact{vs,by rw[aC n];exact h1,aD.upd nx h2}
def b8.E6 (h:b8 C H a S o) (nx:cg (H x)) (n:o.st≠x):R9 (L2.upd H x u) RW o.st S.aK:=by
 let⟨vs,h1,h2⟩:=h.st;exact{vs,by rw[aC n];exact h1,aD.upd nx h2}
def b8.GC (h:b8 C H a S o) (nx:cg (H x)) (n:o.ba≠x):QF (L2.upd H x u) kX o.ba S.aG:=by
 let⟨vs,h1,h2⟩:=h.ba;exact{vs,by rw[aC n];exact h1,aD.upd nx h2}
def b8.Fy (h:b8 C H a S o) (nx:cg (H x)) (n:o.re≠x):QF (L2.upd H x u) gF o.re S.repeats:=by
 let⟨vs,h1,h2⟩:=h.re;exact{vs,by rw[aC n];exact h1,aD.upd nx h2}
def b8.IW (h:b8 C H a S o) (nx:cg (H x)) (n:o.ho≠x) (nn:x∉o.hs):L2.upd H x u o.ho=some (.dK ((S.holds.map λx=>kS x.1).zip (o.hs.map V.ref)))/\ck (L2.upd H x u) Mg (S.holds.map (·.2)) o.hs:=
 {by rw[aC n];exact h.ho.1,ck.upd nx nn h.ho.2}
def b8.FT (h:b8 C H a S o) (nx:cg (H x)) (n:o.no≠x) (nn:x∉o.ns):L2.upd H x u o.no=some (.dT ((S.aJ.map λx=>kN x.1).zip (o.ns.map V.ref)))/\ck (L2.upd H x u) eM (S.aJ.map (·.2)) o.ns:=
 {by rw[aC n];exact h.no.1,ck.upd nx nn h.no.2}
end
theorem cH:∀{ls:List (List α)} {as:List vE},ck H d ls as->x∈as->∃vs,H x=some (.lst vs)
 | [],_,h,hx=>by unfold ck at h;subst h;simp at hx
 | l::r,_,⟨a,t,vs,e,h1,_,h3⟩,hx=>by
  subst e;rcases zD.mp hx with rfl | hx
  ·exact{(vs),h1}
  ·exact cH h3 hx
theorem ck.snoc (hx:H x=some (.lst vs)) (im:aD H (m.map d) vs):∀{ls:List (List α)} {as:List vE},ck H d ls as->ck H d (ls++[m]) (as++[x])
 | [],_,h=>by unfold ck at h;subst h;exact{x,[],vs,rfl,hx,im,rfl}
 | l::r,_,⟨a,t,vs',e,h1,h2,h3⟩=>by
  subst e;exact{a,t++[x],vs',rfl,h1,h2,ck.snoc hx im h3}
def Od (h:l.length=m.length) (x:α) (y:β):(l++[x]).zip (m++[y])=l.zip m++[(x,y)]:=by
 rw[List.zip_append h];rfl
def qX {κ:Type} [DecidableEq κ] {ks:List κ} {vs:List V} (hl:⇑ks=⇑vs) {k:κ} {v:V} (h:cS (ks.zip vs) k=none):putK (ks.zip vs) k v=(ks++[k]).zip (vs++[v]):=by
 rw[Od hl];exact O3 v h
theorem EA (p:Str):∀{hs:List (Str×List α)} {as:List vE},ck H d (hs.map (·.2)) as->as.Nodup->(hs.map (·.1)).Nodup->p∈hs.map (·.1)->
  ∃x vs,cS ((hs.map λx=>kS x.1).zip (as.map V.ref)) (kS p)=some (.ref x)/\x∈as/\H x=some (.lst vs)/\∀y e,Is (L2.upd H x (.lst (vs++[y]))) (d e) y->
   ck (L2.upd H x (.lst (vs++[y]))) d ((hs.map λq=>if q.1=p then(q.1,q.2++[e]) else q).map (·.2)) as
 | [],_,_,_,_,h=>by simp at h
 | (k,l)::r,_,hL,na,nk,hm=>by
  rw[zj] at hL;let⟨a,t,vs,rfl,h1,h2,h3⟩:=hL;rw[zj,yd] at nk;rw[yd] at na
  by_cases e:k=p
  ·subst e
   refine{a,vs,?_,zr,h1,λy e iy=>?_}
   ·rw[zj,zj,yX]
    unfold cS;rw[yT];simp
   ·let nx:cg (H a):=by rw[h1];exact λ_ z=>by cases z
    let er:(r.map λq=>if q.1=k then(q.1,q.2++[e]) else q)=r:=by
     conv=>rhs;rw[<-List.map_id r]
     refine xA λq hq=>?_;rw[yN (λz=>nk.1 (by rw[show(k,l).1=q.1 from z.symm];exact zP (f:=λx:Str×List α=>x.1) hq))];rfl
    rw[zj,zj,yO rfl,er];refine{a,t,vs++[y],rfl,aB,?_,ck.upd nx na.1 h3};rw[zk];exact de iy (aD.upd nx h2)
  ·let hm':p∈r.map (·.1):=by
    rcases zD.mp hm with z | z
    ·exact absurd z.symm e
    ·exact z
   let⟨x,vs',e1,e2,e3,e4⟩:=EA p h3 na.2 nk.2 hm';refine{x,vs',?_,zp _ e2,e3,λy e iy=>?_}
   ·let e':¬kS k=kS p:=λz=>e (w6 z)
    rw[zj,zj,yX];unfold cS at e1 ⊢;rw[yT];simp only[e',decide_false];exact e1
   ·let nx:cg (H x):=by rw[e3];exact λ_ z=>by cases z
    rw[zj,zj,yN (by assumption)];refine{a,t,vs,rfl,?_,aD.upd nx h2,e4 y e iy};rw[aC (λz=>na.1 (by rw[z];exact e2))];exact h1
section
variable {C a:vE} {H:Hp} {S:bH} {o:Ow}
def b8.Lh (h:b8 C H a S o) (n:Str):b8 C (L2.upd H o.pl (.lst (S.players.map V.str++[.str n]))) a (bQ S (.bK n)) o:=by
 let d:=Nd.of h.nd;let hp:=h.pl;let nx:cg (H o.pl):=by rw[hp];exact λ_ z=>by cases z
 let⟨_,_,ha,_⟩:=h.obj;let⟨_,hi,_⟩:=h.ins;let⟨_,hs,_⟩:=h.st;exact{h.Es nx (bq ha hp (fO rfl)),by rw[aB];show _=some (HO.lst ((S.players++[n]).map V.str));rw[zk];rfl,h.rL nx (bq hi hp (fO rfl)),h.E6 nx (bq hs hp (fO rfl)),h.GC nx d.pb.symm,
  h.IW nx (bq h.ho.1 hp (fO rfl)) d.ph,h.FT nx (bq h.no.1 hp (fO rfl)) d.pn,h.Fy nx d.pr.symm,h.nd,h.dd}
def b8.R1 (h:b8 C H a S o) {b:Oa} {v:V} {vs:List V} (hb:H o.ba=some (.lst vs)) (il:aD H (S.aG.map kX) vs) (iv:Is H (kX b) v):b8 C (L2.upd H o.ba (.lst (vs++[v]))) a (bQ S (.bar b)) o:=by
 let d:=Nd.of h.nd;let nx:cg (H o.ba):=by rw[hb];exact λ_ z=>by cases z
 let⟨_,_,ha,_⟩:=h.obj;let⟨_,hi,_⟩:=h.ins;let⟨_,hs,_⟩:=h.st;refine{h.Es nx (bq ha hb (fO rfl)),h.FD d.pb,h.rL nx (bq hi hb (fO rfl)),h.E6 nx (bq hs hb (fO rfl)),{_,aB,?_},
  h.IW nx (bq h.ho.1 hb (fO rfl)) d.bh,h.FT nx (bq h.no.1 hb (fO rfl)) d.bn,h.Fy nx d.br.symm,h.nd,h.dd}
 show aD _ ((S.aG++[b]).map kX) _;rw[zk];exact de (Is.upd nx iv) (aD.upd nx il)
def b8.RZ (h:b8 C H a S o) {r:Rep} {v:V} {vs:List V} (hb:H o.re=some (.lst vs)) (il:aD H (S.repeats.map gF) vs) (iv:Is H (gF r) v):b8 C (L2.upd H o.re (.lst (vs++[v]))) a (bQ S (.rep r)) o:=by
 let d:=Nd.of h.nd;let nx:cg (H o.re):=by rw[hb];exact λ_ z=>by cases z
 let⟨_,_,ha,_⟩:=h.obj;let⟨_,hi,_⟩:=h.ins;let⟨_,hs,_⟩:=h.st;refine{h.Es nx (bq ha hb (fO rfl)),h.FD d.pr,h.rL nx (bq hi hb (fO rfl)),h.E6 nx (bq hs hb (fO rfl)),h.GC nx d.br,
  h.IW nx (bq h.ho.1 hb (fO rfl)) d.rh,h.FT nx (bq h.no.1 hb (fO rfl)) d.rn,{_,aB,?_},h.nd,h.dd}
 show aD _ ((S.repeats++[r]).map gF) _;rw[zk];exact de (Is.upd nx iv) (aD.upd nx il)
def AF {n:Str} {ks:List Str} {vs:List V} (h:n∉ks):cS ((ks.map kS).zip vs) (kS n)=none:=by
 unfold cS;rw[Option.map_eq_none_iff,xV];intro x hx z;let e:=ye z;let m:=(wz hx).1;let⟨k,hk,ek⟩:=zH.mp m;rw[<-ek] at e;exact h ((w6 e)▸hk)
def Qk (h:[o.ins,o.st,o.ho].Nodup):o.ins≠o.st/\o.ins≠o.ho/\o.st≠o.ho:=by
 simp only[yd,zD,zE,yV,not_or] at h;exact{(h.1.1),h.1.2,h.2.1}
def b8.NR (h:b8 C H a S o) {n:Str} {t l:Int×Int} {p:vE} {vs:List V} (hb:H o.ins=some (.dK ((S.ao.map λx=>kS x.1).zip vs))) (il:aD H (S.ao.map Qo) vs) (iv:Is H (Qo (n,t,l)) (.ref p))
  (fr:n∉S.ao.map (·.1)):b8 C (L2.upd H o.ins (.dK (putK ((S.ao.map λx=>kS x.1).zip vs) (kS n) (.ref p)))) a (bQ S (.cJ n t l)) o:=by
 let d:=Nd.of h.nd;let⟨d1,d2,d3⟩:=Qk h.dd;let nx:cg (H o.ins):=by rw[hb];exact λ_ z=>by cases z
 let⟨_,_,ha,_⟩:=h.obj;let⟨_,hba,_⟩:=h.ba;let⟨_,hre,_⟩:=h.re;let vl:=aO il;let em:(S.ao.map λx=>kS x.1)=(S.ao.map (·.1)).map kS:=by rw[zB];rfl
 let hns:o.ins∉o.ns:=λz=>by
  let⟨_,q⟩:=cH h.no.2 z;rw[hb] at q;cases q
 let hhs:o.ins∉o.hs:=λz=>by
  let⟨_,q⟩:=cH h.ho.2 z;rw[hb] at q;cases q
 refine{h.Es nx (bq ha hb (fO rfl)),h.FD (bq h.pl hb (fO rfl)),{vs++[.ref p],?_,?_},h.E6 nx d1.symm,h.GC nx (bq hba hb (fO rfl)),
  h.IW nx d2.symm hhs,h.FT nx (bq h.no.1 hb (fO rfl)) hns,h.Fy nx (bq hre hb (fO rfl)),h.nd,h.dd}
 ·rw[aB,qX (by rw[za];exact vl.symm) (by rw[em];exact AF fr)]
  show _=some (HO.dK (((S.ao++[(n,t,l)]).map λx=>kS x.1).zip (vs++[.ref p])));rw[zk];rfl
 ·show aD _ ((S.ao++[(n,t,l)]).map Qo) _
  rw[zk];exact de (Is.upd nx iv) (aD.upd nx il)
def b8.NP (h:b8 C H a S o) {n:Str} {ps:List Str} {v:V} {vs:List V} (hb:H o.st=some (.dK ((S.aK.map λx=>kS x.1).zip vs))) (il:aD H (S.aK.map RW) vs) (iv:Is H (RW (n,ps)) v)
  (fr:n∉S.aK.map (·.1)):b8 C (L2.upd H o.st (.dK (putK ((S.aK.map λx=>kS x.1).zip vs) (kS n) v))) a (bQ S (.cw n ps)) o:=by
 let d:=Nd.of h.nd;let⟨d1,d2,d3⟩:=Qk h.dd;let nx:cg (H o.st):=by rw[hb];exact λ_ z=>by cases z
 let⟨_,_,ha,_⟩:=h.obj;let⟨_,hba,_⟩:=h.ba;let⟨_,hre,_⟩:=h.re;let vl:=aO il;let em:(S.aK.map λx=>kS x.1)=(S.aK.map (·.1)).map kS:=by rw[zB];rfl
 let hns:o.st∉o.ns:=λz=>by
  let⟨_,q⟩:=cH h.no.2 z;rw[hb] at q;cases q
 let hhs:o.st∉o.hs:=λz=>by
  let⟨_,q⟩:=cH h.ho.2 z;rw[hb] at q;cases q
 refine{h.Es nx (bq ha hb (fO rfl)),h.FD (bq h.pl hb (fO rfl)),h.rL nx d1,{vs++[v],?_,?_},h.GC nx (bq hba hb (fO rfl)),
  h.IW nx d3.symm hhs,h.FT nx (bq h.no.1 hb (fO rfl)) hns,h.Fy nx (bq hre hb (fO rfl)),h.nd,h.dd}
 ·rw[aB,qX (by rw[za];exact vl.symm) (by rw[em];exact AF fr)]
  show _=some (HO.dK (((S.aK++[(n,ps)]).map λx=>kS x.1).zip (vs++[v])));rw[zk];rfl
 ·show aD _ ((S.aK++[(n,ps)]).map RW) _
  rw[zk];exact de (Is.upd nx iv) (aD.upd nx il)
def Mx {n:Int×Str} {ks:List (Int×Str)} {vs:List V} (h:n∉ks):cS ((ks.map kN).zip vs) (kN n)=none:=by
 unfold cS;rw[Option.map_eq_none_iff,xV];intro x hx z;let e:=ye z;let m:=(wz hx).1;let⟨k,hk,ek⟩:=zH.mp m;rw[<-ek] at e;unfold kN at e;simp at e;have:k=n:=Prod.ext e.1 e.2;exact h (this▸hk)
def b8.NQ (h:b8 C H a S o) {b:Int} {pn:Str} {its:List Item} {q:vE} {us:List V} (hq:H q=some (.lst us)) (iq:aD H (its.map eM) us) (nq:q∉o.lists) (fr:(b,pn)∉S.aJ.map (·.1)) :
  b8 C (L2.upd H o.no (.dT (putK ((S.aJ.map λx=>kN x.1).zip (o.ns.map V.ref)) (kN (b,pn)) (.ref q)))) a (bQ S (.aJ b pn its)) {o with ns:=o.ns++[q]}:=by
 let d:=Nd.of h.nd;let hb:=h.no.1;let nx:cg (H o.no):=by rw[hb];exact λ_ z=>by cases z
 let⟨ub,jm,ha,hub,hjm⟩:=h.obj;let⟨_,hi,_⟩:=h.ins;let⟨_,hs,_⟩:=h.st;let⟨_,hba,_⟩:=h.ba;let⟨_,hre,_⟩:=h.re;let em:(S.aJ.map λx=>kN x.1)=(S.aJ.map (·.1)).map kN:=by rw[zB];rfl
 let hns:o.no∉o.ns:=λz=>by
  let⟨_,q⟩:=cH h.no.2 z;rw[hb] at q;cases q
 let hhs:o.no∉o.hs:=λz=>by
  let⟨_,q⟩:=cH h.ho.2 z;rw[hb] at q;cases q
 let ll:⇑(o.ns.map V.ref)=⇑S.aJ:=by
  have:∀{ls:List (List Item)} {as:List vE},ck H eM ls as->⇑as=⇑ls:=by
   intro ls
   induction ls with
   | nil=>intro as z;unfold ck at z;rw[z];rfl
   | cons l r ih=>rintro _ ⟨a,t,vs,rfl,_,_,h3⟩;rw[zv,zv,ih h3]
  rw[za,this h.no.2,za]
 let nn:q∉[o.pl,o.ba,o.re]/\q∉o.hs/\q∉o.ns:=by
  unfold Ow.lists at nq;rw[zG,zG] at nq;exact{λz=>nq (.inl (.inl z)),λz=>nq (.inl (.inr z)),λz=>nq (.inr z)}
 let⟨n1,n2,n3⟩:=nn;simp only[zD,zE,yV,not_or] at n1;refine{{ub,jm,by rw[aC (bq ha hb (fO rfl))];exact ha,Is.upd nx hub,Is.upd nx hjm},h.FD (bq h.pl hb (fO rfl)),h.rL nx (bq hi hb (fO rfl)),h.E6 nx (bq hs hb (fO rfl)),h.GC nx (bq hba hb (fO rfl)),
  h.IW nx (bq h.ho.1 hb (fO rfl)) hhs,{?_,?_},h.Fy nx (bq hre hb (fO rfl)),?_,h.dd}
 ·show L2.upd H o.no _ o.no=some (HO.dT (((S.aJ++[((b,pn),its)]).map λx=>kN x.1).zip ((o.ns++[q]).map V.ref)))
  rw[aB,qX (by rw[za];exact ll.symm) (by rw[em];exact Mx fr),zk,zk];rfl
 ·show ck _ eM ((S.aJ++[((b,pn),its)]).map (·.2)) (o.ns++[q])
  rw[zk];exact ck.snoc (by rw[aC (bq hq hb (fO rfl))];exact hq) (aD.upd nx iq) (ck.upd nx hns h.no.2)
 ·refine Nd.to {d.pb,d.pr,d.ph,?_,d.br,d.bh,?_,d.rh,?_,d.hh,?_,?_}
  ·show o.pl∉o.ns++[q]
   rw[zG,zA];rintro(z | z)
   ·exact d.pn z
   ·exact n1.1 z.symm
  ·show o.ba∉o.ns++[q]
   rw[zG,zA];rintro(z | z)
   ·exact d.bn z
   ·exact n1.2.1 z.symm
  ·show o.re∉o.ns++[q]
   rw[zG,zA];rintro(z | z)
   ·exact d.rn z
   ·exact n1.2.2 z.symm
  ·show(o.ns++[q]).Nodup
   rw[zT];exact{d.nn,by simp,λx hx y hy e=>by rw[zA] at hy;subst hy;subst e;exact n3 hx}
  ·intro x hx z
   let z':x∈o.ns++[q]:=z;rw[zG,zA] at z';rcases z' with z' | z'
   ·exact d.hn x hx z'
   ·subst z';exact n2 hx
def b8.Lg (h:b8 C H a S o) {l:Int×Int} {v ub jm:V} (ha:H a=some (.ins C o.dx (Q4 o ub jm))) (ij:Is H (dO jC S.bC) jm) (iv:Is H (dL l) v):b8 C (L2.upd H a (.ins C o.dx (Q4 o v jm))) a (bQ S (.aF l)) o:=by
 let nx:cg (H a):=by rw[ha];exact λ_ z=>by cases z
 let⟨_,hi,_⟩:=h.ins;let⟨_,hs,_⟩:=h.st;let⟨_,hba,_⟩:=h.ba;let⟨_,hre,_⟩:=h.re;let hns:a∉o.ns:=λz=>by
  let⟨_,q⟩:=cH h.no.2 z;rw[ha] at q;cases q
 let hhs:a∉o.hs:=λz=>by
  let⟨_,q⟩:=cH h.ho.2 z;rw[ha] at q;cases q
 exact{{v,jm,aB,Is.upd nx iv,Is.upd nx ij},h.FD (bq h.pl ha (fO rfl)),h.rL nx (bq hi ha (fO rfl)),h.E6 nx (bq hs ha (fO rfl)),h.GC nx (bq hba ha (fO rfl)),
  h.IW nx (bq h.ho.1 ha (fO rfl)) hhs,h.FT nx (bq h.no.1 ha (fO rfl)) hns,h.Fy nx (bq hre ha (fO rfl)),h.nd,h.dd}
def b8.Qz (h:b8 C H a S o) {j:Jump} {v ub jm:V} (ha:H a=some (.ins C o.dx (Q4 o ub jm))) (iu:Is H (dO dL S.aF) ub) (iv:Is H (jC j) v):b8 C (L2.upd H a (.ins C o.dx (Q4 o ub v))) a (bQ S (.bC j)) o:=by
 let nx:cg (H a):=by rw[ha];exact λ_ z=>by cases z
 let⟨_,hi,_⟩:=h.ins;let⟨_,hs,_⟩:=h.st;let⟨_,hba,_⟩:=h.ba;let⟨_,hre,_⟩:=h.re;let hns:a∉o.ns:=λz=>by
  let⟨_,q⟩:=cH h.no.2 z;rw[ha] at q;cases q
 let hhs:a∉o.hs:=λz=>by
  let⟨_,q⟩:=cH h.ho.2 z;rw[ha] at q;cases q
 exact{{ub,v,aB,Is.upd nx iu,Is.upd nx iv},h.FD (bq h.pl ha (fO rfl)),h.rL nx (bq hi ha (fO rfl)),h.E6 nx (bq hs ha (fO rfl)),h.GC nx (bq hba ha (fO rfl)),
  h.IW nx (bq h.ho.1 ha (fO rfl)) hhs,h.FT nx (bq h.no.1 ha (fO rfl)) hns,h.Fy nx (bq hre ha (fO rfl)),h.nd,h.dd}
def b8.Pt (h:b8 C H a S o) {pn:Str} {q:vE} (hq:H q=some (.lst [])) (nq:q∉o.lists) (fr:pn∉S.holds.map (·.1)) :
  b8 C (L2.upd H o.ho (.dK (putK ((S.holds.map λx=>kS x.1).zip (o.hs.map V.ref)) (kS pn) (.ref q)))) a {S with holds:=S.holds++[(pn,[])]} {o with hs:=o.hs++[q]}:=by
 let d:=Nd.of h.nd;let⟨d1,d2,d3⟩:=Qk h.dd;let hb:=h.ho.1;let nx:cg (H o.ho):=by rw[hb];exact λ_ z=>by cases z
 let⟨ub,jm,ha,hub,hjm⟩:=h.obj;let⟨_,hba,_⟩:=h.ba;let⟨_,hre,_⟩:=h.re;let em:(S.holds.map λx=>kS x.1)=(S.holds.map (·.1)).map kS:=by rw[zB];rfl
 let hns:o.ho∉o.ns:=λz=>by
  let⟨_,q⟩:=cH h.no.2 z;rw[hb] at q;cases q
 let hhs:o.ho∉o.hs:=λz=>by
  let⟨_,q⟩:=cH h.ho.2 z;rw[hb] at q;cases q
 let ll:⇑(o.hs.map V.ref)=⇑S.holds:=by
  have:∀{ls:List (List (Int×Str))} {as:List vE},ck H Mg ls as->⇑as=⇑ls:=by
   intro ls
   induction ls with
   | nil=>intro as z;unfold ck at z;rw[z];rfl
   | cons l r ih=>rintro _ ⟨a,t,vs,rfl,_,_,h3⟩;rw[zv,zv,ih h3]
  rw[za,this h.ho.2,za]
 let nn:q∉[o.pl,o.ba,o.re]/\q∉o.hs/\q∉o.ns:=by
  unfold Ow.lists at nq;rw[zG,zG] at nq;exact{λz=>nq (.inl (.inl z)),λz=>nq (.inl (.inr z)),λz=>nq (.inr z)}
 let⟨n1,n2,n3⟩:=nn;simp only[zD,zE,yV,not_or] at n1;refine{{ub,jm,by rw[aC (bq ha hb (fO rfl))];exact ha,Is.upd nx hub,Is.upd nx hjm},h.FD (bq h.pl hb (fO rfl)),h.rL nx d2,h.E6 nx d3,h.GC nx (bq hba hb (fO rfl)),
  {?_,?_},h.FT nx (bq h.no.1 hb (fO rfl)) hns,h.Fy nx (bq hre hb (fO rfl)),?_,h.dd}
 ·show L2.upd H o.ho _ o.ho=some (HO.dK (((S.holds++[((pn,[]):Str×List (Int×Str))]).map λx:Str×List (Int×Str)=>kS x.1).zip ((o.hs++[q]).map V.ref)))
  rw[aB,qX (by rw[za];exact ll.symm) (by rw[em];exact AF fr),zk,zk];rfl
 ·show ck _ Mg ((S.holds++[((pn,[]):Str×List (Int×Str))]).map λx:Str×List (Int×Str)=>x.2) (o.hs++[q])
  rw[zk];exact ck.snoc (vs:=[]) (by rw[aC (bq hq hb (fO rfl))];exact hq) (by show aD _ [] [];unfold aD;rfl) (ck.upd nx hhs h.ho.2)
 ·refine Nd.to {d.pb,d.pr,?_,d.pn,d.br,?_,d.bn,?_,d.rn,?_,d.nn,?_}
  ·show o.pl∉o.hs++[q]
   rw[zG,zA];rintro(z | z)
   ·exact d.ph z
   ·exact n1.1 z.symm
  ·show o.ba∉o.hs++[q]
   rw[zG,zA];rintro(z | z)
   ·exact d.bh z
   ·exact n1.2.1 z.symm
  ·show o.re∉o.hs++[q]
   rw[zG,zA];rintro(z | z)
   ·exact d.rh z
   ·exact n1.2.2 z.symm
  ·show(o.hs++[q]).Nodup
   rw[zT];exact{d.hh,by simp,λx hx y hy e=>by rw[zA] at hy;subst hy;subst e;exact n2 hx}
  ·intro x hx z
   let hx':x∈o.hs++[q]:=hx;rw[zG,zA] at hx';rcases hx' with hx' | hx'
   ·exact d.hn x hx' z
   ·subst hx';exact n3 z
def b8.oC (h:b8 C H a S o) {pn:Str} (nk:(S.holds.map (·.1)).Nodup) (hm:pn∈S.holds.map (·.1)) :
  ∃x vs,cS ((S.holds.map λx=>kS x.1).zip (o.hs.map V.ref)) (kS pn)=some (.ref x)/\x∈o.hs/\H x=some (.lst vs)/\∀y b i,Is H (Mg (b,i)) y->b8 C (L2.upd H x (.lst (vs++[y]))) a (bQ S (.holds pn b i)) o:=by
 let d:=Nd.of h.nd;let⟨x,vs,e1,e2,e3,e4⟩:=EA pn h.ho.2 d.hh nk hm;refine{x,vs,e1,e2,e3,λy b i iy=>?_};let nx:cg (H x):=by rw[e3];exact λ_ z=>by cases z
 let⟨ub,jm,ha,hub,hjm⟩:=h.obj;let⟨_,hi,_⟩:=h.ins;let⟨_,hs,_⟩:=h.st;let ea:bQ S (.holds pn b i)={S with holds:=S.holds.map λq:Str×List (Int×Str)=>if q.1=pn then(q.1,q.2++[(b,i)]) else q}:=by
  show({S with holds:=e9 S.holds pn (b,i)}:bH)=_;unfold e9;rw[yO hm]
 rw[ea];refine{h.Es nx (bq ha e3 (fO rfl)),h.FD (λz=>d.ph (by rw[z];exact e2)),h.rL nx (bq hi e3 (fO rfl)),h.E6 nx (bq hs e3 (fO rfl)),h.GC nx (λz=>d.bh (by rw[z];exact e2)),
  {?_,e4 y (b,i) (Is.upd nx iy)},h.FT nx (bq h.no.1 e3 (fO rfl)) (d.hn x e2),h.Fy nx (λz=>d.rh (by rw[z];exact e2)),h.nd,h.dd}
 rw[aC (bq h.ho.1 e3 (fO rfl)),h.ho.1];show _=some (HO.dK (((S.holds.map λq:Str×List (Int×Str)=>if q.1=pn then(q.1,q.2++[(b,i)]) else q).map λx:Str×List (Int×Str)=>kS x.1).zip _));rw[zB];have:(S.holds.map λx:Str×List (Int×Str)=>kS x.1)=S.holds.map ((λx:Str×List (Int×Str)=>kS x.1)∘λq:Str×List (Int×Str)=>if q.1=pn then(q.1,q.2++[(b,i)]) else q):=by
  refine xA λq _=>?_;show kS q.1=kS (if q.1=pn then((q.1,q.2++[(b,i)]):Str×List (Int×Str)) else q).1;split <;> rfl
 rw[this]
end
end Sc
namespace L2
open PySem PySem.Spec PyProof.Rows
noncomputable def noStar:Expr->Bool
 | .Starred ..=>false
 | _=>true
def om (h:noStar e=true):starEach (e::es) env=(false,eval e env)::starEach es env:=by
 cases e <;> first | rfl | cases h
def aa (ha:PE X e te) (hr:PA X es t) (hs:noStar e=true<|>qe_):PA X (e::es) (bI te t):=ah ha hr (om hs)
end L2
namespace Sc
open PySem L2 Lm
def lW (F:Nat->Dt) (Pσ:St->Prop) (hn:n<=sizeLine) (h0:Pσ U₀)
  (turn:∀(i:Nat) (U:St) (H:Hp) (R:St->V->Hp->Prop),i<n->au H1 H->Pσ U->(∀σ3 y H5,au H H5->Is H5 (F i) y->Pσ σ3->R σ3 y H5)->g (.int (lo+i)) U H λσ3 H3=>te σ3 H3 λy H5=>R σ3 y H5)
  (fin:∀D vs H,au H1 H->H1 D=none->H D=some (.lst vs)->aD H ((List.range n).map F) vs->Q (.ref D) H):cR U₀ g qF te Q (Lw lo n) H1:=by
 refine nZ (ws:=List.range n) (enc:=λi=>.int (lo+(i:Nat))) F Pσ (by rw[zR];exact hn) h0 (λi H hi _=>by rw[zR] at hi;exact hi) (λH _=>by rw[zR];exact zm _) ?_ ?_ fin
 ·rintro i x H H2 hi _ ⟨rfl,rfl⟩
  exact{rfl,by rw[List.getElem_range]}
 ·intro i U H R hi s p r
  exact turn i U H R (yS.mp hi) s p r
def d5 {c:Bool} {T:(Bool->Hp->Prop)->Prop} {Z:Bool->Hp->Prop} {H:Hp} (v:Bool) (h1:c=true->∀Z,Z v H->T Z) (h2:c=false->v=false) (hz:Z v H):if c=true then T Z else Z false H:=by
 cases c with
 | true=>rw[yO rfl];exact h1 rfl Z hz
 | false=>rw[yN (by simp)];rw[<-h2 rfl];exact hz
def Hr:List (Int×Int)->TA
 | []=>dY
 | p::r=>bI (Ho (bI (tC (.int p.1)) (bI (tC (.int p.2)) dY))) (Hr r)
theorem Pa:∀{ps:List (Int×Int)} {H:Hp} {R:List V->Hp->Prop},(∀vs H',au H H'->aD H' (ps.map dL) vs->R vs H')->Hr ps U H R
 | [],H,R,h=>h [] H (au.refl _) cD
 | p::r,H,R,h=>by
  let sl:=yC;refine{by show 2<=sizeLine;ext,λq hq=>?_};refine Pa λvs H' s' il=>?_;let s1:=aY (o:=HO.tup [.int p.1,.int p.2]) hq;exact h _ _ (s1.trans s') (aN (iM (s' _ _ aB)) il)
def VW (ps:List (Int×Int)):TE:=λ_ H Q=>∀D vs H',au H H'->H' D=some (.lst vs)->aD H' (ps.map dL) vs->Q (.ref D) H'
def Rx (hl:⇑ps<=1000) (h:VW ps U H Q):Hs (Hr ps) U H Q:=by
 let sl:=yC;refine Pa λvs H' s' il=>{by have:=aO il;ext,λD hD=>?_}
 exact h D vs _ (s'.trans (aY hD)) aB (il.mono (aY hD))
def TK:PA X [] (Hr []):=ag
def Ve (h:PA X es (Hr r)):PA X (.Tuple [.Constant (.int a) x1 p1,.Constant (.int b) x2 p2] k pos::es) (Hr ((a,b)::r)):=
 ah (bF (ah ae (ah ae ag (om rfl)) (om rfl))) h (om rfl)
def TC (h:PA X es (Hr ps)) (hl:⇑ps<=1000<|>qb_):PE X (.List es pos) (VW ps):=by
 intro pins s U H Q I hq;exact aZ h pins s U H Q I (Rx hl hq)
def oN (h:xs[⇑xs-1]?=some x):DR xs (-1)=some x:=by
 let hp:0<⇑xs:=by
  have:=(zy.mp h).1;ext
 let ne:xs≠[]:=yr.mp hp;let e:=xY ne;let e2:xs.getLast ne=x:=by
  have:=(zy.mp h).2;rw[List.getLast_eq_getElem];exact this
 rw[<-e,e2];exact L2.rY _ _
theorem BJ:∀l:List Str,aD H (l.map Dt.str) (l.map V.str)
 | []=>cD
 | x::r=>aN eJ (BJ r)
def Ar (h:Is H (kX b) v):∃a m q,v=.ref a/\H a=some (.tup [m,.int b.key,.ref q])/\Is H (dL b.aP) m/\H q=some (.tup (b.marks.map V.str)):=by
 unfold kX Is at h;let⟨a,vs,rfl,ha,hl⟩:=h;unfold aD at hl;let⟨v1,r1,rfl,h1,hl⟩:=hl;unfold aD at hl;let⟨v2,r2,rfl,h2,hl⟩:=hl;unfold aD at hl;let⟨v3,r3,rfl,h3,hl⟩:=hl;unfold aD at hl;subst hl;unfold Is at h2;subst h2;unfold mO Is at h3;let⟨q,us,rfl,hq,hle⟩:=h3;rw[dG hle] at hq;exact{(a),v1,q,rfl,ha,h1,hq}
noncomputable def lets:Str:="abcdefghijklmnopqrstuvwxyz"
def PH:∀j:Fin 26,lets.cps.toList[j.val]?=some (97+j.val):=by decide
def LY (h0:0<=i) (h:i<26):DR lets.cps.toList i=some (97+i.toNat):=by
 let⟨j,rfl⟩:=yL h0;exact bz (PH {(j),()})
def Q0:∀j:Fin 36,(lets ++"0123456789").cps.toList[j.val]?=some (sgn.getD j.val 0)/\sgn.getD j.val 0∈sgn:=by decide
def Tj (h0:0<=i) (h:i<36):∃c,c∈sgn/\DR (lets ++"0123456789").cps.toList i=some c:=by
 let⟨j,rfl⟩:=yL h0;have:=Q0 {(j),()};exact{_,this.2,bz this.1}
noncomputable def Q1 (i:Int):Nat:=(DR (lets ++"0123456789").cps.toList i).getD 0
def OK (h0:0<=i) (h:i<36):DR (lets ++"0123456789").cps.toList i=some (Q1 i)/\Q1 i∈sgn:=by
 let⟨c,h1,h2⟩:=Tj h0 h;unfold Q1;rw[h2];exact{(rfl),h1}
def LZ:∀j:Fin 26,97+j.val∈sgn:=by decide
def PJ {i:Int} (h0:0<=i) (h:i<26):97+i.toNat∈sgn:=LZ {(i.toNat),()}
def Sm (h1:1<=⇑n) (h2:⇑n<=12) (h3:∀c∈n.cps.toList,c∈sgn):gw n:=by
 unfold gw cI;rw[yN (),yN (),yO (yp.mpr λc hc=>zg (h3 c hc))]
def CD (ns:List Str):Prop:=(∀n∈ns,gw n)/\ns.Nodup
theorem tK:∀{l:List α},l.Nodup->(∀x∈l,∀y∈l,f x=f y->x=y)->(l.map f).Nodup
 | [],_,_=>wa
 | x::r,h,k=>by
  rw[yd] at h;rw[zj,yd];refine{λz=>?_,tK h.2 λa ha b hb e=>k a (zp _ ha) b (zp _ hb) e};let⟨y,hy,e⟩:=zH.mp z;have:=k y (zp _ hy) x zr e;subst this;exact h.1 hy
def M3 (hm:m<=12) (hc:c∈sgn):CD ((List.range m).map λk=>pL {#[c]} (m-k)):=by
 let el:∀k,⇑(pL {#[c]} k)=k:=λk=>by rw[Ie];exact Nat.mul_one k
 refine{λn hn=>?_,tK List.nodup_range λx hx y hy e=>?_}
 ·let⟨k,hk,rfl⟩:=zH.mp hn
  have:=yS.mp hk;refine Sm (by rw[el];ext) (by rw[el];ext) λd hd=>?_;rw[qU] at hd;let⟨l,hl,hd⟩:=wm.mp hd;rw[List.mem_replicate] at hl;rw[hl.2] at hd;have:d=c:=by simpa using hd
  rw[this];exact hc
 ·have:=y6 Str.length e
  rw[el,el] at this;have:=yS.mp hx;have:=yS.mp hy;ext
def KA {stem:Str} {pl first m:Nat} (hs:⇑stem<=11) (hp:pl<=⇑stem) (hc:∀c∈stem.cps.toList,c∈sgn) (hm:m<=26) :
  CD ((List.range m).map λk=>Txt.slice stem none (some (pl:Int))++{#[97+(first+5*k)%26]}++Txt.slice stem (some (pl:Int)) none):=by
 let sl:⇑stem.cps.toList=⇑stem:=yQ;let cp:∀k,(Txt.slice stem none (some (pl:Int))++{#[97+(first+5*k)%26]}++Txt.slice stem (some (pl:Int)) none).cps.toList=stem.cps.toList.take pl++[97+(first+5*k)%26]++stem.cps.toList.drop pl:=λk=>by
  rw[cF,cF,HF stem hp,pC stem hp]
 refine{λn hn=>?_,tK List.nodup_range λx hx y hy e=>?_}
 ·let⟨k,hk,rfl⟩:=zH.mp hn
  let el:⇑(Txt.slice stem none (some (pl:Int))++{#[97+(first+5*k)%26]}++Txt.slice stem (some (pl:Int)) none)=⇑stem+1:=by
   rw[<-show _=⇑(Txt.slice stem none (some (pl:Int))++{#[97+(first+5*k)%26]}++Txt.slice stem (some (pl:Int)) none) from yQ,cp,zh,zh,zQ,xD,List.length_singleton];ext
  refine Sm () () λd hd=>?_;rw[cp,zG,zG,zA] at hd;rcases hd with(hd | hd) | hd
  ·exact hc d (List.mem_of_mem_take hd)
  ·rw[hd];exact LZ {(first+5*k)%26,vj _ ∅}
  ·exact hc d (List.mem_of_mem_drop hd)
 ·let q:(Txt.slice stem none (some (pl:Int))++{#[97+(first+5*x)%26]}++Txt.slice stem (some (pl:Int)) none).cps.toList=(Txt.slice stem none (some (pl:Int))++{#[97+(first+5*y)%26]}++Txt.slice stem (some (pl:Int)) none).cps.toList:=by rw[e]
  rw[cp,cp,zF,zF] at q;let q2:=List.append_cancel_left q;simp at q2;have:=yS.mp hx;have:=yS.mp hy;ext
theorem rG:∀zs:List Str,(Str.join "" zs).cps.toList=(zs.map λz:Str=>z.cps.toList).flatten
 | []=>rfl
 | [z]=>by rw[join_one];simp
 | z::y::r=>by
  rw[eX,cF,cF,rG (y::r)];show z.cps.toList++[]++_=_;rw[zV];rfl
noncomputable def ng (c:Int) (n:Nat):List Str:=(List.range n).map λk=>{#[Q1 ((c/16224+7*(0+(k:Nat)))%36)]}
theorem I9 (f:α->β):∀l:List α,((l.map f).map λx=>[x]).flatten=l.map f
 | []=>rfl
 | x::r=>by rw[zj,zj,ya,I9 f r];rfl
def Hv (c:Int) (n:Nat):(Str.join "" (ng c n)).cps.toList=(List.range n).map λk:Nat=>Q1 ((c/16224+7*(0+(k:Nat)))%36):=by
 rw[rG];unfold ng;rw[zB];have:=I9 (λk:Nat=>Q1 ((c/16224+7*(0+(k:Nat)))%36)) (List.range n);rw[zB] at this;exact this
def OF (c:Int) (n:Nat):(Str.join "" (ng c n)).length=n:=by
 rw[<-show _=(Str.join "" (ng c n)).length from yQ,Hv,za,zR]
def OE:∀d∈(Str.join "" (ng c n)).cps.toList,d∈sgn:=λd hd=>by
 rw[Hv] at hd;let⟨k,_,rfl⟩:=zH.mp hd;exact(OK (zw _ ∅) (zt _ ∅)).2
def OD (c:Int) (n:Nat):((ng c n).map (λz:Str=>⇑z+("": Str).length)).sum=n:=by
 unfold ng;rw[zB];have:((λz:Str=>⇑z+("": Str).length)∘λk:Nat=>({#[Q1 ((c/16224+7*(0+(k:Nat)))%36)]}:Str))=λ_=>1:=rfl;rw[this,List.map_const',List.sum_replicate_nat,zR,Nat.mul_one]
end Sc
namespace Sc
open PySem L2 Lm
def bj (n:H D=none) (s:au H H2):au H (L2.upd H2 D u):=λb v hb=>by
 rw[aC (λz=>by rw[z,n] at hb;cases hb)];exact s b v hb
def GY (its:List Item) (x:Int×Int):Prop:=⇑its<=40/\(∀it∈its,N0 it)/\ke its=x/\its.all (λit=>it.1.isNone)=false
def Lu (x:Int×Int):Prop:=Lm.Rd x/\0<x.1/\x.1<=32/\x.2<=160
def J8 (l:List Item) (it:Item):ke (l++[it])=add (ke l) it.2:=by unfold ke;rw[zY];rfl
def Oz {x:Int×Int} (hx:0<x.2) {W:Int} (hW:0<W) {l:List Item} {t w:Int} {it:Item} (h:ke l=red (x.1*t) (x.2*W)) (e:it.2=red (x.1*w) (x.2*W)):ke (l++[it])=red (x.1*(t+w)) (x.2*W):=by
 let hb:0<x.2*W:=xB hx hW;rw[J8,h,e,R0 hb hb,<-lF hb hb (t:=x.1*(t+w))]
 congr 1
 rw[<-Int.add_mul,<-Int.mul_add,xE]
def OA {x:Int×Int} (hx:0<x.2) {W:Int} (hW:0<W):ke []=red (x.1*0) (x.2*W):=by
 let hb:0<x.2*W:=xB hx hW;show((0,1):Int×Int)=_;rw[Int.mul_zero];have:=lF (t:=0) (b:=1) (k:=x.2*W) hb ∅;rw[Int.mul_zero,Int.mul_one] at this;rw[this];decide
def MD (hx:Lm.Rd x) (hW:0<W):red (x.1*W) (x.2*W)=x:=by
 let⟨_,p2,p3⟩:=hx.pos;rw[xE x.1,xE x.2,lF hW p2,p3]
def PD (h:Lu x) (w1:1<=w) (w2:w<=4) (W1:1<=W) (W2:W<=24):QM (red (x.1*w) (x.2*W)):=by
 let⟨hr,h1,h2,h3⟩:=h;let⟨_,p2,_⟩:=hr.pos;let a1:0<x.1*w:=xB h1 ();let a2:x.1*w<=32*4:=wd h2 w2 () ∅;let b1:0<x.2*W:=xB p2 ();let b2:x.2*W<=160*24:=wd h3 W2 () ∅;let⟨g,g1,g2,g3,g4,g5⟩:=jh (t:=x.1*w) b1;let r1:=Bk (t:=x.1*w) (b:=x.2*W) (xa a1);refine{Lm.Rd.of (xa a1) b1,?_,(),()};let r0:=Bj (t:=x.1*w) (b:=x.2*W) (xa a1);rcases Int.lt_or_eq_of_le r0 with z | z
 ·exact z
 ·rw[<-z,Int.mul_zero] at g2;ext
noncomputable def su (m:Int) (n:Nat):List Int:=(List.range n).map λj=>1+m/(7+5*(0+(j:Nat)))%4
def QO (m:Int) (n:Nat):⇑(su m n)=n:=by unfold su;rw[za,zR]
def JZ (h:w∈su m n):1<=w/\w<=4:=by
 unfold su at h;let⟨j,_,rfl⟩:=zH.mp h;let a:=zw (m/(7+5*(0+(j:Int)))) (b:=4) ∅;let b:=zt (m/(7+5*(0+(j:Int)))) (b:=4) ∅;ext
theorem OB:∀{l:List Int},(∀w∈l,1<=w/\w<=4)->(⇑l:Int)<=l.sum/\l.sum<=4*⇑l
 | [],_=>by simp
 | w::r,h=>by
  let ih:=OB (l:=r) λz hz=>h z (zp _ hz);have:=h w zr;rw[wX,zv];ext
def MV (m:Int):QE (m%41-20,7*(m%41-20)%12+(m/41%14-7)*12):=by
 let a:=zw m (b:=41) ∅;let b:=zt m (b:=41) ∅;let c:=zw (m/41) (b:=14) ∅;let d:=zt (m/41) (b:=14) ∅;unfold QE;dsimp only;ext
def join {c:Bool} {t1 t2:TS} {D:Ends} {U:St} {H:Hp} (P:St->Hp->Prop) (ha:∀N:St->Hp->Prop,(∀U H,P U H->N U H)->c=true->t1 {D with nx:=N} U H)
  (hb:∀N:St->Hp->Prop,(∀U H,P U H->N U H)->c=false->t2 {D with nx:=N} U H) (hN:∀U H,P U H->D.nx U H):if c=true then t1 D U H else t2 D U H:=by
 cases c with
 | true=>rw[yO rfl];exact ha D.nx hN rfl
 | false=>rw[yN (by simp)];exact hb D.nx hN rfl
def RL (R:α->V->Prop):List α->List V->Prop
 | [],vs=>vs=[]
 | x::xs,vs=>∃v r,vs=v::r/\R x v/\RL R xs r
theorem RL.imp {α:Type} {R R':α->V->Prop} (h:∀x v,R x v->R' x v):∀{xs:List α} {vs:List V},RL R xs vs->RL R' xs vs
 | [],_,e=>e
 | _::_,_,⟨v,r,e,h1,h2⟩=>{v,r,e,h _ _ h1,RL.imp h h2}
theorem RL.snoc {α:Type} {R:α->V->Prop} {x:α} {v:V} (h:R x v):∀{xs:List α} {vs:List V},RL R xs vs->RL R (xs++[x]) (vs++[v])
 | [],_,e=>by unfold RL at e;subst e;exact{v,[],rfl,h,rfl}
 | _::_,_,⟨u,r,e,h1,h2⟩=>by subst e;exact{u,r++[v],rfl,h1,RL.snoc h h2}
theorem RL.len:∀{xs:List α} {vs:List V},RL R xs vs->⇑vs=⇑xs
 | [],_,e=>by unfold RL at e;rw[e];rfl
 | _::_,_,⟨u,r,e,_,h2⟩=>by rw[e,zv,zv,RL.len h2]
theorem RL.at:∀{xs:List α} {vs:List V} {i:Nat} {v:V},RL R xs vs->vs[i]?=some v->∃x,xs[i]?=some x/\R x v
 | [],_,_,_,e,h=>by unfold RL at e;subst e;simp at h
 | x::_,_,0,_,⟨u,r,e,h1,_⟩,h=>by subst e;simp at h;subst h;exact{(x),rfl,h1}
 | _::_,_,i+1,_,⟨u,r,e,_,h2⟩,h=>by subst e;simpa using RL.at (i:=i) h2 (by simpa using h)
inductive jM (D:vE) (H:Hp) (x:Str×List (Int×Str)) (v:V):Prop
 | mk (a r:vE) (us:List V) (_:v=.ref a) (_:H a=some (.tup [.str x.1,.ref r])) (_:H r=some (.lst us)) (_:aD H (x.2.map Mg) us) (_:r≠D)
theorem jM.mono (s:au H H') (h:jM D H x v):jM D H' x v:=by
 let⟨a,r,us,h1,h2,h3,h4,h5⟩:=h;exact{a,r,us,h1,s _ _ h2,s _ _ h3,h4.mono s,h5}
theorem jM.upd (hD:H D=some (.lst vs)) (h:jM D H x v):jM D (L2.upd H D o) x v:=by
 let⟨a,r,us,h1,h2,h3,h4,h5⟩:=h;let nt:cg (H D):=by rw[hD];exact λ_ z=>by cases z
 exact{a,r,us,h1,by rw[aC (Sc.bq h2 hD (fO rfl))];exact h2,by rw[aC h5];exact h3,aD.upd nt h4,h5}
inductive iB (D:vE) (H:Hp) (x:(Int×Str)×List Item) (v:V):Prop
 | mk (a q:vE) (us:List V) (_:v=.ref a) (_:H a=some (.tup [.int x.1.1,.str x.1.2,.ref q])) (_:H q=some (.lst us)) (_:aD H (x.2.map eM) us) (_:q≠D)
theorem iB.mono (s:au H H') (h:iB D H x v):iB D H' x v:=by
 let⟨a,r,us,h1,h2,h3,h4,h5⟩:=h;exact{a,r,us,h1,s _ _ h2,s _ _ h3,h4.mono s,h5}
theorem iB.upd (hD:H D=some (.lst vs)) (h:iB D H x v):iB D (L2.upd H D o) x v:=by
 let⟨a,r,us,h1,h2,h3,h4,h5⟩:=h;let nt:cg (H D):=by rw[hD];exact λ_ z=>by cases z
 exact{a,r,us,h1,by rw[aC (Sc.bq h2 hD (fO rfl))];exact h2,by rw[aC h5];exact h3,aD.upd nt h4,h5}
def Mp (ins:List Str) (many:Int) (row:List (Int×Str)):Prop:=row≠[]/\⇑row<=4/\(row.map (·.1)).Pairwise (·<·)/\∀h∈row,0<=h.1/\h.1<many/\h.2∈ins
noncomputable def dM (S:bH):List Told:=
 S.players.map .bK++(S.ao.map λx=>.cJ x.1 x.2.1 x.2.2)++(S.aK.map λx=>.cw x.1 x.2)++S.aG.map .bar++S.aF.toList.map .aF ++
 (S.holds.map λx=>x.2.map λh=>Told.holds x.1 h.1 h.2).flatten++(S.aJ.map λx=>.aJ x.1.1 x.1.2 x.2)++(S.repeats.map .rep++S.bC.toList.map .bC)
inductive lg (H:Hp) (p:vE) (S:bH):Prop
 | mk (pl il sl bl hl nl rl:vE) (ub jm:V) (iv sv bv hv nv rv:List V) (_:H p=some (.tup [.ref pl,.ref il,.ref sl,.ref bl,ub,.ref hl,.ref nl,.ref rl,jm])) (_:H pl=some (.lst (S.players.map V.str)))
  (_:H il=some (.lst iv)/\aD H (S.ao.map d7) iv) (_:H sl=some (.lst sv)/\aD H (S.aK.map gE) sv) (_:H bl=some (.lst bv)/\aD H (S.aG.map kX) bv) (_:Is H (dO dL S.aF) ub)
  (_:H hl=some (.lst hv)/\RL (jM hl H) S.holds hv) (_:H nl=some (.lst nv)/\RL (iB nl H) S.aJ nv) (_:H rl=some (.lst rv)/\aD H (S.repeats.map gF) rv) (_:Is H (dO jC S.bC) jm)
def lg.at' {H:Hp} {p:vE} {S:bH} (h:lg H p S):lg H p S:=h
theorem lg.mono (s:au H H') (h:lg H p S):lg H' p S:=by
 let⟨pl,il,sl,bl,hl,nl,rl,ub,jm,iv,sv,bv,hv,nv,rv,h1,h2,h3,h4,h5,h6,h7,h8,h9,ha⟩:=h;exact{pl,il,sl,bl,hl,nl,rl,ub,jm,iv,sv,bv,hv,nv,rv,s _ _ h1,s _ _ h2,{s _ _ h3.1,h3.2.mono s},{s _ _ h4.1,h4.2.mono s},{s _ _ h5.1,h5.2.mono s},h6.mono s,{s _ _ h7.1,h7.2.imp λx v z=>z.mono s},{s _ _ h8.1,h8.2.imp λx v z=>z.mono s},{s _ _ h9.1,h9.2.mono s},ha.mono s}
def bD (h1:-10000<n) (h2:n<10000):⇑(dec n)<=5:=by
 by_cases h:0<=n
 ·have:=Jl h h2;ext
 ·rw[Ay (),len_app]
  have:=Jl (n:=-n) () ();have:("-": Str).length=1:=rfl;ext
def bT (h1:-10000<n) (h2:n<10000):n.natAbs.log2<1920:=by
 by_cases z:n.natAbs=0
 ·rw[z];decide
 ·exact yc ((Nat.log2_lt z).mpr (show n.natAbs<2^14 by ext)) ∅
def kL (h1:-10000<x.1) (h2:x.1<10000) (h3:-10000<x.2) (h4:x.2<10000):⇑(iK x)<=11:=by
 unfold iK;let a:=bD h1 h2;let b:=bD h3 h4;split
 ·ext
 ·rw[len_app,len_app]
  have:("/": Str).length=1:=rfl;ext
def Nc (h:N0 it):⇑(pV it)<=30:=by
 let⟨o,x⟩:=it;let⟨⟨hr,h1,h2,h3⟩,hq⟩:=h;let⟨_,p2,_⟩:=hr.pos;dsimp only at h1 h2 h3 p2 hq;let lx:=kL (x:=x) () h2 () h3;cases o with
 | none=>
  show("r:" ++ iK x).length<=30;rw[len_app];have:("r:": Str).length=2:=rfl;ext
 | some q=>
  let⟨q1,q2,q3,q4,_⟩:=hq q rfl;let a:=bD (n:=q.1) () ();let b:=bD (n:=q.2) () ();show(dec q.1 ++":" ++ dec q.2 ++":" ++ iK x).length<=30;rw[len_app,len_app,len_app,len_app];have:(":": Str).length=1:=rfl;ext
theorem pk {sep:Str} {k:Nat}:∀{zs:List Str},(∀z∈zs,⇑z<=k)->(zs.map (λz:Str=>⇑z+⇑sep)).sum<=⇑zs*(k+⇑sep)
 | [],_=>by simp
 | z::r,h=>by
  let ih:=pk (sep:=sep) (zs:=r) λy hy=>h y (zp _ hy);have:=h z zr;rw[zj,wX,zv,Nat.succ_mul];ext
theorem join_le (sep:Str):∀zs:List Str,⇑(Str.join sep zs)<=(zs.map (λz:Str=>⇑z+⇑sep)).sum
 | []=>zm _
 | [z]=>by rw[join_one];simp
 | z::y::r=>by
  let ih:=join_le sep (y::r);rw[eX,len_app,len_app,zj,wX];ext
def BI (h:∀z∈zs,⇑z<=k):⇑(Str.join sep zs)<=⇑zs*(k+⇑sep):=zM (join_le sep zs) (pk h)
def NY (r:Rep):Prop:=Sy (.rep r)/\⇑r.ends<=9/\∀e∈r.ends,⇑e.2<=9
def Je (h:Xc e) (hl:⇑e.2<=9):⇑(oV e)<=60:=by
 let⟨h1,h2,h3,h4⟩:=h;let a:=bD (n:=e.1) () ();let b:(Str.join "," (e.2.map dec)).length<=⇑(e.2.map dec)*(5+(",": Str).length):=BI λz hz=>by
  let⟨p,hp,rfl⟩:=zH.mp hz;have:=h4 p hp;exact bD () ()
 let l1:(":": Str).length=1:=rfl;let l2:(",": Str).length=1:=rfl;rw[za,l2] at b;unfold oV;rw[len_app,len_app];ext
def LO (h1:ns.Perm l) (h2:ns.Pairwise (·<=·)):sortI l=ns:=by
 unfold sortI;refine(List.Perm.eq_of_pairwise (le:=λa b:Int=>a<=b) (λa b _ _ x y=>Int.le_antisymm x y) h2 ?_ (h1.trans (List.mergeSort_perm _ _).symm)).symm;have:=List.pairwise_mergeSort (le:=λa b:Int=>decide (a<=b)) (λa b c x y=>by simp at x y ⊢;ext) (λa b=>by simp;ext) l;exact this.imp λh=>ye h
theorem BR:∀{es:List End} {a:Int} {ps:List Int},(es.map (·.1)).Pairwise (·<·)->(∀e∈es,a<e.1)->(∀e∈es,e.2.Pairwise (·<=·))->fZ es a ps=some (((es.map (·.1)).getLast?).getD a,ps++(es.map (·.2)).flatten)
 | [],a,ps,_,_,_=>by simp[fZ]
 | e::r,a,ps,h1,h2,h3=>by
  rw[zj,xc] at h1;let ih:=BR (es:=r) (a:=e.1) (ps:=ps++e.2) h1.2 (λx hx=>h1.1 _ (zP (f:=λy:End=>y.1) hx)) (λx hx=>h3 x (zp _ hx));show(if e.1<=a then none else if e.2≠sortI e.2 then none else fZ r e.1 (ps++e.2))=_;let c1:=h2 e zr;rw[yN (),yN (λz=>z (LO (List.Perm.refl _) (h3 e zr)).symm),ih,zj,zj,ya,zF]
  congr 2
  cases r with
  | nil=>rfl
  | cons x t=>rw[zj,List.getLast?_cons_cons,List.getLast?_cons];rfl
theorem I0:∀{n:Nat},k<n->((List.range n).map λi=>if i=k then g i++[x] else g i).flatten.Perm (((List.range n).map g).flatten++[x])
 | 0,h=>()
 | n+1,h=>by
  rw[List.range_succ,zk,zk,xh,xh];simp only[zj,yn,ya,List.flatten_nil,zV]
  by_cases e:n=k
  ·rw[yO e,<-zF]
   have:((List.range n).map λi=>if i=k then g i++[x] else g i)=(List.range n).map g:=xA λi hi=>by
    have:=yS.mp hi;rw[yN ()]
   rw[this]
  ·rw[yN e]
   let ih:=I0 (g:=g) (x:=x) (k:=k) (n:=n) ();refine(ih.append_right _).trans ?_;rw[zF,zF];exact List.Perm.append_left _ (List.perm_append_comm)
noncomputable def cN (sp:Nat->Nat):Nat->Nat->List Int
 | 0,_=>[]
 | k+1,i=>if i=sp k then cN sp k i++[(k:Int)+1] else cN sp k i
theorem q9:∀{k:Nat},p∈cN sp k i->∃j,j<k/\p=(j:Int)+1/\i=sp j
 | 0,h=>by cases h
 | k+1,h=>by
  unfold cN at h;split at h
  ·rename_i e
   rcases zG.mp h with h | h
   ·let⟨j,h1,h2⟩:=q9 h
    exact{(j),(),h2}
   ·exact{k,(),by simpa using h,e}
  ·let⟨j,h1,h2⟩:=q9 h
   exact{(j),(),h2}
theorem Bt:∀{k:Nat},(cN sp k i).Pairwise (·<=·)
 | 0=>List.Pairwise.nil
 | k+1=>by
  unfold cN;split
  ·rw[zU]
   refine{Bt,by simp,λa ha b hb=>?_};let⟨j,h1,h2,_⟩:=q9 ha;have:b=(k:Int)+1:=by simpa using hb
   ext
  ·exact Bt
theorem Iu (e:i=sp j):∀{k:Nat},j<k->((j:Int)+1)∈cN sp k i
 | 0,h=>()
 | k+1,h=>by
  unfold cN
  by_cases c:j=k
  ·subst c
   rw[yO e];exact zI _ (zA.mpr rfl)
  ·let ih:=Iu e (k:=k) ()
   split
   ·exact zJ _ ih
   ·exact ih
theorem Bs:∀{k:Nat},⇑(cN sp k i)<=k
 | 0=>zm _
 | k+1=>by
  let ih:=Bs (sp:=sp) (i:=i) (k:=k);unfold cN;split
  ·rw[zh];simp;ext
  ·ext
theorem Eo:∀{k:Nat},(∀j,j<k->sp j<n)->((List.range n).map (cN sp k)).flatten.Perm (MR 1 k)
 | 0,_=>by
  have:((List.range n).map (cN sp 0)).flatten=[]:=by
   rw[List.flatten_eq_nil_iff];intro l hl;let⟨i,_,rfl⟩:=zH.mp hl;rfl
  rw[this];exact List.Perm.refl _
 | k+1,h=>by
  let ih:=Eo (sp:=sp) (n:=n) (k:=k) λj hj=>h j ();let e:(List.range n).map (cN sp (k+1))=(List.range n).map λi=>if i=sp k then cN sp k i++[(k:Int)+1] else cN sp k i:=xA λi _=>by rw[cN]
  rw[e];refine(I0 (h k ())).trans ?_;unfold MR at ih ⊢;rw[List.range_succ,zk];refine(ih.append_right _).trans ?_;rw[List.map_singleton,Int.add_comm]
def Q7 (k:Nat):(MR 1 k).Pairwise (·<=·):=by
 unfold MR;rw[List.pairwise_map];exact(List.pairwise_lt_range).imp λh=>()
noncomputable def rQ (bs:List Int) (sp:Nat->Nat) (t:Nat):List End:=bs.zip ((List.range ⇑bs).map (cN sp t))
theorem G4:∀{a:List α} {b:List β},⇑a=⇑b->(a.zip b).map (·.1)=a
 | [],[],_=>rfl
 | x::xs,y::ys,h=>by rw[yX,zj,G4 (by simpa using h)]
 | [],_::_,h=>by simp at h
 | _::_,[],h=>by simp at h
theorem G3:∀{a:List α} {b:List β},⇑a=⇑b->(a.zip b).map (·.2)=b
 | [],[],_=>rfl
 | x::xs,y::ys,h=>by rw[yX,zj,G3 (by simpa using h)]
 | [],_::_,h=>by simp at h
 | _::_,[],h=>by simp at h
def kT:(rQ bs sp t).map (·.1)=bs:=G4 (by simp)
def tQ:(rQ bs sp t).map (·.2)=(List.range ⇑bs).map (cN sp t):=G3 (by simp)
def Nr:⇑(rQ bs sp t)=⇑bs:=by
 have:=y6 List.length (kT (bs:=bs) (sp:=sp) (t:=t))
 rwa [za] at this
def tR (h:e∈rQ bs sp t):e.1∈bs/\∃i,i<⇑bs/\e.2=cN sp t i:=by
 let h1:=zP (f:=λx:End=>x.1) h;let h2:=zP (f:=λx:End=>x.2) h;rw[kT] at h1;rw[tQ] at h2;let⟨i,hi,e2⟩:=zH.mp h2;exact{h1,i,yS.mp hi,e2.symm}
def Ms (first last times:Int) (es:List End):Prop:=gd {(first),last,times,es}=true/\⇑es<=9/\(∀e∈es,first<=e.1/\e.1<=last/\e.2≠[]/\⇑e.2<=9/\∀p∈e.2,0<=p/\p<1000)/\⇑((es.map (·.2)).flatten)<=9/\(es.map (·.1)).Pairwise (·<·)
def Np:Ms first last times []:={rfl,∅,by simp,by simp,by simp}
def KU (t9:t<=9) (ne:bs≠[]) (asc:bs.Pairwise (·<·)) (hin:∀b∈bs,first<=b/\b<=last) (hsp:∀j,j<t->sp j<⇑bs) (hon:∀i,i<⇑bs->∃j,j<t/\sp j=i) (bt:⇑bs<=t):Ms first last t (rQ bs sp t):=by
 let pm:=Eo (k:=t) hsp;let pl:((List.range ⇑bs).map (cN sp t)).flatten.length=t:=by rw[pm.length_eq];unfold MR;simp
 refine{?_,by rw[Nr];ext,λe he=>?_,by rw[tQ,pl];exact t9,by rw[kT];exact asc}
 ·let e1:=BR (es:=rQ bs sp t) (a:=first-1) (ps:=[]) (by rw[kT];exact asc) (λe he=>by have:=hin _ (tR he).1;ext) (λe he=>by let⟨_,i,_,e2⟩:=tR he;rw[e2];exact Bt)
  let e2:sortI (([]:List Int)++((rQ bs sp t).map (·.2)).flatten)=MR 1 t:=by rw[List.nil_append,tQ];exact LO pm.symm (Q7 t)
  unfold gd;dsimp only;cases q:rQ bs sp t with
  | nil=>rfl
  | cons x r=>
   rw[q] at e1 e2;dsimp only;rw[e1];dsimp only;rw[e2,show((t:Int)+1-1).toNat=t by ext,zg rfl,Bool.and_true,xF,<-q,kT];cases q2:bs.getLast? with
   | none=>exact absurd (List.getLast?_eq_none_iff.mp q2) ne
   | some b=>exact(hin b (w8 q2)).2
 ·let⟨hb,i,hi,e2⟩:=tR he
  let⟨j,hj,ej⟩:=hon i hi;refine{(hin _ hb).1,(hin _ hb).2,?_,?_,λp hp=>?_}
  ·rw[e2];exact List.ne_nil_of_mem (Iu ej.symm hj)
  ·rw[e2];have:=Bs (sp:=sp) (i:=i) (k:=t);ext
  ·rw[e2] at hp
   let⟨j,h1,h2,_⟩:=q9 hp;ext
def QY {n c:Nat} {i:Nat} (hi:i<n):∃j,j<n/\(j+c)%n=i:=by
 refine{(i+(n-c%n))%n,vj _ (),?_};let hc:c%n<n:=vj _ ();rw[Nat.add_mod,Nat.mod_mod,<-Nat.add_mod];let e:i+(n-c%n)+c=i+n+n*(c/n):=by
  have:=Nat.div_add_mod c n;ext
 rw[e,Nat.add_mul_mod_self_left,Nat.add_mod_right,Nat.mod_eq_of_lt hi]
def sA (Pv:Nat->St->Hp->Prop) (Pe:St->Hp->Prop) (h0:∃m,Pv m U H)
  (turn:∀m U H,Pv m U H->∀N:St->Hp->Prop,(∀U H,Pe U H->N U H)->c U H λb H1=>if b=true then∃N':St->Hp->Prop,(∀U' H',N' U' H'->∃m',m'<m/\Pv m' U' H')/\tb {D with nx:=N',ct:=N',bk:=N} U H1 else N U H1)
  (hd:∀U H,Pe U H->D.nx U H):Ou c tb D U H:={Pv,h0,λm U H p=>turn m U H p D.nx hd}
def FG {c:Bool} {T:(Bool->Hp->Prop)->Prop} {Z:Bool->Hp->Prop} {H:Hp} (v:Bool) (h1:c=false->∀Z,Z v H->T Z) (h2:c=true->v=true) (hz:Z v H):if c=true then Z true H else T Z:=by
 cases c with
 | false=>rw[yN (by simp)];exact h1 rfl Z hz
 | true=>rw[yO rfl];rw[<-h2 rfl];exact hz
def La {K:yB} {α:Type} {t1 t2:Bool} {a b:vE} {ws:List α} {e1 e2:α->V} {U₀:St} {g:TG} {te:TE} {Q:VK} {H1:Hp} (F:α->Dt) (Pσ:St->Prop) (hn:⇑ws<=sizeLine) (ha:Ea t1 K H1 a (ws.map e1)) (hb:Ea t2 K H1 b (ws.map e2)) (h0:Pσ U₀)
  (turn:∀(x:α) (U:St) (H:Hp) (p:vE) (R:St->V->Hp->Prop),x∈ws->au H1 H->H p=some (.tup [e1 x,e2 x])->Pσ U->(∀σ3 y H5,au H H5->Is H5 (F x) y->Pσ σ3->R σ3 y H5)->g (.ref p) U H λσ3 H3=>te σ3 H3 λy H5=>R σ3 y H5)
  (fin:∀D vs H,au H1 H->H1 D=none->H D=some (.lst vs)->aD H (ws.map F) vs->Q (.ref D) H):cR U₀ g qF te Q (V6 t1 t2 K a b) H1:=by
 refine{λi m xs U H=>m=⇑ws-i/\i<=⇑ws/\⇑xs=i/\au H1 H/\aD H ((ws.take i).map F) xs/\Pσ U,{_,rfl,yg _,rfl,au.refl _,by simp[aD],h0},?_};rintro i m xs U H ⟨rfl,hi,hx,sm,il,pσ⟩;rcases xI i ⇑ws with hlt | hge
 ·let g1:(ws.map e1)[i]?=some (e1 ws[i]):=by rw[zK,zd hlt];rfl
  let g2:(ws.map e2)[i]?=some (e2 ws[i]):=by rw[zK,zd hlt];rfl
  refine .inr {{_,_,_,_,sm.Sg ha,sm.Sg hb,g1,g2},(),?_};rintro x H2 ⟨p,u,v,np,rfl,rfl,hu,hv⟩;let eu:=hu _ (sm.Sg ha);let ev:=hv _ (sm.Sg hb);rw[g1] at eu;rw[g2] at ev;cases eu;cases ev;let s2:au H (upd H p (.tup [e1 ws[i],e2 ws[i]])):=aY np;refine turn ws[i] U _ p (λσ3 y H5=>if true=true then∃m',m'<⇑ws-i/\(m'=⇑ws-(i+1)/\i+1<=⇑ws/\⇑(xs++[y])=i+1/\au H1 H5/\aD H5 ((ws.take (i+1)).map F) (xs++[y])/\Pσ σ3) else False) (ym hlt) (sm.trans s2) aB pσ ?_;rintro σ3 y H5 s5 iy p3;rw[yO rfl];refine{_,(),rfl,hlt,by simp[hx],(sm.trans s2).trans s5,?_,p3};rw[xx,zd hlt,zk];exact de iy ((il.mono s2).mono s5)
 ·let e:i=⇑ws:=()
  subst e;refine .inl {{_,_,sm.Sg ha,sm.Sg hb,.inl (by rw[za];exact zm _)},(),λD hD=>?_};let il':aD H (ws.map F) xs:=by rw[zN] at il;exact il
  exact fin D xs _ (sm.trans (aY hD)) (sm.back hD) aB (il'.mono (aY hD))
def Gv (hn:⇑xs<=sizeLine) (hp:aH K H1 p xs) (h0:∃v,U₀=[v])
  (fin:∀(D:vE) (qs:List vE) (H:Hp),au H1 H->H1 D=none->H D=some (.lst (qs.map V.ref))->qs.Nodup->D∉qs->⇑qs=⇑xs->(∀q∈qs,H1 q=none/\H q=some (.lst []))->Q (.ref D) H):cR U₀ (bW 0) qF (Hs dY) Q (GX K p) H1:=by
 refine{λi m ys U H=>m=⇑xs-i/\i<=⇑xs/\⇑ys=i/\(∃v,U=[v])/\au H1 H/\∃qs:List vE,ys=qs.map V.ref/\qs.Nodup/\∀q∈qs,H1 q=none/\H q=some (.lst []),{_,rfl,yg _,rfl,h0,au.refl _,[],rfl,wa,by simp},?_};rintro i m ys U H ⟨rfl,hi,hx,⟨v,rfl⟩,sm,qs,rfl,nd,hq⟩;rw[za] at hx;rcases xI i ⇑xs with hlt | hge
 ·refine .inr {ED (sm.seq hp) hlt,by rw[za];ext,?_}
  rintro x H2 ⟨rfl,_⟩;refine{yg _,λq n=>?_};refine{_,(),rfl,hlt,by rw[zh,za,hx];rfl,{_,rfl},sm.trans (aY n),qs++[q],by rw[zk];rfl,?_,λr hr=>?_}
  ·rw[zT]
   refine{nd,by simp,λa ha b hb e=>?_};have:b=q:=by simpa using hb
   subst this;subst e;rw[(hq a ha).2] at n;cases n
  ·rcases zG.mp hr with z | z
   ·exact{(hq r z).1,aY n _ _ (hq r z).2}
   ·rw[zA.mp z]
    exact{sm.back n,aB}
 ·let e:i=⇑xs:=()
  subst e;refine .inl {{_,sm.seq hp,zm _},by rw[za];ext,λD hD=>?_};exact fin D qs _ (sm.trans (aY hD)) (sm.back hD) aB nd (λz=>by rw[(hq D z).2] at hD;cases hD) hx λq z=>{(hq q z).1,aY hD _ _ (hq q z).2}
theorem sY (f:α->β) (d:α):∀l:List α,(List.range ⇑l).map (λi=>f (l.getD i d))=l.map f
 | []=>rfl
 | x::r=>by
  rw[zv,List.range_succ_eq_map,zj,zB,zj]
  congr 1
  exact sY f d r
theorem Ec (F:α->β->γ) (g:Nat->β) (d:α):∀(l:List α) (k:Nat),(List.range ⇑l).map (λi=>F (l.getD i d) (g (k+i)))=(l.zip ((List.range ⇑l).map λi=>g (k+i))).map λp=>F p.1 p.2
 | [],_=>rfl
 | x::r,k=>by
  rw[zv,List.range_succ_eq_map,zj,zB,zj,zB,yX,zj]
  congr 1
  have:=Ec F g d r (k+1);let e:∀i,k+1+i=k+(i+1):=λi=>()
  simp only[e] at this;exact this
theorem IL:∀{l:List α} {i j:Nat},l.Nodup->l[i]?=some x->l[j]?=some x->i=j
 | [],_,_,_,h,_=>by simp at h
 | y::r,0,0,_,_,_=>rfl
 | y::r,0,j+1,n,h,k=>by
  simp at h k;subst h;exact absurd (zC k) (yd.mp n).1
 | y::r,i+1,0,n,h,k=>by
  simp at h k;subst k;exact absurd (zC h) (yd.mp n).1
 | y::r,i+1,j+1,n,h,k=>by
  simp at h k;rw[IL (yd.mp n).2 h k]
def Nq (bs:List Int) (sp:Nat->Nat) (t:Nat):(List.range ⇑bs).map (λi=>mX (bs.getD i 0,cN sp t i))=(rQ bs sp t).map mX:=by
 have:=Ec (λb p=>mX (b,p)) (cN sp t) 0 bs 0;simp only[Nat.zero_add] at this;rw[this];rfl
theorem As (n:Int):∀ns:List Int,F2 (.int n) (ns.map V.int)=decide (n∈ns)
 | []=>rfl
 | m::ns=>by
  let ih:=As n ns;unfold F2 at ih ⊢;rw[zj,xu,ih];show((m == n)||decide (n∈ns))=decide (n∈m::ns)
  by_cases e:n=m
  ·subst e
   simp
  ·simp[e,Ne.symm (a:=m) (b:=n) (λz=>e z.symm)]
   try ext
def lV {α:Type} {J:It} {ws:List α} {enc:α->V} {U₀:St} {g:TG} {tc:TT} {te:TE} {Q:VK} {H1:Hp} (f:α->Bool) (F:α->Dt) (Pσ:St->Prop) (hn:⇑ws<=sizeLine) (h0:Pσ U₀)
  (go:∀i H,i<⇑ws->au H1 H->J.go i H) (stop:∀H,au H1 H->J.stop ⇑ws H) (yl:∀(i:Nat) x H H2 (hi:i<⇑ws),au H1 H->J.JV i H x H2->H2=H/\x=enc ws[i])
  (turn:∀(a:α) (U:St) (H:Hp) (R:St->V->Hp->Prop) (N:St->Hp->Prop),a∈ws->au H1 H->Pσ U->(f a=true->∀σ3 y H5,au H H5->Is H5 (F a) y->Pσ σ3->R σ3 y H5)->(f a=false->∀σ3 H5,au H H5->Pσ σ3->N σ3 H5)->g (enc a) U H λσ3 H3=>tc σ3 H3 λb H4=>if b=true then te σ3 H4 λy H5=>R σ3 y H5 else N σ3 H4)
  (fin:∀D vs H,au H1 H->H1 D=none->H D=some (.lst vs)->aD H ((ws.filter f).map F) vs->Q (.ref D) H):cR U₀ g tc te Q J H1:=by
 refine{λi m xs U H=>m=⇑ws-i/\i<=⇑ws/\⇑xs<=i/\au H1 H/\aD H (((ws.take i).filter f).map F) xs/\Pσ U,{_,rfl,yg _,zm _,au.refl _,by simp[aD],h0},?_};rintro i m xs U H ⟨rfl,hi,hx,sm,il,pσ⟩;rcases xI i ⇑ws with hlt | hge
 ·refine .inr {go i H hlt sm,(),?_}
  intro x H2 hy;let⟨rfl,rfl⟩:=yl i x H H2 hlt sm hy;let tk:ws.take (i+1)=ws.take i++[ws[i]]:=by rw[xx,zd hlt];rfl
  refine turn ws[i] U H2 _ _ (ym hlt) sm pσ ?_ ?_
  ·intro ff σ3 y H5 s5 iy p3
   refine{_,(),rfl,hlt,by rw[zh];show ⇑xs+1<=i+1;ext,sm.trans s5,?_,p3};rw[tk,yY,zk];have:[ws[i]].filter f=[ws[i]]:=by simp[ff]
   rw[this];exact de iy (il.mono s5)
  ·intro ff σ3 H5 s5 p3
   refine{_,(),rfl,hlt,(),sm.trans s5,?_,p3};rw[tk,yY,zk];have:[ws[i]].filter f=[]:=by simp[ff]
   rw[this,yn,zV];exact il.mono s5
 ·let e:i=⇑ws:=()
  subst e;refine .inl {stop H sm,(),λD hD=>?_};let il':aD H ((ws.filter f).map F) xs:=by rw[zN] at il;exact il
  exact fin D xs _ (sm.trans (aY hD)) (sm.back hD) aB (il'.mono (aY hD))
noncomputable def mL (f:Int->Bool) (lo:Int) (n:Nat):List Int:=((List.range n).map λi=>lo+(i:Nat)).filter f
def oJ (h:x∈mL f lo n):lo<=x/\x<lo+n/\f x=true:=by
 unfold mL at h;rw[wA] at h;let⟨i,hi,rfl⟩:=zH.mp h.1;have:=yS.mp hi;exact{(()),(),h.2}
def Nm:⇑(mL f lo n)<=n:=by
 unfold mL;refine zM (xj _ _) ?_;simp
def Jc {f:Int->Bool} {lo x:Int} {n:Nat} (h1:lo<=x) (h2:x<lo+n) (h3:f x=true):x∈mL f lo n:=by
 unfold mL;rw[wA];exact{zH.mpr {(x-lo).toNat,yS.mpr (),()},h3}
def jD {lo:Int} {n:Nat} {U₀ rest:St} {tc:TT} {Q:VK} {H1:Hp} (f:Int->Bool) (hn:n<=sizeLine) (h0:∃v,U₀=v::rest)
  (turn:∀(i:Int) (H:Hp) (R:Bool->Hp->Prop),lo<=i->i<lo+n->au H1 H->(∀H',au H H'->R (f i) H')->tc (some (.int i)::rest) H R)
  (fin:∀D H,au H1 H->H1 D=none->H D=some (.lst ((mL f lo n).map V.int))->Q (.ref D) H):cR U₀ (bW 0) tc (aW 0) Q (Lw lo n) H1:=by
 refine lV (ws:=(List.range n).map λi=>lo+(i:Nat)) (enc:=V.int) f Dt.int (λU=>∃v,U=v::rest) (by simp;exact hn) h0 (λi H hi _=>by rw[za,zR] at hi;exact hi) (λH _=>by rw[za,zR];exact zm n) ?_ ?_ ?_
 ·rintro i x H H2 hi _ ⟨rfl,rfl⟩
  exact{rfl,by simp}
 ·rintro a U H R N ha s1 ⟨v,rfl⟩ hR hN
  let⟨i,hi,rfl⟩:=zH.mp ha;have:=yS.mp hi;refine turn (lo+(i:Nat)) H _ () () s1 λH' s'=>?_;cases q:f (lo+(i:Nat)) with
  | true=>exact bR rfl {_,rfl,hR q _ _ _ s' cE {_,rfl}}
  | false=>exact bX rfl (hN q _ _ s' {_,rfl})
 ·intro D vs H s1 nD hD il
  rw[dS il] at hD;exact fin D H s1 nD hD
noncomputable def jZ (rs:List Rep) (b:Int):Bool:=match du rs b with
 | none=>true
 | some r=>match (r.ends.filter λe=>decide (e.1<=b)).getLast? with
  | none=>true
  | some e=>decide (r.times∈e.2)
noncomputable def eK (rs:List Rep) (b:Int):Bool:=rs.any λr=>decide (r.first<b)&&decide (b<=r.last)
noncomputable def G0 (r:Rep) (b:Int):Bool:=decide (r.first<=b)&&decide (b<=r.last)
theorem BO:∀{l:List α} {i:Nat} {x:α},l[i]?=some x->p x=true->(∀y∈l.take i,p y=false)->l.find? p=some x
 | [],_,_,h,_,_=>by simp at h
 | y::r,0,x,h,hx,_=>by simp at h;subst h;rw[yT,hx]
 | y::r,i+1,x,h,hx,hn=>by
  rw[yT,hn y (by rw[vc];exact zr)];exact BO (i:=i) (by simpa using h) hx λz hz=>hn z (by rw[vc];exact zp _ hz)
theorem EG:∀{es:List End},(es.map (·.1)).Pairwise (·<·)->x∈(es.zip ((es.drop 1).map (·.1)++[hi])).map (λp=>(p.1.1,p.2-1,p.1.2))->x.1<=b->b<=x.2.1->∃e,(es.filter λe=>decide (e.1<=b)).getLast?=some e/\e.2=x.2.2
 | [],_,h,_,_=>by simp at h
 | [e],_,h,h1,h2=>by
  simp at h;subst h;exact{e,by simp at h1 ⊢;exact h1,rfl}
 | e::e'::r,asc,h,h1,h2=>by
  rw[zj,xc] at asc;rw[List.drop_one,List.tail_cons,zj,wU,yX,zj,zD] at h;rcases h with h | h
  ·subst h
   dsimp only at h1 h2;let no:(e'::r).filter (λe=>decide (e.1<=b))=[]:=by
    rw[List.filter_eq_nil_iff];intro y hy;let hm:y.1∈(e'::r).map (·.1):=zP (f:=λz:End=>z.1) hy;let a2:=asc.2;rw[zj,xc] at a2;rw[zj,zD] at hm;rcases hm with z | z
    ·simp;ext
    ·have:=a2.1 _ z
     simp;ext
   refine{e,?_,rfl};rw[xK,yO (zg h1),no];rfl
  ·let⟨e2,f1,f2⟩:=EG (es:=e'::r) asc.2 (by rw[List.drop_one,List.tail_cons];exact h) h1 h2
   refine{e2,?_,f2};rw[xK];split
   ·cases q:(e'::r).filter (λe=>decide (e.1<=b)) with
    | nil=>rw[q] at f1;cases f1
    | cons y t=>rw[q] at f1;rw[List.getLast?_cons_cons];exact f1
   ·exact f1
theorem Mb:∀{es:List End},(∀e∈es,lo<=e.1/\e.1<hi)->x∈(es.zip ((es.drop 1).map (·.1)++[hi])).map (λp=>(p.1.1,p.2-1,p.1.2))->lo<=x.1/\x.2.1<hi
 | [],_,h=>by simp at h
 | [e],hx,h=>by
  simp at h;subst h;have:=hx e (by simp);exact{this.1,by show hi-1<hi;ext}
 | e::e'::r,hx,h=>by
  rw[List.drop_one,List.tail_cons,zj,wU,yX,zj,zD] at h;rcases h with h | h
  ·subst h
   let a:=hx e (by simp);let c:=hx e' (by simp);exact{a.1,by show e'.1-1<hi;ext}
  ·exact Mb (es:=e'::r) (λy hy=>hx y (zp _ hy)) (by rw[List.drop_one,List.tail_cons];exact h)
def Apart (rs:List Rep):Prop:=(∀r∈rs,r.first<=r.last/\(r.ends.map (·.1)).Pairwise (·<·)/\∀e∈r.ends,r.first<=e.1/\e.1<=r.last)/\rs.Pairwise λa b=>a.last<b.first
theorem tZ:∀{rs:List Rep} {r r':Rep} {b:Int},(∀r∈rs,r.first<=r.last)->rs.Pairwise (λa b=>a.last<b.first)->r∈rs->r'∈rs->r.first<=b->b<=r.last->r'.first<=b->b<=r'.last->r=r'
 | [],_,_,_,_,_,h,_,_,_,_,_=>by cases h
 | x::l,r,r',b,hf,hp,h,h',h1,h2,h3,h4=>by
  rw[xc] at hp;rcases zD.mp h with e | e <;> rcases zD.mp h' with e' | e'
  ·rw[e,e']
  ·subst e
   have:=hp.1 r' e';ext
  ·subst e'
   have:=hp.1 r e;ext
  ·exact tZ (λy hy=>hf y (zp _ hy)) hp.2 e e' h1 h2 h3 h4
def pK {rs:List Rep} {b:Int} {r:Rep} (h:du rs b=some r):r∈rs/\r.first<=b/\b<=r.last:=by
 unfold du at h;let h1:=vq h;let h2:=List.find?_some h;simp at h2;exact{(h1),h2}
def L0 {rs:List Rep} {b:Int} (ap:Apart rs) (h:jZ rs b=true):ig rs b=true:=by
 unfold ig;rw[yp];intro r hr;rw[yp];intro x hx;let⟨a1,a2,a3⟩:=ap.1 r hr
 by_cases c1:x.1<=b
 ·by_cases c2:b<=x.2.1
  ·unfold dq at hx
   let ein:=Mb (lo:=r.first) (λe he=>{(a3 e he).1,by have:=(a3 e he).2;ext}) hx;let⟨e,f1,f2⟩:=EG a2 hx c1 c2;unfold jZ at h;let hro:du rs b=some r:=by
    cases q:du rs b with
    | none=>
     unfold du at q;have:=xV.mp q r hr;simp at this;ext
    | some r'=>
     let⟨g1,g2,g3⟩:=pK q;rw[tZ (λy hy=>(ap.1 y hy).1) ap.2 g1 hr g2 g3 () ()]
   rw[hro] at h;dsimp only at h;rw[f1] at h;dsimp only at h;rw[f2] at h;rw[h];simp
  ·rw[ze c2];simp
 ·rw[ze c1];simp
def uG {rs:List Rep} {b:Int} (h:eK rs b=false):dn rs b=true:=by
 unfold dn;cases q:du rs b with
 | none=>rfl
 | some r=>
  let⟨g1,g2,g3⟩:=pK q;dsimp only;unfold eK at h;rw[vt] at h;have:=h r g1;simp at this;exact zg ()
def PK {rs:List Rep} {b:Int} (ap:Apart rs) (h:(∃r∈rs,r.last=b)\/(rs.any λr=>G0 r b)=false):eG rs b=true:=by
 unfold eG;cases q:du rs b with
 | none=>rfl
 | some r=>
  let⟨g1,g2,g3⟩:=pK q;dsimp only;rcases h with⟨r',hr',e⟩ | h
  ·have:=tZ (b:=b) (λy hy=>(ap.1 y hy).1) ap.2 g1 hr' g2 g3 (by have:=(ap.1 r' hr').1;ext) ()
   rw[this,e];exact zg rfl
  ·rw[vt] at h
   have:=h r g1;unfold G0 at this;simp at this;ext
def Lv (many:Int) (rs:List Rep) (j:Jump):Prop:=fA rs j=true/\(0<=j.mT/\j.mT<many)/\(0<=j.kO/\j.kO<many)/\(0<=j.bS/\j.bS<many)/\∀c,j.fh=some c->0<=c/\c<many
def T7 {many:Int} {rs:List Rep} (ap:Apart rs) {a t u:Int} {c:Option Int} (ha:0<=a) (ha2:a<many) (hl:(∃r∈rs,r.last=a)\/(rs.any λr=>G0 r a)=false) (ht:0<=t) (ht2:t<=a) (hti:eK rs t=false)
  (hu:t<=u) (hu2:u<=a) (hul:jZ rs u=true) (hc:∀x,c=some x->a<x/\x<many/\eK rs x=false/\jZ rs x=true):Lv many rs {(a),t,u,c}:=by
 refine{?_,{(ha),ha2},{ht,by show t<many;ext},{by show 0<=u;ext,by show u<many;ext},λx hx=>?_}
 ·unfold fA
  dsimp only;rw[yN (),yN (),PK ap hl,uG hti,L0 ap hul];cases c with
  | none=>rfl
  | some x=>
   let⟨h1,h2,h3,h4⟩:=hc x rfl;dsimp only;rw[zg h1,uG h3,L0 ap h4];rfl
 ·let⟨h1,h2,_⟩:=hc x hx
  exact{(()),h2}
def KL (t1:0<t) (t2:t<=32) (b1:0<b) (b2:b<=160):Lu (red t b):=by
 let⟨g,g1,g2,g3,g4,g5⟩:=jh (t:=t) b1;let r1:=Bk (t:=t) (b:=b) (xa t1);let r0:=Bj (t:=t) (b:=b) (xa t1);refine{Lm.Rd.of (xa t1) b1,?_,(),()};rcases Int.lt_or_eq_of_le r0 with z | z
 ·exact z
 ·rw[<-z,Int.mul_zero] at g2;ext
inductive M9:List Expr->List (Int×Int)->Prop
 | n:M9 [] []
 | c {a b:Int} {x y u v m k r ps} (h:M9 r ps):M9 (.Tuple [.Constant (.int a) x y,.Constant (.int b) u v] m k::r) ((a,b)::ps)
def TL {X:Cx} {es:List Expr} {ps:List (Int×Int)} (h:M9 es ps):PA X es (Hr ps):=by
 induction h with
 | n=>exact TK
 | c _ q=>exact Ve q
def TF {X:Cx} {es:List Expr} {p1 pos:Pos} {b:Expr} {tb:TE} (ps:List (Int×Int)) (hb:PE X b tb) (hs:so b) (h:M9 es ps<|>qh_) (hl:⇑ps<=1000<|>qb_):PE X (.Subscript (.List es p1) b pos) (eO (Rf X.K) (VW ps) tb):=Br L4 (TC (TL h) hl) hb hs
@[irreducible] def SD (X:Cx) (s:Stmt) (t:TS):Prop:=PS X s t
@[irreducible] def V4 (X:Cx) (e:Expr) (t:TE):Prop:=PE X e t
def WN {X:Cx} {x:Str} {e:Expr} {te:TE} {pos pos':Pos} (i:Nat) (hN:X.N.Nodup) (he:V4 X e te) (hi:X.N[i]?=some x<|>qe_) (hx:Loc X.env.scope x<|>qi_) (hs:swapsWith e (some (.Name x pos')) pos.line X.env=pure false<|>qe_) (hf:X.fn x=true\/X.env.scope.names.lookup x=some .local<|>qa_) :
  SD X (.Assign [.Name x pos'] e pos) (Hu te (bW i)):=by
 unfold SD;unfold V4 at he;exact O5 hN hi hx he hs hf
def Rl {X:Cx} {es:List Expr} {p1 pos:Pos} {b:Expr} {tb:TE} (ps:List (Int×Int)) (hb:PE X b tb) (hs:so b) (h:M9 es ps<|>qh_) (hl:⇑ps<=1000<|>qb_):V4 X (.Subscript (.List es p1) b pos) (eO (Rf X.K) (VW ps) tb):=by
 unfold V4;exact TF ps hb hs h hl
@[irreducible] def Lr (X:Cx) (s:List Stmt) (t:TS):Prop:=EV X s t
def zS {X:Cx} {s:Stmt} {t:TS} (h:PS X s t):SD X s t:=by unfold SD;exact h
def zo {X:Cx} {s:Stmt} {t:TS} (h:SD X s t):Lr X [s] t:=by unfold Lr;unfold SD at h;exact ak h
def zc {X:Cx} {s:Stmt} {r:List Stmt} {t u:TS} (h:SD X s t) (h2:Lr X r u):Lr X (s::r) (SW t u):=by unfold Lr at h2 ⊢;unfold SD at h;exact af h h2
def zf {X:Cx} {s:List Stmt} {t:TS} (h:Lr X s t):EV X s t:=by unfold Lr at h;exact h
def K9 {K:yB} {a:vE} {ns:List Int} {U₀ rest:St} {tc:TT} {Q:VK} {H1:Hp} (f:Int->Bool) (hn:⇑ns<=sizeLine) (ha:aH K H1 a (ns.map V.int)) (h0:∃v,U₀=v::rest)
  (turn:∀(n:Int) (H:Hp) (R:Bool->Hp->Prop),au H1 H->(∀H',au H H'->R (f n) H')->tc (some (.int n)::rest) H R)
  (fin:∀D H,au H1 H->H1 D=none->H D=some (.lst ((ns.filter f).map V.int))->Q (.ref D) H):cR U₀ (bW 0) tc (aW 0) Q (GX K a) H1:=by
 refine lV (ws:=ns) (enc:=V.int) f Dt.int (λU=>∃v,U=v::rest) hn h0 (λi H hi sm=>ED (sm.seq ha) (by rw[za];exact hi)) (λH sm=>{_,sm.seq ha,by rw[za];exact zm _}) ?_ ?_ ?_
 ·rintro i x H H2 hi sm ⟨rfl,hy⟩
  let hx':=hy _ (sm.seq ha);rw[zK,zd hi] at hx';cases hx';exact{(rfl),rfl}
 ·rintro n U H R N hn s1 ⟨v,rfl⟩ hR hN
  refine turn n H _ s1 λH' s'=>?_;cases q:f n with
  | true=>exact bR rfl {_,rfl,hR q _ _ _ s' cE {_,rfl}}
  | false=>exact bX rfl (hN q _ _ s' {_,rfl})
 ·intro D vs H s1 nD hD il
  rw[dS il] at hD;exact fin D H s1 nD hD
def Ux (r:Rep):Prop:=0<=r.first/\r.first<=r.last/\r.last<200/\2<=r.times/\r.times<=9/\⇑r.ends<=9/\∀e∈r.ends,r.first<=e.1/\e.1<=r.last
def lh (lo hi:Int) (n:Nat) (bs:List Int):Prop:=⇑bs<=n/\∀b∈bs,lo<=b/\b<=hi
def lh.app {lo hi:Int} {n m:Nat} {a b:List Int} (h:lh lo hi n a) (k:lh lo hi m b):lh lo hi (n+m) (a++b):=
 {by rw[zh];exact Nat.add_le_add h.1 k.1,λx hx=>(zG.mp hx).elim (h.2 x) (k.2 x)}
def lh.mono {lo hi lo' hi':Int} {n m:Nat} {a:List Int} (h:lh lo hi n a) (l:lo'<=lo) (u:hi<=hi') (k:n<=m):lh lo' hi' m a:=
 {zM h.1 k,λx hx=>{Int.le_trans l (h.2 x hx).1,Int.le_trans (h.2 x hx).2 u}}
def Kp {i j lo hi:Int} (a:lo<=i) (b:j-1<=hi) {n:Nat} (k:(j-i).toNat<=n):lh lo hi n (cG i (j-i).toNat):=by
 unfold cG;refine{by rw[za,zR];exact k,λx hx=>?_};let⟨t,ht,rfl⟩:=zH.mp hx;have:=yS.mp ht;ext
def Qc {r:Rep} (h:Ux r):⇑(dq r)<=9/\∀x∈dq r,(r.first<=x.1/\x.1<=r.last)/\r.first-1<=x.2.1/\x.2.1<=r.last:=by
 let⟨_,h2,_,_,_,h6,h7⟩:=h;unfold dq;refine{by rw[za,xC];ext,λx hx=>?_};let⟨⟨e,b⟩,hz,rfl⟩:=zH.mp hx;let⟨z1,z2⟩:=wz hz;refine{h7 e z1,?_};rcases zG.mp z2 with z | z
 ·let⟨e',he,rfl⟩:=zH.mp z
  have:=h7 e' (List.mem_of_mem_drop he);show r.first-1<=e'.1-1/\e'.1-1<=r.last;ext
 ·cases zA.mp z
  show r.first-1<=r.last+1-1/\r.last+1-1<=r.last;ext
noncomputable def rP (last:Int):List End->List (Int×Int×List Int)
 | []=>[]
 | e::es=>(e.1,(es.head?.map (·.1)).getD (last+1)-1,e.2)::rP last es
theorem EH (last:Int):∀es:List End,(es.zip ((es.drop 1).map (·.1)++[last+1])).map (λp=>(p.1.1,p.2-1,p.1.2))=rP last es
 | []=>rfl
 | [e]=>rfl
 | e::f::es=>by
  let h:=EH last (f::es);rw[rP,<-h];rfl
def rO (r:Rep):dq r=rP r.last r.ends:=EH r.last r.ends
noncomputable def CY (n:Int) (l:List (Int×Int×List Int)):List Int:=(l.map λx=>if n∈x.2.2 then cG x.1 (x.2.1+1-x.1).toNat else []).flatten
noncomputable def fo (r:Rep) (n:Int):List Int:=cG r.first (((r.ends.head?.map (·.1)).getD (r.last+1))-r.first).toNat++CY n (dq r)
noncomputable def N5 (es:List End) (n b:Int):Bool:=((es.filter λe=>decide (e.1<=b)).getLast?.map λe=>decide (n∈e.2)).getD true
noncomputable def PM (r:Rep) (n:Int):List Int:=(cG r.first (r.last+1-r.first).toNat).filter (N5 r.ends n)
def Ia {a b c:Int} (h:a<=b) (k:b<=c):cG a (c-a).toNat=cG a (b-a).toNat++cG b (c-b).toNat:=by
 unfold cG;rw[show(c-a).toNat=(b-a).toNat+(c-b).toNat from by ext,List.range_add,zk,zB]
 congr 1
 refine xA λi _=>?_;show a+(((b-a).toNat+i:Nat):Int)=b+(i:Int);ext
def jf {a c x:Int} (h:x∈cG a (c-a).toNat):a<=x/\x<c:=by
 unfold cG at h;let⟨t,ht,rfl⟩:=zH.mp h;have:=yS.mp ht;ext
theorem lT {α:Type} {f:α->Bool} {c:Bool}:∀{l:List α},(∀x∈l,f x=c)->l.filter f=if c=true then l else []
 | [],_=>by cases c <;> rfl
 | x::l,h=>by
  rw[xK,h x zr,lT λy hy=>h y (zp _ hy)];cases c <;> rfl
def Pr {pre es:List End} {e:End} {n b:Int} (h1:∀x∈pre,x.1<=b) (h2:e.1<=b) (h3:∀x∈es,b<x.1):N5 (pre++e::es) n b=decide (n∈e.2):=by
 unfold N5;rw[yY,xK,yO (zg h2),lT (l:=pre) (c:=true) λx hx=>zg (h1 x hx),lT (l:=es) (c:=false) λx hx=>ze (by have:=h3 x hx;ext)];simp
theorem LQ {last n:Int}:∀{es pre:List End} {e:End},(∀x∈pre,x.1<=e.1)->(e::es).Pairwise (λa b=>a.1<b.1)->(∀x∈e::es,x.1<=last)->
  (cG e.1 (last+1-e.1).toNat).filter (N5 (pre++e::es) n)=CY n (rP last (e::es))
 | [],pre,e,h1,h2,h3=>by
  let hl:=h3 e zr;rw[lT (c:=decide (n∈e.2)) λx hx=>Pr (λy hy=>by have:=h1 y hy;have:=jf hx;ext) (jf hx).1 (by simp)];show _=(if n∈e.2 then cG e.1 (last+1-1+1-e.1).toNat else [])++[];rw[zV,show last+1-1+1-e.1=last+1-e.1 from by ext]
  by_cases c:n∈e.2 <;> simp[c]
 | f::es,pre,e,h1,h2,h3=>by
  let⟨p1,p2⟩:=xc.mp h2;let ef:=p1 f zr;let fl:=h3 f (zp _ zr);rw[Ia (a:=e.1) (b:=f.1) (c:=last+1) () (),yY];let ih:=LQ (last:=last) (n:=n) (es:=es) (pre:=pre++[e]) (e:=f) (λx hx=>by
   rcases zG.mp hx with z | z
   ·have:=h1 x z;ext
   ·cases zA.mp z;ext) p2 λx hx=>h3 x (zp _ hx)
  rw[zF] at ih;show _=(if n∈e.2 then cG e.1 (f.1-1+1-e.1).toNat else [])++CY n (rP last (f::es));rw[<-ih]
  congr 1
  rw[lT (c:=decide (n∈e.2)) λx hx=>Pr (λy hy=>by have:=h1 y hy;have:=jf hx;ext) (jf hx).1 λy hy=>by
   let b:=(jf hx).2;rcases zD.mp hy with rfl | hy
   ·exact b
   ·have:=(xc.mp p2).1 y hy;ext]
  rw[show f.1-1+1-e.1=f.1-e.1 from by ext]
  by_cases c:n∈e.2 <;> simp[c]
def Ap {r:Rep} {n:Int} (h0:r.first<=r.last) (h2:r.ends.Pairwise λa b=>a.1<b.1) (h3:∀x∈r.ends,r.first<=x.1/\x.1<=r.last):fo r n=PM r n:=by
 unfold fo PM;rw[rO];cases q:r.ends with
 | nil=>
  show cG r.first (r.last+1-r.first).toNat++[]=_;rw[zV,lT (f:=N5 [] n) (c:=true) λx _=>rfl];rfl
 | cons e es=>
  rw[q] at h2 h3;let⟨e1,e2⟩:=h3 e zr;rw[Ia (a:=r.first) (b:=e.1) (c:=r.last+1) e1 (),yY,<-LQ (pre:=[]) (by simp) h2 λx hx=>(h3 x hx).2]
  congr 1
  show cG r.first (e.1-r.first).toNat=_;rw[lT (c:=true) λx hx=>?_]
  ·rfl
  ·unfold N5
   rw[lT (l:=e::es) (c:=false) λy hy=>ze (by
    have:=(jf hx).2;rcases zD.mp hy with rfl | hy
    ·ext
    ·have:=(xc.mp h2).1 y hy;ext)]
   rfl
theorem EI (last:Int):∀es:List End,⇑(rP last es)=⇑es
 | []=>rfl
 | e::es=>by rw[rP,zv,EI last es,zv]
def Pn {r:Rep} {n:Int} (h:⇑(dq r)=0):fo r n=cG r.first (r.last+1-r.first).toNat:=by
 unfold fo;rw[yt.mp h];rw[rO,EI] at h;rw[yt.mp h];exact zV _
def MZ {r:Rep} {n:Int} {t:Int×Int×List Int} (h:(dq r)[0]?=some t):fo r n=cG r.first (t.1-r.first).toNat++CY n (dq r):=by
 unfold fo
 congr 1
 rw[rO] at h;cases q:r.ends with
 | nil=>rw[q] at h;cases h
 | cons e es=>rw[q] at h;cases h;rfl
def MJ {n:Int} {l:List (Int×Int×List Int)} {y:Int×Int×List Int}:CY n (l++[y])=CY n l++if n∈y.2.2 then cG y.1 (y.2.1+1-y.1).toNat else []:=by
 unfold CY;rw[zk,xh];simp
def oq {a:Int} {k:Nat}:cG a (k+1)=cG a k++[a+(k:Int)]:=by unfold cG;rw[List.range_succ,zk];rfl
noncomputable def Ks (once:Bool) (r:Rep):List Int:=if once=true then fo r r.times else((cG 1 r.times.toNat).map (fo r)).flatten
noncomputable def AR (S:bH) (once:Bool) (c:Int):List Int×Int:=((S.repeats.find? λr=>decide (r.first=c)).map λr=>(Ks once r,r.last)).getD ([c],c)
noncomputable def eB (S:bH) (once:Bool) (b:Int):Nat->List (List Int×Int)×Int
 | 0=>([],b)
 | k+1=>if(eB S once b k).2<⇑S.aG then((eB S once b k).1++[AR S once (eB S once b k).2],(AR S once (eB S once b k).2).2+1) else eB S once b k
theorem Au {S:bH} {once:Bool} {b:Int} {k:Nat} (h:¬(eB S once b k).2<⇑S.aG):∀j,eB S once b (k+j)=eB S once b k
 | 0=>rfl
 | j+1=>by
  let e:=Au h j;show(if(eB S once b (k+j)).2<⇑S.aG then _ else eB S once b (k+j))=_;rw[e,yN h]
def go_eq {S:bH} {once:Bool} {b:Int} {k m:Nat} (h:¬(eB S once b k).2<⇑S.aG) (h':¬(eB S once b m).2<⇑S.aG):eB S once b k=eB S once b m:=by
 by_cases c:k<=m
 ·rw[show m=k+(m-k) from by ext,Au h]
 ·rw[show k=m+(k-m) from by ext,Au h']
def sG {S:bH} {once:Bool} (d:S.repeats.Pairwise λa b=>a.last<b.first) (l:∀r∈S.repeats,Ux r) {r:Rep} (hr:r∈S.repeats):AR S once r.first=(Ks once r,r.last):=by
 unfold AR;let h:S.repeats.find? (λx=>decide (x.first=r.first))=some r:=by
  generalize S.repeats=rs at d l hr
  induction rs with
  | nil=>cases hr
  | cons x xs ih=>
   let⟨d1,d2⟩:=xc.mp d;rw[yT];rcases zD.mp hr with rfl | hr
   ·rw[zg rfl]
   ·have:=d1 r hr
    have:=(l x zr).2.1;rw[ze ()];exact ih d2 (λy hy=>l y (zp _ hy)) hr
 rw[h];rfl
def oo {S:bH} {once:Bool} {c:Int} (h:∀r∈S.repeats,r.first≠c):AR S once c=([c],c):=by
 unfold AR;rw[xV.mpr λr hr=>by simp[h r hr]];rfl
def mZ (S:bH):Prop:=(∀r∈S.repeats,Ux r)/\⇑S.repeats<=1000/\(S.repeats.Pairwise λa b=>a.last<b.first)/\∀r∈S.repeats,r.last<⇑S.aG
def N3 (S:bH) (H:Hp) (i:Nat) (kvs:List (Key×V)):Prop:=(∀(k:Int) v,cS kvs (.inl k)=some v->∃r∈S.repeats,r.first=k/\Is H (gF r) v)/\∀r∈S.repeats.take i,cS kvs (.inl r.first)≠none
def N3.nil {S:bH} {H:Hp}:N3 S H 0 []:={λ_ _ z=>(by rw[Hf] at z;cases z),λ_ z=>by simp at z}
def N3.put {S:bH} {H:Hp} {i:Nat} {kvs:List (Key×V)} {r:Rep} {v:V} (h:N3 S H i kvs) (hr:S.repeats[i]?=some r) (iv:Is H (gF r) v):N3 S H (i+1) (putK kvs (.inl r.first) v):=by
 refine{λk u hu=>?_,λx hx z=>?_}
 ·rw[qE] at hu
  split at hu
  ·rename_i e
   cases hu;exact{r,zC hr,(Sum.inl.inj e).symm,iv}
  ·exact h.1 k u hu
 ·rw[qE] at z
  split at z
  ·cases z
  ·rename_i ne
   rw[cm hr] at hx;rcases zG.mp hx with hx | hx
   ·exact h.2 x hx z
   ·cases zA.mp hx
    exact ne rfl
def VJ (x:Int×Int):Prop:=Lu x/\x.2 ∣ 960
def QC (j:Nat) (t:Int×Int):Prop:=Lm.Rd t/\t.2 ∣ 960/\t.1<=32*j*t.2
def QR:QC 0 (0,1):={.zero,{960,rfl},∅}
def Uo {t b s M:Int} (hb:0<b) (hM:0<M) (h:t*M=s*b):(red t b).2 ∣ M:=by
 rw[Tr hb hM h];let⟨g,_,_,e,_⟩:=jh (t:=s) hM;exact{g,by rw[xE];exact e}
def SS {j:Nat} {t y:Int×Int} (h:QC j t) (hy:VJ y):QC (j+1) (Lm.add t y):=by
 let⟨h1,⟨p,ep⟩,h3⟩:=h;let⟨⟨y1,y2,y3,y4⟩,⟨q,eq⟩⟩:=hy;let⟨t0,t1,_⟩:=h1.pos;let⟨_,w1,_⟩:=y1.pos;let hb:0<t.2*y.2:=xB t1 w1;refine{h1.add y1,Uo (s:=t.1*p+y.1*q) hb ∅ ?_,?_}
 ·rw[Int.add_mul,Int.add_mul]
  congr 1
  ·rw[ep];simp only[wZ,xE,wN]
  ·rw[eq];simp only[wZ,xE,wN]
 ·let⟨g,g0,e1,e2,_⟩:=jh (t:=t.1*y.2+y.1*t.2) hb
  let a:t.1*y.2<=32*j*t.2*y.2:=wV h3 (xa w1);let b:y.1*t.2<=32*y.2*t.2:=wV () (xa t1);let c:t.1*y.2+y.1*t.2<=32*((j+1:Nat):Int)*(t.2*y.2):=by
   let e:32*((j+1:Nat):Int)*(t.2*y.2)=32*j*t.2*y.2+32*y.2*t.2:=by
    rw[Int.natCast_add,Int.mul_add,Int.add_mul]
    congr 1
    ·simp only[wZ]
    ·show 32*1*(t.2*y.2)=_
     simp only[Int.mul_one,wZ,xE t.2 y.2]
   rw[e];ext
  unfold Lm.add;generalize red (t.1*y.2+y.1*t.2) (t.2*y.2)=r at e1 e2;rw[e1,e2] at c;refine Int.le_of_mul_le_mul_left (a:=g) ?_ g0;rw[wN];exact c
def UT {j:Nat} {t:Int×Int} (h:QC j t) (hj:j<=16777216):(0<=t.1/\t.1<=515396075520)/\0<t.2/\t.2<=960:=by
 let⟨h1,h2,h3⟩:=h;let⟨t0,t1,_⟩:=h1.pos;let d:=Int.le_of_dvd ∅ h2;refine{{t0,?_},t1,d};let a:32*(j:Int)*t.2<=32*16777216*960:=wd () d (xa t1) ∅;exact Int.le_trans h3 a
noncomputable def Ht (S:bH) (l:List Nat):Int×Int:=l.foldl (λt b=>Lm.add t (S.len b)) (0,1)
def Eh (S:bH) (l:List Nat) (b:Nat):Ht S (l++[b])=Lm.add (Ht S l) (S.len b):=by unfold Ht;rw[zY];rfl
def QW {S:bH} {n:Nat} (h:∀b,b<n->VJ (S.len b)):∀{l:List Nat},(∀b∈l,b<n)->∀i,QC (min i ⇑l) (Ht S (l.take i)):=by
 intro l hl i
 induction i with
 | zero=>rw[wJ,Nat.zero_min];exact QR
 | succ i ih=>
  by_cases c:i<⇑l
  ·rw[cm (zd c),Eh,show min (i+1) ⇑l=min i ⇑l+1 from by ext]
   exact SS ih (h _ (hl _ (ym c)))
  ·rw[xy (),show min (i+1) ⇑l=min i ⇑l from by ext]
   rw[xy ()] at ih;exact ih
inductive Ak (S:bH) (l:List Nat) (H:Hp) (i:Nat) (v:V):Prop
 | mk (a q:vE) (c:Int) (b:Nat) (_:v=.ref a) (_:H a=some (.tup [.int (b:Nat),.ref q,.int c])) (_:H q=some (jL (Ht S (l.take i)))) (_:l[i]?=some b)
def Ak.mono {S:bH} {l:List Nat} {H H':Hp} (s:au H H') {i:Nat} {v:V} (h:Ak S l H i v):Ak S l H' i v:=by
 let⟨a,q,c,b,h1,h2,h3,h4⟩:=h;exact{a,q,c,b,h1,s _ _ h2,s _ _ h3,h4}
theorem Ak.upd {S:bH} {l:List Nat} {H:Hp} {D:vE} {o:HO} (hD:cg (H D)) {i:Nat} {v:V} (h:Ak S l H i v):Ak S l (L2.upd H D o) i v:=by
 let⟨a,q,c,b,h1,h2,h3,h4⟩:=h;exact{a,q,c,b,h1,by rw[aC λe=>hD _ (e▸h2)];exact h2,by rw[aC λe=>hD _ (e▸h3)];exact h3,h4}
def RE {H:Hp} {q:vE} {l:List Int} (h:H q=some (.tup (l.map V.int))):Is H (j9 l) (.ref q):=by
 refine cz h ?_;clear h
 induction l with
 | nil=>exact cD
 | cons x l ih=>exact aN cE ih
def RG {H:Hp} {l:List Int} {v:V} (h:Is H (j9 l) v):∃q,v=.ref q/\H q=some (.tup (l.map V.int)):=by
 unfold j9 Is at h;let⟨q,vs,e,hq,hl⟩:=h;rw[dS hl] at hq;exact{(q),e,hq}
def uk (S:bH):Prop:=∀r∈S.repeats,r.ends.Pairwise λa b=>a.1<b.1
def RA {r:Rep} {n:Int} (h:r.last<200) (h0:0<=r.first):⇑(PM r n)<=200:=by
 unfold PM;refine zM (xj _ _) ?_;unfold cG;rw[za,zR];ext
theorem BN {r:Rep} {lo:Int} (h:∀n,⇑(fo r n)<=200):∀i,⇑(((cG lo i).map (fo r)).flatten)<=200*i
 | 0=>zm _
 | i+1=>by
  let a:=BN (lo:=lo) h i;let b:=h (lo+(i:Int));rw[oq,zk,xh,zh];simp only[zj,yn,ya,List.flatten_nil,zV];ext
def OG {S:bH} {once:Bool} {c:Int} (h:mZ S) (c0:0<=c) (c1:c<⇑S.aG):c<=(AR S once c).2/\(AR S once c).2<⇑S.aG:=by
 unfold AR;cases q:S.repeats.find? λr=>decide (r.first=c) with
 | none=>exact{yR _,c1}
 | some r=>
  let m:=vq q;let e:=List.find?_some q;let e2:r.first=c:=ye e;let a:=(h.1 r m).2.1;let b:=h.2.2.2 r m;show c<=r.last/\r.last<⇑S.aG;ext
def K8 {K:yB} {α:Type} {p:vE} {ws:List α} {enc:α->V} {U₀:St} {g:TG} {tc:TT} {te:TE} {Q:VK} {H1:Hp} (f:α->Bool) (F:α->Dt) (Pσ:St->Prop) (hn:⇑ws<=sizeLine) (hp:H1 p=some (.tup (ws.map enc))) (h0:Pσ U₀)
  (turn:∀(a:α) (U:St) (H:Hp) (R:St->V->Hp->Prop) (N:St->Hp->Prop),a∈ws->au H1 H->Pσ U->(f a=true->∀σ3 y H5,au H H5->Is H5 (F a) y->Pσ σ3->R σ3 y H5)->(f a=false->∀σ3 H5,au H H5->Pσ σ3->N σ3 H5)->g (enc a) U H λσ3 H3=>tc σ3 H3 λb H4=>if b=true then te σ3 H4 λy H5=>R σ3 y H5 else N σ3 H4)
  (fin:∀D vs H,au H1 H->H1 D=none->H D=some (.lst vs)->aD H ((ws.filter f).map F) vs->Q (.ref D) H):cR U₀ g tc te Q (R7 K p) H1:=by
 refine lV f F Pσ hn h0 (λi H hi sm=>F5 (eQ sm hp) (by rw[za];exact hi)) (λH sm=>{_,eQ sm hp,by rw[za];exact zm _}) ?_ turn fin;rintro i x H H2 hi sm ⟨rfl,hy⟩;let hx':=hy _ (eQ sm hp);rw[zK,zd hi] at hx';cases hx';exact{(rfl),rfl}
inductive m6 (H0:Hp) (H:Hp) (x:List Int×Int) (v:V):Prop
 | mk (a q:vE) (_:v=.ref a) (_:H a=some (.tup [.ref q,.int x.2])) (_:H q=some (.lst (x.1.map V.int))) (_:H0 q=none) (_:⇑x.1<=18000)
def m6.mono {H0 H H':Hp} (s:au H H') {x:List Int×Int} {v:V} (h:m6 H0 H x v):m6 H0 H' x v:=by
 let⟨a,q,h1,h2,h3,h4,h5⟩:=h;exact{a,q,h1,s _ _ h2,s _ _ h3,h4,h5}
theorem m6.upd {H0 H:Hp} {D:vE} {o:HO} (hD:H0 D≠none) (nt:cg (H D)) {x:List Int×Int} {v:V} (h:m6 H0 H x v):m6 H0 (L2.upd H D o) x v:=by
 let⟨a,q,h1,h2,h3,h4,h5⟩:=h;exact{a,q,h1,by rw[aC λe=>nt _ (e▸h2)];exact h2,by rw[aC (show q≠D from λe=>hD (by rw[<-e];exact h4))];exact h3,h4,h5}
theorem N3.mono {S:bH} {H H':Hp} (s:au H H') {i:Nat} {kvs:List (Key×V)} (h:N3 S H i kvs):N3 S H' i kvs:=
 {λk v e=>(h.1 k v e).imp λ_ z=>{z.1,z.2.1,z.2.2.mono s},h.2}
theorem RL.zip {α:Type} {R:α->V->Prop}:∀{xs:List α} {vs:List V},RL R xs vs->∃ps:List (α×V),ps.map (·.1)=xs/\ps.map (·.2)=vs/\∀z∈ps,R z.1 z.2
 | [],_,e=>{[],rfl,by unfold RL at e;rw[e];rfl,by simp}
 | x::xs,_,⟨v,r,e,h1,h2⟩=>by
  let⟨ps,a,b,c⟩:=RL.zip h2;refine{(x,v)::ps,by rw[zj,a],by rw[zj,b,e],λz hz=>?_};rcases zD.mp hz with rfl | hz
  ·exact h1
  ·exact c z hz
def Mn (l:List Int):(l.map V.int).all Rj=true:=by rw[wj];exact yp.mpr λ_ _=>rfl
def NG {K:yB} {D:vE} {us:List V} {S:bH} {bs:List Nat} {v:Option V} {Q:VK} {H1:Hp} (hD:H1 D=some (.lst us)) (rl:RL (Ak S bs H1) (List.range ⇑bs) us) (hn:⇑bs<=12000000)
  (fin:∀D' H,au H1 H->H D'=some (.lst ((bs.map λb:Nat=>(b:Int)).map V.int))->Q (.ref D') H):cR [v] (bW 0) qF (eO (lK K) (aW 0) (tC (.int 0))) Q (GX K D) H1:=by
 let⟨ps,e1,e2,e3⟩:=rl.zip;let sl:=yC;let psl:⇑ps=⇑bs:=by rw[<-zR (n:=⇑bs),<-e1,za]
 refine eZ (enc:=λz:Nat×V=>z.2) (ws:=ps) (λz=>.int ((bs[z.1]?.getD 0:Nat):Int)) (λU=>∃v1,U=[v1]) () (by rw[e2];exact aH.of hD) {_,rfl} ?_ ?_
 ·rintro z U H R hz s ⟨v1,rfl⟩ rr
  let⟨a,q,c,b,ev,ha,hq,hb⟩:=(e3 z hz).mono s;rw[ev];exact{_,rfl,a,_,0,_,rfl,rfl,cW.of ha,bz (j:=0) rfl,rr _ _ _ (au.refl _) (by rw[hb];exact cE) {_,rfl}}
 ·intro D' vs H s h il
  let ee:ps.map (λz:Nat×V=>Dt.int ((bs[z.1]?.getD 0:Nat):Int))=(bs.map λb:Nat=>(b:Int)).map Dt.int:=by
   let e4:ps.map (λz:Nat×V=>Dt.int ((bs[z.1]?.getD 0:Nat):Int))=(List.range ⇑bs).map λi=>Dt.int ((bs[i]?.getD 0:Nat):Int):=by rw[<-e1,zB];rfl
   rw[e4];refine List.ext_getElem (by simp) λi h1 h2=>?_;simp at h1;simp[h1]
  rw[ee] at il;rw[dS il] at h;exact fin D' H s h
noncomputable def G1 (S:bH) (once:Bool) (l b:Int):Nat->List Int×Int
 | 0=>([],b)
 | k+1=>if(G1 S once l b k).2<=l then((G1 S once l b k).1++(AR S once (G1 S once l b k).2).1.filter (λt=>decide (t<=l)),(AR S once (G1 S once l b k).2).2+1) else G1 S once l b k
noncomputable def flat (rows:List (List Int×Int)):List Int:=(rows.map (·.1)).flatten
noncomputable def uH (S:bH) (once:Bool) (f:Int):List Int:=flat (eB S once f ⇑S.aG).1
def gZ (a b:List (List Int×Int)):flat (a++b)=flat a++flat b:=by unfold flat;rw[zk,xh]
def dJ (x:List Int×Int) (b:List (List Int×Int)):flat (x::b)=x.1++flat b:=by unfold flat;rw[zj,ya]
theorem P0 {S:bH} {once:Bool} {f:Int} (h:mZ S) (f0:0<=f):∀k:Nat,0<=(eB S once f k).2/\(f+k<=(eB S once f k).2\/⇑S.aG<=(eB S once f k).2)
 | 0=>{f0,.inl (by show f+0<=f;ext)}
 | k+1=>by
  let⟨a,b⟩:=P0 (once:=once) h f0 k;rw[eB];split
  ·rename_i c
   have:=(OG (once:=once) h a c).1;exact{by show 0<=_+1;ext,.inl (by show _<=_+1;ext)}
  ·exact{a,.inr ()}
def Av {S:bH} {once:Bool} {f:Int} (h:mZ S) (f0:0<=f):¬(eB S once f ⇑S.aG).2<⇑S.aG:=by
 have:=(P0 (once:=once) h f0 ⇑S.aG).2;ext
def Tq {r:Rep} {once:Bool} (h:Ux r) (e:r.ends.Pairwise λa b=>a.1<b.1) {b:Int} (hb:b∈Ks once r):r.first<=b/\b<=r.last:=by
 let key:∀n,b∈fo r n->r.first<=b/\b<=r.last:=λn z=>by
  rw[Ap h.2.1 e h.2.2.2.2.2.2] at z;have:=jf (wA.mp z).1;ext
 unfold Ks at hb;split at hb
 ·exact key _ hb
 ·let⟨l,hl,hbl⟩:=wm.mp hb
  let⟨n,_,rfl⟩:=zH.mp hl;exact key n hbl
def LM {S:bH} {once:Bool} {c:Int} (h:mZ S) (e:uk S) {b:Int} (hb:b∈(AR S once c).1):c<=b/\b<=(AR S once c).2:=by
 by_cases ex:∃r∈S.repeats,r.first=c
 ·let⟨r,hr,rfl⟩:=ex
  rw[sG h.2.2.1 h.1 hr] at hb ⊢;exact Tq (h.1 r hr) (e r hr) hb
 ·rw[oo λr hr z=>ex {(r),hr,z}] at hb ⊢
  cases zA.mp hb;exact{yR _,yR _}
def Am:Int->List (List Int×Int)->Prop
 | _,[]=>True
 | c,x::r=>(∀b∈x.1,c<=b/\b<=x.2)/\c<=x.2/\Am (x.2+1) r
noncomputable def eP:Int->List (List Int×Int)->Int
 | c,[]=>c
 | _,x::r=>eP (x.2+1) r
theorem Mc {x:List Int×Int}:∀{l:List (List Int×Int)} {c:Int},eP c (l++[x])=x.2+1
 | [],_=>rfl
 | y::l,_=>Mc (l:=l) (c:=y.2+1)
theorem Am.snoc {x:List Int×Int}:∀{l:List (List Int×Int)} {c:Int},Am c l->(∀b∈x.1,eP c l<=b/\b<=x.2)->eP c l<=x.2->Am c (l++[x])
 | [],_,_,h1,h2=>{(h1),h2,trivial}
 | _::_,_,⟨a,b,d⟩,h1,h2=>{a,b,Am.snoc d h1 h2}
theorem Am.app {B:List (List Int×Int)}:∀{A:List (List Int×Int)} {c:Int},Am c (A++B)->Am (eP c A) B
 | [],_,h=>h
 | _::A,_,⟨_,_,d⟩=>Am.app (A:=A) d
theorem Am.lo:∀{l:List (List Int×Int)} {c:Int},Am c l->∀b∈flat l,c<=b
 | [],_,_,b,hb=>by cases hb
 | x::l,c,⟨h1,h2,h3⟩,b,hb=>by
  rw[dJ] at hb;rcases zG.mp hb with z | z
  ·exact(h1 b z).1
  ·have:=Am.lo h3 b z;ext
theorem Am.get:∀{l:List (List Int×Int)} {c:Int} {i:Nat} {x:List Int×Int},Am c l->l[i]?=some x->c<=x.2
 | [],_,_,_,_,hx=>by simp at hx
 | y::l,c,0,x,⟨_,h2,_⟩,hx=>by cases hx;exact h2
 | y::l,c,i+1,x,⟨_,h2,h3⟩,hx=>by
  have:=Am.get (l:=l) (i:=i) h3 hx;ext
def F9 {l:List Int} {a:Int} (h:∀b∈l,a<b):l.filter (λt=>decide (t<=a))=[]:=(lT (c:=false) λb hb=>ze (by have:=h b hb;ext)).trans rfl
def F8 {l:List Int} {a:Int} (h:∀b∈l,b<=a):l.filter (λt=>decide (t<=a))=l:=List.filter_eq_self.mpr λb hb=>zg (h b hb)
theorem Am.Vu:∀{l:List (List Int×Int)} {c:Int} {i:Nat} {x:List Int×Int},Am c l->l[i]?=some x->(flat l).filter (λt=>decide (t<=x.2))=flat (l.take (i+1))
 | [],_,_,_,_,hx=>by simp at hx
 | y::l,c,0,x,⟨h1,h2,h3⟩,hx=>by
  cases hx;rw[dJ,yY,F8 λb hb=>(h1 b hb).2,F9 λb hb=>by have:=Am.lo h3 b hb;ext];show _=flat [y];rw[dJ];rfl
 | y::l,c,i+1,x,⟨h1,h2,h3⟩,hx=>by
  let g:=Am.get (l:=l) (i:=i) h3 hx;rw[dJ,yY,F8 λb hb=>by have:=(h1 b hb).2;ext,Am.Vu (l:=l) (i:=i) h3 hx];show _=flat (y::l.take (i+1));rw[dJ]
theorem Am.pair:∀{l:List (List Int×Int)} {c:Int},Am c l->(∀x∈l,x.1.Pairwise (·<·))->(flat l).Pairwise (·<·)
 | [],_,_,_=>List.Pairwise.nil
 | x::l,c,⟨h1,h2,h3⟩,h=>by
  rw[dJ];refine zU.mpr {h x zr,Am.pair h3 λy hy=>h y (zp _ hy),λa ha b hb=>?_};have:=(h1 a ha).2;have:=Am.lo h3 b hb;ext
theorem tP {S:bH} {once:Bool} {f:Int} (h:mZ S) (e:uk S) (f0:0<=f):∀k:Nat,Am f (eB S once f k).1/\eP f (eB S once f k).1=(eB S once f k).2/\∀b∈flat (eB S once f k).1,b<⇑S.aG
 | 0=>{trivial,rfl,λb hb=>by cases hb}
 | k+1=>by
  let⟨i1,i2,i3⟩:=tP (once:=once) h e f0 k;let g0:=(P0 (once:=once) h f0 k).1;rw[eB];split
  ·rename_i c
   let⟨a1,a2⟩:=OG (once:=once) h g0 c;refine{i1.snoc (by rw[i2];exact λb hb=>LM h e hb) (by rw[i2];exact a1),Mc,λb hb=>?_};rw[gZ] at hb;rcases zG.mp hb with z | z
   ·exact i3 b z
   ·rw[dJ] at z
    rcases zG.mp z with z | z
    ·have:=(LM h e z).2;ext
    ·cases z
  ·exact{(i1),i2,i3}
theorem P1 {S:bH} {once:Bool} {f:Int} (i:Nat):∀j:Nat,∃rest,(eB S once f (i+j)).1=(eB S once f i).1++rest
 | 0=>{[],(zV _).symm}
 | j+1=>by
  let⟨rest,e⟩:=P1 (S:=S) (once:=once) (f:=f) i j;show∃rest,(eB S once f (i+j+1)).1=_;rw[eB];split
  ·exact{rest++[_],by rw[e,zF]}
  ·exact{(rest),e}
theorem PZ {S:bH} {once:Bool} {f l:Int} (hl:l<⇑S.aG):∀m:Nat,∃i,(G1 S once l f m).2=(eB S once f i).2/\(G1 S once l f m).1=(flat (eB S once f i).1).filter (λt=>decide (t<=l))
 | 0=>{0,rfl,rfl}
 | m+1=>by
  let⟨i,e1,e2⟩:=PZ (once:=once) (f:=f) hl m;rw[G1];split
  ·rename_i c
   rw[e1] at c;refine{i+1,?_,?_}
   ·rw[eB,yO (),e1]
   ·rw[eB,yO (),e1,e2,gZ,yY,dJ]
    show _++_=_++List.filter _ (_++[]);rw[zV]
  ·exact{(i),e1,e2}
def PY {S:bH} {once:Bool} {f l:Int} (h:mZ S) (e:uk S) (f0:0<=f) (hl:l<⇑S.aG) {m:Nat} (hm:l<(G1 S once l f m).2):(G1 S once l f m).1=(uH S once f).filter (λt=>decide (t<=l)):=by
 let⟨i,e1,e2⟩:=PZ (once:=once) (f:=f) hl m;rw[e2];unfold uH;rw[<-Au (Av h f0) i,Nat.add_comm];let⟨rest,er⟩:=P1 (S:=S) (once:=once) (f:=f) i ⇑S.aG;let⟨c1,_,_⟩:=tP (once:=once) h e f0 (i+⇑S.aG);let⟨_,c2,_⟩:=tP (once:=once) h e f0 i;rw[er] at c1 ⊢;let c3:=c1.app;rw[c2,<-e1] at c3;rw[gZ,yY,F9 (l:=flat rest) λb hb=>by have:=c3.lo b hb;ext,zV]
def L9 {S:bH} {once:Bool} {f:Int} (h:mZ S) (e:uk S) (f0:0<=f):(uH S once f).filter (λt=>decide (t<=(⇑S.aG:Int)-1))=uH S once f:=
 F8 λb hb=>by have:=(tP (once:=once) h e f0 ⇑S.aG).2.2 b hb;ext
theorem Bh {b:Int}:∀{rs:List Rep},(rs.Pairwise λa b=>a.last<b.first)->∀{r r':Rep},r∈rs->r'∈rs->(r.first<=b/\b<=r.last)->(r'.first<=b/\b<=r'.last)->r=r'
 | [],_,_,_,hr,_,_,_=>by cases hr
 | x::rs,d,r,r',hr,hr',h,h'=>by
  let⟨d1,d2⟩:=xc.mp d;rcases zD.mp hr with e | hr
  ·rcases zD.mp hr' with e' | hr'
   ·rw[e,e']
   ·have:=d1 r' hr';rw[e] at h;ext
  ·rcases zD.mp hr' with e' | hr'
   ·have:=d1 r hr;rw[e'] at h';ext
   ·exact Bh d2 hr hr' h h'
def HZ {rs:List Rep} (d:rs.Pairwise λa b=>a.last<b.first) {r:Rep} (hr:r∈rs) {b:Int} (h:r.first<=b/\b<=r.last):du rs b=some r:=by
 unfold du;cases q:rs.find? λr=>decide (r.first<=b)&&decide (b<=r.last) with
 | none=>have:=xV.mp q r hr;simp[h.1,h.2] at this
 | some x=>
  let m:=vq q;let e:=List.find?_some q;simp only[zO,xF] at e;rw[Bh d m hr e h]
theorem tL {S:bH} (h:mZ S) {b:Int} (b0:0<=b) (hb:eG S.repeats b=true):∀k:Nat,b<(eB S false 0 k).2->∃x∈(eB S false 0 k).1,x.2=b
 | 0,hk=>by have:b<0:=hk;ext
 | k+1,hk=>by
  rw[eB] at hk ⊢;split at hk
  ·rename_i c
   rw[yO c]
   by_cases c1:b<(eB S false 0 k).2
   ·let⟨x,hx,e⟩:=tL h b0 hb k c1
    exact{x,zJ _ hx,e}
   ·refine{_,zI _ (zA.mpr rfl),?_}
    let hk:b<(AR S false (eB S false 0 k).2).2+1:=hk
    by_cases ex:∃r∈S.repeats,r.first=(eB S false 0 k).2
    ·let⟨r,hr,e⟩:=ex
     rw[<-e,sG h.2.2.1 h.1 hr] at hk ⊢;let hk:b<r.last+1:=hk;unfold eG at hb;rw[HZ h.2.2.1 hr (b:=b) {(()),()}] at hb;exact(ye hb).symm
    ·rw[oo λr hr z=>ex {(r),hr,z}] at hk ⊢
     let hk:b<(eB S false 0 k).2+1:=hk;show(eB S false 0 k).2=b;ext
  ·rename_i c
   rw[yN c];exact tL h b0 hb k hk
theorem Jg {last b:Int}:∀{es:List End} {e:End},e.1<=b->b<=last->∃x∈rP last (e::es),x.1<=b/\b<=x.2.1
 | [],e,h1,h2=>{_,zA.mpr rfl,h1,by show b<=last+1-1;ext}
 | f::es,e,h1,h2=>by
  by_cases c:f.1<=b
  ·let⟨x,hx,z⟩:=Jg (es:=es) c h2
   exact{x,zp _ hx,z}
  ·exact{_,zr,h1,by show b<=f.1-1;ext}
def BH {r:Rep} {b:Int} (h1:r.first<=b) (h2:b<=r.last) (h:∀e∈dq r,¬(e.1<=b/\b<=e.2.1/\r.times∉e.2.2)):b∈fo r r.times:=by
 unfold fo;rw[rO] at h ⊢;cases q:r.ends with
 | nil=>
  refine zJ _ ?_;show b∈cG r.first (r.last+1-r.first).toNat;unfold cG;exact zH.mpr {(b-r.first).toNat,yS.mpr (),()}
 | cons e es=>
  rw[q] at h
  by_cases c:e.1<=b
  ·let⟨x,hx,x1,x2⟩:=Jg (es:=es) c h2
   refine zI _ ?_;unfold CY;refine wm.mpr {_,zP hx,?_};have:r.times∈x.2.2:=Decidable.byContradiction λz=>h x hx {(x1),x2,z};rw[yO this];unfold cG;exact zH.mpr {(b-x.1).toNat,yS.mpr (),()}
  ·refine zJ _ ?_
   show b∈cG r.first (e.1-r.first).toNat;unfold cG;exact zH.mpr {(b-r.first).toNat,yS.mpr (),()}
theorem Hi {S:bH} {f b:Int} (h:mZ S) (ent:dn S.repeats f=true) (hl:ig S.repeats b=true) (fb:f<=b):∀k:Nat,(∀r∈S.repeats,¬(r.first<(eB S true f k).2/\(eB S true f k).2<=r.last))/\(b<(eB S true f k).2->b∈flat (eB S true f k).1)
 | 0=>by
  refine{λr hr z=>?_,λz=>by have:b<f:=z;ext};let z:r.first<f/\f<=r.last:=z;unfold dn at ent;rw[HZ h.2.2.1 hr (b:=f) {(()),z.2}] at ent;have:=ye ent;ext
 | k+1=>by
  let⟨i1,i2⟩:=Hi h ent hl fb k;rw[eB];split
  ·rename_i c
   by_cases ex:∃r∈S.repeats,r.first=(eB S true f k).2
   ·let⟨r,hr,e⟩:=ex
    rw[<-e] at i2 ⊢;rw[sG h.2.2.1 h.1 hr];let⟨r1,r2,_⟩:=h.1 r hr;refine{λx hx z=>?_,λz=>?_}
    ·let z:x.first<r.last+1/\r.last+1<=x.last:=z
     have:=Bh h.2.2.1 hx hr (b:=r.last) {(()),()} {(r2),()};rw[this] at z;ext
    ·let z:b<r.last+1:=z
     rw[gZ]
     by_cases c1:b<r.first
     ·exact zJ _ (i2 c1)
     ·refine zI _ ?_
      rw[dJ];refine zJ _ (BH () () λe' he w=>?_);unfold ig at hl;have:=yp.mp (yp.mp hl r hr) e' he;simp[w.1,w.2.1,w.2.2] at this
   ·let nr:∀r∈S.repeats,r.first≠(eB S true f k).2:=λr hr z=>ex {(r),hr,z}
    rw[oo nr];refine{λx hx z=>?_,λz=>?_}
    ·let z:x.first<(eB S true f k).2+1/\(eB S true f k).2+1<=x.last:=z
     have:=i1 x hx;have:=nr x hx;ext
    ·let z:b<(eB S true f k).2+1:=z
     rw[gZ]
     by_cases c1:b<(eB S true f k).2
     ·exact zJ _ (i2 c1)
     ·refine zI _ (by rw[dJ];exact zJ _ (zA.mpr ()))
  ·exact{(i1),i2}
def Ud {S:bH} {f:Int} (h:mZ S) (e:uk S) (f0:0<=f):(uH S true f).Pairwise (·<·):=by
 let key:∀k:Nat,∀x∈(eB S true f k).1,x.1.Pairwise (·<·):=by
  intro k
  induction k with
  | zero=>intro x hx;cases hx
  | succ k ih=>
   intro x hx;rw[eB] at hx;split at hx
   ·rcases zG.mp hx with z | z
    ·exact ih x z
    ·rw[zA.mp z]
     by_cases ex:∃r∈S.repeats,r.first=(eB S true f k).2
     ·let⟨r,hr,e2⟩:=ex
      let⟨r1,r2,r3,r4,r5,r6,r7⟩:=h.1 r hr;rw[<-e2,sG h.2.2.1 h.1 hr];show(fo r r.times).Pairwise _;rw[Ap r2 (e r hr) r7];refine List.Pairwise.filter _ ?_;unfold cG;exact List.Pairwise.map _ (λx y (z:x<y)=>()) List.pairwise_lt_range
     ·rw[oo λr hr z=>ex {(r),hr,z}]
      exact List.pairwise_singleton _ _
   ·exact ih x hx
 exact(tP h e f0 ⇑S.aG).1.pair (key _)
theorem Hm {u:Int}:∀{l:List Int},l.Pairwise (·<·)->u∈l->l.take (l.idxOf u+1)=l.filter (λt=>decide (t<=u))
 | [],_,h=>by cases h
 | x::l,d,h=>by
  let⟨d1,d2⟩:=xc.mp d;rw[List.idxOf_cons]
  by_cases c:x=u
  ·rw[c,xK,yO (zg (yR _)),F9 λb hb=>by have:=d1 b hb;ext]
   simp
  ·let hu:u∈l:=(zD.mp h).resolve_left λz=>c z.symm
   have:=d1 u hu;rw[show(x == u)=false from xG.mpr c,xK,yO (zg ()),<-Hm d2 hu];rfl
noncomputable def CJ (S:bH):List Int:=match S.bC with
 | none=>uH S false 0
 | some j=>(uH S false 0).filter (λt=>decide (t<=j.mT))++(uH S true j.kO).filter (λt=>decide (t<=j.bS))++(match j.fh with | none=>[] | some c=>uH S true c)
inductive Tv (x:V) (vs:List V) (H:Hp) (Q:VK):Prop
 | mk (l:vE) (ns:List Int) (k:Int) (_:x=.ref l) (_:vs=[.int k]) (_:H l=some (.lst (ns.map V.int))) (_:k∈ns) (_:Q (.int (ns.idxOf k:Nat)) H)
def Px {X:Cx}:R5 X "list.index" Tv:=by
 intro pins s U H x vs v us Q I rx rv h;let⟨l,ns,k,rfl,rfl,hH,hk,q⟩:=h;cases rx;let⟨u,rfl,t,rfl⟩:=rv.one;let⟨z,its,n,r,hl,e⟩:=I.M6 hH;let sl:=yC;let hi:=intsAre_of r;let hj:ns.idxOf k<⇑ns:=List.idxOf_lt_length_iff.mpr hk;rw[za] at z hl;refine wB PySem.F.slot_list_index {_,e,rfl} PySem.F.entry_list_index (PySem.F.args_list_index_2 _ _)
  (PySem.SeqAt.list_indexAt l its.toArray n none #[] (.int k t) (PyProof.Rows.isInt k) (ns.idxOf k) (by rw[yb];ext) () ?_ ?_) {e,λy hy=>(PyProof.Rows.eq_isInt k t hi y (by simpa using hy)).at _ _,.int _,H,I.tok _,{_,rfl},q}
 ·show PyProof.Rows.isInt k its[ns.idxOf k]=true
  rw[PyProof.Rows.isInt_at k hi _ () hj]
  simpa using List.getElem_idxOf hj
 ·intro j hjs hlt
  show PyProof.Rows.isInt k its[j]=false;rw[PyProof.Rows.isInt_at k hi j (by simpa using hjs) ()];exact PyProof.Rows.ne_of_lt_idxOf hlt _
def NH {lo:Int} {n:Nat} {U₀:St} {g:TG} {te:TE} {Q:VK} {H1:Hp} (R:Hp->V->Prop) (mono:∀H H' v,au H H'->R H v->R H' v) (Pσ:St->Prop) (h0:Pσ U₀) (hn:n<=sizeLine)
  (turn:∀(i:Nat) (U:St) (H:Hp) (Z:St->V->Hp->Prop),i<n->au H1 H->Pσ U->(∀σ3 y H5,au H H5->R H5 y->Pσ σ3->Z σ3 y H5)->g (.int (lo+i)) U H λσ3 H3=>te σ3 H3 λy H5=>Z σ3 y H5)
  (fin:∀D vs H,au H1 H->H1 D=none->H D=some (.lst vs)->⇑vs=n->(∀v∈vs,R H v)->Q (.ref D) H):cR U₀ g qF te Q (Lw lo n) H1:=by
 refine{λi m xs U H=>m=n-i/\i<=n/\⇑xs=i/\au H1 H/\(∀v∈xs,R H v)/\Pσ U,{_,rfl,yg _,rfl,au.refl _,by simp,h0},?_};rintro i m xs U H ⟨rfl,hi,hx,sm,il,pσ⟩;rcases xI i n with hlt | hge
 ·refine .inr {hlt,(),?_}
  rintro x H2 ⟨rfl,rfl⟩;refine turn i U _ (λσ3 y H5=>if true=true then∃m',m'<n-i/\(m'=n-(i+1)/\i+1<=n/\⇑(xs++[y])=i+1/\au H1 H5/\(∀v∈xs++[y],R H5 v)/\Pσ σ3) else False) hlt sm pσ ?_;rintro σ3 y H5 s5 iy p3;rw[yO rfl];refine{_,(),rfl,hlt,by simp[hx],sm.trans s5,λv hv=>?_,p3};rcases zG.mp hv with z | z
  ·exact mono _ _ _ s5 (il v z)
  ·rw[zA.mp z];exact iy
 ·let e:i=n:=()
  subst e;refine .inl {zm _,(),λD hD=>?_};exact fin D xs _ (sm.trans (aY hD)) (sm.back hD) aB hx λv hv=>mono _ _ _ (aY hD) (il v hv)
def gC {K:yB} {a:vE} {xs:List V} {g:TG} {tb:TS} {D:Ends} {U:St} {H:Hp} (Pv:Nat->St->Hp->Prop) (h0:Pv 0 U H) (hl:∀i U H,i<=⇑xs->Pv i U H->aH K H a xs)
  (hs:∀(N:Ends) (i:Nat) (x:V) (U:St) (H:Hp),(∀U' H',Pv (i+1) U' H'->N.nx U' H')->xs[i]?=some x->Pv i U H->g x U H λσ2 H2=>tb N σ2 H2) (hd:∀U H,Pv ⇑xs U H->D.nx U H) :
  ∃W:Nat->Nat->St->Hp->Prop,(∃m,W 0 m U H)/\∀i m U H,W i m U H->
   (((GX K a).stop i H/\D.nx U H)\/((GX K a).go i H/\∃N:St->Hp->Prop,(∀U' H',N U' H'->∃m',m'<m/\W (i+1) m' U' H')/\∀x H',(GX K a).JV i H x H'->g x U H' λσ2 H2=>tb {D with nx:=N,ct:=N,bk:=D.nx} σ2 H2)):=eL Pv h0 hl (λi x U H hx p=>hs _ i x U H (λ_ _ z=>z) hx p) hd
def pW {lo:Int} {n:Nat} {g:TG} {tb:TS} {D:Ends} {U:St} {H:Hp} (Pv:Nat->St->Hp->Prop) (h0:Pv 0 U H)
  (hs:∀(N:Ends) (i:Nat) (U:St) (H:Hp),(∀U' H',Pv (i+1) U' H'->N.nx U' H')->i<n->Pv i U H->g (.int (lo+i)) U H λσ2 H2=>tb N σ2 H2) (hd:∀U H,Pv n U H->D.nx U H) :
  ∃W:Nat->Nat->St->Hp->Prop,(∃m,W 0 m U H)/\∀i m U H,W i m U H->
   (((Lw lo n).stop i H/\D.nx U H)\/((Lw lo n).go i H/\∃N:St->Hp->Prop,(∀U' H',N U' H'->∃m',m'<m/\W (i+1) m' U' H')/\∀x H',(Lw lo n).JV i H x H'->g x U H' λσ2 H2=>tb {D with nx:=N,ct:=N,bk:=D.nx} σ2 H2)):=gB Pv h0 (λi U H hi p=>hs _ i U H (λ_ _ z=>z) hi p) hd
end Sc
namespace K22
open PySem L2 Lm Sc
def top (i:Nat):Stmt:=PySem.Challenge.pw_partsmith_k19_played_with_a_jump.main.body.getD i (.Pass {0,0,0,0})
abbrev C8:=top 6
abbrev C5:=top 7
abbrev sP:=top 10
abbrev Dc:=top 11
abbrev Q5:=top 12
abbrev ML:=top 13
abbrev oZ:=top 14
abbrev Fp:=top 20
abbrev pF:=top 21
abbrev HM:=top 22
abbrev Kg:=top 32
abbrev Km:=top 33
abbrev HK:=top 34
abbrev Fo:=top 35
abbrev C3:=top 36
abbrev HJ:=top 37
abbrev HI:=top 38
abbrev Fs:=top 39
abbrev Kh:=top 40
abbrev Ki:=top 41
abbrev C7:=top 42
abbrev qO:=top 43
abbrev Fm:=top 44
abbrev Kj:=top 45
abbrev C4:=top 46
abbrev HN:=top 47
abbrev Fq:=top 48
abbrev C6:=top 49
abbrev HL:=top 50
abbrev uX:=top 52
abbrev pE:=top 53
abbrev MM:=top 54
abbrev Kl:=top 55
abbrev C2:=top 56
abbrev A0:=top 57
abbrev HP:=top 58
abbrev HQ:=top 59
abbrev A5:=top 60
abbrev HS:=top 61
abbrev HR:=top 62
abbrev A3:=top 71
abbrev C0:=top 72
abbrev A4:=top 73
abbrev Kk:=top 74
abbrev A2:=top 75
abbrev pG:=top 76
abbrev C1:=top 77
abbrev HU:=top 78
abbrev AZ:=top 79
abbrev Fu:=top 80
abbrev C9:=top 81
abbrev A1:=top 82
abbrev Ft:=top 83
abbrev pH:=top 85
abbrev Kn:=top 86
abbrev MN:=top 87
abbrev Fn:=top 88
abbrev A6:=top 90
abbrev sQ:=top 91
abbrev OM:=top 92
abbrev Fl:=top 93
abbrev ON:=top 94
abbrev Bb:=top 96
abbrev Fw:=top 97
abbrev u9:=top 98
abbrev De:=top 99
abbrev uZ:=top 100
abbrev vG:=top 101
abbrev Bc:=top 102
abbrev sS:=top 103
abbrev vH:=top 104
abbrev u7:=top 105
abbrev Ba:=top 106
abbrev qR:=top 107
abbrev A8:=top 108
abbrev Fx:=top 109
abbrev A9:=top 110
abbrev mR:=top 111
abbrev sR:=top 112
abbrev uY:=top 113
abbrev pJ:=top 114
abbrev sT:=top 115
abbrev pI:=top 116
abbrev sU:=top 117
abbrev qQ:=top 118
abbrev qP:=top 119
abbrev HV:=top 120
abbrev A7:=top 121
abbrev Dd:=top 122
abbrev Fv:=top 123
abbrev U5:=top 124
abbrev qS:=inClass (top 70) 0
structure Df (K:yB) (mg:Str->Option vy) (x:Str) (st:Stmt) (a:vE) (d:vD) (ps:List Str):Prop where
 F:QH K x x st a d
 g:mg x=some (.ref a)
 b:Binds K d ps []
structure Xn (K:yB) (x y:Str) (st:Stmt) (a:vE) (d:vD) (ps:List Str):Prop where
 F:QH K x y st a d
 b:Binds K d ps []
set_option genInjectivity false in
set_option genSizeOf false in
structure Txt (K:yB) (mg:Str->Option vy) where
 (DW DV ua DX R3 NS kz GL qi JK Li Lp JJ GK DU JI JH GN Lj Lk gP d9 iR lY gN kb iS gO ka Ad Cp NT Ln DT Co JL JM Cs JO JN Cq DS Cr Ll gn dX gM kc gi iU gQ gj iT Ct Lq NU GJ Cu uc QA GI QB CA GP Ah DZ Af Ai CB ue Aj Ag Cz sj Cw GQ Cy mY ud Ae qo uf qk ug si sg JP Cv DY GO VF lZ lX jE dZ iY qW:vE)
 (DH DB tS DJ RV Ny kr Gj pY Js KW K5 Jq Gi Dy Jp Jo Gm KZ K0 DD rR Gg K1 DA Jt Gk DC Jr vV KY NC K4 Dw BX Ju Jv B3 Jx Jw B0 Du B1 K2 BZ pZ Dv Jy BW Gp DI BY Gn K3 K6 ND Gh B4 tT Ql Gf Qm B9 Gr vZ DL vX v8 Ca tV Aa vY B8 rV B6 Gs B7 mW tU vW qg tW qd tX rT rS Jz B5 DK Gq Qn rW:vD)
 (MC sE CK AJ CL uM EY AM sD AN uN AO EZ AL pj Hn E2 E1 AK:Tok)
 dy:Df K mg "read_number" C8 DW DH ["text","most"]
 fJ:Df K mg "read_signed" C5 DV DB ["text","most"]
 gg:Df K mg "common_divisor" sP ua tS ["one","other"]
 eI:Df K mg "made_length" Dc DX DJ ["top","bottom"]
 added:Df K mg "added" Q5 R3 RV ["one","other"]
 Fj:Df K mg "shorter" ML NS Ny ["one","other"]
 eF:Df K mg "read_length" oZ kz kr ["text"]
 ji:Df K mg "read_pitch" Fp GL Gj ["fifths_text","steps_text"]
 dI:Df K mg "read_item_length" pF qi pY ["text"]
 sX:Df K mg "read_item" HM JK Js ["text"]
 words_of:Df K mg "words_of" Kg Li KW ["row"]
 dr:Df K mg "all_read" Km Lp K5 ["values"]
 eR:Df K mg "read_name" HK JJ Jq ["word"]
 cT:Df K mg "read_plain" Fo GK Gi ["word"]
 jQ:Df K mg "read_within" C3 DU Dy ["word","lowest","highest"]
 sW:Df K mg "read_time" HJ JI Jp ["word"]
 sV:Df K mg "read_turn" HI JH Jo ["fifths_word","steps_word"]
 pN:Df K mg "read_metre" Fs GN Gm ["word"]
 Bm:Df K mg "read_key" Kh Lj KZ ["word"]
 Bo:Df K mg "read_end" Ki Lk K0 ["word"]
 jT:Df K mg "read_player" C7 gP DD ["words"]
 fF:Df K mg "read_instrument" qO d9 rR ["words"]
 lG:Df K mg "read_staff" Fm iR Gg ["words"]
 qV:Df K mg "read_bar" Kj lY K1 ["words"]
 jR:Df K mg "read_upbeat" C4 gN DA ["words"]
 oy:Df K mg "read_hold" HN kb Jt ["words"]
 lH:Df K mg "read_notes" Fq iS Gk ["words"]
 jS:Df K mg "read_repeat" C6 gO DC ["words"]
 ox:Df K mg "read_jump" HL ka Jr ["words"]
 km:Df K mg "is_score_word" uX Ad vV ["word"]
 Bl:Df K mg "read_row" pE Cp KY ["words"]
 Ax:Df K mg "ends_of" MM NT NC ["repeat"]
 BQ:Df K mg "ends_fit" Kl Ln K4 ["repeat"]
 nH:Df K mg "repeat_fits" C2 DT Dw ["repeats","repeat"]
 iE:Df K mg "repeat_round" A0 Co BX ["repeats","bar"]
 tJ:Df K mg "may_leave" HP JL Ju ["repeats","bar"]
 oE:Df K mg "may_enter" HQ JM Jv ["repeats","bar"]
 iO:Df K mg "in_last_pass" A5 Cs B3 ["repeats","bar"]
 tY:Df K mg "coda_fits" HS JO Jx ["repeats","at","coda"]
 tO:Df K mg "jump_fits" HR JN Jw ["repeats","jump"]
 iI:Df K mg "metre_length" A3 Cq B0 ["score","bar"]
 jN:Df K mg "told_length" C0 DS Du ["score","bar"]
 lR:Df K mg "items_length" A4 Cr B1 ["items"]
 kR:Df K mg "has_bars" Kk Ll K2 ["score","bars"]
 iG:Df K mg "player_fault" A2 gn BZ ["score","player"]
 eY:Df K mg "instrument_fault" pG dX pZ ["score","told"]
 gR:Df K mg "staff_fault" C1 gM Dv ["score","told"]
 oM:Df K mg "bar_fault" HU kc Jy ["score","told"]
 fQ:Df K mg "upbeat_fault" AZ gi BW ["score","length"]
 lS:Df K mg "hold_fault" Fu iU Gp ["score","told"]
 jV:Df K mg "notes_fault" C9 gQ DI ["score","told"]
 iF:Df K mg "repeat_fault" A1 gj BY ["score","repeat"]
 lP:Df K mg "jump_fault" Ft iT Gn ["score","jump"]
 BP:Df K mg "fault_of" pH Ct K3 ["score","sort","told"]
 Cn:Df K mg "add_hold" Kn Lq K6 ["score","told"]
 GH:Df K mg "add_row" MN NU ND ["score","sort","told"]
 pM:Df K mg "read_score" Fn GJ Gh ["text"]
 iQ:Df K mg "bars_of_pass" A6 Cu B4 ["repeat","number"]
 jF:Df K mg "bars_of_repeat" sQ uc tT ["repeat","once"]
 walked:Df K mg "walked" OM QA Ql ["score","first","last","once"]
 pf:Df K mg "taken_bars" Fl GI Gf ["score"]
 Kv:Df K mg "played" ON QB Qm ["score"]
 cb:Df K mg "_law_cell_at" Bb CA B9 ["_law_script","_law_k"]
 cB:Df K mg "_law_mixed" Fw GP Gr ["_law_cell","_law_k"]
 d6:Df K mg "_law_names_by" u9 Ah vZ ["_law_cell","_law_many"]
 fN:Df K mg "_law_lowest" De DZ DL ["_law_top","_law_bottom"]
 kB:Df K mg "_law_pitch_by" uZ Af vX ["_law_m"]
 kD:Df K mg "_law_items_by" vG Ai v8 ["_law_m","_law_length"]
 md:Df K mg "_law_bars_by" Bc CB Ca ["_law_cell","_law_many"]
 jI:Df K mg "_law_length_of" sS ue tV ["_law_bars","_law_upbeat","_law_bar"]
 kE:Df K mg "_law_holds_by" vH Aj Aa ["_law_cell","_law_players","_law_instruments","_law_many"]
 kC:Df K mg "_law_notes_by" u7 Ag vY ["_law_cell","_law_players","_law_bars","_law_upbeat"]
 ma:Df K mg "_law_ends_by" Ba Cz B8 ["_law_m","_law_first","_law_last","_law_times"]
 iA:Df K mg "_law_repeats_by" qR sj rV ["_law_cell","_law_many"]
 iV:Df K mg "_law_lasting" A8 Cw B6 ["_law_repeats","_law_bar"]
 l8:Df K mg "_law_inner" Fx GQ Gs ["_law_repeats","_law_bar"]
 iW:Df K mg "_law_jump_by" A9 Cy B7 ["_law_cell","_law_many","_law_repeats"]
 fi:Df K mg "_law_instruments_by" mR mY mW ["_law_cell"]
 jH:Df K mg "_law_staffs_by" sR ud tU ["_law_cell","_law_players"]
 kA:Df K mg "_law_score_by" uY Ae vW ["_law_script","_law_most"]
 dk:Df K mg "_law_length_text" pJ qo qg ["_law_length"]
 jJ:Df K mg "_law_item_text" sT uf tW ["_law_item"]
 gI:Df K mg "_law_repeat_text" pI qk qd ["_law_repeat"]
 jK:Df K mg "_law_form_rows" sU ug tX ["_law_s"]
 iw:Df K mg "_law_score_rows" qQ si rT ["_law_s"]
 ik:Df K mg "_law_score_text" qP sg rS ["_law_s"]
 uh:Df K mg "_law_pass" HV JP Jz ["_law_repeat","_law_number"]
 l6:Df K mg "_law_stretch" A7 Cv B5 ["_law_firsts","_law_at","_law_once"]
 g9:Df K mg "_law_onward" Dd DY DK ["_law_s","_law_at","_law_once"]
 qp:Df K mg "_law_taken" Fv GO Gq ["_law_s"]
 WQ:Df K mg "law" U5 VF Qn ["_law_script"]
 QQ:mg "Score"= some (.ref lX)
 R6:Mk K lX lZ
 CC:Xn K "__init__" "Score.__init__" qS lZ rW ["self"]
 NN:mg "FIGURES"= some (.str "0123456789" MC)
 kZ:mg "LENGTH_FIGURES"= some (.int (4) sE)
 DO:mg "HIGHEST_KEY"= some (.int (7) CK)
 Ce:mg "OCTAVE_STEPS"= some (.int (12) AJ)
 DP:mg "FIFTH_STEPS"= some (.int (7) CL)
 mP:mg "PITCH_FIGURES"= some (.int (2) uM)
 Gx:mg "NAME_SIGNS"= some (.str "abcdefghijklmnopqrstuvwxyz0123456789" EY)
 Cj:mg "LONGEST_NAME"= some (.int (12) AM)
 kY:mg "NUMBER_FIGURES"= some (.int (3) sD)
 Ck:mg "HIGHEST_TURN"= some (.int (12) AN)
 Ac:mg "HIGHEST_METRE"= some (.int (32) uN)
 Ab:mg "METRE_BOTTOMS"= some (.ref dZ)
 mJ:∀H,cW K H dZ [.int 1,.int 2,.int 4,.int 8,.int 16,.int 32]
 Cm:mg "FEWEST_TIMES"= some (.int (2) AO)
 Gy:mg "MOST_TIMES"= some (.int (9) EZ)
 EN:mg "READERS"= some (.ref iY)
 Ci:mg "MOST_PLAYERS"= some (.int (12) AL)
 qh:mg "MOST_INSTRUMENTS"= some (.int (12) pj)
 JC:mg "MOST_BARS"= some (.int (200) Hn)
 GA:mg "MOST_HOLDS"= some (.int (20) E2)
 Gz:mg "MOST_ITEMS"= some (.int (40) E1)
 Cg:mg "MOST_REPEATS"= some (.int (20) AK)
 Qq:mg "FAULTS"= some (.ref qW)
 So:mg "abs"= none
 LX:mg "all"= none
 BD:mg "any"= none
 jW:mg "enumerate"= none
 Sn:mg "int"= none
 FX:mg "isinstance"= none
 bG:mg "len"= none
 kh:mg "list"= none
 Vi:mg "min"= none
 cy:mg "range"= none
 Vh:mg "set"= none
 IP:mg "sorted"= none
 fw:mg "str"= none
 Vg:mg "sum"= none
 iH:mg "tuple"= none
 Pw:mg "zip"= none
 lU:PySem.W.nsIn K mainGlobals "NoLength"= some (some (.ref jE))
 lL:PySem.W.excIn K jE [.type "ValueError",.type "Exception",.type "BaseException",.type "object"] "ValueError.__new__"= true
 SN:mg "NoLength"= some (.ref jE)
 cf:Cf K lX
def bM {X:Cx} {x:Str} {st:Stmt} {k n:Nat} {f:vE} {fd:vD} {ps:List Str} {sp:Sp} {e:Expr} {es:List Expr} {t:TA} {p pos:Pos} (F:dB X.prog X.w X.K X.mg X.base JT k f fd ps sp) (hr:fP n X.A) (D:Df X.K X.mg x st f fd ps)
  (ha:PA X (e::es) t) (hk:k<=n<|>qb_) (hg:Gl X x<|>qe_) (hdb:(x == ("__debug__": Str))=false<|>qb_) (he:starEach (e::es) X.env=(false,eval e X.env)::starEach es X.env<|>qe_) (hpl:(backTo pos (starEach es X.env)).any (·.1)=false<|>qe_) :
  PE X (.Call (.Name x p) (e::es) [] pos) (fR sp [] E0 t):=Rm F (hr.mono hk) hg D.g D.F.kp D.b .nil LW ha hdb he hpl
def fG {X:Cx} {a b:Expr} {ta tb:TE} {pos:Pos} (ha:PE X a ta) (hb:PE X b tb) (hs:so b<|>qj_):PE X (.Subscript a b pos) (eO (Rf X.K) ta tb):=Br L4 ha hb hs
def bE {X:Cx} {a b:Expr} {ta tb:TE} {pos:Pos} (ha:PE X a ta) (hb:PE X b tb) (hs:so b<|>qj_):PE X (.Subscript a b pos) (eO (lK X.K) ta tb):=Br T8 ha hb hs
def ptr {X:Cx} {a b:Expr} {ta tb:TE} {pos:Pos} {op:CmpOp} {r:R2} (ho:oj X (compareOp op) r) (ha:PE X a ta) (hb:PE X b tb) (h:op≠.In<|>qb_) (h2:op≠.NotIn<|>qb_):PT X (.Compare a [op] [b] pos) (kF (eO r ta tb)):=gK ho ha hb (jz b h h2)
def Lo (p:St) (n:Nat) (U:St):Prop:=∃e:Nat->Option V,U=p++(List.range n).map e
def Lo.of {p:St} {n:Nat} {U:St} (h:U.take ⇑p=p) (l:U.length=⇑p+n):Lo p n U:=by
 refine{λi=>U[⇑p+i]?.join,List.ext_getElem? λi=>?_}
 by_cases c:i<⇑p
 ·rw[wq c]
  conv=>rhs;rw[<-h]
  rw[List.getElem?_take_of_lt c]
 ·rw[z9 (),zK]
  by_cases d:i-⇑p<n
  ·rw[List.getElem?_range d]
   have:⇑p+(i-⇑p)=i:=()
   simp only[xo,this];rw[zd ()];rfl
  ·rw[wQ (),wQ (by simp;ext)]
   rfl
abbrev At (b:yB->TS) (K:yB):TS:=b K
abbrev Sq (b:yB->TS) (K:yB) (D:Ends):Ends:={D with nx:=b K D}
abbrev Dz (Q:VK):Ends:={nx:=λ_ H'=>Q .bP H',rt:=Q}
def Ev (t:TE) (U:St) (H:Hp) (v:V):Prop:=∀Q:VK,Q v H->t U H Q
def QN (t:TA) (U:St) (H:Hp) (vs:List V):Prop:=∀R:List V->Hp->Prop,R vs H->t U H R
def SF (t:TT) (U:St) (H:Hp) (b:Bool):Prop:=∀R:Bool->Hp->Prop,R b H->t U H R
inductive WW (K:yB) (f:Str) (x:V) (H:Hp) (Q:VK):Prop
 | mk (a C dx:vE) (fs:List (Str×V)) (v:V) (_:x=.ref a) (_:H a=some (.ins C dx fs)) (_:Sa K C) (_:eN K C f) (_:fs.lookup f=some v) (_:Q v H)
section
variable {t u:TE} {ta:TA} {c:TT} {wi:TI} {a b:TS} {gt:TG} {D:Ends} {U:St} {H:Hp} {v x y:V} {vs:List V} {g:Int->Int->V} {i j:Int} {r:R2} {Q:VK} {R:List V->Hp->Prop} {S:Bool->Hp->Prop} {k:Bool} {K:yB} {p:vE} {xs:List V}
def Ui {n:Nat} (e:U[n]?=some (some v)):Ev (aW n) U H v:=λ_ q=>{(v),e,q}
def WZ:Ev (tC v) U H v:=λ_ q=>q
def Vy (a:Ev t U H (.int i)) (b:Ev u U H (.int j)):Ev (eO (sr g) t u) U H (g i j):=λ_ q=>a _ (b _ {_,_,rfl,rfl,q})
def Vx {C:Int->Int->Prop} (a:Ev t U H (.int i)) (b:Ev u U H (.int j)) (c:C i j):Ev (eO (rI C g) t u) U H (g i j):=λ_ q=>a _ (b _ {_,_,rfl,rfl,c,q})
def Vw (a:Ev t U H (.ref p)) (b:Ev u U H (.int j)) (h:H p=some (.tup xs)) (e:DR xs j=some v):Ev (eO (lK K) t u) U H v:=λ_ q=>a _ (b _ {_,_,_,_,rfl,rfl,cW.of h,e,q})
def Uk:QN dY U H []:=λ_ q=>q
def RK (a:Ev t U H v) (b:QN ta U H vs):QN (bI t ta) U H (v::vs):=λ_ q=>a _ (b _ q)
def Ul (a:Ev t U H v):Ev (Oy t) U H (.bl (decide (v=.bP))):=λ_ q=>a _ q
def RJ (a:Ev t U H v):Ev (Ox t) U H (.bl (!decide (v=.bP))):=λ_ q=>a _ q
def Uj (a:Ev t U H (.bl k)):Ev (UZ t) U H (.bl (!k)):=λ_ q=>a _ {_,rfl,q}
def Vz (a:Ev t U H x) (b:Ev u U H y) (s:Q3 x y=true):Ev (eO WL t u) U H (.bl (decide (x=y))):=λ_ q=>a _ (b _ {(s),q})
def Vv (a:Ev t U H x) (b:Ev u U H y) (s:Q3 x y=true):Ev (eO WJ t u) U H (.bl (!decide (x=y))):=λ_ q=>a _ (b _ {(s),q})
def WX (a:Ev t U H (.bl k)):SF (kF t) U H k:=λ_ q=>a _ {_,rfl,q}
def W3 (a:Ev t U H (.bl k)):SF (tB t) U H k:=λ_ q=>a _ {_,rfl,q}
def WY (a:SF c U H k):SF (QT c) U H (!k):=λ_ q=>a _ q
def U6 (e:Ev t U H v) (q:gt v U H D.nx):Hu t gt D U H:=e _ q
def U4 (e:Ev t U H v) (q:D.rt v H):SX t D U H:=e _ q
def WG {a b:yB->TS} (e:SF c U H k) (q:if k=true then At a K D U H else At b K D U H):QU c (a K) (b K) D U H:=e _ q
def V7 {b:yB->TS} (q:a (Sq b K D) U H):SW a (b K) D U H:=q
def Wd {n:Nat} {S:St->Hp->Prop} (q:S (U.set n (some v)) H):bW n v U H S:=q
def Wa {b:yB->TS} (q:b K D U H):(Sq b K D).nx U H:=q
def V9 (q:D.nx U H):Sb D U H:=q
def UO (q:t U H λx H1=>gt x U H1 D.nx):Hu t gt D U H:=q
def UL (q:t U H D.rt):SX t D U H:=q
def SH (q:t U H λ_ H1=>D.nx U H1):Sd t D U H:=q
def Wc (q:c U H λz H1=>if z=true then a D U H1 else b D U H1):QU c a b D U H:=q
def We {a b:yB->TS} (q:c U H λz H1=>if z=true then At a K D U H1 else At b K D U H1):QU c (a K) (b K) D U H:=q
def U3 (e:SF c U H k) (q:S k H):c U H S:=e S q
def Xp (q:t U H λx H'=>∃k,x=.bl k/\S k H'):kF t U H S:=q
def Xq (q:t U H λx H'=>∃k,x=.bl k/\S k H'):tB t U H S:=q
def Wi (e:Ev t U H v) (q:Q v H):t U H Q:=e Q q
def w_arg (e:QN ta U H vs) (q:R vs H):ta U H R:=e R q
def x_call {sp:Sp} {dv:List V} {E:XK} (q:ta U H λvs H1=>sp (vs++dv) H1 Q E):fR sp dv E ta U H Q:=q
def Wf {q':List V->Hp->VK->Prop} (q:ta U H λvs H1=>q' vs H1 Q):LI q' ta U H Q:=q
def UK (q:ta U H λxs H1=>⇑xs<=sizeLine/\∀p,H1 p=none->Q (.ref p) (upd H1 p (.tup xs))):Ho ta U H Q:=q
def UM (q:ta U H λxs H1=>⇑xs<=sizeLine/\∀p,H1 p=none->Q (.ref p) (upd H1 p (.lst xs))):Hs ta U H Q:=q
def SI {fr:List (Option Nat)} (q:wi U H λJ H1=>cR (fr.map λo=>o.bind λj=>(U[j]?).join) gt c t Q J H1):m9 fr wi gt c t U H Q:=q
def WE {R:It->Hp->Prop} (e:Ev t U H (.ref p)) (q:(∃xs,aH K H p xs)/\R (GX K p) H):L5 K t U H R:=e _ {_,rfl,q}
def V8 {R:It->Hp->Prop} (q:ta U H λvs H1=>∃j:Int,vs=[.int j]/\-(2^62)<=j/\j<2^62/\R (Lw 0 j.toNat) H1):PR ta U H R:=q
abbrev iJ (J:It):TI:=λ_ H R=>R J H
def Fr (g:TG) (b:TS) (D:Ends) (U:St) (J:It) (H:Hp):Prop:=S8 (iJ J) g b D U H
def UN {b:yB->TS} (q:wi U H (Fr gt (At b K) D U)):S8 wi gt (b K) D U H:=q
def x_at {b:yB->TS} (q:b K D U H):At b K D U H:=q
def Wb {R:It->Hp->Prop} (q:t U H λx H1=>∃a,x=.ref a/\(∃xs,aH K H1 a xs)/\R (GX K a) H1):L5 K t U H R:=q
def Ws {R:It->Hp->Prop} (e:QN ta U H vs) (q:∃a xs,vs=[.ref a]/\aH K H a xs/\R (UB K a) H):Su K ta U H R:=e _ q
def Wn {R:It->Hp->Prop} (e:QN ta U H vs) (q:∃j:Int,vs=[.int j]/\-(2^62)<=j/\j<2^62/\R (Lw 0 j.toNat) H):PR ta U H R:=e _ q
def SM {sp:Sp} {dv:List V} {E:XK} (e:QN ta U H vs) (q:sp (vs++dv) H Q E):fR sp dv E ta U H Q:=e _ q
def Wt {q':List V->Hp->VK->Prop} (e:QN ta U H vs) (q:q' vs H Q):LI q' ta U H Q:=e _ q
def Wm (e:QN ta U H vs) (q:⇑vs<=sizeLine/\∀p,H p=none->Q (.ref p) (upd H p (.tup vs))):Ho ta U H Q:=e _ q
def Wr (e:QN ta U H vs) (q:⇑vs<=sizeLine/\∀p,H p=none->Q (.ref p) (upd H p (.lst vs))):Hs ta U H Q:=e _ q
def U7 {d:TT} (e:SF c U H k) (q:if k=true then d U H S else S false H):Tg c d U H S:=e _ q
def WD {d:TT} (e:SF c U H k) (q:if k=true then S true H else d U H S):Wz c d U H S:=e _ q
def UQ {f:Str} (e:Ev t U H x) (q:WW K f x H Q):QV K t f U H Q:=e _ (by let⟨a,C,dx,fs,v,h1,h2,h3,h4,h5,h6⟩:=q;exact{(a),C,dx,fs,v,h1,h2,h3,h4,h5,h6})
def Wu {T:String} {q':V->List V->Hp->VK->Prop} (e:Ev t U H x) (q:VU K T x H/\ta U H λxs H2=>q' x xs H2 Q):VX K T q' t ta U H Q:=e _ q
def UR (e:Ev t U H (.bl k)) (q:if k=true then u U H Q else Q (.bl false) H):Se t u U H Q:=e _ {_,rfl,q}
def Wo (e:Ev t U H (.bl k)) (q:if k=true then Q (.bl true) H else u U H Q):UY t u U H Q:=e _ {_,rfl,q}
def Wq (q:t U H λx H1=>u U H1 λy H2=>r x y H2 Q):eO r t u U H Q:=q
def SK (q:t U H λx H1=>ta U H1 λxs H2=>R (x::xs) H2):bI t ta U H R:=q
def Wg (e:Ev t U H x) (q:u U H λy H2=>r x y H2 Q):eO r t u U H Q:=e _ q
def SJ (e:Ev t U H v) (q:ta U H λxs H2=>R (v::xs) H2):bI t ta U H R:=e _ q
def Wh (q:Q (g i j) H):sr g (.int i) (.int j) H Q:={(i),j,rfl,rfl,q}
def UP (h:H p=some (.tup xs)) (e:DR xs j=some v) (q:Q v H):lK K (.ref p) (.int j) H Q:={_,_,_,_,rfl,rfl,cW.of h,e,q}
end
def dH {g:TG} {tb:TS} {x:V} {U:St} {H:Hp} {A C:St->Hp->Prop} {B:VK} (h:∀N:Ends,(∀U H,A U H->N.nx U H)->(∀v H,B v H->N.rt v H)->(∀U H,A U H->N.ct U H)->(∀U H,C U H->N.bk U H)->g x U H λσ2 H2=>tb N σ2 H2):g x U H λσ2 H2=>tb {nx:=A,rt:=B,bk:=C,ct:=A} σ2 H2:=h _ (λ_ _ z=>z) (λ_ _ z=>z) (λ_ _ z=>z) λ_ _ z=>z
def Wk {r:Sp} {vs:List V} {H:Hp} {Q:VK} {E:XK} (h:∀Q':VK,(∀v H',Q v H'->Q' v H')->r vs H Q' E):r vs H Q E:=h Q λ_ _ z=>z
def Wl {r:R2} {x y:V} {H:Hp} {Q:VK} (h:∀Q':VK,(∀v H',Q v H'->Q' v H')->r x y H Q'):r x y H Q:=h Q λ_ _ z=>z
def Wj {r:V->Hp->VK->Prop} {x:V} {H:Hp} {Q:VK} (h:∀Q':VK,(∀v H',Q v H'->Q' v H')->r x H Q'):r x H Q:=h Q λ_ _ z=>z
abbrev df (P:vA) (w:vB) (base:vF) (n:Nat) {K:yB} {mg:Str->Option vy} {x:Str} {st:Stmt} {a:vE} {d:vD} {ps:List Str} (_:Df K mg x st a d ps) (sp:Sp):Prop:=dB P w K mg base JT n a d ps sp
theorem _root_.L2.QH.VY {P:vA} {w:vB} {K:yB} {mg:Str->Option vy} {base:vF} {x qual:Str} {st:Stmt} {f:vE} {fd:vD} {N ps:List Str} {k:Nat} {sp:Sp} (F:QH K x qual st f fd) (S:gq N ps (aT st))
  (hbody:∀(cdv:vy) (A:vC) (outer:List Env) (s:vz) (H:Hp) (vs:List V) (Q:VK) (E:XK),fP k (A.deeper (PyProof.Rows.envOfC qual (aT st) ↑s f cdv))->sp vs H Q E->
   ∃t,EV (ku JT P w K mg base N qual (aT st) f cdv A outer s H E).Kz (cA st) t/\t (Dz Q) (start N vs) H)
  (len:(∀vs H Q E,sp vs H Q E->⇑vs=⇑ps)<|>qk_):dB P w K mg base JT (k+1) f fd ps sp:=F.ok S len hbody
def Xd {P:vA} {w:vB} {K:yB} {mg:Str->Option vy} {base:vF} {x:Str} {st:Stmt} {f:vE} {fd:vD} {N ps:List Str} {k:Nat} {sp:Sp} (D:Df K mg x st f fd ps) (S:gq N ps (aT st))
  (hbody:N.Nodup->∀(cdv:vy) (A:vC) (outer:List Env) (s:vz) (H:Hp) (vs:List V) (Q:VK) (E:XK),fP k (A.deeper (PyProof.Rows.envOfC x (aT st) ↑s f cdv))->sp vs H Q E->
   ∃t,EV (ku JT P w K mg base N x (aT st) f cdv A outer s H E).Kz (cA st) t/\t (Dz Q) (start N vs) H)
  (len:(∀vs H Q E,sp vs H Q E->⇑vs=⇑ps)<|>qk_):dB P w K mg base JT (k+1) f fd ps sp:=D.F.ok S len (hbody S.nd)
def Vt {N P:List Str} {sc:Scope} (h1:sc.kind=.function<|>qe_) (h2:sc.isCoroutine=false<|>qe_) (h3:sc.isGenerator=false<|>qe_) (h4:N.Nodup<|>ql_) (h5:N.take P.length=P<|>qe_) (h6:(∀x∈P,sc.names.lookup x=some .local\/sc.names.lookup x=some .cell)<|>ql_) (h7:(∀y∈sc.names,y.2≠.free)<|>ql_):gq N P sc:={(h1),h2,h3,h4,h5,h6,h7}
def eA {X:Cx} {x:Str} {id:String} {r:List V->Hp->VK->Prop} {e:Expr} {es:List Expr} {t:TA} {p pos:Pos} (hc:fC X (.builtin id) r) (hm:X.mg x=none) (ha:PA X (e::es) t) (hg:Gl X x<|>qe_) (hv:bootBuiltins x=some (.builtin id)<|>ql_) (hn:x≠ "__name__"<|>qb_) (hdb:(x == ("__debug__": Str))=false<|>qb_)
  (he:starEach (e::es) X.env=(false,eval e X.env)::starEach es X.env<|>qe_) (hpl:(backTo pos (starEach es X.env)).any (·.1)=false<|>qe_):PE X (.Call (.Name x p) (e::es) [] pos) (LI r t):=Ir hc hg hm hv ha hn hdb he hpl
def mS {X:Cx} {x:Str} {id:String} {r:List V->Hp->VK->Prop} {e:Expr} {es:List Expr} {t:TA} {p pos:Pos} (hc:fC X (.type id) r) (hm:X.mg x=none) (ha:PA X (e::es) t) (hg:Gl X x<|>qe_) (hv:bootBuiltins x=some (.type id)<|>ql_) (hn:x≠ "__name__"<|>qb_) (hdb:(x == ("__debug__": Str))=false<|>qb_)
  (he:starEach (e::es) X.env=(false,eval e X.env)::starEach es X.env<|>qe_) (hpl:(backTo pos (starEach es X.env)).any (·.1)=false<|>qe_):PE X (.Call (.Name x p) (e::es) [] pos) (LI r t):=MY hc hg hm hv ha hn hdb he hpl
def bN {X:Cx} {x:Str} {e:Expr} {te:TE} {pos pos':Pos} (i:Nat) (hN:X.N.Nodup) (he:PE X e te) (hi:X.N[i]?=some x<|>qe_) (hx:Loc X.env.scope x<|>qi_) (hs:swapsWith e (some (.Name x pos')) pos.line X.env=pure false<|>qe_) (hf:X.fn x=true\/X.env.scope.names.lookup x=some .local<|>qa_) :
  PS X (.Assign [.Name x pos'] e pos) (Hu te (bW i)):=O5 hN hi hx he hs hf
def ia {X:Cx} {x:Str} {pos:Pos} (i:Nat) (hN:X.N.Nodup) (hi:X.N[i]?=some x<|>qe_) (hx:Loc X.env.scope x<|>qi_) (hf:X.fn x=true\/X.env.scope.names.lookup x=some .local<|>qa_):PG X (.Name x pos) (bW i):=LV hN hi hx hf
def gr {X:Cx} {ts ys:List Str} {scope:Scope} {cl:List (Str×vE)} {C:vE} {s₀:vz} {H₀:Hp} {ex:List vE} {x:Str} {pos:Pos} (i:Nat) (hN:(ts++ys).Nodup<|>ql_) (hi:(ts++ys)[i]?=some x<|>qe_) (hx:Loc (cO X (ts++ys) scope cl C s₀ H₀ ex).env.scope x<|>qi_) (hf:(cO X (ts++ys) scope cl C s₀ H₀ ex).fn x=true\/(cO X (ts++ys) scope cl C s₀ H₀ ex).env.scope.names.lookup x=some .local<|>qa_):PG (cO X (ts++ys) scope cl C s₀ H₀ ex) (.Name x pos) (bW i):=LV hN hi hx hf
section
variable {X:Cx} {pos:Pos} {elt target iter:Expr} {ifs:List Expr} {scope:Scope} {ts ys:List Str} {js:List Nat} {cl:List (Str×vE)} {wi:TI} {g:TG} {tc:TT} {te:TE}
def nM (hi:PI X target iter wi) (hg:∀{C s₀ H₀ ex},PG (cO X (ts++ys) scope cl C s₀ H₀ ex) target g) (hif:∀{C s₀ H₀ ex},R4 (cO X (ts++ys) scope cl C s₀ H₀ ex) ifs tc) (he:∀{C s₀ H₀ ex},PE (cO X (ts++ys) scope cl C s₀ H₀ ex) elt te)
  (hclos:closureFor scope X.env=pure cl<|>qe_) (hc:X.calm=true<|>qe_) (hcl:GR X.env.cells cl<|>qm_)
  (hLo:((relabel scope X.env).names.all λp=>(p.2 != .cell&&p.2 != .free)||ys.contains p.1||scope.names.contains (p.1,.cell))=true<|>qe_) (hno:(∀p∈scope.names,p.2=.cell->p.1∉ys)<|>ql_)
  (hfr:N1 X scope cl ys js<|>qm_)
  (hkind:scope.kind=.function<|>qe_) (hnames:(∀y∈scope.names,y.2=.local->scope.names.lookup y.1=some .local)<|>ql_) (hs:(∀x,foldedSetIterable iter X.env x=pure x)<|>qd_) :
  PE X (.ListComp elt [{target,iter,ifs,0}] scope pos) (m9 (ts.map (λ_=>none)++js.map some) wi g tc te):=Pk hc hclos hcl hLo hno hfr hkind hnames hi (λ_ _ _ _=>hg) (λ_ _ _ _=>hif) (λ_ _ _ _=>he) hs
def Pl {i:Nat} {x:Str} {ps pa:Pos} (hi:PI X target iter wi) (hg:∀{C s₀ H₀ ex},PG (cO X (ts++ys) scope cl C s₀ H₀ ex) target g) (hif:∀{C s₀ H₀ ex},R4 (cO X (ts++ys) scope cl C s₀ H₀ ex) ifs tc) (he:∀{C s₀ H₀ ex},PE (cO X (ts++ys) scope cl C s₀ H₀ ex) elt te) (hN:X.N.Nodup)
  (hclos:closureFor scope X.env=pure cl<|>qe_) (hc:X.calm=true<|>qe_) (hcl:GR X.env.cells cl<|>qm_)
  (hLo:((relabel scope X.env).names.all λp=>(p.2 != .cell&&p.2 != .free)||ys.contains p.1||scope.names.contains (p.1,.cell))=true<|>qe_) (hno:(∀p∈scope.names,p.2=.cell->p.1∉ys)<|>ql_)
  (hfr:N1 X scope cl ys js<|>qm_)
  (hkind:scope.kind=.function<|>qe_) (hnames:(∀y∈scope.names,y.2=.local->scope.names.lookup y.1=some .local)<|>ql_) (hx1:X.N[i]?=some x<|>qe_) (hx2:Loc X.env.scope x<|>qi_) (hs:(∀x,foldedSetIterable iter X.env x=pure x)<|>qd_) (hsw:swapsWith (.ListComp elt [{target,iter,ifs,0}] scope pos) (some (.Name x ps)) pa.line X.env=pure true<|>qe_)
  (hf:X.fn x=true\/X.env.scope.names.lookup x=some .local<|>qa_) :
  PS X (.Assign [.Name x ps] (.ListComp elt [{target,iter,ifs,0}] scope pos) pa) (Hu (m9 (ts.map (λ_=>none)++js.map some) wi g tc te) (bW i)):=O8 hc hclos hcl hLo hno hfr hkind hnames hi (λ_ _ _ _=>hg) (λ_ _ _ _=>hif) (λ_ _ _ _=>he) hN hx1 hx2 hs hsw hf
end
section
variable {P:vA} {w:vB} {K:yB} {mg:Str->Option vy} {base:vF} (T:Txt K mg)
local macro_rules | `(tactic|right) => `(tactic| (intro pp hn; generalize hG : upd _ pp _ = HH; have sm := au.jy hG hn; have hh := jG hG; clear hG hn))
local macro_rules | `(tactic| intros $D:ident $n:ident $s:ident $h:ident $H:ident) => `(tactic| ((try refine ⟨yg _, ?_⟩); intro $D $n; generalize hG : upd _ $D _ = $H; have $s:ident := au.jy hG $n; have $h:ident := jG hG; clear hG))
local macro_rules|`(tactic|ac_rfl)=>`(tactic|try dsimp only[ku,Cx.Kz])
local macro_rules|`(tactic|intros $p:ident $H:ident $s:ident $h:ident)=>`(tactic|(intro $p hn;generalize hG:upd _ $p _=$H;have $s:ident:=au.jy hG hn;have $h:ident:=jG hG;clear hG hn))
local macro_rules|`(tactic|change $e:term)=>`(tactic|(left ;exact $e))
set_option hygiene false
local macro_rules|`(tactic|fail "h")=>`(tactic|(refine au.on (by assumption) ?_; fail "h"))
local macro_rules|`(tactic|fail "h")=>`(tactic|assumption)
local macro_rules|`(tactic|fail "e")=>`(tactic|((with_reducible apply Vx); fail "e"; fail "e"; (first | (show (0 : Int) < _; decide) | exact And.intro ∅ ∅ | exact Or.inl ⟨∅, by decide⟩ | exact Or.inr ⟨∅, by decide⟩)))
local macro_rules|`(tactic|fail "e")=>`(tactic|((with_reducible (first | apply Vz | apply Vv)); fail "e"; fail "e"; exact rfl))
local macro_rules|`(tactic|fail "e")=>`(tactic|((with_reducible (first | apply WX | apply W3 | apply WY | apply Ul | apply RJ | apply Uj)); fail "e"))
local macro_rules|`(tactic|fail "e")=>`(tactic|((with_reducible apply Vw); fail "e"; fail "e"; fail "h"; exact rfl))
local macro_rules|`(tactic|fail "e")=>`(tactic|((with_reducible (first | apply Vy | apply RK)); fail "e"; fail "e"))
local macro_rules|`(tactic|fail "e")=>`(tactic|with_reducible (first | exact WZ | exact Uk))
local macro_rules|`(tactic|fail "e")=>`(tactic|((with_reducible apply Ui); exact rfl))
local macro_rules | `(tactic| exists $es,*) => `(tactic| (left; first | ((with_reducible (first | refine Wk fun _ kq => ?_ | refine Wl fun _ kq => ?_ | refine Wj fun _ kq => ?_)); refine ⟨$es,*⟩; refine kq _ _ ?_) | refine ⟨$es,*⟩))
local macro_rules|`(tactic|fail "s")=>`(tactic|refine Or.inr ⟨_, rfl, ?_⟩)
local macro_rules|`(tactic|fail "s")=>`(tactic|refine ⟨Or.inr ⟨∅, by decide⟩, ?_⟩)
local macro_rules|`(tactic|fail "s")=>`(tactic|refine ⟨Or.inl ⟨∅, by decide⟩, ?_⟩)
local macro_rules|`(tactic|fail "s")=>`(tactic|refine ⟨(And.intro ∅ ∅), ?_⟩)
local macro_rules|`(tactic|fail "s")=>`(tactic|refine ⟨(by show (0 : Int) < _; decide), ?_⟩)
local macro_rules|`(tactic|fail "s")=>`(tactic|refine ⟨_, tag_tup (by fail "h"), ?_⟩)
local macro_rules|`(tactic|fail "s")=>`(tactic|refine ⟨_, _, _, _, rfl, rfl, cW.of (by fail "h"), rfl, ?_⟩)
local macro_rules|`(tactic|fail "s")=>`(tactic|refine WS ?_)
local macro_rules|`(tactic|fail "s")=>`(tactic|refine Vm ?_)
local macro_rules|`(tactic|fail "s")=>`(tactic|refine ⟨rfl, ?_⟩)
local macro_rules|`(tactic|fail "s")=>`(tactic|refine ⟨_, _, rfl, rfl, ?_⟩)
local macro_rules|`(tactic|fail "s")=>`(tactic|refine ⟨_, rfl, ?_⟩)
local macro_rules|`(tactic|fail "s")=>`(tactic|with_reducible (first | apply Wh | apply Xp | apply Xq | apply x_call | apply Wf | apply UK | apply UM | apply SI | apply V8 | apply Wb | apply Wq | apply SK))
local macro_rules|`(tactic|fail "s")=>`(tactic|((with_reducible apply UP); fail "h"; exact rfl))
local macro_rules|`(tactic|fail "s")=>`(tactic|((with_reducible (first | apply SM | apply Wt | apply WE | apply UQ | apply Wu | apply UR | apply Wo | apply Wg | apply SJ | apply Wm | apply Wr | apply Ws | apply Wn | apply U7 | apply WD | apply s_ie)); fail "e"))
local macro_rules|`(tactic|fail "s")=>`(tactic|((with_reducible apply U3); fail "e"))
local macro_rules|`(tactic|fail "s")=>`(tactic|((with_reducible apply w_arg); fail "e"))
local macro_rules|`(tactic|fail "s")=>`(tactic|((with_reducible apply Wi); fail "e"))
local macro_rules|`(tactic|fail "s")=>`(tactic|with_reducible (first | apply V7 (K := K) | apply Wd | apply Wa | apply V9 | apply x_at | apply UO | apply UL | apply SH | apply We (K := K) | apply Wc | apply UN (K := K)))
local macro_rules|`(tactic|fail "s")=>`(tactic|((with_reducible (first | apply U6 | apply U4 | apply WG (K := K))); fail "e"))
local macro_rules | `(tactic|left) => `(tactic| ((repeat fail "s"); (first | (first | apply kN4 | apply kN3 | apply kN2 | apply kN1 | apply kN0 | apply kR4 | apply kR3 | apply kR2 | apply kR1 | apply kR0); left | skip)))
local macro_rules | `(tactic| nomatch $a:term, $b:term) => `(tactic| refine Xd $a (N := $b) Vt fun qN _ _ _ _ H vs Q E hr h => ?_)
set_option hygiene true
def rk:df P w base 1 T.gg jO:=by
 nomatch T.gg,["one","other","rest"]
 let⟨a,b,rfl,h1,h2,kk⟩:=h;refine{_,(af (nK yP (ptr kK (pv 1) ae)
  (af (bN 2 qN (ax aR (pv 0) (pv 1)))
   (af (bN 0 qN (pv 1))
   (ak (bN 1 qN (pv 2))))))
  (ak (aq (pv 0)))),?_}
 refine{λm U H'=>H'=H/\∃(x y:Int) (r:Option V),U=[some (.int x),some (.int y),r]/\0<=x/\0<=y/\Int.gcd x y=Int.gcd a b/\m=y.toNat,{_,rfl,a,b,none,rfl,h1,h2,rfl,rfl},?_};rintro m U H' ⟨rfl,x,y,r,rfl,hx,hy,hg,rfl⟩;left
 by_cases e:y=0
 ·subst e
  refine Ss rfl ?_;refine{_,rfl,?_};let e2:Int.gcd a b=x.natAbs:=by rw[<-hg];simp
  let e3:((Int.gcd a b:Nat):Int)=x:=by rw[e2];ext
  rw[e3] at kk;exact kk
 ·refine bR (by simp[e]) ?_
  refine{λU' H''=>∃m',m'<y.toNat/\H''=H'/\∃(x y:Int) (r:Option V),U'=[some (.int x),some (.int y),r]/\0<=x/\0<=y/\Int.gcd x y=Int.gcd a b/\m'=y.toNat,λ_ _ h=>h,?_};exists(by show(0:Int)<y;ext),?_;left;let hp:(0:Int)<y:=()
  let l1:=zw x (by omega:y≠0);let l2:=zt x hp;exact{(x%y).toNat,(),rfl,y,x%y,_,rfl,hy,l1,(IX hx hp).trans hg,rfl}
def jw:df P w base 2 T.eI fU:=by
 let G_common_divisor:df P w base 1 T.gg jO:=rk T
 nomatch T.eI,["top","bottom","divisor"]
 let⟨t,b,rfl,h1,h2,h3,kk⟩:=h;refine{_,(af (bN 2 qN (bM G_common_divisor hr T.gg (ah (pv 0) (ah (pv 1) ag))))
  (ak (aq (bF (ah (ax rg (pv 0) (pv 2)) (ah (ax rg (pv 1) (pv 2)) ag)))))),?_}
 exists t,b,rfl,h1,xa h2,?_;let g0:=Aw (t:=t) h2;let g1:Sz 8999 ((Int.gcd t b:Nat):Int):=h3.le (xa g0) (P2 h2);exists{(g0),g1},?_;exists{(g0),g1},?_;refine{cM,laid λp H' sm hp=>kk p H' sm ?_};exact hp
def IF:df P w base 3 T.added OJ:=by
 let G_made_length:df P w base 2 T.eI fU:=jw T
 nomatch T.added,["one","other"]
 let⟨x,y,p,q,n,m,rfl,hp,hq,rx,ry,sx,sy,hnm,kk⟩:=h;let⟨x1,x2,_⟩:=rx.pos;let⟨y1,y2,_⟩:=ry.pos;let bx1:Sz 20000 x.1:=sx.1.mono ();let bx2:Sz 20000 x.2:=sx.2.mono ();let by1:Sz 20000 y.1:=sy.1.mono ();let by2:Sz 20000 y.2:=sy.2.mono ();refine{_,(ak (aq (bM G_made_length hr T.eI (ah (ax aQ (ax ra (bE (pv 0) ae) (bE (pv 1) ae)) (ax ra (bE (pv 1) ae) (bE (pv 0) ae))) (ah (ax ra (bE (pv 0) ae) (bE (pv 1) ae)) ag))))),?_};exists{(bx1),by2},?_;exists{(by1),bx2},?_;exists{(bx2),by2},?_;refine{_,_,rfl,Int.add_nonneg (wc x1 (xa y2)) (wc y1 (xa x2)),xB x2 y2,(sx.2.mul sy.2).mono hnm,λr H' sm hr'=>kk r H' sm hr'}
def Kx:df P w base 1 T.Fj J9:=by
 nomatch T.Fj,["one","other"]
 let⟨x,y,p,q,rfl,hp,hq,sx,sy,kk⟩:=h;let bx1:Sz 20000 x.1:=sx.1.mono ();let bx2:Sz 20000 x.2:=sx.2.mono ();let by1:Sz 20000 y.1:=sy.1.mono ();let by2:Sz 20000 y.2:=sy.2.mono ();refine{_,(ak (aq (dN fe (ax ra (bE (pv 0) ae) (bE (pv 1) ae)) (ax ra (bE (pv 1) ae) (bE (pv 0) ae)) (jz _)))),?_};exists{(bx1),by2},?_;exists{(by1),bx2},?_;change kk
def bU:df P w base 1 T.cB CT:=by
 nomatch T.cB,["_law_cell","_law_k"]
 let⟨c,k,rfl,h1,h2,kk⟩:=h;refine{_,(ak (aq (ax aR (ax dP (ax dP (ax aQ (ax aR (pv 0) ae) ae) (ax aQ (ax dP (pv 1) (pv 1)) ae)) ae) ae))),?_};exists Or.inl {(()),()},?_;left;let e1:0<=c%2305843009213693951:=zw _ ∅;let e2:c%2305843009213693951<2305843009213693951:=zt _ ∅;refine{Or.inl {(()),()},?_};change kk
def fY:df P w base 1 T.fN AX:=by
 nomatch T.fN,["_law_top","_law_bottom","_law_one","_law_other"]
 let⟨t,b,rfl,h1,h2,h3,kk⟩:=h;let g0:=Aw (t:=t) h2;let g1:Sz 8999 ((Int.gcd t b:Nat):Int):=h3.le (xa g0) (P2 h2);refine{_,(af (O6 (i:=2) (j:=3) rfl qN rfl rfl ∅ rfl rfl (ah (pv 0) (ah (pv 1) ag)) rfl)
  (af (nK yP (ptr fq (pv 3) ae)
  (ak (O6 (i:=2) (j:=3) rfl qN rfl rfl ∅ rfl rfl (ah (pv 3) (ah (ax aR (pv 2) (pv 3)) ag)) rfl)))
  (ak (aq (bF (ah (ax rg (pv 0) (pv 2)) (ah (ax rg (pv 1) (pv 2)) ag))))))),?_}
 exists _,_,rfl,?_;refine{λm U H'=>H'=H/\∃(x y:Int),U=[some (.int t),some (.int b),some (.int x),some (.int y)]/\0<=x/\0<=y/\Int.gcd x y=Int.gcd t b/\m=y.toNat,{_,rfl,t,b,rfl,h1,xa h2,rfl,rfl},?_};rintro m U H' ⟨rfl,x,y,rfl,hx,hy,hg,rfl⟩;left
 by_cases e:y=0
 ·subst e
  refine bX (by simp) ?_;let e2:Int.gcd t b=x.natAbs:=by rw[<-hg];simp
  let e3:x=((Int.gcd t b:Nat):Int):=by rw[e2];ext
  subst e3;exists{(g0),g1},?_;exists{(g0),g1},?_;refine{cM,laid λp H' sm hp=>kk p H' sm ?_};exact hp
 ·let hp:(0:Int)<y:=()
  refine bR (zg hp) ?_;refine{λU' H''=>∃m',m'<y.toNat/\H''=H'/\∃(x y:Int),U'=[some (.int t),some (.int b),some (.int x),some (.int y)]/\0<=x/\0<=y/\Int.gcd x y=Int.gcd t b/\m'=y.toNat,λ_ _ h=>h,?_};exists(by show(0:Int)<y;ext),?_;refine{_,_,rfl,?_};let l1:=zw x (by omega:y≠0);let l2:=zt x hp;exact{(x%y).toNat,(),rfl,y,x%y,rfl,hy,l1,(IX hx hp).trans hg,rfl}
def eE:gq ["text","parts","top","bottom"] ["text"] (aT oZ):=Vt
def ic:df P w base 1 T.dy hV:=by
 nomatch T.dy,["text","most"]
 let⟨t,most,rfl,hl,kk⟩:=h;let sl:=yC;let hz:⇑t<=sizeLine:=()
 let el:⇑t.cps.toList=⇑t:=yQ;unfold rn at kk;rw[el] at kk;refine{_,(af (aI (PW.pt (d8 (ptr fe (eA gh T.bG (ah (pv 0) ag)) ae) (dw (ptr fq (eA gh T.bG (ah (pv 0) ag)) (pv 1)))))
  (ak (aq aS))
  aA)
  (af (aI (fH (cU (eA (oK rfl) T.LX (ah (nM (ts:=["sign"]) (ys:=[]) (js:=[]) (te:=(eO (λx y H Q=>∃i j,x=.str i/\y=.str j/\Q (.bl (!(Builtin.Str.occurrences j i 0 ⇑j 1).isEmpty)) H) (aW 0) (tC (.str "0123456789")))) (Pd (pv 0)) (gr 0) bx (dN Er (pv 0) (b7 (v:=.str "0123456789") (by rfl) T.NN {_,rfl}) (by with_unfolding_all rfl))) ag))))
  (ak (aq aS))
  aA)
  (af (aI (PW.pt (dm (ptr cZ (Br F0 (pv 0) ae (λ_ _=>rfl)) aL) (cP (ptr fq (eA gh T.bG (ah (pv 0) ag)) ae))))
  (ak (aq aS))
  aA)
  (ak (aq (mS Gw T.Sn (ah (pv 0) ag))))))),?_}
 exists hz,?_;left;refine vR (λc1=>?_) (λc1=>?_)
 ·left
  let z:=kk H (au.refl H);rw[yO (ye c1)] at z;exact z
 let c1':¬(⇑t:Int)<1:=λz=>c1 (zg z);rw[yN c1'] at kk;exists hz,?_;left;refine vR (λc2=>?_) (λc2=>?_)
 ·left
  let z:=kk H (au.refl H);rw[yO (ye c2)] at z;exact z
 let c2':¬most<(⇑t:Int):=λz=>c2 (zg z);rw[yN c2'] at kk;left;refine oa ⇑t (λi=>(t.cps.toList.take i).map λc=>V.bl (decide (c∈vU))) (λi U H'=>H'=H/\∃v,U=[v]) (λi hi=>by rw[za,zQ];ext) () rfl {(rfl),none,rfl} (λi U H' hi _=>hi) (λU H' _=>zm _) ?_ ?_
 ·rintro i x U H1 H2 hi ⟨rfl,v,rfl⟩ ⟨rfl,c,hc,rfl⟩
  left;refine JU.push hi ?_ {rfl,_,rfl};rw[PySem.StrLaws.found_one];rw[<-xk] at hc;show List.map _ (List.take (i+1) t.cps.toList)=_;rw[xx,hc,zk];rfl
 ·rintro U H1 ⟨rfl,_⟩
  rw[<-el,zN];intros D H2 sm h2;refine{D,t.cps.toList.map (λc=>decide (c∈vU)),rfl,aH.of (by rw[h2,zB];rfl),?_};let ea:(t.cps.toList.map (λc=>decide (c∈vU))).all id=t.cps.toList.all (λc=>decide (c∈vU)):=by rw[wj];rfl
  rw[ea]
  by_cases ha:t.cps.toList.all (λc=>decide (c∈vU))=true
  ·rw[ha]
   rw[yO ha] at kk;left;let h1:0<t.cps.size:=by show 0<⇑t;ext
   obtain⟨c,hc⟩:∃c,t.cps[0]?=some c:={t.cps[0]'h1,Array.getElem?_eq_getElem h1}
   let hc':t.cps.toList[0]?=some c:=by rw[xk];exact hc
   rw[hc'] at kk;refine{_,0,c,rfl,rfl,hz,bz (j:=0) hc',?_};left;let rd:PySem.intText? t=some ((NumText.digitsVal t.cps.toList:Nat):Int):=PySem.intText_digits (Le ha) (λz=>by rw[z] at el;simp at el;ext) ()
   by_cases e0:c=48
   ·subst e0
    refine bR ∅ ?_;exists hz,?_;left;refine vR (λc3=>?_) (λc3=>?_)
    ·left
     let c3':1<⇑t:=by have:=ye c3;ext
     let z:=kk H2 sm;rw[yO {(rfl),c3'}] at z;exact z
    ·let c3':¬1<⇑t:=λz=>c3 (zg ())
     let z:=kk H2 sm;rw[yN (λq=>c3' q.2)] at z;change{_,_,rfl,rd,(),z}
   ·refine bX (ze λz=>e0 ?_) ?_
    ·let z':=V.str.inj z
     exact(List.cons.inj (show [c]=[48] from y6 (λy:Str=>y.cps.toList) z')).1
    let z:=kk H2 sm;rw[yN (λq=>e0 (yk q.1))] at z;change{_,_,rfl,rd,(),z}
  ·rw[yN ha] at kk
   rw[Bool.eq_false_iff.mpr ha];change kk H2 sm
def mC:df P w base 2 T.fJ mj:=by
 let G_read_number:df P w base 1 T.dy hV:=ic T
 nomatch T.fJ,["text","most","number"]
 let⟨t,most,rfl,hl,kk⟩:=h;let sl:=yC;unfold rs at kk;refine{_,(af (aI (fH (cU (bJ yG PySem.F.slot_str_startswith PySem.F.type_str_startswith Ds (pv 0) (ah aL ag))))
  (ak (aq (bM G_read_number hr T.dy (ah (pv 0) (ah (pv 1) ag)))))
  aA)
  (af (bN 2 qN (bM G_read_number hr T.dy (ah (cY Kd (pv 0) (dC ae) dE) (ah (pv 1) ag))))
  (af (aI (PW.pt (d8 (bw (cx (pv 2))) (dw (ptr cZ (pv 2) ae))))
  (ak (aq aS))
  aA)
  (ak (aq (nL je (pv 2))))))),?_}
 left
 by_cases hn:t.cps.toList[0]?=some 45
 ·rw[yO hn] at kk
  let q:=(PySem.StrLaws.subAt_one t 45 0).mpr hn;let es:(decide (0+("-": Str).length<=⇑t)&&Builtin.Str.subAt t "-" 0)=true:=by
   rw[zO];exact{zg q.1,q.2}
  rw[es];exists by ext,?_
  let h1:1<=⇑t:=by have:=q.1;let e:⇑({#[45]}:Str)=1:=rfl;ext
  let e1:(PySem.Txt.slice t (some 1) none).cps.toList=t.cps.toList.drop 1:=pC t h1;exists _,most,rfl,zM (PySem.Txt.slice_le t _ _) hl,λH1 s1=>?_;rw[e1];let z:=kk H1 s1;cases hr':rn most (t.cps.toList.drop 1) with
  | none=>
   rw[hr'] at z;change z
  | some n=>
   rw[hr'] at z;left
   by_cases e0:n=0
   ·subst e0
    refine bR ∅ ?_;change z
   ·refine bX (ze λy=>e0 (V.int.inj y)) ?_
    left;let z':Q (ov (if n=0 then none else some (-n))) H1:=z;rw[yN e0] at z';exact z'
 ·rw[yN hn] at kk
  let es:(decide (0+("-": Str).length<=⇑t)&&Builtin.Str.subAt t "-" 0)=false:=by
   rw[Bool.eq_false_iff];intro z;rw[zO] at z;exact hn ((PySem.StrLaws.subAt_one t 45 0).mp {ye z.1,z.2})
  rw[es];change{t,most,rfl,hl,λH1 s1=>kk H1 s1}
def nN:df P w base 3 T.ji nh:=by
 let G_read_signed:df P w base 2 T.fJ mj:=mC T
 nomatch T.ji,["fifths_text","steps_text","fifths","steps"]
 let⟨a,b,rfl,la,lb,kk⟩:=h;unfold rp at kk;refine{_,(af (bN 2 qN (bM G_read_signed hr T.fJ (ah (pv 0) (ah (b7 (v:=.int 2) (by rfl) T.mP {_,rfl}) ag))))
  (af (bN 3 qN (bM G_read_signed hr T.fJ (ah (pv 1) (ah (b7 (v:=.int 2) (by rfl) T.mP {_,rfl}) ag))))
  (af (aI (PW.pt (d8 (bw (cx (pv 2))) (dw (bw (cx (pv 3))))))
  (ak (aq aS))
  aA)
  (af (aI (ptr kK (ax aR (ax jt (pv 3) (ax dP (b7 (v:=.int 7) (by rfl) T.DP {_,rfl}) (pv 2))) (b7 (v:=.int 12) (by rfl) T.Ce {_,rfl})) ae)
  (ak (aq aS))
  aA)
  (ak (aq (bF (ah (pv 2) (ah (pv 3) ag))))))))),?_}
 exists a,2,rfl,la,λH1 s1=>?_;exists b,2,rfl,lb,λH2 s2=>?_;let S2:=s1.trans s2;cases ea:rs 2 a with
 | none=>
  rw[ea] at kk;change kk .bP H2 S2 .bP
 | some f=>
  cases eb:rs 2 b with
  | none=>
   rw[ea,eb] at kk;change kk .bP H2 S2 .bP
  | some g=>
   rw[ea,eb] at kk;left
   by_cases hm:(g-7*f)%12=0
   ·refine Ss (y6 V.int hm) ?_
    left;refine{cM,laid λp H3 s3 hp=>kk (.ref p) H3 (S2.trans s3) ?_};show Ls H3 (.ref p) (if(g-7*f)%12=0 then some (f,g) else none);rw[yO hm];exact .ref hp
   ·refine bR (by simp[hm]) ?_
    left;refine kk .bP H2 S2 ?_;show Ls H2 .bP (if(g-7*f)%12=0 then some (f,g) else none);rw[yN hm];exact .bP
def mB:dB P w K mg base (JS P w) 3 T.kz T.kr ["text"] (mi T.jE):=by
 let G_read_number:df P w base 1 T.dy hV:=ic T;let G_made_length:df P w base 2 T.eI fU:=jw T;refine T.eF.F.Xu eE (λvs H Q E h=>?_) (λcdv A' outer s H vs Q E hr h=>?_)
 ·let⟨_,rfl,_⟩:=h;rfl
 ·let⟨t,rfl,lt,k1,k2⟩:=h
  let sl:=yC;let pl:=PyProof.Rows.split_pos t "/";let sh:∀z∈Txt.split t "/",⇑z<=600:=λz hz=>zM (xS hz) lt;unfold QJ at k1 k2;refine{_,(af (bN 1 eE.nd (bJ yG yK yJ jA (pv 0) (ah aL ag)))
   (af (aI (ptr fq (eA aE T.bG (ah (pv 1) ag)) ae)
   (ak (Ij T.lU T.lL PySem.F.excBase_ValueError rfl (ah aL ag)))
   aA)
   (af (bN 2 eE.nd (bM G_read_number hr T.dy (ah (fG (pv 1) ae) (ah (b7 (v:=.int 4) (by rfl) T.kZ {_,rfl}) ag))))
   (af (bN 3 eE.nd ae)
   (af (aI (ptr cZ (eA aE T.bG (ah (pv 1) ag)) ae)
   (ak (bN 3 eE.nd (bM G_read_number hr T.dy (ah (fG (pv 1) ae) (ah (b7 (v:=.int 4) (by rfl) T.kZ {_,rfl}) ag)))))
   aA)
   (af (aI (PW.pt (d8 (bw (cx (pv 2))) (d8 (bw (cx (pv 3))) (dw (ptr cZ (pv 3) ae)))))
   (ak (Ij T.lU T.lL PySem.F.excBase_ValueError rfl (ah aL ag)))
   aA)
   (ak (aq (bM G_made_length hr T.eI (ah (pv 2) (ah (pv 3) ag))))))))))),?_}
  exists by ext,?_
  generalize Txt.split t "/"= ws at k1 k2 pl sh;intros p1 H1 s1 h1;exists p1,_,rfl,.inl (aH.of h1),?_
  match ws,pl,sh,k1,k2,h1 with
  | [a],_,sh,k1,k2,h1=>
   exists p1,_,0,_,rfl,rfl,aH.of h1,rfl,?_;exists a,4,rfl,sh a (by simp),λH2 s2=>?_;replace h1:=s2 _ _ h1;exists p1,_,rfl,.inl (aH.of h1),?_;cases ea:rn 4 a.cps.toList with
   | none=>
    simp only[ea] at k1 k2;left;refine{by show 1<=sizeLine;decide,k2 trivial H2 (s1.trans s2)}
   | some n=>
    simp only[ea] at k1 k2;let⟨n0,n1,_⟩:=OT ea ∅;change{_,_,rfl,n0,∅,(cu (n:=1) ∅ ∅).mono ∅,λp3 H3 s3 h3=>k1 _ rfl p3 H3 ((s1.trans s2).trans s3) h3}
  | [a,b],_,sh,k1,k2,h1=>
   exists p1,_,0,_,rfl,rfl,aH.of h1,rfl,?_;exists a,4,rfl,sh a (by simp),λH2 s2=>?_;replace h1:=s2 _ _ h1;exists p1,_,rfl,.inl (aH.of h1),?_;exists p1,_,1,_,rfl,rfl,aH.of h1,rfl,?_;exists b,4,rfl,sh b (by simp),λH3 s3=>?_;let S3:=(s1.trans s2).trans s3;cases ea:rn 4 a.cps.toList with
   | none=>
    simp only[ea] at k1 k2;change{by show 1<=sizeLine;decide,k2 trivial H3 S3}
   | some n=>
    cases eb:rn 4 b.cps.toList with
    | none=>
     simp only[ea,eb] at k1 k2;change{by show 1<=sizeLine;decide,k2 trivial H3 S3}
    | some m=>
     simp only[ea,eb] at k1 k2;let⟨n0,n1,_⟩:=OT ea ∅;let⟨m0,m1,_⟩:=OT eb ∅;left
     by_cases e0:m=0
     ·subst e0
      refine bR ∅ ?_;change{by show 1<=sizeLine;decide,k2 rfl H3 S3}
     ·rw[yN e0] at k1
      refine bX (ze λy=>e0 (V.int.inj y)) ?_;change{_,_,rfl,n0,(),(cu (n:=14) () ()).mono ∅,λp4 H4 s4 h4=>k1 _ rfl p4 H4 (S3.trans s4) h4}
  | a::b::c::r,_,sh,k1,k2,h1=>
   left;refine bR (zg (show(2:Int)<(⇑((a::b::c::r).map V.str):Int) by rw[za];simp only[zv];ext)) ?_;change{by show 1<=sizeLine;decide,k2 rfl H1 s1}
def gW:df P w base 4 T.dI gS:=by
 let G_read_length:dB P w K mg base (JS P w) 3 T.kz T.kr ["text"] (mi T.jE):=mB T
 nomatch T.dI,["text","length"]
 let⟨t,rfl,lt,kk⟩:=h;unfold lr at kk;refine{_,(af (Ri G_read_length (hr.mono ∅) rfl T.eF.g T.eF.F.kp T.eF.b (ah (pv 0) ag) rfl qN (i:=1) rfl (Or.inl rfl) rfl T.lU T.lL rfl rfl rfl (λe=>(ak (aq aS))))
  (af (aI (ptr cZ (bE (pv 1) ae) ae)
  (ak (aq aS))
  aA)
  (ak (aq (pv 1))))),?_}
 left;refine{lt,λx ex p1 H1 s1 h1=>?_,λen H1 s1=>{rfl,?_}}
 ·simp only[ex] at kk
  left
  by_cases e0:x.1=0
  ·refine bR (by rw[e0];rfl) ?_
   left;rw[yO e0] at kk;exact kk .bP H1 s1 .bP
  ·refine bX (ze λy=>e0 (V.int.inj y)) ?_
   left;rw[yN e0] at kk;exact kk (.ref p1) H1 s1 (.ref h1)
 ·simp only[en] at kk
  change kk .bP H1 s1 .bP
def RB {ws:List Str} (h:1<=⇑ws):DR (ws.map V.str) (-1)=some (.str (ws.getLast?.getD "")):=by
 let ne:ws≠[]:=λz=>by rw[z] at h;simp at h
 let e:=xY ne;let e2:ws.getLast?.getD ""= ws.getLast ne:=by rw[List.getLast?_eq_some_getLast ne];rfl
 rw[e2];let e3:ws.map V.str=ws.dropLast.map V.str++[V.str (ws.getLast ne)]:=by rw[<-List.map_singleton (f:=V.str),<-zk,e]
 rw[e3];exact rY _ _
def BH {ws:List Str} (h:1<=⇑ws):ws.getLast?.getD "" ∈ws:=by
 let ne:ws≠[]:=λz=>by rw[z] at h;simp at h
 rw[List.getLast?_eq_some_getLast ne];exact List.getLast_mem ne
def Dg:df P w base 5 T.sX oW:=by
 let G_read_item_length:df P w base 4 T.dI gS:=gW T;let G_read_pitch:df P w base 3 T.ji nh:=nN T
 nomatch T.sX,["text","parts","length","pitch"]
 let⟨t,rfl,lt,kk⟩:=h;let sl:=yC;let pl:=PyProof.Rows.split_pos t ":";let sh:∀z∈Txt.split t ":",⇑z<=600:=λz hz=>zM (xS hz) lt;unfold ir at kk;refine{_,(af (bN 1 qN (bJ yG yK yJ jA (pv 0) (ah aL ag)))
  (af (bN 2 qN (bM G_read_item_length hr T.dI (ah (fG (pv 1) (nL je ae)) ag)))
  (af (aI (bw (cx (pv 2)))
  (ak (aq aS))
  aA)
  (af (aI (PW.pt (dm (ptr cZ (eA aE T.bG (ah (pv 1) ag)) ae) (cP (ptr cZ (fG (pv 1) ae) aL))))
  (ak (aq (bF (ah aS (ah (pv 2) ag)))))
  aA)
  (af (aI (ptr kK (eA aE T.bG (ah (pv 1) ag)) ae)
  (ak (aq aS))
  aA)
  (af (bN 3 qN (bM G_read_pitch hr T.ji (ah (fG (pv 1) ae) (ah (fG (pv 1) ae) ag))))
  (af (aI (bw (cx (pv 3)))
  (ak (aq aS))
  aA)
  (ak (aq (bF (ah (pv 3) (ah (pv 2) ag)))))))))))),?_}
 exists by ext,?_
 generalize Txt.split t ":"= ws at kk pl sh;intros p1 H1 s1 h1;exists p1,_,-1,_,rfl,rfl,aH.of h1,RB pl,?_;refine{_,rfl,sh _ (BH pl),λv H2 s2 hv=>?_};let h2:=s2 _ _ h1;let S2:=s1.trans s2;generalize lr (ws.getLast?.getD "")=o at kk hv;cases hv with
 | bP=>
  change kk .bP H2 S2 rfl
 | @ref p2 x hx=>
  let kk':∀v H',au H H'->R8 H' v (if ws.dropLast=[("r": Str)] then some (none,x) else match ws.dropLast with
   | [a,b]=>(match rp a b with | some q=>some (some q,x) | none=>none)
   | _=>none)->Q v H':=kk
  clear kk;exists p1,_,rfl,.inl (aH.of h2),?_
  match ws,pl,sh,kk',h2 with
  | [a],_,sh,kk,h2=>
   exists p1,_,rfl,.inl (aH.of h2),?_;change kk .bP H2 S2 rfl
  | [a,b],_,sh,kk,h2=>
   exists p1,_,0,_,rfl,rfl,aH.of h2,rfl,?_;left
   by_cases ea:a ="r"
   ·subst ea
    refine bR ∅ ?_;change{cM,laid λp3 H3 s3 h3=>kk (.ref p3) H3 (S2.trans s3) {p3,_,p2,rfl,h3,s3 _ _ hx,.bP}}
   ·refine bX (ze λz=>ea (V.str.inj z)) ?_
    exists p1,_,rfl,.inl (aH.of h2),?_;left;refine kk .bP H2 S2 ?_;rw[yN (by intro z;exact ea (List.cons.inj z).1)];rfl
  | [a,b,c],_,sh,kk,h2=>
   exists p1,_,rfl,.inl (aH.of h2),?_;exists p1,_,0,_,rfl,rfl,aH.of h2,rfl,?_;exists p1,_,1,_,rfl,rfl,aH.of h2,rfl,?_;refine{a,b,rfl,sh a (by simp),sh b (by simp),λv H3 s3 hv=>?_};let kk2:∀v H',au H H'->R8 H' v (match rp a b with | some q=>some (some q,x) | none=>none)->Q v H':=λv H' s' z=>kk v H' s' (by
    rw[yN (by intro y;simp at y)];exact z)
   generalize rp a b=o at kk2 hv;cases hv with
   | bP=>
    change kk2 .bP H3 (S2.trans s3) rfl
   | @ref p4 q hq=>
    change{cM,laid λp5 H5 s5 h5=>kk2 (.ref p5) H5 ((S2.trans s3).trans s5) {p5,_,p2,rfl,h5,s5 _ _ (s3 _ _ hx),.ref (s5 _ _ hq)}}
  | a::b::c::d::r,_,sh,kk,h2=>
   exists p1,_,rfl,.inl (aH.of h2),?_;left;refine kk .bP H2 S2 ?_;rw[yN (by intro y;simp at y)];rfl
def Iw:df P w base 1 T.words_of Hy:=by
 nomatch T.words_of,["row"]
 let⟨t,rfl,hl,kk⟩:=h;let sl:=yC;let ple:=PyProof.Rows.split_le t " ";refine{_,(ak (aq (nM (ts:=["word"]) (ys:=[]) (js:=[]) (g:=(bW 0)) (tc:=(kF (eO WJ (aW 0) (tC (.str ""))))) (te:=(aW 0)) (bf (bJ yG yK yJ jA (pv 0) (ah aL ag))) (gr 0) (fW (ptr kK (pv 0) aL)) (pv 0)))),?_};ac_rfl;exists by ext,?_
 unfold words at kk;generalize Txt.split t " "= ws at kk ple;intros p1 H1 s1 h1;refine{p1,rfl,{_,aH.of h1},?_};refine oa ⇑ws (λi=>((ws.take i).filter λw=>decide (w≠("": Str))).map V.str) (λi U H'=>H'=H1/\∃v,U=[v]) ?_ () rfl {(rfl),none,rfl} ?_ ?_ ?_ ?_
 ·intro i hi
  rw[za];exact zM (xj _ _) (by rw[zQ];ext)
 ·rintro i U H' hi ⟨rfl,_⟩
  exact ED (aH.of h1) (by rw[za];exact hi)
 ·rintro U H' ⟨rfl,_⟩
  exact{_,aH.of h1,by rw[za];exact zm _}
 ·rintro i x U H' H2 hi ⟨rfl,v,rfl⟩ ⟨rfl,hy⟩
  let hx:=hy _ (aH.of h1);rw[zK,zd hi] at hx;cases hx;left
  by_cases e:ws[i] =""
  ·refine bX (by rw[e];rfl) ?_
   refine JU.skip hi ?_ {rfl,_,rfl};show List.map V.str (List.filter _ (List.take (i+1) ws))=List.map V.str (List.filter _ (List.take i ws));rw[xx,zd hi,e,yY];simp
  ·refine bR (by rw[ze λz=>e (V.str.inj z)];rfl) ?_
   left;refine JU.push hi ?_ {rfl,_,rfl};show List.map V.str (List.filter _ (List.take (i+1) ws))=List.map V.str (List.filter _ (List.take i ws))++[V.str ws[i]];rw[xx,zd hi,yY,zk];have:List.filter (λw=>decide (w≠("": Str))) (Option.toList (some ws[i]))=[ws[i]]:=by simp[e]
   rw[this];rfl
 ·rintro U H' ⟨rfl,_⟩
  rw[zN];exact laid λp H' sm h=>kk p H' (s1.trans sm) h
def cq:df P w base 2 T.cT kf:=by
 nomatch T.cT,["word"]
 let⟨t,rfl,hl,kk⟩:=h;refine{_,(ak (aq (bM (ic T) hr T.dy (ah (pv 0) (ah (b7 (v:=.int (3)) (by rfl) T.kY {_,rfl}) ag))))),?_};ac_rfl;change{_,_,rfl,hl,kk}
def dQ:df P w base 1 T.eR lA:=by
 nomatch T.eR,["word"]
 let⟨t,rfl,hl,kk⟩:=h;let sl:=yC;let hz:⇑t<=sizeLine:=()
 let el:⇑t.cps.toList=⇑t:=yQ;unfold cI at kk;refine{_,(af (aI (PW.pt (d8 (ptr fe (eA gh T.bG (ah (pv 0) ag)) ae) (dw (ptr fq (eA gh T.bG (ah (pv 0) ag)) (b7 (v:=.int (12)) (by rfl) T.Cj {_,rfl})))))
  (ak (aq aS))
  aA)
  (af (aI (fH (cU (eA (oK rfl) T.LX (ah (nM (ts:=["sign"]) (ys:=[]) (js:=[]) (te:=(eO (λx y H Q=>∃i j,x=.str i/\y=.str j/\Q (.bl (!(Builtin.Str.occurrences j i 0 ⇑j 1).isEmpty)) H) (aW 0) (tC (.str "abcdefghijklmnopqrstuvwxyz0123456789")))) (Pd (pv 0)) (gr 0) bx (dN Er (pv 0) (b7 (v:=.str "abcdefghijklmnopqrstuvwxyz0123456789") (by rfl) T.Gx {_,rfl}) (by with_unfolding_all rfl))) ag))))
  (ak (aq aS))
  aA)
  (ak (aq (pv 0))))),?_}
 ac_rfl;exists hz,?_;left;refine vR (λc1=>?_) (λc1=>?_)
 ·left
  let z:=kk H (au.refl H);rw[yO (ye c1)] at z;exact z
 let c1':¬(⇑t:Int)<1:=λz=>c1 (zg z);rw[yN c1'] at kk;exists hz,?_;left;refine vR (λc2=>?_) (λc2=>?_)
 ·left
  let z:=kk H (au.refl H);rw[yO (ye c2)] at z;exact z
 let c2':¬(12:Int)<(⇑t:Int):=λz=>c2 (zg z);rw[yN c2'] at kk;left;refine oa ⇑t (λi=>(t.cps.toList.take i).map λc=>V.bl (decide (c∈sgn))) (λi U H'=>H'=H/\∃v,U=[v]) (λi hi=>by rw[za,zQ];ext) () rfl {(rfl),none,rfl} (λi U H' hi _=>hi) (λU H' _=>zm _) ?_ ?_
 ·rintro i x U H1 H2 hi ⟨rfl,v,rfl⟩ ⟨rfl,c,hc,rfl⟩
  left;refine JU.push hi ?_ {rfl,_,rfl};rw[PySem.StrLaws.found_one];rw[<-xk] at hc;show List.map _ (List.take (i+1) t.cps.toList)=_;rw[xx,hc,zk];rfl
 ·rintro U H1 ⟨rfl,_⟩
  rw[<-el,zN];intros D H2 s2 h2;refine{D,t.cps.toList.map (λc=>decide (c∈sgn)),rfl,aH.of (by rw[h2,zB];rfl),?_};let ea:(t.cps.toList.map (λc=>decide (c∈sgn))).all id=t.cps.toList.all (λc=>decide (c∈sgn)):=by rw[wj];rfl
  rw[ea]
  by_cases ha:t.cps.toList.all (λc=>decide (c∈sgn))=true
  ·rw[ha]
   rw[yO ha] at kk;change kk _ s2
  ·rw[yN ha] at kk
   rw[show t.cps.toList.all (λc=>decide (c∈sgn))=false from by simpa using ha];change kk _ s2
def nQ:df P w base 3 T.jQ AV:=by
 nomatch T.jQ,["word","lowest","highest","number"]
 let⟨t,lo,hi,rfl,hl,kk⟩:=h;unfold mz at kk;refine{_,(af (bN 3 qN (bM (cq T) hr T.cT (ah (pv 0) ag)))
  (af (aI (PW.pt (d8 (bw (cx (pv 3))) (d8 (ptr fe (pv 3) (pv 1)) (dw (ptr fq (pv 3) (pv 2))))))
  (ak (aq aS))
  aA)
  (ak (aq (pv 3))))),?_}
 ac_rfl;exists hl,λH1 s1=>?_;cases e:fI t with
 | none=>
  rw[e] at kk;change kk _ s1
 | some n=>
  rw[e] at kk;left
  by_cases c1:n<lo
  ·refine bR (zg c1) ?_
   simp only[yO c1] at kk;change kk _ s1
  ·refine bX (ze c1) ?_
   simp only[yN c1] at kk;left
   by_cases c2:hi<n
   ·refine bR (zg c2) ?_
    simp only[yO c2] at kk;change kk _ s1
   ·refine bX (ze c2) ?_
    simp only[yN c2] at kk;change kk _ s1
def FJ:df P w base 4 T.sW Fc:=by
 nomatch T.sW,["word"]
 let⟨t,rfl,hl,kk⟩:=h;refine{_,(ak (Rh (mB T) (hr.mono ∅) rfl T.eF.g T.eF.F.kp T.eF.b (ah (pv 0) ag) rfl rfl T.lU T.lL rfl rfl rfl (λe=>(ak (aq aS))))),?_};ac_rfl;left;refine{hl,λx e p H1 s1 h1=>?_,λe H1 s1=>{rfl,?_}}
 ·rw[e] at kk
  exact kk _ H1 s1 (.ref h1)
 ·rw[e] at kk
  change kk _ H1 s1 .bP
def FI:df P w base 4 T.sV Fb:=by
 nomatch T.sV,["fifths_word","steps_word","turn"]
 let⟨a,b,rfl,la,lb,kk⟩:=h;unfold Bg at kk;refine{_,(af (bN 2 qN (bM (nN T) hr T.ji (ah (pv 0) (ah (pv 1) ag))))
  (af (aI (PW.pt (d8 (bw (cx (pv 2))) (dw (ptr fq (eA JB T.So (ah (bE (pv 2) ae) ag)) (b7 (v:=.int (12)) (by rfl) T.Ck {_,rfl})))))
  (ak (aq aS))
  aA)
  (ak (aq (pv 2))))),?_}
 ac_rfl;exists _,_,rfl,la,lb,λv H1 s1 h1=>?_;cases e:rp a b with
 | none=>
  rw[e] at kk h1;cases h1;change kk _ _ s1 .bP
 | some q=>
  rw[e] at kk h1;cases h1 with
  | ref h1=>
   left;refine vR (λc=>?_) (λc=>?_)
   ·simp only[yO (ye c)] at kk
    change kk _ _ s1 .bP
   ·simp only[yN (λz=>c (zg z))] at kk
    change kk _ _ s1 (.ref h1)
def IA:df P w base 3 T.Bm HB:=by
 nomatch T.Bm,["word","key"]
 let⟨t,rfl,hl,kk⟩:=h;unfold Ib at kk;refine{_,(af (bN 1 qN (bM (mC T) hr T.fJ (ah (pv 0) (ah (b7 (v:=.int (3)) (by rfl) T.kY {_,rfl}) ag))))
  (af (aI (PW.pt (d8 (bw (cx (pv 1))) (dw (ptr fq (eA JB T.So (ah (pv 1) ag)) (b7 (v:=.int (7)) (by rfl) T.DO {_,rfl})))))
  (ak (aq aS))
  aA)
  (ak (aq (pv 1))))),?_}
 ac_rfl;exists _,_,rfl,hl,λH1 s1=>?_;cases e:rs 3 t with
 | none=>
  rw[e] at kk;change kk _ s1
 | some n=>
  rw[e] at kk;left;refine vR (λc=>?_) (λc=>?_)
  ·simp only[yO (ye c)] at kk
   change kk _ s1
  ·simp only[yN (λz=>c (zg z))] at kk
   change kk _ s1
def d4:df P w base 1 T.dr (CQ K):=by
 nomatch T.dr,["values"]
 let⟨a,us,rfl,ha,hl,kk⟩:=h;let sl:=yC;refine{_,(af (aI (cU (eA (gH rfl) T.BD (ah (nM (ts:=["value"]) (ys:=[]) (js:=[]) (te:=(Oy (aW 0))) (bf (pv 0)) (gr 0) bx (tm (cx (pv 0)))) ag)))
  (ak (aq aS))
  aA)
  (ak (aq (pv 0)))),?_}
 ac_rfl;exists{_,ha},?_;refine eZ (enc:=λv=>v) (ws:=us) (λv=>.bl (gx v)) (λU=>∃v,U=[v]) () (by rw[List.map_id'];exact ha) {(none),rfl} ?_ ?_
 ·rintro v U H1 R hv s1 ⟨_,rfl⟩ r
  change r _ _ _ (au.refl _) (by unfold Is;rfl) {_,rfl}
 ·intro D vs H1 s1 hD il
  let e:us.map (λv=>Dt.bl (gx v))=(us.map gx).map Dt.bl:=by rw[zB];rfl
  rw[e] at il;rw[ki il] at hD;refine{D,us.map gx,rfl,aH.of hD,?_};let e2:(us.map gx).any id=us.any gx:=by rw[wH];rfl
  rw[e2];cases q:us.any gx with
  | true=>
   rw[q] at kk;change kk _ s1
  | false=>
   rw[q] at kk;change kk _ s1
def fu:df P w base 1 T.dr CP:=by
 nomatch T.dr,["values"]
 let⟨a,us,rfl,ha,hl,kk⟩:=h;let sl:=yC;refine{_,(af (aI (cU (eA (gH rfl) T.BD (ah (nM (ts:=["value"]) (ys:=[]) (js:=[]) (te:=(Oy (aW 0))) (jr (pv 0)) (gr 0) bx (tm (cx (pv 0)))) ag)))
  (ak (aq aS))
  aA)
  (ak (aq (pv 0)))),?_}
 ac_rfl;exists{_,cW.of ha},?_;refine gG (enc:=λv=>v) (ws:=us) (λv=>.bl (gx v)) (λU=>∃v,U=[v]) () (by rw[List.map_id'];exact ha) {(none),rfl} ?_ ?_
 ·rintro v U H1 R hv s1 ⟨_,rfl⟩ r
  change r _ _ _ (au.refl _) (by unfold Is;rfl) {_,rfl}
 ·intro D vs H1 s1 hD il
  let e:us.map (λv=>Dt.bl (gx v))=(us.map gx).map Dt.bl:=by rw[zB];rfl
  rw[e] at il;rw[ki il] at hD;refine{D,us.map gx,rfl,aH.of hD,?_};let e2:(us.map gx).any id=us.any gx:=by rw[wH];rfl
  rw[e2];cases q:us.any gx with
  | true=>
   rw[q] at kk;change kk _ s1
  | false=>
   rw[q] at kk;change kk _ s1
theorem nY (n:Int):∀ns:List Int,F2 (.int n) (ns.map V.int)=decide (n∈ns)
 | []=>rfl
 | m::ns=>by
  let ih:=nY n ns;unfold F2 at ih ⊢;rw[zj,xu,ih];show((m == n)||decide (n∈ns))=decide (n∈m::ns)
  by_cases e:n=m
  ·subst e
   simp
  ·simp[e,Ne.symm (a:=m) (b:=n) (λz=>e z.symm)]
   try ext
def Kr {t a b:Str} (h:Txt.split t "/"= [a,b]):jg t=(match mz a 1 32,fI b with | some m,some n=>if n∈DQ then some (m,n) else none | _,_=>none):=by unfold jg;rw[h];try rfl
def MS {t:Str} (h:(Txt.split t "/").length≠2):jg t=none:=by
 unfold jg;split
 ·rename_i e;rw[e] at h;exact absurd rfl h
 ·rfl
def OX {t a b:Str} (h:Txt.split t ":"= [a,b]):Bi t=(match fI a,oh ((Txt.split b ",").map fI) with | some n,some ps=>some (n,ps) | _,_=>none):=by unfold Bi;rw[h];try rfl
def Q8 {t:Str} (h:(Txt.split t ":").length≠2):Bi t=none:=by
 unfold Bi;split
 ·rename_i e;rw[e] at h;exact absurd rfl h
 ·rfl
def Dm:df P w base 4 T.pN (CO K):=by
 nomatch T.pN,["word","parts","top","bottom"]
 let⟨t,rfl,hl,kk⟩:=h;let sl:=yC;let sh:∀z∈Txt.split t "/",⇑z<=600:=λz hz=>zM (xS hz) hl;refine{_,(af (bN 1 qN (bJ yG yK yJ jA (pv 0) (ah aL ag)))
  (af (aI (ptr kK (eA aE T.bG (ah (pv 1) ag)) ae)
  (ak (aq aS))
  aA)
  (af (bN 2 qN (bM (nQ T) hr T.jQ (ah (fG (pv 1) ae) (ah ae (ah (b7 (v:=.int (32)) (by rfl) T.Ac {_,rfl}) ag)))))
  (af (bN 3 qN (bM (cq T) hr T.cT (ah (fG (pv 1) ae) ag)))
  (af (aI (PW.pt (d8 (bw (cx (pv 2))) (dw (gK eU (pv 3) (b7 (v:=.ref T.dZ) (by rfl) T.Ab rfl) (by with_unfolding_all rfl)))))
  (ak (aq aS))
  aA)
  (ak (aq (bF (ah (pv 2) (ah (pv 3) ag)))))))))),?_}
 ac_rfl;exists by ext,?_
 generalize ew:Txt.split t "/"= ws at sh;intros p1 H1 s1 h1;exists p1,_,rfl,.inl (aH.of h1),?_;rw[za];left
 by_cases hw:⇑ws=2
 ·obtain⟨a,b,rfl⟩:∃a b,ws=[a,b]:=by
   match ws,hw with
   | [a,b],_=>exact{(a),b,rfl}
  refine bX rfl ?_;exists p1,_,0,_,rfl,rfl,aH.of h1,rfl,?_;refine{_,_,_,rfl,sh a (by simp),λH2 s2=>?_};exists p1,_,1,_,rfl,rfl,aH.of (s2 _ _ h1),rfl,?_;refine{_,rfl,sh b (by simp),λH3 s3=>?_};let s03:=(s1.trans s2).trans s3;rw[Kr ew] at kk;cases ea:mz a 1 32 with
  | none=>
   rw[ea] at kk;change kk _ _ s03 .bP
  | some m=>
   rw[ea] at kk;left;cases eb:fI b with
   | none=>
    rw[eb] at kk;refine{T.dZ,_,rfl,.inr (T.mJ H3),rfl,rfl,?_};change kk _ _ s03 .bP
   | some n=>
    rw[eb] at kk;refine{T.dZ,DQ.map V.int,rfl,.inr (T.mJ H3),rfl,rfl,?_};show∃k,V.bl (!F2 (.int n) (DQ.map V.int))=.bl k/\_;rw[nY]
    by_cases c:n∈DQ
    ·rw[zg c]
     simp only[yO c] at kk;left;refine{cM,laid λp4 H4 s4 h4=>kk _ _ (s03.trans s4) (.ref h4)}
    ·rw[ze c]
     simp only[yN c] at kk;change kk _ _ s03 .bP
 ·refine bR (by rw[ze λz=>hw (by have:=V.int.inj z;ext)];rfl) ?_
  left;rw[MS (by rw[ew];exact hw)] at kk;exact kk _ _ s1 .bP
def IB:df P w base 4 T.Bo uo:=by
 nomatch T.Bo,["word","parts","bar","passes"]
 let⟨t,rfl,hl,kk⟩:=h;let sl:=yC;let sh:∀z∈Txt.split t ":",⇑z<=600:=λz hz=>zM (xS hz) hl;refine{_,(af (bN 1 qN (bJ yG yK yJ jA (pv 0) (ah aL ag)))
  (af (aI (ptr kK (eA aE T.bG (ah (pv 1) ag)) ae)
  (ak (aq aS))
  aA)
  (af (bN 2 qN (bM (cq T) hr T.cT (ah (fG (pv 1) ae) ag)))
  (af (bN 3 qN (bM (d4 T) hr T.dr (ah (nM (ts:=["part"]) (ys:=[]) (js:=[]) (te:=(fR kf [] E0 (bI (aW 0) dY))) (bf (bJ yG yK yJ jA (fG (pv 1) ae) (ah aL ag))) (gr 0) bx (bM (cq T) hr T.cT (ah (pv 0) ag))) ag)))
  (af (aI (PW.pt (d8 (bw (cx (pv 2))) (dw (bw (cx (pv 3))))))
  (ak (aq aS))
  aA)
  (ak (aq (bF (ah (pv 2) (ah (mS cL T.iH (ah (pv 3) ag)) ag)))))))))),?_}
 ac_rfl;exists by ext,?_
 generalize ew:Txt.split t ":"= ws at sh;intros p1 H1 s1 h1;exists p1,_,rfl,.inl (aH.of h1),?_;rw[za];left
 by_cases hw:⇑ws=2
 ·obtain⟨a,b,rfl⟩:∃a b,ws=[a,b]:=by
   match ws,hw with
   | [a,b],_=>exact{(a),b,rfl}
  refine bX rfl ?_;exists p1,_,0,_,rfl,rfl,aH.of h1,rfl,?_;refine{_,rfl,sh a (by simp),λH2 s2=>?_};exists p1,_,1,_,rfl,rfl,aH.of (s2 _ _ h1),rfl,?_;left;let lb:=sh b (by simp);let bl:=PyProof.Rows.split_le b ",";let bsh:∀z∈Txt.split b ",",⇑z<=600:=λz hz=>zM (xS hz) lb;refine{(),?_};rw[OX ew] at kk;generalize Txt.split b ","= bs at kk bl bsh;intros p3 H3 s3 h3;exists{_,aH.of h3},?_;refine eZ (enc:=V.str) (ws:=bs) (λz=>dO .int (fI z)) (λU=>∃v,U=[v]) () (aH.of h3) {(none),rfl} ?_ ?_
  ·rintro z U H4 R hz s4 ⟨_,rfl⟩ r
   change{bsh z hz,λH5 s5=>r _ _ _ s5 (BL _) {_,rfl}}
  ·intro D vs H4 s4 hD il
   let s04:=((s1.trans s2).trans s3).trans s4;refine{D,vs,rfl,aH.of hD,by rw[il.len,za];ext,λH5 s5=>?_};let e1:bs.map (λz=>dO Dt.int (fI z))=(bs.map fI).map (dO Dt.int):=by rw[zB];rfl
   rw[e1] at il;rw[j0 il];cases q:((bs.map fI).map (dO Dt.int)).any Dt.gx with
   | true=>
    rw[i9 P7 q] at kk;let kn:=kk .bP H5 (s04.trans s5) (by cases fI a <;> (unfold dO Is;rfl));cases ea:fI a with
    | none=>change kn
    | some n=>change kn
   | false=>
    let⟨xs,e2,e3,e4⟩:=i7 q;rw[e2] at kk;rw[e3] at il;let ev:=dS il;subst ev;cases ea:fI a with
    | none=>
     rw[ea] at kk;change kk .bP H5 (s04.trans s5) (by unfold dO Is;rfl)
    | some n=>
     rw[ea] at kk;left;refine{D,_,rfl,.inl {aH.of (s5 _ _ hD),?_}};intros p6 H6 s6 h6;left;refine{cM,laid λp7 H7 s7 h7=>kk _ _ (((s04.trans s5).trans s6).trans s7) ?_};show Is H7 (.tup [.int n,.tup (xs.map .int)]) _;unfold Is;refine{p7,_,rfl,h7,?_};unfold aD;refine{_,_,rfl,by unfold Is;rfl,?_};unfold aD;refine{_,_,rfl,?_,by unfold aD;rfl};unfold Is;exact{p6,_,rfl,s7 _ _ h6,rK}
 ·refine bR (by rw[ze λz=>hw (by have:=V.int.inj z;ext)];rfl) ?_
  left;rw[Q8 (by rw[ew];exact hw)] at kk;exact kk _ _ s1 (by unfold dO Is;rfl)
def Pq {α:Type} {f:Str->Option α} {ws:List Str} (h:⇑ws≠1):one f ws=none:=by
 match ws,h with
 | [],_=>rfl
 | [_],h=>exact absurd rfl h
 | _::_::_,_=>rfl
def BA:df P w base 2 T.jT (fT K (o9 .str (one cI))):=by
 nomatch T.jT,["words"]
 let⟨p,ws,rfl,hp,hl,sh,kk⟩:=h;refine{_,(af (aI (ptr kK (eA aE T.bG (ah (pv 0) ag)) ae)
  (ak (aq aS))
  aA)
  (ak (aq (bM (dQ T) hr T.eR (ah (fG (pv 0) ae) ag))))),?_}
 ac_rfl;exists p,_,rfl,.inl hp,?_;rw[za];left
 by_cases hw:⇑ws=1
 ·obtain⟨a,rfl⟩:∃a,ws=[a]:=by
   match ws,hw with
   | [a],_=>exact{(a),rfl}
  refine bX rfl ?_;exists p,_,0,_,rfl,rfl,hp,rfl,?_;exact{_,rfl,sh a (by simp),λH1 s1=>kk _ _ s1 (Ey _)}
 ·refine bR (by rw[ze λz=>hw (by have:=V.int.inj z;ext)];rfl) ?_
  left;refine kk _ _ (au.refl _) ?_;unfold o9;rw[Pq hw];exact dU
def By:df P w base 5 T.jR (fT K (o9 dL (one lr))):=by
 nomatch T.jR,["words"]
 let⟨p,ws,rfl,hp,hl,sh,kk⟩:=h;refine{_,(af (aI (ptr kK (eA aE T.bG (ah (pv 0) ag)) ae)
  (ak (aq aS))
  aA)
  (ak (aq (bM (gW T) hr T.dI (ah (fG (pv 0) ae) ag))))),?_}
 ac_rfl;exists p,_,rfl,.inl hp,?_;rw[za];left
 by_cases hw:⇑ws=1
 ·obtain⟨a,rfl⟩:∃a,ws=[a]:=by
   match ws,hw with
   | [a],_=>exact{(a),rfl}
  refine bX rfl ?_;exists p,_,0,_,rfl,rfl,hp,rfl,?_;exact{_,rfl,sh a (by simp),λv H1 s1 h1=>kk _ _ s1 (BK h1)}
 ·refine bR (by rw[ze λz=>hw (by have:=V.int.inj z;ext)];rfl) ?_
  left;refine kk _ _ (au.refl _) ?_;unfold o9;rw[Pq hw];exact dU
def Gu {α:Type} (d:α->Dt) (o:Option α):dO d o=(o.map d).getD .bP:=by cases o <;> rfl
def GG {H:Hp} {ds:List Dt} {us:List V} {a:vE} {d:Option Dt} (ha:H a=some (.tup us)) (il:aD H ds us) (h1:ds.any Dt.gx=true->d=none) (h2:ds.any Dt.gx=false->d=some (.tup ds)):Is H (d.getD .bP) (if us.any gx=true then .bP else .ref a):=by
 rw[j0 il];cases q:ds.any Dt.gx with
 | true=>rw[h1 q];exact dU
 | false=>rw[h2 q];exact cz ha il
def pR:df P w base 5 T.fF (fT K (o9 d7 nI)):=by
 nomatch T.fF,["words"]
 let⟨p,ws,rfl,hp,hl,sh,kk⟩:=h;refine{_,(af (aI (ptr kK (eA aE T.bG (ah (pv 0) ag)) ae)
  (ak (aq aS))
  aA)
  (ak (aq (bM (fu T) hr T.dr (ah (bF (ah (bM (dQ T) hr T.eR (ah (fG (pv 0) ae) ag)) (ah (bM (FI T) hr T.sV (ah (fG (pv 0) ae) (ah (fG (pv 0) ae) ag))) (ah (bM (FJ T) hr T.sW (ah (fG (pv 0) ae) ag)) ag)))) ag))))),?_}
 ac_rfl;exists p,_,rfl,.inl hp,?_;rw[za];left
 by_cases hw:⇑ws=4
 ·obtain⟨a,b,c,d,rfl⟩:∃a b c d,ws=[a,b,c,d]:=by
   match ws,hw with
   | [a,b,c,d],_=>exact{(a),b,c,d,rfl}
  refine bX rfl ?_;exists p,_,0,_,rfl,rfl,hp,rfl,?_;refine{_,rfl,sh a (by simp),λH1 s1=>?_};exists p,_,1,_,rfl,rfl,s1.seq hp,rfl,?_;exists p,_,2,_,rfl,rfl,s1.seq hp,rfl,?_;refine{_,_,rfl,sh b (by simp),sh c (by simp),λv2 H2 s2 h2=>?_};exists p,_,3,_,rfl,rfl,(s1.trans s2).seq hp,rfl,?_;refine{_,rfl,sh d (by simp),λv3 H3 s3 h3=>?_};exists nF,?_;intros p4 H4 s4 h4;let s24:=s3.trans s4;refine{p4,_,rfl,h4,(by show 3<=1000000;decide),λH5 s5=>kk _ _ (((s1.trans s2).trans s24).trans s5) ?_};unfold o9;rw[Gu];refine GG (s5 _ _ h4) (aN (Ey _) (aN (BK (h2.mono (s24.trans s5))) (nX (BK (h3.mono (s4.trans s5)))))) ?_ ?_
  ·unfold nI
   dsimp only;cases cI a <;> cases Bg b c <;> cases QJ d <;> first | (intro _;rfl) | (intro q;exact absurd q (by simp[dO,dL,Dt.gx]))
  ·unfold nI
   dsimp only;cases cI a <;> cases Bg b c <;> cases QJ d <;> first | (intro _;rfl) | (intro q;exact absurd q (by simp[dO,dL,Dt.gx]))
 ·refine bR (by rw[ze λz=>hw (by have:=V.int.inj z;ext)];rfl) ?_
  left;refine kk _ _ (au.refl _) ?_;let e:nI ws=none:=by
   rcases ws with _ | ⟨_,_ | ⟨_,_ | ⟨_,_ | ⟨_,_ | ⟨_,r⟩⟩⟩⟩⟩
   all_goals first | rfl | exact absurd rfl hw
  unfold o9;rw[e];exact dU
def FL:df P w base 3 T.oy (fT K (o9 uJ uz)):=by
 nomatch T.oy,["words"]
 let⟨p,ws,rfl,hp,hl,sh,kk⟩:=h;refine{_,(af (aI (ptr kK (eA aE T.bG (ah (pv 0) ag)) ae)
  (ak (aq aS))
  aA)
  (ak (aq (bM (fu T) hr T.dr (ah (bF (ah (bM (dQ T) hr T.eR (ah (fG (pv 0) ae) ag)) (ah (bM (cq T) hr T.cT (ah (fG (pv 0) ae) ag)) (ah (bM (dQ T) hr T.eR (ah (fG (pv 0) ae) ag)) ag)))) ag))))),?_}
 ac_rfl;exists p,_,rfl,.inl hp,?_;rw[za];left
 by_cases hw:⇑ws=3
 ·obtain⟨a,b,c,rfl⟩:∃a b c,ws=[a,b,c]:=by
   match ws,hw with
   | [a,b,c],_=>exact{(a),b,c,rfl}
  refine bX rfl ?_;exists p,_,0,_,rfl,rfl,hp,rfl,?_;refine{_,rfl,sh a (by simp),λH1 s1=>?_};exists p,_,1,_,rfl,rfl,s1.seq hp,rfl,?_;refine{_,rfl,sh b (by simp),λH2 s2=>?_};exists p,_,2,_,rfl,rfl,(s1.trans s2).seq hp,rfl,?_;refine{_,rfl,sh c (by simp),λH3 s3=>?_};exists nF,?_;intros p4 H4 s4 h4;refine{p4,_,rfl,h4,(by show 3<=1000000;decide),λH5 s5=>kk _ _ (((s1.trans s2).trans (s3.trans s4)).trans s5) ?_};unfold o9;rw[Gu];refine GG (s5 _ _ h4) (aN (Ey _) (aN (BL _) (nX (Ey _)))) ?_ ?_
  ·unfold uz
   dsimp only;cases cI a <;> cases fI b <;> cases cI c <;> first | (intro _;rfl) | (intro q;exact absurd q (by simp[dO,dL,Dt.gx]))
  ·unfold uz
   dsimp only;cases cI a <;> cases fI b <;> cases cI c <;> first | (intro _;rfl) | (intro q;exact absurd q (by simp[dO,dL,Dt.gx]))
 ·refine bR (by rw[ze λz=>hw (by have:=V.int.inj z;ext)];rfl) ?_
  left;refine kk _ _ (au.refl _) ?_;let e:uz ws=none:=by
   rcases ws with _ | ⟨_,_ | ⟨_,_ | ⟨_,_ | ⟨_,r⟩⟩⟩⟩
   all_goals first | rfl | exact absurd rfl hw
  unfold o9;rw[e];exact dU
def nU {H:Hp} {ws:List Str} {vs:List V} {α:Type} {d:α->Dt} {f:Str->Option α} (il:aD H (ws.map λz=>dO d (f z)) vs):aD H ((ws.map f).map (dO d)) vs:=by
 let e:ws.map (λz=>dO d (f z))=(ws.map f).map (dO d):=by rw[zB];rfl
 rw[<-e];exact il
def Di:df P w base 2 T.lG (fT K (o9 gE sZ)):=by
 nomatch T.lG,["words","names"]
 let⟨p,ws,rfl,hp,hl,sh,kk⟩:=h;let sl:=yC;refine{_,(af (aI (ptr fe (eA aE T.bG (ah (pv 0) ag)) ae)
  (ak (aq aS))
  aA)
  (af (bN 1 qN (bM (d4 T) hr T.dr (ah (nM (ts:=["word"]) (ys:=[]) (js:=[]) (te:=(fR lA [] E0 (bI (aW 0) dY))) (bf (pv 0)) (gr 0) bx (bM (dQ T) hr T.eR (ah (pv 0) ag))) ag)))
  (af (aI (bw (cx (pv 1)))
  (ak (aq aS))
  aA)
  (ak (aq (bF (ah (fG (pv 1) ae) (ah (mS cL T.iH (ah (cY fV (pv 1) (dC ae) dE) ag)) ag)))))))),?_}
 ac_rfl;exists p,_,rfl,.inl hp,?_;rw[za];left;refine vR (λc=>?_) (λc=>?_)
 ·left
  refine kk _ _ (au.refl _) ?_;let hw:=ye c;let e:sZ ws=none:=by
   rcases ws with _ | ⟨_,_ | ⟨_,r⟩⟩
   all_goals first | rfl | (simp at hw;ext)
  unfold o9;rw[e];exact dU
 ·let hw:¬(⇑ws:Int)<2:=λz=>c (zg z)
  obtain⟨a,b,r,rfl⟩:∃a b r,ws=a::b::r:=by
   match ws,hw with
   | [],h=>exact absurd (by simp) h
   | [_],h=>exact absurd (by simp) h
   | a::b::r,_=>exact{(a),b,r,rfl}
  exists{_,hp},?_;refine eZ (enc:=V.str) (ws:=a::b::r) (λz=>dO .str (cI z)) (λU=>∃v,U=[v]) () hp {(none),rfl} ?_ ?_
  ·rintro z U H4 R hz s4 ⟨_,rfl⟩ r
   change{sh z hz,λH5 s5=>r _ _ _ s5 (Ey _) {_,rfl}}
  ·intro D vs H4 s4 hD il
   refine{D,vs,rfl,aH.of hD,by rw[il.len,za];ext,λH5 s5=>?_};let il:=nU il;rw[j0 il];cases q:(((a::b::r).map cI).map (dO Dt.str)).any Dt.gx with
   | true=>
    left;refine kk _ _ (s4.trans s5) ?_;unfold o9;rw[pO,i9 Ja q];exact dU
   | false=>
    let⟨xs,e2,e3,e4⟩:=i7 q;rw[e3] at il;let ev:=dG il;subst ev;obtain⟨n,ps,rfl⟩:∃n ps,xs=n::ps:=by
     match xs,e4 with
     | n::ps,_=>exact{(n),ps,rfl}
    let hD5:=s5 _ _ hD;exists D,_,0,_,rfl,rfl,aH.of hD5,bz (j:=0) rfl,?_;exists D,_,rfl,aH.of hD5,?_;rw[show ky (List.map V.str (n::ps)) (some 1) none=ps.map V.str from(fM _ 1).trans rfl];intros p6 H6 s6 h6;left;refine{p6,_,rfl,.inl {aH.of h6,?_}};intros p7 H7 s7 h7;left;refine{cM,laid λp8 H8 s8 h8=>kk _ _ (((((s4.trans s5).trans s6).trans s7)).trans s8) ?_};unfold o9;rw[pO,e2];exact cz h8 (aN eJ (nX (cz (s8 _ _ h7) E4)))
def IC:df P w base 5 T.qV (fT K (o9 kX FC)):=by
 nomatch T.qV,["words","marks"]
 let⟨p,ws,rfl,hp,hl,sh,kk⟩:=h;let sl:=yC;refine{_,(af (aI (ptr fe (eA aE T.bG (ah (pv 0) ag)) ae)
  (ak (aq aS))
  aA)
  (af (bN 1 qN (bM (d4 T) hr T.dr (ah (nM (ts:=["word"]) (ys:=[]) (js:=[]) (te:=(fR lA [] E0 (bI (aW 0) dY))) (bf (cY fV (pv 0) (dC ae) dE)) (gr 0) bx (bM (dQ T) hr T.eR (ah (pv 0) ag))) ag)))
  (af (aI (bw (cx (pv 1)))
  (ak (aq aS))
  aA)
  (ak (aq (bM (fu T) hr T.dr (ah (bF (ah (bM (Dm T) hr T.pN (ah (fG (pv 0) ae) ag)) (ah (bM (IA T) hr T.Bm (ah (fG (pv 0) ae) ag)) (ah (mS cL T.iH (ah (pv 1) ag)) ag)))) ag))))))),?_}
 ac_rfl;exists p,_,rfl,.inl hp,?_;rw[za];left;refine vR (λc=>?_) (λc=>?_)
 ·left
  refine kk _ _ (au.refl _) ?_;let hw:=ye c;let e:FC ws=none:=by
   rcases ws with _ | ⟨_,_ | ⟨_,r⟩⟩
   all_goals first | rfl | (simp at hw;ext)
  unfold o9;rw[e];exact dU
 ·let hw:¬(⇑ws:Int)<2:=λz=>c (zg z)
  obtain⟨a,b,r,rfl⟩:∃a b r,ws=a::b::r:=by
   match ws,hw with
   | [],h=>exact absurd (by simp) h
   | [_],h=>exact absurd (by simp) h
   | a::b::r,_=>exact{(a),b,r,rfl}
  rw[zv,zv] at hl;exists p,_,rfl,hp,?_;rw[show ky (List.map V.str (a::b::r)) (some 2) none=r.map V.str from(fM _ 2).trans rfl];intros p1 H1 s1 h1;exists{_,aH.of h1},?_;refine eZ (enc:=V.str) (ws:=r) (λz=>dO .str (cI z)) (λU=>∃v,U=[v]) () (aH.of h1) {(none),rfl} ?_ ?_
  ·rintro z U H4 R hz s4 ⟨_,rfl⟩ r
   change{sh z (by simp[hz]),λH5 s5=>r _ _ _ s5 (Ey _) {_,rfl}}
  ·intro D vs H4 s4 hD il
   refine{D,vs,rfl,aH.of hD,by rw[il.len,za];ext,λH5 s5=>?_};let il:=nU il;rw[j0 il];let s05:=(s1.trans s4).trans s5;cases q:((r.map cI).map (dO Dt.str)).any Dt.gx with
   | true=>
    left;refine kk _ _ s05 ?_;unfold o9;unfold FC;dsimp only;rw[i9 Ja q];exact dU
   | false=>
    let⟨xs,e2,e3,e4⟩:=i7 q;rw[e3] at il;let ev:=dG il;subst ev;let hD5:=s5 _ _ hD;exists p,_,0,_,rfl,rfl,s05.seq hp,bz (j:=0) rfl,?_;refine{_,rfl,sh a (by simp),λv6 H6 s6 h6=>?_};exists p,_,1,_,rfl,rfl,(s05.trans s6).seq hp,bz (j:=1) rfl,?_;refine{_,rfl,sh b (by simp),λH7 s7=>?_};left;refine{D,_,rfl,.inl {aH.of (s7 _ _ (s6 _ _ hD5)),?_}};intros p8 H8 s8 h8;exists nF,?_;intros p9 H9 s9 h9;refine{p9,_,rfl,h9,(by show 3<=1000000;decide),λHx sx=>kk _ _ (((((s05.trans s6).trans s7).trans s8).trans s9).trans sx) ?_};unfold o9;rw[Gu];refine GG (ds:=[dO dL (jg a),dO .int (Ib b),mO xs]) (sx _ _ h9) (aN (BK (h6.mono (((s7.trans s8).trans s9).trans sx))) (aN (BL _) (nX (cz (sx _ _ (s9 _ _ h8)) E4)))) ?_ ?_
    ·unfold FC
     dsimp only;rw[e2];cases jg a <;> cases Ib b <;> first | (intro _;rfl) | (intro q;exact absurd q (by simp[dO,dL,Dt.gx,mO]))
    ·unfold FC
     dsimp only;rw[e2];cases jg a <;> cases Ib b <;> first | (intro _;rfl) | (intro q;exact absurd q (by simp[dO,dL,Dt.gx,mO]))
theorem rJ {H:Hp} {α:Type} {d:α->Dt}:∀{xs:List α} {vs:List V},aD H (xs.map d) vs->∃ps:List (α×V),ps.map (·.1)=xs/\ps.map (·.2)=vs/\∀q∈ps,Is H (d q.1) q.2
 | [],_,h=>by unfold aD at h;exact{[],rfl,h.symm,λ_ z=>nomatch z}
 | x::xs,_,h=>by
  rw[zj] at h;unfold aD at h;let⟨u,r,rfl,h1,h2⟩:=h;let⟨ps,e1,e2,hh⟩:=rJ h2;refine{(x,u)::ps,by simp[e1],by simp[e2],λq m=>?_};rcases zD.mp m with e | m
  ·subst e;exact h1
  ·exact hh q m
def item_at {H:Hp} {it:Item} {v:V} (h:Is H (eM it) v):∃a pv lv,v=.ref a/\H a=some (.tup [pv,lv])/\Is H (dO dL it.1) pv/\Is H (dL it.2) lv:=by
 unfold eM Is at h;let⟨a,vs,rfl,ha,hl⟩:=h;unfold aD at hl;let⟨pv,r,rfl,h1,hl⟩:=hl;unfold aD at hl;let⟨lv,r,rfl,h2,hl⟩:=hl;unfold aD at hl;subst hl;exact{(a),pv,lv,rfl,ha,h1,h2}
def Vo {H:Hp} {α:Type} {d:α->Dt} (f:Lz d) {o:Option α} {v:V} (h:Is H (dO d o) v):gx v=o.isNone:=by
 rw[PQ h];cases o with
 | none=>rfl
 | some x=>exact f x
def Dl:df P w base 6 T.lH (fT K VH):=by
 nomatch T.lH,["words","items"]
 let⟨p,ws,rfl,hp,hl,sh,kk⟩:=h;let sl:=yC;refine{_,(af (aI (ptr fe (eA aE T.bG (ah (pv 0) ag)) ae)
  (ak (aq aS))
  aA)
  (af (bN 1 qN (bM (d4 T) hr T.dr (ah (nM (ts:=["word"]) (ys:=[]) (js:=[]) (te:=(fR oW [] E0 (bI (aW 0) dY))) (bf (cY fV (pv 0) (dC ae) dE)) (gr 0) bx (bM (Dg T) hr T.sX (ah (pv 0) ag))) ag)))
  (af (aI (PW.pt (d8 (bw (cx (pv 1))) (dw (cU (eA (oK rfl) T.LX (ah (nM (ts:=["item"]) (ys:=[]) (js:=[]) (te:=(Oy (eO (lK K) (aW 0) (tC (.int (0)))))) (bf (pv 1)) (gr 0) bx (tm (cx (bE (pv 0) ae)))) ag))))))
  (ak (aq aS))
  aA)
  (ak (aq (bM (fu T) hr T.dr (ah (bF (ah (bM (cq T) hr T.cT (ah (fG (pv 0) ae) ag)) (ah (bM (dQ T) hr T.eR (ah (fG (pv 0) ae) ag)) (ah (pv 1) ag)))) ag))))))),?_}
 ac_rfl;exists p,_,rfl,.inl hp,?_;rw[za];left;refine vR (λc=>?_) (λc=>?_)
 ·left
  refine kk _ _ (au.refl _) ?_;let hw:=ye c;let e:lJ ws=none:=by
   rcases ws with _ | ⟨_,_ | ⟨_,_ | ⟨_,r⟩⟩⟩
   all_goals first | rfl | (simp at hw;ext)
  unfold VH;rw[e]
 ·let hw:¬(⇑ws:Int)<3:=λz=>c (zg z)
  obtain⟨a,b,i,r,rfl⟩:∃a b i r,ws=a::b::i::r:=by
   match ws,hw with
   | [],h=>exact absurd (by simp) h
   | [_],h=>exact absurd (by simp) h
   | [_,_],h=>exact absurd (by simp) h
   | a::b::i::r,_=>exact{(a),b,i,r,rfl}
  let en:lJ (a::b::i::r)=(match oh ((i::r).map ir) with | some l=>if l.all (λit=>it.1.isNone)=true then none else(match fI a,cI b with | some x,some y=>some (x,y,l) | _,_=>none) | none=>none):=rfl;unfold VH at kk;rw[en] at kk;let sh':∀z∈i::r,⇑z<=600:=λz hz=>sh z (by simp at hz ⊢;rcases hz with h | h <;> simp[h]);let hl':⇑(i::r)<=1000000:=by simp at hl ⊢;ext
  exists p,_,rfl,hp,?_;rw[show ky (List.map V.str (a::b::i::r)) (some 2) none=(i::r).map V.str from(fM _ 2).trans rfl];clear en;generalize i::r=its at kk sh' hl';intros p1 H1 s1 h1;exists{_,aH.of h1},?_;refine dW (enc:=V.str) (ws:=its) (λz=>dO eM (ir z)) (λU=>∃v,U=[v]) () (aH.of h1) {(none),rfl} ?_ ?_
  ·rintro z U H4 R hz s4 ⟨_,rfl⟩ r
   change{sh' z hz,λv H5 s5 h5=>r _ _ _ s5 (Vn h5) {_,rfl}}
  ·intro D vs H4 s4 nD hD il
   refine{D,vs,rfl,aH.of hD,by rw[il.len,za];ext,λH5 s5=>?_};let il:=nU il;rw[j0 il];let s05:=(s1.trans s4).trans s5;cases q:((its.map ir).map (dO eM)).any Dt.gx with
   | true=>
    left;refine kk _ _ s05 ?_;rw[i9 Nl q]
   | false=>
    let⟨xs,e2,e3,e4⟩:=i7 q;rw[e3] at il;rw[e2] at kk;let il5:=il.mono s5;let hD5:=s5 _ _ hD;let⟨ps,f1,f2,f3⟩:=rJ il5;let pl:⇑ps<=1000000:=by
     have:⇑ps=⇑xs:=by rw[<-f1,za]
     rw[this,e4,za];exact hl'
    exists{_,aH.of hD5},?_;refine eZ (enc:=λq:Item×V=>q.2) (ws:=ps) (λq=>.bl q.1.1.isNone) (λU=>∃v,U=[v]) () (by rw[f2];exact aH.of hD5) {(none),rfl} ?_ ?_
    ·rintro z U H6 R hz s6 ⟨_,rfl⟩ r
     let⟨a6,pv,lv,ev,h6,h7,h8⟩:=item_at (f3 z hz);rw[ev];let h66:=s6 _ _ h6;left;refine r _ _ _ (au.refl _) ?_ {_,rfl};rw[<-Vo Ue h7];unfold Is;rfl
    ·intro D2 vs2 H6 s6 hD2 il2
     let e5:ps.map (λq=>Dt.bl q.1.1.isNone)=(ps.map λq=>q.1.1.isNone).map Dt.bl:=by rw[zB];rfl
     rw[e5] at il2;rw[ki il2] at hD2;refine{D2,_,rfl,aH.of hD2,?_};let e6:(ps.map λq=>q.1.1.isNone).all id=xs.all λit=>it.1.isNone:=by rw[<-f1,wj,wj];rfl
     rw[e6];cases qa:xs.all λit=>it.1.isNone with
     | true=>
      dsimp only at kk;rw[qa] at kk;change kk _ _ (s05.trans s6) rfl
     | false=>
      dsimp only at kk;rw[qa] at kk;let s06:=s05.trans s6;exists p,_,0,_,rfl,rfl,s06.seq hp,bz (j:=0) rfl,?_;refine{_,rfl,sh a (by simp),λH7 s7=>?_};exists p,_,1,_,rfl,rfl,(s06.trans s7).seq hp,bz (j:=1) rfl,?_;refine{_,rfl,sh b (by simp),λH8 s8=>?_};exists nF,?_;intros p9 H9 s9 h9;let s59:=((s6.trans s7).trans s8).trans s9;refine{p9,_,rfl,h9,(by show 3<=1000000;decide),λHx sx=>kk _ _ ((s05.trans s59).trans sx) ?_};let s5x:=s59.trans sx;let h9x:=sx _ _ h9;clear h9
      revert h9x
      cases fI a <;> cases cI b <;> intro h9x <;> first | rfl | exact⟨p9,D,vs,rfl,h9x,s5x _ _ hD5,il5.mono s5x,s1.back nD⟩
def Bz:df P w base 5 T.jS (fT K (o9 gF lI)):=by
 nomatch T.jS,["words","times","ends"]
 let⟨p,ws,rfl,hp,hl,sh,kk⟩:=h;let sl:=yC;refine{_,(af (aI (ptr fe (eA aE T.bG (ah (pv 0) ag)) ae)
  (ak (aq aS))
  aA)
  (af (bN 1 qN (bM (nQ T) hr T.jQ (ah (fG (pv 0) ae) (ah (b7 (v:=.int (2)) (by rfl) T.Cm {_,rfl}) (ah (b7 (v:=.int (9)) (by rfl) T.Gy {_,rfl}) ag)))))
  (af (bN 2 qN (bM (d4 T) hr T.dr (ah (nM (ts:=["word"]) (ys:=[]) (js:=[]) (te:=(fR uo [] E0 (bI (aW 0) dY))) (bf (cY fV (pv 0) (dC ae) dE)) (gr 0) bx (bM (IB T) hr T.Bo (ah (pv 0) ag))) ag)))
  (af (aI (bw (cx (pv 2)))
  (ak (aq aS))
  aA)
  (ak (aq (bM (fu T) hr T.dr (ah (bF (ah (bM (cq T) hr T.cT (ah (fG (pv 0) ae) ag)) (ah (bM (cq T) hr T.cT (ah (fG (pv 0) ae) ag)) (ah (pv 1) (ah (mS cL T.iH (ah (pv 2) ag)) ag))))) ag)))))))),?_}
 ac_rfl;exists p,_,rfl,.inl hp,?_;rw[za];left;refine vR (λc=>?_) (λc=>?_)
 ·left
  refine kk _ _ (au.refl _) ?_;let hw:=ye c;let e:lI ws=none:=by
   rcases ws with _ | ⟨_,_ | ⟨_,_ | ⟨_,r⟩⟩⟩
   all_goals first | rfl | (simp at hw;ext)
  unfold o9;rw[e];exact dU
 ·let hw:¬(⇑ws:Int)<3:=λz=>c (zg z)
  obtain⟨a,b,c',r,rfl⟩:∃a b i r,ws=a::b::i::r:=by
   match ws,hw with
   | [],h=>exact absurd (by simp) h
   | [_],h=>exact absurd (by simp) h
   | [_,_],h=>exact absurd (by simp) h
   | a::b::i::r,_=>exact{(a),b,i,r,rfl}
  let en:lI (a::b::c'::r)=(match oh (r.map Bi) with | some l=>(match fI a,fI b,mz c' 2 9 with | some x,some y,some z=>some {(x),y,z,l} | _,_,_=>none) | none=>none):=rfl;unfold o9 at kk;rw[en] at kk;let sh':∀z∈r,⇑z<=600:=λz hz=>sh z (by simp[hz]);let hl':⇑r<=1000000:=by simp at hl ⊢;ext
  exists p,_,2,_,rfl,rfl,hp,bz (j:=2) rfl,?_;refine{_,_,_,rfl,sh c' (by simp),λH0 s0=>?_};exists p,_,rfl,s0.seq hp,?_;rw[show ky (List.map V.str (a::b::c'::r)) (some 3) none=r.map V.str from(fM _ 3).trans rfl];intros p1 H1 s1 h1;exists{_,aH.of h1},?_;refine eZ (enc:=V.str) (ws:=r) (λz=>dO mX (Bi z)) (λU=>∃v,U=[v]) () (aH.of h1) {(none),rfl} ?_ ?_
  ·rintro z U H4 R hz s4 ⟨_,rfl⟩ r
   change{sh' z hz,λv H5 s5 h5=>r _ _ _ s5 h5 {_,rfl}}
  ·intro D vs H4 s4 hD il
   refine{D,vs,rfl,aH.of hD,by rw[il.len,za];ext,λH5 s5=>?_};let il:=nU il;rw[j0 il];let s05:=((s0.trans s1).trans s4).trans s5;cases q:((r.map Bi).map (dO mX)).any Dt.gx with
   | true=>
    left;refine kk _ _ s05 ?_;rw[i9 P8 q];exact dU
   | false=>
    let⟨xs,e2,e3,e4⟩:=i7 q;rw[e3] at il;rw[e2] at kk;let il5:=il.mono s5;let hD5:=s5 _ _ hD;exists p,_,0,_,rfl,rfl,s05.seq hp,bz (j:=0) rfl,?_;refine{_,rfl,sh a (by simp),λH6 s6=>?_};exists p,_,1,_,rfl,rfl,(s05.trans s6).seq hp,bz (j:=1) rfl,?_;refine{_,rfl,sh b (by simp),λH7 s7=>?_};left;refine{D,_,rfl,.inl {aH.of (s7 _ _ (s6 _ _ hD5)),?_}};intros p8 H8 s8 h8;exists by show 4<=sizeLine;ext,?_
    intros p9 H9 s9 h9;let s59:=((s6.trans s7).trans s8).trans s9;refine{p9,_,rfl,h9,(by show 4<=1000000;decide),λHx sx=>kk _ _ ((s05.trans s59).trans sx) ?_};rw[Gu];refine GG (ds:=[dO .int (fI a),dO .int (fI b),dO .int (mz c' 2 9),.tup (xs.map mX)]) (sx _ _ h9) (aN (BL _) (aN (BL _) (aN (BL _) (nX (cz (sx _ _ (s9 _ _ h8)) (il5.mono (s59.trans sx))))))) ?_ ?_
    ·cases fI a <;> cases fI b <;> cases mz c' 2 9 <;> first | (intro _;rfl) | (intro q;exact absurd q (by simp[dO,dL,Dt.gx]))
    ·cases fI a <;> cases fI b <;> cases mz c' 2 9 <;> first | (intro _;rfl) | (intro q;exact absurd q (by simp[dO,dL,Dt.gx]))
def FK:df P w base 3 T.ox (fT K (o9 jC Bq)):=by
 nomatch T.ox,["words","stops","coda"]
 let⟨p,ws,rfl,hp,hl,sh,kk⟩:=h;let sl:=yC;refine{_,(af (aI (ptr kK (eA aE T.bG (ah (pv 0) ag)) ae)
  (ak (aq aS))
  aA)
  (af (bN 1 qN (bM (d4 T) hr T.dr (ah (nM (ts:=["word"]) (ys:=[]) (js:=[]) (te:=(fR kf [] E0 (bI (aW 0) dY))) (bf (cY fV (pv 0) dE (dC ae))) (gr 0) bx (bM (cq T) hr T.cT (ah (pv 0) ag))) ag)))
  (af (bN 2 qN (bM (cq T) hr T.cT (ah (fG (pv 0) ae) ag)))
  (af (aI (PW.pt (d8 (bw (cx (pv 1))) (dw (PW.pt (dm (bw (cx (pv 2))) (cP (ptr kK (fG (pv 0) ae) aL)))))))
  (ak (aq aS))
  aA)
  (ak (aq (bF (ah (fG (pv 1) ae) (ah (fG (pv 1) ae) (ah (fG (pv 1) ae) (ah (pv 2) ag))))))))))),?_}
 ac_rfl;exists p,_,rfl,.inl hp,?_;rw[za];left
 by_cases hw:⇑ws=4
 ·obtain⟨a,b,c,d,rfl⟩:∃a b c d,ws=[a,b,c,d]:=by
   match ws,hw with
   | [a,b,c,d],_=>exact{(a),b,c,d,rfl}
  let en:Bq [a,b,c,d]=(match fI a,fI b,fI c with | some x,some y,some z=>(match fI d with | some n=>some {x,y,z,some n} | none=>if d ="end" then some {(x),y,z,none} else none) | _,_,_=>none):=rfl;unfold o9 at kk;rw[en] at kk;refine bX rfl ?_;exists p,_,rfl,hp,?_;rw[show ky (List.map V.str [a,b,c,d]) none (some 3)=[a,b,c].map V.str from(AA _ 3).trans rfl];intros p1 H1 s1 h1;exists{_,aH.of h1},?_;refine eZ (enc:=V.str) (ws:=[a,b,c]) (λz=>dO .int (fI z)) (λU=>∃v,U=[v]) (by show 3<=sizeLine;ext) (aH.of h1) {(none),rfl} ?_ ?_
  ·rintro z U H4 R hz s4 ⟨_,rfl⟩ r
   change{sh z (by simp at hz ⊢;rcases hz with h | h | h <;> simp[h]),λH5 s5=>r _ _ _ s5 (BL _) {_,rfl}}
  ·intro D vs H4 s4 hD il
   refine{D,vs,rfl,aH.of hD,by rw[il.len];show 3<=1000000;decide,λH5 s5=>?_};let il:=nU il;rw[j0 il];let s05:=(s1.trans s4).trans s5;cases q:(([a,b,c].map fI).map (dO Dt.int)).any Dt.gx with
   | true=>
    exists p,_,3,_,rfl,rfl,s05.seq hp,rfl,?_;refine{_,rfl,sh d (by simp),λH6 s6=>?_};left;refine kk _ _ (s05.trans s6) ?_;let q':([fI a,fI b,fI c].map (dO Dt.int)).any Dt.gx=true:=q;clear q en kk
    revert q'
    cases fI a <;> cases fI b <;> cases fI c <;> intro q' <;> first | exact dU | exact absurd q' (by simp[dO,Dt.gx])
   | false=>
    obtain⟨x,y,z,ea,eb,ec⟩:∃x y z,fI a=some x/\fI b=some y/\fI c=some z:=by
     let q':([fI a,fI b,fI c].map (dO Dt.int)).any Dt.gx=false:=q;clear q en kk il
     revert q'
     cases fI a <;> cases fI b <;> cases fI c <;> intro q' <;> first | exact⟨_,_,_,rfl,rfl,rfl⟩ | exact absurd q' (by simp[dO,Dt.gx])
    rw[ea,eb,ec] at kk;let il':aD H4 ([x,y,z].map Dt.int) vs:=by
     have:([a,b,c].map fI).map (dO Dt.int)=[x,y,z].map Dt.int:=by simp[ea,eb,ec,dO]
     rw[this] at il;exact il
    let ev:=dS il';subst ev;let hD5:=s5 _ _ hD;exists p,_,3,_,rfl,rfl,s05.seq hp,rfl,?_;refine{_,rfl,sh d (by simp),λH6 s6=>?_};let hD6:=s6 _ _ hD5;let s06:=s05.trans s6;let fin:∀(o:Option Int) (v:V),Is H6 (dO .int o) v->fI d=o->(o=none->d ="end")->∀p7 H7,au H6 H7->H7 p7=some (.tup [.int x,.int y,.int z,v])->Q (.ref p7) H7:=λo v iv eo hend p7 H7 s7 h7=>by
     refine kk _ _ (s06.trans s7) ?_;rw[eo];cases o with
     | none=>
      simp only[hend rfl,yO];exact cz h7 (aN cE (aN cE (aN cE (nX (iv.mono s7)))))
     | some n=>exact cz h7 (aN cE (aN cE (aN cE (nX (iv.mono s7)))))
    cases ed:fI d with
    | none=>
     exists p,_,3,_,rfl,rfl,s06.seq hp,rfl,?_;left
     by_cases he:d ="end"
     ·refine bX (by rw[he];rfl) ?_
      exists D,_,0,_,rfl,rfl,aH.of hD6,rfl,?_;exists D,_,1,_,rfl,rfl,aH.of hD6,rfl,?_;exists D,_,2,_,rfl,rfl,aH.of hD6,rfl,?_;left;refine{by show 4<=sizeLine;ext,laid ?_};exact fin none .bP dU ed λ_=>he
     ·refine bR (by rw[ze λz=>he (V.str.inj z)];rfl) ?_
      left;refine kk _ _ s06 ?_;rw[ed];simp only[yN he];exact dU
    | some n=>
     exists D,_,0,_,rfl,rfl,aH.of hD6,rfl,?_;exists D,_,1,_,rfl,rfl,aH.of hD6,rfl,?_;exists D,_,2,_,rfl,rfl,aH.of hD6,rfl,?_;left;refine{by show 4<=sizeLine;ext,laid ?_};exact fin (some n) (.int n) cE ed λz=>nomatch z
 ·refine bR (by rw[ze λz=>hw (by have:=V.int.inj z;ext)];rfl) ?_
  left;refine kk _ _ (au.refl _) ?_;let e:Bq ws=none:=by
   rcases ws with _ | ⟨_,_ | ⟨_,_ | ⟨_,_ | ⟨_,_ | ⟨_,r⟩⟩⟩⟩⟩
   all_goals first | rfl | exact absurd rfl hw
  unfold o9;rw[e];exact dU
structure Dk (P:vA) (w:vB) (K:yB) {mg:Str->Option vy} (T:Txt K mg):Prop where
 LS:KD P w K T.iY [("player",.ref T.gP),("instrument",.ref T.d9),("staff",.ref T.iR),("bar",.ref T.lY),("upbeat",.ref T.gN),("holds",.ref T.kb),("notes",.ref T.iS),("repeat",.ref T.gO),("jump",.ref T.ka)]
 Uh:KD P w K T.qW [("player",.ref T.gn),("instrument",.ref T.dX),("staff",.ref T.gM),("bar",.ref T.kc),("upbeat",.ref T.gi),("holds",.ref T.iU),("notes",.ref T.gQ),("repeat",.ref T.gj),("jump",.ref T.iT)]
inductive N7 (K:yB) {mg:Str->Option vy} (T:Txt K mg):vE->Sp->Prop where
 | bK:N7 K T T.gP (fT K (o9 .str (one cI)))
 | cJ:N7 K T T.d9 (fT K (o9 d7 nI))
 | cw:N7 K T T.iR (fT K (o9 gE sZ))
 | bar:N7 K T T.lY (fT K (o9 kX FC))
 | aF:N7 K T T.gN (fT K (o9 dL (one lr)))
 | holds:N7 K T T.kb (fT K (o9 uJ uz))
 | aJ:N7 K T T.iS (fT K VH)
 | rep:N7 K T T.gO (fT K (o9 gF lI))
 | bC:N7 K T T.ka (fT K (o9 jC Bq))
noncomputable def Bp {K:yB} {mg:Str->Option vy} (T:Txt K mg):List (Str×V):=[("player",V.ref T.gP),("instrument",.ref T.d9),("staff",.ref T.iR),("bar",.ref T.lY),("upbeat",.ref T.gN),("holds",.ref T.kb),("notes",.ref T.iS),("repeat",.ref T.gO),("jump",.ref T.ka)]
def OY (K:yB) {mg:Str->Option vy} (T:Txt K mg) (x:Str):(sC (Bp T) x=none/\∀ws,oz (x::ws)=none)\/∃f D,sC (Bp T) x=some (.ref f)/\N7 K T f (fT K D)/\∀H0 H v ws,D H0 H v ws->gJ H0 H v (oz (x::ws)):=by
 by_cases e0:x ="player"
 ·subst e0
  refine .inr {_,_,rfl,.bK,λH0 H v ws h=>?_};exact m8 (g:=Told.bK) h λx z=>by unfold Is at z;exact z
 by_cases e1:x ="instrument"
 ·subst e1
  refine .inr {_,_,rfl,.cJ,λH0 H v ws h=>?_};exact m8 (g:=λ(x:Str×(Int×Int)×(Int×Int))=>Told.cJ x.1 x.2.1 x.2.2) h λx z=>(show Is H (d7 x) v from z)
 by_cases e2:x ="staff"
 ·subst e2
  refine .inr {_,_,rfl,.cw,λH0 H v ws h=>?_};exact m8 (g:=λ(x:Str×List Str)=>Told.cw x.1 x.2) h λx z=>(show Is H (gE x) v from z)
 by_cases e3:x ="bar"
 ·subst e3
  refine .inr {_,_,rfl,.bar,λH0 H v ws h=>?_};exact m8 (g:=Told.bar) h λx z=>z
 by_cases e4:x ="upbeat"
 ·subst e4
  refine .inr {_,_,rfl,.aF,λH0 H v ws h=>?_};exact m8 (g:=Told.aF) h λx z=>z
 by_cases e5:x ="holds"
 ·subst e5
  refine .inr {_,_,rfl,.holds,λH0 H v ws h=>?_};exact m8 (g:=λ(x:Str×Int×Str)=>Told.holds x.1 x.2.1 x.2.2) h λx z=>(show Is H (uJ x) v from z)
 by_cases e6:x ="notes"
 ·subst e6
  refine .inr {_,_,rfl,.aJ,λH0 H v ws h=>?_};let e:oz ("notes":: ws)=(lJ ws).map λx=>Told.aJ x.1 x.2.1 x.2.2:=rfl;rw[e];unfold VH at h;cases q:lJ ws with
  | none=>rw[q] at h;exact h
  | some y=>rw[q] at h;exact h
 by_cases e7:x ="repeat"
 ·subst e7
  refine .inr {_,_,rfl,.rep,λH0 H v ws h=>?_};exact m8 (g:=Told.rep) h λx z=>z
 by_cases e8:x ="jump"
 ·subst e8
  refine .inr {_,_,rfl,.bC,λH0 H v ws h=>?_};exact m8 (g:=Told.bC) h λx z=>z
 refine .inl {?_,λws=>?_}
 ·let f0:∀(k:Str) (v:V) (r:List (Str×V)),x≠k->sC ((k,v)::r) x=sC r x:=λk v r h=>by
   unfold sC;rw[yT];rw[show decide ((k,v).1=x)=false from ze λz=>h z.symm]
  unfold Bp;rw[f0 _ _ _ e0,f0 _ _ _ e1,f0 _ _ _ e2,f0 _ _ _ e3,f0 _ _ _ e4,f0 _ _ _ e5,f0 _ _ _ e6,f0 _ _ _ e7,f0 _ _ _ e8];rfl
 ·unfold oz
  dsimp only;rw[yN e0,yN e1,yN e2,yN e3,yN e4,yN e5,yN e6,yN e7,yN e8]
def sH {K:yB} {mg:Str->Option vy} (T:Txt K mg):Sp:=λvs H Q _=>∃x:Str,vs=[.str x]/\Q (.bl (sC (Bp T) x).isSome) H
def tD (B:Dk P w K T):df P w base 1 T.km (sH T):=by
 nomatch T.km,["word"]
 let⟨x,rfl,kk⟩:=h;refine{_,(ak (aq (tm (Ro (pv 0) (b7 (v:=.ref T.iY) (by rfl) T.EN rfl))))),?_};ac_rfl;exists T.iY,Bp T,x,rfl,B.LS,rfl,?_;left;show Q (V.bl (false ^^ (sC (Bp T) x).isSome)) H;rw[Bool.false_xor];exact kk
def uw:gq ["words","reader"] ["words"] (aT pE):=Vt
def Iz (B:Dk P w K T):df P w base 7 T.Bl (HA K):=by
 refine T.Bl.F.VY uw λcdv A' outer s H vs Q E hr h=>?_
 ·let⟨p,x,ws,rfl,hp,hl,sh,kk⟩:=h
  let sl:=yC;let hTbV:∀f sp,N7 K T f sp->UC (ku JT P w K mg base ["words","reader"] "read_row" (aT pE) T.Cp cdv A' outer s H E).Kz JT 6 f sp:=by
   intro f sp h;cases h with
   | bK=>exact{_,_,L2.dB.mono (BA T) ∅,T.jT.F.kp,T.jT.b}
   | cJ=>exact{_,_,L2.dB.mono (pR T) ∅,T.fF.F.kp,T.fF.b}
   | cw=>exact{_,_,L2.dB.mono (Di T) ∅,T.lG.F.kp,T.lG.b}
   | bar=>exact{_,_,L2.dB.mono (IC T) ∅,T.qV.F.kp,T.qV.b}
   | aF=>exact{_,_,L2.dB.mono (By T) ∅,T.jR.F.kp,T.jR.b}
   | holds=>exact{_,_,L2.dB.mono (FL T) ∅,T.oy.F.kp,T.oy.b}
   | aJ=>exact{_,_,L2.dB.mono (Dl T) ∅,T.lH.F.kp,T.lH.b}
   | rep=>exact{_,_,L2.dB.mono (Bz T) ∅,T.jS.F.kp,T.jS.b}
   | bC=>exact{_,_,L2.dB.mono (FK T) ∅,T.ox.F.kp,T.ox.b}
  refine{_,(af (aI (fH (cU (bM (tD T B) hr T.km (ah (fG (pv 0) ae) ag))))
   (ak (aq aS))
   aA)
   (af (bN 1 uw.nd (Im (b7 (v:=.ref T.iY) (by rfl) T.EN rfl) (fG (pv 0) ae) (λ_ _=>rfl)))
   (ak (aq (Iq (N7 K T) hTbV (hr.mono ∅) (pv 1) LW (ah (cY fV (pv 0) (dC ae) dE) ag)))))),?_}
  ac_rfl;exists p,_,0,_,rfl,rfl,hp,bz (j:=0) rfl,?_;refine{x,rfl,?_};rcases OY K T x with⟨ev,er⟩ | ⟨f,D,ev,htb,hd⟩
  ·rw[ev]
   left;refine kk _ _ (au.refl _) ?_;rw[er];rfl
  ·rw[ev]
   exists p,_,0,_,rfl,rfl,hp,bz (j:=0) rfl,?_;refine{T.iY,Bp T,x,_,rfl,B.LS,rfl,ev,?_};exists f,_,rfl,htb,?_;exists p,_,rfl,hp,?_;rw[show ky (List.map V.str (x::ws)) (some 1) none=ws.map V.str from(fM _ 1).trans rfl];intros p1 H1 s1 h1;refine{p1,ws,rfl,aH.of h1,(),λy hy=>sh y (by simp[hy]),λv H2 s2 h2=>kk _ _ (s1.trans s2) ((hd _ _ _ _ h2).back s1)}
def mD:df P w base 1 T.iE (uO K):=by
 nomatch T.iE,["repeats","bar","repeat"]
 let⟨p,rs,b,rfl,⟨vs,hp,il⟩,kk⟩:=h;unfold du at kk;refine{_,(af (bY yP rfl (bf (pv 0)) (ia 2 qN)
  (ak (aI (PW.pt (dm (ptr fX (bE (pv 2) ae) (pv 1)) (cP (ptr fX (pv 1) (bE (pv 2) ae)))))
   (ak (aq (pv 2)))
   aA)))
  (ak (aq aS))),?_}
 ac_rfl;exists{_,hp},?_;refine eL (K:=K) (a:=p) (xs:=vs) (λi U H'=>H'=H/\(rs.take i).find? (λr=>decide (r.first<=b)&&decide (b<=r.last))=none/\∃v,U=[some (.ref p),some (.int b),v]) {(rfl),rfl,none,rfl} (λi U H' _ h=>by rw[h.1];exact hp) ?_ ?_
 ·intro i x U H' hx hh
  refine dH λN kN0 kR0 _ _=>?_;let⟨rfl,hn,v,rfl⟩:=hh;let⟨r,hr',hi⟩:=cV il hx;let⟨a,e,rfl,ha,he⟩:=dz hi;left
  by_cases c1:r.first<=b
  ·refine bR (zg c1) ?_
   left
   by_cases c2:b<=r.last
   ·refine bR (zg c2) ?_
    left;refine kk _ ?_;rw[Ma hr' hn (by rw[zg c1,zg c2];rfl)];exact hi
   ·refine bX (ze c2) ?_
    change{EF hr' hn (by rw[ze c2,wK]),_,rfl}
  ·refine bX (ze c1) ?_
   change{EF hr' hn (by rw[ze c1,yU]),_,rfl}
 ·rintro U H' ⟨rfl,hn,v,rfl⟩
  rw[aO il,zN] at hn;left;refine kk _ ?_;rw[hn];exact dU
def FN:df P w base 2 T.tJ (Fd K):=by
 nomatch T.tJ,["repeats","bar","repeat"]
 let⟨p,rs,b,rfl,hp,kk⟩:=h;unfold eG at kk;refine{_,(af (bN 2 qN (bM (mD T) hr T.iE (ah (pv 0) (ah (pv 1) ag))))
  (ak (aq (Pf (tm (cx (pv 2))) (pP (dN cZ (pv 1) (bE (pv 2) ae) (jz _))))))),?_}
 ac_rfl;exists p,rs,b,rfl,hp,λv iv=>?_;cases q:du rs b with
 | none=>
  rw[q] at iv kk;unfold dO Is at iv;subst iv;change kk
 | some r=>
  rw[q] at iv kk;let⟨a,e,rfl,ha,he⟩:=dz iv;left;let e1:decide (V.int b=V.int r.last)=decide (b=r.last):=by simp
  show Q (.bl (decide (V.int b=V.int r.last))) H;rw[e1];exact kk
def rj:df P w base 2 T.oE (Fe K):=by
 nomatch T.oE,["repeats","bar","repeat"]
 let⟨p,rs,b,rfl,hp,kk⟩:=h;unfold dn at kk;refine{_,(af (bN 2 qN (bM (mD T) hr T.iE (ah (pv 0) (ah (pv 1) ag))))
  (ak (aq (Pf (tm (cx (pv 2))) (pP (dN cZ (pv 1) (bE (pv 2) ae) (jz _))))))),?_}
 ac_rfl;exists p,rs,b,rfl,hp,λv iv=>?_;cases q:du rs b with
 | none=>
  rw[q] at iv kk;unfold dO Is at iv;subst iv;change kk
 | some r=>
  rw[q] at iv kk;let⟨a,e,rfl,ha,he⟩:=dz iv;left;let e1:decide (V.int b=V.int r.first)=decide (b=r.first):=by simp
  show Q (.bl (decide (V.int b=V.int r.first))) H;rw[e1];exact kk
def Qd (us:List V) (h:us≠[]):¬(HT.fc ⇑us 0 (some 1)=0/\HT.fc ⇑us ⇑us none=⇑us):=by
 rintro⟨h1,_⟩;let hp:0<⇑us:=yr.mpr h;let e:HT.fc ⇑us 0 (some ((1:Nat):Int))=min 1 ⇑us:=by unfold HT.fc;simp
 let e':HT.fc ⇑us 0 (some (1:Int))=min 1 ⇑us:=e;rw[e'] at h1;ext
def MI {K:yB} {H:Hp} {e:vE} {us:List V} {Q:VK} (hu:H e=some (.tup us)) (k:∀q H1,au H H1->H1 q=some (.tup (us.drop 1))->Q (.ref q) H1):Sj K (.ref e) (some 1) none H Q:=by
 by_cases h:us=[]
 ·subst h
  exact .inr {e,[],rfl,cW.of hu,{(rfl),rfl},k e H (au.refl H) hu}
 ·refine .inl {e,us,rfl,cW.of hu,Qd us h,?_}
  rw[show ky us (some 1) none=us.drop 1 from fM us 1];exact laid k
def BC:df P w base 1 T.Ax Ka:=by
 nomatch T.Ax,["repeat","ends","behind"]
 let⟨v,r,rfl,iv,hl,kk⟩:=h;let sl:=yC;let⟨a,e,rfl,ha,he⟩:=dz iv;unfold Is at he;let⟨e',us,ee,hu,ilu⟩:=he;cases ee;refine{_,(af (bN 1 qN (bE (pv 0) ae))
  (af (bN 2 qN (ax eV (nM (ts:=["end"]) (ys:=[]) (js:=[]) (te:=(eO (lK K) (aW 0) (tC (.int (0))))) (jr (cY LP (pv 1) (dC ae) dE)) (gr 0) bx (bE (pv 0) ae)) (aZ (ah (ax aQ (bE (pv 0) ae) ae) ag))))
  (ak (aq (nM (ts:=["end","after"]) (ys:=[]) (js:=[]) (g:=(F6 K 2 (fB (bW 0) (fB (bW 1) F7)))) (te:=(Ho (bI (eO (lK K) (aW 0) (tC (.int (0)))) (bI (eO (sr λi j=>.int (i-j)) (aW 1) (tC (.int (1)))) (bI (eO (lK K) (aW 0) (tC (.int (1)))) dY))))) (Pc (by rfl) T.Pw (ah (pv 1) (ah (pv 2) ag))) (dA (n:=2) rfl (aM (gr 0) (aM (gr 1) cK))) bx (bF (ah (bE (pv 0) ae) (ah (ax jt (pv 1) ae) (ah (bE (pv 0) ae) ag))))))))),?_}
 ac_rfl;left;let main:∀(q:vE) (H1:Hp),au H H1->H1 q=some (.tup (us.drop 1))->∀(R:VK),(∀D H2,au H1 H2->H2 D=some (.lst ((r.ends.drop 1).map λx=>V.int x.1))->R (.ref D) H2)->
   cR [none] (bW 0) qF (eO (lK K) (aW 0) (tC (.int 0))) R (R7 K q) H1:=by
  intro q H1 s1 h1 R hR;let il1:aD H ((r.ends.drop 1).map mX) (us.drop 1):=by
   cases re:r.ends with
   | nil=>
    rw[re] at ilu;unfold aD at ilu;subst ilu;unfold aD;rfl
   | cons x xs=>
    rw[re,zj] at ilu;unfold aD at ilu;let⟨u,ur,rfl,_,h2⟩:=ilu;exact h2
  let⟨ps,f1,f2,f3⟩:=rJ il1;let pl:⇑ps<=1000000:=by
   have:⇑ps=⇑(r.ends.drop 1):=by rw[<-f1,za]
   rw[this,xD];ext
  refine gG (enc:=λz:Sc.End×V=>z.2) (ws:=ps) (λz=>.int z.1.1) (λU=>∃v,U=[v]) () (by rw[f2];exact h1) {(none),rfl} ?_ ?_
  ·rintro z U H6 R' hz s6 ⟨_,rfl⟩ r'
   let⟨a6,q6,ev,h6,h7⟩:=pX (f3 z hz);rw[ev];let h66:=s6 _ _ (s1 _ _ h6);change r' _ _ _ (au.refl _) cE {_,rfl}
  ·intro D vs H6 s6 hD il
   let e5:ps.map (λz=>Dt.int z.1.1)=((r.ends.drop 1).map (·.1)).map Dt.int:=by rw[<-f1,zB,zB];rfl
   rw[e5] at il;rw[dS il,zB] at hD;exact hR D H6 s6 hD
 refine MI hu λq H1 s1 h1=>{q,rfl,{_,cW.of h1},main q H1 s1 h1 _ λD H2 s2 h2=>?_}
 let ha2:=s2 _ _ (s1 _ _ ha);exists by show 1<=sizeLine;ext,?_
 intros p3 H3 s3 h3;refine{D,p3,_,_,rfl,rfl,aH.of (s3 _ _ h2),aH.of h3,by rw[za,xD];show _+1<=_;ext,?_};intros p4 H4 s4 h4;let s04:=(s1.trans s2).trans (s3.trans s4);let hu4:=s04 _ _ hu;let eb:(List.map (λx=>V.int x.1) (r.ends.drop 1)++[V.int (r.last+1)])=((r.ends.drop 1).map (·.1)++[r.last+1]).map V.int:=by rw[zk,zB];rfl
 rw[eb] at h4;left;let ilu4:=ilu.mono s04;let ul:=aO ilu;refine{true,false,e,p4,us,_,rfl,cW.of hu4,aH.of h4,?_};generalize hbs:(r.ends.drop 1).map (·.1)++[r.last+1]=bs at h4;let zl:⇑(r.ends.zip bs)=min ⇑r.ends ⇑bs:=xC;refine Cb (ws:=r.ends.zip bs) (λz x H'=>∃p u,x=.ref p/\H' p=some (.tup [u,.int z.2])/\Is H' (mX z.1) u) (λz=>NF (z.1.1,z.2-1,z.1.2)) (λU=>∃u v,U=[u,v]) () {(none),none,rfl} ?_ ?_ ?_ ?_ ?_
 ·intro i H5 hi s5
  let i1:i<⇑us:=()
  let i2:i<⇑(bs.map V.int):=by rw[za];ext
  exact{us,bs.map V.int,us[i],(bs.map V.int)[i],cW.of (s5 _ _ hu4),aH.of (s5 _ _ h4),zd i1,zd i2}
 ·intro H5 s5
  refine{us,bs.map V.int,cW.of (s5 _ _ hu4),aH.of (s5 _ _ h4),?_};rw[za];rcases Nat.le_total ⇑r.ends ⇑bs with h | h
  ·exact Or.inl ()
  ·right;ext
 ·rintro i x H5 H6 hi s5 ⟨p,u,v,hp,rfl,rfl,hu',hv'⟩
  let i1:i<⇑r.ends:=()
  let i2:i<⇑bs:=()
  let gu:=hu' us (cW.of (s5 _ _ hu4));let gv:=hv' (bs.map V.int) (aH.of (s5 _ _ h4));rw[zK,zd i2] at gv;cases gv;let⟨x0,hx0,ix0⟩:=cV (ilu4.mono s5) gu;rw[zd i1] at hx0;cases hx0;refine{aY hp,p,u,rfl,?_,?_}
  ·rw[aB,List.getElem_zip]
  ·rw[List.getElem_zip];exact ix0.mono (aY hp)
 ·rintro z x U H5 R hz s5 ⟨p,u,rfl,hp,iu⟩ ⟨_,_,rfl⟩ rr
  let⟨a6,q6,rfl,h6,h7⟩:=pX iu;refine{p,_,rfl,cW.of hp,rfl,?_};refine{_,_,rfl,_,_,rfl,rfl,?_};left;refine{nF,laid λp7 H7 s7 h7'=>rr _ _ _ s7 ?_ {_,_,rfl}};exact cz h7' (aN cE (aN cE (nX (cz (s7 _ _ h7) rK))))
 ·intro D5 vs5 H5 s5 hD5 il5
  refine kk _ _ _ (s04.trans s5) hD5 ?_;let ee:(dq r).map NF=(r.ends.zip bs).map λz=>NF (z.1.1,z.2-1,z.1.2):=by
   unfold dq;rw[hbs,zB];rfl
  rw[ee];exact il5
def J6 {H:Hp} {e:Int×Int×List Int} {v:V} (h:Is H (NF e) v):∃a q,v=.ref a/\H a=some (.tup [.int e.1,.int e.2.1,.ref q])/\H q=some (.tup (e.2.2.map V.int)):=by
 unfold NF Is at h;let⟨a,vs,rfl,ha,hl⟩:=h;unfold aD at hl;let⟨v1,r1,rfl,h1,hl⟩:=hl;unfold aD at hl;let⟨v2,r2,rfl,h2,hl⟩:=hl;unfold aD at hl;let⟨v3,r3,rfl,h3,hl⟩:=hl;unfold aD at hl;subst hl;unfold Is at h1 h2;subst h1 h2;unfold j9 Is at h3;let⟨q,us,rfl,hq,hle⟩:=h3;rw[dS hle] at hq;exact{(a),q,rfl,ha,hq}
noncomputable def BS (r:Rep) (b:Int) (e:Int×Int×List Int):Bool:=decide (e.1<=b)&&decide (b<=e.2.1)&&!decide (r.times∈e.2.2)
def Nh (rs:List Rep) (b:Int):ig rs b=rs.all λr=>(dq r).all λe=>!BS r b e:=rfl
theorem oI:∀ns:List Int,(ns.map V.int).all mK=true
 | []=>rfl
 | n::ns=>by rw[zj,wY,oI ns];rfl
def mF:df P w base 2 T.iO (uR K):=by
 nomatch T.iO,["repeats","bar","repeat","end"]
 let⟨p,rs,b,rfl,⟨vs,hp,il⟩,hl,kk⟩:=h;rw[Nh] at kk;refine{_,(af (bY yP rfl (bf (pv 0)) (ia 2 qN)
  (ak (bY yP rfl (bf (bM (BC T) hr T.Ax (ah (pv 2) ag))) (ia 3 qN)
   (ak (aI (PW.pt (dm (ptr fX (bE (pv 3) ae) (pv 1)) (dm (ptr fX (pv 1) (bE (pv 3) ae)) (cP (gK eU (bE (pv 2) ae) (bE (pv 3) ae) (by with_unfolding_all rfl))))))
    (ak (aq gU))
    aA)))))
  (ak (aq gU))),?_}
 ac_rfl;exists{_,hp},?_;refine eL (K:=K) (a:=p) (xs:=vs) (λi U H'=>au H H'/\(rs.take i).all (λr=>(dq r).all λe=>!BS r b e)=true/\∃v u,U=[some (.ref p),some (.int b),v,u]) {au.refl H,rfl,none,none,rfl} (λi U H' _ h=>h.1.seq hp) ?_ ?_
 ·intro i x U H' hx hh
  refine dH λN kN0 kR0 _ _=>?_;let⟨s1,hn,v,u,rfl⟩:=hh;let⟨r,hr',hi⟩:=cV il hx;let hm:=zC hr';exists _,r,rfl,hi.mono s1,hl r hm,λD us H2 s2 hD ilD=>?_;refine{D,rfl,{_,aH.of hD},?_};let⟨a,e,rfl,ha,he⟩:=dz (hi.mono (s1.trans s2));refine eL (K:=K) (a:=D) (xs:=us) (λj U H'=>H'=H2/\((dq r).take j).all (λe=>!BS r b e)=true/\∃u,U=[some (.ref p),some (.int b),some (.ref a),u]) {rfl,rfl,_,rfl} (λj U H' _ h=>by rw[h.1];exact aH.of hD) ?_ ?_
  ·intro j y U H3 hy hh
   refine dH λN kN1 kR1 _ _=>?_;let⟨rfl,hnj,u',rfl⟩:=hh;let⟨t,ht,it⟩:=cV ilD hy;let⟨a6,q6,rfl,h6,h7⟩:=J6 it;let good:BS r b t=false->((dq r).take (j+1)).all (λe=>!BS r b e)=true:=λz=>by
    rw[cm ht,List.all_append,hnj,yW];simp[z]
   left
   by_cases c1:t.1<=b
   ·refine bR (zg c1) ?_
    left
    by_cases c2:b<=t.2.1
    ·refine bR (zg c2) ?_
     exists q6,t.2.2.map V.int,rfl,.inr (cW.of h7),rfl,oI _,?_;show∃k,V.bl (!F2 (.int r.times) (t.2.2.map V.int))=.bl k/\_;rw[nY]
     by_cases c3:r.times∈t.2.2
     ·rw[zg c3]
      change{good (by unfold BS;rw[zg c3];simp),_,rfl}
     ·rw[ze c3]
      left;let z:=kk H3 (s1.trans s2);let e0:(rs.all λr=>(dq r).all λe=>!BS r b e)=false:=by
       rw[List.all_eq_false];refine{r,hm,?_};have:((dq r).all λe=>!BS r b e)=false:=by
        rw[List.all_eq_false];exact{t,zC ht,by unfold BS;simp[c1,c2,c3]}
       rw[this];decide
      rw[e0] at z;exact z
    ·refine bX (ze c2) ?_
     change{good (by unfold BS;rw[ze c2];simp),_,rfl}
   ·refine bX (ze c1) ?_
    change{good (by unfold BS;rw[ze c1];simp),_,rfl}
  ·rintro U H3 ⟨rfl,hnj,u',rfl⟩
   rw[aO ilD,zN] at hnj;left;refine{s1.trans s2,?_,_,_,rfl};rw[cm hr',List.all_append,hn,yW];simp[hnj]
 ·rintro U H' ⟨s1,hn,v,u,rfl⟩
  rw[aO il,zN] at hn;left;let z:=kk H' s1;rw[hn] at z;exact z
inductive Fg (K:yB) (vs:List V) (H:Hp) (Q:VK) (E:XK):Prop
 | mk (p:vE) (rs:List Rep) (a c:Int) (_:vs=[.ref p,.int a,.int c]) (_:Eb K H p rs) (_:(∀r∈rs,⇑r.ends<=1000000)) (_:∀H',au H H'->Q (.bl (decide (a<c)&&dn rs c&&ig rs c)) H')
inductive Ff (K:yB) (vs:List V) (H:Hp) (Q:VK) (E:XK):Prop
 | mk (p:vE) (rs:List Rep) (v:V) (j:Jump) (_:vs=[.ref p,v]) (_:Eb K H p rs) (_:(∀r∈rs,⇑r.ends<=1000000)) (_:Is H (jC j) v) (_:∀H',au H H'->Q (.bl (fA rs j)) H')
def lQ {H:Hp} {j:Jump} {v:V} (h:Is H (jC j) v):∃a,v=.ref a/\H a=some (.tup [.int j.mT,.int j.kO,.int j.bS,ov j.fh]):=by
 unfold jC Is at h;let⟨a,vs,rfl,ha,hl⟩:=h;unfold aD at hl;let⟨v1,r1,rfl,h1,hl⟩:=hl;unfold aD at hl;let⟨v2,r2,rfl,h2,hl⟩:=hl;unfold aD at hl;let⟨v3,r3,rfl,h3,hl⟩:=hl;unfold aD at hl;let⟨v4,r4,rfl,h4,hl⟩:=hl;unfold aD at hl;subst hl;unfold Is at h1 h2 h3;subst h1 h2 h3;refine{a,rfl,?_};cases q:j.fh with
 | none=>rw[q] at h4;unfold dO Is at h4;subst h4;exact ha
 | some n=>rw[q] at h4;unfold dO Is at h4;subst h4;exact ha
def FP:df P w base 3 T.tY (Fg K):=by
 nomatch T.tY,["repeats","at","coda"]
 let⟨p,rs,a,c,rfl,hp,hl,kk⟩:=h;refine{_,(ak (aq (tq (dN fe (pv 1) (pv 2) (jz _)) (tq (bM (rj T) hr T.oE (ah (pv 0) (ah (pv 2) ag))) (pP (bM (mF T) hr T.iO (ah (pv 0) (ah (pv 2) ag)))))))),?_};ac_rfl;left
 by_cases c1:a<c
 ·rw[zg c1,yW] at kk
  refine bR (zg c1) ?_;exists p,rs,c,rfl,hp,?_;cases q:dn rs c with
  | true=>
   rw[q,yW] at kk;change{(p),rs,c,rfl,hp,hl,kk}
  | false=>
   rw[q,yU] at kk;change kk _ (au.refl _)
 ·rw[ze c1,yU,yU] at kk
  refine bX (ze c1) ?_;change kk _ (au.refl _)
def FO:df P w base 4 T.tO (Ff K):=by
 nomatch T.tO,["repeats","jump","at","to","until","coda"]
 let⟨p,rs,v,j,rfl,hp,hl,iv,kk⟩:=h;let⟨a,rfl,ha⟩:=lQ iv;unfold fA at kk;refine{_,(af (bN 2 qN (bE (pv 1) ae))
  (af (bN 3 qN (bE (pv 1) ae))
  (af (bN 4 qN (bE (pv 1) ae))
  (af (bN 5 qN (bE (pv 1) ae))
  (af (aI (PW.pt (d8 (ptr fe (pv 4) (pv 3)) (dw (ptr fe (pv 2) (pv 4)))))
  (ak (aq gU))
  aA)
  (af (aI (PW.pt (dm (bw (eT (pv 5))) (cP (fH (cU (bM (FP T) hr T.tY (ah (pv 0) (ah (pv 2) (ah (pv 5) ag)))))))))
  (ak (aq gU))
  aA)
  (ak (aq (tq (bM (FN T) hr T.tJ (ah (pv 0) (ah (pv 2) ag))) (tq (bM (rj T) hr T.oE (ah (pv 0) (ah (pv 3) ag))) (pP (bM (mF T) hr T.iO (ah (pv 0) (ah (pv 4) ag)))))))))))))),?_}
 ac_rfl;left
 by_cases c1:j.bS<j.kO
 ·refine bR (zg c1) ?_
  simp only[yO c1] at kk;change kk _ (au.refl _)
 ·refine bX (ze c1) ?_
  simp only[yN c1] at kk;left
  by_cases c2:j.mT<j.bS
  ·refine bR (zg c2) ?_
   simp only[yO c2] at kk;change kk _ (au.refl _)
  ·refine bX (ze c2) ?_
   simp only[yN c2] at kk;left;cases q:j.fh with
   | none=>
    rw[q] at kk;exists p,rs,_,rfl,hp,?_;cases q1:eG rs j.mT with
    | false=>
     rw[q1] at kk;change kk _ (au.refl _)
    | true=>
     rw[q1] at kk;exists p,rs,_,rfl,hp,?_;cases q2:dn rs j.kO with
     | false=>
      rw[q2] at kk;change kk _ (au.refl _)
     | true=>
      rw[q2] at kk;change{p,rs,_,rfl,hp,hl,kk}
   | some n=>
    rw[q] at kk;exists p,rs,_,_,rfl,hp,hl,λH1 s1=>?_;cases q0:(decide (j.mT<n)&&dn rs n&&ig rs n) with
    | false=>
     simp only[q0] at kk;change kk _ s1
    | true=>
     simp only[q0,yW] at kk;exists p,rs,_,rfl,hp.mono s1,?_;cases q1:eG rs j.mT with
     | false=>
      rw[q1] at kk;change kk _ s1
     | true=>
      rw[q1] at kk;exists p,rs,_,rfl,hp.mono s1,?_;cases q2:dn rs j.kO with
      | false=>
       rw[q2] at kk;change kk _ s1
      | true=>
       rw[q2] at kk;change{p,rs,_,rfl,hp.mono s1,hl,λH2 s2=>kk _ (s1.trans s2)}
def Ej {l ns:List Int} (h1:ns.Perm l) (h2:ns.Pairwise (·<=·)):ns=sortI l:=by
 unfold sortI;refine List.Perm.eq_of_pairwise (le:=λa b:Int=>a<=b) (λa b _ _ x y=>Int.le_antisymm x y) h2 ?_ (h1.trans (List.mergeSort_perm _ _).symm);have:=List.pairwise_mergeSort (le:=λa b:Int=>decide (a<=b)) (λa b c x y=>by simp at x y ⊢;ext) (λa b=>by simp;ext) l;exact this.imp λh=>by simpa using h
noncomputable def J7:List Sc.End->Nat
 | []=>0
 | e::r=>⇑e.2+J7 r
def SR {es:List Sc.End} {e:Sc.End} (h:e∈es):⇑e.2<=J7 es:=by
 induction es with
 | nil=>cases h
 | cons x r ih=>
  rcases zD.mp h with rfl | h
  ·unfold J7;ext
  ·have:=ih h;unfold J7;ext
def Og {a b:List Int}:(decide (a.map V.int=b.map V.int))=decide (a=b):=by
 by_cases h:a=b
 ·subst h;simp
 ·rw[ze h,ze]
  intro z;have:∀{a b:List Int},a.map V.int=b.map V.int->a=b:=by
   intro a
   induction a with
   | nil=>intro b z;cases b with | nil=>rfl | cons _ _=>cases z
   | cons x r ih=>intro b z;cases b with | nil=>cases z | cons y s=>simp at z;rw[z.1,ih (by simpa using z.2)]
  exact h (this z)
theorem qY:∀ns:List Int,(ns.map V.int).all Rj=true
 | []=>rfl
 | n::ns=>by rw[zj,wY,qY ns];rfl
def Jh {e:Sc.End} {r:List Sc.End} {a:Int} {ps:List Int} (h1:¬e.1<=a) (h2:e.2=sortI e.2):fZ (e::r) a ps=fZ r e.1 (ps++e.2):=by
 show(if e.1<=a then none else if e.2≠sortI e.2 then none else fZ r e.1 (ps++e.2))=_;rw[yN h1,yN (λz=>z h2)]
def EJ {e:Sc.End} {r:List Sc.End} {a:Int} {ps:List Int} (h:e.1<=a\/e.2≠sortI e.2):fZ (e::r) a ps=none:=by
 show(if e.1<=a then none else if e.2≠sortI e.2 then none else fZ r e.1 (ps++e.2))=_;rcases h with h | h
 ·rw[yO h]
 ·rw[yO h];split <;> rfl
def RO {α:Type} {l:List α} {i:Nat} {x:α} (h:l[i]?=some x):l.drop i=x::l.drop (i+1):=by
 let⟨hi,rfl⟩:=zy.mp h;exact List.drop_eq_getElem_cons hi
inductive uq (vs:List V) (H:Hp) (Q:VK) (E:XK):Prop
 | mk (v:V) (r:Rep) (_:vs=[v]) (_:Is H (gF r) v) (_:J7 r.ends<64) (_:-1000000<=r.times) (_:r.times<=1000000) (_:∀H',au H H'->Q (.bl (gd r)) H')
def IE:df P w base 1 T.BQ uq:=by
 nomatch T.BQ,["repeat","ends","ahead","passes","end"]
 let⟨v,r,rfl,iv,ht,t0,t1,kk⟩:=h;let sl:=yC;let⟨a,e,rfl,ha,he⟩:=dz iv;unfold Is at he;let⟨e',us,ee,hu,ilu⟩:=he;cases ee;let ul:=aO ilu;refine{_,(af (bN 1 qN (bE (pv 0) ae))
  (af (aI (ptr cZ (eA aE T.bG (ah (pv 1) ag)) ae)
  (ak (aq gU))
  aA)
  (af (bN 2 qN (ax jt (bE (pv 0) ae) ae))
  (af (bN 3 qN (aZ ag))
  (af (bY yP rfl (jr (pv 1)) (ia 4 qN)
  (af (aI (PW.pt (d8 (ptr fX (bE (pv 4) ae) (pv 2)) (dw (ptr (Bu hr.units) (mS iP T.kh (ah (bE (pv 4) ae) ag)) (eA rX T.IP (ah (bE (pv 4) ae) ag))))))
   (ak (aq gU))
   aA)
   (af (bN 2 qN (bE (pv 4) ae))
   (ak (bu (bJ yD y9 y8 dR (pv 3) (ah (bE (pv 4) ae) ag)))))))
  (ak (aq (tq (dN fX (pv 2) (bE (pv 0) ae) (jz _)) (pP (dN (Bv hr.units) (eA rX T.IP (ah (pv 3) ag)) (qZ rfl (by rfl) T.kh (by rfl) T.cy (ah ae (ah (ax aQ (bE (pv 0) ae) ae) ag))) (jz _))))))))))),?_}
 ac_rfl;exists e,_,rfl,.inr (cW.of hu),?_;rw[ul];left
 by_cases h0:⇑r.ends=0
 ·refine bR (by rw[h0];rfl) ?_
  left;let e0:gd r=true:=by
   unfold gd;rw[yt.mp h0]
  rw[e0] at kk;exact kk _ (au.refl _)
 ·refine bX (ze λz=>h0 (by have:=V.int.inj z;ext)) ?_
  let ef:gd r=(match fZ r.ends (r.first-1) [] with | none=>false | some (a,ps)=>decide (a<=r.last)&&decide (sortI ps=MR 1 (r.times+1-1).toNat)):=by
   unfold gd;cases q:r.ends with
   | nil=>rw[q] at h0;exact absurd rfl h0
   | cons x xs=>rfl
  rw[ef] at kk;exists by show 0<=sizeLine;ext,?_
  intro pp hn;generalize hG:upd _ pp _=H1;let s1:=au.jy hG hn;let h1:=jG hG;clear hG;exists{_,cW.of (s1 _ _ hu)},?_;refine L7 (K:=K) (a:=e) (xs:=us) (λi U H'=>au H H'/\∃(z:Int) (ps:List Int) (u:Option V),U=[some (.ref a),some (.ref e),some (.int z),some (.ref pp),u]/\H' pp=some (.lst (ps.map V.int))/\⇑ps+J7 (r.ends.drop i)=J7 r.ends/\fZ r.ends (r.first-1) []=fZ (r.ends.drop i) z ps) {s1,_,[],none,rfl,h1,by simp,rfl} (λi U H' _ h=>cW.of (h.1 _ _ hu)) ?_ ?_
  ·intro i x U H2 hx hh
   refine dH λN kN0 kR0 _ _=>?_;let⟨s2,z,ps,u,rfl,h2,hc,hgo⟩:=hh;let⟨en,hen,ien⟩:=cV ilu hx;let⟨a6,q6,rfl,h6,h7⟩:=pX (ien.mono s2);let hle:=SR (zC hen);rw[RO hen] at hgo hc;rw[show J7 (en::List.drop (i+1) r.ends)=⇑en.2+J7 (List.drop (i+1) r.ends) from rfl] at hc;left
   by_cases c1:en.1<=z
   ·refine bR (zg c1) ?_
    rw[hgo,EJ (.inl c1)] at kk;change kk _ s2
   ·refine bX (ze c1) ?_
    exists q6,_,rfl,.inr (cW.of h7),?_;intros p8 H8 s8 h8;let h68:=s8 _ _ h6;let h78:=s8 _ _ h7;exists q6,en.2,rfl,.inr (cW.of h78),(),λns np ns'=>?_;intros p9 H9 s9 h9;let h69:=s9 _ _ h68;let h79:=s9 _ _ h78;let h29:=s9 _ _ (s8 _ _ h2);rw[Ej np ns'] at h9;refine{p8,p9,_,_,rfl,rfl,.inl {aH.of (s9 _ _ h8),aH.of h9},.inr (.inr {qY _,qY _}),?_};rw[Og]
    by_cases c2:en.2=sortI en.2
    ·rw[zg c2]
     rw[Jh c1 c2] at hgo;exists .inl {rfl,_,aH.of h29},?_;left;refine .inr {pp,q6,_,_,rfl,rfl,h29,h79,by rw[za,za];ext,?_};left;let s29:=(s2.trans s8).trans s9;refine{λb o hb=>?_,en.1,ps++en.2,_,rfl,by rw[aB,zk],by rw[zh];ext,hgo};let ne:b≠pp:=λz=>by rw[z,hn] at hb;cases hb
     rw[aC ne];exact s29 b o hb
    ·rw[ze c2]
     rw[hgo,EJ (.inr c2)] at kk;change kk _ ((s2.trans s8).trans s9)
  ·rintro U H2 ⟨s2,z,ps,u,rfl,h2,hc,hgo⟩
   rw[ul,List.drop_length] at hgo hc;rw[hgo] at kk;let ha2:=s2 _ _ ha;unfold fZ at kk;simp only at kk;rw[show J7 []=0 from rfl] at hc;left
   by_cases c1:z<=r.last
   ·rw[zg c1,yW] at kk
    refine bR (zg c1) ?_;exists pp,ps,rfl,.inl (aH.of h2),(),λns np ns'=>?_;intros p9 H9 s9 h9;rw[Ej np ns'] at h9;let ha9:=s9 _ _ ha2;exists 1,r.times+1,rfl,{∅,(by decide),(),()},(),?_;intros p10 H10 s10 h10;refine{p9,p10,_,_,rfl,rfl,.inl {aH.of (s10 _ _ h9),aH.of h10},.inr (.inr {qY _,qY _}),?_};rw[Og];exact kk _ ((s2.trans s9).trans s10)
   ·rw[ze c1,yU] at kk
    refine bX (ze c1) ?_;exact kk _ s2
def Mm {xs:List V} {x:V} (h:xs[⇑xs-1]?=some x):DR xs (-1)=some x:=by
 let hp:0<⇑xs:=by
  have:=(zy.mp h).1;ext
 let ne:xs≠[]:=yr.mp hp;let e:=xY ne;let e2:xs.getLast ne=x:=by
  have:=(zy.mp h).2;rw[List.getLast_eq_getElem];exact this
 rw[<-e,e2];exact L2.rY _ _
inductive AU (K:yB) (vs:List V) (H:Hp) (Q:VK) (E:XK):Prop
 | mk (p:vE) (rs:List Rep) (v:V) (r:Rep) (_:vs=[.ref p,v]) (_:Eb K H p rs) (_:Is H (gF r) v) (_:J7 r.ends<64) (_:-1000000<=r.times) (_:r.times<=1000000) (_:∀H',au H H'->Q (.bl (lE rs r)) H')
def Bx:df P w base 2 T.nH (AU K):=by
 nomatch T.nH,["repeats","repeat"]
 let⟨p,rs,v,r,rfl,⟨vs,hp,il⟩,iv,ht,t0,t1,kk⟩:=h;let⟨a,e,rfl,ha,he⟩:=dz iv;let vl:=aO il;let tail:(∀H',au H H'->Q (.bl (decide (r.first<=r.last)&&gd r)) H')->(if decide (r.first<=r.last)=true then fR uq [] E0 (bI (aW 1) dY) [some (.ref p),some (.ref a)] H Q else Q (.bl false) H):=by
  intro k
  by_cases c:r.first<=r.last
  ·rw[zg c,yW] at k
   refine bR (zg c) ?_;exact{_,rfl,_,r,rfl,iv,ht,t0,t1,k}
  ·rw[ze c,yU] at k
   refine bX (ze c) ?_;exact k _ (au.refl _)
 refine{_,(af (aI (PW.pt (dm (ptr fq (eA aE T.bG (ah (pv 0) ag)) ae) (cP (ptr fX (bE (pv 1) ae) (bE (fG (pv 0) (nL je ae)) ae)))))
  (ak (aq gU))
  aA)
  (ak (aq (tq (dN fX (bE (pv 1) ae) (bE (pv 1) ae) (jz _)) (pP (bM (IE T) hr T.BQ (ah (pv 1) ag))))))),?_}
 ac_rfl;exists p,_,rfl,.inl hp,?_;rw[vl];left
 by_cases h0:0<⇑rs
 ·refine bR (zg ()) ?_
  let hi:⇑rs-1<⇑vs:=()
  let⟨q,hq,iq⟩:=cV il (zd hi);let⟨b,eb,evb,hb,_⟩:=dz iq;let eg:rs.getLast?=some q:=by rw[wo];exact hq
  unfold lE at kk;rw[eg] at kk;left;refine{p,vs,-1,_,rfl,rfl,hp,Mm (by rw[vl];exact zd hi),?_};rw[evb];left
  by_cases c:r.first<=q.last
  ·refine bR (zg c) ?_
   simp only[yO c] at kk;change kk _ (au.refl _)
  ·refine bX (ze c) ?_
   simp only[yN c] at kk;change tail kk
 ·refine bX (ze ()) ?_
  let e0:rs=[]:=yt.mp ();unfold lE at kk;rw[e0] at kk;change tail kk
def EW (x:Sc.Oa):Prop:=0<=x.aP.1/\x.aP.1<=1000/\0<x.aP.2/\x.aP.2<=1000
inductive W7 (C:vE) (H:Hp) (a:vE) (o:Ow):Prop
 | mk (ub jm:V) (_:H a=some (.ins C o.dx (Q4 o ub jm)))
structure V2 (C:vE) (H:Hp) (a:vE) (S:bH) (o:Ow):Prop where
 obj:W7 C H a o
 ba:QF H kX o.ba S.aG
def V2.of {C a:vE} {H:Hp} {S:bH} {o:Ow} (h:b8 C H a S o):V2 C H a S o:={by let⟨ub,jm,h1,_⟩:=h.obj;exact{(ub),jm,h1},h.ba}
inductive uP (C:vE) (vs:List V) (H:Hp) (Q:VK) (E:XK):Prop
 | mk (a:vE) (S:bH) (o:Ow) (b:Nat) (_:vs=[.ref a,.int b]) (_:V2 C H a S o) (_:b<⇑S.aG) (_:(∀x∈S.aG,EW x)) (_:∀p H',au H H'->H' p=some (jL (S.aP b))->Q (.ref p) H')
def Uu {H:Hp} {b:Sc.Oa} {v:V} (h:Is H (kX b) v):∃a m q,v=.ref a/\H a=some (.tup [.ref m,.int b.key,.ref q])/\H m=some (jL b.aP):=by
 unfold kX Is at h;let⟨a,vs,rfl,ha,hl⟩:=h;unfold aD at hl;let⟨v1,r1,rfl,h1,hl⟩:=hl;unfold aD at hl;let⟨v2,r2,rfl,h2,hl⟩:=hl;unfold aD at hl;let⟨v3,r3,rfl,h3,hl⟩:=hl;unfold aD at hl;subst hl;unfold Is at h2;subst h2;unfold mO Is at h3;let⟨q,us,rfl,hq,hle⟩:=h3;have:=fg (o:=some b.aP) h1;cases this with
 | ref hm=>exact{a,_,q,rfl,ha,hm}
def mE {C:vE} (F:Cf K C):df P w base 3 T.iI (uP C):=by
 nomatch T.iI,["score","bar","metre"]
 let⟨a,S,o,b,rfl,sc,hb,b9,kk⟩:=h;let⟨ub,jm,ho⟩:=sc.obj;let⟨vs,hv,il⟩:=sc.ba;let hi:b<⇑vs:=by rw[aO il];exact hb
 let⟨x,hx,ix⟩:=cV il (zd hi);let⟨a1,m,q,ev,h1,hm⟩:=Uu ix;let⟨k1,k2,k3,k4⟩:=b9 x (zC hx);unfold bH.aP at kk;rw[hx] at kk;refine{_,(af (bN 2 qN (bE (fG (bO (pv 0) rfl) (pv 1)) ae))
  (ak (aq (bM (jw T) hr T.eI (ah (bE (pv 2) ae) (ah (bE (pv 2) ae) ag)))))),?_}
 ac_rfl;exists a,C,o.dx,_,_,rfl,ho,F.cls,F.aG,rfl,?_;left;refine{o.ba,vs,b,_,rfl,rfl,aH.of hv,bz (zd hi),?_};rw[ev];change{_,_,rfl,k1,k3,(cu (n:=10) () ()).mono ∅,λp H' s' h'=>kk p H' s' h'}
inductive AS (C:vE) (vs:List V) (H:Hp) (Q:VK) (E:XK):Prop
 | mk (a:vE) (S:bH) (o:Ow) (b:Nat) (_:vs=[.ref a,.int b]) (_:b8 C H a S o) (_:b<⇑S.aG) (_:(∀x∈S.aG,EW x)) (_:∀p H',au H H'->H' p=some (jL (S.len b))->Q (.ref p) H')
def nP {C:vE} (F:Cf K C):df P w base 4 T.jN (AS C):=by
 nomatch T.jN,["score","bar"]
 let⟨a,S,o,b,rfl,sc,hb,b9,kk⟩:=h;let⟨ub,jm,ho,hub,hjm⟩:=sc.obj;unfold bH.len at kk;refine{_,(af (aI (PW.pt (dm (ptr cZ (pv 1) ae) (cP (bw (eT (bO (pv 0) rfl))))))
  (ak (aq (bO (pv 0) rfl)))
  aA)
  (ak (aq (bM (mE T F) hr T.iI (ah (pv 0) (ah (pv 1) ag)))))),?_}
 ac_rfl;left
 by_cases c:b=0
 ·refine bR (by rw[c];rfl) ?_
  exists a,C,o.dx,_,_,rfl,ho,F.cls,F.aF,rfl,?_;cases q:S.aF with
  | none=>
   rw[q] at kk hub;unfold dO Is at hub;subst hub;change{a,S,o,b,rfl,.of sc,hb,b9,kk}
  | some u=>
   rw[q] at kk hub;cases fg (o:=some u) hub with
   | ref hu=>
    exists a,C,o.dx,_,_,rfl,ho,F.cls,F.aF,rfl,?_;refine kk _ _ (au.refl _) ?_;simp only[yO c];exact hu
 ·refine bX (ze λz=>c (by have:=V.int.inj z;ext)) ?_
  left;refine{a,S,o,b,rfl,.of sc,hb,b9,λp H' s' h'=>kk p H' s' ?_};cases q:S.aF with
  | none=>exact h'
  | some u=>simp only[yN c];exact h'
theorem kQ (n:Str):∀ns:List Str,F2 (.str n) (ns.map V.str)=decide (n∈ns)
 | []=>rfl
 | m::ns=>by
  let ih:=kQ n ns;unfold F2 at ih ⊢;rw[zj,xu,ih];show((m == n)||decide (n∈ns))=decide (n∈m::ns)
  by_cases e:n=m
  ·subst e
   simp
  ·let e':¬m=n:=λz=>e z.symm
   simp[e,e']
theorem i6:∀ns:List Str,(ns.map V.str).all mK=true
 | []=>rfl
 | n::ns=>by rw[zj,wY,i6 ns];rfl
inductive fm (C:vE) (D:Hp->V->bH->Option Str->Prop) (vs:List V) (H:Hp) (Q:VK) (E:XK):Prop
 | mk (a:vE) (S:bH) (o:Ow) (v:V) (f:Option Str) (_:vs=[.ref a,v]) (_:b8 C H a S o) (_:D H v S f) (_:∀H',au H H'->Q (os f) H')
def mq (C:vE):Sp:=fm C λ_ v S f=>∃n,v=.str n/\f=fault S (.bK n)
def vL {C:vE} (F:Cf K C):df P w base 1 T.iG (mq C):=by
 nomatch T.iG,["score","player"]
 let⟨a,S,o,v,f,rfl,sc,⟨n,rfl,rfl⟩,kk⟩:=h;let⟨ub,jm,ho,hub,hjm⟩:=sc.obj;let k:=kk H (au.refl H);unfold fault at k;dsimp only at k;refine{_,(af (aI (gK iZ (pv 1) (bO (pv 0) rfl) (by with_unfolding_all rfl))
  (ak (aq aL))
  aA)
  (af (aI (ptr Iv (eA aE T.bG (ah (bO (pv 0) rfl) ag)) (b7 (v:=.int (12)) (by rfl) T.Ci {_,rfl}))
  (ak (aq aL))
  aA)
  (ak (aq aS)))),?_}
 ac_rfl;exists a,C,o.dx,_,_,rfl,ho,F.cls,F.players,rfl,?_;refine{o.pl,_,rfl,.inl (aH.of sc.pl),rfl,i6 _,?_};show∃k,V.bl (F2 (.str n) (S.players.map V.str))=.bl k/\_;rw[kQ]
 by_cases c1:n∈S.players
 ·rw[zg c1]
  rw[yO c1] at k;change k
 ·rw[ze c1]
  rw[yN c1] at k;exists a,C,o.dx,_,_,rfl,ho,F.cls,F.players,rfl,?_;exists o.pl,_,rfl,.inl (aH.of sc.pl),?_;rw[za];left
  by_cases c2:12<=⇑S.players
  ·refine bR (zg ()) ?_
   rw[yO c2] at k;change k
  ·refine bX (ze ()) ?_
   rw[yN c2] at k;change k
def qJ (C:vE):Sp:=fm C λ_ _ S f=>∃b,f=fault S (.bar b)
def FQ {C:vE} (F:Cf K C):df P w base 1 T.oM (qJ C):=by
 nomatch T.oM,["score","told"]
 let⟨a,S,o,v,f,rfl,sc,⟨b,rfl⟩,kk⟩:=h;let⟨ub,jm,ho,hub,hjm⟩:=sc.obj;let⟨vs,hv,il⟩:=sc.ba;let vl:=aO il;let k:=kk H (au.refl H);unfold fault at k;dsimp only at k;refine{_,(af (aI (ptr Iv (eA aE T.bG (ah (bO (pv 0) rfl) ag)) (b7 (v:=.int (200)) (by rfl) T.JC {_,rfl}))
  (ak (aq aL))
  aA)
  (ak (aq aS))),?_}
 ac_rfl;exists a,C,o.dx,_,_,rfl,ho,F.cls,F.aG,rfl,?_;exists o.ba,_,rfl,.inl (aH.of hv),?_;rw[vl];left
 by_cases c2:200<=⇑S.aG
 ·refine bR (zg ()) ?_
  rw[yO c2] at k;change k
 ·refine bX (ze ()) ?_
  rw[yN c2] at k;change k
theorem qD (n:Str):∀{ks:List Str} {vs:List V},⇑vs=⇑ks->(cS ((ks.map kS).zip vs) (kS n)).isSome=decide (n∈ks)
 | [],_,_=>by simp[cS]
 | k::ks,[],h=>by simp at h
 | k::ks,v::vs,h=>by
  let ih:=qD n (ks:=ks) (vs:=vs) (by simpa using h);rw[zj,yX];unfold cS at ih ⊢;rw[yT]
  by_cases e:k=n
  ·subst e
   simp
  ·let e1:¬kS k=kS n:=λz=>e (w6 z)
   let e2:¬n=k:=λz=>e z.symm;simp only[e1,decide_false] at ih ⊢;rw[ih];simp[e2]
def iC (C:vE):Sp:=fm C λH v S f=>∃x,Is H (d7 x) v/\f=fault S (.cJ x.1 x.2.1 x.2.2)
def IV {H:Hp} {x:Str×(Int×Int)×(Int×Int)} {v:V} (h:Is H (d7 x) v):∃a t l,v=.ref a/\H a=some (.tup [.str x.1,t,l])/\Is H (dL x.2.1) t/\Is H (dL x.2.2) l:=by
 unfold d7 Is at h;let⟨a,vs,rfl,ha,hl⟩:=h;unfold aD at hl;let⟨v1,r1,rfl,h1,hl⟩:=hl;unfold aD at hl;let⟨v2,r2,rfl,h2,hl⟩:=hl;unfold aD at hl;let⟨v3,r3,rfl,h3,hl⟩:=hl;unfold aD at hl;subst hl;unfold Is at h1;subst h1;exact{(a),v2,v3,rfl,ha,h2,h3}
def oR {C:vE} (F:Cf K C):df P w base 1 T.eY (iC C):=by
 nomatch T.eY,["score","told"]
 let⟨a,S,o,v,f,rfl,sc,⟨x,iv,rfl⟩,kk⟩:=h;let⟨ub,jm,ho,hub,hjm⟩:=sc.obj;let⟨vs,hv,il⟩:=sc.ins;let⟨a1,t,l,rfl,h1,_,_⟩:=IV iv;let vl:=aO il;let em:(S.ao.map λx=>kS x.1)=(S.ao.map (·.1)).map kS:=by rw[zB];rfl
 let k:=kk H (au.refl H);unfold fault at k;dsimp only at k;refine{_,(af (aI (bw (FE (fK hr) (bE (pv 1) ae) (bO (pv 0) rfl)))
  (ak (aq aL))
  aA)
  (af (aI (ptr Iv (eA Ld T.bG (ah (bO (pv 0) rfl) ag)) (b7 (v:=.int (12)) (by rfl) T.qh {_,rfl}))
  (ak (aq aL))
  aA)
  (ak (aq aS)))),?_}
 ac_rfl;exists a,C,o.dx,_,_,rfl,ho,F.cls,F.ao,rfl,?_;refine{o.ins,_,rfl,.inl {_,kS x.1,.inl hv,rfl,rfl},?_};rw[em,qD x.1 (by rw[za];exact vl)];left
 by_cases c1:x.1∈S.ao.map (·.1)
 ·rw[zg c1]
  rw[yO c1] at k;change k
 ·rw[ze c1]
  rw[yN c1] at k;exists a,C,o.dx,_,_,rfl,ho,F.cls,F.ao,rfl,?_;exists o.ins,_,rfl,hv,?_;rw[xC,za,vl,Nat.min_self];left
  by_cases c2:12<=⇑S.ao
  ·refine bR (zg ()) ?_
   rw[yO c2] at k;change k
  ·refine bX (ze ()) ?_
   rw[yN c2] at k;change k
inductive HC (K:yB) (C:vE) (vs:List V) (H:Hp) (Q:VK) (E:XK):Prop
 | mk (a p:vE) (S:bH) (o:Ow) (bs:List Int) (_:vs=[.ref a,.ref p]) (_:b8 C H a S o) (_:aH K H p (bs.map V.int)) (_:⇑bs<=1000000) (_:∀H',au H H'->Q (.bl (S.has bs)) H')
def jU {C:vE} (F:Cf K C):df P w base 1 T.kR (HC K C):=by
 nomatch T.kR,["score","bars"]
 let⟨a,p,S,o,bs,rfl,sc,hp,hl,kk⟩:=h;let sl:=yC;refine{_,(ak (aq (eA (oK rfl) T.LX (ah (nM (ts:=["bar"]) (ys:=["score"]) (js:=[0]) (te:=(eO (sr λi j=>.bl (decide (i<j))) (aW 0) (LI (Vd K) (bI (QV K (aW 1) "bars") dY)))) (bf (pv 1)) (gr 0) bx (dN fe (pv 0) (eA aE T.bG (ah (bO (pv 1) rfl) ag)) (jz _))) ag)))),?_};ac_rfl;exists{_,hp},?_;refine eZ (enc:=V.int) (ws:=bs) (λz=>.bl (decide (z<(⇑S.aG:Int)))) (λU=>∃v,U=[v,some (.ref a)]) () hp {(none),rfl} ?_ ?_
 ·rintro z U H1 R hz s1 ⟨_,rfl⟩ r
  let sc1:=sc.mono s1;let⟨ub,jm,ho,hub,hjm⟩:=sc1.obj;let⟨vs,hv,il⟩:=sc1.ba;let vl:=aO il;exists a,C,o.dx,_,_,rfl,ho,F.cls,F.aG,rfl,?_;exists o.ba,vs,rfl,.inl (aH.of hv),?_;rw[vl];change r _ _ _ (au.refl _) (by unfold Is;rfl) {_,rfl}
 ·intro D vs H1 s1 hD il
  let e:bs.map (λz=>Dt.bl (decide (z<(⇑S.aG:Int))))=(bs.map λz=>decide (z<(⇑S.aG:Int))).map Dt.bl:=by rw[zB];rfl
  rw[e] at il;rw[ki il] at hD;refine{D,_,rfl,aH.of hD,?_};let e2:(bs.map λz=>decide (z<(⇑S.aG:Int))).all id=S.has bs:=by rw[wj];rfl
  rw[e2];exact kk _ s1
inductive uQ (K:yB) (vs:List V) (H:Hp) (Q:VK) (E:XK):Prop
 | mk (p:vE) (us:List V) (its:List Item) (_:vs=[.ref p]) (_:aH K H p us) (_:aD H (its.map eM) us) (_:⇑its<=500) (_:(∀it∈its,QM it.2)) (_:∀r H',au H H'->H' r=some (jL (ke its))->Q (.ref r) H')
def sF (l:List Item) (it:Item):ke (l++[it])=add (ke l) it.2:=by unfold ke;rw[zY];rfl
def vM:df P w base 4 T.lR (uQ K):=by
 nomatch T.lR,["items","length","item"]
 let⟨p,us,its,rfl,hp,il,hl,b9,kk⟩:=h;let sl:=yC;let ul:=aO il;refine{_,(af (bN 1 qN (bF (ah ae (ah ae ag))))
  (af (bY yP rfl (bf (pv 0)) (ia 2 qN)
  (ak (bN 1 qN (bM (IF T) hr T.added (ah (pv 1) (ah (bE (pv 2) ae) ag))))))
  (ak (aq (pv 1))))),?_}
 ac_rfl;exists cM,?_;intros p1 H1 s1 h1;exists{_,s1.seq hp},?_;refine eL (K:=K) (a:=p) (xs:=us) (λi U H'=>au H H'/\∃q v,U=[some (.ref p),some (.ref q),v]/\H' q=some (jL (ke (its.take i)))/\Lm.Rd (ke (its.take i))/\CH (15*i+1) (ke (its.take i))) {s1,p1,none,rfl,h1,?_,?_} (λi U H' _ h=>h.1.seq hp) ?_ ?_
 ·exact Lm.Rd.zero
 ·show CH 1 (0,1)
  exact{cu ∅ ∅,cu ∅ ∅}
 ·rintro i x U H2 hx ⟨s2,q,v,rfl,hq,rq,zq⟩
  let⟨it,hit,iit⟩:=cV il hx;let⟨a6,pv,lv,rfl,h6,_,i8⟩:=item_at (iit.mono s2);let hi:i<⇑its:=(zy.mp hit).1;let⟨ok1,VY,Xd,ok4⟩:=b9 it (zC hit);cases fg (o:=some it.2) i8 with
  | ref h8=>
   let zi:CH 14 it.2:={cu () (),cu (by have:=ok1.pos;ext) ()}
   exists _,_,_,_,_,_,rfl,hq,h8,rq,ok1,zq,zi,(),λr H3 s3 h3=>?_;let e:=cm hit;refine{s2.trans s3,r,_,rfl,?_,?_,?_}
   ·rw[e,sF];exact h3
   ·rw[e,sF];exact rq.add ok1
   ·rw[e,sF];exact{(CH.add rq ok1 zq zi).1.mono (),(CH.add rq ok1 zq zi).2.mono ()}
 ·rintro U H2 ⟨s2,q,v,rfl,hq,_,_⟩
  rw[ul,zN] at hq;change kk _ _ s2 hq
def GU (S:bH):Prop:=∀r∈S.repeats,⇑r.ends<=1000000
def oX (C:vE):Sp:=fm C λH v S f=>∃j,Is H (jC j) v/\GU S/\f=fault S (.bC j)
def Jb {l:List V} {i:Nat} {x:V} (h:l[i]?=some x):(l.take (i+1)).filter (λv=>!gx v)=(l.take i).filter (λv=>!gx v)++(if gx x=true then [] else [x]):=by
 rw[cm h,yY];cases q:gx x with
 | true=>simp[q]
 | false=>simp[q]
def Dn {C:vE} (F:Cf K C):df P w base 5 T.lP (oX C):=by
 nomatch T.lP,["score","jump"]
 let⟨a,S,o,v,f,rfl,sc,⟨j,iv,vI,rfl⟩,kk⟩:=h;let sl:=yC;let⟨ub,jm,ho,hub,hjm⟩:=sc.obj;let⟨vs,hv,il⟩:=sc.re;let⟨a1,rfl,h1⟩:=lQ iv;unfold fault at kk;dsimp only at kk;refine{_,(af (aI (bw (eT (bO (pv 0) rfl)))
  (ak (aq aL))
  aA)
  (af (aI (fH (cU (bM (jU T F) hr T.kR (ah (pv 0) (ah (nM (ts:=["bar"]) (ys:=[]) (js:=[]) (g:=(bW 0)) (tc:=(tB (Ox (aW 0)))) (te:=(aW 0)) (jr (pv 1)) (gr 0) (fW (bw (eT (pv 0)))) (pv 0)) ag)))))
  (ak (aq aL))
  aA)
  (af (aI (fH (cU (bM (FO T) hr T.tO (ah (bO (pv 0) rfl) (ah (pv 1) ag)))))
  (ak (aq aL))
  aA)
  (ak (aq aS))))),?_}
 ac_rfl;exists a,C,o.dx,_,_,rfl,ho,F.cls,F.bC,rfl,?_;cases q:S.bC with
 | some j'=>
  rw[q] at hjm kk;let⟨a2,rfl,_⟩:=lQ hjm;change kk _ (au.refl _)
 | none=>
  rw[q] at hjm kk;unfold dO Is at hjm;subst hjm;rw[yN ∅] at kk;exists{_,cW.of h1},?_;generalize hw:[V.int j.mT,V.int j.kO,V.int j.bS,ov j.fh]=ws at h1;let wl:⇑ws=4:=by rw[<-hw];rfl
  refine oa ⇑ws (λi=>(ws.take i).filter λv=>!gx v) (λi U H'=>H'=H/\∃v,U=[v]) (λi hi=>zM (xj _ _) (by rw[zQ];ext)) () rfl {(rfl),none,rfl} ?_ ?_ ?_ ?_
  ·rintro i U H' hi ⟨rfl,_⟩
   exact F5 (cW.of h1) hi
  ·rintro U H' ⟨rfl,_⟩
   exact{_,cW.of h1,zm _}
  ·rintro i x U H' H2 hi ⟨rfl,v,rfl⟩ ⟨rfl,hy⟩
   let hx:=hy _ (cW.of h1);left
   by_cases e:x=.bP
   ·refine bX (by rw[zg e];rfl) ?_
    refine JU.skip hi ?_ {rfl,_,rfl};show List.filter _ (List.take (i+1) ws)=List.filter _ (List.take i ws);rw[Jb hx,yO (show gx x=true from zg e),zV]
   ·refine bR (by rw[ze e];rfl) ?_
    left;refine JU.push hi ?_ {rfl,_,rfl};show List.filter _ (List.take (i+1) ws)=List.filter _ (List.take i ws)++[x];rw[Jb hx,yN (by unfold gx;rw[ze e];decide)]
  ·rintro U H' ⟨rfl,_⟩
   rw[zN];let ef:(ws.filter λv=>!gx v)=([j.mT,j.kO,j.bS]++j.fh.toList).map V.int:=by
    rw[<-hw];cases j.fh <;> rfl
   rw[ef];intros D H2 s2 h2;refine{a,D,S,o,_,rfl,sc.mono s2,aH.of h2,?_,λH3 s3=>?_}
   ·cases j.fh <;> simp
   ·cases qb:S.has ([j.mT,j.kO,j.bS]++j.fh.toList) with
    | false=>
     rw[qb] at kk;change kk _ (s2.trans s3)
    | true=>
     rw[qb,yN (by simp)] at kk;let s03:=s2.trans s3;let sc3:=sc.mono s03;exists a,C,o.dx,_,_,rfl,s03 _ _ ho,F.cls,F.repeats,rfl,?_;exists o.re,S.repeats,_,j,rfl,{vs,aH.of (s03 _ _ hv),il.mono s03},vI,iv.mono s03,λH4 s4=>?_;cases qj:fA S.repeats j with
     | false=>
      rw[qj] at kk;change kk _ (s03.trans s4)
     | true=>
      rw[qj,yN (by simp)] at kk;change kk _ (s03.trans s4)
def mn (C:vE):Sp:=fm C λH v S f=>∃r:Rep,Is H (gF r) v/\J7 r.ends<64/\⇑r.ends<=1000/\-1000000<=r.times/\r.times<=1000000/\f=fault S (.rep r)
def vK {C:vE} (F:Cf K C):df P w base 3 T.iF (mn C):=by
 nomatch T.iF,["score","repeat"]
 let⟨a,S,o,v,f,rfl,sc,⟨r,iv,ht,hl,t0,t1,rfl⟩,kk⟩:=h;let sl:=yC;let⟨ub,jm,ho,hub,hjm⟩:=sc.obj;let⟨vs,hv,il⟩:=sc.re;let vl:=aO il;let⟨a1,e,rfl,h1,he⟩:=dz iv;unfold Is at he;let⟨e',us,ee,hu,ilu⟩:=he;cases ee;unfold fault at kk;dsimp only at kk;refine{_,(af (aI (fH (cU (bM (jU T F) hr T.kR (ah (pv 0) (ah (ax eV (aZ (ah (bE (pv 1) ae) (ah (bE (pv 1) ae) ag))) (nM (ts:=["end"]) (ys:=[]) (js:=[]) (te:=(eO (lK K) (aW 0) (tC (.int (0))))) (jr (bE (pv 1) ae)) (gr 0) bx (bE (pv 0) ae))) ag)))))
  (ak (aq aL))
  aA)
  (af (aI (PW.pt (d8 (bw (eT (bO (pv 0) rfl))) (dw (fH (cU (bM (Bx T) hr T.nH (ah (bO (pv 0) rfl) (ah (pv 1) ag))))))))
  (ak (aq aL))
  aA)
  (af (aI (ptr Iv (eA aE T.bG (ah (bO (pv 0) rfl) ag)) (b7 (v:=.int (20)) (by rfl) T.Cg {_,rfl}))
  (ak (aq aL))
  aA)
  (ak (aq aS))))),?_}
 ac_rfl;exists cM,?_;intros p2 H2 s2 h2;let h12:=s2 _ _ h1;exists{_,cW.of (s2 _ _ hu)},?_;let⟨ps,f1,f2,f3⟩:=rJ ilu;let pl:⇑ps<=1000:=by
  have:⇑ps=⇑r.ends:=by rw[<-f1,za]
  ext
 refine gG (enc:=λz:Sc.End×V=>z.2) (ws:=ps) (λz=>.int z.1.1) (λU=>∃v,U=[v]) () (by rw[f2];exact s2 _ _ hu) {(none),rfl} ?_ ?_
 ·rintro z U H6 R' hz s6 ⟨_,rfl⟩ r'
  let⟨a6,q6,ev,h6,h7⟩:=pX (f3 z hz);rw[ev];let h66:=s6 _ _ (s2 _ _ h6);change r' _ _ _ (au.refl _) cE {_,rfl}
 ·intro D vs5 H3 s3 hD il5
  let e5:ps.map (λz=>Dt.int z.1.1)=(r.ends.map (·.1)).map Dt.int:=by rw[<-f1,zB,zB];rfl
  rw[e5] at il5;rw[dS il5] at hD;refine{p2,D,_,_,rfl,rfl,aH.of (s3 _ _ h2),aH.of hD,by rw[za,za];show 2+_<=_;ext,?_};rw[show [V.int r.first,V.int r.last]++List.map V.int (r.ends.map (·.1))=([r.first,r.last]++r.ends.map (·.1)).map V.int from by rw[zk];rfl];intros p4 H4 s4 h4;let s04:=(s2.trans s3).trans s4;refine{a,p4,S,o,_,rfl,sc.mono s04,aH.of h4,by rw[zh,za];show 2+_<=_;ext,λH5 s5=>?_};let s05:=s04.trans s5;cases qb:S.has ([r.first,r.last]++r.ends.map (·.1)) with
  | false=>
   rw[qb] at kk;change kk _ s05
  | true=>
   rw[qb,yN (by simp)] at kk;exists a,C,o.dx,_,_,rfl,s05 _ _ ho,F.cls,F.bC,rfl,?_;cases q:S.bC with
   | some j'=>
    rw[q] at hjm kk;let⟨a2,rfl,_⟩:=lQ hjm;change kk _ s05
   | none=>
    rw[q] at hjm kk;unfold dO Is at hjm;subst hjm;rw[yN ∅] at kk;exists a,C,o.dx,_,_,rfl,s05 _ _ ho,F.cls,F.repeats,rfl,?_;exists o.re,S.repeats,_,r,rfl,{vs,aH.of (s05 _ _ hv),il.mono s05},iv.mono s05,ht,t0,t1,λH6 s6=>?_;let s06:=s05.trans s6;cases qj:lE S.repeats r with
    | false=>
     rw[qj] at kk;change kk _ s06
    | true=>
     rw[qj,yN (by simp)] at kk;exists a,C,o.dx,_,_,rfl,s06 _ _ ho,F.cls,F.repeats,rfl,?_;exists o.re,vs,rfl,.inl (aH.of (s06 _ _ hv)),?_;rw[vl];left
     by_cases c2:20<=⇑S.repeats
     ·refine bR (zg ()) ?_
      rw[yO c2] at kk;change kk _ s06
     ·refine bX (ze ()) ?_
      rw[yN c2] at kk;change kk _ s06
theorem Hh (n:Int×Str):∀{ks:List (Int×Str)} {vs:List V},⇑vs=⇑ks->(cS ((ks.map kN).zip vs) (kN n)).isSome=decide (n∈ks)
 | [],_,_=>by simp[cS]
 | k::ks,[],h=>by simp at h
 | k::ks,v::vs,h=>by
  let ih:=Hh n (ks:=ks) (vs:=vs) (by simpa using h);rw[zj,yX];unfold cS at ih ⊢;rw[yT]
  by_cases e:k=n
  ·subst e
   simp
  ·let e1:¬kN k=kN n:=λz=>e (by
    unfold kN at z;simp at z;exact Prod.ext z.1 z.2)
   let e2:¬n=k:=λz=>e z.symm;simp only[e1,decide_false] at ih ⊢;rw[ih];simp[e2]
theorem oF {α:Type} {d:α->Dt} {H:Hp}:∀{ls:List (List α)} {as:List vE},ck H d ls as->⇑as=⇑ls
 | [],_,h=>by unfold ck at h;rw[h];rfl
 | l::r,_,⟨a,t,vs,e,_,_,h3⟩=>by rw[e,zv,zv,oF h3]
def Rp {x y:Int×Int}:decide ([V.int x.1,V.int x.2]=[V.int y.1,V.int y.2])=decide (x=y):=by
 by_cases h:x=y
 ·subst h;simp
 ·rw[ze h,ze]
  intro z;simp at z;exact h (Prod.ext z.1 z.2)
def nA (C:vE):Sp:=fm C λH v S f=>∃x:Int×Str×List Item,Mq H v x/\0<=x.1/\⇑x.2.2<=500/\(∀it∈x.2.2,QM it.2)/\(∀b∈S.aG,EW b)/\f=fault S (.aJ x.1 x.2.1 x.2.2)
def BB {C:vE} (F:Cf K C):df P w base 5 T.jV (nA C):=by
 nomatch T.jV,["score","told","bar","player","items"]
 let⟨a,S,o,v,f,rfl,sc,⟨⟨b,pn,its⟩,⟨a1,q,us,rfl,h1,hq,ilq⟩,b0,il5,iok,AB,rfl⟩,kk⟩:=h;let sl:=yC;let⟨ub,jm,ho,hub,hjm⟩:=sc.obj;let nl:⇑(o.ns.map V.ref)=⇑(S.aJ.map (·.1)):=by rw[za,za,oF sc.no.2,za]
 let em:(S.aJ.map λx=>kN x.1)=(S.aJ.map (·.1)).map kN:=by rw[zB];rfl
 unfold fault at kk;dsimp only at kk h1 b0 il5 iok ilq;refine{_,(af (bN 2 qN (bE (pv 1) ae))
  (af (bN 3 qN (bE (pv 1) ae))
  (af (bN 4 qN (bE (pv 1) ae))
  (af (aI (bw (FE (fK hr) (bF (ah (pv 2) (ah (pv 3) ag))) (bO (pv 0) rfl)))
  (ak (aq aL))
  aA)
  (af (aI (gK eU (pv 3) (bO (pv 0) rfl) (by with_unfolding_all rfl))
  (ak (aq aL))
  aA)
  (af (aI (fH (cU (bM (jU T F) hr T.kR (ah (pv 0) (ah (aZ (ah (pv 2) ag)) ag)))))
  (ak (aq aL))
  aA)
  (af (aI (ptr (Bu hr.units) (bM (vM T) hr T.lR (ah (pv 4) ag)) (bM (nP T F) hr T.jN (ah (pv 0) (ah (pv 2) ag))))
  (ak (aq aL))
  aA)
  (af (aI (ptr fq (eA aE T.bG (ah (pv 4) ag)) (b7 (v:=.int (40)) (by rfl) T.Gz {_,rfl}))
  (ak (aq aL))
  aA)
  (ak (aq aS)))))))))),?_}
 ac_rfl;exists cM,?_;intros p2 H2 s2 h2;let h12:=s2 _ _ h1;exists a,C,o.dx,_,_,rfl,s2 _ _ ho,F.cls,F.aJ,rfl,?_;refine{o.no,_,rfl,.inr {_,kN (b,pn),p2,.inl (s2 _ _ sc.no.1),rfl,h2,rfl},?_};rw[em,Hh (b,pn) nl];left
 by_cases c1:(b,pn)∈S.aJ.map (·.1)
 ·rw[zg c1]
  rw[yO c1] at kk;change kk _ s2
 ·rw[ze c1]
  rw[yN c1] at kk;exists a,C,o.dx,_,_,rfl,s2 _ _ ho,F.cls,F.players,rfl,?_;refine{o.pl,_,rfl,.inl (aH.of (s2 _ _ sc.pl)),rfl,i6 _,?_};show∃k,V.bl (!F2 (.str pn) (S.players.map V.str))=.bl k/\_;rw[kQ]
  by_cases c2:pn∈S.players
  ·rw[zg c2]
   rw[yN (λz=>z c2)] at kk;exists by show 1<=sizeLine;ext,?_
   intros p3 H3 s3 h3;refine{a,p3,S,o,[b],rfl,sc.mono (s2.trans s3),aH.of h3,(by show 1<=1000000;decide),λH4 s4=>?_};let s04:=(s2.trans s3).trans s4;cases qb:S.has [b] with
   | false=>
    rw[qb] at kk;change kk _ s04
   | true=>
    rw[qb,yN (by simp)] at kk;let hb:b<⇑S.aG:=by
     unfold bH.has at qb
     simpa using qb
    let⟨n,rfl⟩:=yL b0;exists q,us,its,rfl,aH.of (s04 _ _ hq),ilq.mono s04,il5,iok,λr5 H5 s5 h5=>?_;exists a,S,o,n,rfl,sc.mono (s04.trans s5),(),AB,λr6 H6 s6 h6=>?_;let s06:=(s04.trans s5).trans s6;refine{r5,r6,_,_,rfl,rfl,.inr {cW.of (s6 _ _ h5),cW.of h6},.inr (.inr {(rfl),rfl}),?_};rw[Rp]
    by_cases c3:ke its=S.len n
    ·rw[zg c3]
     rw[yN (λz=>z c3)] at kk;exists q,us,rfl,.inl (aH.of (s06 _ _ hq)),?_;rw[aO ilq];left
     by_cases c4:40<⇑its
     ·refine bR (zg ()) ?_
      rw[yO c4] at kk;change kk _ s06
     ·refine bX (ze ()) ?_
      rw[yN c4] at kk;change kk _ s06
    ·rw[ze c3]
     rw[yO (show ke its≠S.len ((n:Int)).toNat from c3)] at kk;change kk _ s06
  ·rw[ze c2]
   rw[yO c2] at kk;change kk _ s2
def both {c:Bool} {T:(Bool->Hp->Prop)->Prop} {Z:Bool->Hp->Prop} {H:Hp} (v:Bool) (h1:c=true->∀Z,Z v H->T Z) (h2:c=false->v=false) (hz:Z v H):if c=true then T Z else Z false H:=by
 cases c with
 | true=>rw[yO rfl];exact h1 rfl Z hz
 | false=>rw[yN (by simp)];rw[<-h2 rfl];exact hz
theorem EB {H:Hp} {α:Type} {d:α->Dt} (p:Str):∀{hs:List (Str×List α)} {as:List vE},ck H d (hs.map (·.2)) as->
  (hs.lookup p=none/\cS ((hs.map λx=>kS x.1).zip (as.map V.ref)) (kS p)=none)\/∃l h vs,hs.lookup p=some l/\cS ((hs.map λx=>kS x.1).zip (as.map V.ref)) (kS p)=some (.ref h)/\H h=some (.lst vs)/\aD H (l.map d) vs
 | [],_,h=>.inl {rfl,by simp[cS]}
 | (x,l)::r,as,h=>by
  rw[zj] at h;unfold ck at h;let⟨a,t,vs,rfl,h1,h2,h3⟩:=h;rw[zj,zj,yX]
  by_cases e:x=p
  ·subst e
   refine .inr {l,a,vs,by rw[yq,wk],?_,h1,h2};unfold cS;rw[yT];simp
  ·let e1:¬kS x=kS p:=λz=>e (w6 z)
   let e2:(p == x)=false:=by simp;exact λz=>e z.symm
   let ih:=EB p h3;unfold cS at ih ⊢;rw[yT,yq,e2];simp only[e1,decide_false];exact ih
def Vs {H:Hp} {x:Int×Str} {v:V} (h:Is H (Mg x) v):∃a,v=.ref a/\H a=some (.tup [.int x.1,.str x.2]):=by
 unfold Mg Is at h;let⟨a,vs,rfl,ha,hl⟩:=h;unfold aD at hl;let⟨v1,r1,rfl,h1,hl⟩:=hl;unfold aD at hl;let⟨v2,r2,rfl,h2,hl⟩:=hl;unfold aD at hl;subst hl;unfold Is at h1 h2;subst h1 h2;exact{(a),rfl,ha}
def L6 {H:Hp} {x:Str×Int×Str} {v:V} (h:Is H (uJ x) v):∃a,v=.ref a/\H a=some (.tup [.str x.1,.int x.2.1,.str x.2.2]):=by
 unfold uJ Is at h;let⟨a,vs,rfl,ha,hl⟩:=h;unfold aD at hl;let⟨v1,r1,rfl,h1,hl⟩:=hl;unfold aD at hl;let⟨v2,r2,rfl,h2,hl⟩:=hl;unfold aD at hl;let⟨v3,r3,rfl,h3,hl⟩:=hl;unfold aD at hl;subst hl;unfold Is at h1 h2 h3;subst h1 h2 h3;exact{(a),rfl,ha}
def oY (C:vE):Sp:=fm C λH v S f=>∃x:Str×Int×Str,Is H (uJ x) v/\f=fault S (.holds x.1 x.2.1 x.2.2)
def Dp {C:vE} (F:Cf K C):df P w base 3 T.lS (oY C):=by
 nomatch T.lS,["score","told","bar","holds"]
 let⟨a,S,o,v,f,rfl,sc,⟨⟨pn,b,iN⟩,hd,rfl⟩,kk⟩:=h;let⟨a1,rfl,h1⟩:=L6 hd;let sl:=yC;let⟨ub,jm,ho,hub,hjm⟩:=sc.obj;unfold fault at kk;dsimp only at kk h1;refine{_,(af (bN 2 qN (bE (pv 1) ae))
  (af (bN 3 qN (Io (fK hr) (bO (pv 0) rfl) (bE (pv 1) ae) (aZ ag) {(rfl),rfl,rfl,rfl}))
  (af (aI (PW.pt (dm (ptr fq (eA aE T.bG (ah (pv 3) ag)) ae) (cP (ptr fX (pv 2) (bE (fG (pv 3) (nL je ae)) ae)))))
  (ak (aq aL))
  aA)
  (af (aI (PW.pt (d8 (gK eU (bE (pv 1) ae) (bO (pv 0) rfl) (by with_unfolding_all rfl)) (dw (bw (tw (fK hr) (bE (pv 1) ae) (bO (pv 0) rfl))))))
  (ak (aq aL))
  aA)
  (af (aI (fH (cU (bM (jU T F) hr T.kR (ah (pv 0) (ah (aZ (ah (pv 2) ag)) ag)))))
  (ak (aq aL))
  aA)
  (af (aI (ptr Iv (eA aE T.bG (ah (pv 3) ag)) (b7 (v:=.int (20)) (by rfl) T.GA {_,rfl}))
  (ak (aq aL))
  aA)
  (ak (aq aS)))))))),?_}
 ac_rfl;exists a,C,o.dx,_,_,rfl,ho,F.cls,F.holds,rfl,?_;refine{o.ho,rfl,.inl {_,.inl sc.ho.1},?_};exists by show 0<=sizeLine;ext,?_
 intros p2 H2 s2 h2;let h12:=s2 _ _ h1;refine{_,.inl {_,kS pn,.inl (s2 _ _ sc.ho.1),rfl,rfl},?_};obtain⟨h,vs,l,eh,hh,ilh,el⟩:∃h vs l,(cS ((S.holds.map λx=>kS x.1).zip (o.hs.map V.ref)) (kS pn)).getD (.ref p2)=.ref h/\H2 h=some (.lst vs)/\aD H2 (l.map Mg) vs/\(S.holds.lookup pn).getD []=l:=by
  rcases EB (H:=H) pn sc.ho.2 with⟨e1,e2⟩ | ⟨l,h,vs,e1,e2,hh,il⟩
  ·exact{p2,[],[],by rw[e2];rfl,h2,by unfold aD;rfl,by rw[e1];rfl}
  ·exact{h,vs,l,by rw[e2];rfl,s2 _ _ hh,il.mono s2,by rw[e1];rfl}
 rw[el] at kk;rw[eh];exists h,vs,rfl,.inl (aH.of hh),?_;rw[aO ilh];left;obtain⟨c1,ec,kk⟩:∃c1:Bool,c1=(match l.getLast? with | some q=>decide (b<=q.1) | none=>false)/\∀H',au H H'->Q (Sc.os (if c1=true then some "twice" else if pn∉S.players then some "name" else if iN∉S.ao.map (·.1) then some "name" else if¬S.has [b]=true then some "bar" else if 20<=⇑l then some "many" else none)) H':=by
  refine{_,rfl,?_};cases q:l.getLast? with
  | none=>rw[q] at kk;exact kk
  | some x=>rw[q] at kk;exact kk
 refine both c1 ?_ ?_ ?_
 ·intro c Z hz
  let lp:0<⇑l:=by have:=ye c;ext
  let vl:=aO ilh;let⟨x,hx,ix⟩:=cV ilh (i:=⇑vs-1) (zd ());let⟨a3,ea,h3⟩:=Vs ix;let eg:l.getLast?=some x:=by rw[wo,<-vl];exact hx
  rw[ec,eg] at hz;left;refine{h,vs,-1,_,rfl,rfl,aH.of hh,Mm (zd ()),?_};rw[ea];change hz
 ·intro c
  have:l=[]:=yt.mp (by have:=of_decide_eq_false c;ext);rw[ec,this];rfl
 ·clear ec
  cases c1 with
  | true=>
   change kk _ s2
  | false=>
   rw[yN (by simp)] at kk;exists a,C,o.dx,_,_,rfl,s2 _ _ ho,F.cls,F.players,rfl,?_;refine{o.pl,_,rfl,.inl (aH.of (s2 _ _ sc.pl)),rfl,i6 _,?_};show∃k,V.bl (!F2 (.str pn) (S.players.map V.str))=.bl k/\_;rw[kQ]
   by_cases c2:pn∈S.players
   ·rw[zg c2]
    rw[yN (λz=>z c2)] at kk;let⟨us,hu,ilu⟩:=sc.ins;let em:(S.ao.map λx=>kS x.1)=(S.ao.map (·.1)).map kS:=by rw[zB];rfl
    exists a,C,o.dx,_,_,rfl,s2 _ _ ho,F.cls,F.ao,rfl,?_;refine{o.ins,_,rfl,.inl {_,kS iN,.inl (s2 _ _ hu),rfl,rfl},?_};rw[em,qD iN (by rw[za];exact aO ilu)]
    by_cases c3:iN∈S.ao.map (·.1)
    ·rw[zg c3]
     rw[yN (λz=>z c3)] at kk;exists by show 1<=sizeLine;ext,?_
     intros p3 H3 s3 h3;refine{a,p3,S,o,[b],rfl,sc.mono (s2.trans s3),aH.of h3,(by show 1<=1000000;decide),λH4 s4=>?_};let s04:=(s2.trans s3).trans s4;cases qb:S.has [b] with
     | false=>
      rw[qb] at kk;change kk _ s04
     | true=>
      rw[qb,yN (by simp)] at kk;exists h,vs,rfl,.inl (aH.of ((s3.trans s4) _ _ hh)),?_;rw[aO ilh];left
      by_cases c4:20<=⇑l
      ·refine bR (zg ()) ?_
       rw[yO c4] at kk;change kk _ s04
      ·refine bX (ze ()) ?_
       rw[yN c4] at kk;change kk _ s04
    ·rw[ze c3]
     rw[yO c3] at kk;change kk _ s2
   ·rw[ze c2]
    rw[yO c2] at kk;change kk _ s2
def Hw {H:Hp} {x:Str×List Str} {v:V} (h:Is H (gE x) v):∃a q,v=.ref a/\H a=some (.tup [.str x.1,.ref q])/\H q=some (.tup (x.2.map V.str)):=by
 unfold gE Is at h;let⟨a,vs,rfl,ha,hl⟩:=h;unfold aD at hl;let⟨v1,r1,rfl,h1,hl⟩:=hl;unfold aD at hl;let⟨v2,r2,rfl,h2,hl⟩:=hl;unfold aD at hl;subst hl;unfold Is at h1;subst h1;unfold mO Is at h2;let⟨q,us,rfl,hq,hl⟩:=h2;rw[dG hl] at hq;exact{(a),q,rfl,ha,hq}
def Tx {H:Hp} {x:Str×List Str} {v:V} (h:Is H (RW x) v):∃q,v=.ref q/\H q=some (.tup (x.2.map V.str)):=by
 unfold RW mO Is at h;let⟨q,us,rfl,hq,hl⟩:=h;rw[dG hl] at hq;exact{(q),rfl,hq}
inductive Hz (C:vE) (vs:List V) (H:Hp) (Q:VK) (E:XK):Prop
 | mk (a:vE) (S:bH) (o:Ow) (v ub jm:V) (x:Str×List Str) (ob:Obj) (us:List V) (_:vs=[.ref a,v]) (_:H a=some (.ins C o.dx (Q4 o ub jm))) (_:H o.pl=some (.lst (S.players.map V.str))) (_:Ly H o.st ob ((S.aK.map λx=>kS x.1).zip us)) (_:aD H (S.aK.map RW) us) (_:Is H (gE x) v) (_:⇑x.2<=1000) (_:∀H',au H H'->Q (os (fault S (.cw x.1 x.2))) H')
theorem JY {α β:Type}:∀{l:List α} {m:List β} {i:Nat} {p:α×β},(l.zip m)[i]?=some p->l[i]?=some p.1/\m[i]?=some p.2
 | [],_,_,_,h=>by simp at h
 | _::_,[],_,_,h=>by simp at h
 | _::_,_::_,0,_,h=>by simp at h;subst h;exact{(rfl),rfl}
 | _::l,_::m,i+1,_,h=>by
  rw[yX] at h
  simpa using JY (l:=l) (m:=m) (i:=i) (by simpa using h)
def Qw {α:Type} {p:α->Bool} {l:List α} {i:Nat} {x:α} (h:l[i]?=some x) (hn:(l.take i).any p=false) (hx:p x=false):(l.take (i+1)).any p=false:=by
 rw[cm h,List.any_append,hn];simp[hx]
def Qx {α:Type} {p:α->Bool} {l:List α} {i:Nat} {x:α} (h:l[i]?=some x) (hx:p x=true):l.any p=true:=yo.mpr {x,zC h,hx}
def Iy {C:vE} (F:Cf K C):df P w base 1 T.gR (Hz C):=by
 nomatch T.gR,["score","told","players","others"]
 let⟨a,S,o,v,ub,jm,x,ob,us,rfl,ho,hpl,fz,ilu,iv,x5,kk⟩:=h;let⟨a1,q,rfl,h1,hq⟩:=Hw iv;let sl:=yC;let ul:=aO ilu;let em:(S.aK.map λx=>kS x.1)=(S.aK.map (·.1)).map kS:=by rw[zB];rfl
 unfold fault at kk;dsimp only at kk;refine{_,(af (bN 2 qN (bE (pv 1) ae))
  (af (aI (PW.pt (d8 (bw (FE (fK hr) (bE (pv 1) ae) (bO (pv 0) rfl))) (dw (ptr fe (eA NL T.bG (ah (mS (NJ rfl) T.Vh (ah (pv 2) ag)) ag)) (eA aE T.bG (ah (pv 2) ag))))))
  (ak (aq aL))
  aA)
  (af (bY yP rfl (MW (bO (pv 0) rfl)) (ia 3 qN)
  (ak (aI (cU (eA (gH rfl) T.BD (ah (nM (ts:=["player"]) (ys:=["others"]) (js:=[3]) (te:=(eO (UG K false) (aW 0) (aW 1))) (jr (pv 2)) (gr 0) bx (dN iZ (pv 0) (pv 1) (by with_unfolding_all rfl))) ag)))
   (ak (aq aL))
   aA)))
  (af (aI (cU (eA (gH rfl) T.BD (ah (nM (ts:=["player"]) (ys:=["score"]) (js:=[0]) (te:=(eO (UG K true) (aW 0) (QV K (aW 1) "players"))) (jr (pv 2)) (gr 0) bx (dN eU (pv 0) (bO (pv 1) rfl) (by with_unfolding_all rfl))) ag)))
  (ak (aq aL))
  aA)
  (ak (aq aS)))))),?_}
 ac_rfl;exists a,C,o.dx,_,_,rfl,ho,F.cls,F.aK,rfl,?_;refine{o.st,_,rfl,.inl {_,kS x.1,.inr {_,fz},rfl,rfl},?_};rw[em,qD x.1 (by rw[za];exact ul)]
 by_cases c1:x.1∈S.aK.map (·.1)
 ·rw[zg c1]
  rw[yO c1] at kk;change kk _ (au.refl _)
 ·rw[ze c1]
  rw[yN c1] at kk;exists q,x.2,rfl,cW.of hq,x5,λp2 n2=>?_;let s2:au H (upd H p2 (JQ p2 ⇑(gD x.2))):=aY n2;let h2:upd H p2 (JQ p2 ⇑(gD x.2)) p2=some (JQ p2 ⇑(gD x.2)):=aB;generalize upd H p2 (JQ p2 ⇑(gD x.2))=H2 at s2 h2 ⊢;let⟨d1,d2⟩:=Jj x.2;refine{p2,_,rfl,h2,(),?_};exists q,_,rfl,.inr (cW.of (s2 _ _ hq)),?_;rw[za];left
  by_cases c2:x.2.Nodup
  ·refine bX (ze (by have:=d2.mpr c2;ext)) ?_
   rw[yN (λz=>z c2)] at kk;exists a,C,o.dx,_,_,rfl,s2 _ _ ho,F.cls,F.aK,rfl,?_;refine{o.st,ob,_,rfl,s2 _ _ fz,?_};refine KQ (λi U H'=>au H H'/\(S.aK.take i).any (λq=>x.2.any λp=>decide (p∈q.2))=false/\∃u,U=[some (.ref a),some (.ref a1),some (.ref q),u]) {(s2),rfl,none,rfl} (λi U H' _ h=>h.1 _ _ fz) ?_ ?_
   ·intro i p U H3 hp hh
    refine dH λN kN0 kR0 _ _=>?_;let⟨s3,hn,u,rfl⟩:=hh;let⟨_,hp2⟩:=JY hp;let⟨st,hst,ist⟩:=cV ilu hp2;let⟨r,er,hr'⟩:=Tx ist;rw[er];exists{_,cW.of (s3 _ _ hq)},?_;refine gG (enc:=V.str) (ws:=x.2) (λz=>.bl (decide (z∈st.2))) (λU=>∃v,U=[v,some (.ref r)]) () (s3 _ _ hq) {(none),rfl} ?_ ?_
    ·rintro z U H4 R hz s4 ⟨_,rfl⟩ rr
     exists r,_,rfl,.inr (cW.of ((s3.trans s4) _ _ hr')),rfl,i6 _,?_;refine rr _ _ _ (au.refl _) ?_ {_,rfl};rw[yN (by simp),kQ];unfold Is;rfl
    ·intro D vs H4 s4 hD il
     let e:x.2.map (λz=>Dt.bl (decide (z∈st.2)))=(x.2.map λz=>decide (z∈st.2)).map Dt.bl:=by rw[zB];rfl
     rw[e] at il;rw[ki il] at hD;refine{D,_,rfl,aH.of hD,?_};let e2:(x.2.map λz=>decide (z∈st.2)).any id=x.2.any λp=>decide (p∈st.2):=by rw[wH];rfl
     rw[e2];cases qc:x.2.any λp=>decide (p∈st.2) with
     | true=>
      rw[yO (Qx hst (p:=λq:Str×List Str=>x.2.any λp=>decide (p∈q.2)) qc)] at kk;change kk _ (s3.trans s4)
     | false=>
      change{s3.trans s4,Qw hst hn qc,_,rfl}
   ·rintro U H3 ⟨s3,hn,u,rfl⟩
    rw[xC,za,ul,Nat.min_self,zN] at hn;rw[hn,yN (by simp)] at kk;exists{_,cW.of (s3 _ _ hq)},?_;refine gG (enc:=V.str) (ws:=x.2) (λz=>.bl (!decide (z∈S.players))) (λU=>∃v,U=[v,some (.ref a)]) () (s3 _ _ hq) {(none),rfl} ?_ ?_
    ·rintro z U H4 R hz s4 ⟨_,rfl⟩ rr
     exists a,C,o.dx,_,_,rfl,(s3.trans s4) _ _ ho,F.cls,F.players,rfl,?_;refine{o.pl,_,rfl,.inl (aH.of ((s3.trans s4) _ _ hpl)),rfl,i6 _,?_};refine rr _ _ _ (au.refl _) ?_ {_,rfl};show Is H4 _ (V.bl (!F2 (.str z) (S.players.map V.str)));rw[kQ];unfold Is;rfl
    ·intro D vs H4 s4 hD il
     let e:x.2.map (λz=>Dt.bl (!decide (z∈S.players)))=(x.2.map λz=>!decide (z∈S.players)).map Dt.bl:=by rw[zB];rfl
     rw[e] at il;rw[ki il] at hD;refine{D,_,rfl,aH.of hD,?_};let e2:(x.2.map λz=>!decide (z∈S.players)).any id=x.2.any λp=>!decide (p∈S.players):=by rw[wH];rfl
     rw[e2];cases qc:x.2.any λp=>!decide (p∈S.players) with
     | true=>
      rw[qc,yO rfl] at kk;change kk _ (s3.trans s4)
     | false=>
      rw[qc,yN (by simp)] at kk;change kk _ (s3.trans s4)
  ·refine bR (zg (by have:⇑(gD x.2)≠⇑x.2:=λz=>c2 (d2.mp z);ext)) ?_
   rw[yO c2] at kk;change kk _ s2
def nu (C:vE):Sp:=fm C λH v S f=>∃x,Is H (gE x) v/\⇑x.2<=1000/\f=fault S (.cw x.1 x.2)
def P5 {H:Hp} {d:vE} {o:Obj} {u:HO} (hd:H d=some u) (nt:cg (some u)) {l:List Dt} {vs:List V} (h:aD H l vs):aD (upd H d (.mV o u)) l vs:=aD.upd (by rw[hd];exact nt) h
def HG {H H':Hp} {d:vE} {o:Obj} {u:HO} (hd:H d=some u) (s:au (upd H d (.mV o u)) H'):au H (upd H' d u):=λb z hb=>by
 by_cases e:b=d
 ·subst e;rw[aB,<-hd,hb]
 ·rw[aC e];exact s b z (by rw[aC e];exact hb)
def Bw {C:vE} (F:Cf K C):df P w base 1 T.gR (nu C):=by
 refine(Iy (P:=P) (w:=w) (base:=base) T F).Sf (λvs H Q E h=>?_) (λvs H Q E h=>?_)
 ·let⟨_,_,_,_,_,rfl,_⟩:=h;rfl
 ·let⟨a,S,o,v,f,rfl,sc,⟨x,iv,x5,rfl⟩,kk⟩:=h
  let⟨us,hu,ilu⟩:=sc.st;let⟨ub,jm,ho,hub,hjm⟩:=sc.obj;let nt:cg (some (HO.dK ((S.aK.map λx=>kS x.1).zip us))):=λvs z=>by cases z
  let na:a≠o.st:=λz=>by rw[z,hu] at ho;cases ho
  let np:o.pl≠o.st:=λz=>by have:=sc.pl;rw[z,hu] at this;cases this
  refine{o.st,_,hu,rfl,λob=>{a,S,o,v,ub,jm,x,ob,us,rfl,by rw[aC na];exact ho,by rw[aC np];exact sc.pl,aB,P5 hu nt ilu,Is.upd (by rw[hu];exact nt) iv,x5,λH' s'=>kk _ (HG hu s')}}
def SE (S:bH):Prop:=∀b∈S.aG,EW b
inductive E9 (C:vE) (vs:List V) (H:Hp) (Q:VK) (E:XK):Prop
 | mk (a:vE) (S:bH) (o:Ow) (v ub jm:V) (x:Int×Int) (ob:Obj) (us:List V) (_:vs=[.ref a,v]) (_:H a=some (.ins C o.dx (Q4 o ub jm))) (_:Is H (dO dL S.aF) ub) (_:V2 C H a S o) (_:H o.no=some (.mV ob (.dT ((S.aJ.map λx=>kN x.1).zip us)))) (_:⇑us=⇑S.aJ) (_:⇑S.aJ<=1000000) (_:Is H (dL x) v) (_:CH 8999 x) (_:SE S) (_:∀H',au H H'->Q (os (fault S (.aF x))) H')
def Py {S:bH} (h:SE S) (b:Nat) (hb:b<⇑S.aG):CH 8999 (S.aP b):=by
 unfold bH.aP;rw[zd hb];let⟨k1,k2,k3,k4⟩:=h _ (ym hb);let⟨g,g1,g2,g3,g4,g5⟩:=jh (t:=S.aG[b].aP.1) k3;let r0:=Bj (t:=S.aG[b].aP.1) (b:=S.aG[b].aP.2) k1;let r1:=Bk (t:=S.aG[b].aP.1) (b:=S.aG[b].aP.2) k1;dsimp only;exact{(cu (n:=10) r0 ()).mono ∅,(cu (n:=10) () ()).mono ∅}
def FH {C:vE} (F:Cf K C):df P w base 4 T.fQ (E9 C):=by
 nomatch T.fQ,["score","length"]
 let⟨a,S,o,v,ub,jm,x,ob,us,rfl,ho,hub,sb,fz,ul,n6,iv,zx,AB,kk⟩:=h;let sl:=yC;unfold fault at kk;dsimp only at kk;refine{_,(af (aI (bw (eT (bO (pv 0) rfl)))
  (ak (aq aL))
  aA)
  (af (aI (ptr cZ (eA aE T.bG (ah (bO (pv 0) rfl) ag)) ae)
  (ak (aq aL))
  aA)
  (af (aI (fH (cU (bM (Kx T) hr T.Fj (ah (pv 1) (ah (bM (mE T F) hr T.iI (ah (pv 0) (ah ae ag))) ag)))))
  (ak (aq aL))
  aA)
  (af (aI (cU (eA (gH rfl) T.BD (ah (nM (ts:=["place"]) (ys:=[]) (js:=[]) (te:=(eO WL (eO (lK K) (aW 0) (tC (.int (0)))) (tC (.int (0))))) (Rk (bO (pv 0) rfl)) (gr 0) bx (dN cZ (bE (pv 0) ae) ae (jz _))) ag)))
  (ak (aq aL))
  aA)
  (ak (aq aS)))))),?_}
 ac_rfl;exists a,C,o.dx,_,_,rfl,ho,F.cls,F.aF,rfl,?_;cases q:S.aF with
 | some u=>
  rw[q,yO (show(some u).isSome=true from rfl)] at kk;rw[q] at hub;cases fg (o:=some u) hub with
  | ref hu=>
   change kk _ (au.refl _)
 | none=>
  rw[q,yN (by simp)] at kk;rw[q] at hub;unfold dO Is at hub;subst hub;let⟨vs,hv,il⟩:=sb.ba;cases fg (o:=some x) iv with
  | ref hx=>
  rename_i a1;exists a,C,o.dx,_,_,rfl,ho,F.cls,F.aG,rfl,?_;exists o.ba,vs,rfl,.inl (aH.of hv),?_;rw[aO il];left
  by_cases c1:⇑S.aG=0
  ·refine bR (by rw[c1];rfl) ?_
   rw[yO c1] at kk;change kk _ (au.refl _)
  ·refine bX (ze λz=>c1 (by have:=V.int.inj z;ext)) ?_
   rw[yN c1] at kk;exists a,S,o,0,rfl,sb,(),AB,λp H1 s1 h1=>?_;refine{_,_,_,_,rfl,s1 _ _ hx,h1,zx,Py AB 0 (),?_}
   by_cases c2:x.1*(S.aP 0).2<(S.aP 0).1*x.2
   ·rw[zg c2]
    rw[yN (λz=>z c2)] at kk;exists a,C,o.dx,_,_,rfl,s1 _ _ ho,F.cls,F.aJ,rfl,?_;refine{o.no,ob,_,_,rfl,{_,s1 _ _ fz,.inr {_,rfl,rfl,rfl}},?_};let kl:⇑((S.aJ.map λx=>kN x.1).zip us)=⇑S.aJ:=by rw[xC,za,ul,Nat.min_self]
    refine Cb (ws:=S.aJ) (λp x H=>∃b,x=.ref b/\H b=some (.tup [.int p.1.1,.str p.1.2])) (λp=>.bl (decide (p.1.1=0))) (λU=>∃v,U=[v]) () {(none),rfl} (λi H2 hi s2=>{{_,s2 _ _ (s1 _ _ fz),.inr {_,rfl,rfl,rfl}},()}) (λH2 s2=>{{_,s2 _ _ (s1 _ _ fz),.inr {_,rfl,rfl,rfl}},()}) ?_ ?_ ?_
    ·rintro i y H2 H3 hi s2 ⟨rfl,p,b,hp,hb,rfl⟩
     refine{au.refl _,b,rfl,?_};let⟨z1,_⟩:=JY hp;rw[zK,zd hi] at z1;simp only[xo,xP] at z1;rw[<-z1] at hb;exact hb
    ·rintro p y U H2 R hp s2 ⟨b,rfl,hb⟩ ⟨_,rfl⟩ r
     left;refine r _ _ _ (au.refl _) ?_ {_,rfl};rw[show decide (V.int p.1.1=V.int 0)=decide (p.1.1=0) from by by_cases h:p.1.1=0 <;> simp[h]];unfold Is;rfl
    ·intro D vs H4 s4 hD il
     let e:S.aJ.map (λp=>Dt.bl (decide (p.1.1=0)))=(S.aJ.map λp=>decide (p.1.1=0)).map Dt.bl:=by rw[zB];rfl
     rw[e] at il;rw[ki il] at hD;refine{D,_,rfl,aH.of hD,?_};let e2:(S.aJ.map λp=>decide (p.1.1=0)).any id=S.aJ.any λp=>decide (p.1.1=0):=by rw[wH];rfl
     rw[e2];cases qc:S.aJ.any λp=>decide (p.1.1=0) with
     | true=>
      rw[qc,yO rfl] at kk;change kk _ (s1.trans s4)
     | false=>
      rw[qc,yN (by simp)] at kk;change kk _ (s1.trans s4)
   ·rw[ze c2]
    rw[yO c2] at kk;change kk _ s1
def mm (C:vE):Sp:=fm C λH v S f=>∃x,Is H (dL x) v/\CH 8999 x/\SE S/\⇑S.aJ<=1000000/\f=fault S (.aF x)
def vJ {C:vE} (F:Cf K C):df P w base 4 T.fQ (mm C):=by
 refine(FH (P:=P) (w:=w) (base:=base) T F).Sf (λvs H Q E h=>?_) (λvs H Q E h=>?_)
 ·let⟨_,_,_,_,_,rfl,_⟩:=h;rfl
 ·let⟨a,S,o,v,f,rfl,sc,⟨x,iv,zx,AB,n6,rfl⟩,kk⟩:=h
  let⟨hn,ln⟩:=sc.no;let⟨ub,jm,ho,hub,hjm⟩:=sc.obj;let⟨bs,hb,ilb⟩:=sc.ba;let nt:cg (some (HO.dT ((S.aJ.map λx=>kN x.1).zip (o.ns.map V.ref)))):=λvs z=>by cases z
  let na:a≠o.no:=λz=>by rw[z,hn] at ho;cases ho
  let nb:o.ba≠o.no:=λz=>by rw[z,hn] at hb;cases hb
  let ho':∀ob,upd H o.no (.mV ob (.dT ((S.aJ.map λx=>kN x.1).zip (o.ns.map V.ref)))) a=some (.ins C o.dx (Q4 o ub jm)):=λob=>by rw[aC na];exact ho
  refine{o.no,_,hn,rfl,λob=>{a,S,o,v,ub,jm,x,ob,o.ns.map V.ref,rfl,ho' ob,Is.upd (by rw[hn];exact nt) hub,{{ub,jm,ho' ob},bs,by rw[aC nb];exact hb,P5 hn nt ilb},aB,by rw[za,oF ln,za],n6,Is.upd (by rw[hn];exact nt) iv,zx,AB,λH' s'=>kk _ (HG hn s')}}
noncomputable def pB:Told->Str
 | .bK _=> "player"
 | .cJ _ _ _=> "instrument"
 | .cw _ _=> "staff"
 | .bar _=> "bar"
 | .aF _=> "upbeat"
 | .holds _ _ _=> "holds"
 | .aJ _ _ _=> "notes"
 | .rep _=> "repeat"
 | .bC _=> "jump"
def Uw (S:bH):Told->Prop
 | .cw _ ps=>⇑ps<=1000
 | .aF l=>CH 8999 l/\SE S/\⇑S.aJ<=1000000
 | .aJ b _ its=>0<=b/\⇑its<=500/\(∀it∈its,QM it.2)/\SE S
 | .rep r=>J7 r.ends<64/\⇑r.ends<=1000/\-1000000<=r.times/\r.times<=1000000
 | .bC _=>GU S
 | _=>True
inductive N8 (K:yB) {mg:Str->Option vy} (T:Txt K mg) (C:vE):vE->Sp->Prop where
 | bK:N8 K T C T.gn (mq C)
 | cJ:N8 K T C T.dX (iC C)
 | cw:N8 K T C T.gM (nu C)
 | bar:N8 K T C T.kc (qJ C)
 | aF:N8 K T C T.gi (mm C)
 | holds:N8 K T C T.iU (oY C)
 | aJ:N8 K T C T.gQ (nA C)
 | rep:N8 K T C T.gj (mn C)
 | bC:N8 K T C T.iT (oX C)
noncomputable def Sv {K:yB} {mg:Str->Option vy} (T:Txt K mg):List (Str×V):=[("player",V.ref T.gn),("instrument",.ref T.dX),("staff",.ref T.gM),("bar",.ref T.kc),("upbeat",.ref T.gi),("holds",.ref T.iU),("notes",.ref T.gQ),("repeat",.ref T.gj),("jump",.ref T.iT)]
def P4 (K:yB) {mg:Str->Option vy} (T:Txt K mg) (C:vE) (t:Told):∃f D,sC (Sv T) (pB t)=some (.ref f)/\N8 K T C f (fm C D)/\∀H0 H v S,gJ H0 H v (some t)->Uw S t->D H v S (fault S t):=by
 cases t with
 | bK n=>exact{_,_,rfl,.bK,λH0 H v S h1 h2=>{(n),h1,rfl}}
 | cJ n t l=>exact{_,_,rfl,.cJ,λH0 H v S h1 h2=>{(n,t,l),h1,rfl}}
 | cw n ps=>exact{_,_,rfl,.cw,λH0 H v S h1 h2=>{(n,ps),h1,h2,rfl}}
 | bar b=>exact{_,_,rfl,.bar,λH0 H v S h1 h2=>{(b),rfl}}
 | aF l=>exact{_,_,rfl,.aF,λH0 H v S h1 h2=>{(l),h1,h2.1,h2.2.1,h2.2.2,rfl}}
 | holds p b i=>exact{_,_,rfl,.holds,λH0 H v S h1 h2=>{(p,b,i),h1,rfl}}
 | aJ b p its=>exact{_,_,rfl,.aJ,λH0 H v S h1 h2=>{(b,p,its),iX.at h1,h2.1,h2.2.1,h2.2.2.1,h2.2.2.2,rfl}}
 | rep r=>exact{_,_,rfl,.rep,λH0 H v S h1 h2=>{(r),h1,h2.1,h2.2.1,h2.2.2.1,h2.2.2.2,rfl}}
 | bC j=>exact{_,_,rfl,.bC,λH0 H v S h1 h2=>{(j),h1,h2,rfl}}
def Oo {H0 H:Hp} {v:V} {t:Told} (h:gJ H0 H v (some t)):v≠.bP:=by
 let tp:∀l,Is H (.tup l) v->v≠.bP:=λl z=>by
  unfold Is at z;let⟨a,vs,e,_⟩:=z;rw[e];simp
 cases t with
 | bK n=>let e:v=.str n:=h;rw[e];simp
 | cJ n t l=>exact tp _ h
 | cw n ps=>exact tp _ h
 | bar b=>exact tp _ h
 | aF l=>exact tp _ h
 | holds p b i=>exact tp _ h
 | aJ b p its=>let⟨a,_,_,e,_⟩:=h;rw[e];simp
 | rep r=>exact tp _ h
 | bC j=>exact tp _ h
noncomputable def P9 (S:bH):Option Told->Option Str
 | none=>some "row"
 | some t=>fault S t
inductive HD (C:vE) (vs:List V) (H:Hp) (Q:VK) (E:XK):Prop
 | mk (a:vE) (S:bH) (o:Ow) (x:Str) (v:V) (H0:Hp) (t:Option Told) (_:vs=[.ref a,.str x,v]) (_:b8 C H a S o) (_:gJ H0 H v t) (_:(∀t',t=some t'->x=pB t'/\Uw S t')) (_:∀H',au H H'->Q (os (P9 S t)) H')
def ux:gq ["score","sort","told","finder"] ["score","sort","told"] (aT pH):=Vt
def ID (B:Dk P w K T) {C:vE} (F:Cf K C):df P w base 6 T.BP (HD C):=by
 refine T.BP.F.VY ux λcdv A' outer s H vs Q E hr h=>?_
 ·let⟨a,S,o,x,v,H0,t,rfl,sc,tv,fit,kk⟩:=h
  let hTbV:∀f sp,N8 K T C f sp->UC (ku JT P w K mg base ["score","sort","told","finder"] "fault_of" (aT pH) T.Ct cdv A' outer s H E).Kz JT 5 f sp:=by
   intro f sp h;cases h with
   | bK=>exact{_,_,L2.dB.mono (vL T F) ∅,T.iG.F.kp,T.iG.b}
   | cJ=>exact{_,_,L2.dB.mono (oR T F) ∅,T.eY.F.kp,T.eY.b}
   | cw=>exact{_,_,L2.dB.mono (Bw T F) ∅,T.gR.F.kp,T.gR.b}
   | bar=>exact{_,_,L2.dB.mono (FQ T F) ∅,T.oM.F.kp,T.oM.b}
   | aF=>exact{_,_,L2.dB.mono (vJ T F) ∅,T.fQ.F.kp,T.fQ.b}
   | holds=>exact{_,_,L2.dB.mono (Dp T F) ∅,T.lS.F.kp,T.lS.b}
   | aJ=>exact{_,_,L2.dB.mono (BB T F) ∅,T.jV.F.kp,T.jV.b}
   | rep=>exact{_,_,L2.dB.mono (vK T F) ∅,T.iF.F.kp,T.iF.b}
   | bC=>exact{_,_,L2.dB.mono (Dn T F) ∅,T.lP.F.kp,T.lP.b}
  refine{_,(af (aI (bw (cx (pv 2)))
   (ak (aq aL))
   aA)
   (af (bN 3 ux.nd (Im (b7 (v:=.ref T.qW) (by rfl) T.Qq rfl) (pv 1) (λ_ _=>rfl)))
   (ak (aq (Iq (N8 K T C) hTbV (hr.mono ∅) (pv 3) LW (ah (pv 0) (ah (pv 2) ag))))))),?_}
  ac_rfl;left;cases t with
  | none=>
   let e:v=.bP:=tv;subst e;change kk _ (au.refl _)
  | some t=>
   let⟨ex,ft⟩:=fit t rfl;subst ex;let⟨f,D,ev,htb,hd⟩:=P4 K T C t;let ne:=Oo tv;rw[ze ne];exists T.qW,Sv T,pB t,_,rfl,B.Uh,rfl,ev,?_;exists f,_,rfl,htb,?_;change{a,S,o,v,_,rfl,sc,hd H0 H v S tv ft,kk}
def JG {hs:List (Str×List (Int×Str))} {p:Str} {h:Int×Str} (fr:p∉hs.map (·.1)):e9 (hs++[(p,[])]) p h=e9 hs p h:=by
 unfold e9;rw[yN fr,yO (by rw[zk];exact zI _ (zA.mpr rfl)),zk];let e:(hs.map λq:Str×List (Int×Str)=>if q.1=p then(q.1,q.2++[h]) else q)=hs:=by
  conv=>rhs;rw[<-List.map_id hs]
  refine xA λq hq=>?_;rw[yN (λz=>fr (by rw[<-z];exact zP (f:=λx:Str×List (Int×Str)=>x.1) hq))];rfl
 rw[e];simp
def qq (S:bH):Prop:=(S.holds.map (·.1)).Nodup/\⇑S.holds<=1000000/\∀q∈S.holds,⇑q.2<=1000000
inductive HE (C:vE) (vs:List V) (H:Hp) (Q:VK) (E:XK):Prop
 | mk (a:vE) (S:bH) (o:Ow) (v:V) (pn:Str) (b:Int) (i:Str) (_:vs=[.ref a,v]) (_:b8 C H a S o) (_:Is H (uJ (pn,b,i)) v) (_:qq S) (_:∀H' o',b8 C H' a (bQ S (.holds pn b i)) o'->Al (own a o) H H'->(∀x∈own a o',x∈own a o\/H x=none)->Q .bP H')
def rE {o:Ow} {a x:vE} (h:x∈o.lists):x∈own a o:=by
 unfold Ow.lists at h;unfold own;rw[zG,zG] at h ⊢;rcases h with(h | h) | h
 ·refine .inl (.inl ?_)
  simp only[zD,zE,yV] at h ⊢;rcases h with h | h | h <;> simp[h]
 ·exact .inl (.inr h)
 ·exact .inr h
def Pp {C a x:vE} {H:Hp} {S:bH} {o:Ow} (h:b8 C H a S o) (hx:x∈own a o):∃u,H x=some u:=by
 let⟨_,_,ha,_⟩:=h.obj;let⟨_,hi,_⟩:=h.ins;let⟨_,hs,_⟩:=h.st;let⟨_,hb,_⟩:=h.ba;let⟨_,hr,_⟩:=h.re;unfold own at hx;rw[zG,zG] at hx;rcases hx with(hx | hx) | hx
 ·simp only[zD,zE,yV] at hx
  rcases hx with rfl | rfl | rfl | rfl | rfl | rfl | rfl | rfl
  ·exact{_,ha}
  ·exact{_,h.pl}
  ·exact{_,hi}
  ·exact{_,hs}
  ·exact{_,hb}
  ·exact{_,h.ho.1}
  ·exact{_,h.no.1}
  ·exact{_,hr}
 ·let⟨vs,e⟩:=cH h.ho.2 hx
  exact{_,e}
 ·let⟨vs,e⟩:=cH h.no.2 hx
  exact{_,e}
def FF {C a x:vE} {H:Hp} {S:bH} {o:Ow} (h:b8 C H a S o) (hx:H x=none):x∉own a o:=λz=>by
 let⟨u,e⟩:=Pp h z;rw[hx] at e;cases e
def IT {hs:List (Str×List (Int×Str))} {as:List vE} {H:Hp} {x:vE} {vs:List V} (hL:ck H Mg (hs.map (·.2)) as) (hx:x∈as) (hH:H x=some (.lst vs)) (hb:∀q∈hs,⇑q.2<=1000000):⇑vs<=1000000:=by
 induction hs generalizing as with
 | nil=>unfold ck at hL;rw[hL] at hx;simp at hx
 | cons q r ih=>
  rw[zj] at hL;let⟨a,t,us,rfl,h1,h2,h3⟩:=hL;rcases zD.mp hx with rfl | hx
  ·rw[h1] at hH;cases hH
   have:=aO h2;have:=hb q zr;ext
  ·exact ih h3 hx λq hq=>hb q (zp _ hq)
def IG {C:vE} (F:Cf K C):df P w base 1 T.Cn (HE C):=by
 nomatch T.Cn,["score","told"]
 let⟨a,S,o,v,pn,b,i,rfl,sc,iv,⟨nk,hl,hb⟩,kk⟩:=h;let⟨a1,rfl,h1⟩:=L6 iv;let sl:=yC;let⟨ub,jm,ho,hub,hjm⟩:=sc.obj;let em:(S.holds.map λx=>kS x.1)=(S.holds.map (·.1)).map kS:=by rw[zB];rfl
 let ll:⇑(o.hs.map V.ref)=⇑(S.holds.map (·.1)):=by rw[za,za,oF sc.ho.2,za]
 dsimp only at h1;refine{_,(af (aI (bw (tw (fK hr) (bE (pv 1) ae) (bO (pv 0) rfl)))
  (ak (lM (fK hr) (bO (pv 0) rfl) (bE (pv 1) ae) (aZ ag) rfl))
  aA)
  (ak (bu (bJ yD yF yE bB (Ao (fK hr) (bO (pv 0) rfl) (bE (pv 1) ae) (λ_ _=>rfl)) (ah (bF (ah (bE (pv 1) ae) (ah (bE (pv 1) ae) ag))) ag))))),?_}
 ac_rfl;exists a,C,o.dx,_,_,rfl,ho,F.cls,F.holds,rfl,?_;refine{o.ho,_,rfl,.inl {_,kS pn,.inl sc.ho.1,rfl,rfl},?_};rw[em,qD pn ll]
 by_cases c1:pn∈S.holds.map (·.1)
 ·rw[zg c1]
  let⟨x,us,e1,e2,e3,e4⟩:=sc.oC nk c1;exists a,C,o.dx,_,_,rfl,ho,F.cls,F.holds,rfl,?_;exists o.ho,_,rfl,.inl {_,kS pn,.inl sc.ho.1,rfl,e1.symm},?_;refine{.inl {rfl,us,aH.of e3},?_};exists cM,?_;intros p2 H2 s2 h2;refine{x,us,_,rfl,rfl,s2 _ _ e3,?_,?_}
  ·have:=IT sc.ho.2 e2 e3 hb
   ext
  ·let⟨x',us',f1,f2,f3,f4⟩:=(sc.mono s2).oC nk c1
   let ex:x=x':=by rw[f1] at e1;cases e1;rfl
   subst ex;let eu:us=us':=by have:=s2 _ _ e3;rw[f3] at this;cases this;rfl
   subst eu;change kk _ o (f4 _ b i (cz h2 (aN cE (aN eJ cD)))) ((Al.of s2).trans (Al.upd (rE (by unfold Ow.lists;simp[e2])))) λy hy=>.inl hy
 ·rw[ze c1]
  left
  intros p1 n1 s1 g1 H1
  let sc1:=sc.mono s1;let h11:=s1 _ _ h1;let nl:p1∉o.lists:=λz=>FF sc n1 (rE z);exists a,C,o.dx,_,_,rfl,s1 _ _ ho,F.cls,F.holds,rfl,?_;left;refine{o.ho,_,rfl,.inl {_,kS pn,sc1.ho.1,rfl,?_,rfl},?_}
  ·rw[xC,za];ext
  let sc2:=sc1.Pt g1 nl c1;let nt1:cg (H1 o.ho):=by rw[sc1.ho.1];exact λ_ z=>by cases z
  let h12:upd H1 o.ho (.dK (putK ((S.holds.map λx=>kS x.1).zip (o.hs.map V.ref)) (kS pn) (.ref p1))) a1=some (.tup [V.str pn,V.int b,V.str i]):=by rw[aC (Sc.bq h11 sc1.ho.1 (fO rfl))];exact h11
  let el:Al (own a o) H (upd H1 o.ho (.dK (putK ((S.holds.map λx=>kS x.1).zip (o.hs.map V.ref)) (kS pn) (.ref p1)))):=(Al.of s1).trans (Al.upd (by unfold own;simp));generalize upd H1 o.ho (.dK (putK ((S.holds.map λx=>kS x.1).zip (o.hs.map V.ref)) (kS pn) (.ref p1)))=H3 at sc2 h12 el ⊢;let⟨ub2,jm2,ho2,_,_⟩:=sc2.obj;let nk2:(({S with holds:=S.holds++[(pn,[])]}:bH).holds.map (·.1)).Nodup:=by
   show((S.holds++[(pn,[])]).map λx:Str×List (Int×Str)=>x.1).Nodup;rw[zk,zT];exact{nk,by simp,λx hx y hy e=>by simp at hy;subst hy;subst e;exact c1 hx}
  let c2:pn∈({S with holds:=S.holds++[(pn,[])]}:bH).holds.map (·.1):=by
   show pn∈(S.holds++[(pn,[])]).map λx:Str×List (Int×Str)=>x.1;rw[zk];exact zI _ (zA.mpr rfl)
  let⟨x,us,e1,e2,e3,e4⟩:=sc2.oC nk2 c2;let hb2:∀q∈S.holds++[((pn,[]):Str×List (Int×Str))],⇑q.2<=1000000:=λq hq=>by
   rcases zG.mp hq with z | z
   ·exact hb q z
   ·rw[zA.mp z];exact yg _
  exists a,C,_,_,_,rfl,ho2,F.cls,F.holds,rfl,?_;exists o.ho,_,rfl,.inl {_,kS pn,.inl sc2.ho.1,rfl,e1.symm},?_;refine{.inl {rfl,us,aH.of e3},?_};exists cM,?_;intros p2 H4 s4 h4;refine{x,us,_,rfl,rfl,s4 _ _ e3,?_,?_}
  ·have:=IT sc2.ho.2 e2 e3 hb2
   ext
  ·let⟨x',us',f1,f2,f3,f4⟩:=(sc2.mono s4).oC nk2 c2
   let ex:x=x':=by rw[f1] at e1;cases e1;rfl
   subst ex;let eu:us=us':=by have:=s4 _ _ e3;rw[f3] at this;cases this;rfl
   subst eu;left;let ea:bQ {S with holds:=S.holds++[(pn,[])]} (.holds pn b i)=bQ S (.holds pn b i):=by
    show({S with holds:=e9 (S.holds++[(pn,[])]) pn (b,i)}:bH)={S with holds:=e9 S.holds pn (b,i)};rw[JG c1]
   let sf:=f4 _ b i (cz h4 (aN cE (aN eJ cD)));rw[ea] at sf;let xin:x∈o.hs\/x=p1:=by
    have:x∈o.hs++[p1]:=e2;rw[zG,zA] at this;exact this
   refine kk _ _ sf (λy u ny hy=>?_) λy hy=>?_
   ·let hy4:=s4 _ _ (el y u ny hy)
    rw[aC]
    ·exact hy4
    ·intro z
     subst z;rcases xin with z | z
     ·exact ny (rE (by unfold Ow.lists;simp[z]))
     ·subst z;rw[n1] at hy;cases hy
   ·have:y∈own a o\/y=p1:=by
     unfold own at hy ⊢;simp only[zG,zD,zE,yV] at hy ⊢;rcases hy with(hy | hy | hy) | hy
     ·exact .inl (.inl (.inl hy))
     ·exact .inl (.inl (.inr hy))
     ·exact .inr hy
     ·exact .inl (.inr hy)
    rcases this with z | z
    ·exact .inl z
    ·subst z;exact .inr n1
def uj (S:bH):Prop:=⇑S.players<=1000000/\⇑S.ao<=1000000/\⇑S.aK<=1000000/\⇑S.aG<=1000000/\⇑S.aJ<=1000000/\⇑S.repeats<=1000000
inductive Kb (C:vE) (vs:List V) (H:Hp) (Q:VK) (E:XK):Prop
 | mk (a:vE) (S:bH) (o:Ow) (v:V) (H0:Hp) (t:Told) (_:vs=[.ref a,.str (pB t),v]) (_:b8 C H0 a S o) (_:au H0 H) (_:gJ H0 H v (some t)) (_:fault S t=none) (_:qq S) (_:uj S) (_:∀H' o',b8 C H' a (bQ S t) o'->Al (own a o) H H'->(∀x∈own a o',x∈own a o\/H0 x=none)->Q .bP H')
def F3 {c:Prop} [Decidable c] {x:Str} {y:Option Str} (h:(if c then some x else y)=none):¬c/\y=none:=by
 by_cases e:c
 ·rw[yO e] at h;cases h
 ·rw[yN e] at h;exact{(e),h}
theorem uF {H:Hp}:∀l:List Str,aD H (l.map Dt.str) (l.map V.str)
 | []=>cD
 | x::r=>aN eJ (uF r)
def Ky {C:vE} (F:Cf K C):df P w base 2 T.GH (Kb C):=by
 nomatch T.GH,["score","sort","told"]
 let⟨a,S,o,v,H0,t,rfl,sc0,s0,tv,fn,b9,⟨z1,z2,z3,z4,z5,z6⟩,kk⟩:=h;let sl:=yC;let sc:=sc0.mono s0;let⟨ub,jm,ho,hub,hjm⟩:=sc.obj;let me:∀x∈own a o,x∈own a o\/H0 x=none:=λx hx=>.inl hx;refine{_,(ak (aI (ptr cZ (pv 1) aL)
  (ak (bu (bJ yD yF yE bB (bO (pv 0) rfl) (ah (pv 2) ag))))
  (ak (aI (ptr cZ (pv 1) aL)
   (ak (lM (fK hr) (bO (pv 0) rfl) (bE (pv 2) ae) (bF (ah (bE (pv 2) ae) (ah (bE (pv 2) ae) ag))) rfl))
   (ak (aI (ptr cZ (pv 1) aL)
    (ak (lM (fK hr) (bO (pv 0) rfl) (bE (pv 2) ae) (bE (pv 2) ae) rfl))
    (ak (aI (ptr cZ (pv 1) aL)
     (ak (bu (bJ yD yF yE bB (bO (pv 0) rfl) (ah (pv 2) ag))))
     (ak (aI (ptr cZ (pv 1) aL)
      (ak (jq (pv 0) (pv 2) rfl))
      (ak (aI (ptr cZ (pv 1) aL)
       (ak (bu (bM (IG T F) hr T.Cn (ah (pv 0) (ah (pv 2) ag)))))
       (ak (aI (ptr cZ (pv 1) aL)
        (ak (lM (fK hr) (bO (pv 0) rfl) (bF (ah (bE (pv 2) ae) (ah (bE (pv 2) ae) ag))) (bE (pv 2) ae) rfl))
        (ak (aI (ptr cZ (pv 1) aL)
         (ak (bu (bJ yD yF yE bB (bO (pv 0) rfl) (ah (pv 2) ag))))
         (ak (jq (pv 0) (pv 2) rfl)))))))))))))))))),?_}
 ac_rfl;cases t with
 | bK n=>
  let e:v=.str n:=tv;subst e;exists a,C,o.dx,_,_,rfl,ho,F.cls,F.players,rfl,?_;refine{.inl {rfl,_,aH.of sc.pl},?_};exists o.pl,_,_,rfl,rfl,sc.pl,by rw[za];ext,?_
  change kk _ o (sc.Lh n) (Al.upd (by unfold own;simp)) me
 | cJ n t l=>
  let⟨a1,t1,l1,rfl,h1,it,il⟩:=IV (x:=(n,t,l)) tv;let fr:=(F3 fn).1;exists cM,?_;intros p2 H2 s2 h2;let sc2:=sc.mono s2;let h12:=s2 _ _ h1;let⟨vs,hv,ilv⟩:=sc2.ins;exists a,C,o.dx,_,_,rfl,s2 _ _ ho,F.cls,F.ao,rfl,?_;left;refine{o.ins,_,rfl,.inl {_,kS n,hv,rfl,?_,rfl},?_}
  ·rw[xC,za];ext
  exact kk _ o (sc2.NR hv ilv (cz h2 (aN (it.mono s2) (aN (il.mono s2) cD))) fr) ((Al.of s2).trans (Al.upd (by unfold own;simp))) me
 | cw n ps=>
  let⟨a1,q,rfl,h1,hq⟩:=Hw (x:=(n,ps)) tv;let fr:=(F3 fn).1;let⟨vs,hv,ilv⟩:=sc.st;exists a,C,o.dx,_,_,rfl,ho,F.cls,F.aK,rfl,?_;left;refine{o.st,_,rfl,.inl {_,kS n,hv,rfl,?_,rfl},?_}
  ·rw[xC,za];ext
  exact kk _ o (sc.NP hv ilv (by unfold RW mO;exact cz hq (uF ps)) fr) (Al.upd (by unfold own;simp)) me
 | bar b=>
  let⟨vs,hv,ilv⟩:=sc.ba;let vl:=aO ilv;exists a,C,o.dx,_,_,rfl,ho,F.cls,F.aG,rfl,?_;refine{.inl {rfl,_,aH.of hv},?_};exists o.ba,_,_,rfl,rfl,hv,(),?_;change kk _ o (sc.R1 hv ilv tv) (Al.upd (by unfold own;simp)) me
 | aF l=>
  exists a,C,o.dx,_,rfl,ho,F.cls,F.aF,(by show 9<1000;decide),?_;exact kk _ o (sc.Lg ho hjm tv) (Al.upd (by unfold own;simp)) me
 | holds p b i=>
  change{a,S,o,v,p,b,i,rfl,sc,tv,b9,λH' o' s' e' n'=>kk H' o' s' e' λx hx=>(n' x hx).imp id λz=>s0.back z}
 | aJ b p its=>
  let⟨a1,q,us,rfl,h1,hq,ilq,nq⟩:=tv;let fr:=(F3 fn).1;let nl:q∉o.lists:=λz=>FF sc0 nq (rE z);exists a,C,o.dx,_,_,rfl,ho,F.cls,F.aJ,rfl,?_;exists cM,?_;intros p2 H2 s2 h2;let sc2:=sc.mono s2;refine{o.no,_,rfl,.inr {_,kN (b,p),p2,sc2.no.1,rfl,h2,?_,rfl},?_}
  ·rw[xC,za];ext
  refine kk _ _ (sc2.NQ (s2 _ _ hq) (ilq.mono s2) nl fr) ((Al.of s2).trans (Al.upd (by unfold own;simp))) λx hx=>?_;have:x∈own a o\/x=q:=by
   unfold own at hx ⊢;simp only[zG,zD,zE,yV] at hx ⊢;rcases hx with hx | hx | hx
   ·exact .inl (.inl hx)
   ·exact .inl (.inr hx)
   ·exact .inr hx
  rcases this with z | z
  ·exact .inl z
  ·subst z;exact .inr nq
 | rep r=>
  let⟨vs,hv,ilv⟩:=sc.re;let vl:=aO ilv;exists a,C,o.dx,_,_,rfl,ho,F.cls,F.repeats,rfl,?_;refine{.inl {rfl,_,aH.of hv},?_};exists o.re,_,_,rfl,rfl,hv,(),?_;change kk _ o (sc.RZ hv ilv tv) (Al.upd (by unfold own;simp)) me
 | bC j=>
  exists a,C,o.dx,_,rfl,ho,F.cls,F.bC,(by show 9<1000;decide),?_;exact kk _ o (sc.Qz ho hub tv) (Al.upd (by unfold own;simp)) me
def gA {H:Hp} {a C dx p:vE} {fs fs':List (Str×V)} {u:HO} (ha:H a=some (.ins C dx fs)) (np:H p=none) :
  upd (upd H p u) a (.ins C dx fs') a=some (.ins C dx fs')/\upd (upd H p u) a (.ins C dx fs') p=some u/\∀b v,H b=some v->b≠a->upd (upd H p u) a (.ins C dx fs') b=some v:=by
 let na:p≠a:=λz=>by rw[z,ha] at np;cases np
 refine{aB,by rw[aC na,aB],λb v hb ne=>?_};rw[aC ne,aC (λz=>by rw[z,np] at hb;cases hb)];exact hb
def Ez {H:Hp} {a C dx:vE} {fs':List (Str×V)}:upd H a (.ins C dx fs') a=some (.ins C dx fs')/\∀b v,H b=some v->b≠a->upd H a (.ins C dx fs') b=some v:=
 {aB,λb v hb ne=>by rw[aC ne];exact hb}
inductive CU (C:vE) (vs:List V) (H:Hp) (Q:VK) (E:XK):Prop
 | mk (a dx:vE) (_:vs=[.ref a]) (_:H a=some (.ins C dx [])) (_:∀H' o,b8 C H' a {} o->(∀b u,H b=some u->b≠a->H' b=some u)->(∀x∈own a o,x=a\/H x=none)->Q .bP H')
def CZ:gq ["self"] ["self"] (aT qS):=Vt
def Dr {C:vE} (F:Cf K C):dB P w K mg base JT 1 T.lZ T.rW ["self"] (CU C):=by
 refine T.CC.F.VY CZ λ_ _ _ _ H vs Q E hr h=>?_
 ·let⟨a,dx,rfl,ha,kk⟩:=h
  let sl:=yC;refine{_,af (jq (pv 0) (aZ ag) rfl) (af (jq (pv 0) kJ rfl) (af (jq (pv 0) kJ rfl) (af (jq (pv 0) (aZ ag) rfl) (af (jq (pv 0) aS rfl) (af (jq (pv 0) kJ rfl) (af (jq (pv 0) Pj rfl) (af (jq (pv 0) (aZ ag) rfl) (ak (jq (pv 0) aS rfl))))))))),?_};refine{by show 0<=sizeLine;ext,λp1 n1=>?_};refine{_,rfl,a,C,dx,[],rfl,(by rw[aC (λz=>by rw[<-z,ha] at n1;cases n1)];exact ha),F.cls,F.players,(by show 0<1000;decide),?_};let⟨a1,q1,k1⟩:=gA (u:=.lst []) (fs':=aX "players" (.ref p1) []) ha n1;generalize upd (upd H p1 (.lst [])) a (.ins C dx (aX "players" (.ref p1) []))=H1 at a1 q1 k1 ⊢;refine λp2 n2=>{_,rfl,a,C,dx,_,rfl,(by rw[aC (λz=>by rw[<-z,a1] at n2;cases n2)];exact a1),F.cls,F.ao,(by show 1<1000;decide),?_}
  let⟨a2,q2,k2⟩:=gA (u:=.dK []) (fs':=(aX "instruments" (.ref p2) (aX "players" (.ref p1) []))) a1 n2;generalize upd (upd H1 p2 (.dK [])) a (.ins C dx (aX "instruments" (.ref p2) (aX "players" (.ref p1) [])))=H2 at a2 q2 k2 ⊢;refine λp3 n3=>{_,rfl,a,C,dx,_,rfl,(by rw[aC (λz=>by rw[<-z,a2] at n3;cases n3)];exact a2),F.cls,F.aK,(by show 2<1000;decide),?_}
  let⟨a3,q3,k3⟩:=gA (u:=.dK []) (fs':=(aX "staffs" (.ref p3) (aX "instruments" (.ref p2) (aX "players" (.ref p1) [])))) a2 n3;generalize upd (upd H2 p3 (.dK [])) a (.ins C dx (aX "staffs" (.ref p3) (aX "instruments" (.ref p2) (aX "players" (.ref p1) []))))=H3 at a3 q3 k3 ⊢;refine{by show 0<=sizeLine;ext,λp4 n4=>{_,rfl,a,C,dx,_,rfl,(by rw[aC (λz=>by rw[<-z,a3] at n4;cases n4)];exact a3),F.cls,F.aG,(by show 3<1000;decide),?_}};let⟨a4,q4,k4⟩:=gA (u:=.lst []) (fs':=(aX "bars" (.ref p4) (aX "staffs" (.ref p3) (aX "instruments" (.ref p2) (aX "players" (.ref p1) []))))) a3 n4;generalize upd (upd H3 p4 (.lst [])) a (.ins C dx (aX "bars" (.ref p4) (aX "staffs" (.ref p3) (aX "instruments" (.ref p2) (aX "players" (.ref p1) [])))))=H4 at a4 q4 k4 ⊢;refine{_,rfl,a,C,dx,_,rfl,a4,F.cls,F.aF,(by show 4<1000;decide),?_};let⟨a5,k5⟩:=Ez (H:=H4) (a:=a) (C:=C) (dx:=dx) (fs':=(aX "upbeat" .bP (aX "bars" (.ref p4) (aX "staffs" (.ref p3) (aX "instruments" (.ref p2) (aX "players" (.ref p1) []))))));generalize upd H4 a (.ins C dx (aX "upbeat" .bP (aX "bars" (.ref p4) (aX "staffs" (.ref p3) (aX "instruments" (.ref p2) (aX "players" (.ref p1) []))))))=H5 at a5 k5 ⊢;refine λp6 n6=>{_,rfl,a,C,dx,_,rfl,(by rw[aC (λz=>by rw[<-z,a5] at n6;cases n6)];exact a5),F.cls,F.holds,(by show 5<1000;decide),?_}
  let⟨a6,q6,k6⟩:=gA (u:=.dK []) (fs':=(aX "holds" (.ref p6) (aX "upbeat" .bP (aX "bars" (.ref p4) (aX "staffs" (.ref p3) (aX "instruments" (.ref p2) (aX "players" (.ref p1) []))))))) a5 n6;generalize upd (upd H5 p6 (.dK [])) a (.ins C dx (aX "holds" (.ref p6) (aX "upbeat" .bP (aX "bars" (.ref p4) (aX "staffs" (.ref p3) (aX "instruments" (.ref p2) (aX "players" (.ref p1) [])))))))=H6 at a6 q6 k6 ⊢;refine λp7 n7=>{_,rfl,a,C,dx,_,rfl,(by rw[aC (λz=>by rw[<-z,a6] at n7;cases n7)];exact a6),F.cls,F.aJ,(by show 6<1000;decide),?_}
  let⟨a7,q7,k7⟩:=gA (u:=.dT []) (fs':=(aX "notes" (.ref p7) (aX "holds" (.ref p6) (aX "upbeat" .bP (aX "bars" (.ref p4) (aX "staffs" (.ref p3) (aX "instruments" (.ref p2) (aX "players" (.ref p1) [])))))))) a6 n7;generalize upd (upd H6 p7 (.dT [])) a (.ins C dx (aX "notes" (.ref p7) (aX "holds" (.ref p6) (aX "upbeat" .bP (aX "bars" (.ref p4) (aX "staffs" (.ref p3) (aX "instruments" (.ref p2) (aX "players" (.ref p1) []))))))))=H7 at a7 q7 k7 ⊢;refine{by show 0<=sizeLine;ext,λp8 n8=>{_,rfl,a,C,dx,_,rfl,(by rw[aC (λz=>by rw[<-z,a7] at n8;cases n8)];exact a7),F.cls,F.repeats,(by show 7<1000;decide),?_}};let⟨a8,q8,k8⟩:=gA (u:=.lst []) (fs':=(aX "repeats" (.ref p8) (aX "notes" (.ref p7) (aX "holds" (.ref p6) (aX "upbeat" .bP (aX "bars" (.ref p4) (aX "staffs" (.ref p3) (aX "instruments" (.ref p2) (aX "players" (.ref p1) []))))))))) a7 n8;generalize upd (upd H7 p8 (.lst [])) a (.ins C dx (aX "repeats" (.ref p8) (aX "notes" (.ref p7) (aX "holds" (.ref p6) (aX "upbeat" .bP (aX "bars" (.ref p4) (aX "staffs" (.ref p3) (aX "instruments" (.ref p2) (aX "players" (.ref p1) [])))))))))=H8 at a8 q8 k8 ⊢;refine{_,rfl,a,C,dx,_,rfl,a8,F.cls,F.bC,(by show 8<1000;decide),?_};let⟨a9,k9⟩:=Ez (H:=H8) (a:=a) (C:=C) (dx:=dx) (fs':=(aX "jump" .bP (aX "repeats" (.ref p8) (aX "notes" (.ref p7) (aX "holds" (.ref p6) (aX "upbeat" .bP (aX "bars" (.ref p4) (aX "staffs" (.ref p3) (aX "instruments" (.ref p2) (aX "players" (.ref p1) []))))))))));generalize upd H8 a (.ins C dx (aX "jump" .bP (aX "repeats" (.ref p8) (aX "notes" (.ref p7) (aX "holds" (.ref p6) (aX "upbeat" .bP (aX "bars" (.ref p4) (aX "staffs" (.ref p3) (aX "instruments" (.ref p2) (aX "players" (.ref p1) []))))))))))=H9 at a9 k9 ⊢;let e1:p1≠a:=λz=>by rw[z,ha] at n1;cases n1
  let g1:=k9 _ _ (k8 _ _ (k7 _ _ (k6 _ _ (k5 _ _ (k4 _ _ (k3 _ _ (k2 _ _ (q1) e1) e1) e1) e1) e1) e1) e1) e1;let e2:p2≠a:=λz=>by rw[z,a1] at n2;cases n2
  let g2:=k9 _ _ (k8 _ _ (k7 _ _ (k6 _ _ (k5 _ _ (k4 _ _ (k3 _ _ (q2) e2) e2) e2) e2) e2) e2) e2;let e3:p3≠a:=λz=>by rw[z,a2] at n3;cases n3
  let g3:=k9 _ _ (k8 _ _ (k7 _ _ (k6 _ _ (k5 _ _ (k4 _ _ (q3) e3) e3) e3) e3) e3) e3;let e4:p4≠a:=λz=>by rw[z,a3] at n4;cases n4
  let g4:=k9 _ _ (k8 _ _ (k7 _ _ (k6 _ _ (k5 _ _ (q4) e4) e4) e4) e4) e4;let e6:p6≠a:=λz=>by rw[z,a5] at n6;cases n6
  let g6:=k9 _ _ (k8 _ _ (k7 _ _ (q6) e6) e6) e6;let e7:p7≠a:=λz=>by rw[z,a6] at n7;cases n7
  let g7:=k9 _ _ (k8 _ _ (q7) e7) e7;let e8:p8≠a:=λz=>by rw[z,a7] at n8;cases n8
  let g8:=k9 _ _ (q8) e8;let kH:∀b v,H b=some v->b≠a->H9 b=some v:=λb v hb ne=>k9 _ _ (k8 _ _ (k7 _ _ (k6 _ _ (k5 _ _ (k4 _ _ (k3 _ _ (k2 _ _ (k1 _ _ hb ne) ne) ne) ne) ne) ne) ne) ne) ne;let f1:H p1=none:=n1;let f2:H p2=none:=by
   cases q:H p2 with
   | none=>rfl
   | some v=>let z:=q;rw[show H1 p2=some v from k1 _ _ z e2] at n2;cases n2
  let f3:H p3=none:=by
   cases q:H p3 with
   | none=>rfl
   | some v=>let z:=q;rw[show H2 p3=some v from k2 _ _ (k1 _ _ z e3) e3] at n3;cases n3
  let f4:H p4=none:=by
   cases q:H p4 with
   | none=>rfl
   | some v=>let z:=q;rw[show H3 p4=some v from k3 _ _ (k2 _ _ (k1 _ _ z e4) e4) e4] at n4;cases n4
  let f6:H p6=none:=by
   cases q:H p6 with
   | none=>rfl
   | some v=>let z:=q;rw[show H5 p6=some v from k5 _ _ (k4 _ _ (k3 _ _ (k2 _ _ (k1 _ _ z e6) e6) e6) e6) e6] at n6;cases n6
  let f7:H p7=none:=by
   cases q:H p7 with
   | none=>rfl
   | some v=>let z:=q;rw[show H6 p7=some v from k6 _ _ (k5 _ _ (k4 _ _ (k3 _ _ (k2 _ _ (k1 _ _ z e7) e7) e7) e7) e7) e7] at n7;cases n7
  let f8:H p8=none:=by
   cases q:H p8 with
   | none=>rfl
   | some v=>let z:=q;rw[show H7 p8=some v from k7 _ _ (k6 _ _ (k5 _ _ (k4 _ _ (k3 _ _ (k2 _ _ (k1 _ _ z e8) e8) e8) e8) e8) e8) e8] at n8;cases n8
  let d14:p1≠p4:=λz=>by let h:=k3 _ _ (k2 _ _ (q1) e1) e1;rw[z,n4] at h;cases h
  let d18:p1≠p8:=λz=>by let h:=k7 _ _ (k6 _ _ (k5 _ _ (k4 _ _ (k3 _ _ (k2 _ _ (q1) e1) e1) e1) e1) e1) e1;rw[z,n8] at h;cases h
  let d48:p4≠p8:=λz=>by let h:=k7 _ _ (k6 _ _ (k5 _ _ (q4) e4) e4) e4;rw[z,n8] at h;cases h
  let d23:p2≠p3:=λz=>by let h:=q2;rw[z,n3] at h;cases h
  let d26:p2≠p6:=λz=>by let h:=k5 _ _ (k4 _ _ (k3 _ _ (q2) e2) e2) e2;rw[z,n6] at h;cases h
  let d36:p3≠p6:=λz=>by let h:=k5 _ _ (k4 _ _ (q3) e3) e3;rw[z,n6] at h;cases h
  refine kk H9 {dx,p1,p2,p3,p4,p6,p7,p8,[],[]} {{.bP,.bP,a9,dU,dU},g1,{[],g2,cD},{[],g3,cD},{[],g4,cD},{(g6),rfl},{(g7),rfl},{[],g8,cD},?_,?_} kH λx hx=>?_
  ·show [p1,p4,p8].Nodup
   simp[d14,d18,d48]
  ·show [p2,p3,p6].Nodup
   simp[d23,d26,d36]
  ·let hx':x∈[a,p1,p2,p3,p4,p6,p7,p8]:=by simpa[own] using hx
   simp only[zD,zE,yV] at hx';rcases hx' with rfl | rfl | rfl | rfl | rfl | rfl | rfl | rfl
   ·exact .inl rfl
   ·exact .inr f1
   ·exact .inr f2
   ·exact .inr f3
   ·exact .inr f4
   ·exact .inr f6
   ·exact .inr f7
   ·exact .inr f8
inductive RT:List Str->List Told->Prop where
 | nil:RT [] []
 | blank {r:Str} {rs:List Str} {ts:List Told}:⇑r<=1000000->words r=[]->RT rs ts->RT (r::rs) ts
 | row {r:Str} {t:Told} {rs:List Str} {ts:List Told}:⇑r<=1000000->words r=wordsOf t->Sy t->⇑(wordsOf t)<=1000000->(∀y∈wordsOf t,⇑y<=600)->RT rs ts->RT (r::rs) (t::ts)
def Runs:bH->List Told->bH->Prop
 | S,[],S'=>S=S'
 | S,t::r,S'=>fault S t=none/\Uw S t/\qq S/\uj S/\Runs (bQ S t) r S'
def MH (t:Told):∃ws,wordsOf t=pB t::ws:=by cases t <;> exact{_,rfl}
inductive CN (C:vE) (vs:List V) (H:Hp) (Q:VK) (E:XK):Prop
 | mk (t:Str) (ts:List Told) (S:bH) (_:vs=[.str t]) (_:⇑t+2<=sizeLine) (_:RT (Txt.split t "\n") ts) (_:Runs {} ts S) (_:∀a o H',b8 C H' a S o->au H H'->(∀x∈own a o,H x=none)->Q (.ref a) H')
theorem MB {H0 H H':Hp} {v:V} (s:au H H'):∀{t:Option Told},gJ H0 H v t->gJ H0 H' v t
 | none,h=>h
 | some (.bK _),h=>h
 | some (.cJ _ _ _),h=>Is.mono s h
 | some (.cw _ _),h=>Is.mono s h
 | some (.bar _),h=>Is.mono s h
 | some (.aF _),h=>Is.mono s h
 | some (.holds _ _ _),h=>Is.mono s h
 | some (.aJ _ _ _),⟨a,q,vs,h1,h2,h3,h4,h5⟩=>{a,q,vs,h1,s _ _ h2,s _ _ h3,h4.mono s,h5}
 | some (.rep _),h=>Is.mono s h
 | some (.bC _),h=>Is.mono s h
def Dj (B:Dk P w K T) (F:Cf K T.lX):df P w base 8 T.pM (CN T.lX):=by
 nomatch T.pM,["text","score","place","row","words","told","word"]
 let⟨t,ts,S,rfl,tl,rt,run,kk⟩:=h;let sl:=yC;refine{_,(af (bN 1 qN (Pg T.R6 (Dr T F) (hr.mono ∅) rfl T.QQ T.CC.b .nil LW))
  (af (bY yP rfl (An (by rfl) T.jW (ah (bJ yG yK yJ jA (pv 0) (ah aL ag)) ag)) (dA (n:=2) rfl (aM (ia 2 qN) (aM (ia 3 qN) cK)))
  (af (bN 4 qN (bM (Iw T) hr T.words_of (ah (pv 3) ag)))
   (ak (aI (ptr fq (eA aE T.bG (ah (pv 4) ag)) ae)
   (af (bN 5 qN (bM (Iz T B) hr T.Bl (ah (pv 4) ag)))
    (af (bN 6 qN (bM (ID T B F) hr T.BP (ah (pv 1) (ah (fG (pv 4) ae) (ah (pv 5) ag)))))
    (af (aI (bw (eT (pv 6)))
    (ak O7)
    aA)
    (ak (bu (bM (Ky T F) hr T.GH (ah (pv 1) (ah (fG (pv 4) ae) (ah (pv 5) ag)))))))))
   aA))))
  (ak (aq (pv 1))))),?_}
 ac_rfl;intro a dx na ndx ne;refine{a,dx,rfl,aB,λH1 o sc1 k1 fr1=>{rfl,?_}};let s1:au H H1:=λb u hb=>k1 b u (by rw[aC (λz=>by rw[z,na] at hb;cases hb),aC (λz=>by rw[z,ndx] at hb;cases hb)];exact hb) (λz=>by rw[z,na] at hb;cases hb);let f1:∀x∈own a o,H x=none:=λx hx=>by
  rcases fr1 x hx with z | z
  ·rw[z];exact na
  ·cases q:H x with
   | none=>rfl
   | some u=>
    rw[aC (λy=>by rw[y,na] at q;cases q),aC (λy=>by rw[y,ndx] at q;cases q),q] at z;cases z
 exists tl,λl nl=>?_;let s2:au H1 (upd H1 l (.lst ((Txt.split t "\n").map V.str))):=aY nl;let h2:upd H1 l (.lst ((Txt.split t "\n").map V.str)) l=some (.lst ((Txt.split t "\n").map V.str)):=aB;generalize upd H1 l (.lst ((Txt.split t "\n").map V.str))=H2 at s2 h2 ⊢;generalize hrows:Txt.split t "\n"= rows at rt h2;exists l,_,rfl,aH.of h2,?_;refine rN (K:=K) (a:=l) (xs:=rows.map V.str) (λi U H'=>∃ts' S' o',RT (rows.drop i) ts'/\Runs S' ts' S/\b8 T.lX H' a S' o'/\H' l=some (.lst (rows.map V.str))/\l∉own a o'/\au H H'/\(∀x∈own a o',H x=none)/\∃u2 u3 u4 u5 u6,U=[some (.str t),some (.ref a),u2,u3,u4,u5,u6])
  {ts,{},o,rt,run,sc1.mono s2,h2,FF sc1 nl,s1.trans s2,f1,none,none,none,none,none,rfl} (λi U H' _ h=>by let⟨_,_,_,_,_,_,h,_⟩:=h;exact aH.of h) ?_ ?_
 ·intro i x U H3 p H4 hx hh s34 hp4
  refine dH λN kN0 kR0 _ _=>?_;let⟨ts',S',o',rt',run',sc3,hl3,nl3,s3,f3,u2,u3,u4,u5,u6,rfl⟩:=hh;rw[zK] at hx;cases qr:rows[i]? with
  | none=>rw[qr] at hx;cases hx
  | some r=>
  rw[qr] at hx;simp only[xo,xP] at hx;subst hx;let ed:rows.drop i=r::rows.drop (i+1):=by
   let hi:=(zy.mp qr).1;rw[List.drop_eq_getElem_cons hi];have:=(zy.mp qr).2;rw[this]
  rw[ed] at rt';let s4:=s3.trans s34;let sc4:=sc3.mono s34;cases rt' with
  | blank rl rw0 rt''=>
   refine{p,_,rfl,cW.of hp4,rfl,?_};refine{_,_,rfl,{_,_,rfl,{rfl,?_}}};exists rl,λp5 H5 s5 h5=>?_;rw[rw0] at h5;exists p5,_,rfl,.inl (aH.of h5),?_;left;let s05:=s4.trans s5;exact{ts',S',o',rt'',run',sc4.mono s5,s5 _ _ (s34 _ _ hl3),nl3,s05,f3,_,_,_,_,_,rfl}
  | row rl rw0 tok wl ws6 rt''=>
   rename_i t' ts'';let⟨fn,fit,hd,sz,run''⟩:=run';let⟨ws,ew⟩:=MH t';refine{p,_,rfl,cW.of hp4,rfl,?_};refine{_,_,rfl,{_,_,rfl,{rfl,?_}}};exists rl,λp5 H5 s5 h5=>?_;rw[rw0] at h5;let h5':=h5;rw[ew] at h5;let sc5:=sc4.mono s5;let hl5:=s5 _ _ (s34 _ _ hl3);exists p5,_,rfl,.inl (aH.of h5),?_;rw[za,zv];left;refine bR (zg ()) ?_;left;let wl':⇑ws<=999999:=by rw[ew,zv] at wl;ext
   refine{p5,pB t',ws,rfl,aH.of h5,wl',by rw[<-ew];exact ws6,λv H6 s6 tv=>?_};rw[<-ew,Kt tok] at tv;let sc6:=sc5.mono s6;exists p5,_,0,_,rfl,rfl,aH.of (s6 _ _ h5),bz (j:=0) rfl,?_;exists a,S',o',pB t',v,H5,some t',rfl,sc6,tv,λt2 e2=>by cases e2;exact{(rfl),fit},λH7 s7=>?_
   rw[show P9 S' (some t')=fault S' t' from rfl,fn];exists p5,_,0,_,rfl,rfl,aH.of (s7 _ _ (s6 _ _ h5)),bz (j:=0) rfl,?_;exists a,S',o',v,H5,t',rfl,sc5,s6.trans s7,MB s7 tv,fn,hd,sz,λH8 o8 sc8 el8 fr8=>?_;let s07:=((s4.trans s5).trans s6).trans s7;left;refine{ts'',bQ S' t',o8,rt'',run'',sc8,el8 _ _ nl3 (s7 _ _ (s6 _ _ hl5)),λz=>?_,λb u hb=>el8 _ _ (λz=>by rw[f3 b z] at hb;cases hb) (s07 _ _ hb),λx hx=>?_,_,_,_,_,_,rfl}
   ·rcases fr8 l z with y | y
    ·exact nl3 y
    ·rw[hl5] at y;cases y
   ·rcases fr8 x hx with y | y
    ·exact f3 x y
    ·exact(s4.trans s5).back y
 ·rintro U H3 ⟨ts',S',o',rt',run',sc3,hl3,nl3,s3,f3,u2,u3,u4,u5,u6,rfl⟩
  rw[za,List.drop_length] at rt';cases rt';let es:S'=S:=run';subst es;change kk a o' H3 sc3 s3 f3
inductive uS (vs:List V) (H:Hp) (Q:VK) (E:XK):Prop
 | mk (v:V) (r:Rep) (n:Int) (_:vs=[v,.int n]) (_:Is H (gF r) v) (_:Ux r) (_:∀D bs H',au H H'->H D=none->H' D=some (.lst (bs.map V.int))->lh r.first r.last 2000 bs->bs=fo r n->Q (.ref D) H')
def mG:df P w base 2 T.iQ uS:=by
 nomatch T.iQ,["repeat","number","ends","bars","end"]
 let⟨v,r,n,rfl,iv,rd,kk⟩:=h;let sl:=yC;let⟨a,e,rfl,ha,he⟩:=dz iv;let⟨en,er⟩:=Qc rd;let⟨r1,r2,r3,r4,r5,r6,r7⟩:=rd;refine{_,(af (bN 2 qN (bM (BC T) hr T.Ax (ah (pv 0) ag)))
  (af (aI (ptr cZ (eA aE T.bG (ah (pv 2) ag)) ae)
  (ak (aq (qZ rfl (by rfl) T.kh (by rfl) T.cy (ah (bE (pv 0) ae) (ah (ax aQ (bE (pv 0) ae) ae) ag)))))
  aA)
  (af (bN 3 qN (qZ rfl (by rfl) T.kh (by rfl) T.cy (ah (bE (pv 0) ae) (ah (bE (fG (pv 2) ae) ae) ag))))
  (af (bY yP rfl (bf (pv 2)) (ia 4 qN)
  (ak (aI (gK iZ (pv 1) (bE (pv 4) ae) (by with_unfolding_all rfl))
   (ak (bu (bJ yD y9 y8 dR (pv 3) (ah (qZ rfl (by rfl) T.kh (by rfl) T.cy (ah (bE (pv 4) ae) (ah (ax aQ (bE (pv 4) ae) ae) ag))) ag))))
   aA)))
  (ak (aq (pv 3))))))),?_}
 ac_rfl;exists _,r,rfl,iv,(),λp us H1 s1 h1 il=>?_;let ul:=aO il;let ha1:=s1 _ _ ha;exists p,us,rfl,.inl (aH.of h1),?_;rw[ul];left
 by_cases c0:⇑(dq r)=0
 ·refine bR (by rw[c0];rfl) ?_
  exists _,_,rfl,{(()),(),(),()},(),λl nl=>?_;exact kk l _ _ (s1.trans (aY nl)) (s1.back nl) aB (Kp () () ()) (Pn c0).symm
 ·refine bX (ze λz=>c0 (by have:=V.int.inj z;ext)) ?_
  let u0:us[0]?=some (us[0]'()):=zd ();let⟨t,ht,it⟩:=cV il u0;let⟨a0,q0,e0,h0,_⟩:=J6 it;rw[e0] at u0;let⟨⟨t1,t2⟩,t3,t4⟩:=er t (zC ht);exists p,us,0,_,rfl,rfl,aH.of h1,bz u0,?_;exists _,_,rfl,{(()),(),(),()},(),λD nD=>?_;let s2:au H1 (upd H1 D (.lst ((cG r.first (t.1-r.first).toNat).map V.int))):=aY nD;let h2:upd H1 D (.lst ((cG r.first (t.1-r.first).toNat).map V.int)) D=some (.lst ((cG r.first (t.1-r.first).toNat).map V.int)):=aB;generalize upd H1 D _=H2 at s2 h2 ⊢;exists{_,aH.of (s2 _ _ h1)},?_;refine gC (K:=K) (a:=p) (xs:=us) (λi U H'=>∃(bs:List Int) (w4:Option V),au H1 H'/\H' D=some (.lst (bs.map V.int))/\lh r.first r.last (200*(i+1)) bs/\bs=cG r.first (t.1-r.first).toNat++CY n ((dq r).take i)/\U=[some (.ref a),some (.int n),some (.ref p),some (.ref D),w4]) {_,none,s2,h2,Kp () () (),(zV _).symm,rfl} (λi U H' _ h=>by let⟨_,_,s,_⟩:=h;exact aH.of (s _ _ h1)) ?_ ?_
  ·rintro Nx i x U H3 hN hx ⟨bs,w4,s3,h3,bi,eb,rfl⟩
   let hi:=(zy.mp hx).1;let⟨y,hy,iy⟩:=cV il hx;let⟨ay,qy,rfl,hay,hqy⟩:=J6 iy;let⟨⟨y1,y2⟩,y3,y4⟩:=er y (zC hy);let hay3:=s3 _ _ hay;exists qy,_,rfl,.inr (cW.of (s3 _ _ hqy)),rfl,oI _,?_;show∃k,V.bl (F2 (.int n) (y.2.2.map V.int))=.bl k/\_;rw[nY];let e2:cG r.first (t.1-r.first).toNat++CY n ((dq r).take (i+1))=bs++if n∈y.2.2 then cG y.1 (y.2.1+1-y.1).toNat else []:=by rw[cm hy,MJ,<-zF,<-eb]
   refine{_,rfl,?_};cases c:decide (n∈y.2.2) with
   | true=>
    rw[yO (ye c)] at e2;refine bR rfl ?_;exists .inl {rfl,_,aH.of h3},?_;exists _,_,rfl,{(()),(),(),()},(),λl nl=>?_;let s4:au H3 (upd H3 l (.lst ((cG y.1 (y.2.1+1-y.1).toNat).map V.int))):=aY nl;let h4:upd H3 l (.lst ((cG y.1 (y.2.1+1-y.1).toNat).map V.int)) l=some (.lst ((cG y.1 (y.2.1+1-y.1).toNat).map V.int)):=aB;generalize upd H3 l _=H4 at s4 h4 ⊢;let b2:lh r.first r.last 200 (cG y.1 (y.2.1+1-y.1).toNat):=Kp () () ();let l1:=bi.1;let l2:=b2.1;refine .inl {D,l,_,_,rfl,rfl,s4 _ _ h3,h4,by rw[za,za];ext,?_};change hN _ _ {_,_,bj nD (s3.trans s4),by rw[aB,<-zk],(bi.app b2).mono (yR _) (yR _) (),e2.symm,rfl}
   | false=>
    rw[yN (of_decide_eq_false c),zV] at e2;refine bX rfl ?_;change hN _ _ {_,_,s3,h3,bi.mono (yR _) (yR _) (),e2.symm,rfl}
  ·rintro U H3 ⟨bs,w4,s3,h3,bi,eb,rfl⟩
   rw[ul,zN,<-MZ ht] at eb;change kk D bs _ (s1.trans s3) (s1.back nD) h3 (bi.mono (yR _) (yR _) ()) eb
inductive qI (vs:List V) (H:Hp) (Q:VK) (E:XK):Prop
 | mk (v:V) (r:Rep) (c:Bool) (_:vs=[v,.bl c]) (_:Is H (gF r) v) (_:Ux r) (_:∀D bs H',au H H'->H D=none->H' D=some (.lst (bs.map V.int))->lh r.first r.last 18000 bs->bs=Ks c r->Q (.ref D) H')
def rm:df P w base 3 T.jF qI:=by
 nomatch T.jF,["repeat","once","times","bars","number"]
 let⟨v,r,c,rfl,iv,rd,kk⟩:=h;let sl:=yC;let⟨a,e,rfl,ha,he⟩:=dz iv;let r5:=rd.2.2.2.2.1;let r4:=rd.2.2.2.1;refine{_,(af (bN 2 qN (bE (pv 0) ae))
  (af (aI (cU (pv 1))
  (ak (aq (bM (mG T) hr T.iQ (ah (pv 0) (ah (pv 2) ag)))))
  aA)
  (af (bN 3 qN (aZ ag))
  (af (bY yP rfl (kI (by rfl) T.cy (ah ae (ah (ax aQ (pv 2) ae) ag))) (ia 4 qN)
  (ak (bu (bJ yD y9 y8 dR (pv 3) (ah (bM (mG T) hr T.iQ (ah (pv 0) (ah (pv 4) ag))) ag)))))
  (ak (aq (pv 3))))))),?_}
 ac_rfl;left;cases c with
 | true=>
  refine bR rfl ?_;change{_,r,_,rfl,iv,rd,λD bs H' s' n' h' b' e'=>kk D bs H' s' n' h' (b'.mono (yR _) (yR _) ∅) e'}
 | false=>
  refine bX (by simp) ?_;left
  intros D nD s1 h1 H1
  exists _,_,rfl,{(()),(),(),()},?_;refine pW (λi U H'=>∃(bs:List Int) (w4:Option V),au H H'/\H' D=some (.lst (bs.map V.int))/\lh r.first r.last (2000*i) bs/\bs=((cG 1 i).map (fo r)).flatten/\U=[some (.ref a),some (.bl false),some (.int r.times),some (.ref D),w4]) {[],none,s1,h1,{zm _,by simp},rfl,rfl} ?_ ?_
  ·rintro Nx i U H2 hN hi ⟨bs,w4,s2,h2,bi,eb,rfl⟩
   exists .inl {rfl,_,aH.of h2},?_;exists _,r,_,rfl,iv.mono s2,rd,λD3 cs H3 s3 n3 h3 b3 e3=>?_;let l1:=bi.1;let l2:=b3.1;refine .inl {D,D3,_,_,rfl,rfl,s3 _ _ h2,h3,by rw[za,za];ext,?_};change hN _ _ {_,_,bj nD (s2.trans s3),by rw[aB,<-zk],(bi.app b3).mono (yR _) (yR _) (),by rw[eb,e3,oq,zk,xh];simp,rfl}
  ·rintro U H2 ⟨bs,w4,s2,h2,bi,eb,rfl⟩
   rw[show(r.times+1-1).toNat=r.times.toNat from by ext] at eb;change kk D bs _ s2 nD h2 (bi.mono (yR _) (yR _) ()) eb
inductive MF (C:vE) (vs:List V) (H:Hp) (Q:VK) (E:XK):Prop
 | mk (a:vE) (S:bH) (o:Ow) (f l:Int) (c:Bool) (_:vs=[.ref a,.int f,.int l,.bl c]) (_:b8 C H a S o) (_:mZ S) (_:uk S) (_:0<=f) (_:f<=200) (_:l<⇑S.aG) (_:⇑S.aG<=200) (_:∀D bs H',au H H'->H D=none->H' D=some (.lst (bs.map V.int))->lh 0 l 4000000 bs->bs=(uH S c f).filter (λt=>decide (t<=l))->Q (.ref D) H')
def oB {C:vE} (F:Cf K C):df P w base 4 T.walked (MF C):=by
 nomatch T.walked,["score","first","last","once","beginning","repeat","bars","bar"]
 let⟨a,S,o,f,l,c,rfl,sc,CG,ed,f0,f2,l2,l3,kk⟩:=h;let sl:=yC;let⟨ub,jm,ho,hub,hjm⟩:=sc.obj;let⟨rv,hre,ilr⟩:=sc.re;let⟨rd,rl,rp,rb⟩:=id CG;let rvl:=aO ilr;refine{_,(af (bN 4 qN kJ)
  (af (bY yP rfl (bf (bO (pv 0) rfl)) (ia 5 qN)
  (ak (lM (fK hr) (pv 4) (bE (pv 5) ae) (pv 5) rfl)))
  (af (bN 6 qN (aZ ag))
  (af (bN 7 qN (pv 1))
  (af (nK yP (ptr fX (pv 7) (pv 2))
  (ak (aI (bw (FE (fK hr) (pv 7) (pv 4)))
   (af (bN 5 qN (Ao (fK hr) (pv 4) (pv 7) (λ_ _=>rfl)))
    (af (bu (bJ yD y9 y8 dR (pv 6) (ah (nM (ts:=["taken"]) (ys:=["last"]) (js:=[2]) (g:=(bW 0)) (tc:=(kF (eO (sr λi j=>.bl (decide (i<=j))) (aW 0) (aW 1)))) (te:=(aW 0)) (bf (bM (rm T) hr T.jF (ah (pv 5) (ah (pv 3) ag)))) (gr 0) (fW (ptr fX (pv 0) (pv 1))) (pv 0)) ag)))
    (ak (bN 7 qN (ax aQ (bE (pv 5) ae) ae)))))
   (af (bu (bJ yD yF yE bB (pv 6) (ah (pv 7) ag)))
    (ak (bN 7 qN (ax aQ (pv 7) ae)))))))
  (ak (aq (pv 6)))))))),?_}
 ac_rfl;left
 intros d nd s1 hd H1
 exists a,C,o.dx,_,_,rfl,s1 _ _ ho,F.cls,F.repeats,rfl,?_;exists{_,aH.of (s1 _ _ hre)},?_;refine gC (K:=K) (a:=o.re) (xs:=rv) (λi U H'=>∃(kvs:List (Key×V)) (w5:Option V),au H H'/\H' d=some (.dK kvs)/\⇑kvs<=i/\N3 S H i kvs/\U=[some (.ref a),some (.int f),some (.int l),some (.bl c),some (.ref d),w5,none,none]) {[],none,s1,hd,zm _,N3.nil,rfl} (λi U H' _ h=>by let⟨_,_,s,_⟩:=h;exact aH.of (s _ _ hre)) ?_ ?_
 ·rintro Nx i x U H2 hN hx ⟨kvs,w5,s2,hk,kl,bg,rfl⟩
  let⟨r,hr',ir⟩:=cV ilr hx;let hi:=(zy.mp hx).1;let⟨ar,er,rfl,har,_⟩:=dz ir;let har2:=s2 _ _ har;let pl:=gY kvs (.inl r.first) (.ref ar);exists d,_,rfl,.inl {_,.inl r.first,hk,rfl,(),rfl},?_;change hN _ _ {_,_,bj nd s2,aB,(),bg.put hr' ir,rfl}
 ·rintro U H2 ⟨kvs,w5,s2,hk,kl,⟨bg,bc⟩,rfl⟩
  rw[rvl,zN] at bc;left
  intros B nB s3 hB H3
  left;refine sA (λm U H'=>∃(k:Nat) (b:Int) (bs:List Int) (w5:Option V),m=(200-b).toNat/\(G1 S c l f k).2=b/\bs=(G1 S c l f k).1/\0<=b/\b<=200/\U=[some (.ref a),some (.int f),some (.int l),some (.bl c),some (.ref d),w5,some (.ref B),some (.int b)]/\au H2 H'/\H' B=some (.lst (bs.map V.int))/\lh 0 l (20000*b.toNat) bs)
   (λU H'=>∃(k:Nat) (bs:List Int) (w5 w7:Option V),l<(G1 S c l f k).2/\bs=(G1 S c l f k).1/\U=[some (.ref a),some (.int f),some (.int l),some (.bl c),some (.ref d),w5,some (.ref B),w7]/\au H2 H'/\H' B=some (.lst (bs.map V.int))/\lh 0 l 4000000 bs)
   {_,0,f,[],w5,rfl,rfl,rfl,f0,f2,rfl,s3,hB,{yg _,by simp}} ?_ ?_
  ·rintro m U H4 ⟨k,b,bs,w5,rfl,gk,eb,b0,b2,rfl,s4,h4,bi⟩ N hN
   let l1:=bi.1;let hk4:=s4 _ _ hk;left
   by_cases c1:b<=l
   ·refine bR (zg c1) ?_
    let gs:G1 S c l f (k+1)=(bs++(AR S c b).1.filter (λt=>decide (t<=l)),(AR S c b).2+1):=by rw[G1,gk,yO c1,<-eb]
    let ge:(G1 S c l f (k+1)).1=bs++(AR S c b).1.filter (λt=>decide (t<=l)):=by rw[gs]
    refine{λU H'=>∃(b':Int) (bs:List Int) (w5:Option V),b'=(AR S c b).2+1/\bs=(G1 S c l f (k+1)).1/\b<b'/\b'<=200/\U=[some (.ref a),some (.int f),some (.int l),some (.bl c),some (.ref d),w5,some (.ref B),some (.int b')]/\au H2 H'/\H' B=some (.lst (bs.map V.int))/\lh 0 l (20000*b'.toNat) bs,?_,?_}
    ·rintro U' H' ⟨b',bs,w5,y1,y2,z1,z2,rfl,z3,z4,z5⟩
     exact{_,(),k+1,b',bs,w5,rfl,by rw[gs,y1],y2,(),z2,rfl,z3,z4,z5}
    ·left
     refine{d,_,rfl,.inl {kvs,.inl b,.inl hk4,rfl,rfl},?_};refine{_,rfl,?_};cases gv:cS kvs (.inl b) with
     | none=>
      rw[oo λr hr' z=>bc r hr' (by rw[z];exact gv)] at ge ⊢;dsimp only at ge;rw[xK,yO (zg c1),List.filter_nil] at ge;refine bX (by simp) ?_;exists .inl {rfl,_,aH.of h4},?_;exists B,_,_,rfl,rfl,h4,by rw[za];ext,?_
      change{b+1,bs++[b],_,rfl,ge.symm,(),(),rfl,bj nB s4,by rw[aB,zk];rfl,(bi.app (b:=[b]) (m:=1) {zm _,λx hx=>by cases zA.mp hx;exact{(b0),c1}}).mono (yR _) (yR _) ()}
     | some v=>
      let⟨r,hr',rfl,ir⟩:=bg b v gv;let rr:=rd r hr';let⟨r1,r2,r3,_⟩:=id rr;rw[sG rp rd hr'] at ge ⊢;dsimp only at ge;let ir4:=(ir.mono s2).mono s4;let⟨ar,er,rfl,har,_⟩:=dz ir;refine bR rfl ?_;exists d,.ref ar,rfl,.inl {kvs,.inl r.first,.inl hk4,rfl,gv.symm},?_;exists .inl {rfl,_,aH.of h4},?_;exists _,r,c,rfl,ir4,rr,λD5 cs H5 s5 n5 h5 b5 e5=>?_;let cl:=b5.1;exists{_,aH.of h5},?_;refine K9 (rest:=[some (.int l)]) (λt=>decide (t<=l)) () (aH.of h5) {(none),rfl} ?_ ?_
      ·intro t H6 R s6 hR
       change hR _ (au.refl _)
      intro D6 H6 s6 _ h6;let fb:lh 0 l 18000 (cs.filter λt=>decide (t<=l)):={zM (xj _ _) cl,λx hx=>by
       let⟨x1,x2⟩:=wA.mp hx;exact{Int.le_trans r1 (b5.2 x x1).1,ye x2}}
      rw[<-e5] at ge;generalize cs.filter _=fs at h6 fb ge;let fl:=fb.1;let s46:=s5.trans s6;refine .inl {B,D6,_,_,rfl,rfl,s46 _ _ h4,h6,by rw[za,za];ext,?_};let s7:au H2 (upd H6 B (.lst (bs.map V.int++fs.map V.int))):=bj nB (s4.trans s46);let h7:upd H6 B (.lst (bs.map V.int++fs.map V.int)) B=some (.lst ((bs++fs).map V.int)):=by rw[aB,zk]
      generalize upd H6 B _=H7 at s7 h7 ⊢;let har7:=s7 _ _ (s2 _ _ har);change{r.last+1,_,_,rfl,ge.symm,(),(),rfl,s7,h7,(bi.app fb).mono (yR _) (yR _) ()}
   ·refine bX (ze c1) ?_
    exact hN _ _ {k,bs,_,_,(),eb,rfl,s4,h4,bi.mono (yR _) (yR _) ()}
  ·rintro U H4 ⟨k,bs,w5,w7,lk,eb,rfl,s4,h4,bi⟩
   change kk B bs _ (s2.trans s4) (s2.back nB) h4 bi (eb.trans (PY CG ed f0 l2 lk))
def W9 (S:bH):Prop:=∀j,S.bC=some j->(0<=j.mT/\j.mT<⇑S.aG)/\(0<=j.kO/\j.kO<⇑S.aG)/\(0<=j.bS/\j.bS<⇑S.aG)/\∀c,j.fh=some c->0<=c/\c<⇑S.aG
inductive CM (C:vE) (vs:List V) (H:Hp) (Q:VK) (E:XK):Prop
 | mk (a:vE) (S:bH) (o:Ow) (_:vs=[.ref a]) (_:b8 C H a S o) (_:mZ S) (_:uk S) (_:1<=⇑S.aG) (_:⇑S.aG<=200) (_:W9 S) (_:∀D bs H',au H H'->H D=none->H' D=some (.lst (bs.map V.int))->lh 0 ((⇑S.aG:Int)-1) 12000000 bs->bs=CJ S->Q (.ref D) H')
def Dh {C:vE} (F:Cf K C):df P w base 5 T.pf (CM C):=by
 nomatch T.pf,["score","last","jump","bars"]
 let⟨a,S,o,rfl,sc,rd,ed,b1,b2,jk,kk⟩:=h;let sl:=yC;let⟨ub,jm,ho,hub,hjm⟩:=sc.obj;let⟨bv,hba,ilb⟩:=sc.ba;refine{_,(af (bN 1 qN (ax jt (eA aE T.bG (ah (bO (pv 0) rfl) ag)) ae))
  (af (bN 2 qN (bO (pv 0) rfl))
  (af (aI (bw (cx (pv 2)))
  (ak (aq (bM (oB T F) hr T.walked (ah (pv 0) (ah ae (ah (pv 1) (ah gU ag)))))))
  aA)
  (af (bN 3 qN (ax eV (bM (oB T F) hr T.walked (ah (pv 0) (ah ae (ah (bE (pv 2) ae) (ah gU ag))))) (bM (oB T F) hr T.walked (ah (pv 0) (ah (bE (pv 2) ae) (ah (bE (pv 2) ae) (ah gU ag)))))))
  (af (aI (bw (eT (bE (pv 2) ae)))
  (ak (bu (bJ yD y9 y8 dR (pv 3) (ah (bM (oB T F) hr T.walked (ah (pv 0) (ah (bE (pv 2) ae) (ah (pv 1) (ah gU ag))))) ag))))
  aA)
  (ak (aq (pv 3)))))))),?_}
 ac_rfl;exists a,C,o.dx,_,_,rfl,ho,F.cls,F.aG,rfl,?_;exists o.ba,bv,rfl,.inl (aH.of hba),?_;rw[aO ilb];exists a,C,o.dx,_,_,rfl,ho,F.cls,F.bC,rfl,?_;left;cases ej:S.bC with
 | none=>
  rw[ej] at hjm;unfold dO Is at hjm;subst hjm;refine bR rfl ?_;change{a,S,o,0,_,false,rfl,sc,rd,ed,∅,∅,(),b2,λD bs H' s' n' h' b' e'=>kk D bs H' s' n' h' (b'.mono (yR _) (yR _) ∅) (by rw[e',L9 rd ed ∅];unfold CJ;rw[ej])}
 | some j=>
  rw[ej] at hjm;let⟨⟨j1,j2⟩,⟨j3,j4⟩,⟨j5,j6⟩,j7⟩:=jk j ej;let⟨aj,rfl,haj⟩:=lQ hjm;refine bX (by simp) ?_;exists a,S,o,0,_,false,rfl,sc,rd,ed,(by decide),(by decide),(),b2,λD1 b1' H1 s1 n1 h1 i1 e1=>?_;let haj1:=s1 _ _ haj;exists a,S,o,_,_,true,rfl,sc.mono s1,rd,ed,(),(),(),b2,λD2 b2' H2 s2 n2 h2 i2 e2=>?_;let l1:=i1.1;let l2:=i2.1;refine{D1,D2,_,_,rfl,rfl,aH.of (s2 _ _ h1),aH.of h2,by rw[za,za];ext,?_};let s02:=s1.trans s2;intro D3 nD3;let n3:=s02.back nD3;let s3:au H2 (upd H2 D3 (.lst (b1'.map V.int++b2'.map V.int))):=aY nD3;let h3:upd H2 D3 (.lst (b1'.map V.int++b2'.map V.int)) D3=some (.lst ((b1'++b2').map V.int)):=by rw[aB,zk]
  generalize upd H2 D3 _=H3 at s3 h3 ⊢;let s03:=s02.trans s3;let haj3:=s03 _ _ haj;let i3:lh 0 ((⇑S.aG:Int)-1) 8000000 (b1'++b2'):=(i1.mono (yR _) () (zm _)).app (i2.mono (yR _) () (zm _));let l3:=i3.1;left;cases ec:j.fh with
  | none=>
   refine bX rfl ?_;change kk D3 _ _ s03 n3 h3 (i3.mono (yR _) (yR _) ∅) (by rw[e1,e2];unfold CJ;rw[ej];dsimp only;rw[ec];exact(zV _).symm)
  | some cc=>
   rw[ec] at haj3;let⟨k1,k2⟩:=j7 cc ec;refine bR rfl ?_;exists .inl {rfl,_,aH.of h3},?_;exists a,S,o,_,_,true,rfl,sc.mono s03,rd,ed,(),(),(),b2,λD4 b4 H4 s4 n4 h4 i4 e4=>?_;let l4:=i4.1;refine .inl {D3,D4,_,_,rfl,rfl,s4 _ _ h3,h4,by rw[za,za];ext,?_};change kk D3 _ _ (bj n3 (s03.trans s4)) n3 (by rw[aB,<-zk]) (i3.app i4) (by rw[e1,e2,e4,L9 rd ed k1];unfold CJ;rw[ej];dsimp only;rw[ec])
inductive MG (C:vE) (vs:List V) (H:Hp) (Q:VK) (E:XK):Prop
 | mk (a:vE) (S:bH) (o:Ow) (_:vs=[.ref a]) (_:b8 C H a S o) (_:mZ S) (_:uk S) (_:1<=⇑S.aG) (_:⇑S.aG<=200) (_:W9 S) (_:(∀x∈S.aG,EW x)) (_:(∀b,b<⇑S.aG->VJ (S.len b))) (_:∀D us bs H',au H H'->H' D=some (.lst us)->⇑bs<=12000000->bs.map (λb:Nat=>(b:Int))=CJ S->RL (Ak S bs H') (List.range ⇑bs) us->Q (.ref D) H')
def M0 {C:vE} (F:Cf K C):df P w base 6 T.Kv (MG C):=by
 nomatch T.Kv,["score","triples","counts","time","bar"]
 let⟨a,S,o,rfl,sc,rd,ed,b1,b2,jk,bo,lo,kk⟩:=h;let sl:=yC;refine{_,(af (bN 1 qN (aZ ag))
  (af (bN 2 qN kJ)
  (af (bN 3 qN (bF (ah ae (ah ae ag))))
  (af (bY yP rfl (bf (bM (Dh T F) hr T.pf (ah (pv 0) ag))) (ia 4 qN)
  (af (lM (fK hr) (pv 2) (pv 4) (ax aQ (Io (fK hr) (pv 2) (pv 4) ae {(rfl),rfl,rfl,rfl}) ae) rfl)
   (af (bu (bJ yD yF yE bB (pv 1) (ah (bF (ah (pv 4) (ah (pv 3) (ah (Ao (fK hr) (pv 2) (pv 4) (λ_ _=>rfl)) ag)))) ag)))
   (ak (bN 3 qN (bM (IF T) hr T.added (ah (pv 3) (ah (bM (nP T F) hr T.jN (ah (pv 0) (ah (pv 4) ag))) ag))))))))
  (ak (aq (pv 1))))))),?_}
 ac_rfl;left
 intros D nD s1 hD H1
 left
 intros d nd s2 hd H2
 exists cM,?_;intros t0 H3 s3 h3;let s03:=(s1.trans s2).trans s3;exists a,S,o,rfl,sc.mono s03,rd,ed,b1,b2,jk,λE zs H4 s4 nE hE iz ez=>?_;let s04:=s03.trans s4;let⟨zl,zin⟩:=iz;generalize gb:zs.map Int.toNat=bs;let bl:⇑bs=⇑zs:=by rw[<-gb,za]
 let zb:∀(i:Nat) (b:Int),zs[i]?=some b->bs[i]?=some b.toNat/\0<=b/\b<⇑S.aG:=λi b hb=>{by rw[<-gb,zK,hb];rfl,by have:=zin b (zC hb);ext}
 let bin:∀b∈bs,b<⇑S.aG:=λb hb=>by
  rw[<-gb] at hb;let⟨z,hz,rfl⟩:=zH.mp hb;have:=zin z hz;ext
 let tok:=QW lo bin;let eb:bs.map (λb:Nat=>(b:Int))=zs:=by
  rw[<-gb,zB];refine(xA λz hz=>?_).trans (List.map_id zs);have:=zin z hz;show((z.toNat:Nat):Int)=z;ext
 let nDE:D≠E:=λz=>by rw[<-z,s3 _ _ (s2 _ _ hD)] at nE;cases nE
 let ndE:d≠E:=λz=>by rw[<-z,s3 _ _ hd] at nE;cases nE
 let dD:D≠d:=Sc.bq (s2 _ _ hD) hd (by simp[kindOf]);let nd0:=s1.back nd;exists{_,aH.of hE},?_;refine gC (K:=K) (a:=E) (xs:=zs.map V.int) (λi U H'=>∃(us:List V) (kvs:List (Key×V)) (q:vE) (w4:Option V),U=[some (.ref a),some (.ref D),some (.ref d),some (.ref q),w4]/\au H H'/\H' E=some (.lst (zs.map V.int))/\H' D=some (.lst us)/\H' d=some (.dK kvs)/\⇑kvs<=i/\(∀(k:Int) v,cS kvs (.inl k)=some v->∃c,v=.int c)/\H' q=some (jL (Ht S (bs.take i)))/\RL (Ak S bs H') (List.range i) us)
  {[],[],t0,none,rfl,s04,hE,s4 _ _ (s3 _ _ (s2 _ _ hD)),s4 _ _ (s3 _ _ hd),zm _,(λ_ _ z=>by rw[Hf] at z;cases z),s4 _ _ h3,rfl} (λi U H' _ h=>by let⟨_,_,_,_,_,_,h,_⟩:=h;exact aH.of h) ?_ ?_
 ·rintro Nx i x U H5 hN hx ⟨us,kvs,q,w4,rfl,s5,hE5,hD5,hd5,kl,kv,hq,rl5⟩
  rw[zK] at hx;cases qr:zs[i]? with
  | none=>rw[qr] at hx;cases hx
  | some z=>
  rw[qr] at hx;simp only[xo,xP] at hx;subst hx;let⟨hb,z0,z1⟩:=zb i z qr;let hi:=(zy.mp qr).1;let ul:=rl5.len;rw[zR] at ul;obtain⟨m,rfl⟩:∃m:Nat,z=(m:Int):={(z.toNat),()}
  rw[x8] at hb;exists .inl {_,.inl hd5},?_;exists _,.inl {_,.inl (m:Int),.inl hd5,rfl,rfl},?_;obtain⟨c,ec⟩:∃c,(cS kvs (.inl (m:Int))).getD (.int 0)=.int c:=by
   cases g:cS kvs (.inl (m:Int)) with
   | none=>exact{0,rfl}
   | some v=>let⟨c,rfl⟩:=kv _ _ g;exact{(c),rfl}
  rw[ec];let ntd:cg (H5 d):=λ_ z=>by rw[hd5] at z;cases z
  let kv6:∀(k:Int) v,cS (putK kvs (.inl (m:Int)) (.int (c+1))) (.inl k)=some v->∃c,v=.int c:=λk v hv=>by
   rw[qE] at hv;split at hv
   ·cases hv;exact{_,rfl}
   ·exact kv k v hv
  let pl:=gY kvs (.inl (m:Int)) (.int (c+1));exists d,_,rfl,.inl {_,.inl (m:Int),hd5,rfl,(),rfl},?_;let gm:cS (putK kvs (.inl (m:Int)) (.int (c+1))) (.inl (m:Int))=some (.int (c+1)):=by rw[qE,yO rfl]
  generalize putK kvs (.inl (m:Int)) (.int (c+1))=kv2 at kv6 pl gm ⊢;let s6:au H (upd H5 d (.dK kv2)):=bj nd0 s5;let hd6:upd H5 d (.dK kv2) d=some (.dK kv2):=aB;let hE6:upd H5 d (.dK kv2) E=some (.lst (zs.map V.int)):=by rw[aC ndE.symm];exact hE5
  let hD6:upd H5 d (.dK kv2) D=some (.lst us):=by rw[aC dD];exact hD5
  let hq6:upd H5 d (.dK kv2) q=some (jL (Ht S (bs.take i))):=by rw[aC λe=>ntd _ (e▸hq)];exact hq
  let rl6:RL (Ak S bs (upd H5 d (.dK kv2))) (List.range i) us:=rl5.imp λx v z=>z.upd ntd;generalize upd H5 d (.dK kv2)=H6 at s6 hd6 hE6 hD6 hq6 rl6 ⊢;exists .inl {rfl,_,aH.of hD6},?_;exists d,.int (c+1),rfl,.inl {_,.inl (m:Int),.inl hd6,rfl,gm.symm},?_;exists by show 3<=sizeLine;ext,?_
  intros p7 H7 s7 h7;let hD7:=s7 _ _ hD6;let ntD:cg (H7 D):=λ_ z=>by rw[hD7] at z;cases z
  refine{D,us,_,rfl,rfl,hD7,(),?_};let s8:au H (upd H7 D (.lst (us++[.ref p7]))):=bj nD (s6.trans s7);let hD8:upd H7 D (.lst (us++[.ref p7])) D=some (.lst (us++[.ref p7])):=aB;let hE8:upd H7 D (.lst (us++[.ref p7])) E=some (.lst (zs.map V.int)):=by rw[aC nDE.symm];exact s7 _ _ hE6
  let hd8:upd H7 D (.lst (us++[.ref p7])) d=some (.dK kv2):=by rw[aC dD.symm];exact s7 _ _ hd6
  let hq8:upd H7 D (.lst (us++[.ref p7])) q=some (jL (Ht S (bs.take i))):=by rw[aC λe=>ntD _ (e▸s7 _ _ hq6)];exact s7 _ _ hq6
  let rl8:RL (Ak S bs (upd H7 D (.lst (us++[.ref p7])))) (List.range (i+1)) (us++[.ref p7]):=by
   rw[List.range_succ];exact RL.snoc (Ak.upd ntD {p7,q,c+1,m,rfl,h7,s7 _ _ hq6,hb}) (rl6.imp λx v z=>(z.mono s7).upd ntD)
  generalize upd H7 D (.lst (us++[.ref p7]))=H8 at s8 hD8 hE8 hd8 hq8 rl8 ⊢;exists a,S,o,m,rfl,sc.mono s8,(),bo,λp9 H9 s9 h9=>?_;let ti:=tok i;let⟨⟨t1,t2⟩,t3,t4⟩:=UT ti ();let⟨⟨y1,y2,y3,y4⟩,_⟩:=lo m ();let⟨_,y5,_⟩:=y1.pos;exists _,_,q,p9,60,10,rfl,s9 _ _ hq8,h9,ti.1,y1,{cu () (),cu () ()},{cu () (),cu () ()},(by decide),λr Ha sa ha=>?_;let s8a:=s9.trans sa;change hN _ _ {_,_,r,_,rfl,s8.trans s8a,s8a _ _ hE8,s8a _ _ hD8,s8a _ _ hd8,(),kv6,by rw[cm hb,Eh];exact ha,rl8.imp λx v z=>z.mono s8a}
 ·rintro U H5 ⟨us,kvs,q,w4,rfl,s5,hE5,hD5,hd5,kl,kv,hq,rl5⟩
  rw[za,<-bl] at rl5;change kk D us bs _ s5 hD5 () (eb.trans ez) rl5
theorem Runs.app:∀{a b:List Told} {S S1 S2:bH},Runs S a S1->Runs S1 b S2->Runs S (a++b) S2
 | [],_,_,_,_,h,k=>by
  let e:_=_:=h;subst e;exact k
 | _::_,_,_,_,_,⟨h1,h2,h3,h4,h5⟩,k=>{h1,h2,h3,h4,Runs.app h5 k}
theorem qT:∀{l:List Str} {S:bH},(S.players++l).Nodup->⇑(S.players++l)<=12->qq S->uj S->Runs S (l.map .bK) {S with players:=S.players++l}
 | [],S,_,_,_,_=>by
  show S=_;rw[zV]
 | n::r,S,nd,hl,hd,sz=>by
  let nd':=nd;rw[zT] at nd';rw[zh,zv] at hl;refine{?_,trivial,hd,sz,?_}
  ·unfold fault
   dsimp only;rw[yN (λz=>nd'.2.2 n z n zr rfl),yN ()]
  ·let ih:=qT (l:=r) (S:=bQ S (.bK n)) (by show(S.players++[n]++r).Nodup;rw[zF];exact nd) (by show(S.players++[n]++r).length<=12;simp only[zh,zv,xq];ext) hd {by show(S.players++[n]).length<=1000000;rw[zh];simp;ext,sz.2}
   let e:({bQ S (.bK n) with players:=(bQ S (.bK n)).players++r}:bH)={S with players:=S.players++n::r}:=by
    show({S with players:=S.players++[n]++r}:bH)=_;rw[zF];rfl
   rw[e] at ih;exact ih
theorem Be:∀{l:List (Str×(Int×Int)×(Int×Int))} {S:bH},((S.ao++l).map (·.1)).Nodup->⇑(S.ao++l)<=12->qq S->uj S->Runs S (l.map λx=>.cJ x.1 x.2.1 x.2.2) {S with ao:=S.ao++l}
 | [],S,_,_,_,_=>by
  show S=_;rw[zV]
 | n::r,S,nd,hl,hd,sz=>by
  let nd':=nd;rw[zk,zT] at nd';rw[zh,zv] at hl;refine{?_,trivial,hd,sz,?_}
  ·unfold fault
   dsimp only;rw[yN (λz=>nd'.2.2 n.1 z n.1 (by rw[zj];exact zr) rfl),yN ()]
  ·let ih:=Be (l:=r) (S:=bQ S (.cJ n.1 n.2.1 n.2.2)) (by show((S.ao++[n]++r).map _).Nodup;rw[zF];exact nd) (by show(S.ao++[n]++r).length<=12;simp only[zh,zv,xq];ext) hd {sz.1,by show(S.ao++[n]).length<=1000000;rw[zh];simp;ext,sz.2.2}
   let e:({bQ S (.cJ n.1 n.2.1 n.2.2) with ao:=(bQ S (.cJ n.1 n.2.1 n.2.2)).ao++r}:bH)={S with ao:=S.ao++n::r}:=by
    show({S with ao:=S.ao++[n]++r}:bH)=_;rw[zF];rfl
   rw[e] at ih;exact ih
theorem En:∀{l:List Sc.Oa} {S:bH},⇑(S.aG++l)<=200->qq S->uj S->Runs S (l.map .bar) {S with aG:=S.aG++l}
 | [],S,_,_,_=>by
  show S=_;rw[zV]
 | n::r,S,hl,hd,sz=>by
  rw[zh,zv] at hl;refine{?_,trivial,hd,sz,?_}
  ·unfold fault
   dsimp only;rw[yN ()]
  ·let ih:=En (l:=r) (S:=bQ S (.bar n)) (by show(S.aG++[n]++r).length<=200;simp only[zh,zv,xq];ext) hd {sz.1,sz.2.1,sz.2.2.1,by show(S.aG++[n]).length<=1000000;rw[zh];simp;ext,sz.2.2.2.2}
   let e:({bQ S (.bar n) with aG:=(bQ S (.bar n)).aG++r}:bH)={S with aG:=S.aG++n::r}:=by
    show({S with aG:=S.aG++[n]++r}:bH)=_;rw[zF];rfl
   rw[e] at ih;exact ih
theorem Bd:∀{l:List ((Int×Str)×List Item)} {S:bH},((S.aJ++l).map (·.1)).Nodup->⇑(S.aJ++l)<=1000000->SE S->(∀x∈l,0<=x.1.1/\x.1.1<⇑S.aG/\x.1.2∈S.players/\⇑x.2<=40/\(∀it∈x.2,QM it.2)/\ke x.2=S.len x.1.1.toNat)->qq S->uj S->Runs S (l.map λx=>.aJ x.1.1 x.1.2 x.2) {S with aJ:=S.aJ++l}
 | [],S,_,_,_,_,_,_=>by
  show S=_;rw[zV]
 | n::r,S,nd,hl,lu,hx,hd,sz=>by
  let nd':=nd;rw[zk,zT] at nd';rw[zh,zv] at hl;let⟨b0,b1,pin,il,iok,isum⟩:=hx n zr;refine{?_,{(b0),(),iok,lu},hd,sz,?_}
  ·unfold fault
   dsimp only;rw[yN (λz=>nd'.2.2 n.1 z n.1 (by rw[zj];exact zr) rfl),yN (λz=>z pin),yN,yN (λz=>z isum),yN ()];intro z;apply z;unfold bH.has;simp[b1]
  ·let ih:=Bd (l:=r) (S:=bQ S (.aJ n.1.1 n.1.2 n.2)) (by show((S.aJ++[n]++r).map _).Nodup;rw[zF];exact nd) (by show(S.aJ++[n]++r).length<=1000000;simp only[zh,zv,xq];ext) lu (λx h=>hx x (zp _ h)) hd {sz.1,sz.2.1,sz.2.2.1,sz.2.2.2.1,by show(S.aJ++[n]).length<=1000000;rw[zh];simp;ext,sz.2.2.2.2.2}
   let e:({bQ S (.aJ n.1.1 n.1.2 n.2) with aJ:=(bQ S (.aJ n.1.1 n.1.2 n.2)).aJ++r}:bH)={S with aJ:=S.aJ++n::r}:=by
    show({S with aJ:=S.aJ++[n]++r}:bH)=_;rw[zF];rfl
   rw[e] at ih;exact ih
def HX {S:bH} {u:Int×Int} (hn:S.aF=none) (hb:⇑S.aG≠0) (hs:u.1*(S.aP 0).2<(S.aP 0).1*u.2) (no:S.aJ=[]) (zu:CH 8999 u) (lu:SE S) (hd:qq S) (sz:uj S):Runs S [.aF u] {S with aF:=some u}:=by
 refine{?_,{zu,lu,by rw[no];exact yg _},hd,sz,rfl};unfold fault;dsimp only;rw[yN (by rw[hn];simp),yN hb,yN (λz=>z hs),yN (by rw[no];simp)]
theorem uy:∀{l:List (Str×List Str)} {S:bH},((S.aK++l).map (·.1)).Nodup->((S.aK++l).map (·.2)).flatten.Nodup->(∀x∈l,∀p∈x.2,p∈S.players)->(∀x∈l,⇑x.2<=1000)->⇑(S.aK++l)<=1000000->qq S->uj S->Runs S (l.map λx=>.cw x.1 x.2) {S with aK:=S.aK++l}
 | [],S,_,_,_,_,_,_,_=>by
  show S=_;rw[zV]
 | n::r,S,nd,fd,pin,pl,hl,hd,sz=>by
  let nd':=nd;let fd':=fd;rw[zk,zT] at nd';rw[zk,xh,zj,ya,zT] at fd';rw[zh,zv] at hl;refine{?_,pl n zr,hd,sz,?_}
  ·unfold fault
   dsimp only;let pn:n.2.Nodup:=(zT.mp fd'.2.1).1;let p2:¬(S.aK.any λq=>n.2.any λp=>decide (p∈q.2))=true:=λz=>by
    let⟨q,hq,z⟩:=yo.mp z;let⟨p,hp,z⟩:=yo.mp z;exact fd'.2.2 p (wm.mpr {q.2,zP (f:=λx:Str×List Str=>x.2) hq,ye z}) p (zJ _ hp) rfl
   let p3:¬(n.2.any λp=>!decide (p∈S.players))=true:=λz=>by
    let⟨p,hp,z⟩:=yo.mp z;rw[zg (pin n zr p hp)] at z;cases z
   rw[yN (λz=>nd'.2.2 n.1 z n.1 (by rw[zj];exact zr) rfl),yN (λz=>z pn),yN p2,yN p3]
  ·let ih:=uy (l:=r) (S:=bQ S (.cw n.1 n.2)) (by show((S.aK++[n]++r).map _).Nodup;rw[zF];exact nd) (by show((S.aK++[n]++r).map _).flatten.Nodup;rw[zF];exact fd) (λx h=>pin x (zp _ h)) (λx h=>pl x (zp _ h)) (by show(S.aK++[n]++r).length<=1000000;simp only[zh,zv,xq];ext) hd {sz.1,sz.2.1,by show(S.aK++[n]).length<=1000000;rw[zh];simp;ext,sz.2.2.2}
   let e:({bQ S (.cw n.1 n.2) with aK:=(bQ S (.cw n.1 n.2)).aK++r}:bH)={S with aK:=S.aK++n::r}:=by
    show({S with aK:=S.aK++[n]++r}:bH)=_;rw[zF];rfl
   rw[e] at ih;exact ih
def PB {base:List (Str×List (Int×Str))} {p:Str} (h:p∉base.map (·.1)):base.lookup p=none:=by
 induction base with
 | nil=>rfl
 | cons x r ih=>
  rw[zj,zD,not_or] at h;rw[yq,show(p == x.1)=false from by simp;exact h.1];exact ih h.2
def M7 {base:List (Str×List (Int×Str))} {p:Str} {acc:List (Int×Str)} (h:p∉base.map (·.1)):(base++[(p,acc)]).lookup p=some acc:=by
 induction base with
 | nil=>rw[List.nil_append,yq,wk]
 | cons x r ih=>
  rw[zj,zD,not_or] at h;rw[wU,yq,show(p == x.1)=false from by simp;exact h.1];exact ih h.2
def Qy {base:List (Str×List (Int×Str))} {p:Str} {acc:List (Int×Str)} {e:Int×Str} (h:p∉base.map (·.1)):e9 (base++[(p,acc)]) p e=base++[(p,acc++[e])]:=by
 unfold e9;rw[yO (by rw[zk];exact zI _ (zA.mpr rfl)),zk];let er:(base.map λq:Str×List (Int×Str)=>if q.1=p then(q.1,q.2++[e]) else q)=base:=by
  conv=>rhs;rw[<-List.map_id base]
  refine xA λq hq=>?_;rw[yN (λz=>h (by rw[<-z];exact zP (f:=λx:Str×List (Int×Str)=>x.1) hq))];rfl
 rw[er];simp
def EC {S:bH} {p:Str} {acc:List (Int×Str)} {h:Int×Str} (hl:(S.holds.lookup p).getD []=acc) (asc:∀a∈acc,a.1<h.1) (al:⇑acc<20) (hp:p∈S.players) (hb:h.1<⇑S.aG) (hi:h.2∈S.ao.map (·.1)):fault S (.holds p h.1 h.2)=none:=by
 unfold fault;dsimp only;rw[hl];let c1:¬(match acc.getLast? with | some q=>decide (h.1<=q.1) | none=>false)=true:=by
  cases q:acc.getLast? with
  | none=>simp
  | some x=>
   have:=asc x (w8 q);simp;exact this
 rw[yN (by
  cases q:acc.getLast? with
  | none=>simp
  | some x=>
   have:=asc x (w8 q);simp;exact this),yN (λz=>z hp),yN (λz=>z hi),yN (λz=>z (by unfold bH.has;simp[hb])),yN ()]
theorem HY {p:Str} {base:List (Str×List (Int×Str))} (nb:p∉base.map (·.1)) (nd:(base.map (·.1)).Nodup) (bl:⇑base<=999999) (bb:∀q∈base,⇑q.2<=1000000):∀{row acc:List (Int×Str)} {S:bH},S.holds=base++[(p,acc)]->((acc++row).map (·.1)).Pairwise (·<·)->⇑(acc++row)<=20->p∈S.players->
  (∀h∈row,h.1<⇑S.aG/\h.2∈S.ao.map (·.1))->uj S->Runs S (row.map λh=>.holds p h.1 h.2) {S with holds:=base++[(p,acc++row)]}
 | [],acc,S,eS,_,_,_,_,_=>by
  show S=_;rw[zV,<-eS]
 | h::r,acc,S,eS,asc,al,hp,hx,sz=>by
  let⟨hb,hi⟩:=hx h zr;let asc':=asc;rw[zk,zU] at asc';rw[zh,zv] at al;let hd:qq S:=by
   refine{?_,?_,?_}
   ·rw[eS,zk,zT]
    exact{nd,by simp,λx hx y hy e=>by simp at hy;subst hy;subst e;exact nb hx}
   ·rw[eS,zh];simp;ext
   ·intro q hq
    rw[eS] at hq;rcases zG.mp hq with z | z
    ·exact bb q z
    ·rw[zA.mp z];show ⇑acc<=1000000;ext
  refine{EC (acc:=acc) (by rw[eS,M7 nb];rfl) (λa ha=>asc'.2.2 a.1 (zP (f:=λx:Int×Str=>x.1) ha) h.1 (by rw[zj];exact zr)) () hp hb hi,trivial,hd,sz,?_};let ih:=HY nb nd bl bb (row:=r) (acc:=acc++[h]) (S:=bQ S (.holds p h.1 h.2)) (by show e9 S.holds p (h.1,h.2)=_;rw[eS,Qy nb]) (by rw[zF];exact asc) (by simp only[zh,zv,xq];ext) hp (λx hx'=>hx x (zp _ hx')) sz;let e:({bQ S (.holds p h.1 h.2) with holds:=base++[(p,acc++[h]++r)]}:bH)={S with holds:=base++[(p,acc++h::r)]}:=by
   show({S with holds:=base++[(p,acc++[h]++r)]}:bH)=_;rw[zF];rfl
  rw[e] at ih;exact ih
theorem Bf:∀{l:List (Str×List (Int×Str))} {S:bH},((S.holds++l).map (·.1)).Nodup->⇑(S.holds++l)<=999999->(∀x∈l,x.2≠[]/\⇑x.2<=20/\(x.2.map (·.1)).Pairwise (·<·)/\x.1∈S.players/\∀h∈x.2,h.1<⇑S.aG/\h.2∈S.ao.map (·.1))->qq S->uj S->
  Runs S (l.map λx=>x.2.map λh=>Told.holds x.1 h.1 h.2).flatten {S with holds:=S.holds++l}
 | [],S,_,_,_,_,_=>by
  show S=_;rw[zV]
 | x::r,S,nd,hl,hx,hd,sz=>by
  let⟨ne,xl,asc,hp,hh⟩:=hx x zr;let⟨h,t,et⟩:=List.exists_cons_of_ne_nil ne;let nd':=nd;rw[zk,zT] at nd';let nb:x.1∉S.holds.map (·.1):=λz=>nd'.2.2 x.1 z x.1 (by rw[zj];exact zr) rfl;rw[zh,zv] at hl;rw[zj,ya];refine Runs.app (S1:={S with holds:=S.holds++[x]}) ?_ ?_
  ·rw[et] at xl asc hh ⊢
   let⟨hb,hi⟩:=hh h zr;refine{EC (acc:=[]) (by rw[PB nb];rfl) (by simp) (by simp) hp hb hi,trivial,hd,sz,?_};let ea:bQ S (.holds x.1 h.1 h.2)={S with holds:=S.holds++[(x.1,[h])]}:=by
    show({S with holds:=e9 S.holds x.1 (h.1,h.2)}:bH)=_;unfold e9;rw[yN nb]
   rw[ea];let rr:=HY (p:=x.1) nb hd.1 () hd.2.2 (row:=t) (acc:=[h]) (S:={S with holds:=S.holds++[(x.1,[h])]}) rfl asc xl hp (λy hy=>hh y (zp _ hy)) sz;let ex:x=(x.1,[h]++t):=by rw[List.singleton_append,<-et]
   let e2:({({S with holds:=S.holds++[(x.1,[h])]}:bH) with holds:=S.holds++[(x.1,[h]++t)]}:bH)={S with holds:=S.holds++[x]}:=by rw[<-ex]
   rw[e2] at rr;exact rr
  ·let ih:=Bf (l:=r) (S:={S with holds:=S.holds++[x]}) (by show((S.holds++[x]++r).map _).Nodup;rw[zF];exact nd) (by show(S.holds++[x]++r).length<=999999;simp only[zh,zv,xq];ext) (λy hy=>hx y (zp _ hy)) ?_ sz
   ·let e:({({S with holds:=S.holds++[x]}:bH) with holds:=S.holds++[x]++r}:bH)={S with holds:=S.holds++x::r}:=by rw[zF];rfl
    exact e▸ih
   ·refine{?_,?_,?_}
    ·show((S.holds++[x]).map _).Nodup
     have:=List.Nodup.sublist (List.Sublist.map (λx:Str×List (Int×Str)=>x.1) (List.Sublist.append (List.Sublist.refl S.holds) (List.singleton_sublist.mpr zr))) nd;exact this
    ·show(S.holds++[x]).length<=1000000
     rw[zh];simp;ext
    ·intro q hq
     let hq':q∈S.holds++[x]:=hq;rcases zG.mp hq' with z | z
     ·exact hd.2.2 q z
     ·rw[zA.mp z];ext
def AD (n:Nat):List Rep->List Rep->Prop
 | _,[]=>True
 | rs,r::l=>(∀b∈[r.first,r.last]++r.ends.map (·.1),b<(n:Int))/\lE rs r=true/\(J7 r.ends<64/\⇑r.ends<=1000/\-1000000<=r.times/\r.times<=1000000)/\AD n (rs++[r]) l
def PX {S:bH} {bs:List Int} (h:∀b∈bs,b<(⇑S.aG:Int)):S.has bs=true:=yp.mpr λb hb=>zg (h b hb)
theorem Em:∀{l:List Rep} {S:bH},S.bC=none->AD ⇑S.aG S.repeats l->⇑(S.repeats++l)<=20->qq S->uj S->Runs S (l.map .rep) {S with repeats:=S.repeats++l}
 | [],S,_,_,_,_,_=>by
  show S=_;rw[zV]
 | r::l,S,nj,⟨h1,h2,h3,h4⟩,hl,hd,sz=>by
  rw[zh,zv] at hl;refine{?_,h3,hd,sz,?_}
  ·unfold fault
   dsimp only;rw[yN (λz=>z (PX h1)),yN (by rw[nj];simp),yN (λz=>z h2),yN ()]
  ·let ih:=Em (l:=l) (S:=bQ S (.rep r)) nj h4 (by show(S.repeats++[r]++l).length<=20;simp only[zh,zv,xq];ext) hd {sz.1,sz.2.1,sz.2.2.1,sz.2.2.2.1,sz.2.2.2.2.1,by show(S.repeats++[r]).length<=1000000;rw[zh];simp;ext}
   let e:({bQ S (.rep r) with repeats:=(bQ S (.rep r)).repeats++l}:bH)={S with repeats:=S.repeats++r::l}:=by
    show({S with repeats:=S.repeats++[r]++l}:bH)=_;rw[zF];rfl
   rw[e] at ih;exact ih
def MO {S:bH} {j:Jump} (nj:S.bC=none) (hb:∀b∈[j.mT,j.kO,j.bS]++j.fh.toList,b<(⇑S.aG:Int)) (hf:fA S.repeats j=true) (ro:GU S) (hd:qq S) (sz:uj S):Runs S [.bC j] {S with bC:=some j}:=by
 refine{?_,ro,hd,sz,rfl};unfold fault;dsimp only;rw[yN (by rw[nj];simp),yN (λz=>z (PX hb)),yN (λz=>z hf)]
structure Xg (S:bH):Prop where
 pn:S.players.Nodup
 pl:⇑S.players<=12
 Xx:(S.ao.map (·.1)).Nodup
 il:⇑S.ao<=12
 sn:(S.aK.map (·.1)).Nodup
 sf:(S.aK.map (·.2)).flatten.Nodup
 sp:∀x∈S.aK,∀p∈x.2,p∈S.players
 sl:∀x∈S.aK,⇑x.2<=1000
 sc:⇑S.aK<=1000000
 bl:⇑S.aG<=200
 lu:SE S
 up:∀u,S.aF=some u->⇑S.aG≠0/\u.1*(S.aP 0).2<(S.aP 0).1*u.2/\CH 8999 u
 hn:(S.holds.map (·.1)).Nodup
 hl:⇑S.holds<=999999
 hx:∀x∈S.holds,x.2≠[]/\⇑x.2<=20/\(x.2.map (·.1)).Pairwise (·<·)/\x.1∈S.players/\∀h∈x.2,h.1<⇑S.aG/\h.2∈S.ao.map (·.1)
 nn:(S.aJ.map (·.1)).Nodup
 nl:⇑S.aJ<=1000000
 nx:∀x∈S.aJ,0<=x.1.1/\x.1.1<⇑S.aG/\x.1.2∈S.players/\⇑x.2<=40/\(∀it∈x.2,QM it.2)/\ke x.2=S.len x.1.1.toNat
 rf:AD ⇑S.aG [] S.repeats
 rl:⇑S.repeats<=20
 ro:GU S
 ju:∀j,S.bC=some j->(∀b∈[j.mT,j.kO,j.bS]++j.fh.toList,b<(⇑S.aG:Int))/\fA S.repeats j=true
def OO {S:bH} (V:Xg S):Runs {} (dM S) S:=by
 let hd0:∀T:bH,T.holds=[]->qq T:=λT e=>by
  refine{by rw[e];exact wa,by rw[e];exact yg _,λq hq=>by rw[e] at hq;cases hq}
 let hdS:∀T:bH,T.holds=S.holds->qq T:=λT e=>by
  refine{by rw[e];exact V.hn,by rw[e];have:=V.hl;ext,λq hq=>?_};rw[e] at hq;have:=(V.hx q hq).2.1;ext
 let b1:=V.pl;let b2:=V.il;let b3:=V.sc;let b4:=V.bl;let b5:=V.nl;let b6:=V.rl;let szP:∀T:bH,(T.players=[]\/T.players=S.players)->(T.ao=[]\/T.ao=S.ao)->(T.aK=[]\/T.aK=S.aK)->(T.aG=[]\/T.aG=S.aG)->(T.aJ=[]\/T.aJ=S.aJ)->(T.repeats=[]\/T.repeats=S.repeats)->uj T:=λT q1 q2 q3 q4 q5 q6=>by
  refine{?_,?_,?_,?_,?_,?_}
  ·rcases q1 with e | e <;> rw[e] <;> first | exact yg _ | ext
  ·rcases q2 with e | e <;> rw[e] <;> first | exact yg _ | ext
  ·rcases q3 with e | e <;> rw[e] <;> first | exact yg _ | ext
  ·rcases q4 with e | e <;> rw[e] <;> first | exact yg _ | ext
  ·rcases q5 with e | e <;> rw[e] <;> first | exact yg _ | ext
  ·rcases q6 with e | e <;> rw[e] <;> first | exact yg _ | ext
 let r1:=qT (l:=S.players) (S:={}) V.pn b1 (hd0 _ rfl) (szP _ (.inl rfl) (.inl rfl) (.inl rfl) (.inl rfl) (.inl rfl) (.inl rfl));let r2:=Be (l:=S.ao) (S:={players:=S.players}) V.Xx b2 (hd0 _ rfl) (szP _ (.inr rfl) (.inl rfl) (.inl rfl) (.inl rfl) (.inl rfl) (.inl rfl));let r3:=uy (l:=S.aK) (S:={players:=S.players,ao:=S.ao}) V.sn V.sf V.sp V.sl b3 (hd0 _ rfl) (szP _ (.inr rfl) (.inr rfl) (.inl rfl) (.inl rfl) (.inl rfl) (.inl rfl));let r4:=En (l:=S.aG) (S:={players:=S.players,ao:=S.ao,aK:=S.aK}) b4 (hd0 _ rfl) (szP _ (.inr rfl) (.inr rfl) (.inr rfl) (.inl rfl) (.inl rfl) (.inl rfl));let r5:Runs {players:=S.players,ao:=S.ao,aK:=S.aK,aG:=S.aG} (S.aF.toList.map .aF) {players:=S.players,ao:=S.ao,aK:=S.aK,aG:=S.aG,aF:=S.aF}:=by
  cases q:S.aF with
  | none=>exact rfl
  | some u=>
   let⟨u1,u2,u3⟩:=V.up u q;exact HX (S:={players:=S.players,ao:=S.ao,aK:=S.aK,aG:=S.aG}) rfl u1 u2 rfl u3 V.lu (hd0 _ rfl) (szP _ (.inr rfl) (.inr rfl) (.inr rfl) (.inr rfl) (.inl rfl) (.inl rfl))
 let r6:=Bf (l:=S.holds) (S:={players:=S.players,ao:=S.ao,aK:=S.aK,aG:=S.aG,aF:=S.aF}) V.hn V.hl V.hx (hd0 _ rfl) (szP _ (.inr rfl) (.inr rfl) (.inr rfl) (.inr rfl) (.inl rfl) (.inl rfl));let r7:=Bd (l:=S.aJ) (S:={players:=S.players,ao:=S.ao,aK:=S.aK,aG:=S.aG,aF:=S.aF,holds:=S.holds}) V.nn b5 V.lu V.nx (hdS _ rfl) (szP _ (.inr rfl) (.inr rfl) (.inr rfl) (.inr rfl) (.inl rfl) (.inl rfl));let r8:=Em (l:=S.repeats) (S:={players:=S.players,ao:=S.ao,aK:=S.aK,aG:=S.aG,aF:=S.aF,holds:=S.holds,aJ:=S.aJ}) rfl V.rf b6 (hdS _ rfl) (szP _ (.inr rfl) (.inr rfl) (.inr rfl) (.inr rfl) (.inr rfl) (.inl rfl));let r9:Runs {players:=S.players,ao:=S.ao,aK:=S.aK,aG:=S.aG,aF:=S.aF,holds:=S.holds,aJ:=S.aJ,repeats:=S.repeats} (S.bC.toList.map .bC) S:=by
  let⟨s1,s2,s3,s4,s5,s6,s7,s8,s9⟩:=S;cases s9 with
  | none=>exact rfl
  | some j=>
   let⟨j1,j2⟩:=V.ju j rfl;exact MO (S:={players:=s1,ao:=s2,aK:=s3,aG:=s4,aF:=s5,holds:=s6,aJ:=s7,repeats:=s8}) rfl j1 j2 V.ro (hdS _ rfl) (szP _ (.inr rfl) (.inr rfl) (.inr rfl) (.inr rfl) (.inr rfl) (.inr rfl))
 exact Runs.app (Runs.app (Runs.app (Runs.app (Runs.app (Runs.app (Runs.app r1 r2) r3) r4) r5) r6) r7) (Runs.app r8 r9)
inductive mw (K:yB) (vs:List V) (H:Hp) (Q:VK) (E:XK):Prop
 | mk (a:vE) (ns:List Int) (k:Int) (_:vs=[.ref a,.int k]) (_:aH K H a (ns.map V.int)) (_:0<=k) (_:⇑ns<=1000) (_:∀c:Int,Q (.int c) H)
def bV:df P w base 1 T.cb (mw K):=by
 nomatch T.cb,["_law_script","_law_k"]
 let⟨a,ns,k,rfl,hS,h0,hl,kk⟩:=h;refine{_,(af (aI (ptr fe (pv 1) (eA aE T.bG (ah (pv 0) ag)))
  (ak (aq (fG (pv 0) (pv 1))))
  aA)
  (ak (aq ae))),?_}
 exists a,_,rfl,.inl hS,?_;left;refine vR (λc1=>?_) (λc1=>?_)
 ·let c2:=ye c1
  rw[za] at c2;change{a,_,_,_,rfl,rfl,hS,Qv h0 c2,kk _}
 ·left
  exact kk _
inductive sM (vs:List V) (H:Hp) (Q:VK) (E:XK):Prop
 | mk (c m:Int) (_:vs=[.int c,.int m]) (_:0<=c) (_:c<1099511627776) (_:0<=m) (_:m<=12) (_:∀(ns:List Str) p H',⇑ns=m.toNat->CD ns->au H H'->H' p=some (.lst (ns.map V.str))->Q (.ref p) H')
def eW:df P w base 1 T.d6 sM:=by
 nomatch T.d6,["_law_cell","_law_many","_law_letters","_law_first","_law_size","_law_place","_law_stem"]
 let⟨c,m,rfl,c0,c1,m0,m1,kk⟩:=h;let sl:=yC;refine{_,(af (bN 2 qN aL)
  (af (bN 3 qN (ax aR (ax aU (pv 0) ae) ae))
  (af (aI (PW.pt (dm (ptr cZ (ax aR (pv 0) ae) ae) (cP (ptr fe (pv 1) ae))))
  (ak (aq (nM (ts:=["_law_k"]) (ys:=["_law_many","_law_letters","_law_first"]) (js:=[1,2,3]) (te:=(eO Sk (eO Rc (aW 2) (aW 3)) (eO (sr λi j=>.int (i-j)) (aW 1) (aW 0)))) (cQ (by rfl) T.cy (aa (pv 1) ag)) (gr 0) bx (ax Rr (Br F0 (pv 2) (pv 3) (λ_ _=>rfl)) (ax jt (pv 1) (pv 0))))))
  aA)
  (af (bN 4 qN (ax aR (ax aU (pv 0) ae) ae))
  (af (bN 5 qN (ax aR (ax aU (pv 0) ae) (ax aQ (pv 4) ae)))
  (af (bN 6 qN (bJ yG yI yH gL aL (aa (nM (ts:=["_law_k"]) (ys:=["_law_cell","_law_letters"]) (js:=[0,2]) (te:=(eO Rc (eO (λx y H Q=>∃i j,x=.str i/\y=.str j/\⇑i+⇑j<=sizeLine/\Q (.str (i++j)) H) (aW 2) (tC (.str "0123456789"))) (eO (rI (λ_ j=>0<j) λi j=>.int (i%j)) (eO (sr λi j=>.int (i+j)) (eO (rI UD λi j=>.int (i/j)) (aW 1) (tC (.int (16224)))) (eO (rI N2 λi j=>.int (i*j)) (tC (.int (7))) (aW 0))) (tC (.int (36)))))) (cQ (by rfl) T.cy (aa (pv 4) ag)) (gr 0) bx (Br F0 (ax bZ (pv 2) aL) (ax aR (ax aQ (ax aU (pv 1) ae) (ax dP ae (pv 0))) ae) (λ_ _=>rfl))) ag)))
  (ak (aq (nM (ts:=["_law_k"]) (ys:=["_law_letters","_law_first","_law_place","_law_stem"]) (js:=[2,3,5,6]) (te:=(eO (λx y H Q=>∃i j,x=.str i/\y=.str j/\⇑i+⇑j<=sizeLine/\Q (.str (i++j)) H) (eO (λx y H Q=>∃i j,x=.str i/\y=.str j/\⇑i+⇑j<=sizeLine/\Q (.str (i++j)) H) (Wx Tt (aW 4) E3 (Ov (aW 3))) (eO Rc (aW 1) (eO (rI (λ_ j=>0<j) λi j=>.int (i%j)) (eO (sr λi j=>.int (i+j)) (aW 2) (eO (rI N2 λi j=>.int (i*j)) (tC (.int (5))) (aW 0))) (tC (.int (26)))))) (Wx Tt (aW 4) (Ov (aW 3)) E3))) (cQ (by rfl) T.cy (aa (pv 1) ag)) (gr 0) bx (ax bZ (ax bZ (cY Kd (pv 4) dE (dC (pv 3))) (Br F0 (pv 1) (ax aR (ax aQ (pv 2) (ax dP ae (pv 0))) ae) (λ_ _=>rfl))) (cY Kd (pv 4) (dC (pv 3)) dE))))))))))),?_}
 ac_rfl;left
 by_cases q:c%4=0
 ·refine bR (by show decide (V.int (c%4)=V.int 0)=true;rw[q];rfl) ?_
  left;refine bR (zg ()) ?_;exists by ext,(),?_
  let f0:0<=c/4%26:=zw _ ∅;let f1:c/4%26<26:=zt _ ∅;refine lW (λk=>.str (pL {#[97+(c/4%26).toNat]} (m.toNat-k))) (λU=>∃v,U=[v,some (.int m),some (.str lets),some (.int (c/4%26))]) () {(none),rfl} ?_ ?_
  ·rintro k U H4 R hk s4 ⟨_,rfl⟩ r
   exists lets,_,_,rfl,rfl,(by show 26<=sizeLine;ext),LY f0 f1,?_;exists by ext,(),(by show 1<=1000;decide),?_
   refine r _ _ _ (au.refl _) ?_ {_,rfl};rw[show(m-(0+(k:Int))).toNat=m.toNat-k from by ext];exact eJ
  ·intro D vs H4 s4 _ hD il
   let e:(List.range m.toNat).map (λk=>Dt.str (pL {#[97+(c/4%26).toNat]} (m.toNat-k)))=((List.range m.toNat).map λk=>pL {#[97+(c/4%26).toNat]} (m.toNat-k)).map Dt.str:=by rw[zB];rfl
   rw[e] at il;rw[dG il] at hD;exact kk _ D H4 (by rw[za,zR]) (M3 () (PJ f0 f1)) s4 hD
 ·refine bX (by show decide (V.int (c%4)=V.int 0)=false;exact ze λz=>q (V.int.inj z)) ?_
  let f0:0<=c/4%26:=zw _ ∅;let f1:c/4%26<26:=zt _ ∅;let z0:0<=c/104%12:=zw _ ∅;let z1:c/104%12<12:=zt _ ∅;let y0:0<=c/1248%(c/104%12+1):=zw _ ();let y1:c/1248%(c/104%12+1)<c/104%12+1:=zt _ ();let x0:0<=c/16224:=zW c0 ∅;let x1:c/16224<=c:=zX _ c0;exists by show 0<c/104%12+1;ext,?_
  exists by ext,(),?_
  refine lW (λk=>.str {#[Q1 ((c/16224+7*(0+(k:Nat)))%36)]}) (λU=>∃v,U=[v,some (.int c),some (.str lets)]) () {(none),rfl} ?_ ?_
  ·rintro k U H4 R hk s4 ⟨_,rfl⟩ r
   exists by show 26+10<=sizeLine;ext,?_
   left;let w0:0<=(c/16224+7*(0+(k:Int)))%36:=zw _ ∅;let w1:(c/16224+7*(0+(k:Int)))%36<36:=zt _ ∅;refine{lets ++"0123456789",_,_,rfl,rfl,by show 36<=sizeLine;ext,(OK w0 w1).1,?_};exact r _ _ _ (au.refl _) eJ {_,rfl}
  ·intro D vs H4 s4 _ hD il
   let e:(List.range (c/104%12).toNat).map (λk:Nat=>Dt.str {#[Q1 ((c/16224+7*(0+(k:Nat)))%36)]})=(ng c (c/104%12).toNat).map Dt.str:=by unfold ng;rw[zB];rfl
   rw[e] at il;rw[dG il] at hD;refine{"",D,ng c (c/104%12).toNat,rfl,rfl,aH.of hD,by rw[OD];ext,?_};exists by ext,(),?_
   let sln:=OF c (c/104%12).toNat;let ssg:=OE (c:=c) (n:=(c/104%12).toNat);generalize hst:Str.join "" (ng c (c/104%12).toNat)=stem at sln ssg;obtain⟨pn,hpn⟩:∃n:Nat,c/1248%(c/104%12+1)=(n:Int):={(c/1248%(c/104%12+1)).toNat,()}
   obtain⟨fn,hfn⟩:∃n:Nat,c/4%26=(n:Int):={(c/4%26).toNat,()}
   let pb:pn<=⇑stem:=()
   let l1:⇑(Txt.slice stem none (some (pn:Int)))<=11:=by
    rw[<-show _=⇑(Txt.slice stem none (some (pn:Int))) from yQ,HF stem pb,zQ];ext
   let l2:⇑(Txt.slice stem (some (pn:Int)) none)<=11:=by
    rw[<-show _=⇑(Txt.slice stem (some (pn:Int)) none) from yQ,pC stem pb,xD,show ⇑stem.cps.toList=⇑stem from yQ];ext
   refine lW (λk=>.str (Txt.slice stem none (some (pn:Int))++{#[97+(fn+5*k)%26]}++Txt.slice stem (some (pn:Int)) none)) (λU=>∃v,U=[v,some (.str lets),some (.int (fn:Int)),some (.int (pn:Int)),some (.str stem)]) () {none,by rw[<-hpn,<-hfn];rfl} ?_ ?_
   ·rintro k U H5 R hk s5 ⟨_,rfl⟩ r
    exists by ext,?_
    left;let w0:0<=((fn:Int)+5*(0+(k:Int)))%26:=zw _ ∅;let w1:((fn:Int)+5*(0+(k:Int)))%26<26:=zt _ ∅;let we:(((fn:Int)+5*(0+(k:Int)))%26).toNat=(fn+5*k)%26:=()
    refine{lets,_,_,rfl,rfl,by show 26<=sizeLine;ext,LY w0 w1,?_};rw[we];let l3:⇑({#[97+(fn+5*k)%26]}:Str)=1:=rfl;refine{_,_,rfl,rfl,(),?_};exists by ext,?_
    refine{_,_,rfl,rfl,by rw[len_app];ext,?_};exact r _ _ _ (au.refl _) eJ {_,rfl}
   ·intro D2 vs2 H5 s5 _ hD2 il2
    let e:(List.range m.toNat).map (λk=>Dt.str (Txt.slice stem none (some (pn:Int))++{#[97+(fn+5*k)%26]}++Txt.slice stem (some (pn:Int)) none))=((List.range m.toNat).map λk=>Txt.slice stem none (some (pn:Int))++{#[97+(fn+5*k)%26]}++Txt.slice stem (some (pn:Int)) none).map Dt.str:=by rw[zB];rfl
    rw[e] at il2;rw[dG il2] at hD2;exact kk _ D2 H5 (by rw[za,zR]) (KA () pb ssg ()) (s4.trans s5) hD2
def sJ:Sp:=λvs H Q _=>∃(m:Int),vs=[.int m]/\0<=m/\∀q p H',QE q->au H H'->H' p=some (jL q)->Q (.ref p) H'
def tF:df P w base 1 T.kB sJ:=by
 nomatch T.kB,["_law_m","_law_f","_law_high"]
 let⟨m,rfl,m0,kk⟩:=h;let a:=zw m (b:=41) ∅;let b:=zt m (b:=41) ∅;let c:=zw (m/41) (b:=14) ∅;let d:=zt (m/41) (b:=14) ∅;refine{_,(af (bN 1 qN (ax jt (ax aR (pv 0) ae) ae))
  (af (bN 2 qN (ax dP (ax jt (ax aR (ax aU (pv 0) ae) ae) ae) ae))
  (ak (aq (bF (aa (pv 1) (aa (ax aQ (ax aR (ax dP ae (pv 1)) ae) (pv 2)) ag))))))),?_}
 ac_rfl;exists cM,?_;intros p1 H1 s1 h1;change kk _ _ _ (MV m) s1 h1
inductive sN (vs:List V) (H:Hp) (Q:VK) (E:XK):Prop
 | mk (m:Int) (x:Int×Int) (q:vE) (_:vs=[.int m,.ref q]) (_:H q=some (jL x)) (_:0<=m) (_:m<1099511627776) (_:Lu x) (_:∀(its:List Item) p us H',GY its x->au H H'->H p=none->H' p=some (.lst us)->aD H' (its.map eM) us->Q (.ref p) H')
def tH:df P w base 2 T.kD sN:=by
 nomatch T.kD,["_law_m","_law_length","_law_many","_law_weights","_law_items","_law_j","_law_each"]
 let⟨m,x,q,rfl,hq,m0,m1,xok,kk⟩:=h;let sl:=yC;let a:=zw m (b:=6) ∅;let b:=zt m (b:=6) ∅;obtain⟨n,hn⟩:∃n:Nat,1+m%6=(n:Int):={(1+m%6).toNat,()}
 refine{_,(af (bN 2 qN (ax aQ ae (ax aR (pv 0) ae)))
  (af (Pl (i:=3) (ts:=["_law_j"]) (ys:=["_law_m"]) (js:=[0]) (te:=(eO (sr λi j=>.int (i+j)) (tC (.int (1))) (eO (rI (λ_ j=>0<j) λi j=>.int (i%j)) (eO (rI UD λi j=>.int (i/j)) (aW 1) (eO (sr λi j=>.int (i+j)) (tC (.int (7))) (eO (rI N2 λi j=>.int (i*j)) (tC (.int (5))) (aW 0)))) (tC (.int (4)))))) (cQ (by rfl) T.cy (aa (pv 2) ag)) (gr 0) bx (ax aQ ae (ax aR (ax aU (pv 1) (ax aQ ae (ax dP ae (pv 0)))) ae)) qN)
  (af (bN 4 qN (aZ ag))
  (af (bY yP rfl (cQ (by rfl) T.cy (aa (pv 2) ag)) (ia 5 qN)
  (af (bN 6 qN (bM (fY T) hr T.fN (aa (ax dP (bE (pv 1) ae) (fG (pv 3) (pv 5))) (aa (ax dP (bE (pv 1) ae) (eA (NI rfl) T.Vg (aa (pv 3) ag))) ag))))
   (ak (aI (PW.pt (dm (ptr kK (pv 5) (ax aR (ax aU (pv 0) ae) (pv 2))) (cP (ptr cZ (ax TN (ax TM (ax aU (pv 0) ae) (pv 5)) ae) ae))))
   (ak (bu (bJ yD yF yE bB (pv 4) (aa (bF (aa aS (aa (pv 6) ag))) ag))))
   (ak (bu (bJ yD yF yE bB (pv 4) (aa (bF (aa (bM (tF T) hr T.kB (aa (ax aU (pv 0) (ax aQ ae (ax dP ae (pv 5)))) ag)) (aa (pv 6) ag))) ag))))))))
  (ak (aq (pv 4))))))),?_}
 ac_rfl;exists by ext,(),?_
 rw[show(1+m%6).toNat=n from by ext];refine lW (λj=>.int (1+m/(7+5*(0+(j:Nat)))%4)) (λU=>∃v,U=[v,some (.int m)]) () {(none),rfl} ?_ ?_
 ·rintro j U H1 R hj s1 ⟨_,rfl⟩ r
  exists{(()),()},?_;change r _ _ _ (au.refl _) cE {_,rfl}
 ·intro D0 vs0 H1 s1 _ hD0 il0
  let e:(List.range n).map (λj:Nat=>Dt.int (1+m/(7+5*(0+(j:Nat)))%4))=(su m n).map Dt.int:=by unfold su;rw[zB];rfl
  rw[e] at il0;rw[dS il0] at hD0;left
  intros D nD s2 h2 H2
  let nDH:H D=none:=s1.back nD;exists by ext,(),?_
  rw[show(1+m%6).toNat=n from by ext];let⟨xr,x1,x2,x3⟩:=id xok;let⟨_,xp,_⟩:=xr.pos;let wl:=QO m n;let wb:=OB (l:=su m n) λw hw=>JZ hw;let W0:0<(su m n).sum:=()
  let W2:(su m n).sum<=24:=()
  let j0a:0<=m/4%(n:Int):=zw _ ();let j0b:m/4%(n:Int)<n:=zt _ ();refine gB (λi U H'=>∃(its:List Item) (us:List V) (v5 v6:Option V),U=[some (.int m),some (.ref q),some (.int (1+m%6)),some (.ref D0),some (.ref D),v5,v6]/\au H1 H'/\H' D=some (.lst us)/\aD H' (its.map eM) us/\⇑its=i/\(∀it∈its,N0 it)/\
   ke its=red (x.1*((su m n).take i).sum) (x.2*(su m n).sum)/\(m/4%(n:Int)<i->its.all (λit=>it.1.isNone)=false)) {[],[],none,none,rfl,s2,h2,cD,rfl,by simp,OA xp W0,λz=>by exfalso;simp at z;ext} ?_ ?_
  ·intro i U H3 hi hh
   refine dH λN kN0 kR0 _ _=>?_;let⟨its,us,v5,v6,rfl,s3,h3,il3,il,iok,isum,ino⟩:=hh;let hq3:=s3 _ _ (s1 _ _ hq);let hD3:=s3 _ _ hD0;let hwi:(su m n)[i]?=some ((su m n)[i]'()):=zd ();let⟨w1,w2⟩:=JZ (zC hwi);generalize (su m n)[i]'()=wi at hwi w1 w2;left;refine{D0,_,_,_,rfl,rfl,aH.of hD3,(by rw[Int.zero_add];exact bz (by rw[zK,hwi];rfl)),?_};exists .inl {(()),()},?_;exists D0,_,rfl,aH.of hD3,λw hw=>by have:=JZ hw;ext,(),?_
   exists .inl {(()),()},?_;let lk:=PD xok w1 w2 W0 W2;let b1:0<x.2*(su m n).sum:=xB xp W0;let b2:x.2*(su m n).sum<=160*24:=wd x3 W2 () ∅;let t0:0<=x.1*wi:=wc () ();refine{_,_,rfl,t0,b1,(cu (n:=12) () ()).mono ∅,λp6 H6 s6 h6=>?_};exists by show 0<1+m%6;ext,?_
   left;let nD6:H6 D=some (.lst us):=s6 _ _ h3;let il6:=il3.mono s6;let e6:(su m n).take (i+1)=(su m n).take i++[wi]:=cm hwi;let ps:∀it:Item,it.2=red (x.1*wi) (x.2*(su m n).sum)->ke (its++[it])=red (x.1*((su m n).take (i+1)).sum) (x.2*(su m n).sum):=λit e=>by
    rw[e6,List.sum_append];have:[wi].sum=wi:=by simp
    rw[this];exact Oz xp W0 isum e
   refine d5 ((!decide (V.int (0+(i:Int))=V.int (m/4%(1+m%6))))&&decide (V.int (Builtin.bitAnd (m/16/2^(0+(i:Int)).toNat) 1)=V.int 1)) ?_ ?_ ?_
   ·intro c Z hz
    rw[c,yW] at hz;exists by show 0<=0+(i:Int);ext,?_
    change hz
   ·intro c;rw[c,yU]
   ·cases qv:((!decide (V.int (0+(i:Int))=V.int (m/4%(1+m%6))))&&decide (V.int (Builtin.bitAnd (m/16/2^(0+(i:Int)).toNat) 1)=V.int 1)) with
    | true=>
     let ne:(i:Int)≠m/4%(n:Int):=λz=>by
      rw[Int.zero_add,z,hn] at qv;simp at qv
     exists .inl {rfl,_,aH.of nD6},?_;exists cM,?_;intros p7 H7 s7 h7;refine{D,us,_,rfl,rfl,s7 _ _ nD6,(by have:=aO il3;ext),?_};left;let nt:cg (H7 D):=by rw[s7 _ _ nD6];exact λ_ z=>by cases z
     let it7:Is H7 (eM (none,red (x.1*wi) (x.2*(su m n).sum))) (.ref p7):=cz h7 (aN dU (aN (iM (s7 _ _ h6)) cD));refine{its++[(none,red (x.1*wi) (x.2*(su m n).sum))],_,_,_,rfl,bj nD ((s3.trans s6).trans s7),aB,?_,by rw[zh,il];rfl,λit hit=>?_,ps _ rfl,λz=>?_}
     ·rw[zk]
      exact de (Is.upd nt it7) (aD.upd nt (il6.mono s7))
     ·rcases zG.mp hit with y | y
      ·exact iok it y
      ·rw[zA.mp y];exact{lk,λq z=>by cases z}
     ·rw[List.all_append,ino (),yU]
    | false=>
     exists .inl {rfl,_,aH.of nD6},?_;exists{(()),()},?_;exists zW m0 (),λpq p8 H8 pok s8 h8=>?_;exists cM,?_;intros p7 H7 s7 h7;let s67:=s8.trans s7;refine{D,us,_,rfl,rfl,s67 _ _ nD6,by have:=aO il3;ext,?_};left;let nt:cg (H7 D):=by rw[s67 _ _ nD6];exact λ_ z=>by cases z
     let it7:Is H7 (eM (some pq,red (x.1*wi) (x.2*(su m n).sum))) (.ref p7):=cz h7 (aN (iM (s7 _ _ h8)) (aN (iM (s67 _ _ h6)) cD));refine{its++[(some pq,red (x.1*wi) (x.2*(su m n).sum))],_,_,_,rfl,bj nD ((s3.trans s6).trans s67),aB,?_,by rw[zh,il];rfl,λit hit=>?_,ps _ rfl,λz=>?_}
     ·rw[zk]
      exact de (Is.upd nt it7) (aD.upd nt (il6.mono s67))
     ·rcases zG.mp hit with y | y
      ·exact iok it y
      ·rw[zA.mp y];exact{lk,λq z=>by cases z;exact pok}
     ·rw[List.all_append];simp
  ·rintro U H3 ⟨its,us,v5,v6,rfl,s3,h3,il3,il,iok,isum,ino⟩
   left;refine kk its D us H3 {(),iok,?_,ino j0b} (s1.trans s3) nDH h3 il3;rw[isum,show(su m n).take n=su m n from xy (),MD xr W0]
noncomputable def FY:List (Int×Int):=[(4,4),(3,4),(6,8),(2,2),(5,16),(7,8),(1,32),(12,1)]
def N4 (b:Sc.Oa):Prop:=b.aP∈FY/\-7<=b.key/\b.key<=7/\(∀n∈b.marks,gw n)/\⇑b.marks<=2
inductive uV (vs:List V) (H:Hp) (Q:VK) (E:XK):Prop
 | mk (c n:Int) (_:vs=[.int c,.int n]) (_:0<=n) (_:n<=200) (_:∀(bs:List Sc.Oa) p us H',⇑bs=n.toNat->(∀b∈bs,N4 b)->au H H'->H p=none->H' p=some (.lst us)->aD H' (bs.map kX) us->Q (.ref p) H')
def vP:df P w base 2 T.md uV:=by
 nomatch T.md,["_law_cell","_law_many","_law_bars","_law_k","_law_m","_law_metre","_law_key","_law_marks"]
 let⟨c,n,rfl,n0,n1,kk⟩:=h;let sl:=yC;refine{_,(af (bN 2 qN (aZ ag))
  (af (bY yP rfl (cQ (by rfl) T.cy (aa (pv 1) ag)) (ia 3 qN)
  (zf (zc (zS (bN 4 qN (bM (bU T) hr T.cB (aa (pv 0) (aa (ax aQ (pv 3) ae) ag)))))
   (zc (WN 5 qN (Rl FY (ax aR (pv 4) ae) (λ_ _=>rfl)))
   (zc (zS (bN 6 qN (ax jt (ax aR (ax aU (pv 4) ae) ae) ae)))
   (zc (zS (aI (PW.pt (dm (ptr fq (pv 3) ae) (cP (ptr fq (ax aR (ax aU (pv 4) ae) ae) ae))))
   (ak (bN 5 qN (bE (fG (pv 2) (nL je ae)) ae)))
   aA))
   (zc (zS (aI (PW.pt (dm (ptr fq (pv 3) ae) (cP (ptr fq (ax aR (ax aU (pv 4) ae) ae) ae))))
   (ak (bN 6 qN (bE (fG (pv 2) (nL je ae)) ae)))
   aA))
   (zc (zS (bN 7 qN (mS cL T.iH (aa (bM (eW T) hr T.d6 (aa (ax aU (pv 4) ae) (aa (fG (aZ (aa ae (aa ae (aa ae (aa ae (aa ae (aa ae (aa ae ag)))))))) (ax aR (ax aU (pv 4) ae) ae)) ag))) ag))))
   (zo (zS (bu (bJ yD yF yE bB (pv 2) (aa (bF (aa (pv 5) (aa (pv 6) (aa (pv 7) ag)))) ag)))))))))))))
  (ak (aq (pv 2))))),?_}
 ac_rfl;left
 intros D nD s2 h2 H2
 exists by ext,(),?_
 refine gB (λi U H'=>∃(bs:List Sc.Oa) (us:List V),Lo [some (.int c),some (.int n),some (.ref D)] 5 U/\au H H'/\H' D=some (.lst us)/\aD H' (bs.map kX) us/\⇑bs=i/\∀b∈bs,N4 b)
  {[],[],Lo.of rfl rfl,s2,h2,cD,rfl,by simp} ?_ ?_
 ·intro i U H3 hi hh
  refine dH λN kN0 kR0 _ _=>?_;let⟨bs,us,⟨e,rfl⟩,s3,h3,il3,bl,AB⟩:=hh;exists c,_,rfl,(),(),?_;let m0:0<=mixed c (0+(i:Int)+20):=zw _ ∅;let m1:mixed c (0+(i:Int)+20)<2147483399:=zt _ ∅;generalize mixed c (0+(i:Int)+20)=m at m0 m1;let a0:0<=m%8:=zw _ ∅;let a1:m%8<8:=zt _ ∅;let b0:0<=m/8%15:=zw _ ∅;let b1:m/8%15<15:=zt _ ∅;left;intro D4 vs4 H4 s4 h4 il4;left;obtain⟨j,hj⟩:∃j:Nat,m%8=(j:Int):={(m%8).toNat,()}
  let vl4:=aO il4;let jl:j<⇑vs4:=by rw[vl4];show j<8;ext
  let⟨mx,hmx,imx⟩:=cV (d:=dL) il4 (i:=j) (zd jl);generalize hmv:vs4[j]=mv at imx;let h3':=s4 _ _ h3;let il3':=il3.mono s4;refine{D4,vs4,m%8,mv,rfl,rfl,aH.of h4,(by rw[hj];exact bz (by rw[<-hmv];exact zd jl)),?_};left;let lastB:0<(i:Int)->∃b a mt q,us[⇑us-1]?=some (.ref a)/\H4 a=some (.tup [mt,.int b.key,.ref q])/\Is H4 (dL b.aP) mt/\b∈bs:=λip=>by
   let ul:=aO il3';let⟨b,hb,ib⟩:=cV il3' (i:=⇑us-1) (zd ());let⟨a,mt,q,ea,ha,hm,_⟩:=Ar ib;exact{b,a,mt,q,by rw[<-ea];exact zd (),ha,hm,zC hb}
  refine d5 (decide (0<0+(i:Int))&&decide (0<m/120%4)) ?_ ?_ ?_
  ·intro c1 Z hz
   rw[c1,yW] at hz;change hz
  ·intro c1;rw[c1,yU]
  refine join (λU H'=>H'=H4/\∃mv x,U=[some (.int c),some (.int n),some (.ref D),some (.int (0+(i:Int))),some (.int m),some mv,some (.int (m/8%15-7)),e 4]/\Is H4 (dL x) mv/\x∈FY) (λN hN c1=>?_) (λN hN c1=>?_) ?_
  ·let ip:0<(i:Int):=by simp at c1;ext
   let⟨b,a,mt,q,hl,ha,hm,hb⟩:=lastB ip;exists D,us,-1,_,rfl,rfl,aH.of h3',oN hl,?_;change hN _ _ {rfl,mt,b.aP,rfl,hm,(AB b hb).1}
  ·left
   exact hN _ _ {rfl,mv,mx,rfl,imx,zC hmx}
  clear imx hmv;rintro σ5 H5 ⟨e5,mv,x,rfl,imv,hx⟩;rw[e5];clear e5 H5;left;refine d5 (decide (0<0+(i:Int))&&decide (0<m/480%5)) ?_ ?_ ?_
  ·intro c1 Z hz
   rw[c1,yW] at hz;change hz
  ·intro c1;rw[c1,yU]
  refine join (λU H'=>H'=H4/\∃k:Int,U=[some (.int c),some (.int n),some (.ref D),some (.int (0+(i:Int))),some (.int m),some mv,some (.int k),e 4]/\-7<=k/\k<=7) (λN hN c1=>?_) (λN hN c1=>?_) ?_
  ·let ip:0<(i:Int):=by simp at c1;ext
   let⟨b,a,mt,q,hl,ha,hm,hb⟩:=lastB ip;exists D,us,-1,_,rfl,rfl,aH.of h3',oN hl,?_;change hN _ _ {rfl,b.key,rfl,(AB b hb).2.1,(AB b hb).2.2.1}
  ·left
   exact hN _ _ {rfl,m/8%15-7,rfl,(),()}
  rintro σ5 H5 ⟨e5,k,rfl,k0,k1⟩;rw[e5];clear e5 H5;exists by show 7<=sizeLine;ext,?_
  intros p6 H6 s6 h6;let g0:0<=m/33600%7:=zw _ ∅;let g1:m/33600%7<7:=zt _ ∅;obtain⟨jj,hjj⟩:∃j:Nat,m/33600%7=(j:Int):={(m/33600%7).toNat,()}
  obtain⟨z,hz,z0,z1⟩:∃z:Int,[V.int 0,V.int 0,V.int 0,V.int 0,V.int 0,V.int 1,V.int 2][jj]?=some (.int z)/\0<=z/\z<=2:=by
   have:jj<7:=()
   match jj,this with
   | 0,_=>exact{0,rfl,∅,∅}
   | 1,_=>exact{0,rfl,∅,∅}
   | 2,_=>exact{0,rfl,∅,∅}
   | 3,_=>exact{0,rfl,∅,∅}
   | 4,_=>exact{0,rfl,∅,∅}
   | 5,_=>exact{1,rfl,∅,∅}
   | 6,_=>exact{2,rfl,∅,∅}
  exists p6,_,m/33600%7,.int z,rfl,rfl,aH.of h6,(by rw[hjj];exact bz hz),?_;left;refine{_,z,rfl,zW m0 ∅,?_,z0,(),λns p7 H7 nl nok s7 h7=>?_}
  ·have:=zX (a:=m) 2400 m0;ext
  left;refine{p7,_,rfl,.inl {aH.of h7,?_}};intros p8 H8 s8 h8;let s48:=(s6.trans s7).trans s8;let h38:=s48 _ _ h3';exists .inl {rfl,_,aH.of h38},?_;exists nF,?_;intros p9 H9 s9 h9;refine{D,us,_,rfl,rfl,s9 _ _ h38,(by have:=aO il3;ext),?_};left;let s49:=s48.trans s9;let nt:cg (H9 D):=by rw[s9 _ _ h38];exact λ_ z=>by cases z
  let ib:Is H9 (kX {(x),k,ns}) (.ref p9):=cz h9 (aN (imv.mono s49) (aN cE (aN (cz (s9 _ _ h8) (BJ ns)) cD)));refine{bs++[{(x),k,ns}],_,Lo.of rfl rfl,bj nD ((s3.trans s4).trans s49),aB,?_,by rw[zh,bl];rfl,λb hb=>?_}
  ·rw[zk]
   exact de (Is.upd nt ib) (aD.upd nt (il3'.mono s49))
  ·rcases zG.mp hb with y | y
   ·exact AB b y
   ·rw[zA.mp y]
    exact{hx,k0,k1,nok.1,by show ⇑ns<=2;ext}
 ·rintro U H3 ⟨bs,us,⟨e,rfl⟩,s3,h3,il3,bl,AB⟩
  change kk bs D us H3 bl AB s3 nD h3 il3
inductive qL (vs:List V) (H:Hp) (Q:VK) (E:XK):Prop
 | mk (bl:vE) (us:List V) (S:bH) (ub:V) (b:Nat) (_:vs=[.ref bl,ub,.int b]) (_:H bl=some (.lst us)) (_:aD H (S.aG.map kX) us) (_:Is H (dO dL S.aF) ub) (_:b<⇑S.aG) (_:(∀x∈S.aG,N4 x)) (_:∀p H',au H H'->H' p=some (jL (S.len b))->Q (.ref p) H')
def jX {x:Int×Int} (h:x∈FY):1<=x.1/\x.1<=12/\x.2∈DQ/\1<=x.2/\x.2<=32:=by
 unfold FY at h;simp only[zD,zE,yV] at h;rcases h with rfl | rfl | rfl | rfl | rfl | rfl | rfl | rfl <;> decide
def rB:df P w base 2 T.jI qL:=by
 nomatch T.jI,["_law_bars","_law_upbeat","_law_bar"]
 let⟨bl,us,S,ub,b,rfl,hbl,il,iu,hb,AB,kk⟩:=h;let ul:=aO il;let⟨x,hx,ix⟩:=cV il (i:=b) (zd ());let⟨a1,mv,q,ev,h1,im,_⟩:=Ar ix;let⟨m1,m2,m3,m4,m5⟩:=jX (AB x (zC hx)).1;let em:S.aP b=red x.aP.1 x.aP.2:=by unfold bH.aP;rw[hx]
 cases fg (o:=some x.aP) im with
 | ref hm=>
 rename_i am;refine{_,(af (aI (PW.pt (dm (ptr cZ (pv 2) ae) (cP (bw (eT (pv 1))))))
  (ak (aq (pv 1)))
  aA)
  (ak (aq (bM (fY T) hr T.fN (aa (bE (bE (fG (pv 0) (pv 2)) ae) ae) (aa (bE (bE (fG (pv 0) (pv 2)) ae) ae) ag)))))),?_}
 ac_rfl;left;let nz:∀H1,Is H1 (dO dL S.aF) ub->(!decide (ub=V.bP))=S.aF.isSome:=λH1 z=>by
  cases q:S.aF with
  | none=>rw[q] at z;unfold dO Is at z;rw[z];rfl
  | some u=>
   rw[q] at z;cases fg (o:=some u) z with
   | ref hu=>rfl
 refine d5 (decide (V.int (b:Int)=V.int 0)&&S.aF.isSome) ?_ ?_ ?_
 ·intro c Z hz
  rw[c,yW,<-nz H iu] at hz;change hz
 ·intro c;rw[c,yU]
 ·cases qv:(decide (V.int (b:Int)=V.int 0)&&S.aF.isSome) with
  | true=>
   rw[zO] at qv;let b0:b=0:=by have:=V.int.inj (ye qv.1);ext
   cases q:S.aF with
   | none=>rw[q] at qv;cases qv.2
   | some u=>
    rw[q] at iu;cases fg (o:=some u) iu with
    | ref hu=>
     left;refine kk _ _ (au.refl _) ?_;unfold bH.len;rw[q];simp only[b0,vg];exact hu
  | false=>
   let el:S.len b=S.aP b:=by
    unfold bH.len;cases q:S.aF with
    | none=>rfl
    | some u=>
     rw[q] at qv;have:b≠0:=λz=>by rw[z] at qv;simp at qv
     simp only[yN this]
   rw[el,em] at kk;left;refine{bl,us,b,_,rfl,rfl,aH.of hbl,bz (zd ()),?_};rw[ev];left;refine{bl,us,b,_,rfl,rfl,aH.of hbl,bz (zd ()),?_};rw[ev];change{_,_,rfl,(),(),(cu (n:=10) () ()).mono ∅,kk}
inductive sO (vs:List V) (H:Hp) (Q:VK) (E:XK):Prop
 | mk (c many:Int) (pp ip:vE) (ps:List Str) (ins:List (Str×(Int×Int)×(Int×Int))) (iv:List V) (_:vs=[.int c,.ref pp,.ref ip,.int many]) (_:H pp=some (.lst (ps.map V.str))) (_:H ip=some (.lst iv)) (_:aD H (ins.map d7) iv) (_:⇑ps<=100) (_:⇑ins<=100) (_:many<=200) (_:∀(hs:List (Str×List (Int×Str))) D us H',List.Sublist (hs.map (·.1)) ps->(∀x∈hs,Mp (ins.map (·.1)) many x.2)->au H H'->H' D=some (.lst us)->RL (jM D H') hs us->Q (.ref D) H')
def Na {H:Hp} {x:Str×(Int×Int)×(Int×Int)} {v:V} (h:Is H (d7 x) v):∃a t l,v=.ref a/\H a=some (.tup [.str x.1,t,l]):=by
 unfold d7 Is at h;let⟨a,vs,rfl,ha,hl⟩:=h;unfold aD at hl;let⟨v1,r1,rfl,h1,hl⟩:=hl;unfold aD at hl;let⟨v2,r2,rfl,h2,hl⟩:=hl;unfold aD at hl;let⟨v3,r3,rfl,h3,hl⟩:=hl;unfold aD at hl;subst hl;unfold Is at h1;subst h1;exact{(a),v2,v3,rfl,ha}
def tI:df P w base 2 T.kE sO:=by
 nomatch T.kE,["_law_cell","_law_players","_law_instruments","_law_many","_law_holds","_law_k","_law_player","_law_row","_law_bar","_law_j","_law_m"]
 let⟨c,many,pp,ip,ps,ins,iv,rfl,hpp,hip,ili,pl,il0,my,kk⟩:=h;let sl:=yC;let ivl:=aO ili;refine{_,(af (bN 4 qN (aZ ag))
  (af (bY yP rfl (An (by rfl) T.jW (aa (pv 1) ag)) (dA (n:=2) rfl (aM (ia 5 qN) (aM (ia 6 qN) cK)))
  (af (bN 7 qN (aZ ag))
   (af (bN 8 qN ae)
   (af (bY yP rfl (cQ (by rfl) T.cy (aa ae ag)) (ia 9 qN)
   (af (bN 10 qN (bM (bU T) hr T.cB (aa (pv 0) (aa (ax aQ (ax aQ (ax dP ae (pv 5)) (pv 9)) ae) ag))))
    (af (bN 8 qN (ax aQ (pv 8) (ax aR (pv 10) ae)))
    (af (aI (PW.pt (dm (ptr fe (pv 8) (pv 3)) (dm (ptr fq (eA aE T.bG (aa (pv 2) ag)) ae) (cP (ptr fq (ax aR (ax aU (pv 10) ae) ae) ae)))))
    (ak (bu (bJ yD yF yE bB (pv 7) (aa (bF (aa (pv 8) (aa (bE (fG (pv 2) (ax aR (ax aU (pv 10) ae) (eA aE T.bG (aa (pv 2) ag)))) ae) ag))) ag))))
    aA)
    (ak (bN 8 qN (ax aQ (pv 8) ae)))))))
   (ak (aI (ptr (Bu hr.units) (pv 7) (aZ ag))
   (ak (bu (bJ yD yF yE bB (pv 4) (aa (bF (aa (pv 6) (aa (pv 7) ag))) ag))))
   aA))))))
  (ak (aq (pv 4))))),?_}
 ac_rfl;left
 intros D nD s2 h2 H2
 exists pp,_,rfl,aH.of (s2 _ _ hpp),?_;refine rN (K:=K) (a:=pp) (xs:=ps.map V.str) (λi U H'=>∃(hs:List (Str×List (Int×Str))) (us:List V),Lo [some (.int c),some (.ref pp),some (.ref ip),some (.int many),some (.ref D)] 6 U/\au H H'/\H' D=some (.lst us)/\RL (jM D H') hs us/\List.Sublist (hs.map (·.1)) (ps.take i)/\(∀x∈hs,Mp (ins.map (·.1)) many x.2)/\⇑hs<=i)
  {[],[],Lo.of rfl rfl,s2,h2,rfl,List.nil_sublist _,by simp,zm _} (λi U H' _ h=>by let⟨_,_,_,z,_⟩:=h;exact aH.of (z _ _ hpp)) ?_ ?_
 ·intro i x U H3 p H4 hx hh s34 hp4
  refine dH λN kN0 kR0 _ _=>?_;let⟨hs,us,⟨e,rfl⟩,s3,h3,rl3,sub,vI,hl⟩:=hh;rw[zK] at hx;cases qr:ps[i]? with
  | none=>rw[qr] at hx;cases hx
  | some pn=>
  rw[qr] at hx;simp only[xo,xP] at hx;subst hx;refine{p,_,rfl,cW.of hp4,rfl,?_};refine{_,_,rfl,{_,_,rfl,{rfl,?_}}};left
  intros R nR s5 h5 H5
  exists by decide,(by decide),?_
  refine gB (λj U H'=>∃(row:List (Int×Str)) (ws:List V) (bar:Int) (v9 va:Option V),U=[some (.int c),some (.ref pp),some (.ref ip),some (.int many),some (.ref D),some (.int (i:Int)),some (.str pn),some (.ref R),some (.int bar),v9,va]/\au H4 H'/\H' R=some (.lst ws)/\aD H' (row.map Mg) ws/\0<=bar/\⇑row<=j/\(row.map (·.1)).Pairwise (·<·)/\
   ∀h∈row,0<=h.1/\h.1<many/\h.2∈ins.map (·.1)/\h.1<bar) {[],[],0,e 4,e 5,rfl,s5,h5,cD,∅,by simp,by simp,by simp} ?_ ?_
  ·intro j U H6 hj hh
   refine dH λN kN1 kR1 _ _=>?_;let⟨row,ws,bar,v9,va,rfl,s6,h6,il6,b0,rl,asc,rin⟩:=hh;let s06:=(s3.trans s34).trans s6;left;let ib:i<⇑ps:=(zy.mp qr).1;refine{c,_,rfl,(),(),?_};let m0:0<=mixed c (7*(i:Int)+(0+(j:Int))+60):=zw _ ∅;let m1:mixed c (7*(i:Int)+(0+(j:Int))+60)<2147483399:=zt _ ∅;generalize mixed c (7*(i:Int)+(0+(j:Int))+60)=m at m0 m1;let a0:0<=m%5:=zw _ ∅;left;let hip6:=s06 _ _ hip;refine d5 (decide (bar+m%5<many)&&(decide (0<(⇑ins:Int))&&decide (0<m/5%3))) ?_ ?_ ?_
   ·intro c1 Z hz
    rw[c1,yW] at hz;exists ip,iv,rfl,.inl (aH.of hip6),?_;rw[ivl];left;refine d5 (decide (0<(⇑ins:Int))&&decide (0<m/5%3)) ?_ ?_ hz
    ·intro c2 Z hz
     rw[c2,yW] at hz;change hz
    ·intro c2;rw[c2,yU]
   ·intro c1;rw[c1,yU]
   refine join (λU H'=>∃(row:List (Int×Str)) (ws:List V),U=[some (.int c),some (.ref pp),some (.ref ip),some (.int many),some (.ref D),some (.int (i:Int)),some (.str pn),some (.ref R),some (.int (bar+m%5)),some (.int (0+(j:Int))),some (.int m)]/\au H4 H'/\H' R=some (.lst ws)/\aD H' (row.map Mg) ws/\⇑row<=j+1/\(row.map (·.1)).Pairwise (·<·)/\
    ∀h∈row,0<=h.1/\h.1<many/\h.2∈ins.map (·.1)/\h.1<bar+m%5+1) (λN hN c1=>?_) (λN hN c1=>?_) ?_
   ·simp only[zO,xF] at c1
    let⟨c1,c2,c3⟩:=c1;let d0:0<=m/15%(⇑ins:Int):=zw _ ();let d1:m/15%(⇑ins:Int)<⇑ins:=zt _ ();obtain⟨jj,hjj⟩:∃jj:Nat,m/15%(⇑ins:Int)=(jj:Int):={(m/15%(⇑ins:Int)).toNat,()}
    let⟨nx,hnx,inx⟩:=cV (d:=d7) (ili.mono s06) (i:=jj) (zd ());let⟨ai,ti,li,ea,hai⟩:=Na inx;exists .inl {rfl,_,aH.of h6},?_;exists ip,iv,rfl,.inl (aH.of hip6),?_;rw[ivl];exists by show 0<(⇑ins:Int);ext,?_
    refine{ip,iv,_,_,rfl,rfl,aH.of hip6,(by rw[hjj];exact bz (zd ())),?_};rw[ea];exists cM,?_;intros p7 H7 s7 h7;refine{R,ws,_,rfl,rfl,s7 _ _ h6,(by have:=aO il6;ext),?_};left;let nt:cg (H7 R):=by rw[s7 _ _ h6];exact λ_ z=>by cases z
    refine hN _ _ {row++[(bar+m%5,nx.1)],_,rfl,bj nR (s6.trans s7),aB,?_,by rw[zh];simp;ext,?_,λh hh=>?_}
    ·rw[zk]
     exact de (Is.upd nt (cz h7 (aN cE (aN eJ cD)))) (aD.upd nt (il6.mono s7))
    ·rw[zk,zU]
     refine{asc,by simp,λx hx y hy=>?_};let⟨h',hh',rfl⟩:=zH.mp hx;let ey:y=bar+m%5:=by simpa using hy
     have:=(rin h' hh').2.2.2;ext
    ·rcases zG.mp hh with z | z
     ·have:=rin h z
      exact{(this.1),this.2.1,this.2.2.1,()}
     ·rw[zA.mp z]
      exact{by show 0<=bar+m%5;ext,c1,zP (f:=λx:Str×(Int×Int)×(Int×Int)=>x.1) (zC hnx),by show bar+m%5<bar+m%5+1;ext}
   ·left
    refine hN _ _ {row,ws,rfl,s6,h6,il6,(),asc,λh hh=>?_};have:=rin h hh;exact{(this.1),this.2.1,this.2.2.1,()}
   rintro σ7 H7 ⟨row,ws,rfl,s7,h7,il7,rl7,asc7,rin7⟩;change{row,ws,bar+m%5+1,_,_,rfl,s7,h7,il7,(),rl7,asc7,rin7}
  ·rintro U H6 ⟨row,ws,bar,v9,va,rfl,s6,h6,il6,b0,rl,asc,rin⟩
   let s06:=(s3.trans s34).trans s6;let h36:=s6 _ _ (s34 _ _ h3);let rl6:RL (jM D H6) hs us:=rl3.imp λx v z=>(z.mono s34).mono s6;let ne:R≠D:=λz=>by rw[z,s34 _ _ h3] at nR;cases nR
   let ib:i<⇑ps:=(zy.mp qr).1;let tk:ps.take (i+1)=ps.take i++[pn]:=cm qr;exists by show 0<=sizeLine;ext,?_
   intros p7 H7 s7 h7;refine{R,p7,ws,[],rfl,rfl,.inl {aH.of (s7 _ _ h6),aH.of h7},.inr (.inl rfl),?_};let wr:=aO il6;let s07:=s06.trans s7
   by_cases e:ws=[]
   ·rw[zg e]
    left;refine{hs,us,Lo.of rfl rfl,s07,s7 _ _ h36,rl6.imp λx v z=>z.mono s7,?_,vI,()};rw[tk];exact sub.trans (List.sublist_append_left _ _)
   ·rw[ze e]
    let rne:row≠[]:=λz=>e (by rw[z] at wr;exact yt.mp wr);exists .inl {rfl,_,aH.of (s7 _ _ h36)},?_;exists cM,?_;intros p8 H8 s8 h8;let s78:=s7.trans s8;let h38:=s78 _ _ h36;refine{D,us,_,rfl,rfl,h38,by have:=rl3.len;ext,?_};left;refine{hs++[(pn,row)],_,Lo.of rfl rfl,bj nD (s06.trans s78),aB,?_,?_,λx hx=>?_,by rw[zh];simp;ext}
    ·refine RL.snoc ?_ (rl6.imp λx v z=>(z.mono s78).upd h38)
     exact jM.upd h38 {p8,R,ws,rfl,h8,s78 _ _ h6,il6.mono s78,ne}
    ·rw[zk,tk]
     exact sub.append (List.Sublist.refl _)
    ·rcases zG.mp hx with z | z
     ·exact vI x z
     ·rw[zA.mp z]
      exact{rne,rl,asc,λh hh=>{(rin h hh).1,(rin h hh).2.1,(rin h hh).2.2.1}}
 ·rintro U H3 ⟨hs,us,⟨e,rfl⟩,s3,h3,rl3,sub,vI,hl⟩
  rw[za,zN] at sub;change kk hs D us H3 sub vI s3 h3 rl3
def GW (S:bH) (ns:List ((Int×Str)×List Item)):Prop:=(ns.map (·.1)).Nodup/\∀x∈ns,0<=x.1.1/\x.1.1<⇑S.aG/\x.1.2∈S.players/\GY x.2 (S.len x.1.1.toNat)
inductive sL (vs:List V) (H:Hp) (Q:VK) (E:XK):Prop
 | mk (c:Int) (pp bl:vE) (S:bH) (bv:List V) (ub:V) (_:vs=[.int c,.ref pp,.ref bl,ub]) (_:H pp=some (.lst (S.players.map V.str))) (_:H bl=some (.lst bv)) (_:aD H (S.aG.map kX) bv) (_:Is H (dO dL S.aF) ub) (_:⇑S.players<=9) (_:S.players.Nodup) (_:⇑S.aG<=200) (_:(∀x∈S.aG,N4 x)) (_:(∀b:Nat,b<⇑S.aG->Lu (S.len b))) (_:∀(ns:List ((Int×Str)×List Item)) D us H',GW S ns->⇑ns<=9*⇑S.aG->au H H'->H' D=some (.lst us)->RL (iB D H') ns us->Q (.ref D) H')
def tG:df P w base 3 T.kC sL:=by
 nomatch T.kC,["_law_cell","_law_players","_law_bars","_law_upbeat","_law_notes","_law_bar","_law_k","_law_player","_law_m","_law_often","_law_run"]
 let⟨c,pp,bl,S,bv,ub,rfl,hpp,hbl,ilb,iub,pl,pnd,bl2,AB,lok,kk⟩:=h;let sl:=yC;let bvl:=aO ilb;refine{_,(af (bN 4 qN (aZ ag))
  (af (bY yP rfl (cQ (by rfl) T.cy (aa (eA aE T.bG (aa (pv 2) ag)) ag)) (ia 5 qN)
  (ak (bY yP rfl (An (by rfl) T.jW (aa (pv 1) ag)) (dA (n:=2) rfl (aM (ia 6 qN) (aM (ia 7 qN) cK)))
   (af (bN 8 qN (bM (bU T) hr T.cB (aa (pv 0) (aa (ax aQ (ax aQ (ax dP ae (pv 6)) (pv 5)) ae) ag))))
    (af (bN 9 qN (ax aR (bM (bU T) hr T.cB (aa (pv 0) (aa (ax aQ (pv 6) ae) ag))) ae))
    (af (bN 10 qN (ax aR (bM (bU T) hr T.cB (aa (pv 0) (aa (ax aQ (ax aQ (ax dP ae (pv 6)) (ax aU (pv 5) ae)) ae) ag))) ae))
    (ak (aI (PW.pt (dm (ptr fX (ax aR (pv 8) ae) (pv 9)) (cP (ptr fq (pv 10) ae))))
    (ak (bu (bJ yD yF yE bB (pv 4) (aa (bF (aa (pv 5) (aa (pv 7) (aa (bM (tH T) hr T.kD (aa (ax aU (pv 8) ae) (aa (bM (rB T) hr T.jI (aa (pv 2) (aa (pv 3) (aa (pv 5) ag)))) ag))) ag)))) ag))))
    aA))))))))
  (ak (aq (pv 4))))),?_}
 ac_rfl;left
 intros D nD s2 h2 H2
 exists bl,bv,rfl,.inl (aH.of (s2 _ _ hbl)),?_;rw[bvl];exists by ext,(),?_
 rw[show((⇑S.aG:Int)).toNat=⇑S.aG from by ext];refine gB (λi U H'=>∃(ns:List ((Int×Str)×List Item)) (us:List V),Lo [some (.int c),some (.ref pp),some (.ref bl),some ub,some (.ref D)] 6 U/\au H H'/\H' D=some (.lst us)/\RL (iB D H') ns us/\GW S ns/\(∀x∈ns,x.1.1<i)/\⇑ns<=9*i)
  {[],[],Lo.of rfl rfl,s2,h2,rfl,{by simp,by simp},by simp,by simp} ?_ ?_
 ·intro i U H3 hi hh
  refine dH λN kN0 kR0 _ _=>?_;let⟨ns,us,⟨e,rfl⟩,s3,h3,rl3,nok,nlt,nl⟩:=hh;exists pp,_,rfl,aH.of (s3 _ _ hpp),?_;refine rN (K:=K) (a:=pp) (xs:=S.players.map V.str) (λj U H'=>∃(ns:List ((Int×Str)×List Item)) (us:List V),Lo [some (.int c),some (.ref pp),some (.ref bl),some ub,some (.ref D),some (.int (0+(i:Int)))] 5 U/\au H H'/\H' D=some (.lst us)/\RL (iB D H') ns us/\GW S ns/\(∀x∈ns,x.1.1<i\/(x.1.1=i/\x.1.2∈S.players.take j))/\⇑ns<=9*i+j)
   {ns,us,Lo.of rfl rfl,s3,h3,rl3,nok,λx hx=>.inl (nlt x hx),()} (λi U H' _ h=>by let⟨_,_,_,z,_⟩:=h;exact aH.of (z _ _ hpp)) ?_ ?_
  ·intro j x U H4 p H5 hx hh s45 hp5
   refine dH λN kN1 kR1 _ _=>?_;let⟨ns,us,⟨e,rfl⟩,s4,h4,rl4,nok,nlt,nl⟩:=hh;rw[zK] at hx;cases qr:S.players[j]? with
   | none=>rw[qr] at hx;cases hx
   | some pn=>
   rw[qr] at hx;simp only[xo,xP] at hx;subst hx;let jb:j<⇑S.players:=(zy.mp qr).1;let s05:=s4.trans s45;let h45:=s45 _ _ h4;let rl5:RL (iB D H5) ns us:=rl4.imp λx v z=>z.mono s45;let tk:S.players.take (j+1)=S.players.take j++[pn]:=cm qr;refine{p,_,rfl,cW.of hp5,rfl,?_};refine{_,_,rfl,{_,_,rfl,{rfl,?_}}};exists c,_,rfl,(),(),?_;let m0:0<=mixed c (97*(j:Int)+(0+(i:Int))+100):=zw _ ∅;let m1:mixed c (97*(j:Int)+(0+(i:Int))+100)<2147483399:=zt _ ∅;generalize mixed c (97*(j:Int)+(0+(i:Int))+100)=m at m0 m1;exists c,_,rfl,(),(),?_;left;refine{c,_,rfl,?_,?_,?_}
   ·have:=zW (a:=0+(i:Int)) (b:=4) () ∅;ext
   ·have:=zX (a:=0+(i:Int)) 4 ();ext
   generalize mixed c (31*(j:Int)+(0+(i:Int))/4+400)=m3;generalize mixed c ((j:Int)+90)=m2;left;refine d5 (decide (m%6<=m2%5)&&decide (0<m3%3)) ?_ ?_ ?_
   ·intro c1 Z hz
    rw[c1,yW] at hz;change hz
   ·intro c1;rw[c1,yU]
   cases qv:(decide (m%6<=m2%5)&&decide (0<m3%3)) with
   | true=>
    exists .inl {rfl,_,aH.of h45},?_;exists bl,bv,S,ub,i,(by simp),s05 _ _ hbl,ilb.mono s05,iub.mono s05,hi,AB,λp6 H6 s6 h6=>?_;refine{_,_,p6,rfl,h6,zW m0 ∅,?_,lok i hi,λits p7 ws H7 iok s7 n7 h7 il7=>?_}
    ·have:=zX (a:=m) 6 m0;ext
    let s57:=s6.trans s7;let ne:p7≠D:=λz=>by rw[z,s6 _ _ h45] at n7;cases n7
    exists nF,?_;intros p8 H8 s8 h8;let s58:=s57.trans s8;let h48:=s58 _ _ h45;refine{D,us,_,rfl,rfl,h48,by have:=rl4.len;ext,?_};left;let fr:((0+(i:Int),pn):Int×Str)∉ns.map (·.1):=λz=>by
     let⟨y,hy,ey⟩:=zH.mp z;rcases nlt y hy with q | ⟨_,q2⟩
     ·rw[ey] at q;dsimp only at q;ext
     ·rw[ey] at q2
      dsimp only at q2;let nd:=List.Nodup.sublist (List.take_sublist (j+1) S.players) pnd;rw[tk,zT] at nd;exact nd.2.2 pn q2 pn (zA.mpr rfl) rfl
    refine{ns++[((0+(i:Int),pn),its)],_,Lo.of rfl rfl,bj nD (s05.trans s58),aB,?_,{?_,λx hx=>?_},λx hx=>?_,by rw[zh];simp;ext}
    ·refine RL.snoc ?_ (rl5.imp λx v z=>(z.mono s58).upd h48)
     exact iB.upd h48 {p8,p7,ws,rfl,h8,s8 _ _ h7,il7.mono s8,ne}
    ·rw[zk,zT]
     exact{nok.1,by simp,λx hx y hy e=>by
      have:y=(0+(i:Int),pn):=by simpa using hy
      rw[<-e] at this;exact fr (this▸hx)}
    ·rcases zG.mp hx with z | z
     ·exact nok.2 x z
     ·rw[zA.mp z]
      refine{by show 0<=0+(i:Int);ext,by show 0+(i:Int)<⇑S.aG;ext,zC qr,?_};show GY its (S.len (0+(i:Int)).toNat);rw[show(0+(i:Int)).toNat=i from by ext];exact iok
    ·rcases zG.mp hx with z | z
     ·rcases nlt x z with q | ⟨q1,q2⟩
      ·exact .inl q
      ·exact .inr {q1,by rw[tk];exact zJ _ q2}
     ·rw[zA.mp z]
      exact .inr {by show 0+(i:Int)=i;ext,by rw[tk];exact zI _ (zA.mpr rfl)}
   | false=>
    left;refine{ns,us,Lo.of rfl rfl,s05,h45,rl5,nok,λx hx=>?_,()};rcases nlt x hx with z | ⟨z1,z2⟩
    ·exact .inl z
    ·exact .inr {z1,by rw[tk];exact zJ _ z2}
  ·rintro U H4 ⟨ns,us,⟨e,rfl⟩,s4,h4,rl4,nok,nlt,nl⟩
   rw[za] at nlt nl;left;refine{ns,us,Lo.of rfl rfl,s4,h4,rl4,nok,λx hx=>?_,()};rcases nlt x hx with z | ⟨z1,z2⟩
   ·ext
   ·ext
 ·rintro U H3 ⟨ns,us,⟨e,rfl⟩,s3,h3,rl3,nok,nlt,nl⟩
  change kk ns D us H3 nok () s3 h3 rl3
def VN (ins:List (Str×(Int×Int)×(Int×Int))):Prop:=⇑ins<=3/\CD (ins.map (·.1))/\∀x∈ins,QE x.2.1/\-12<=x.2.1.1/\x.2.1.1<=12/\Lm.Rd x.2.2/\x.2.2.1<10000/\x.2.2.2<10000
def J5 (n:Int):QE (n%25-12,7*(n%25-12)%12+12*(n/25%5-2))/\-12<=n%25-12/\n%25-12<=12:=by
 let a:=zw n (b:=25) ∅;let b:=zt n (b:=25) ∅;let c:=zw (n/25) (b:=5) ∅;let d:=zt (n/25) (b:=5) ∅;unfold QE;dsimp only;ext
def lB:Sp:=λvs H Q _=>∃(c:Int),vs=[.int c]/\∀(ins:List (Str×(Int×Int)×(Int×Int))) D us H',VN ins->au H H'->H' D=some (.lst us)->aD H' (ins.map d7) us->Q (.ref D) H'
def lO:df P w base 2 T.fi lB:=by
 nomatch T.fi,["_law_cell","_law_m","_law_instruments","_law_k","_law_name","_law_n","_law_df","_law_turn"]
 let⟨c,rfl,kk⟩:=h;let sl:=yC;refine{_,(af (bN 1 qN (bM (bU T) hr T.cB (aa (pv 0) (aa ae ag))))
  (af (bN 2 qN (aZ ag))
  (af (bY yP rfl (An (by rfl) T.jW (aa (bM (eW T) hr T.d6 (aa (ax aU (pv 1) ae) (aa (ax aR (pv 1) ae) ag))) ag)) (dA (n:=2) rfl (aM (ia 3 qN) (aM (ia 4 qN) cK)))
  (af (bN 5 qN (bM (bU T) hr T.cB (aa (pv 0) (aa (ax aQ (pv 3) ae) ag))))
   (af (bN 6 qN (ax jt (ax aR (pv 5) ae) ae))
   (af (bN 7 qN (bF (aa (pv 6) (aa (ax aQ (ax aR (ax dP ae (pv 6)) ae) (ax dP ae (ax jt (ax aR (ax aU (pv 5) ae) ae) ae))) ag))))
   (ak (bu (bJ yD yF yE bB (pv 2) (aa (bF (aa (pv 4) (aa (pv 7) (aa (bM (fY T) hr T.fN (aa (ax aR (ax aU (pv 5) ae) ae) (aa (fG (aZ (aa ae (aa ae (aa ae (aa ae (aa ae ag)))))) (ax aR (ax aU (pv 5) ae) ae)) ag))) ag)))) ag))))))))
  (ak (aq (pv 2)))))),?_}
 ac_rfl;exists c,8,rfl,(),(),?_;let m0:0<=mixed c 8:=zw _ ∅;let m1:mixed c 8<2147483399:=zt _ ∅;generalize mixed c 8=m at m0 m1;let a0:0<=m%4:=zw _ ∅;let a1:m%4<4:=zt _ ∅;left
 intros D nD s2 h2 H2
 left;refine{_,_,rfl,zW m0 ∅,?_,a0,(),λnms pn H3 nl nok s3 h3=>?_}
 ·have:=zX (a:=m) 4 m0;ext
 exists pn,_,rfl,aH.of h3,?_;let nl3:⇑nms<=3:=()
 refine rN (K:=K) (a:=pn) (xs:=nms.map V.str) (λi U H'=>∃(ins:List (Str×(Int×Int)×(Int×Int))) (us:List V),Lo [some (.int c),some (.int m),some (.ref D)] 5 U/\au H H'/\H' pn=some (.lst (nms.map V.str))/\H' D=some (.lst us)/\aD H' (ins.map d7) us/\ins.map (·.1)=nms.take i/\
  ∀x∈ins,QE x.2.1/\-12<=x.2.1.1/\x.2.1.1<=12/\Lm.Rd x.2.2/\x.2.2.1<10000/\x.2.2.2<10000)
  {[],[],Lo.of rfl rfl,s2.trans s3,h3,s3 _ _ h2,cD,rfl,by simp} (λi U H' _ h=>by let⟨_,_,_,_,z,_⟩:=h;exact aH.of z) ?_ ?_
 ·intro i x U H4 p H5 hx hh s45 hp5
  refine dH λN kN0 kR0 _ _=>?_;let⟨ins,us,⟨e,rfl⟩,s4,hpn4,h4,il4,ek,iok⟩:=hh;rw[zK] at hx;cases qr:nms[i]? with
  | none=>rw[qr] at hx;cases hx
  | some nm=>
  rw[qr] at hx;simp only[xo,xP] at hx;subst hx;let ib:i<⇑nms:=(zy.mp qr).1;let h45:=s45 _ _ h4;let tk:nms.take (i+1)=nms.take i++[nm]:=cm qr;let nepn:pn≠D:=λz=>by
   let q:=h3;rw[z,s3 _ _ h2] at q;let e:([]:List V)=nms.map V.str:=HO.lst.inj (yk q);have:⇑nms=0:=by rw[<-za (f:=V.str),<-e];rfl
   ext
  refine{p,_,rfl,cW.of hp5,rfl,?_};refine{_,_,rfl,{_,_,rfl,{rfl,?_}}};exists c,_,rfl,(),(),?_;let n0:0<=mixed c ((i:Int)+530):=zw _ ∅;let n1:mixed c ((i:Int)+530)<2147483399:=zt _ ∅;generalize mixed c ((i:Int)+530)=n at n0 n1;exists cM,?_;intros p6 H6 s6 h6;let h46:=s6 _ _ h45;exists .inl {rfl,_,aH.of h46},?_;exists by show 5<=sizeLine;ext,?_
  intros p7 H7 s7 h7;let g0:0<=n/1125%5:=zw _ ∅;let g1:n/1125%5<5:=zt _ ∅;let t0:0<=n/125%9:=zw _ ∅;let t1:n/125%9<9:=zt _ ∅;obtain⟨jj,hjj⟩:∃j:Nat,n/1125%5=(j:Int):={(n/1125%5).toNat,()}
  obtain⟨z,hz,z0,z1⟩:∃z:Int,[V.int 1,V.int 2,V.int 4,V.int 8,V.int 3][jj]?=some (.int z)/\0<z/\z<=8:=by
   have:jj<5:=()
   match jj,this with
   | 0,_=>exact{1,rfl,∅,∅}
   | 1,_=>exact{2,rfl,∅,∅}
   | 2,_=>exact{4,rfl,∅,∅}
   | 3,_=>exact{8,rfl,∅,∅}
   | 4,_=>exact{3,rfl,∅,∅}
  exists p7,_,n/1125%5,.int z,rfl,rfl,aH.of h7,(by rw[hjj];exact bz hz),?_;exists _,_,rfl,t0,z0,(cu (n:=10) () ()).mono ∅,λp8 H8 s8 h8=>?_;exists nF,?_;intros p9 H9 s9 h9;let s59:=((s6.trans s7).trans s8).trans s9;let h49:=s59 _ _ h45;refine{D,us,_,rfl,rfl,h49,?_,?_}
  ·let e1:=aO il4
   let e2:⇑ins=⇑(nms.take i):=by rw[<-ek,za]
   rw[zQ] at e2;ext
  left;let nt:cg (H9 D):=by rw[h49];exact λ_ z=>by cases z
  let rb:=jh (t:=n/125%9) z0;let rle:=Bk (t:=n/125%9) (b:=z) t0;let⟨td1,td2,td3⟩:=J5 n;let ix:Is H9 (d7 (nm,(n%25-12,7*(n%25-12)%12+12*(n/25%5-2)),red (n/125%9) z)) (.ref p9):=cz h9 (aN eJ (aN (iM (((s7.trans s8).trans s9) _ _ h6)) (aN (iM (s9 _ _ h8)) cD)));refine{ins++[(nm,(n%25-12,7*(n%25-12)%12+12*(n/25%5-2)),red (n/125%9) z)],_,Lo.of rfl rfl,bj nD ((s4.trans s45).trans s59),by rw[aC nepn];exact s59 _ _ (s45 _ _ hpn4),aB,?_,?_,λx hx=>?_}
  ·rw[zk]
   exact de (Is.upd nt ix) (aD.upd nt ((il4.mono s45).mono s59))
  ·rw[zk,ek,tk];rfl
  ·rcases zG.mp hx with y | y
   ·exact iok x y
   ·rw[zA.mp y]
    let⟨_,_,_,_,_,r5⟩:=rb;exact{td1,td2,td3,Lm.Rd.of t0 z0,by show(red (n/125%9) z).1<10000;ext,by show(red (n/125%9) z).2<10000;ext}
 ·rintro U H4 ⟨ins,us,⟨e,rfl⟩,s4,hpn4,h4,il4,ek,iok⟩
  rw[za,zN] at ek;change kk ins D us H4 {by rw[<-za (f:=λx:Str×(Int×Int)×(Int×Int)=>x.1),ek];exact nl3,by rw[ek];exact nok,iok} s4 h4 il4
inductive oQ (vs:List V) (H:Hp) (Q:VK) (E:XK):Prop
 | mk (q:vE) (x:Int×Int) (_:vs=[.ref q]) (_:H q=some (jL x)) (_:0<=x.1) (_:x.1<10000) (_:0<x.2) (_:x.2<10000) (_:Q (.str (iK x)) H)
def dF:df P w base 1 T.dk oQ:=by
 nomatch T.dk,["_law_length"]
 let⟨q,x,rfl,hq,x1,x2,x3,x4,kk⟩:=h;let sl:=yC;let a:=bD (n:=x.1) () x2;let b:=bD (n:=x.2) () x4;let na:=bT (n:=x.1) () x2;let nb:=bT (n:=x.2) () x4;let l1:("/": Str).length=1:=rfl;refine{_,(af (aI (ptr cZ (bE (pv 0) ae) ae)
  (ak (aq (mS aV T.fw (aa (bE (pv 0) ae) ag))))
  aA)
  (ak (aq (ax bZ (ax bZ (mS aV T.fw (aa (bE (pv 0) ae) ag)) aL) (mS aV T.fw (aa (bE (pv 0) ae) ag)))))),?_}
 ac_rfl;left
 by_cases c:x.2=1
 ·refine bR (by rw[c];rfl) ?_
  exists na,?_;left;unfold iK at kk;rw[yO c] at kk;exact kk
 ·refine bX (ze λz=>c (V.int.inj z)) ?_
  unfold iK at kk;rw[yN c] at kk;exists na,?_;exists by show(dec x.1).length+_<=_;ext,?_
  exists nb,?_;exists by show(dec x.1 ++"/").length+⇑(dec x.2)<=_;rw[len_app];ext,?_
  exact kk
inductive jP (vs:List V) (H:Hp) (Q:VK) (E:XK):Prop
 | mk (v:V) (it:Item) (_:vs=[v]) (_:Is H (eM it) v) (_:N0 it) (_:Q (.str (pV it)) H)
def PF {H:Hp} {it:Item} {v:V} (h:Is H (eM it) v):∃a q b,v=.ref a/\H a=some (.tup [q,.ref b])/\Is H (dO dL it.1) q/\H b=some (jL it.2):=by
 unfold eM Is at h;let⟨a,vs,rfl,ha,hl⟩:=h;unfold aD at hl;let⟨v1,r1,rfl,h1,hl⟩:=hl;unfold aD at hl;let⟨v2,r2,rfl,h2,hl⟩:=hl;unfold aD at hl;subst hl;cases fg (o:=some it.2) h2 with
 | ref hb=>exact{a,v1,_,rfl,ha,h1,hb}
def rC:df P w base 2 T.jJ jP:=by
 nomatch T.jJ,["_law_item"]
 let⟨v,⟨o,x⟩,rfl,iv,iok,kk⟩:=h;let sl:=yC;let⟨a,q,b,rfl,ha,iq,hb⟩:=PF iv;let⟨⟨hr',h1,h2,h3⟩,hq⟩:=id iok;let⟨_,p2,_⟩:=hr'.pos;let lx:=kL (x:=x) (by have:=h1;dsimp only at this;ext) h2 (by have:=p2;dsimp only at this;ext) h3;dsimp only at h1 h2 h3 p2 hq hb iq;refine{_,(af (aI (bw (cx (bE (pv 0) ae)))
  (ak (aq (ax bZ aL (bM (dF T) hr T.dk (aa (bE (pv 0) ae) ag)))))
  aA)
  (ak (aq (ax bZ (ax bZ (ax bZ (ax bZ (mS aV T.fw (aa (bE (bE (pv 0) ae) ae) ag)) aL) (mS aV T.fw (aa (bE (bE (pv 0) ae) ae) ag))) aL) (bM (dF T) hr T.dk (aa (bE (pv 0) ae) ag)))))),?_}
 ac_rfl;left;cases o with
 | none=>
  unfold dO Is at iq;subst iq;exists b,x,rfl,hb,(),h2,p2,h3,?_;let l2:("r:": Str).length=2:=rfl;refine{_,_,rfl,rfl,(),?_};exact kk
 | some pq=>
  let⟨q1,q2,q3,q4,_⟩:=hq pq rfl;let la:=bD (n:=pq.1) () ();let lb:=bD (n:=pq.2) () ();let na:=bT (n:=pq.1) () ();let nb:=bT (n:=pq.2) () ();cases fg (o:=some pq) iq with
  | ref hpq=>
   let l1:(":": Str).length=1:=rfl;exists na,?_;exists by show(dec pq.1).length+_<=_;ext,?_
   exists nb,?_;exists by show(dec pq.1 ++":").length+⇑(dec pq.2)<=_;rw[len_app];ext,?_
   exists by show(dec pq.1 ++":" ++ dec pq.2).length+_<=_;rw[len_app,len_app];ext,?_
   exists b,x,rfl,hb,(),h2,p2,h3,?_;refine{_,_,rfl,rfl,by show(dec pq.1 ++":" ++ dec pq.2 ++":").length+_<=_;rw[len_app,len_app,len_app];ext,?_};exact kk
inductive iD (vs:List V) (H:Hp) (Q:VK) (E:XK):Prop
 | mk (v:V) (r:Rep) (_:vs=[v]) (_:Is H (gF r) v) (_:NY r) (_:∀H',au H H'->Q (.str (rowOf (.rep r))) H')
noncomputable def w4 (r:Rep):List Str:=["repeat",dec r.first,dec r.last,dec r.times]
def oS:df P w base 1 T.gI iD:=by
 nomatch T.gI,["_law_repeat","_law_words","_law_begin","_law_passes"]
 let⟨v,r,rfl,iv,⟨⟨f1,f2,f3,f4,f5⟩,el,pl⟩,kk⟩:=h;let sl:=yC;let⟨a,ep,rfl,ha,ie⟩:=dz iv;obtain⟨ep',evs,e0,hep,ile⟩:∃ep' evs,V.ref ep=.ref ep'/\H ep'=some (.tup evs)/\aD H (r.ends.map mX) evs:=by unfold Is at ie;exact ie
 cases e0;let evl:=aO ile;let n1:=bT (n:=r.first) (by have:=f1.1;ext) (by have:=f1.2;ext);let n2:=bT (n:=r.last) (by have:=f2.1;ext) (by have:=f2.2;ext);let n3:=bT (n:=r.times) () ();refine{_,(af (bN 1 qN (aZ (aa aL (aa (mS aV T.fw (aa (bE (pv 0) ae) ag)) (aa (mS aV T.fw (aa (bE (pv 0) ae) ag)) (aa (mS aV T.fw (aa (bE (pv 0) ae) ag)) ag))))))
  (af (bY yP rfl (jr (bE (pv 0) ae)) (dA (n:=2) rfl (aM (ia 2 qN) (aM (ia 3 qN) cK)))
  (ak (bu (bJ yD yF yE bB (pv 1) (aa (ax bZ (ax bZ (mS aV T.fw (aa (pv 2) ag)) aL) (bJ yG yI yH gL aL (aa (nM (ts:=["_law_one"]) (ys:=[]) (js:=[]) (te:=(LI Vb (bI (aW 0) dY))) (jr (pv 3)) (gr 0) bx (mS aV T.fw (aa (pv 0) ag))) ag))) ag)))))
  (ak (aq (bJ yG yI yH gL aL (aa (pv 1) ag)))))),?_}
 ac_rfl;exists n1,?_;exists n2,?_;exists n3,?_;exists by show 4<=sizeLine;ext,?_
 intro W nW;generalize hU:upd H W _=H2;let s2:au H H2:=by rw[<-hU];exact aY nW
 let h2:H2 W=some (.lst ((w4 r).map V.str)):=by rw[<-hU];exact aB
 clear hU;let ha2:=s2 _ _ ha;exists{_,cW.of (s2 _ _ hep)},?_;refine L7 (K:=K) (a:=ep) (xs:=evs) (λi U H'=>∃(v2 v3:Option V),U=[some (.ref a),some (.ref W),v2,v3]/\au H H'/\H' W=some (.lst ((w4 r++(r.ends.take i).map oV).map V.str))) {none,none,rfl,s2,by rw[wJ,yn,zV];exact h2} (λi U H' _ h=>by let⟨_,_,_,z,_⟩:=h;exact cW.of (z _ _ hep)) ?_ ?_
 ·intro i x U H3 hx hh
  refine dH λN kN0 kR0 _ _=>?_;let⟨v2,v3,rfl,s3,h3⟩:=hh;let⟨e,he,ie⟩:=cV ile hx;let⟨b,q,rfl,hb,hq⟩:=pX ie;let eo:=f5 e (zC he);let pe:=pl e (zC he);let hb3:=s3 _ _ hb;let tk:r.ends.take (i+1)=r.ends.take i++[e]:=cm he;let ib:i<⇑r.ends:=(zy.mp he).1;let nb:=bT (n:=e.1) (by have:=eo.1;ext) (by have:=eo.2.1;ext);let lb:=bD (n:=e.1) (by have:=eo.1;ext) (by have:=eo.2.1;ext);refine{b,_,rfl,cW.of hb3,rfl,?_};refine{_,_,rfl,{_,_,rfl,{rfl,?_}}};exists .inl {rfl,_,aH.of h3},?_;exists nb,?_;exists by show(dec e.1).length+(":": Str).length<=_;have:(":": Str).length=1:=rfl;ext,?_
  exists{_,cW.of (s3 _ _ hq)},?_;refine gG (enc:=V.int) (ws:=e.2) (λz=>.str (dec z)) (λU=>∃v,U=[v]) () (s3 _ _ hq) {(none),rfl} ?_ ?_
  ·rintro z U H4 R hz s4 ⟨_,rfl⟩ rr
   have:=eo.2.2.2 z hz;exists bT () (),?_;exact rr _ _ _ (au.refl _) eJ {_,rfl}
  ·intro D vs H4 s4 hD il
   let e1:e.2.map (λz=>Dt.str (dec z))=(e.2.map dec).map Dt.str:=by rw[zB];rfl
   rw[e1] at il;rw[dG il] at hD;let l5:∀z∈e.2.map dec,⇑z<=5:=λz hz=>by
    let⟨p,hp,rfl⟩:=zH.mp hz;have:=eo.2.2.2 p hp;exact bD () ()
   let l9:⇑(e.2.map dec)<=9:=by rw[za];exact pe
   let sb:=pk (sep:=",") l5;let jb:=BI (sep:=",") l5;let mb:⇑(e.2.map dec)*(5+(",": Str).length)<=9*(5+1):=wI l9 (zm _);refine{",",D,_,rfl,rfl,aH.of hD,zM sb (zM mb ()),?_};refine{_,_,rfl,rfl,?_,?_}
   ·show(dec e.1 ++":").length+(Str.join "," (e.2.map dec)).length<=sizeLine
    rw[len_app];have:(":": Str).length=1:=rfl;ext
   let h34:=s4 _ _ h3;let s04:=s3.trans s4;left;refine{W,_,_,rfl,rfl,h34,?_,?_}
   ·rw[za,zh,za,zQ]
    show 4+_<_;ext
   exists _,_,rfl,bj nW s04,?_;let ew:(w4 r++(r.ends.take (i+1)).map oV).map V.str=(w4 r++(r.ends.take i).map oV).map V.str++[V.str (oV e)]:=by
    rw[tk,zk (f:=oV),<-zF,zk (f:=V.str)];rfl
   rw[aB,ew];rfl
 ·rintro U H3 ⟨v2,v3,rfl,s3,h3⟩
  rw[evl,zN] at h3;left;let ll:∀z∈w4 r++r.ends.map oV,⇑z<=60:=λz hz=>by
   rcases zG.mp hz with y | y
   ·unfold w4 at y
    simp only[zD,zE,yV] at y;rcases y with rfl | rfl | rfl | rfl
    ·decide
    ·have:=bD (n:=r.first) (by have:=f1.1;ext) (by have:=f1.2;ext);ext
    ·have:=bD (n:=r.last) (by have:=f2.1;ext) (by have:=f2.2;ext);ext
    ·have:=bD (n:=r.times) () ();ext
   ·let⟨e,he,rfl⟩:=zH.mp y
    exact Je (f5 e he) (pl e he)
  let sb:=pk (sep:=" ") ll;refine{" ",W,_,rfl,rfl,aH.of h3,?_,?_}
  ·let l4:⇑(w4 r++r.ends.map oV)<=13:=by rw[zh,za];show 4+_<=13;ext
   exact zM sb (zM (wI l4 (zm _)) (by show 13*(60+1)<=sizeLine;ext))
  exact kk _ s3
def Xf {c:Bool} {T1 T2:VK->Prop} {Z:VK} {H:Hp} (v:V) (h1:c=true->∀Z:VK,Z v H->T1 Z) (h2:c=false->∀Z:VK,Z v H->T2 Z) (hz:Z v H):if c=true then T1 Z else T2 Z:=by
 cases c with
 | true=>rw[yO rfl];exact h1 rfl Z hz
 | false=>rw[yN (by simp)];exact h2 rfl Z hz
def VL (j:Jump):Prop:=Sy (.bC j)
noncomputable def BM (S:bH):List Told:=S.repeats.map .rep++S.bC.toList.map .bC
inductive qM (vs:List V) (H:Hp) (Q:VK) (E:XK):Prop
 | mk (p:vE) (S:bH) (_:vs=[.ref p]) (_:lg H p S) (_:(∀r∈S.repeats,NY r)) (_:⇑S.repeats<=1000) (_:(∀j,S.bC=some j->VL j)) (_:∀D H',au H H'->H D=none->H' D=some (.lst (((BM S).map rowOf).map V.str))->Q (.ref D) H')
def PN {H:Hp} {j:Jump} {v:V} (h:Is H (jC j) v):∃a c,v=.ref a/\H a=some (.tup [.int j.mT,.int j.kO,.int j.bS,c])/\Is H (dO .int j.fh) c:=by
 unfold jC Is at h;let⟨a,vs,rfl,ha,hl⟩:=h;unfold aD at hl;let⟨v1,r1,rfl,h1,hl⟩:=hl;unfold aD at hl;let⟨v2,r2,rfl,h2,hl⟩:=hl;unfold aD at hl;let⟨v3,r3,rfl,h3,hl⟩:=hl;unfold aD at hl;let⟨v4,r4,rfl,h4,hl⟩:=hl;unfold aD at hl;subst hl;unfold Is at h1 h2 h3;subst h1 h2 h3;exact{(a),v4,rfl,ha,h4}
theorem gX {H:Hp} {α:Type} {d:α->Dt}:∀{xs:List α} {vs:List V},aD H (xs.map d) vs->∃ps:List (α×V),ps.map (·.1)=xs/\ps.map (·.2)=vs/\∀z∈ps,Is H (d z.1) z.2
 | [],_,h=>{[],rfl,by unfold aD at h;rw[h];rfl,by simp}
 | x::xs,_,h=>by
  rw[zj] at h;unfold aD at h;let⟨v,r,rfl,h1,h2⟩:=h;let⟨ps,e1,e2,e3⟩:=gX h2;refine{(x,v)::ps,by rw[zj,e1],by rw[zj,e2],λz hz=>?_};rcases zD.mp hz with rfl | hz
  ·exact h1
  ·exact e3 z hz
def rD:df P w base 2 T.jK qM:=by
 nomatch T.jK,["_law_s","_law_rows","_law_coda"]
 let⟨p,S,rfl,la,vI,rl3,jok,kk⟩:=h;let sl:=yC;let⟨pl,il,sl',bl,hl,nl,rl,ub,jm,iv,sv,bv,hv,nv,rv,h1,h2,h3,h4,h5,h6,h7,h8,⟨h9,ilr⟩,hj⟩:=la.at';let⟨ps,e1,e2,e3⟩:=gX ilr;let pln:⇑ps=⇑S.repeats:=by rw[<-e1,za]
 refine{_,(af (Pl (i:=1) (ts:=["_law_repeat"]) (ys:=[]) (js:=[]) (te:=(fR iD [] E0 (bI (aW 0) dY))) (bf (bE (pv 0) ae)) (gr 0) bx (bM (oS T) hr T.gI (aa (pv 0) ag)) qN)
  (af (aI (bw (eT (bE (pv 0) ae)))
  (af (bN 2 qN (Il (bw (cx (bE (bE (pv 0) ae) ae))) aL (mS aV T.fw (aa (bE (bE (pv 0) ae) ae) ag))))
   (ak (bu (bJ yD yF yE bB (pv 1) (aa (bJ yG yI yH gL aL (aa (aZ (aa aL (aa (mS aV T.fw (aa (bE (bE (pv 0) ae) ae) ag)) (aa (mS aV T.fw (aa (bE (bE (pv 0) ae) ae) ag)) (aa (mS aV T.fw (aa (bE (bE (pv 0) ae) ae) ag)) (aa (pv 2) ag)))))) ag)) ag)))))
  aA)
  (ak (aq (pv 1))))),?_}
 ac_rfl;exists{_,aH.of h9},?_;refine dW (enc:=λq:Rep×V=>q.2) (ws:=ps) (λq=>.str (rowOf (.rep q.1))) (λU=>∃v,U=[v]) () (by rw[e2];exact aH.of h9) {(none),rfl} ?_ ?_
 ·rintro z U H1 R hz s1 ⟨_,rfl⟩ rr
  let zin:z.1∈S.repeats:=by rw[<-e1];exact zP hz
  change{z.2,z.1,rfl,(e3 z hz).mono s1,vI _ zin,λH2 s2=>rr _ _ _ s2 eJ {_,rfl}}
 ·intro D vs H1 s1 nD hD ilD
  let ee:ps.map (λq:Rep×V=>Dt.str (rowOf (.rep q.1)))=((S.repeats.map Told.rep).map rowOf).map Dt.str:=by rw[<-e1,zB,zB,zB];rfl
  rw[ee] at ilD;rw[dG ilD] at hD;let h11:=s1 _ _ h1;left;cases q:S.bC with
  | none=>
   rw[q] at hj;unfold dO Is at hj;subst hj;left;refine kk D H1 s1 nD ?_;unfold BM;rw[q,hD];simp
  | some j=>
   rw[q] at hj;let⟨ja,jc,rfl,hja,ijc⟩:=PN hj;let⟨j1,j2,j3,j4⟩:=jok j q;let hja1:=s1 _ _ hja;let n1:=bT (n:=j.mT) (by have:=j1.1;ext) (by have:=j1.2;ext);let n2:=bT (n:=j.kO) (by have:=j2.1;ext) (by have:=j2.2;ext);let n3:=bT (n:=j.bS) (by have:=j3.1;ext) (by have:=j3.2;ext);let cl:⇑(ctxt j.fh)<=5:=by
    unfold ctxt;cases qc:j.fh with
    | none=>decide
    | some m=>have:=j4 m qc;exact bD (by have:=this.1;ext) (by have:=this.2;ext)
   left;refine Xf (H:=H1) (.str (ctxt j.fh)) ?_ ?_ ?_
   ·intro c Z hz
    let e:jc=.bP:=ye c;cases qc:j.fh with
    | none=>rw[qc] at hz;change hz
    | some m=>rw[qc] at ijc;unfold dO Is at ijc;rw[ijc] at e;cases e
   ·intro c Z hz
    cases qc:j.fh with
    | none=>rw[qc] at ijc;unfold dO Is at ijc;rw[ijc] at c;simp at c
    | some m=>
     rw[qc] at ijc hz;unfold dO Is at ijc;subst ijc;change{bT (by have:=(j4 m qc).1;ext) (by have:=(j4 m qc).2;ext),hz}
   exists .inl {rfl,_,aH.of hD},?_;exists n1,?_;exists n2,?_;exists n3,?_;exists by show 5<=sizeLine;ext,?_
   intros p5 H5 s5 h5;let ll:∀z∈Sc.wordsOf (.bC j),⇑z<=5:=λz hz=>by
    simp only[Sc.wordsOf,zD,zE,yV] at hz;rcases hz with rfl | rfl | rfl | rfl | rfl
    ·decide
    ·exact bD (by have:=j1.1;ext) (by have:=j1.2;ext)
    ·exact bD (by have:=j2.1;ext) (by have:=j2.2;ext)
    ·exact bD (by have:=j3.1;ext) (by have:=j3.2;ext)
    ·exact cl
   let sb:=pk (sep:=" ") ll;refine{" ",p5,Sc.wordsOf (.bC j),rfl,rfl,aH.of h5,zM sb (by show 5*(5+1)<=sizeLine;ext),?_};exists D,_,_,rfl,rfl,s5 _ _ hD,by rw[za,za,za];ext,?_
   left;refine kk D _ (bj nD (s1.trans s5)) nD ?_;unfold BM;rw[aB,q,zk,zk];rfl
def Rz {H:Hp} {x:Str×(Int×Int)×(Int×Int)} {v:V} (h:Is H (d7 x) v):∃a t l,v=.ref a/\H a=some (.tup [.str x.1,t,l])/\Is H (dL x.2.1) t/\Is H (dL x.2.2) l:=by
 unfold d7 Is at h;let⟨a,vs,rfl,ha,hl⟩:=h;unfold aD at hl;let⟨v1,r1,rfl,h1,hl⟩:=hl;unfold aD at hl;let⟨v2,r2,rfl,h2,hl⟩:=hl;unfold aD at hl;let⟨v3,r3,rfl,h3,hl⟩:=hl;unfold aD at hl;subst hl;unfold Is at h1;subst h1;exact{(a),v2,v3,rfl,ha,h2,h3}
def M5 {H:Hp} {x:Str×List Str} {v:V} (h:Is H (gE x) v):∃a q,v=.ref a/\H a=some (.tup [.str x.1,.ref q])/\H q=some (.tup (x.2.map V.str)):=by
 unfold gE Is at h;let⟨a,vs,rfl,ha,hl⟩:=h;unfold aD at hl;let⟨v1,r1,rfl,h1,hl⟩:=hl;unfold aD at hl;let⟨v2,r2,rfl,h2,hl⟩:=hl;unfold aD at hl;subst hl;unfold Is at h1;subst h1;unfold mO Is at h2;let⟨q,us,rfl,hq,hl⟩:=h2;rw[dG hl] at hq;exact{(a),q,rfl,ha,hq}
def TX {H:Hp} {x:Int×Str} {v:V} (h:Is H (Mg x) v):∃a,v=.ref a/\H a=some (.tup [.int x.1,.str x.2]):=by
 unfold Mg Is at h;let⟨a,vs,rfl,ha,hl⟩:=h;unfold aD at hl;let⟨v1,r1,rfl,h1,hl⟩:=hl;unfold aD at hl;let⟨v2,r2,rfl,h2,hl⟩:=hl;unfold aD at hl;subst hl;unfold Is at h1 h2;subst h1 h2;exact{(a),rfl,ha}
def TD (t:Told):Prop:=Sy t/\⇑(Sc.wordsOf t)<=100/\∀w∈Sc.wordsOf t,⇑w<=100
def AI {t:Told} (h:TD t):((Sc.wordsOf t).map (λz:Str=>⇑z+(" ": Str).length)).sum<=sizeLine:=by
 let sl:=yC;let a:=pk (sep:=" ") h.2.2;let b:⇑(Sc.wordsOf t)*(100+(" ": Str).length)<=100*(100+(" ": Str).length):=wI h.2.1 (zm _);exact zM a (zM b (by show 100*(100+1)<=sizeLine;ext))
def Ku (n:Str):("player ": Str)++n=rowOf (.bK n):=rfl
noncomputable def rws (ts:List Told):List V:=(ts.map rowOf).map V.str
def lD (a b:List Told):rws (a++b)=rws a++rws b:=by unfold rws;rw[zk,zk]
def lC (a:List Told):⇑(rws a)=⇑a:=by unfold rws;rw[za,za]
inductive pz (vs:List V) (H:Hp) (Q:VK) (E:XK):Prop
 | mk (p:vE) (S:bH) (_:vs=[.ref p]) (_:lg H p S) (_:(∀t∈dM S,TD t)) (_:⇑(dM S)<=1000000) (_:(∀r∈S.repeats,NY r)) (_:⇑S.repeats<=1000) (_:∀D H',au H H'->H D=none->H' D=some (.lst (rws (dM S)))->Q (.ref D) H')
def pT:df P w base 3 T.iw pz:=by
 nomatch T.iw,["_law_s","_law_rows","_law_name","_law_turn","_law_time","_law_metre","_law_key","_law_marks","_law_player","_law_row","_law_bar","_law_items"]
 let⟨p,S,rfl,la,tok,tl,vI,rln3,kk⟩:=h;let sl:=yC;let⟨pl,il,st,bl,hl,nl,rl,ub,jm,iv,sv,bv,hv,nv,rv,h1,h2,⟨h3,ili⟩,⟨h4,ils⟩,⟨h5,ilb⟩,h6,⟨h7,rlh⟩,⟨h8,rln⟩,_,_⟩:=la.at';let mem:∀a b c:List Told,dM S=a++b++c->∀t∈b,TD t:=λa b c e t ht=>tok t (by rw[e];simp[ht]);let tlen:∀a b:List Told,dM S=a++b->⇑a<=1000000:=λa b e=>by rw[e,zh] at tl;ext
 obtain⟨fl,fli,fls,flb,fln⟩:⇑S.players<=1000000/\⇑S.players+⇑S.ao<=1000000/\⇑S.players+⇑S.ao+⇑S.aK<=1000000/\⇑S.players+⇑S.ao+⇑S.aK+⇑S.aG<=1000000/\⇑S.aJ<=1000000:=by
  unfold dM at tl;simp only[zh,za] at tl;ext
 refine{_,(af (Pl (i:=1) (ts:=["_law_name"]) (ys:=[]) (js:=[]) (te:=(eO (λx y H Q=>∃i j,x=.str i/\y=.str j/\⇑i+⇑j<=sizeLine/\Q (.str (i++j)) H) (tC (.str "player ")) (aW 0))) (bf (bE (pv 0) ae)) (gr 0) bx (ax bZ aL (pv 0)) qN)
  (af (bY yP rfl (bf (bE (pv 0) ae)) (dA (n:=3) rfl (aM (ia 2 qN) (aM (ia 3 qN) (aM (ia 4 qN) cK))))
  (ak (bu (bJ yD yF yE bB (pv 1) (aa (bJ yG yI yH gL aL (aa (aZ (aa aL (aa (pv 2) (aa (mS aV T.fw (aa (bE (pv 3) ae) ag)) (aa (mS aV T.fw (aa (bE (pv 3) ae) ag)) (aa (bM (dF T) hr T.dk (aa (pv 4) ag)) ag)))))) ag)) ag)))))
  (af (bN 1 qN (ax eV (pv 1) (nM (ts:=["_law_name","_law_players"]) (ys:=[]) (js:=[]) (g:=(F6 K 2 (fB (bW 0) (fB (bW 1) F7)))) (te:=(VX K "str" (rJoin K) (tC (.str " ")) (bI (eO (Sl K) (Hs (bI (tC (.str "staff")) (bI (aW 0) dY))) (LI (Vc K) (bI (aW 1) dY))) dY))) (bf (bE (pv 0) ae)) (dA (n:=2) rfl (aM (gr 0) (aM (gr 1) cK))) bx (bJ yG yI yH gL aL (aa (ax eV (aZ (aa aL (aa (pv 0) ag))) (mS iP T.kh (aa (pv 1) ag))) ag)))))
  (af (bY yP rfl (bf (bE (pv 0) ae)) (dA (n:=3) rfl (aM (ia 5 qN) (aM (ia 6 qN) (aM (ia 7 qN) cK))))
  (ak (bu (bJ yD yF yE bB (pv 1) (aa (bJ yG yI yH gL aL (aa (ax eV (aZ (aa aL (aa (ax bZ (ax bZ (mS aV T.fw (aa (bE (pv 5) ae) ag)) aL) (mS aV T.fw (aa (bE (pv 5) ae) ag))) (aa (mS aV T.fw (aa (pv 6) ag)) ag)))) (mS iP T.kh (aa (pv 7) ag))) ag)) ag)))))
  (af (aI (bw (eT (bE (pv 0) ae)))
  (ak (bu (bJ yD yF yE bB (pv 1) (aa (ax bZ aL (bM (dF T) hr T.dk (aa (bE (pv 0) ae) ag))) ag))))
  aA)
  (af (bY yP rfl (bf (bE (pv 0) ae)) (dA (n:=2) rfl (aM (ia 8 qN) (aM (ia 9 qN) cK)))
  (ak (bN 1 qN (ax eV (pv 1) (nM (ts:=["_law_bar","_law_name"]) (ys:=["_law_player"]) (js:=[8]) (g:=(F6 K 2 (fB (bW 0) (fB (bW 1) F7)))) (te:=(VX K "str" (rJoin K) (tC (.str " ")) (bI (Hs (bI (tC (.str "holds")) (bI (aW 2) (bI (LI Vb (bI (aW 0) dY)) (bI (aW 1) dY))))) dY))) (bf (pv 9)) (dA (n:=2) rfl (aM (gr 0) (aM (gr 1) cK))) bx (bJ yG yI yH gL aL (aa (aZ (aa aL (aa (pv 2) (aa (mS aV T.fw (aa (pv 0) ag)) (aa (pv 1) ag))))) ag)))))))
  (af (bY yP rfl (bf (bE (pv 0) ae)) (dA (n:=3) rfl (aM (ia 10 qN) (aM (ia 8 qN) (aM (ia 11 qN) cK))))
  (ak (bu (bJ yD yF yE bB (pv 1) (aa (bJ yG yI yH gL aL (aa (ax eV (aZ (aa aL (aa (mS aV T.fw (aa (pv 10) ag)) (aa (pv 8) ag)))) (nM (ts:=["_law_item"]) (ys:=[]) (js:=[]) (te:=(fR jP [] E0 (bI (aW 0) dY))) (bf (pv 11)) (gr 0) bx (bM (rC T) hr T.jJ (aa (pv 0) ag)))) ag)) ag)))))
  (ak (aq (ax eV (pv 1) (bM (rD T) hr T.jK (aa (pv 0) ag)))))))))))),?_}
 ac_rfl;exists{_,aH.of h2},?_;refine dW (enc:=V.str) (ws:=S.players) (λn=>.str (rowOf (.bK n))) (λU=>∃v,U=[v]) () (aH.of h2) {(none),rfl} ?_ ?_
 ·rintro z U H1 R hz s1 ⟨_,rfl⟩ rr
  let tz:TD (.bK z):=tok _ (by unfold dM;simp[hz]);left;refine{?_,?_}
  ·let l7:("player ": Str).length=7:=rfl
   have:=tz.2.2 z (by simp[Sc.wordsOf]);ext
  exact rr _ _ _ (au.refl _) (by rw[Ku];exact eJ) {_,rfl}
 ·intro D vs H1 s1 nD hD ilD
  let ee:S.players.map (λn=>Dt.str (rowOf (.bK n)))=((S.players.map Told.bK).map rowOf).map Dt.str:=by rw[zB,zB];rfl
  rw[ee] at ilD;rw[dG ilD] at hD;let h11:=s1 _ _ h1;exists{_,aH.of (s1 _ _ h3)},?_;refine eL (K:=K) (a:=il) (xs:=iv) (λi U H'=>Lo [some (.ref p),some (.ref D)] 10 U/\au H H'/\H' D=some (.lst (rws (S.players.map .bK++(S.ao.take i).map λx=>.cJ x.1 x.2.1 x.2.2)))) {Lo.of rfl rfl,s1,by rw[wJ,yn,zV];exact hD} (λi U H' _ h=>by let⟨_,z,_⟩:=h;exact aH.of (z _ _ h3)) ?_ ?_
  ·intro i x U H2 hx hh
   refine dH λN kN0 kR0 _ _=>?_;let⟨⟨e,rfl⟩,s2,hD2⟩:=hh;let⟨n,hn,ix⟩:=cV (d:=d7) ili hx;let⟨a1,t1,l1,rfl,ha1,it,iL⟩:=Rz ix;cases fg (o:=some n.2.1) it with
   | ref ht=>
   cases fg (o:=some n.2.2) iL with
   | ref hL=>
   let tn:TD (.cJ n.1 n.2.1 n.2.2):=tok _ (by unfold dM;simp only[zG,zH];exact .inl (.inl (.inl (.inl (.inl (.inl (.inr {n,zC hn,rfl})))))));refine{a1,_,rfl,cW.of (s2 _ _ ha1),rfl,?_};refine{_,_,rfl,{_,_,rfl,{_,_,rfl,{rfl,?_}}}};rename_i bt bL;let ht2:=s2 _ _ ht;let hL2:=s2 _ _ hL;let⟨t1,t2,t3,t4,t5,t6,t7⟩:=tn.1;let⟨c1,c2,c3,c4,_⟩:=t2;let⟨r1,r2,_⟩:=t5.pos;exists .inl {rfl,_,aH.of hD2},?_;exists bT () (),?_;exists bT () (),?_;exists _,n.2.2,rfl,hL2,r1,t6,r2,t7,?_;exists by show 5<=sizeLine;ext,?_
   intros p5 H5 s5 h5;refine{" ",p5,Sc.wordsOf (.cJ n.1 n.2.1 n.2.2),rfl,rfl,aH.of h5,AI tn,?_};left;refine{D,_,_,rfl,rfl,s5 _ _ hD2,?_,?_}
   ·rw[lC,zh,za,za,zQ];ext
   exists Lo.of rfl rfl,bj nD (s2.trans s5),?_;rw[aB,cm hn,zk,<-zF];exact y6 (λl=>some (HO.lst l)) (lD _ [Told.cJ n.1 n.2.1 n.2.2]).symm
  ·rintro U H2 ⟨⟨e,rfl⟩,s2,hD2⟩
   rw[aO ili,zN] at hD2;let h12:=s2 _ _ h1;let⟨ps,e1,e2,e3⟩:=gX ils;let pln:⇑ps=⇑S.aK:=by rw[<-e1,za]
   exists{_,aH.of (s2 _ _ h4)},?_;refine dW (enc:=λq:(Str×List Str)×V=>q.2) (ws:=ps) (λq=>.str (rowOf (.cw q.1.1 q.1.2))) (λU=>∃v u,U=[v,u]) () (by rw[e2];exact aH.of (s2 _ _ h4)) {(none),none,rfl} ?_ ?_
   ·rintro z U H3 R hz s3 ⟨_,_,rfl⟩ rr
    let zin:z.1∈S.aK:=by rw[<-e1];exact zP hz
    let tz:TD (.cw z.1.1 z.1.2):=tok _ (by unfold dM;simp only[zG,zH];exact .inl (.inl (.inl (.inl (.inl (.inr {(z.1),zin,rfl}))))));let⟨a3,q3,ea,ha3,hq3⟩:=M5 (e3 z hz);let s03:=s2.trans s3;rw[ea];refine{a3,_,rfl,cW.of (s03 _ _ ha3),rfl,?_};refine{_,_,rfl,{_,_,rfl,{rfl,?_}}};exists by show 2<=sizeLine;ext,?_
    intros p5 H5 s5 h5;exists q3,_,rfl,.inr (cW.of (s5 _ _ (s03 _ _ hq3))),?_;intros p6 H6 s6 h6;let zl:⇑z.1.2<=98:=by have:=tz.2.1;simp only[Sc.wordsOf,zv] at this;ext
    refine{p5,p6,_,_,rfl,rfl,aH.of (s6 _ _ h5),aH.of h6,by rw[za];show 2+_<=_;ext,?_};intros p7 H7 s7 h7;refine{" ",p7,Sc.wordsOf (.cw z.1.1 z.1.2),rfl,rfl,aH.of h7,AI tz,?_};exact rr _ _ _ ((s5.trans s6).trans s7) eJ {_,_,rfl}
   ·intro D3 vs3 H3 s3 nD3 hD3 il3
    let ee3:ps.map (λq:(Str×List Str)×V=>Dt.str (rowOf (.cw q.1.1 q.1.2)))=((S.aK.map λx=>Told.cw x.1 x.2).map rowOf).map Dt.str:=by rw[<-e1,zB,zB,zB];rfl
    rw[ee3] at il3;rw[dG il3] at hD3;refine{D,D3,_,_,rfl,rfl,aH.of (s3 _ _ hD2),aH.of hD3,?_,?_}
    ·rw[lC,zh,za,za,za,za,za];ext
    intro D4 n4;generalize hU:upd H3 D4 _=H4;let s4:au H3 H4:=by rw[<-hU];exact aY n4
    let hD4:H4 D4=some (.lst (rws (S.players.map .bK++(S.ao.map λx=>.cJ x.1 x.2.1 x.2.2)++S.aK.map λx=>.cw x.1 x.2))):=by
     rw[<-hU,aB];exact y6 (λl=>some (HO.lst l)) (lD _ _).symm
    clear hU;let nD4:H D4=none:=(s2.trans s3).back n4;let s04:=(s2.trans s3).trans s4;clear hD2 hD3 il3 hD ilD nD nD3;let h14:=s04 _ _ h1;exists{_,aH.of (s04 _ _ h5)},?_;refine eL (K:=K) (a:=bl) (xs:=bv) (λi U H'=>Lo [some (.ref p),some (.ref D4)] 10 U/\au H H'/\H' D4=some (.lst (rws (S.players.map .bK++(S.ao.map λx=>.cJ x.1 x.2.1 x.2.2)++(S.aK.map λx=>.cw x.1 x.2)++(S.aG.take i).map .bar)))) {{(e),rfl},s04,by rw[wJ,yn,zV];exact hD4} (λi U H' _ h=>by let⟨_,z,_⟩:=h;exact aH.of (z _ _ h5)) ?_ ?_
    ·intro i x U H5 hx hh
     refine dH λN kN1 kR1 _ _=>?_;let⟨⟨e,rfl⟩,s5,hD5⟩:=hh;let⟨b,hb,ib⟩:=cV (d:=kX) ilb hx;let⟨a1,mv,q1,rfl,ha1,im,hq1⟩:=Ar ib;cases fg (o:=some b.aP) im with
     | ref hm=>
     rename_i am;let tb:TD (.bar b):=tok _ (by unfold dM;simp only[zG,zH];exact .inl (.inl (.inl (.inl (.inr {b,zC hb,rfl})))));let hm5:=s5 _ _ hm;refine{a1,_,rfl,cW.of (s5 _ _ ha1),rfl,?_};refine{_,_,rfl,{_,_,rfl,{_,_,rfl,{rfl,?_}}}};let⟨t1,t2,t3,t4,t5,t6⟩:=tb.1;let bb:0<=b.aP.2/\b.aP.2<1000:=by unfold DQ at t3;simp at t3;ext
     let la1:=bD (n:=b.aP.1) () ();let la2:=bD (n:=b.aP.2) () ();let l1:("/": Str).length=1:=rfl;exists .inl {rfl,_,aH.of hD5},?_;exists bT () (),?_;exists by show(dec b.aP.1).length+_<=_;ext,?_
     exists bT () (),?_;exists by show(dec b.aP.1 ++"/").length+⇑(dec b.aP.2)<=_;rw[len_app];ext,?_
     exists bT () (),?_;exists by show 3<=sizeLine;ext,?_
     intros p6 H6 s6 h6;exists q1,_,rfl,.inr (cW.of (s6 _ _ (s5 _ _ hq1))),?_;intros p7 H7 s7 h7;let ml:⇑b.marks<=97:=by have:=tb.2.1;simp only[Sc.wordsOf,zv] at this;ext
     refine{p6,p7,_,_,rfl,rfl,aH.of (s7 _ _ h6),aH.of h7,by rw[za];show 3+_<=_;ext,?_};intros p8 H8 s8 h8;refine{" ",p8,Sc.wordsOf (.bar b),rfl,rfl,aH.of h8,AI tb,?_};let s58:=(s6.trans s7).trans s8;left;refine{D4,_,_,rfl,rfl,s58 _ _ hD5,?_,?_}
     ·rw[lC];simp only[zh,za,zQ];ext
     exists Lo.of rfl rfl,bj nD4 (s5.trans s58),?_;rw[aB,cm hb,zk,<-zF];exact y6 (λl=>some (HO.lst l)) (lD _ [Told.bar b]).symm
    ·rintro U H5 ⟨⟨e,rfl⟩,s5,hD5⟩
     rw[aO ilb,zN] at hD5;obtain⟨B,hB⟩:∃B,B=S.players.map Told.bK++(S.ao.map λx=>Told.cJ x.1 x.2.1 x.2.2)++(S.aK.map λx=>Told.cw x.1 x.2)++S.aG.map Told.bar:={_,rfl}
     let tB:dM S=B++S.aF.toList.map .aF++(S.holds.map λx=>x.2.map λh=>Told.holds x.1 h.1 h.2).flatten++(S.aJ.map λx=>.aJ x.1.1 x.1.2 x.2)++BM S:=by rw[hB];rfl
     rw[<-hB] at hD5;let h15:=s5 _ _ h1;left;refine join (λU H'=>Lo [some (.ref p),some (.ref D4)] 10 U/\au H H'/\H' D4=some (.lst (rws (B++S.aF.toList.map .aF)))) (λN hN c1=>?_) (λN hN c1=>?_) ?_
     ·cases qu:S.aF with
      | none=>
       rw[qu] at h6;unfold dO Is at h6;rw[h6] at c1;simp at c1
      | some u=>
       rw[qu] at h6;cases fg (o:=some u) h6 with
       | ref hu=>
       let tu:TD (.aF u):=tok _ (by rw[tB,qu];simp);let⟨u1,u2,u3,u4⟩:=tu.1;let⟨_,r2,_⟩:=u1.pos;let lu:=kL (x:=u) () u3 () u4;let bl5:B.length<=1000000:=tlen B _ (by rw[tB,zF,zF,zF]);exists .inl {rfl,_,aH.of hD5},?_;exists _,u,rfl,s5 _ _ hu,(),u3,r2,u4,?_;let l7:("upbeat ": Str).length=7:=rfl;refine{_,_,rfl,rfl,(),?_};exists D4,_,_,rfl,rfl,hD5,by rw[lC];ext,?_
       left;refine hN _ _ {Lo.of rfl rfl,bj nD4 s5,?_};rw[aB,qu];exact y6 (λl=>some (HO.lst l)) (lD B [Told.aF u]).symm
     ·let qu:S.aF=none:=by
       cases qu:S.aF with
       | none=>rfl
       | some u=>
        rw[qu] at h6;cases fg (o:=some u) h6 with
        | ref hu=>simp at c1
      left;refine hN _ _ {Lo.of rfl rfl,s5,?_};rw[qu];show H5 D4=some (.lst (rws (B++[])));rw[zV];exact hD5
     rintro σ6 H6 ⟨⟨e,rfl⟩,s6,hD6⟩;let h16:=s6 _ _ h1;exists{_,aH.of (s6 _ _ h7)},?_;refine eL (K:=K) (a:=hl) (xs:=hv) (λi U H'=>∃(D:vE),Lo [some (.ref p),some (.ref D)] 10 U/\au H H'/\H D=none/\H' D=some (.lst (rws (B++S.aF.toList.map .aF++((S.holds.take i).map λx=>x.2.map λh=>Told.holds x.1 h.1 h.2).flatten)))) {D4,{(e),rfl},s6,nD4,by rw[wJ,yn,List.flatten_nil,zV];exact hD6} (λi U H' _ h=>by let⟨_,_,z,_⟩:=h;exact aH.of (z _ _ h7)) ?_ ?_
     ·intro i x U H7 hx hh
      refine dH λN kN2 kR2 _ _=>?_;let⟨D7,⟨e,rfl⟩,s7,nD7,hD7⟩:=hh;let⟨y,hy,a7,r7,us7,rfl,ha7,hr7,il7,_⟩:=rlh.at hx;let⟨qs,f1,f2,f3⟩:=gX il7;let ty:∀h∈y.2,TD (.holds y.1 h.1 h.2):=λh hh=>tok _ (by
       rw[tB];refine zJ _ (zJ _ (zI _ ?_));exact wm.mpr {_,zP (zC hy),zP hh})
      let tke:((S.holds.take (i+1)).map λx=>x.2.map λh=>Told.holds x.1 h.1 h.2).flatten=((S.holds.take i).map λx=>x.2.map λh=>Told.holds x.1 h.1 h.2).flatten++y.2.map λh=>Told.holds y.1 h.1 h.2:=by
       rw[cm hy,zk,xh];simp
      let lenB:⇑(B++S.aF.toList.map Told.aF++((S.holds.take (i+1)).map λx=>x.2.map λh=>Told.holds x.1 h.1 h.2).flatten)<=1000000:=by
       refine tlen _ (((S.holds.drop (i+1)).map λx=>x.2.map λh=>Told.holds x.1 h.1 h.2).flatten++(S.aJ.map λx=>.aJ x.1.1 x.1.2 x.2)++BM S) ?_;rw[tB]
       conv=>lhs;rw[<-zZ (i+1) S.holds,zk,xh]
       simp only[zF]
      rw[tke] at lenB;simp only[zh,za] at lenB;refine{a7,_,rfl,cW.of (s7 _ _ ha7),rfl,?_};refine{_,_,rfl,{_,_,rfl,{rfl,?_}}};exists{_,aH.of (s7 _ _ hr7)},?_;let ql:⇑qs=⇑y.2:=by rw[<-f1,za]
      refine dW (enc:=λq:(Int×Str)×V=>q.2) (ws:=qs) (λq=>.str (rowOf (.holds y.1 q.1.1 q.1.2))) (λU=>∃v u,U=[v,u,some (.str y.1)]) () (by rw[f2];exact aH.of (s7 _ _ hr7)) {(none),none,rfl} ?_ ?_
      ·rintro z U H8 R hz s8 ⟨_,_,rfl⟩ rr
       let zin:z.1∈y.2:=by rw[<-f1];exact zP hz
       let tz:=ty z.1 zin;let⟨a8,ea,ha8⟩:=TX (f3 z hz);let s08:=s7.trans s8;let⟨b1,b2⟩:=tz.1.2.1;rw[ea];refine{a8,_,rfl,cW.of (s08 _ _ ha8),rfl,?_};refine{_,_,rfl,{_,_,rfl,{rfl,?_}}};exists bT () (),?_;exists by show 4<=sizeLine;ext,?_
       intros p9 H9 s9 h9;refine{" ",p9,Sc.wordsOf (.holds y.1 z.1.1 z.1.2),rfl,rfl,aH.of h9,AI tz,?_};exact rr _ _ _ s9 eJ {_,_,rfl}
      ·intro D8 vs8 H8 s8 _ hD8 il8
       let ee8:qs.map (λq:(Int×Str)×V=>Dt.str (rowOf (.holds y.1 q.1.1 q.1.2)))=((y.2.map λh=>Told.holds y.1 h.1 h.2).map rowOf).map Dt.str:=by rw[<-f1,zB,zB,zB];rfl
       rw[ee8] at il8;rw[dG il8] at hD8;refine{D7,D8,_,_,rfl,rfl,aH.of (s8 _ _ hD7),aH.of hD8,?_,?_}
       ·rw[lC];simp only[zh,za];ext
       intro D9 n9;generalize hU:upd H8 D9 _=H9;let s9:au H8 H9:=by rw[<-hU];exact aY n9
       exists D9,Lo.of rfl rfl,(s7.trans s8).trans s9,(s7.trans s8).back n9,?_;rw[<-hU,aB,tke,<-zF];exact y6 (λl=>some (HO.lst l)) (lD _ _).symm
     ·rintro U H7 ⟨D7,⟨e,rfl⟩,s7,nD7,hD7⟩
      rw[rlh.len,zN] at hD7;obtain⟨B2,hB2⟩:∃B2,B2=B++S.aF.toList.map Told.aF++(S.holds.map λx=>x.2.map λh=>Told.holds x.1 h.1 h.2).flatten:={_,rfl}
      rw[<-hB2] at hD7 tB;let h17:=s7 _ _ h1;exists{_,aH.of (s7 _ _ h8)},?_;refine eL (K:=K) (a:=nl) (xs:=nv) (λi U H'=>Lo [some (.ref p),some (.ref D7)] 10 U/\au H H'/\H' D7=some (.lst (rws (B2++(S.aJ.take i).map λx=>.aJ x.1.1 x.1.2 x.2)))) {{(e),rfl},s7,by rw[wJ,yn,zV];exact hD7} (λi U H' _ h=>by let⟨_,z,_⟩:=h;exact aH.of (z _ _ h8)) ?_ ?_
      ·intro i x U H8 hx hh
       refine dH λN kN3 kR3 _ _=>?_;let⟨⟨e,rfl⟩,s8,hD8⟩:=hh;let⟨y,hy,a7,r7,us7,rfl,ha7,hr7,il7,_⟩:=rln.at hx;let⟨qs,f1,f2,f3⟩:=gX il7;let tz:TD (.aJ y.1.1 y.1.2 y.2):=tok _ (by rw[tB];simp only[zG,zH];exact .inl (.inr {y,zC hy,rfl}));let⟨⟨b1,b2⟩,b3,b4,_⟩:=tz.1;let yl:⇑y.2<=97:=by have:=tz.2.1;simp only[Sc.wordsOf,zv,za] at this;ext
       let ql:⇑qs=⇑y.2:=by rw[<-f1,za]
       let ib:i<⇑S.aJ:=(zy.mp hy).1;let lenB:B2.length+⇑S.aJ<=1000000:=by
        have:=tlen (B2++S.aJ.map λx=>.aJ x.1.1 x.1.2 x.2) (BM S) tB
        simpa[zh,za] using this
       refine{a7,_,rfl,cW.of (s8 _ _ ha7),rfl,?_};refine{_,_,rfl,{_,_,rfl,{_,_,rfl,{rfl,?_}}}};exists .inl {rfl,_,aH.of hD8},?_;exists bT () (),?_;exists by show 3<=sizeLine;ext,?_
       intros p9 H9 s9 h9;let s09:=s8.trans s9;exists{_,aH.of (s09 _ _ hr7)},?_;refine dW (enc:=λq:Item×V=>q.2) (ws:=qs) (λq=>.str (pV q.1)) (λU=>∃v,U=[v]) () (by rw[f2];exact aH.of (s09 _ _ hr7)) {(none),rfl} ?_ ?_
       ·rintro z U Ha R hz sa ⟨_,rfl⟩ rr
        let zin:z.1∈y.2:=by rw[<-f1];exact zP hz
        change{z.2,z.1,rfl,((f3 z hz).mono s09).mono sa,b4 _ zin,rr _ _ _ (au.refl _) eJ {_,rfl}}
       ·intro Da vsa Ha sa _ hDa ila
        let eea:qs.map (λq:Item×V=>Dt.str (pV q.1))=(y.2.map pV).map Dt.str:=by rw[<-f1,zB,zB];rfl
        rw[eea] at ila;rw[dG ila] at hDa;refine{p9,Da,_,_,rfl,rfl,aH.of (sa _ _ h9),aH.of hDa,by rw[za,za];show 3+_<=_;ext,?_};intros pb Hb sb hb;refine{" ",pb,Sc.wordsOf (.aJ y.1.1 y.1.2 y.2),rfl,rfl,aH.of hb,AI tz,?_};let s8b:=(s9.trans sa).trans sb;left;refine{D7,_,_,rfl,rfl,s8b _ _ hD8,?_,?_}
        ·rw[lC];simp only[zh,za,zQ];ext
        exists Lo.of rfl rfl,bj nD7 (s8.trans s8b),?_;rw[aB,cm hy,zk,<-zF];exact y6 (λl=>some (HO.lst l)) (lD _ [Told.aJ y.1.1 y.1.2 y.2]).symm
      ·rintro U H8 ⟨⟨e,rfl⟩,s8,hD8⟩
       rw[rln.len,zN] at hD8;exists p,S,rfl,la.mono s8,vI,rln3,λj hj=>(tok (.bC j) (by rw[tB];unfold BM;rw[hj];simp)).1,λD9 H9 s9 _ h9=>?_;refine{D7,D9,_,_,rfl,rfl,aH.of (s9 _ _ hD8),aH.of h9,?_,?_}
       ·have:=tl
        rw[tB] at this;simp only[zh,za] at this;rw[lC];simp only[zh,za];ext
       intro Dx nx;generalize hU:upd H9 Dx _=Hx;let sx:au H9 Hx:=by rw[<-hU];exact aY nx
       refine kk Dx Hx ((s8.trans s9).trans sx) ((s8.trans s9).back nx) ?_;rw[<-hU,aB,tB];exact y6 (λl=>some (HO.lst l)) (lD _ _).symm
def Oq {t:Told} (h:TD t):⇑(rowOf t)<=10100:=by
 let a:=BI (sep:=" ") h.2.2;let b:⇑(Sc.wordsOf t)*(100+(" ": Str).length)<=100*(100+(" ": Str).length):=wI h.2.1 (zm _);exact zM a (zM b (by show 100*(100+1)<=10100;decide))
inductive pw (vs:List V) (H:Hp) (Q:VK) (E:XK):Prop
 | mk (p:vE) (S:bH) (_:vs=[.ref p]) (_:lg H p S) (_:(∀t∈dM S,TD t)) (_:⇑(dM S)<=1000) (_:(∀r∈S.repeats,NY r)) (_:⇑S.repeats<=1000) (_:∀H',au H H'->Q (.str (Str.join "\n" ((dM S).map rowOf))) H')
def Hl {ts:List Told} (h:∀t∈ts,TD t) (hl:⇑ts<=1000):((ts.map rowOf).map (λz:Str=>⇑z+("\n": Str).length)).sum<=1000*10101:=by
 let a:=pk (sep:="\n") (k:=10100) (zs:=ts.map rowOf) λz hz=>by
  let⟨t,ht,rfl⟩:=zH.mp hz;exact Oq (h t ht)
 rw[za] at a;let b:⇑ts*(10100+("\n": Str).length)<=1000*(10100+("\n": Str).length):=wI hl (zm _);exact zM a (zM b (by show 1000*(10100+1)<=1000*10101;decide))
def pS:df P w base 4 T.ik pw:=by
 nomatch T.ik,["_law_s"]
 let⟨p,S,rfl,la,tok,tl,vI,rl,kk⟩:=h;let sl:=yC;refine{_,(ak (aq (bJ yG yI yH gL aL (aa (bM (pT T) hr T.iw (aa (pv 0) ag)) ag)))),?_};ac_rfl;exists p,S,rfl,la,tok,(),vI,rl,λD H1 s1 _ h1=>?_;refine{"\n",D,(dM S).map rowOf,rfl,rfl,aH.of h1,zM (Hl tok tl) (),?_};exact kk _ s1
theorem LR:∀{ts:List Told},(∀t∈ts,TD t)->RT (ts.map rowOf) ts
 | [],_=>.nil
 | t::r,h=>by
  let ht:=h t zr;exact .row (zM (Oq ht) ∅) (MQ ht.1) ht.1 (zM ht.2.1 ∅) (λy hy=>zM (ht.2.2 y hy) ∅) (LR λx hx=>h x (zp _ hx))
def Q6 {ts:List Told} (ne:ts≠[]) (h:∀t∈ts,TD t):RT (Txt.split (Str.join "\n" (ts.map rowOf)) "\n") ts:=by
 rw[show Txt.split (Str.join "\n" (ts.map rowOf)) "\n"= ts.map rowOf from gy (c:=10) (by simpa using ne) λz hz=>by
  let⟨t,ht,rfl⟩:=zH.mp hz;exact OS (h t ht).1]
 exact LR h
def text_len {ts:List Told} (h:∀t∈ts,TD t) (hl:⇑ts<=1000):(Str.join "\n" (ts.map rowOf)).length+2<=sizeLine:=by
 let sl:=yC;let a:=join_le "\n" (ts.map rowOf);let b:=Hl h hl;ext
def GS (ps:List Str) (sts:List (Str×List Str)):Prop:=⇑sts<=2/\CD (sts.map (·.1))/\(sts.map (·.2)).flatten.Nodup/\∀x∈sts,x.2≠[]/\⇑x.2<=⇑ps/\∀p∈x.2,p∈ps
inductive qK (vs:List V) (H:Hp) (Q:VK) (E:XK):Prop
 | mk (c:Int) (pp:vE) (ps:List Str) (_:vs=[.int c,.ref pp]) (_:H pp=some (.lst (ps.map V.str))) (_:ps.Nodup) (_:⇑ps<=12) (_:∀(sts:List (Str×List Str)) D us H',GS ps sts->au H H'->H' D=some (.lst us)->aD H' (sts.map gE) us->Q (.ref D) H')
theorem AE {H:Hp}:∀{nms:List Str} {rows:List (List Str)} {rv us:List V},⇑nms=⇑rows->RL (λo v=>∃r,v=V.ref r/\H r=some (.tup (o.map V.str))) rows rv->Pairs H (nms.map V.str) rv us ⇑nms->aD H ((nms.zip rows).map gE) us
 | [],[],_,us,_,_,p=>by
  have:us=[]:=yt.mp p.1;rw[this];exact cD
 | n::ns,o::ot,_,us,hl,⟨v,rv,rfl,⟨r,ev,hr⟩,rl⟩,p=>by
  subst ev;cases us with
  | nil=>have:=p.1;simp at this
  | cons u us=>
   let⟨q,e1,e2⟩:=p.2 0 (.str n) (.ref r) (by simp) rfl rfl;simp at e1;subst e1;refine aN (cz e2 (aN eJ (aN (cz hr (BJ o)) cD))) (AE (by simpa using hl) rl {by have:=p.1;simpa using this,λj x y hj hx hy=>?_});let⟨q',f1,f2⟩:=p.2 (j+1) x y (by simp;ext) (by simpa using hx) (by simpa using hy);exact{q',by simpa using f1,f2}
 | [],_::_,_,_,hl,_,_=>by simp at hl
 | _::_,[],_,_,hl,_,_=>by simp at hl
theorem LC {α β:Type}:∀{a:List α} {b:List β},⇑a=⇑b->(a.zip b).map (·.1)=a
 | [],[],_=>rfl
 | x::xs,y::ys,h=>by rw[yX,zj,LC (by simpa using h)]
 | [],_::_,h=>by simp at h
 | _::_,[],h=>by simp at h
theorem EX {α β:Type}:∀{a:List α} {b:List β},⇑a=⇑b->(a.zip b).map (·.2)=b
 | [],[],_=>rfl
 | x::xs,y::ys,h=>by rw[yX,zj,EX (by simpa using h)]
 | [],_::_,h=>by simp at h
 | _::_,[],h=>by simp at h
noncomputable def two (o1 o2:List Str):List (List Str):=(if o1=[] then [] else [o1])++(if o2=[] then [] else [o2])
noncomputable def CI (o1 o2:List Str) (r1 r2:vE):List V:=(if o1=[] then [] else [.ref r1])++(if o2=[] then [] else [.ref r2])
noncomputable def Wv (o1 o2:List Str) (r1 r2:vE):Nat->List V
 | 0=>[]
 | 1=>if o1=[] then [] else [.ref r1]
 | _=>CI o1 o2 r1 r2
def Oj (o1 o2:List Str):(two o1 o2).flatten=o1++o2:=by
 unfold two
 by_cases h1:o1=[] <;> by_cases h2:o2=[] <;> simp[h1,h2]
def SQ {o1 o2 o:List Str} (h:o∈two o1 o2):o≠[]/\(o=o1\/o=o2):=by
 unfold two at h;rcases zG.mp h with h | h
 ·by_cases h1:o1=[]
  ·rw[yO h1] at h;cases h
  ·rw[yN h1] at h;rw[zA.mp h];exact{h1,.inl rfl}
 ·by_cases h1:o2=[]
  ·rw[yO h1] at h;cases h
  ·rw[yN h1] at h;rw[zA.mp h];exact{h1,.inr rfl}
def SO {H:Hp} {o1 o2:List Str} {r1 r2:vE} (h1:H r1=some (.tup (o1.map V.str))) (h2:H r2=some (.tup (o2.map V.str))):RL (λo v=>∃r,v=V.ref r/\H r=some (.tup (o.map V.str))) (two o1 o2) (CI o1 o2 r1 r2):=by
 unfold two CI
 by_cases e1:o1=[] <;> by_cases e2:o2=[]
 ·rw[yO e1,yO e2,yO e1,yO e2];exact rfl
 ·rw[yO e1,yN e2,yO e1,yN e2];exact{_,_,rfl,{_,rfl,h2},rfl}
 ·rw[yN e1,yO e2,yN e1,yO e2];exact{_,_,rfl,{_,rfl,h1},rfl}
 ·rw[yN e1,yN e2,yN e1,yN e2];exact{_,_,rfl,{_,rfl,h1},_,_,rfl,{_,rfl,h2},rfl}
def LH (o1 o2:List Str):⇑(two o1 o2)<=2:=by
 unfold two
 by_cases h1:o1=[] <;> by_cases h2:o2=[] <;> simp[h1,h2]
def ME {ps o1 o2:List Str} {nms:List Str} (pn:ps.Nodup) (hs:(o1++o2).Nodup) (hi:∀p∈o1++o2,p∈ps) (hl:⇑(o1++o2)<=⇑ps) (nl:⇑nms=⇑(two o1 o2)) (nok:CD nms):GS ps (nms.zip (two o1 o2)):=by
 refine{?_,by rw[LC nl];exact nok,by rw[EX nl,Oj];exact hs,λx hx=>?_}
 ·rw[xC,nl,Nat.min_self];exact LH o1 o2
 ·let hm:x.2∈two o1 o2:=by
   have:=zP (f:=λy:Str×List Str=>y.2) hx;rw[EX nl] at this;exact this
  let⟨ne,e⟩:=SQ hm;rw[zh] at hl;rcases e with e | e <;> rw[e]
  ·exact{e▸ne,(),λp hp=>hi p (zJ _ hp)}
  ·exact{e▸ne,(),λp hp=>hi p (zI _ hp)}
def rA:df P w base 2 T.jH qK:=by
 nomatch T.jH,["_law_cell","_law_players","_law_m","_law_order","_law_alone","_law_cut","_law_rows"]
 let⟨c,pp,ps,rfl,hpp,pn,pl,kk⟩:=h;let sl:=yC;refine{_,(af (bN 2 qN (bM (bU T) hr T.cB (aa (pv 0) (aa ae ag))))
  (af (aI (ptr cZ (ax aR (pv 2) ae) ae)
  (ak (aq (aZ ag)))
  aA)
  (af (bN 3 qN (mS iP T.kh (aa (pv 1) ag)))
  (af (aI (ptr cZ (ax aR (ax aU (pv 2) ae) ae) ae)
  (ak (bu (TJ yD PySem.F.slot_list_reverse PySem.F.type_list_reverse KC (pv 3))))
  aA)
  (af (bN 4 qN (ax aR (ax aU (pv 2) ae) (ax aQ (eA aE T.bG (aa (pv 3) ag)) ae)))
  (af (bN 3 qN (ax eV (cY fV (pv 3) dE (dC (pv 4))) (cY fV (pv 3) (dC (ax aQ (pv 4) ae)) dE)))
  (af (bN 5 qN (ax aR (ax aU (pv 2) ae) (ax aQ (eA aE T.bG (aa (pv 3) ag)) ae)))
  (af (Pl (i:=6) (ts:=["_law_row"]) (ys:=[]) (js:=[]) (g:=(bW 0)) (tc:=(kF (eO (Tu K) (aW 0) (Ho dY)))) (te:=(aW 0)) (bf (aZ (aa (mS cL T.iH (aa (cY fV (pv 3) dE (dC (pv 5))) ag)) (aa (mS cL T.iH (aa (cY fV (pv 3) (dC (pv 5)) dE) ag)) ag)))) (gr 0) (fW (ptr (Bu hr.units) (pv 0) (bF ag))) (pv 0) qN)
  (ak (aq (Ph rfl (by rfl) T.kh (by rfl) T.Pw (aa (bM (eW T) hr T.d6 (aa (ax aU (pv 2) ae) (aa (eA aE T.bG (aa (pv 6) ag)) ag))) (aa (pv 6) ag))))))))))))),?_}
 ac_rfl;exists c,9,rfl,(),(),?_;let m0:0<=mixed c 9:=zw _ ∅;let m1:mixed c 9<2147483399:=zt _ ∅;generalize mixed c 9=m at m0 m1;left
 by_cases c0:m%4=0
 ·refine bR (zg (y6 V.int c0)) ?_
  exists by show 0<=sizeLine;ext,λD nD=>?_
  exact kk [] D [] _ {∅,{by simp,by simp},by simp,by simp} (aY nD) aB cD
 refine bX (ze λz=>c0 (V.int.inj z)) ?_;exists pp,_,rfl,.inl (aH.of hpp),λD nD=>?_;let s1:au H (upd H D (.lst (ps.map V.str))):=aY nD;let h1:upd H D (.lst (ps.map V.str)) D=some (.lst (ps.map V.str)):=aB;generalize upd H D (.lst (ps.map V.str))=H1 at s1 h1 ⊢;left;refine join (λU H'=>∃od:List Str,U=[some (.int c),some (.ref pp),some (.int m),some (.ref D),none,none,none]/\au H H'/\H' D=some (.lst (od.map V.str))/\od.Perm ps) (λN hN c1=>?_) (λN hN c1=>?_) ?_
 ·left
  refine{.inl {rfl,_,aH.of h1},D,_,rfl,rfl,h1,?_};change hN _ _ {ps.reverse,rfl,bj nD s1,by rw[aB,List.map_reverse],ps.reverse_perm}
 ·left
  exact hN _ _ {ps,rfl,s1,h1,List.Perm.refl _}
 clear s1 h1 H1;rintro σ1 H1 ⟨od,rfl,s1,h1,pm⟩;let ol:=pm.length_eq;exists D,_,rfl,.inl (aH.of h1),?_;rw[za];exists by show 0<(⇑od:Int)+2;ext,?_
 let a0:0<=m/5%((⇑od:Int)+2):=zw _ ();obtain⟨al,hal⟩:∃j:Nat,m/5%((⇑od:Int)+2)=(j:Int):={(m/5%((⇑od:Int)+2)).toNat,()}
 exists D,_,rfl,aH.of h1,λp2 n2=>?_;generalize hU2:upd H1 p2 _=H2;let s2:au H1 H2:=au.jy hU2 n2;let h2:H2 p2=some (.lst ((od.take al).map V.str)):=(jG hU2).trans (y6 (λz=>some (HO.lst z)) (by show ky (od.map V.str) none (some (m/5%((⇑od:Int)+2)))=_;rw[hal,AA,List.map_take]));clear hU2;exists D,_,rfl,aH.of (s2 _ _ h1),λp3 n3=>?_;generalize hU3:upd H2 p3 _=H3;let s3:au H2 H3:=au.jy hU3 n3;let h3:H3 p3=some (.lst ((od.drop (al+1)).map V.str)):=(jG hU3).trans (y6 (λz=>some (HO.lst z)) (by
  show ky (od.map V.str) (some (m/5%((⇑od:Int)+2)+1)) none=_;rw[hal,show((al:Int)+1)=((al+1:Nat):Int) by ext,fM,List.map_drop]))
 clear hU3;left;refine{p2,p3,_,_,rfl,rfl,aH.of (s3 _ _ h2),aH.of h3,?_,λp4 n4=>?_}
 ·rw[za,za,zQ,xD];ext
 generalize hU4:upd H3 p4 _=H4;let s4:au H3 H4:=au.jy hU4 n4;obtain⟨o0,eo0⟩:∃o0:List Str,o0=od.take al++od.drop (al+1):={_,rfl}
 let h4:H4 p4=some (.lst (o0.map V.str)):=(jG hU4).trans (by rw[eo0,zk]);clear hU4;let sub:o0.Sublist od:=by
  rw[eo0]
  conv=>rhs;rw[<-zZ al od]
  exact List.Sublist.append (List.Sublist.refl _) (by rw[List.drop_add_one_eq_tail_drop];exact List.tail_sublist _)
 let o0n:o0.Nodup:=sub.nodup (pm.nodup_iff.mpr pn);let o0l:⇑o0<=⇑ps:=by have:=sub.length_le;ext
 let o0i:∀p∈o0,p∈ps:=λp hp=>pm.mem_iff.mp (sub.subset hp);let s04:=s1.trans (s2.trans (s3.trans s4));clear s1 s2 s3 s4 h1 h2 h3 sub eo0 hal a0 n2 n3 n4 ol pm;exists p4,_,rfl,.inl (aH.of h4),?_;rw[za];exists by show 0<(⇑o0:Int)+1;ext,?_
 let a0:0<=m/8%((⇑o0:Int)+1):=zw _ ();obtain⟨al,hal⟩:∃j:Nat,m/8%((⇑o0:Int)+1)=(j:Int):={(m/8%((⇑o0:Int)+1)).toNat,()}
 exists p4,_,rfl,aH.of h4,λp5 n5=>?_;generalize hU5:upd H4 p5 _=H5;let s5:au H4 H5:=au.jy hU5 n5;let h5:H5 p5=some (.lst ((o0.take al).map V.str)):=(jG hU5).trans (y6 (λz=>some (HO.lst z)) (by show ky (o0.map V.str) none (some (m/8%((⇑o0:Int)+1)))=_;rw[hal,AA,List.map_take]));clear hU5;left;refine{p5,_,rfl,.inl {aH.of h5,?_}};intros p6 H6 s6 h6;exists p4,_,rfl,aH.of (s6 _ _ (s5 _ _ h4)),λp7 n7=>?_;generalize hU7:upd H6 p7 _=H7;let s7:au H6 H7:=au.jy hU7 n7;let h7:H7 p7=some (.lst ((o0.drop al).map V.str)):=(jG hU7).trans (y6 (λz=>some (HO.lst z)) (by show ky (o0.map V.str) (some (m/8%((⇑o0:Int)+1))) none=_;rw[hal,fM,List.map_drop]));clear hU7;left;refine{p7,_,rfl,.inl {aH.of h7,?_}};intros p8 H8 s8 h8;exists by show 2<=sizeLine;ext,?_
 intros p9 H9 s9 h9;exists{_,aH.of h9},?_;let s49:=s5.trans (s6.trans (s7.trans (s8.trans s9)));let h69:H9 p6=some (.tup ((o0.take al).map V.str)):=s9 _ _ (s8 _ _ (s7 _ _ h6));let h89:H9 p8=some (.tup ((o0.drop al).map V.str)):=s9 _ _ h8;let fl:(o0.take al++o0.drop al)=o0:=zZ al o0;generalize o0.take al=o1 at h69 fl;generalize o0.drop al=o2 at h89 fl;let s09:=s04.trans s49;clear s04 s49 s5 s6 s7 s8 s9 h5 h6 h7 h8;let tst:∀(o:List Str) (r:vE) (H':Hp) (R:Bool->Hp->Prop),H' r=some (.tup (o.map V.str))->(∀H'',au H' H''->R (!decide (o=[])) H'')->kF (eO (Tu K) (aW 0) (Ho dY)) [some (.ref r)] H' R:=λo r H' R hr hR=>by
  exists by show 0<=sizeLine;ext,?_
  intros pa Ha sa ha;refine{r,pa,_,_,rfl,rfl,.inr {cW.of (sa _ _ hr),cW.of ha},.inr (.inl rfl),?_};let e:decide (o.map V.str=[])=decide (o=[]):=by simp
  rw[e];exact{_,rfl,hR _ sa}
 refine oa 2 (Wv o1 o2 p6 p8) (λi U H'=>(∃v,U=[v])/\au H9 H') ?_ () rfl {{_,rfl},au.refl _} ?_ ?_ ?_ ?_
 ·intro i hi
  match i,hi with
  | 0,_=>exact zm _
  | 1,_=>show(if o1=[] then([]:List V) else [.ref p6]).length<=1;by_cases e:o1=[] <;> simp[e]
  | 2,_=>show(CI o1 o2 p6 p8).length<=2;unfold CI;by_cases e:o1=[] <;> by_cases e2:o2=[] <;> simp[e,e2]
 ·rintro i U H' hi ⟨_,sm⟩
  exact ED (aH.of (sm _ _ h9)) hi
 ·rintro U H' ⟨_,sm⟩
  exact{_,aH.of (sm _ _ h9),zm _}
 ·rintro i x U H' H'' hi ⟨⟨v,rfl⟩,sm⟩ ⟨rfl,hy⟩
  let hx:=hy _ (aH.of (sm _ _ h9))
  match i,hi with
  | 0,_=>
   let ex:V.ref p6=x:=yk hx;subst ex;refine tst o1 p6 _ _ (sm _ _ h69) λH3 s3=>?_
   by_cases e:o1=[]
   ·rw[zg e]
    exact JU.skip () (by show(if o1=[] then([]:List V) else [.ref p6])=[];rw[yO e]) {{_,rfl},sm.trans s3}
   ·rw[ze e]
    change JU.push () (by show(if o1=[] then([]:List V) else [.ref p6])=[]++[.ref p6];rw[yN e];rfl) {{_,rfl},sm.trans s3}
  | 1,_=>
   let ex:V.ref p8=x:=yk hx;subst ex;refine tst o2 p8 _ _ (sm _ _ h89) λH3 s3=>?_
   by_cases e:o2=[]
   ·rw[zg e]
    exact JU.skip () (by show CI o1 o2 p6 p8=(if o1=[] then([]:List V) else [.ref p6]);unfold CI;rw[yO e,zV]) {{_,rfl},sm.trans s3}
   ·rw[ze e]
    change JU.push () (by show CI o1 o2 p6 p8=(if o1=[] then([]:List V) else [.ref p6])++[.ref p8];unfold CI;rw[yN e]) {{_,rfl},sm.trans s3}
 ·rintro U H' ⟨_,sm⟩ D5 n5'
  generalize hU:upd H' D5 _=H5;let s5:au H9 H5:=sm.trans (au.jy hU n5');let hD5:H5 D5=some (.lst (CI o1 o2 p6 p8)):=jG hU;clear hU;let rl5:=SO (s5 _ _ h69) (s5 _ _ h89);let tl:=rl5.len;let t2:=LH o1 o2;exists D5,_,rfl,.inl (aH.of hD5),?_;rw[tl];left;refine{_,_,rfl,zW m0 ∅,?_,(),(),λnms pn2 H6 nl nok s6 h6=>?_}
  ·have:=zX (a:=m) 80 m0;ext
  left;let nl':⇑nms=⇑(two o1 o2):=by rw[nl];ext
  refine{false,false,pn2,D5,_,_,rfl,aH.of h6,aH.of (s6 _ _ hD5),by rw[za,tl];exact nl',λl H7 us s7 n7 h7 pr=>?_};rw[za] at pr;refine kk (nms.zip (two o1 o2)) l us H7 (ME pn (by rw[fl];exact o0n) (by rw[fl];exact o0i) (by rw[fl];exact o0l) nl' nok) (((s09.trans s5).trans s6).trans s7) h7 (AE nl' ?_ pr);exact rl5.imp λo v ⟨r,e1,e2⟩=>{r,e1,s7 _ _ (s6 _ _ e2)}
inductive uU (vs:List V) (H:Hp) (Q:VK) (E:XK):Prop
 | mk (m first last times:Int) (_:vs=[.int m,.int first,.int last,.int times]) (_:0<=m) (_:m<1099511627776) (_:0<=first) (_:first<=last) (_:last<=200) (_:2<=times) (_:times<=9) (_:∀(es:List Sc.End) v H',Ms first last times es->au H H'->Is H' (.tup (es.map mX)) v->Q v H')
def LB (first last:Int) (bs:List Int):Prop:=bs≠[]/\bs.Pairwise (·<·)/\∀b∈bs,first<=b/\b<=last
def Qu {first last:Int} {bs:List Int} (h:LB first last bs):∃b,(bs.map V.int)[⇑(bs.map V.int)-1]?=some (.int b)/\first<=b/\b<=last/\∀x∈bs,x<=b:=by
 let⟨ne,asc,hin⟩:=h;let e:=xY ne;let hm:=List.getLast_mem ne;refine{bs.getLast ne,?_,(hin _ hm).1,(hin _ hm).2,λx hx=>?_}
 ·rw[za,zK,List.getLast_eq_getElem,zd (by have:=yr.mpr ne;ext)];rfl
 ·rw[<-e] at hx asc
  rw[zU] at asc;rcases zG.mp hx with z | z
  ·exact xa (asc.2.2 x z _ (zA.mpr rfl))
  ·rw[zA.mp z];exact yR _
def Qt {first last b c:Int} {bs:List Int} (h:LB first last bs) (hb:∀x∈bs,x<=b) (h1:first<=b) (h2:b<c) (h3:c<=last):LB first last (bs++[c]):=by
 let⟨ne,asc,hin⟩:=h;refine{by simp,?_,λx hx=>?_}
 ·rw[zU]
  refine{asc,by simp,λx hx y hy=>?_};let ey:y=c:=by simpa using hy
  have:=hb x hx;ext
 ·rcases zG.mp hx with z | z
  ·exact hin x z
  ·let ey:x=c:=by simpa using z
   ext
noncomputable def mQ (m:Int) (n k:Nat):Nat:=if k<n then(k+(m/90).toNat)%n else(m/((k:Int)+7)%(n:Int)).toNat
def vO:df P w base 1 T.ma uU:=by
 nomatch T.ma,["_law_m","_law_first","_law_last","_law_times","_law_begins","_law_passes","_law_k","_law_spot"]
 let⟨m,first,last,times,rfl,m0,m1,f0,fl,l1,t0,t1,kk⟩:=h;let sl:=yC;refine{_,(af (aI (PW.pt (d8 (ptr cZ (pv 2) (pv 1)) (dw (ptr cZ (ax aR (pv 0) ae) ae))))
  (ak (aq (bF ag)))
  aA)
  (af (bN 4 qN (aZ (aa (ax aQ (pv 1) (ax aR (ax aU (pv 0) ae) (ax aQ (ax jt (pv 2) (pv 1)) ae))) ag)))
  (af (nK yP (PW.pt (dm (ptr fe (eA aE T.bG (aa (pv 4) ag)) (pv 3)) (dm (ptr fe (fG (pv 4) (nL je ae)) (pv 2)) (cP (ptr fq (ax aR (ax aU (pv 0) (ax aQ (ax dP ae (eA aE T.bG (aa (pv 4) ag))) ae)) ae) ae)))))
  (ak (bu (bJ yD yF yE bB (pv 4) (aa (eA (NK rfl) T.Vi (aa (pv 2) (aa (ax aQ (ax aQ (fG (pv 4) (nL je ae)) ae) (ax aR (ax aU (pv 0) (ax aQ (eA aE T.bG (aa (pv 4) ag)) ae)) ae)) ag))) ag)))))
  (af (Pl (i:=5) (ts:=["_law_begin"]) (ys:=[]) (js:=[]) (te:=(Hs dY)) (bf (pv 4)) (gr 0) bx (aZ ag) qN)
  (af (bY yP rfl (cQ (by rfl) T.cy (aa (pv 3) ag)) (ia 6 qN)
  (af (bN 7 qN (Il (ptr fe (pv 6) (eA aE T.bG (aa (pv 4) ag))) (ax aR (ax aQ (pv 6) (ax aU (pv 0) ae)) (eA aE T.bG (aa (pv 4) ag))) (ax aR (ax aU (pv 0) (ax aQ (pv 6) ae)) (eA aE T.bG (aa (pv 4) ag)))))
   (ak (bu (bJ yD yF yE bB (fG (pv 5) (pv 7)) (aa (ax aQ (pv 6) ae) ag))))))
  (ak (aq (mS cL T.iH (aa (nM (ts:=["_law_begin","_law_some"]) (ys:=[]) (js:=[]) (g:=(F6 K 2 (fB (bW 0) (fB (bW 1) F7)))) (te:=(Ho (bI (aW 0) (bI (LI (Tw K) (bI (aW 1) dY)) dY)))) (Pc (by rfl) T.Pw (aa (pv 4) (aa (pv 5) ag))) (dA (n:=2) rfl (aM (gr 0) (aM (gr 1) cK))) bx (bF (aa (pv 0) (aa (mS cL T.iH (aa (pv 1) ag)) ag)))) ag))))))))),?_}
 ac_rfl;left;let none_:∀(Hq:Hp),au H Hq->(∀p,Hq p=none->Q (.ref p) (upd Hq p (.tup []))):=λHq sq p n=>kk [] (.ref p) _ Np (sq.trans (aY n)) (cz aB cD);refine FG (decide (V.int last=V.int first)||decide (V.int (m%3)=V.int 0)) ?_ ?_ ?_
 ·intro c1 Z hz
  rw[c1,Bool.false_or] at hz;change hz
 ·intro c1;rw[c1,Bool.true_or]
 cases qv:(decide (V.int last=V.int first)||decide (V.int (m%3)=V.int 0)) with
 | true=>
  change{by show 0<=sizeLine;ext,none_ H (au.refl _)}
 | false=>
 exists by show 0<last-first+1;ext,?_
 let a0:0<=m/3%(last-first+1):=zw _ ();let a1:m/3%(last-first+1)<last-first+1:=zt _ ();exists by show 1<=sizeLine;ext,λB nB=>?_
 generalize hU1:upd H B _=H1;let s1:au H H1:=au.jy hU1 nB;let h1:H1 B=some (.lst ([first+m/3%(last-first+1)].map V.int)):=jG hU1;let b1:LB first last [first+m/3%(last-first+1)]:=by
  refine{by simp,by simp,λb hb=>?_};have:b=first+m/3%(last-first+1):=by simpa using hb
  ext
 clear hU1;left;refine sA (λn U H'=>∃bs:List Int,n=9-⇑bs/\U=[some (.int m),some (.int first),some (.int last),some (.int times),some (.ref B),none,none,none]/\au H H'/\H' B=some (.lst (bs.map V.int))/\LB first last bs/\(⇑bs:Int)<=times)
  (λU H'=>∃bs:List Int,U=[some (.int m),some (.int first),some (.int last),some (.int times),some (.ref B),none,none,none]/\au H H'/\H' B=some (.lst (bs.map V.int))/\LB first last bs/\(⇑bs:Int)<=times)
  {_,_,rfl,rfl,s1,h1,b1,by show(1:Int)<=times;ext} ?_ ?_
 ·rintro n U H2 ⟨bs,rfl,rfl,s2,h2,b2,bl⟩ N hN
  let⟨lb,hlb,lb0,lb1,lbx⟩:=Qu b2;let out:=hN _ _ {(bs),rfl,s2,h2,b2,bl};exists B,_,rfl,.inl (aH.of h2),?_;rw[za];left;let q0:0<=m/(7*(⇑bs:Int)+5)%4:=zw _ ∅;refine d5 (decide ((⇑bs:Int)<times)&&(decide (lb<last)&&decide (0<m/(7*(⇑bs:Int)+5)%4))) ?_ ?_ ?_
  ·intro c1 Z hz
   rw[c1,yW] at hz;exists B,_,-1,_,rfl,rfl,aH.of h2,oN hlb,?_;left;refine d5 (decide (lb<last)&&decide (0<m/(7*(⇑bs:Int)+5)%4)) ?_ ?_ hz
   ·intro c2 Z hz
    rw[c2,yW] at hz;exists B,_,rfl,.inl (aH.of h2),?_;rw[za];exists{by show 0<7*(⇑bs:Int)+5;ext,by show 7*(⇑bs:Int)+5<1073741824;ext},?_;change hz
   ·intro c2;rw[c2,yU]
  ·intro c1;rw[c1,yU]
  cases qw:(decide ((⇑bs:Int)<times)&&(decide (lb<last)&&decide (0<m/(7*(⇑bs:Int)+5)%4))) with
  | false=>exact bX rfl out
  | true=>
   simp only[zO,xF] at qw;let⟨c1,c2,c3⟩:=qw;refine bR rfl {λU H'=>∃bs':List Int,⇑bs'=⇑bs+1/\U=[some (.int m),some (.int first),some (.int last),some (.int times),some (.ref B),none,none,none]/\au H H'/\H' B=some (.lst (bs'.map V.int))/\LB first last bs'/\(⇑bs':Int)<=times,?_,?_}
   ·rintro U' H' ⟨bs',e1,e2,e3,e4,e5,e6⟩
    exact{9-⇑bs',(),bs',rfl,e2,e3,e4,e5,e6}
   exists .inl {rfl,_,aH.of h2},?_;exists B,_,-1,_,rfl,rfl,aH.of h2,oN hlb,?_;exists B,_,rfl,.inl (aH.of h2),?_;rw[za];exists{by show 0<(⇑bs:Int)+11;ext,by show(⇑bs:Int)+11<1073741824;ext},?_;left;let r0:0<=m/((⇑bs:Int)+11)%3:=zw _ ∅;refine{_,_,rfl,?_};exists B,_,_,rfl,rfl,h2,by rw[za];ext,?_
   left;refine{bs++[if lb+1+m/((⇑bs:Int)+11)%3<last then lb+1+m/((⇑bs:Int)+11)%3 else last],by rw[zh];rfl,rfl,bj nB s2,by rw[aB,zk];rfl,Qt b2 lbx lb0 ?_ ?_,by rw[zh];show((⇑bs+1:Nat):Int)<=times;ext}
   ·split <;> ext
   ·split <;> ext
 ·clear s1 h1 b1
  rintro σ1 H1 ⟨bs,rfl,s1,h1,b1,bl⟩;let bp:0<⇑bs:=yr.mpr b1.1;exists{_,aH.of h1},?_;refine Gv (by rw[za];ext) (aH.of h1) {(none),rfl} λD qs H2 s2 nD h2 nd nDq ql hq=>?_;rw[za] at ql;exists by ext,(),?_
  let neB:∀q∈qs,q≠B:=λq hq' e=>by
   have:=(hq q hq').1;rw[e,h1] at this;cases this
  let tn:((times.toNat:Nat):Int)=times:=()
  refine gB (λk U H'=>∃(v6 v7:Option V),U=[some (.int m),some (.int first),some (.int last),some (.int times),some (.ref B),some (.ref D),v6,v7]/\au H H'/\H' B=some (.lst (bs.map V.int))/\H' D=some (.lst (qs.map V.ref))/\∀(i:Nat) (q:vE),qs[i]?=some q->H' q=some (.lst ((cN (mQ m ⇑bs) k i).map V.int)))
   {none,none,rfl,s1.trans s2,s2 _ _ h1,h2,λi q e=>(hq q (zC e)).2} ?_ ?_
  ·intro k U H3 hk hh
   refine dH λN kN0 kR0 _ _=>?_;let⟨v6,v7,rfl,s3,hB3,hD3,hq3⟩:=hh;left;let m90:0<=m/90:=zW m0 ∅;let sl0:mQ m ⇑bs k<⇑bs:=by
    unfold mQ;split
    ·exact vj _ bp
    ·have:=zt (m/((k:Int)+7)) (b:=(⇑bs:Int)) ()
     have:=zw (m/((k:Int)+7)) (b:=(⇑bs:Int)) ();ext
   refine{B,_,rfl,.inl (aH.of hB3),?_};rw[za];left;refine Xf (H:=H3) (.int ((mQ m ⇑bs k:Nat):Int)) ?_ ?_ ?_
   ·intro c1 Z hz
    let c1':k<⇑bs:=by have:=ye c1;ext
    let e:((mQ m ⇑bs k:Nat):Int)=(0+(k:Int)+m/90)%(⇑bs:Int):=by
     unfold mQ;rw[yO c1',Int.natCast_emod,Int.natCast_add,Int.toNat_of_nonneg m90,Int.zero_add]
    rw[e] at hz;exists B,_,rfl,.inl (aH.of hB3),?_;rw[za];change{by show 0<(⇑bs:Int);ext,hz}
   ·intro c1 Z hz
    let c1':¬k<⇑bs:=by have:=of_decide_eq_false c1;ext
    let e:((mQ m ⇑bs k:Nat):Int)=m/(0+(k:Int)+7)%(⇑bs:Int):=by
     unfold mQ;rw[yN c1',Int.zero_add,Int.toNat_of_nonneg (zw _ ())]
    rw[e] at hz;exists{by show 0<0+(k:Int)+7;ext,by show 0+(k:Int)+7<1073741824;ext},?_;exists B,_,rfl,.inl (aH.of hB3),?_;rw[za];change{by show 0<(⇑bs:Int);ext,hz}
   left;let qe:qs[mQ m ⇑bs k]?=some (qs[mQ m ⇑bs k]'()):=zd ();generalize qs[mQ m ⇑bs k]'()=q at qe;let qm:=zC qe;refine{D,_,_,.ref q,rfl,rfl,aH.of hD3,bz (by rw[zK,qe];rfl),?_};let hq3':=hq3 _ _ qe;refine{.inl {rfl,_,aH.of hq3'},?_};exists q,_,_,rfl,rfl,hq3',by rw[za];have:=Bs (sp:=mQ m ⇑bs) (i:=mQ m ⇑bs k) (k:=k);ext,?_
   exists _,_,rfl,bj (s1.back (hq q qm).1) s3,by rw[aC (neB q qm).symm];exact hB3,by rw[aC (λz=>nDq (by rw[z];exact qm))];exact hD3,λi q' e=>?_
   by_cases ei:i=mQ m ⇑bs k
   ·have:q'=q:=by rw[ei,qe] at e;exact(yk e).symm
    rw[this,aB,cN,yO ei,zk,Int.zero_add,ei];rfl
   ·let nq:q'≠q:=λz=>by
     rw[z] at e;exact ei (IL nd e qe)
    rw[aC nq,cN,yN ei];exact hq3 i q' e
  ·rintro U H3 ⟨v6,v7,rfl,s3,hB3,hD3,hq3⟩
   left;let eb:=sY V.int 0 bs;let eq:=sY V.ref 0 qs;rw[ql] at eq;refine{false,false,B,D,_,_,rfl,aH.of hB3,aH.of hD3,?_};refine La (ws:=List.range ⇑bs) (e1:=λi=>.int (bs.getD i 0)) (e2:=λi=>.ref (qs.getD i 0)) (λi=>mX (bs.getD i 0,cN (mQ m ⇑bs) times.toNat i)) (λU=>∃v w,U=[v,w]) (by rw[zR];ext) (by rw[eb];exact aH.of hB3) (by rw[eq];exact aH.of hD3) {(none),none,rfl} ?_ ?_
   ·rintro i U H4 p R hi s4 hp ⟨v,w',rfl⟩ rr
    let il:=yS.mp hi;let qe:qs[i]?=some (qs.getD i 0):=by rw[List.getD_eq_getElem?_getD,zd ()];rfl
    let h5:=s4 _ _ (hq3 i _ qe);refine{p,_,rfl,cW.of hp,rfl,?_};refine{_,_,rfl,{_,_,rfl,{rfl,?_}}};left;refine{_,_,rfl,.inl {aH.of h5,?_}};intros p6 H6 s6 h6;exists cM,?_;intros p7 H7 s7 h7;exact rr _ _ _ (s6.trans s7) (cz h7 (aN cE (aN (cz (s7 _ _ h6) rK) cD))) {_,_,rfl}
   ·intro D5 vs5 H5 s5 _ h5 il5
    rw[Nq] at il5;left;refine{D5,_,rfl,.inl {aH.of h5,?_}};intros p6 H6 s6 h6;refine kk _ _ _ ?_ ((s3.trans s5).trans s6) (cz h6 (il5.mono s6));have:=KU (first:=first) (last:=last) (t:=times.toNat) (bs:=bs) (sp:=mQ m ⇑bs) () b1.1 b1.2.1 b1.2.2 ?_ ?_ ()
    ·rw[tn] at this;exact this
    ·intro j hj
     unfold mQ;split
     ·exact vj _ bp
     ·have:=zt (m/((j:Int)+7)) (b:=(⇑bs:Int)) ()
      have:=zw (m/((j:Int)+7)) (b:=(⇑bs:Int)) ();ext
    ·intro i hi
     let⟨j,hj,ej⟩:=QY (c:=(m/90).toNat) hi;exact{j,(),by unfold mQ;rw[yO hj];exact ej}
def GV (many:Int) (r:Rep):Prop:=0<=r.first/\r.first<=r.last/\r.last<many/\2<=r.times/\r.times<=9/\Ms r.first r.last r.times r.ends
def EU (many:Int) (rs:List Rep):Prop:=⇑rs<=4/\(∀r∈rs,GV many r)/\rs.Pairwise λa b=>a.last<b.first
inductive pA (vs:List V) (H:Hp) (Q:VK) (E:XK):Prop
 | mk (c many:Int) (_:vs=[.int c,.int many]) (_:many<=200) (_:∀(rs:List Rep) D us H',EU many rs->au H H'->H' D=some (.lst us)->aD H' (rs.map gF) us->Q (.ref D) H')
def pU:df P w base 2 T.iA pA:=by
 nomatch T.iA,["_law_cell","_law_many","_law_repeats","_law_bar","_law_k","_law_m","_law_first","_law_last","_law_times"]
 let⟨c,many,rfl,my,kk⟩:=h;let sl:=yC;refine{_,(af (bN 2 qN (aZ ag))
  (af (bN 3 qN ae)
  (af (bY yP rfl (cQ (by rfl) T.cy (aa ae ag)) (ia 4 qN)
  (af (bN 5 qN (bM (bU T) hr T.cB (aa (pv 0) (aa (ax aQ (pv 4) ae) ag))))
   (af (bN 6 qN (ax aQ (pv 3) (ax aR (pv 5) ae)))
   (af (bN 7 qN (ax aQ (pv 6) (ax aR (ax aU (pv 5) ae) ae)))
   (ak (aI (PW.pt (dm (ptr fe (pv 7) (pv 1)) (cP (ptr fq (ax aR (ax aU (pv 5) ae) ae) ae))))
   (af (bN 8 qN (ax aQ ae (ax aR (ax aU (pv 5) ae) (fG (aZ (aa ae (aa ae (aa ae ag)))) (ax aR (ax aU (pv 5) ae) ae)))))
    (af (bu (bJ yD yF yE bB (pv 2) (aa (bF (aa (pv 6) (aa (pv 7) (aa (pv 8) (aa (bM (vO T) hr T.ma (aa (ax aU (pv 5) ae) (aa (pv 6) (aa (pv 7) (aa (pv 8) ag))))) ag))))) ag)))
    (ak (bN 3 qN (ax aQ (pv 7) ae)))))
   aA))))))
  (ak (aq (pv 2)))))),?_}
 ac_rfl;left
 intros D nD s2 h2 H2
 exists by decide,(by decide),?_
 refine gB (λi U H'=>∃(rs:List Rep) (us:List V) (bar:Int),Lo [some (.int c),some (.int many),some (.ref D),some (.int bar)] 5 U/\au H H'/\H' D=some (.lst us)/\aD H' (rs.map gF) us/\⇑rs<=i/\0<=bar/\(∀r∈rs,GV many r/\r.last<bar)/\rs.Pairwise λa b=>a.last<b.first)
  {[],[],0,Lo.of rfl rfl,s2,h2,cD,zm _,∅,by simp,by simp} ?_ ?_
 ·intro i U H3 hi hh
  refine dH λN kN0 kR0 _ _=>?_;let⟨rs,us,bar,⟨e,rfl⟩,s3,h3,il3,rl,b0,vI,asc⟩:=hh;exists c,_,rfl,(),(),?_;let m0:0<=mixed c (0+(i:Int)+500):=zw _ ∅;let m1:mixed c (0+(i:Int)+500)<2147483399:=zt _ ∅;generalize mixed c (0+(i:Int)+500)=m at m0 m1;let a0:0<=m%4:=zw _ ∅;let e0:0<=m/4%8:=zw _ ∅;left;refine d5 (decide (bar+m%4+m/4%8<many)&&decide (0<m/32%4)) ?_ ?_ ?_
  ·intro c1 Z hz
   rw[c1,yW] at hz;change hz
  ·intro c1;rw[c1,yU]
  cases qw:(decide (bar+m%4+m/4%8<many)&&decide (0<m/32%4)) with
  | false=>
   change{rs,us,bar,Lo.of rfl rfl,s3,h3,il3,(),b0,vI,asc}
  | true=>
   simp only[zO,xF] at qw;let⟨c1,c2⟩:=qw;exists by show 3<=sizeLine;ext,?_
   intros p4 H4 s4 h4;let g0:0<=m/1024%3:=zw _ ∅;let g1:m/1024%3<3:=zt _ ∅;obtain⟨jj,hjj⟩:∃j:Nat,m/1024%3=(j:Int):={(m/1024%3).toNat,()}
   obtain⟨z,hz,z0,z1⟩:∃z:Int,[V.int 2,V.int 3,V.int 8][jj]?=some (.int z)/\2<=z/\z<=8:=by
    have:jj<3:=()
    match jj,this with
    | 0,_=>exact{2,rfl,∅,∅}
    | 1,_=>exact{3,rfl,∅,∅}
    | 2,_=>exact{8,rfl,∅,∅}
   exists p4,_,m/1024%3,.int z,rfl,rfl,aH.of h4,(by rw[hjj];exact bz hz),?_;exists by show 0<z;ext,?_
   let t0:0<=m/128%z:=zw _ ();let t1:m/128%z<z:=zt _ ();exists .inl {rfl,_,aH.of (s4 _ _ h3)},?_;left;refine{_,_,_,_,rfl,zW m0 ∅,?_,(),(),(),(),(),λes v H5 eok s5 h5=>?_}
   ·have:=zX (a:=m) 7 m0;ext
   exists by show 4<=sizeLine;ext,?_
   intros p6 H6 s6 h6;let s36:=s4.trans (s5.trans s6);let h36:=s36 _ _ h3;refine{D,us,_,rfl,rfl,h36,by have:=aO il3;ext,?_};let nt:cg (H6 D):=by rw[h36];exact λ_ z=>by cases z
   let ix:Is H6 (gF {bar+m%4,bar+m%4+m/4%8,2+m/128%z,es}) (.ref p6):=cz h6 (aN cE (aN cE (aN cE (aN (h5.mono s6) cD))));left;refine{rs++[{bar+m%4,bar+m%4+m/4%8,2+m/128%z,es}],_,_,Lo.of rfl rfl,bj nD (s3.trans s36),aB,?_,by rw[zh];show ⇑rs+1<=i+1;ext,(),λr hr=>?_,?_}
   ·rw[zk]
    exact de (Is.upd nt ix) (aD.upd nt (il3.mono s36))
   ·rcases zG.mp hr with y | y
    ·have:=vI r y
     exact{(this.1),()}
    ·rw[zA.mp y]
     exact{{by show 0<=bar+m%4;ext,by show bar+m%4<=bar+m%4+m/4%8;ext,c1,by show 2<=2+m/128%z;ext,by show 2+m/128%z<=9;ext,eok},by show bar+m%4+m/4%8<bar+m%4+m/4%8+1;ext}
   ·rw[zU]
    refine{asc,by simp,λa ha b hb=>?_};let eb:b=⟨bar+m%4,bar+m%4+m/4%8,2+m/128%z,es⟩:=by simpa using hb
    rw[eb];have:=(vI a ha).2;show a.last<bar+m%4;ext
 ·rintro U H3 ⟨rs,us,bar,⟨e,rfl⟩,s3,h3,il3,rl,b0,vI,asc⟩
  change kk rs D us H3 {rl,λr hr=>(vI r hr).1,asc} s3 h3 il3
def SA (H:Hp) (p:vE) (rs:List Rep):Prop:=⇑rs<=1000/\(∀r∈rs,⇑r.ends<=1000)/\∃rv,H p=some (.lst rv)/\aD H (rs.map gF) rv
theorem SA.mono {H H':Hp} (s:au H H') {p:vE} {rs:List Rep} (h:SA H p rs):SA H' p rs:=by
 let⟨h1,h2,rv,h3,h4⟩:=h;exact{h1,h2,rv,s _ _ h3,h4.mono s}
inductive hX (vs:List V) (H:Hp) (Q:VK) (E:XK):Prop
 | mk (p:vE) (rs:List Rep) (b:Int) (_:vs=[.ref p,.int b]) (_:SA H p rs) (_:∀H',au H H'->Q (.bl (jZ rs b)) H')
inductive kg (vs:List V) (H:Hp) (Q:VK) (E:XK):Prop
 | mk (p:vE) (rs:List Rep) (b:Int) (_:vs=[.ref p,.int b]) (_:SA H p rs) (_:∀H',au H H'->Q (.bl (eK rs b)) H')
def o6:df P w base 1 T.l8 kg:=by
 nomatch T.l8,["_law_repeats","_law_bar"]
 let⟨p,rs,b,rfl,⟨rl,el,rv,hp,il⟩,kk⟩:=h;let sl:=yC;let⟨ps,e1,e2,e3⟩:=gX il;let pln:⇑ps=⇑rs:=by rw[<-e1,za]
 refine{_,(ak (aq (eA (gH rfl) T.BD (aa (nM (ts:=["_law_first","_law_last","_law_times","_law_ends"]) (ys:=["_law_bar"]) (js:=[1]) (g:=(F6 K 4 (fB (bW 0) (fB (bW 1) (fB (bW 2) (fB (bW 3) F7)))))) (te:=(AQ (sr λi j=>.bl (decide (i<j))) (sr λi j=>.bl (decide (i<=j))) (aW 0) (aW 4) (aW 1))) (bf (pv 0)) (dA (n:=4) rfl (aM (gr 0) (aM (gr 1) (aM (gr 2) (aM (gr 3) cK))))) bx (Ip fe fX (pv 0) (pv 4) (pv 1))) ag)))),?_};ac_rfl;exists{_,aH.of hp},?_;refine dW (enc:=λq:Rep×V=>q.2) (ws:=ps) (λq=>.bl (decide (q.1.first<b)&&decide (b<=q.1.last))) (λU=>∃v1 v2 v3 v4,U=[v1,v2,v3,v4,some (.int b)]) () (by rw[e2];exact aH.of hp) {_,_,_,_,rfl} ?_ ?_
 ·rintro z U H1 R hz s1 ⟨v1,v2,v3,v4,rfl⟩ rr
  let⟨a,e,ev,ha,_⟩:=dz ((e3 z hz).mono s1);rw[ev];refine{a,_,rfl,cW.of ha,rfl,?_};refine{_,_,rfl,{_,_,rfl,{_,_,rfl,{_,_,rfl,{rfl,?_}}}}};left
  by_cases c:z.1.first<b
  ·refine bR (zg c) ?_
   change rr _ _ _ (au.refl _) (by rw[zg c,yW];unfold Is;rfl) {_,_,_,_,rfl}
  ·refine bX (ze c) ?_
   exact rr _ _ _ (au.refl _) (by rw[ze c,yU];unfold Is;rfl) {_,_,_,_,rfl}
 ·intro D vs H1 s1 nD hD ilD
  let ee:ps.map (λq:Rep×V=>Dt.bl (decide (q.1.first<b)&&decide (b<=q.1.last)))=(rs.map λr=>decide (r.first<b)&&decide (b<=r.last)).map Dt.bl:=by rw[<-e1,zB,zB];rfl
  rw[ee] at ilD;rw[ki ilD] at hD;exists D,_,rfl,aH.of hD,?_;have:=kk _ s1;unfold eK at this;rw[wH];exact this
def mH:df P w base 1 T.iV hX:=by
 nomatch T.iV,["_law_repeats","_law_bar","_law_first","_law_last","_law_times","_law_ends","_law_mine"]
 let⟨p,rs,b,rfl,⟨rl,el,rv,hp,il⟩,kk⟩:=h;let sl:=yC;let rvl:=aO il;refine{_,(af (bY yP rfl (bf (pv 0)) (dA (n:=4) rfl (aM (ia 2 qN) (aM (ia 3 qN) (aM (ia 4 qN) (aM (ia 5 qN) cK)))))
  (ak (aI (O4 fX fX (pv 2) (pv 1) (pv 3))
   (af (Pl (i:=6) (ts:=["_law_begin","_law_passes"]) (ys:=["_law_bar"]) (js:=[1]) (g:=(F6 K 2 (fB (bW 0) (fB (bW 1) F7)))) (tc:=(kF (eO (sr λi j=>.bl (decide (i<=j))) (aW 0) (aW 2)))) (te:=(aW 1)) (jr (pv 5)) (dA (n:=2) rfl (aM (gr 0) (aM (gr 1) cK))) (fW (ptr fX (pv 0) (pv 2))) (pv 1) qN)
    (ak (aq (Pf (dN (Bv hr.units) (pv 6) (aZ ag) (jz _)) (pP (dN iZ (pv 4) (fG (pv 6) (nL je ae)) (by with_unfolding_all rfl)))))))
   aA)))
  (ak (aq gU))),?_}
 ac_rfl;exists{_,aH.of hp},?_;refine eL (K:=K) (a:=p) (xs:=rv) (λi U H'=>H'=H/\(∀r∈rs.take i,G0 r b=false)/\∃(v2 v3 v4 v5 v6:Option V),U=[some (.ref p),some (.int b),v2,v3,v4,v5,v6]) {rfl,by simp,none,none,none,none,none,rfl} (λi U H' _ h=>by rw[h.1];exact aH.of hp) ?_ ?_
 ·rintro i x U H1 hx ⟨rfl,no,v2,v3,v4,v5,v6,rfl⟩
  let⟨r,hr',ir⟩:=cV il hx;let⟨a,ep,rfl,ha,ie⟩:=dz ir;let rin:=zC hr';let nxt:G0 r b=false->∀y∈rs.take (i+1),G0 y b=false:=λe y hy=>by
   rw[cm hr'] at hy;rcases zG.mp hy with z | z
   ·exact no y z
   ·rw[zA.mp z];exact e
  refine{a,_,rfl,cW.of ha,rfl,?_};refine{_,_,rfl,{_,_,rfl,{_,_,rfl,{_,_,rfl,{rfl,?_}}}}};left
  by_cases c1:r.first<=b
  ·refine bR (zg c1) ?_
   left
   by_cases c2:b<=r.last
   ·refine bR (zg c2) ?_
    left;obtain⟨ep',evs,e0,hep,ile⟩:∃ep' evs,V.ref ep=.ref ep'/\H1 ep'=some (.tup evs)/\aD H1 (r.ends.map mX) evs:=by unfold Is at ie;exact ie
    cases e0;let⟨ps,e1,e2,e3⟩:=gX ile;let pln:⇑ps=⇑r.ends:=by rw[<-e1,za]
    let elr:=el r rin;refine{{_,cW.of hep},?_};let hro:du rs b=some r:=BO hr' (by rw[zg c1,zg c2];rfl) λy hy=>no y hy;refine lV (ws:=ps) (enc:=λq:Sc.End×V=>q.2) (λq=>decide (q.1.1<=b)) (λq=>j9 q.1.2) (λU=>∃v w',U=[v,w',some (.int b)]) () {_,_,rfl} (λi H hi sm=>F5 (eQ sm hep) (by rw[<-e2,za];exact hi)) (λH sm=>{_,eQ sm hep,by rw[<-e2,za];exact zm _}) ?_ ?_ ?_
    ·rintro i x H H2 hi sm ⟨rfl,hy⟩
     let hx':=hy _ (eQ sm hep);rw[<-e2,zK,zd hi] at hx';cases hx';exact{(rfl),rfl}
    ·rintro z U H2 R N hz s2 ⟨v,w',rfl⟩ rr nn
     let⟨a2,q2,ev,ha2,hq2⟩:=pX ((e3 z hz).mono s2);rw[ev];refine{a2,_,rfl,cW.of ha2,rfl,?_};refine{_,_,rfl,{_,_,rfl,{rfl,?_}}};left
     by_cases c3:z.1.1<=b
     ·refine bR (zg c3) ?_
      change rr (zg c3) _ _ _ (au.refl _) (cz hq2 rK) {_,_,rfl}
     ·refine bX (ze c3) ?_
      exact nn (ze c3) _ _ (au.refl _) {_,_,rfl}
    ·intro D vs H2 s2 nD hD ilD
     let ee:(ps.filter λq:Sc.End×V=>decide (q.1.1<=b)).map (λq=>j9 q.1.2)=((r.ends.filter λe=>decide (e.1<=b)).map (·.2)).map j9:=by
      rw[<-e1,List.filter_map,zB,zB];rfl
     rw[ee] at ilD;let vl:=aO ilD;rw[za] at vl;exists by show 0<=sizeLine;ext,?_
     intros p3 H3 s3 h3;refine{D,p3,_,_,rfl,rfl,.inl {aH.of (s3 _ _ hD),aH.of h3},.inr (.inl rfl),?_};let hlp:jZ rs b=(match (r.ends.filter λe=>decide (e.1<=b)).getLast? with | none=>true | some e=>decide (r.times∈e.2)):=by unfold jZ;rw[hro];try rfl
     rw[hlp] at kk;clear hlp ee;generalize (r.ends.filter λe=>decide (e.1<=b))=fs at kk ilD vl;let s13:=s2.trans s3
     by_cases e:vs=[]
     ·refine{_,rfl,bR (zg e) ?_}
      have:fs=[]:=by
       rw[e] at vl;exact yt.mp vl.symm
      rw[this] at kk;exact kk _ s13
     ·refine{_,rfl,bX (ze e) ?_}
      let vp:0<⇑vs:=yr.mpr e;let⟨ps5,hps5,i5⟩:=cV ilD (i:=⇑vs-1) (zd ());rw[zK] at hps5;cases qf:fs[⇑vs-1]? with
      | none=>rw[qf] at hps5;cases hps5
      | some en=>
       rw[qf] at hps5;let e5:en.2=ps5:=yk hps5;subst e5;let gl:fs.getLast?=some en:=by rw[wo,<-vl];exact qf
       rw[gl] at kk;unfold j9 Is at i5;let⟨a5,us5,ev5,ha5,il5⟩:=i5;rw[dS il5] at ha5;left;refine{D,vs,-1,_,rfl,rfl,aH.of (s3 _ _ hD),oN (zd ()),?_};rw[ev5];refine{a5,_,rfl,.inr (cW.of (s3 _ _ ha5)),rfl,by rw[wj];exact yp.mpr λx _=>rfl,?_};show Q (.bl (F2 (.int r.times) (en.2.map V.int))) _;rw[As];exact kk _ s13
   ·refine bX (ze c2) ?_
    change{nxt (by unfold G0;rw[ze c2,wK]),_,_,_,_,_,rfl}
  ·refine bX (ze c1) ?_
   change{nxt (by unfold G0;rw[ze c1,yU]),_,_,_,_,_,rfl}
 ·rintro U H1 ⟨rfl,no,v2,v3,v4,v5,v6,rfl⟩
  left;let e:jZ rs b=true:=by
   unfold jZ;rw[show du rs b=none from xV.mpr λy hy=>by
    have:=no y (by rw[rvl,zN];exact hy);unfold G0 at this;rw[this];simp]
  rw[e] at kk;exact kk _ (au.refl _)
def EU.apart {many:Int} {rs:List Rep} (h:EU many rs):Apart rs:=by
 refine{λr hr=>?_,h.2.2};let⟨h1,h2,h3,h4,h5,e1,e2,e3,e4,e5⟩:=h.2.1 r hr;exact{h2,e5,λe he=>{(e3 e he).1,(e3 e he).2.1}}
inductive mr (vs:List V) (H:Hp) (Q:VK) (E:XK):Prop
 | mk (c many:Int) (p:vE) (rs:List Rep) (_:vs=[.int c,.int many,.ref p]) (_:SA H p rs) (_:EU many rs) (_:1<=many) (_:many<=200) (_:∀(jo:Option Jump) v H',(∀j,jo=some j->Lv many rs j)->au H H'->Is H' (dO jC jo) v->Q v H')
def Ml {l:List Int} {j:Nat} (h:j<⇑l):∃x,(l.map V.int)[j]?=some (.int x)/\x∈l:={l[j],by rw[zK,zd h];rfl,ym h}
def KH {m:Int} {l:List Int} (h:l≠[]):∃x,DR (l.map V.int) (m%(⇑l:Int))=some (.int x)/\x∈l:=by
 let hp:0<⇑l:=yr.mpr h;let a0:=zw m (b:=(⇑l:Int)) ();let a1:=zt m (b:=(⇑l:Int)) ();obtain⟨j,hj⟩:∃j:Nat,m%(⇑l:Int)=(j:Int):={(m%(⇑l:Int)).toNat,()}
 let⟨x,e1,e2⟩:=Ml (l:=l) (j:=j) ();exact{x,by rw[hj];exact bz e1,e2}
def JF (l:List Int):(l.map V.int).all mK=true:=by rw[wj];exact yp.mpr λ_ _=>rfl
def mI:df P w base 2 T.iW mr:=by
 nomatch T.iW,["_law_cell","_law_many","_law_repeats","_law_m","_law_lasts","_law_inside","_law_ats","_law_at","_law_tos","_law_to","_law_untils","_law_codas"]
 let⟨c,many,p,rs,rfl,rsl,rd,mn1,mn2,kk⟩:=h;let sl:=yC;let ap:=rd.apart;let⟨rl,el,rv,hp,il⟩:=id rsl;let⟨ps,e1,e2,e3⟩:=gX il;let pln:⇑ps=⇑rs:=by rw[<-e1,za]
 refine{_,(af (bN 3 qN (bM (bU T) hr T.cB (aa (pv 0) (aa ae ag))))
  (af (bN 4 qN (nM (ts:=["_law_first","_law_last","_law_times","_law_ends"]) (ys:=[]) (js:=[]) (g:=(F6 K 4 (fB (bW 0) (fB (bW 1) (fB (bW 2) (fB (bW 3) F7)))))) (te:=(aW 1)) (bf (pv 2)) (dA (n:=4) rfl (aM (gr 0) (aM (gr 1) (aM (gr 2) (aM (gr 3) cK))))) bx (pv 1)))
  (af (bN 5 qN (nM (ts:=["_law_bar"]) (ys:=["_law_repeats"]) (js:=[2]) (g:=(bW 0)) (tc:=(tB (LI (WM K) (bI (m9 [none,some 0] (L5 K (aW 1)) (bW 0) qF (AQ (sr λi j=>.bl (decide (i<=j))) (sr λi j=>.bl (decide (i<=j))) (eO (lK K) (aW 0) (tC (.int (0)))) (aW 1) (eO (lK K) (aW 0) (tC (.int (1)))))) dY)))) (te:=(aW 0)) (cQ (by rfl) T.cy (aa (pv 1) ag)) (gr 0) (fW (cU (eA (gH rfl) T.BD (aa (nM (ts:=["_law_one"]) (ys:=["_law_bar"]) (js:=[0]) (te:=(AQ (sr λi j=>.bl (decide (i<=j))) (sr λi j=>.bl (decide (i<=j))) (eO (lK K) (aW 0) (tC (.int (0)))) (aW 1) (eO (lK K) (aW 0) (tC (.int (1)))))) (bf (pv 1)) (gr 0) bx (Ip fX fX (bE (pv 0) ae) (pv 1) (bE (pv 0) ae))) ag)))) (pv 0)))
  (af (Pl (i:=6) (ts:=["_law_bar"]) (ys:=["_law_lasts","_law_inside"]) (js:=[4,5]) (g:=(bW 0)) (tc:=(Wz (kF (eO (UG K false) (aW 0) (aW 1))) (kF (eO (UG K true) (aW 0) (aW 2))))) (te:=(aW 0)) (cQ (by rfl) T.cy (aa (pv 1) ag)) (gr 0) (fW (PW.pt (d8 (gK iZ (pv 0) (pv 1) (by with_unfolding_all rfl)) (dw (gK eU (pv 0) (pv 2) (by with_unfolding_all rfl)))))) (pv 0) qN)
  (af (aI (PW.pt (d8 (ptr cZ (ax aR (ax aU (pv 3) ae) ae) ae) (dw (ptr (Bv hr.units) (pv 6) (aZ ag)))))
  (ak (aq aS))
  aA)
  (af (bN 7 qN (fG (pv 6) (ax aR (ax aU (pv 3) ae) (eA aE T.bG (aa (pv 6) ag)))))
  (af (Pl (i:=8) (ts:=["_law_bar"]) (ys:=["_law_repeats"]) (js:=[2]) (g:=(bW 0)) (tc:=(QT (tB (fR kg [] E0 (bI (aW 1) (bI (aW 0) dY)))))) (te:=(aW 0)) (cQ (by rfl) T.cy (aa (ax aQ (pv 7) ae) ag)) (gr 0) (fW (fH (cU (bM (o6 T) hr T.l8 (aa (pv 1) (aa (pv 0) ag)))))) (pv 0) qN)
  (af (bN 9 qN (fG (pv 8) (ax aR (ax aU (pv 3) ae) (eA aE T.bG (aa (pv 8) ag)))))
  (af (Pl (i:=10) (ts:=["_law_bar"]) (ys:=["_law_repeats"]) (js:=[2]) (g:=(bW 0)) (tc:=(tB (fR hX [] E0 (bI (aW 1) (bI (aW 0) dY))))) (te:=(aW 0)) (kI (by rfl) T.cy (aa (pv 9) (aa (ax aQ (pv 7) ae) ag))) (gr 0) (fW (cU (bM (mH T) hr T.iV (aa (pv 1) (aa (pv 0) ag))))) (pv 0) qN)
  (af (Pl (i:=11) (ts:=["_law_bar"]) (ys:=["_law_repeats"]) (js:=[2]) (g:=(bW 0)) (tc:=(Tg (QT (tB (fR kg [] E0 (bI (aW 1) (bI (aW 0) dY))))) (tB (fR hX [] E0 (bI (aW 1) (bI (aW 0) dY)))))) (te:=(aW 0)) (kI (by rfl) T.cy (aa (ax aQ (pv 7) ae) (aa (pv 1) ag))) (gr 0) (fW (PW.pt (dm (fH (cU (bM (o6 T) hr T.l8 (aa (pv 1) (aa (pv 0) ag))))) (cP (cU (bM (mH T) hr T.iV (aa (pv 1) (aa (pv 0) ag)))))))) (pv 0) qN)
  (af (aI (ptr (Bv hr.units) (pv 10) (aZ ag))
  (ak (aq aS))
  aA)
  (ak (aq (bF (aa (pv 7) (aa (pv 9) (aa (fG (pv 10) (ax aR (ax aU (pv 3) ae) (eA aE T.bG (aa (pv 10) ag)))) (aa (fG (ax eV (aZ (aa aS ag)) (pv 11)) (ax aR (ax aU (pv 3) ae) (ax aQ ae (eA aE T.bG (aa (pv 11) ag))))) ag)))))))))))))))))),?_}
 ac_rfl;exists c,520,rfl,(),(),?_;let m0:0<=mixed c 520:=zw _ ∅;generalize mixed c 520=m at m0;exists{_,aH.of hp},?_;refine dW (enc:=λq:Rep×V=>q.2) (ws:=ps) (λq=>.int q.1.last) (λU=>∃v1 v2 v3 v4,U=[v1,v2,v3,v4]) () (by rw[e2];exact aH.of hp) {_,_,_,_,rfl} ?_ ?_
 ·rintro z U H1 R hz s1 ⟨v1,v2,v3,v4,rfl⟩ rr
  let⟨a,e,ev,ha,_⟩:=dz ((e3 z hz).mono s1);rw[ev];refine{a,_,rfl,cW.of ha,rfl,?_};refine{_,_,rfl,{_,_,rfl,{_,_,rfl,{_,_,rfl,{rfl,?_}}}}};change rr _ _ _ (au.refl _) cE {_,_,_,_,rfl}
 intro D4 vs4 H4 s4 _ hD4 il4;let ee:ps.map (λq:Rep×V=>Dt.int q.1.last)=(rs.map (·.last)).map Dt.int:=by rw[<-e1,zB,zB];rfl
 rw[ee] at il4;rw[dS il4] at hD4;clear ee il4;exists by ext,(),?_
 let mt:((many.toNat:Nat):Int)=many:=()
 refine jD (rest:=[some (.ref p)]) (λb=>rs.any λr=>G0 r b) () {(none),rfl} ?_ ?_
 ·intro i H5 R i0 i1 s5 hR
  let s05:=s4.trans s5;exists{_,aH.of (s05 _ _ hp)},?_;refine dW (enc:=λq:Rep×V=>q.2) (ws:=ps) (λq=>.bl (G0 q.1 i)) (λU=>∃v1,U=[v1,some (.int i)]) () (by rw[e2];exact aH.of (s05 _ _ hp)) {_,rfl} ?_ ?_
  ·rintro z U H6 R hz s6 ⟨v1,rfl⟩ rr
   let⟨a,e,ev,ha,_⟩:=dz ((e3 z hz).mono (s05.trans s6));rw[ev];left
   by_cases c1:z.1.first<=i
   ·refine bR (zg c1) ?_
    change rr _ _ _ (au.refl _) (by unfold G0;rw[zg c1,yW];unfold Is;rfl) {_,rfl}
   ·refine bX (ze c1) ?_
    exact rr _ _ _ (au.refl _) (by unfold G0;rw[ze c1,yU];unfold Is;rfl) {_,rfl}
  ·intro D vs H6 s6 nD hD ilD
   let ee:ps.map (λq:Rep×V=>Dt.bl (G0 q.1 i))=(rs.map λr=>G0 r i).map Dt.bl:=by rw[<-e1,zB,zB];rfl
   rw[ee] at ilD;rw[ki ilD] at hD;exists D,_,rfl,aH.of hD,?_;rw[wH];exact{_,rfl,hR _ s6}
 intro D5 H5 s5 _ hD5;let hD45:=s5 _ _ hD4;generalize hins:mL (λb=>rs.any λr=>G0 r b) 0 many.toNat=ins at hD5;exists by ext,(),?_
 refine jD (rest:=[some (.ref D4),some (.ref D5)]) (λb=>decide (b∈rs.map (·.last))||!decide (b∈ins)) () ⟨none,rfl⟩ ?_ ?_
 ·intro i H6 R i0 i1 s6 hR
  exists D4,_,rfl,.inl (aH.of (s6 _ _ hD45)),rfl,JF _,?_;show∃k,V.bl (F2 (.int i) ((rs.map (·.last)).map V.int))=.bl k/\_;rw[As];refine{_,rfl,?_};refine FG (decide (i∈rs.map (·.last))||!decide (i∈ins)) ?_ ?_ (hR _ (au.refl _))
  ·intro c1 Z hz
   rw[c1,Bool.false_or] at hz;exists D5,_,rfl,.inl (aH.of (s6 _ _ hD5)),rfl,JF _,?_;show∃k,V.bl (!F2 (.int i) (ins.map V.int))=.bl k/\_;rw[As];exact{_,rfl,hz}
  ·intro c1;rw[c1,Bool.true_or]
 intro D6 H6 s6 _ hD6;let s06:=(s4.trans s5).trans s6;generalize hats:mL (λb=>decide (b∈rs.map (·.last))||!decide (b∈ins)) 0 many.toNat=ats at hD6;left;let out:∀H',au H H'->Q .bP H':=λH' s'=>kk none .bP H' (λj z=>by cases z) s' (by unfold dO Is;rfl)
 by_cases c0:m/7%3=0
 ·refine bR (zg (y6 V.int c0)) ?_
  change out _ s06
 refine bX (ze λz=>c0 (V.int.inj z)) ?_;exists by show 0<=sizeLine;ext,?_
 intros p7 H7 s7 h7;refine{D6,p7,_,_,rfl,rfl,.inl {aH.of (s7 _ _ hD6),aH.of h7},.inr (.inl rfl),?_}
 by_cases cn:ats=[]
 ·rw[cn]
  change out _ (s06.trans s7)
 let hn:decide (ats.map V.int=[])=false:=ze (by simpa using cn);rw[hn];let s07:=s06.trans s7;let hD67:=s7 _ _ hD6;left;let⟨at_,hat,atin⟩:=KH (m:=m/3) cn;let anp:0<⇑ats:=yr.mpr cn;refine{D6,_,rfl,.inl (aH.of hD67),?_};rw[za];exists by show 0<(⇑ats:Int);ext,?_
 refine{D6,_,_,_,rfl,rfl,aH.of hD67,hat,?_};rw[<-hats] at atin;let⟨a0,a1,a2⟩:=oJ atin;let a1':at_<many:=()
 let aleave:(∃r∈rs,r.last=at_)\/(rs.any λr=>G0 r at_)=false:=by
  rw[Bool.or_eq_true,xF] at a2;rcases a2 with z | z
  ·let⟨r,hr1,hr2⟩:=zH.mp z
   exact .inl {(r),hr1,hr2}
  ·right
   cases q:rs.any λr=>G0 r at_ with
   | false=>rfl
   | true=>
    have:at_∈ins:=by rw[<-hins];exact Jc a0 () q
    rw[zg this] at z;cases z
 clear hats atin hat;exists by show -2^62<=at_+1;ext,(by show at_+1<2^62;ext),?_
 let pt:∀H',au H7 H'->SA H' p rs:=λH' s'=>(rsl.mono s07).mono s';refine jD (rest:=[some (.ref p)]) (λb=>!eK rs b) (by show(at_+1).toNat<=sizeLine;ext) {(none),rfl} ?_ ?_
 ·intro i H8 R i0 i1 s8 hR
  change{p,rs,i,rfl,pt _ s8,λH' s'=>{_,rfl,hR _ s'}}
 intro D8 H8 s8 _ hD8;generalize htos:mL (λb=>!eK rs b) 0 (at_+1).toNat=tos at hD8;let tn:tos≠[]:=by
  rw[<-htos];refine List.ne_nil_of_mem (Jc (x:=0) () () ?_);have:eK rs 0=false:=by
   unfold eK;rw[vt];intro r hr';have:=(rd.2.1 r hr').1;rw[ze (show¬r.first<0 by ext)];simp
  rw[this];rfl
 let⟨to_,hto,toin⟩:=KH (m:=m/50) tn;let tnp:0<⇑tos:=yr.mpr tn;exists D8,_,rfl,.inl (aH.of hD8),?_;rw[za];exists by show 0<(⇑tos:Int);ext,?_
 refine{D8,_,_,_,rfl,rfl,aH.of hD8,hto,?_};rw[<-htos] at toin;let⟨b0,b1,b2⟩:=oJ toin;let b2':eK rs to_=false:=by cases q:eK rs to_ with
  | false=>rfl
  | true=>rw[q] at b2;cases b2
 clear htos toin hto tnp tn;exists _,_,rfl,{(),(),(by show -2^62<=at_+1;ext),by show at_+1<2^62;ext},?_;refine jD (rest:=[some (.ref p)]) (λb=>jZ rs b) (by show(at_+1-to_).toNat<=sizeLine;ext) {(none),rfl} ?_ ?_
 ·intro i H9 R i0 i1 s9 hR
  change{p,rs,i,rfl,pt _ (s8.trans s9),λH' s'=>{_,rfl,hR _ s'}}
 intro D9 H9 s9 _ hD9;generalize hunt:mL (λb=>jZ rs b) to_ (at_+1-to_).toNat=unt at hD9;exists _,_,rfl,{by show -2^62<=at_+1;ext,(by show at_+1<2^62;ext),(),()},?_;refine jD (rest:=[some (.ref p)]) (λb=>!eK rs b&&jZ rs b) (by show(many-(at_+1)).toNat<=sizeLine;ext) {(none),rfl} ?_ ?_
 ·intro i Ha R i0 i1 sa hR
  left;refine{p,rs,i,rfl,pt _ ((s8.trans s9).trans sa),λH' s'=>{_,rfl,?_}};cases q:eK rs i with
  | true=>
   rw[q] at hR;exact bX rfl (hR _ s')
  | false=>
   rw[q] at hR;refine bR rfl ?_;change{p,rs,i,rfl,(pt _ ((s8.trans s9).trans sa)).mono s',λH'' s''=>{_,rfl,hR _ (s'.trans s'')}}
 intro Da Ha sa _ hDa;generalize hcod:mL (λb=>!eK rs b&&jZ rs b) (at_+1) (many-(at_+1)).toNat=cod at hDa;let cl:⇑cod<=200:=by
  have:=Nm (f:=λb=>!eK rs b&&jZ rs b) (lo:=at_+1) (n:=(many-(at_+1)).toNat);rw[hcod] at this;ext
 let s0a:=((s07.trans s8).trans s9).trans sa;exists by show 0<=sizeLine;ext,?_
 intros pb Hb sb hb;let hD9b:=sb _ _ (sa _ _ hD9);refine{D9,pb,_,_,rfl,rfl,.inl {aH.of hD9b,aH.of hb},.inr (.inl rfl),?_}
 by_cases un:unt=[]
 ·rw[un]
  change out _ (s0a.trans sb)
 let hn2:decide (unt.map V.int=[])=false:=ze (by simpa using un);rw[hn2];let⟨u_,hu,uin⟩:=KH (m:=m/500) un;let unp:0<⇑unt:=yr.mpr un;rw[<-hunt] at uin;let⟨u0,u1,u2⟩:=oJ uin;exists D9,_,rfl,.inl (aH.of hD9b),?_;rw[za];exists by show 0<(⇑unt:Int);ext,?_
 refine{D9,_,_,_,rfl,rfl,aH.of hD9b,hu,?_};exists by show 1<=sizeLine;ext,?_
 intros pc Hc sc hc;let hDac:=sc _ _ (sb _ _ hDa);exists pc,Da,_,_,rfl,rfl,aH.of hc,aH.of hDac,by rw[za];show 1+⇑cod<=sizeLine;ext,?_
 intros pd Hd sd hd;exists Da,_,rfl,.inl (aH.of (sd _ _ hDac)),?_;rw[za];exists by show 0<1+(⇑cod:Int);ext,?_
 let k0:0<=m/7%(1+(⇑cod:Int)):=zw _ ();let k1:m/7%(1+(⇑cod:Int))<1+(⇑cod:Int):=zt _ ();obtain⟨kj,hkj⟩:∃j:Nat,m/7%(1+(⇑cod:Int))=(j:Int):={(m/7%(1+(⇑cod:Int))).toNat,()}
 obtain⟨co,cv,hcv,icv,cok⟩:∃(co:Option Int) (cv:V),(V.bP::cod.map V.int)[kj]?=some cv/\(∀H',Is H' (dO Dt.int co) cv)/\∀x,co=some x->x∈cod:=by
  cases kj with
  | zero=>exact{none,.bP,rfl,λH'=>by unfold dO Is;rfl,λx z=>by cases z}
  | succ k=>
   let⟨x,f1,f2⟩:=Ml (l:=cod) (j:=k) ();exact{some x,.int x,by simpa using f1,λH'=>by unfold dO Is;rfl,λy z=>by cases z;exact f2}
 refine{pd,_,_,_,rfl,rfl,aH.of hd,(by rw[hkj];exact bz hcv),?_};exists by show 4<=sizeLine;ext,?_
 intros pe He se he;refine kk (some {(at_),to_,u_,co}) _ _ (λj z=>?_) ((((s0a.trans sb).trans sc).trans sd).trans se) (cz he (aN cE (aN cE (aN cE (aN (icv _) cD)))));cases z;refine T7 ap a0 a1' aleave b0 () b2' u0 () u2 λx hx=>?_;let xin:=cok x hx;rw[<-hcod] at xin;let⟨x0,x1,x2⟩:=oJ xin;rw[zO] at x2;refine{(),(),?_,x2.2};cases q:eK rs x with
 | false=>rfl
 | true=>rw[q] at x2;cases x2.1
def Oh:∀x∈FY,∀z∈([2,3,5]:List Int),(red x.1 (x.2*z)).1*(red x.1 x.2).2<(red x.1 x.2).1*(red x.1 (x.2*z)).2:=by decide +kernel
structure mh (most:Int) (S:bH):Prop where
 UH:1<=⇑S.players
 pl:⇑S.players<=4
 pn:CD S.players
 ins:VN S.ao
 st:GS S.players S.aK
 b1:1<=⇑S.aG
 bl:(⇑S.aG:Int)<=most
 bd:∀b∈S.aG,N4 b
 up:∀u,S.aF=some u->∃x z,S.aG[0]?=some x/\z∈([2,3,5]:List Int)/\u=red x.aP.1 (x.aP.2*z)
 hs:List.Sublist (S.holds.map (·.1)) S.players
 hr:∀x∈S.holds,Mp (S.ao.map (·.1)) ⇑S.aG x.2
 no:GW S S.aJ
 nl:⇑S.aJ<=9*⇑S.aG
 rp:EU ⇑S.aG S.repeats
 ju:∀j,S.bC=some j->Lv ⇑S.aG S.repeats j
def BV {aG:List Sc.Oa} {upb:Option (Int×Int)} {S:bH} (eb:S.aG=aG) (eu:S.aF=upb) (bd:∀b∈aG,N4 b) (up:∀u,upb=some u->∃x z,aG[0]?=some x/\z∈([2,3,5]:List Int)/\u=red x.aP.1 (x.aP.2*z)) (b:Nat) (hb:b<⇑aG):Lu (S.len b):=by
 let hm:Lu (S.aP b):=by
  unfold bH.aP;rw[eb,zd hb];let⟨m1,m2,m3,m4,m5⟩:=jX (bd _ (ym hb)).1;exact KL () () () ()
 unfold bH.len;rw[eu];cases q:upb with
 | none=>exact hm
 | some u=>
  dsimp only;split
  ·let⟨x,z,e1,e2,e3⟩:=up u q
   let⟨m1,m2,m3,m4,m5⟩:=jX (bd _ (zC e1)).1;rw[e3];let z1:2<=z/\z<=5:=by
    simp only[zD,zE,yV] at e2;ext
   let p1:0<x.aP.2*z:=xB () ();let p2:x.aP.2*z<=32*5:=wd m5 z1.2 () ∅;exact KL () () p1 ()
  ·exact hm
inductive sI (K:yB) (vs:List V) (H:Hp) (Q:VK) (E:XK):Prop
 | mk (a:vE) (ns:List Int) (most:Int) (_:vs=[.ref a,.int most]) (_:aH K H a (ns.map V.int)) (_:⇑ns<=1000) (_:1<=most) (_:most<=24) (_:∀S p H',mh most S->au H H'->lg H' p S->Q (.ref p) H')
def tE:df P w base 4 T.kA (sI K):=by
 nomatch T.kA,["_law_script","_law_most","_law_m","_law_players","_law_instruments","_law_many","_law_bars","_law_upbeat","_law_holds","_law_notes","_law_repeats","_law_jump","_law_staffs"]
 let⟨a,ns,most,rfl,hS,nl,mo1,mo2,kk⟩:=h;let sl:=yC;refine{_,(af (bN 2 qN (bM (bU T) hr T.cB (aa (bM (bV T) hr T.cb (aa (pv 0) (aa ae ag))) (aa ae ag))))
  (af (bN 3 qN (bM (eW T) hr T.d6 (aa (ax aU (pv 2) ae) (aa (ax aQ ae (ax aR (pv 2) ae)) ag))))
  (af (bN 4 qN (bM (lO T) hr T.fi (aa (bM (bV T) hr T.cb (aa (pv 0) (aa ae ag))) ag)))
  (af (bN 5 qN (ax aQ ae (ax aR (bM (bU T) hr T.cB (aa (bM (bV T) hr T.cb (aa (pv 0) (aa ae ag))) (aa ae ag))) (pv 1))))
  (af (bN 6 qN (bM (vP T) hr T.md (aa (bM (bV T) hr T.cb (aa (pv 0) (aa ae ag))) (aa (pv 5) ag))))
  (af (bN 7 qN aS)
  (af (aI (ptr cZ (ax aR (ax aU (pv 2) ae) ae) ae)
  (ak (bN 7 qN (bM (fY T) hr T.fN (aa (bE (bE (fG (pv 6) ae) ae) ae) (aa (ax dP (bE (bE (fG (pv 6) ae) ae) ae) (fG (aZ (aa ae (aa ae (aa ae ag)))) (ax aR (ax aU (pv 2) ae) ae))) ag)))))
  aA)
  (af (bN 8 qN (bM (tI T) hr T.kE (aa (bM (bV T) hr T.cb (aa (pv 0) (aa ae ag))) (aa (pv 3) (aa (pv 4) (aa (pv 5) ag))))))
  (af (bN 9 qN (bM (tG T) hr T.kC (aa (bM (bV T) hr T.cb (aa (pv 0) (aa ae ag))) (aa (pv 3) (aa (pv 6) (aa (pv 7) ag))))))
  (af (bN 10 qN (bM (pU T) hr T.iA (aa (bM (bV T) hr T.cb (aa (pv 0) (aa ae ag))) (aa (pv 5) ag))))
  (af (bN 11 qN (bM (mI T) hr T.iW (aa (bM (bV T) hr T.cb (aa (pv 0) (aa ae ag))) (aa (pv 5) (aa (pv 10) ag)))))
  (af (bN 12 qN (bM (rA T) hr T.jH (aa (bM (bV T) hr T.cb (aa (pv 0) (aa ae ag))) (aa (pv 3) ag))))
  (ak (aq (bF (aa (pv 3) (aa (pv 4) (aa (pv 12) (aa (pv 6) (aa (pv 7) (aa (pv 8) (aa (pv 9) (aa (pv 10) (aa (pv 11) ag)))))))))))))))))))))))),?_}
 ac_rfl;exists a,ns,0,rfl,hS,(by decide),nl,λc0=>?_;exists c0,1,rfl,(by decide),(by decide),?_;let m0:0<=mixed c0 1:=zw _ ∅;let m1:mixed c0 1<2147483399:=zt _ ∅;generalize mixed c0 1=m at m0 m1;let a0:0<=m%4:=zw _ ∅;let a1:m%4<4:=zt _ ∅;left;refine{_,_,rfl,zW m0 ∅,?_,(),(),λps pp H1 pl pok s1 hpp=>?_}
 ·have:=zX (a:=m) 4 m0;ext
 let UH:1<=⇑ps/\⇑ps<=4:=()
 exists a,ns,1,rfl,s1.seq hS,(by decide),nl,λc1=>?_;left;intro ins ip iv H2 iok s2 hip ili;exists a,ns,2,rfl,(s1.trans s2).seq hS,(by decide),nl,λc2=>?_;exists c2,2,rfl,(by decide),(by decide),?_;let n0:0<=mixed c2 2:=zw _ ∅;generalize mixed c2 2=n at n0;exists by show 0<most;ext,?_
 let d0:0<=n%most:=zw _ ();let d1:n%most<most:=zt _ ();exists a,ns,2,rfl,(s1.trans s2).seq hS,(by decide),nl,λc3=>?_;exists c3,_,rfl,(),(),λaG bp bv H3 bl AB s3 nb hbp ilb=>?_;let bl2:((⇑aG:Nat):Int)=1+n%most:=()
 let bvl:=aO ilb;let s03:=(s1.trans s2).trans s3;let x0:aG[0]?=some (aG[0]'()):=zd ();generalize aG[0]'()=x at x0;let⟨y,hy,iy⟩:=cV ilb (i:=0) (zd ());let ey:y=x:=by rw[x0] at hy;exact(yk hy).symm
 subst ey;let⟨ab,mv,qb,ev,hab,imv,_⟩:=Ar iy;let xin:y.aP∈FY:=(AB y (zC x0)).1;let⟨e1,e2,e3,e4,e5⟩:=jX xin;let av:bv[0]?=some (.ref ab):=by rw[<-ev];exact zd ()
 cases fg (o:=some y.aP) imv with
 | ref hmv=>
 rename_i am;left;refine join (λU H'=>au H3 H'/\∃(upb:Option (Int×Int)) (uv:V),U=[some (.ref a),some (.int most),some (.int m),some (.ref pp),some (.ref ip),some (.int (1+n%most)),some (.ref bp),some uv,none,none,none,none,none]/\Is H' (dO dL upb) uv/\∀u,upb=some u->∃x z,aG[0]?=some x/\z∈([2,3,5]:List Int)/\u=red x.aP.1 (x.aP.2*z)) (λN hN cc=>?_) (λN hN cc=>?_) ?_
 ·left
  refine{bp,bv,0,_,rfl,rfl,aH.of hbp,bz av,?_};exists bp,bv,0,_,rfl,rfl,aH.of hbp,bz av,?_;exists by show 3<=sizeLine;ext,?_
  intros p4 H4 s4 h4;let g0:0<=m/64%3:=zw _ ∅;let g1:m/64%3<3:=zt _ ∅;obtain⟨jj,hjj⟩:∃j:Nat,m/64%3=(j:Int):={(m/64%3).toNat,()}
  obtain⟨z,hz,zi⟩:∃z:Int,[V.int 2,V.int 3,V.int 5][jj]?=some (.int z)/\z∈([2,3,5]:List Int):=by
   have:jj<3:=()
   match jj,this with
   | 0,_=>exact{2,rfl,∅}
   | 1,_=>exact{3,rfl,∅}
   | 2,_=>exact{5,rfl,∅}
  let z1:2<=z/\z<=5:=by
   simp only[zD,zE,yV] at zi;ext
  exists p4,_,m/64%3,.int z,rfl,rfl,aH.of h4,(by rw[hjj];exact bz hz),?_;exists .inl {(()),()},?_;let p1:0<y.aP.2*z:=xB () ();let p2:y.aP.2*z<=32*5:=wd e5 z1.2 () ∅;refine{_,_,rfl,(),p1,(cu (n:=10) () ()).mono ∅,λp5 H5 s5 h5=>?_};change hN _ _ {s4.trans s5,some (red y.aP.1 (y.aP.2*z)),.ref p5,rfl,iM h5,λu q=>by cases q;exact{(y),z,x0,zi,rfl}}
 ·left
  exact hN _ _ {au.refl _,none,.bP,rfl,by unfold dO Is;rfl,λu z=>by cases z}
 rintro σ4 H4 ⟨s4,upb,uv,rfl,iuv,uok⟩;let s04:=s03.trans s4;exists a,ns,1,rfl,s04.seq hS,(by decide),nl,λc5=>?_;left;let s14:=(s2.trans s3).trans s4;let s24:=s3.trans s4;refine{c5,_,pp,ip,ps,ins,iv,rfl,s14 _ _ hpp,s24 _ _ hip,ili.mono s24,(),by have:=iok.1;ext,(),λhs hp hv H5 hsub hrow s5 hhp rlh=>?_};let s05:=s04.trans s5;exists a,ns,3,rfl,s05.seq hS,(by decide),nl,λc6=>?_;left;let s15:=s14.trans s5;let s25:=s24.trans s5;let s35:=s4.trans s5;refine{c6,pp,bp,{players:=ps,aG:=aG,aF:=upb},bv,uv,rfl,s15 _ _ hpp,s35 _ _ hbp,ilb.mono s35,iuv.mono s5,by show ⇑ps<=9;ext,pok.2,by show ⇑aG<=200;ext,AB,BV rfl rfl AB uok,λnts np nv H6 nok nlen s6 hnp rln=>?_};let s06:=s05.trans s6;exists a,ns,4,rfl,s06.seq hS,(by decide),nl,λc7=>?_;exists c7,_,rfl,(),λrs rp rv H7 vI s7 hrp ilr=>?_;let s07:=s06.trans s7;exists a,ns,4,rfl,s07.seq hS,(by decide),nl,λc8=>?_;left;let rsl:SA H7 rp rs:={by have:=vI.1;ext,λr hr'=>by have:=(vI.2.1 r hr').2.2.2.2.2.2.1;ext,rv,hrp,ilr}
 refine{c8,_,rp,rs,rfl,rsl,vI,(),(),λjo jv H8 jok s8 ij=>?_};let s08:=s07.trans s8;exists a,ns,0,rfl,s08.seq hS,(by decide),nl,λc9=>?_;left;let s18:=((s15.trans s6).trans s7).trans s8;refine{c9,pp,ps,rfl,s18 _ _ hpp,pok.2,(),λsts sp sv H9 stok s9 hsp ils=>?_};exists by show 9<=sizeLine;ext,?_
 intros pa Ha sa ha;let s9a:=sa;let s8a:=s9.trans sa;let s7a:=s8.trans s8a;let s6a:=s7.trans s7a;let s5a:=s6.trans s6a;let s4a:=s5.trans s5a;let s3a:=s4.trans s4a;let s2a:=s3.trans s3a;let s1a:=s2.trans s2a;refine kk {(ps),ins,sts,aG,upb,hs,nts,rs,jo} pa Ha ?_ (s08.trans s8a) ?_
 ·exact{UH.1,UH.2,pok,iok,stok,by show 1<=⇑aG;ext,by show(⇑aG:Int)<=most;ext,AB,uok,hsub,λx hx=>by show Mp (ins.map (·.1)) ⇑aG x.2;rw[bl2];exact hrow x hx,nok,nlen,by show EU ⇑aG rs;rw[bl2];exact vI,λj hj=>by show Lv ⇑aG rs j;rw[bl2];exact jok j hj}
 ·exact{pp,ip,sp,bp,hp,np,rp,uv,jv,iv,sv,bv,hv,nv,rv,ha,s1a _ _ hpp,{s2a _ _ hip,ili.mono s2a},{s9a _ _ hsp,ils.mono s9a},{s3a _ _ hbp,ilb.mono s3a},iuv.mono s4a,{s5a _ _ hhp,rlh.imp λx v z=>z.mono s5a},{s6a _ _ hnp,rln.imp λx v z=>z.mono s6a},{s7a _ _ hrp,ilr.mono s7a},ij.mono s8a}
def nT {n:Str} (h:gw n):⇑n<=12:=by
 unfold gw cI at h;split at h
 ·cases h
 ·split at h
  ·cases h
  ·ext
def Jn {n:Int} (h:NB n):⇑(dec n)<=5:=bD (by have:=h.1;ext) (by have:=h.2;ext)
theorem Hk:∀es:List Sc.End,J7 es=⇑((es.map (·.2)).flatten)
 | []=>rfl
 | e::r=>by rw[zj,ya,zh,<-Hk r];rfl
theorem Ic {n:Nat} (hn:n<=999):∀{l rs:List Rep},(rs++l).Pairwise (λa b=>a.last<b.first)->(∀r∈l,GV n r)->AD n rs l
 | [],_,_,_=>trivial
 | r::l,rs,asc,ok=>by
  let⟨h1,h2,h3,h4,h5,e1,e2,e3,e4,e5⟩:=ok r zr;refine{λb hb=>?_,?_,{by rw[Hk];ext,(),(),()},Ic hn (by rw[zF];exact asc) λx hx=>ok x (zp _ hx)}
  ·rcases zG.mp hb with z | z
   ·simp only[zD,zE,yV] at z
    rcases z with z | z <;> ext
   ·let⟨e,he,rfl⟩:=zH.mp z
    have:=(e3 e he).2.1;ext
  ·let fin:(decide (r.first<=r.last)&&gd r)=true:=by rw[zg h2];exact e1
   unfold lE;cases q:rs.getLast? with
   | none=>exact fin
   | some p=>
    have:=(zU.mp asc).2.2 p (w8 q) r zr;dsimp only;rw[yN ()];exact fin
def RP {most:Int} {S:bH} (hm:most<=24) (D:mh most S):Xg S:=by
 let bl:=D.bl;let b1:=D.b1;let pl:=D.pl;let⟨i1,i2,i3⟩:=D.ins;let⟨t1,t2,t3,t4⟩:=D.st;let nl:=D.nl;let⟨r1,r2,r3⟩:=D.rp;let hl:=D.hs.length_le;rw[za] at hl;refine{D.pn.2,(),i2.2,(),t2.2,t3,λx hx=>(t4 x hx).2.2,λx hx=>by have:=(t4 x hx).2.1;ext,(),(),λb hb=>?_,λu hu=>?_,D.hs.nodup D.pn.2,(),λx hx=>?_,D.no.1,(),λx hx=>?_,Ic () (by rw[List.nil_append];exact r3) r2,(),λr hr=>?_,λj hj=>?_}
 ·let⟨m1,m2,m3,m4,m5⟩:=jX (D.bd b hb).1
  exact{(()),(),(),()}
 ·let⟨x,z,e1,e2,e3⟩:=D.up u hu
  let xin:=(D.bd x (zC e1)).1;let⟨m1,m2,m3,m4,m5⟩:=jX xin;refine{(),?_,?_}
  ·unfold bH.aP
   rw[e1,e3];exact Oh x.aP xin z e2
  ·let z1:2<=z/\z<=5:=by
    simp only[zD,zE,yV] at e2;ext
   let p1:0<x.aP.2*z:=xB () ();let p2:x.aP.2*z<=32*5:=wd m5 z1.2 () ∅;let⟨q1,q2,q3,q4⟩:=KL (t:=x.aP.1) (b:=x.aP.2*z) () () p1 ();let⟨_,q5,_⟩:=q1.pos;rw[e3];exact{(cu (n:=10) () ()).mono ∅,(cu (n:=10) () ()).mono ∅}
 ·let⟨h1,h2,h3,h4⟩:=D.hr x hx
  exact{h1,(),h3,D.hs.subset (zP (f:=λy:Str×List (Int×Str)=>y.1) hx),λh hh=>{(h4 h hh).2.1,(h4 h hh).2.2}}
 ·let⟨h1,h2,h3,h4,h5,h6,h7⟩:=D.no.2 x hx
  exact{h1,h2,h3,h4,λit hit=>(h5 it hit).1,h6}
 ·have:=(r2 r hr).2.2.2.2.2.2.1
  ext
 ·let⟨j1,j2,j3,j4,j5⟩:=D.ju j hj
  refine{λb hb=>?_,j1};rcases zG.mp hb with z | z
  ·simp only[zD,zE,yV] at z
   rcases z with z | z | z <;> ext
  ·cases q:j.fh with
   | none=>rw[q] at z;cases z
   | some c=>
    rw[q] at z;have:b=c:=by simpa using z
    have:=(j5 c q).2;ext
def EK {many:Int} {r:Rep} (hm:many<=200) (h:GV many r):NY r:=by
 let⟨h1,h2,h3,h4,h5,e1,e2,e3,e4,e5⟩:=h;exact{{{(h1),()},{(()),()},h4,h5,λe he=>{by have:=(e3 e he).1;ext,by have:=(e3 e he).2.1;ext,(e3 e he).2.2.1,(e3 e he).2.2.2.2}},e2,λe he=>(e3 e he).2.2.2.1}
def Qg {most:Int} {S:bH} (hm:most<=24) (D:mh most S):∀t∈dM S,TD t:=by
 let bl:=D.bl;let b1:=D.b1;let pl:=D.pl;let⟨i1,i2,i3⟩:=D.ins;let⟨t1,t2,t3,t4⟩:=D.st;let⟨r1,r2,r3⟩:=D.rp;let pnm:∀p∈S.players,gw p:=D.pn.1;let inm:∀p∈S.ao.map (·.1),gw p:=i2.1;intro t ht;unfold dM at ht;simp only[zG] at ht;rcases ht with((((((ht | ht) | ht) | ht) | ht) | ht) | ht) | (ht | ht)
 ·let⟨n,hn,rfl⟩:=zH.mp ht
  refine{pnm n hn,by show 2<=100;decide,λw hw=>?_};simp only[Sc.wordsOf,zD,zE,yV] at hw;rcases hw with rfl | rfl
  ·decide
  ·have:=nT (pnm _ hn);ext
 ·let⟨x,hx,rfl⟩:=zH.mp ht
  let⟨q1,q2,q3,q4,q5,q6⟩:=i3 x hx;let nx:=inm x.1 (zP (f:=λy:Str×(Int×Int)×(Int×Int)=>y.1) hx);let⟨p1,p2,_⟩:=q4.pos;refine{{(nx),q1,q2,q3,q4,q5,q6},by show 5<=100;decide,λw hw=>?_};simp only[Sc.wordsOf,zD,zE,yV] at hw;let⟨o1,o2,o3,o4,_⟩:=q1;rcases hw with rfl | rfl | rfl | rfl | rfl
  ·decide
  ·have:=nT nx;ext
  ·have:=bD (n:=x.2.1.1) () ();ext
  ·have:=bD (n:=x.2.1.2) () ();ext
  ·have:=kL (x:=x.2.2) () q5 () q6;ext
 ·let⟨x,hx,rfl⟩:=zH.mp ht
  let⟨q1,q2,q3⟩:=t4 x hx;let nx:=t2.1 x.1 (zP (f:=λy:Str×List Str=>y.1) hx);refine{{nx,q1,λp hp=>pnm p (q3 p hp)},by show ⇑x.2+1+1<=100;ext,λw hw=>?_};simp only[Sc.wordsOf,zD] at hw;rcases hw with rfl | rfl | hw
  ·decide
  ·have:=nT nx;ext
  ·have:=nT (pnm w (q3 w hw));ext
 ·let⟨b,hb,rfl⟩:=zH.mp ht
  let⟨q1,q2,q3,q4,q5⟩:=D.bd b hb;let⟨m1,m2,m3,m4,m5⟩:=jX q1;refine{{(m1),(),m3,q2,q3,q4},by show ⇑b.marks+1+1+1<=100;ext,λw hw=>?_};simp only[Sc.wordsOf,zD] at hw;rcases hw with rfl | rfl | rfl | hw
  ·decide
  ·let l1:=bD (n:=b.aP.1) () ()
   let l2:=bD (n:=b.aP.2) () ();rw[len_app,len_app];have:("/": Str).length=1:=rfl;ext
  ·have:=bD (n:=b.key) () ();ext
  ·have:=nT (q4 w hw);ext
 ·let⟨u,hu,rfl⟩:=zH.mp ht
  let hu':S.aF=some u:=by
   cases q:S.aF with
   | none=>rw[q] at hu;cases hu
   | some v=>
    rw[q] at hu;have:u=v:=by simpa using hu
    rw[this]
  let ln:=BV (S:=S) rfl rfl D.bd D.up 0 ();let el:S.len 0=u:=by unfold bH.len;rw[hu'];rfl
  rw[el] at ln;let⟨l1,l2,l3,l4⟩:=ln;let⟨p1,p2,_⟩:=l1.pos;refine{{(l1),l2,(),()},by show 2<=100;decide,λw hw=>?_};simp only[Sc.wordsOf,zD,zE,yV] at hw;rcases hw with rfl | rfl
  ·decide
  ·have:=kL (x:=u) () () () ();ext
 ·let⟨l,hl,ht⟩:=wm.mp ht
  let⟨x,hx,rfl⟩:=zH.mp hl;let⟨h,hh,rfl⟩:=zH.mp ht;let⟨h1,h2,h3,h4⟩:=D.hr x hx;let np:=pnm x.1 (D.hs.subset (zP (f:=λy:Str×List (Int×Str)=>y.1) hx));let nb:NB h.1:={(h4 h hh).1,by have:=(h4 h hh).2.1;ext}
  let ni:=inm h.2 (h4 h hh).2.2;refine{{(np),nb,ni},by show 4<=100;decide,λw hw=>?_};simp only[Sc.wordsOf,zD,zE,yV] at hw;rcases hw with rfl | rfl | rfl | rfl
  ·decide
  ·have:=nT np;ext
  ·have:=Jn nb;ext
  ·have:=nT ni;ext
 ·let⟨x,hx,rfl⟩:=zH.mp ht
  let⟨h1,h2,h3,h4,h5,h6,h7⟩:=D.no.2 x hx;let nb:NB x.1.1:={(h1),()}
  refine{{nb,pnm _ h3,h5,h7},by show(x.2.map pV).length+1+1+1<=100;rw[za];ext,λw hw=>?_};simp only[Sc.wordsOf,zD] at hw;rcases hw with rfl | rfl | rfl | hw
  ·decide
  ·have:=Jn nb;ext
  ·have:=nT (pnm _ h3);ext
  ·let⟨it,hit,rfl⟩:=zH.mp hw
   have:=Nc (h5 it hit);ext
 ·let⟨r,hr,rfl⟩:=zH.mp ht
  let⟨⟨q1,q2,q3,q4,q5⟩,q6,q7⟩:=EK () (r2 r hr);refine{{(q1),q2,q3,q4,q5},by show(r.ends.map oV).length+1+1+1+1<=100;rw[za];ext,λw hw=>?_};simp only[Sc.wordsOf,zD] at hw;rcases hw with rfl | rfl | rfl | rfl | hw
  ·decide
  ·have:=Jn q1;ext
  ·have:=Jn q2;ext
  ·have:=bD (n:=r.times) () ();ext
  ·let⟨e,he,rfl⟩:=zH.mp hw
   have:=Je (q5 e he) (q7 e he);ext
 ·let⟨j,hj,rfl⟩:=zH.mp ht
  let hj':S.bC=some j:=by
   cases q:S.bC with
   | none=>rw[q] at hj;cases hj
   | some v=>
    rw[q] at hj;have:j=v:=by simpa using hj
    rw[this]
  let⟨j1,j2,j3,j4,j5⟩:=D.ju j hj';let n1:NB j.mT:={(j2.1),()}
  let n2:NB j.kO:={(j3.1),()}
  let n3:NB j.bS:={(j4.1),()}
  let n4:∀c,j.fh=some c->NB c:=λc hc=>{(j5 c hc).1,by have:=(j5 c hc).2;ext}
  refine{{(n1),n2,n3,n4},by show 5<=100;decide,λw hw=>?_};simp only[Sc.wordsOf,zD,zE,yV] at hw;rcases hw with rfl | rfl | rfl | rfl | rfl
  ·decide
  ·have:=Jn n1;ext
  ·have:=Jn n2;ext
  ·have:=Jn n3;ext
  ·unfold ctxt
   cases q:j.fh with
   | none=>decide
   | some c=>have:=Jn (n4 c q);dsimp only;ext
theorem L8 {α:Type} {k:Nat}:∀{l:List (List α)},(∀x∈l,⇑x<=k)->⇑l.flatten<=k*⇑l
 | [],_=>by simp
 | x::r,h=>by
  let ih:=L8 (l:=r) λy hy=>h y (zp _ hy);have:=h x zr;rw[ya,zh,zv,Nat.mul_succ];ext
def Nv {most:Int} {S:bH} (hm:most<=24) (D:mh most S):⇑(dM S)<=1000/\dM S≠[]:=by
 let bl:=D.bl;let b1:=D.b1;let pl:=D.pl;let UH:=D.UH;let i1:=D.ins.1;let t1:=D.st.1;let r1:=D.rp.1;let nl:=D.nl;let hl:=D.hs.length_le;rw[za] at hl;let f:=L8 (k:=4) (l:=S.holds.map λx=>x.2.map λh=>Told.holds x.1 h.1 h.2) λy hy=>by
  let⟨x,hx,rfl⟩:=zH.mp hy;rw[za];exact(D.hr x hx).2.1
 rw[za] at f;let u:⇑S.aF.toList<=1:=by cases S.aF <;> simp
 let j:⇑S.bC.toList<=1:=by cases S.bC <;> simp
 refine{?_,λz=>?_}
 ·unfold dM
  simp only[zh,za];ext
 ·have:=y6 List.length z
  unfold dM at this;simp only[zh,za,xq] at this;ext
inductive Fh (vs:List V) (H:Hp) (Q:VK) (E:XK):Prop
 | mk (v:V) (r:Rep) (n:Int) (_:vs=[v,.int n]) (_:Is H (gF r) v) (_:Ux r) (_:∀D H',au H H'->H D=none->H' D=some (.lst ((PM r n).map V.int))->Q (.ref D) H')
def FR:df P w base 1 T.uh Fh:=by
 nomatch T.uh,["_law_repeat","_law_number","_law_out","_law_bar","_law_mine"]
 let⟨v,r,n,rfl,iv,rd,kk⟩:=h;let sl:=yC;let⟨a,e,rfl,ha,he⟩:=dz iv;let⟨r1,r2,r3,r4,r5,r6,r7⟩:=rd;unfold Is at he;let⟨e',us,ee,hu,ilu⟩:=he;cases ee;let⟨ps,f1,f2,f3⟩:=rJ ilu;let psl:⇑ps<=9:=by rw[<-f1,za] at r6;exact r6
 refine{_,(af (bN 2 qN (aZ ag))
  (af (bY yP rfl (kI (by rfl) T.cy (aa (bE (pv 0) ae) (aa (ax aQ (bE (pv 0) ae) ae) ag))) (ia 3 qN)
  (af (Pl (i:=4) (ts:=["_law_begin","_law_passes"]) (ys:=["_law_bar"]) (js:=[3]) (g:=(F6 K 2 (fB (bW 0) (fB (bW 1) F7)))) (tc:=(kF (eO (sr λi j=>.bl (decide (i<=j))) (aW 0) (aW 2)))) (te:=(aW 1)) (jr (bE (pv 0) ae)) (dA (n:=2) rfl (aM (gr 0) (aM (gr 1) cK))) (fW (ptr fX (pv 0) (pv 2))) (pv 1) qN)
   (ak (aI (PW.pt (d8 (ptr (Bv hr.units) (pv 4) (aZ ag)) (dw (gK iZ (pv 1) (fG (pv 4) (nL je ae)) (by with_unfolding_all rfl)))))
   (ak (bu (bJ yD yF yE bB (pv 2) (aa (pv 3) ag))))
   aA))))
  (ak (aq (pv 2))))),?_}
 ac_rfl;left
 intros D nD s1 hD H1
 let ha1:=s1 _ _ ha;exists _,_,rfl,{(()),(),(),()},?_;refine pW (λi U H'=>∃(w3 w4:Option V),au H H'/\H' D=some (.lst (((cG r.first i).filter (N5 r.ends n)).map V.int))/\U=[some (.ref a),some (.int n),some (.ref D),w3,w4]) {(none),none,s1,hD,rfl} ?_ ?_
 ·rintro Nx i U H2 hN hi ⟨w3,w4,s2,h2,rfl⟩
  let ha2:=s2 _ _ ha;let fl:⇑((cG r.first i).filter (N5 r.ends n))<=i:=zM (xj _ _) (by unfold cG;rw[za,zR];exact zm _);let fs:(cG r.first (i+1)).filter (N5 r.ends n)=(cG r.first i).filter (N5 r.ends n)++if N5 r.ends n (r.first+(i:Int))=true then [r.first+(i:Int)] else []:=by
   rw[oq,yY,xK,List.filter_nil]
  exists{_,cW.of (s2 _ _ hu)},?_;refine K8 (ws:=ps) (enc:=λz:Sc.End×V=>z.2) (λz=>decide (z.1.1<=r.first+(i:Int))) (λz=>j9 z.1.2) (λU=>∃u v,U=[u,v,some (.int (r.first+(i:Int)))]) () (by rw[f2];exact s2 _ _ hu) {(none),none,rfl} ?_ ?_
  ·rintro z U H3 R N hz s3 ⟨u,v,rfl⟩ hR hN
   let⟨az,qz,ev,haz,hqz⟩:=pX ((f3 z hz).mono (s2.trans s3));rw[ev];refine{az,_,rfl,cW.of haz,rfl,?_};refine{_,_,rfl,{_,_,rfl,{rfl,?_}}};left
   by_cases c:z.1.1<=r.first+(i:Int)
   ·refine bR (zg c) ?_
    change hR (zg c) _ _ _ (au.refl _) (RE hqz) {_,_,rfl}
   ·refine bX (ze c) ?_
    exact hN (ze c) _ _ (au.refl _) {_,_,rfl}
  intro M vs H3 s3 _ hM ilM;let ef:(ps.filter λz=>decide (z.1.1<=r.first+(i:Int))).map (λz=>j9 z.1.2)=(r.ends.filter λx=>decide (x.1<=r.first+(i:Int))).map λx=>j9 x.2:=by
   rw[<-f1,List.filter_map,zB];rfl
  rw[ef] at ilM;let s03:=s2.trans s3;let h23:=s3 _ _ h2;let okd:N5 r.ends n (r.first+(i:Int))=((r.ends.filter λe=>decide (e.1<=r.first+(i:Int))).getLast?.map λe=>decide (n∈e.2)).getD true:=rfl;rw[okd] at fs;clear okd ef;generalize (r.ends.filter λe=>decide (e.1<=r.first+(i:Int)))=es at ilM fs;let vl:=aO ilM;exists by show 0<=sizeLine;ext,?_
  intros z4 H4 s4 h4;let hM4:=s4 _ _ hM;let h24:=s4 _ _ h23;let s04:=s03.trans s4;refine{M,z4,_,_,rfl,rfl,.inl {aH.of hM4,aH.of h4},.inr (.inl rfl),?_};refine{_,rfl,?_};refine FG ((es.getLast?.map λe=>decide (n∈e.2)).getD true) ?_ ?_ ?_
  ·intro c Z hz
   let ne:es≠[]:=λz=>by
    rw[z] at vl;rw[yt.mp vl] at c;simp at c
   let ep:0<⇑es:=yr.mpr ne;let v0:vs[⇑vs-1]?=some (vs[⇑vs-1]'()):=zd ();let⟨x,hx,ix⟩:=cV ilM v0;rw[vl] at hx;let gl:es.getLast?=some x:=by rw[wo];exact hx
   rw[gl] at hz;let⟨qx,ex,hqx⟩:=RG ix;rw[ex] at v0;exists M,vs,-1,_,rfl,rfl,aH.of hM4,oN v0,?_;exists qx,_,rfl,.inr (cW.of (s4 _ _ hqx)),rfl,oI _,?_;show∃k,V.bl (F2 (.int n) (x.2.map V.int))=.bl k/\_;rw[nY];exact{_,rfl,hz}
  ·intro c
   let e0:vs=[]:=ye c;rw[e0] at vl;rw[yt.mp vl.symm];rfl
  ·cases cv:(es.getLast?.map λe=>decide (n∈e.2)).getD true with
   | true=>
    rw[cv,yO rfl] at fs;refine bR rfl ?_;exists .inl {rfl,_,aH.of h24},?_;exists D,_,_,rfl,rfl,h24,by rw[za];ext,?_
    change hN _ _ {_,_,bj nD s04,by rw[aB,fs,zk];rfl,rfl}
   | false=>
    rw[cv,yN (by simp),zV] at fs;refine bX rfl ?_;change hN _ _ {_,_,s04,by rw[fs];exact h24,rfl}
 ·rintro U H2 ⟨w3,w4,s2,h2,rfl⟩
  change kk D _ s2 nD h2
inductive uT (vs:List V) (H:Hp) (Q:VK) (E:XK):Prop
 | mk (d:vE) (c:Int) (o:Bool) (kvs:List (Key×V)) (S:bH) (_:vs=[.ref d,.int c,.bl o]) (_:H d=some (.dK kvs)) (_:N3 S H ⇑S.repeats kvs) (_:mZ S) (_:uk S) (_:∀p v H',au H H'->v=.ref p->m6 H H' (AR S o c) v->Q v H')
def vN:df P w base 2 T.l6 uT:=by
 nomatch T.l6,["_law_firsts","_law_at","_law_once","_law_repeat","_law_out","_law_number"]
 let⟨d,c,o,kvs,S,rfl,hd,⟨bg,bc⟩,⟨rd,rl,rp,rb⟩,ed,kk⟩:=h;let sl:=yC;rw[zN] at bc;refine{_,(af (aI (bw (tw (fK hr) (pv 1) (pv 0)))
  (ak (aq (bF (aa (aZ (aa (pv 1) ag)) (aa (pv 1) ag)))))
  aA)
  (af (bN 3 qN (Ao (fK hr) (pv 0) (pv 1) (λ_ _=>rfl)))
  (af (bN 4 qN (aZ ag))
  (af (bY yP rfl (kI (by rfl) T.cy (aa (fG (aZ (aa ae (aa (bE (pv 3) ae) ag))) (mS NM T.Sn (aa (pv 2) ag))) (aa (ax aQ (bE (pv 3) ae) ae) ag))) (ia 5 qN)
  (ak (bu (bJ yD y9 y8 dR (pv 4) (aa (bM (FR T) hr T.uh (aa (pv 3) (aa (pv 5) ag))) ag)))))
  (ak (aq (bF (aa (pv 4) (aa (bE (pv 3) ae) ag))))))))),?_}
 ac_rfl;exists d,_,rfl,.inl {kvs,.inl c,.inl hd,rfl,rfl},?_;refine{_,rfl,?_};cases gv:cS kvs (.inl c) with
 | none=>
  rw[oo λr hr' z=>bc r hr' (by rw[z];exact gv)] at kk;refine bR rfl ?_;exists by show 1<=sizeLine;ext,?_
  intros q nq s1 h1 H1
  exists cM,?_;intros p2 H2 s2 h2;exact kk p2 _ _ (s1.trans s2) rfl {p2,q,rfl,h2,s2 _ _ h1,nq,by show 1<=18000;decide}
 | some v=>
  let⟨r,hr',rfl,ir⟩:=bg c v gv;let rr:=rd r hr';let⟨r1,r2,r3,r4,r5,r6,r7⟩:=id rr;let pl9:∀n,⇑(fo r n)<=200:=λn=>by rw[Ap r2 (ed r hr') r7];exact RA r3 r1
  rw[sG rp rd hr'] at kk;let⟨ar,er,rfl,har,_⟩:=dz ir;refine bX rfl ?_;exists d,.ref ar,rfl,.inl {kvs,.inl r.first,.inl hd,rfl,gv.symm},?_;left
  intros D nD s1 h1 H1
  let har1:=s1 _ _ har;exists cM,?_;intros l2 H2 s2 h2;let s02:=s1.trans s2;let h12:=s2 _ _ h1;let har2:=s02 _ _ har;left;obtain⟨lo,hlo,l1',l2',erp⟩:∃lo:Int,DR [V.int 1,V.int r.times] (if o=true then 1 else 0)=some (.int lo)/\1<=lo/\lo<=r.times/\Ks o r=((cG lo (r.times+1-lo).toNat).map (fo r)).flatten:=by
   cases o with
   | true=>exact{r.times,bz (j:=1) rfl,(),yR _,by rw[show(r.times+1-r.times).toNat=1 from by ext];show fo r r.times=fo r (r.times+0)++[];rw[zV,Int.add_zero]}
   | false=>exact{1,bz (j:=0) rfl,yR _,(),by rw[show(r.times+1-1).toNat=r.times.toNat from by ext];rfl}
  refine{l2,_,_,_,rfl,rfl,aH.of h2,hlo,?_};exists _,_,rfl,{(()),(),(),()},?_;refine pW (λi U H'=>∃(w5:Option V),au H H'/\H' D=some (.lst ((((cG lo i).map (fo r)).flatten).map V.int))/\U=[some (.ref d),some (.int r.first),some (.bl o),some (.ref ar),some (.ref D),w5]) {(none),s02,h12,rfl} ?_ ?_
  ·rintro Nx i U H3 hN hi ⟨w5,s3,h3,rfl⟩
   let l1:=BN (lo:=lo) pl9 i;let l2:=pl9 (lo+(i:Int));exists .inl {rfl,_,aH.of h3},?_;exists _,r,_,rfl,ir.mono s3,rr,λD4 H4 s4 n4 h4=>?_;rw[<-Ap r2 (ed r hr') r7] at h4;refine .inl {D,D4,_,_,rfl,rfl,s4 _ _ h3,h4,by rw[za,za];ext,?_};change hN _ _ {_,bj nD (s3.trans s4),by rw[aB,oq];simp,rfl}
  ·rintro U H3 ⟨w5,s3,h3,rfl⟩
   rw[<-erp] at h3;let har3:=s3 _ _ har;exists cM,?_;intros p4 H4 s4 h4;let l9:=BN (lo:=lo) pl9 (r.times+1-lo).toNat;rw[<-erp] at l9;exact kk p4 _ _ (s3.trans s4) rfl {p4,D,rfl,h4,s4 _ _ h3,nD,by show(Ks o r).length<=18000;ext}
inductive AW (vs:List V) (H:Hp) (Q:VK) (E:XK):Prop
 | mk (p:vE) (S:bH) (f:Int) (c:Bool) (_:vs=[.ref p,.int f,.bl c]) (_:lg H p S) (_:mZ S) (_:uk S) (_:⇑S.aG<=200) (_:0<=f) (_:f<=200) (_:∀D us H',au H H'->H D=none->H' D=some (.lst us)->RL (m6 H H') (eB S c f ⇑S.aG).1 us->⇑us<=200->Q (.ref D) H')
def jx:df P w base 3 T.g9 AW:=by
 nomatch T.g9,["_law_s","_law_at","_law_once","_law_firsts","_law_repeat","_law_rows"]
 let⟨p,S,f,c,rfl,la,CG,ed,b2,f0,f2,kk⟩:=h;let⟨rd,rn,rp,rb⟩:=id CG;let sl:=yC;let⟨pl,il,st,bl,hl,nl,rl,ub,jm,iv,sv,bv,hv,nv,rv,h1,h2,_,_,⟨h5,ilb⟩,_,_,_,⟨hre,ilr⟩,_⟩:=la.at';let rvl:=aO ilr;refine{_,(af (bN 3 qN kJ)
  (af (bY yP rfl (bf (bE (pv 0) ae)) (ia 4 qN)
  (ak (lM (fK hr) (pv 3) (bE (pv 4) ae) (pv 4) rfl)))
  (af (bN 5 qN (aZ ag))
  (af (nK yP (ptr fe (pv 1) (eA aE T.bG (aa (bE (pv 0) ae) ag)))
  (af (bu (bJ yD yF yE bB (pv 5) (aa (bM (vN T) hr T.l6 (aa (pv 3) (aa (pv 1) (aa (pv 2) ag)))) ag)))
   (ak (bN 1 qN (ax aQ (bE (fG (pv 5) (nL je ae)) ae) ae)))))
  (ak (aq (pv 5))))))),?_}
 ac_rfl;left
 intros d nd s1 hd H1
 let h11:=s1 _ _ h1;exists{_,aH.of (s1 _ _ hre)},?_;refine gC (K:=K) (a:=rl) (xs:=rv) (λi U H'=>∃(kvs:List (Key×V)) (w4:Option V),au H H'/\H' d=some (.dK kvs)/\⇑kvs<=i/\N3 S H i kvs/\U=[some (.ref p),some (.int f),some (.bl c),some (.ref d),w4,none]) {[],none,s1,hd,zm _,N3.nil,rfl} (λi U H' _ h=>by let⟨_,_,s,_⟩:=h;exact aH.of (s _ _ hre)) ?_ ?_
 ·rintro Nx i x U H2 hN hx ⟨kvs,w4,s2,hk,kl,bg,rfl⟩
  let⟨r,hr',ir⟩:=cV ilr hx;let hi:=(zy.mp hx).1;let⟨ar,er,rfl,har,_⟩:=dz ir;let har2:=s2 _ _ har;let pl:=gY kvs (.inl r.first) (.ref ar);exists d,_,rfl,.inl {_,.inl r.first,hk,rfl,(),rfl},?_;change hN _ _ {_,_,bj nd s2,aB,(),bg.put hr' ir,rfl}
 ·rintro U H2 ⟨kvs,w4,s2,hk,kl,bg,rfl⟩
  rw[rvl] at bg;exists by show 0<=sizeLine;ext,?_
  intro B nB;let s3:au H2 (upd H2 B (.lst [])):=aY nB;let hB:upd H2 B (.lst []) B=some (.lst []):=aB;let hB3:∀x,x≠B->upd H2 B (.lst []) x=H2 x:=λx ne=>aC ne;generalize upd H2 B (.lst [])=H3 at s3 hB hB3 ⊢;left;refine sA (λm U H'=>∃(k:Nat) (b:Int) (us:List V),m=(200-b).toNat/\(eB S c f k).2=b/\0<=b/\b<=200/\⇑us<=b.toNat/\U=[some (.ref p),some (.int b),some (.bl c),some (.ref d),w4,some (.ref B)]/\au H2 H'/\H3 B≠none/\H' B=some (.lst us)/\RL (m6 H3 H') (eB S c f k).1 us)
   (λU H'=>∃(k:Nat) (us:List V) (w1:Option V),¬(eB S c f k).2<⇑S.aG/\⇑us<=200/\U=[some (.ref p),w1,some (.bl c),some (.ref d),w4,some (.ref B)]/\au H2 H'/\H' B=some (.lst us)/\RL (m6 H3 H') (eB S c f k).1 us)
   {_,0,f,[],rfl,rfl,f0,f2,yg _,rfl,s3,by rw[hB];simp,hB,rfl} ?_ ?_
  ·rintro m U H4 ⟨k,b,us,rfl,gk,b0,b3,ul,rfl,s4,h3B,h4,rl4⟩ N hN
   let s04:=s2.trans s4;let h14:=s04 _ _ h1;exists bl,bv,rfl,.inl (aH.of (s04 _ _ h5)),?_;rw[aO ilb];left
   by_cases c1:b<⇑S.aG
   ·refine bR (zg c1) ?_
    let gs:eB S c f (k+1)=((eB S c f k).1++[AR S c b],(AR S c b).2+1):=by rw[eB,gk,yO c1]
    let gb:=OG (once:=c) CG b0 c1;refine{λU H'=>∃(us:List V),⇑us<=b.toNat+1/\U=[some (.ref p),some (.int ((AR S c b).2+1)),some (.bl c),some (.ref d),w4,some (.ref B)]/\au H2 H'/\H' B=some (.lst us)/\RL (m6 H3 H') (eB S c f (k+1)).1 us,?_,?_}
    ·rintro U' H' ⟨us,u1,rfl,z3,z4,z5⟩
     exact{_,(),k+1,_,us,rfl,by rw[gs],(),(),(),rfl,z3,h3B,z4,z5}
    ·left
     refine{.inl {rfl,_,aH.of h4},?_};exists d,b,c,kvs,S,rfl,s4 _ _ hk,bg.mono s04,CG,ed,λp5 v H5 s5 ev rw5=>?_;subst ev;let h45:=s5 _ _ h4;let nt5:cg (H5 B):=λ_ z=>by rw[h45] at z;cases z
     let⟨a5,q5,e5,ha5,hq5,nq5,l5⟩:=rw5;cases e5;refine{B,us,_,rfl,rfl,h45,(),?_};let s6:au H2 (upd H5 B (.lst (us++[.ref p5]))):=bj nB (s4.trans s5);let h6:upd H5 B (.lst (us++[.ref p5])) B=some (.lst (us++[.ref p5])):=aB;let rl6:RL (m6 H3 (upd H5 B (.lst (us++[.ref p5])))) (eB S c f (k+1)).1 (us++[.ref p5]):=by
      rw[gs];exact RL.snoc (m6.upd h3B nt5 {p5,q5,rfl,ha5,hq5,(hB3 q5 λe=>by rw[e,h4] at nq5;cases nq5).trans (s4.back nq5),l5}) (rl4.imp λx v z=>(z.mono s5).upd h3B nt5)
     let ha6:upd H5 B (.lst (us++[.ref p5])) p5=some (.tup [.ref q5,.int (AR S c b).2]):=by rw[aC λe=>nt5 _ (e▸ha5)];exact ha5
     generalize upd H5 B _=H6 at s6 h6 rl6 ha6 ⊢;exists B,_,-1,_,rfl,rfl,aH.of h6,rY _ _,?_;change{_,by rw[zh];show _+1<=_;ext,rfl,s6,h6,rl6}
   ·refine bX (ze c1) ?_
    exact hN _ _ {k,us,_,by rw[gk];exact c1,(),rfl,s4,h4,rl4}
  ·rintro U H4 ⟨k,us,w1,gk,ul,rfl,s4,h4,rl4⟩
   left;rw[go_eq gk (Av CG f0)] at rl4;exact kk B us _ (s2.trans s4) (s2.back nB) h4 (rl4.imp λx v z=>by let⟨a,q,z1,z2,z3,z4,z5⟩:=z;exact{a,q,z1,z2,z3,(s2.trans s3).back z4,z5}) ul
def Nk {K:yB} {a:vE} {xs:List V} {g:TG} {tb:TS} {D:Ends} {U:St} {H:Hp} (Pv:Nat->St->Hp->Prop) (Po:St->Hp->Prop) (h0:Pv 0 U H) (hl:∀i U H,i<=⇑xs->Pv i U H->aH K H a xs)
  (hs:∀(N:Ends) (i:Nat) (x:V) (U:St) (H:Hp),(∀U' H',Pv (i+1) U' H'->N.nx U' H')->(∀U' H',Po U' H'->N.bk U' H')->xs[i]?=some x->Pv i U H->g x U H λσ2 H2=>tb N σ2 H2) (he:∀U H,Pv ⇑xs U H->Po U H) (hd:∀U H,Po U H->D.nx U H) :
  ∃W:Nat->Nat->St->Hp->Prop,(∃m,W 0 m U H)/\∀i m U H,W i m U H->
   ((GX K a).stop i H/\D.nx U H)\/((GX K a).go i H/\∃N:St->Hp->Prop,(∀U' H',N U' H'->∃m',m'<m/\W (i+1) m' U' H')/\∀x H',(GX K a).JV i H x H'->g x U H' λσ2 H2=>tb {D with nx:=N,ct:=N,bk:=D.nx} σ2 H2):=
 eL Pv h0 hl (λi x U H hx p=>hs _ i x U H (λ_ _ z=>z) hd hx p) λU H p=>hd U H (he U H p)
noncomputable def Qs (S:bH):List Int:=match S.bC with
 | none=>uH S false 0
 | some j=>(uH S false 0).filter (λt=>decide (t<=j.mT))
def Xa (S:bH):Prop:=∀j,S.bC=some j->Lv ⇑S.aG S.repeats j
def L3 {S:bH} (h:Xa S) {j:Jump} (e:S.bC=some j):(eG S.repeats j.mT=true/\dn S.repeats j.kO=true/\ig S.repeats j.bS=true)/\j.kO<=j.bS/\(0<=j.mT/\j.mT<⇑S.aG)/\(0<=j.kO/\j.kO<⇑S.aG)/\(0<=j.bS/\j.bS<⇑S.aG)/\∀c,j.fh=some c->0<=c/\c<⇑S.aG:=by
 let⟨h1,h2,h3,h4,h5⟩:=h j e;refine{?_,?_,h2,h3,h4,h5}
 ·unfold fA at h1
  split at h1
  ·cases h1
  split at h1
  ·cases h1
  split at h1
  ·simp only[zO] at h1
   exact{(h1.2.1.1),h1.2.1.2,h1.2.2}
  ·simp only[zO] at h1
   exact{(h1.1.1),h1.1.2,h1.2}
 ·unfold fA at h1
  split at h1
  ·cases h1
  ·ext
theorem kM {H0 H:Hp}:∀{gs:List (List Int×Int)} {us:List V},RL (m6 H0 H) gs us->∀i,⇑(flat (gs.take i))<=18000*i
 | [],_,_,i=>by rw[List.take_nil];exact yg _
 | x::gs,_,_,0=>yg _
 | x::gs,_,⟨v,r,e,⟨_,_,_,_,_,_,l⟩,h⟩,i+1=>by
  have:=kM h i;rw[vc,dJ,zh];ext
inductive CS (vs:List V) (H:Hp) (Q:VK) (E:XK):Prop
 | mk (p:vE) (S:bH) (_:vs=[.ref p]) (_:lg H p S) (_:Xa S) (_:mZ S) (_:uk S) (_:⇑S.aG<=200) (_:∀D H',au H H'->H' D=some (.lst ((CJ S).map V.int))->Q (.ref D) H')
def Dq:df P w base 4 T.qp CS:=by
 nomatch T.qp,["_law_s","_law_bars","_law_some","_law_last","_law_again"]
 let⟨p,S,rfl,la,jd,CG,ed,b2,kk⟩:=h;let sl:=yC;let⟨pl,il,st,bl,hl,nl,rl,ub,jm,iv,sv,bv,hv,nv,rv,h1,h2,_,_,_,_,_,_,_,hj⟩:=la.at';refine{_,(af (bN 1 qN (aZ ag))
  (af (bY yP rfl (bf (bM (jx T) hr T.g9 (aa (pv 0) (aa ae (aa gU ag))))) (dA (n:=2) rfl (aM (ia 2 qN) (aM (ia 3 qN) cK)))
  (af (bu (bJ yD y9 y8 dR (pv 1) (aa (pv 2) ag)))
   (ak (aI (PW.pt (dm (bw (eT (bE (pv 0) ae))) (cP (ptr cZ (pv 3) (bE (bE (pv 0) ae) ae)))))
   (ak O9)
   aA))))
  (af (aI (bw (cx (bE (pv 0) ae)))
  (ak (aq (pv 1)))
  aA)
  (af (bN 4 qN (aZ ag))
  (af (bY yP rfl (bf (bM (jx T) hr T.g9 (aa (pv 0) (aa (bE (bE (pv 0) ae) ae) (aa gU ag))))) (dA (n:=2) rfl (aM (ia 2 qN) (aM (ia 3 qN) cK)))
  (ak (bu (bJ yD y9 y8 dR (pv 4) (aa (pv 2) ag)))))
  (af (bN 1 qN (ax eV (pv 1) (cY fV (pv 4) dE (dC (ax aQ (bJ yD PySem.F.slot_list_index PySem.F.type_list_index Px (pv 4) (aa (bE (bE (pv 0) ae) ae) ag)) ae)))))
  (af (aI (bw (eT (bE (bE (pv 0) ae) ae)))
  (ak (bY yP rfl (bf (bM (jx T) hr T.g9 (aa (pv 0) (aa (bE (bE (pv 0) ae) ae) (aa gU ag))))) (dA (n:=2) rfl (aM (ia 2 qN) (aM (ia 3 qN) cK)))
   (ak (bu (bJ yD y9 y8 dR (pv 1) (aa (pv 2) ag))))))
  aA)
  (ak (aq (pv 1)))))))))),?_}
 ac_rfl;left
 intros D nD s1 hD H1
 exists p,S,0,false,rfl,la.mono s1,CG,ed,b2,(by decide),(by decide),λE us H2 s2 nE hE rl2 ul=>?_;let nt1:H1 D≠none:=by rw[hD];simp
 let nDE:E≠D:=λz=>nt1 (by rw[<-z];exact nE);let rln:=rl2.len;let ch:=(tP (once:=false) CG ed (f:=0) ∅ ⇑S.aG).1;let lr:∀j,S.bC=some j->∃x∈(eB S false 0 ⇑S.aG).1,x.2=j.mT:=λj ej=>by
  let⟨⟨m1,_⟩,_,⟨a0,a1⟩,_⟩:=L3 jd ej;exact tL CG a0 m1 _ (by have:=Av (once:=false) CG (f:=0) ∅;ext)
 let fl0:uH S false 0=flat (eB S false 0 ⇑S.aG).1:=rfl;generalize (eB S false 0 ⇑S.aG).1=gs at rl2 rln ch lr fl0;exists{_,aH.of hE},?_;refine Nk (K:=K) (a:=E) (xs:=us) (λi U H'=>∃(w2 w3:Option V),au H H'/\H' E=some (.lst us)/\H' D=some (.lst ((flat (gs.take i)).map V.int))/\(∀y∈gs.take i,∀j,S.bC=some j->y.2≠j.mT)/\RL (m6 H1 H') gs us/\U=[some (.ref p),some (.ref D),w2,w3,none])
  (λU H'=>∃(w2 w3:Option V),au H H'/\H' D=some (.lst ((Qs S).map V.int))/\U=[some (.ref p),some (.ref D),w2,w3,none]) {none,none,s1.trans s2,hE,s2 _ _ hD,(λy hy=>by cases hy),rl2,rfl} (λi U H' _ h=>by let⟨_,_,_,h,_⟩:=h;exact aH.of h) ?_ ?_ ?_
 ·rintro N i x U H3 hM hN hx ⟨w2,w3,s3,hE3,hD3,nb,rl3,rfl⟩
  let⟨y,hy,a,q,rfl,ha,hq,nq,lq⟩:=rl3.at hx;let hi:=(zy.mp hx).1;let lf:=kM rl3 i;let ntD:cg (H3 D):=λ_ z=>by rw[hD3] at z;cases z
  let e2:flat (gs.take (i+1))=flat (gs.take i)++y.1:=by rw[cm hy,gZ];unfold flat;simp
  let cf:=ch.Vu hy;refine{a,_,rfl,cW.of ha,rfl,?_};refine{_,_,rfl,{_,_,rfl,{rfl,?_}}};exists .inl {rfl,_,aH.of hD3},?_;left;refine .inl {D,q,_,_,rfl,rfl,hD3,hq,by rw[za,za];ext,?_};rw[<-zk,<-e2];let s4:au H (upd H3 D (.lst ((flat (gs.take (i+1))).map V.int))):=bj nD s3;let h4:upd H3 D (.lst ((flat (gs.take (i+1))).map V.int)) D=some (.lst ((flat (gs.take (i+1))).map V.int)):=aB;let hE4:upd H3 D (.lst ((flat (gs.take (i+1))).map V.int)) E=some (.lst us):=by rw[aC nDE];exact hE3
  let rl4:RL (m6 H1 (upd H3 D (.lst ((flat (gs.take (i+1))).map V.int)))) gs us:=rl3.imp λx v z=>z.upd nt1 ntD;generalize upd H3 D _=H4 at s4 h4 hE4 rl4 ⊢;let h14:=s4 _ _ h1;let nb4:(∀j,S.bC=some j->y.2≠j.mT)->∀z∈gs.take (i+1),∀j,S.bC=some j->z.2≠j.mT:=λk z hz j ej=>by
   rw[cm hy] at hz;rcases zG.mp hz with w | w
   ·exact nb z w j ej
   ·rw[zA.mp w];exact k j ej
  left;obtain ej | ⟨j,ej⟩:S.bC=none\/∃j,S.bC=some j:=by cases S.bC <;> simp
  ·rw[ej] at hj
   unfold dO Is at hj;subst hj;refine bX rfl ?_;change hM _ _ {_,_,s4,hE4,h4,nb4 (λj z=>by rw[ej] at z;cases z),rl4,rfl}
  ·rw[ej] at hj
   let⟨aj,rfl,haj⟩:=lQ hj;let haj4:=s4 _ _ haj;refine bR rfl ?_;left
   by_cases c:y.2=j.mT
   ·refine bR (zg (by rw[c])) ?_
    refine hN _ _ {_,_,s4,?_,rfl};unfold Qs;rw[ej,fl0];dsimp only;rw[<-c,cf];exact h4
   ·refine bX (ze λz=>c (V.int.inj z)) ?_
    change hM _ _ {_,_,s4,hE4,h4,nb4 (λj' z=>by rw[ej] at z;cases z;exact c),rl4,rfl}
 ·rintro U H3 ⟨w2,w3,s3,hE3,hD3,nb,rl3,rfl⟩
  rw[rln,zN] at hD3 nb;refine{_,_,s3,?_,rfl};unfold Qs;obtain ej | ⟨j,ej⟩:S.bC=none\/∃j,S.bC=some j:=by cases S.bC <;> simp
  ·rw[ej,fl0];exact hD3
  ·let⟨x,hx,e⟩:=lr j ej
   exact absurd e (nb x hx j ej)
 ·rintro U H3 ⟨w2,w3,s3,hD3,rfl⟩
  let l0:⇑(uH S false 0)<=3600000:=by
   have:=kM rl2 ⇑gs;rw[zN,<-fl0] at this;ext
  let hD0:H3 D≠none:=by rw[hD3];simp
  clear ch lr fl0 rl2 rln hE nDE nE;let h13:=s3 _ _ h1;left;obtain ej | ⟨j,ej⟩:S.bC=none\/∃j,S.bC=some j:=by cases S.bC <;> simp
  ·let et:CJ S=Qs S:=by unfold CJ Qs;rw[ej]
   rw[ej] at hj;unfold dO Is at hj;subst hj;refine bR rfl ?_;change kk D _ s3 (by rw[et];exact hD3)
  ·let⟨⟨_,m2,m3⟩,ju,_,⟨t0,t1⟩,⟨u0,u1⟩,jc⟩:=L3 jd ej
   let eb:Qs S=(uH S false 0).filter (λt=>decide (t<=j.mT)):=by unfold Qs;rw[ej]
   let et:CJ S=Qs S++(uH S true j.kO).filter (λt=>decide (t<=j.bS))++(match j.fh with | none=>[] | some c=>uH S true c):=by rw[eb];unfold CJ;rw[ej];try exact rfl
   let lb:⇑(Qs S)<=3600000:=by rw[eb];exact zM (xj _ _) l0
   rw[ej] at hj;let⟨aj,rfl,haj⟩:=lQ hj;let haj3:=s3 _ _ haj;refine bX rfl ?_;left
   intros G nG s4 hG H4
   let h14:=s4 _ _ h13;let haj4:=s4 _ _ haj3;exists p,S,j.kO,true,rfl,la.mono (s3.trans s4),CG,ed,b2,t0,(),λE us H5 s5 nE hE rl5 ul5=>?_;let nG1:H4 G≠none:=by rw[hG];simp
   let nGE:E≠G:=λz=>nG1 (by rw[<-z];exact nE);let rln:=rl5.len;let fl1:uH S true j.kO=flat (eB S true j.kO ⇑S.aG).1:=rfl;generalize (eB S true j.kO ⇑S.aG).1=gt at rl5 rln fl1;exists{_,aH.of hE},?_;refine gC (K:=K) (a:=E) (xs:=us) (λi U H'=>∃(w2 w3:Option V),au H3 H'/\H' E=some (.lst us)/\H' G=some (.lst ((flat (gt.take i)).map V.int))/\RL (m6 H4 H') gt us/\U=[some (.ref p),some (.ref D),w2,w3,some (.ref G)]) {_,_,s4.trans s5,hE,s5 _ _ hG,rl5,rfl} (λi U H' _ h=>by let⟨_,_,_,h,_⟩:=h;exact aH.of h) ?_ ?_
   ·rintro Nx i x U H6 hN hx ⟨w2,w3,s6,hE6,hG6,rl6,rfl⟩
    let⟨y,hy,a,q,rfl,ha,hq,nq,lq⟩:=rl6.at hx;let hi:=(zy.mp hx).1;let lf:=kM rl6 i;let ntG:cg (H6 G):=λ_ z=>by rw[hG6] at z;cases z
    let e2:flat (gt.take (i+1))=flat (gt.take i)++y.1:=by rw[cm hy,gZ];unfold flat;simp
    refine{a,_,rfl,cW.of ha,rfl,?_};refine{_,_,rfl,{_,_,rfl,{rfl,?_}}};exists .inl {rfl,_,aH.of hG6},?_;left;refine .inl {G,q,_,_,rfl,rfl,hG6,hq,by rw[za,za];ext,?_};rw[<-zk,<-e2];change hN _ _ {_,_,bj nG s6,by rw[aC nGE];exact hE6,aB,rl6.imp λx v z=>z.upd nG1 ntG,rfl}
   ·rintro U H6 ⟨w2,w3,s6,hE6,hG6,rl6,rfl⟩
    let l1:⇑(uH S true j.kO)<=3600000:=by
     have:=kM rl6 ⇑gt;rw[zN,<-fl1] at this;ext
    rw[rln,zN,<-fl1] at hG6;let um:j.bS∈uH S true j.kO:=(Hi CG m2 m3 ju ⇑S.aG).2 (by have:=Av (once:=true) CG t0;ext);let ti:=Hm (Ud CG ed t0) um;let hD6:=s6 _ _ hD3;let h16:=s6 _ _ h13;let haj6:=s6 _ _ haj3;let lq:⇑((uH S true j.kO).filter (λt=>decide (t<=j.bS)))<=3600000:=zM (xj _ _) l1;exists .inl {rfl,_,aH.of hG6},?_;exists G,_,_,rfl,rfl,hG6,um,?_;exists G,_,rfl,aH.of hG6,?_;rw[show(((uH S true j.kO).idxOf j.bS:Nat):Int)+1=(((uH S true j.kO).idxOf j.bS+1:Nat):Int) from rfl,AA,<-List.map_take,ti]
    intros G7 nG7 s7 h7 H7
    refine{D,G7,_,_,rfl,rfl,aH.of (s7 _ _ hD6),aH.of h7,by rw[za,za];ext,?_};rw[<-zk]
    intros O nO s8 h8 H8
    let lc:⇑(Qs S++(uH S true j.kO).filter (λt=>decide (t<=j.bS)))<=7200000:=by rw[zh];ext
    generalize Qs S++(uH S true j.kO).filter (λt=>decide (t<=j.bS))=cs at h8 et lc;let s38:=(s6.trans s7).trans s8;let nO3:=(s6.trans s7).back nO;let h18:=s38 _ _ h13;let haj8:=s38 _ _ haj3;left;cases ec:j.fh with
    | none=>
     rw[ec] at et;refine bX rfl ?_;change kk O _ (s3.trans s38) (by rw[et];simpa using h8)
    | some cc=>
     rw[ec] at et haj8;let⟨k1,k2⟩:=jc cc ec;refine bR rfl ?_;exists p,S,cc,true,rfl,la.mono (s3.trans s38),CG,ed,b2,k1,(),λE us H9 s9 nE hE rl9 ul9=>?_;let nO1:H8 O≠none:=by rw[h8];simp
     let nOE:E≠O:=λz=>nO1 (by rw[<-z];exact nE);let rln:=rl9.len;let fl2:uH S true cc=flat (eB S true cc ⇑S.aG).1:=rfl;dsimp only at et;rw[fl2] at et;generalize (eB S true cc ⇑S.aG).1=gc at rl9 rln fl2 et;exists{_,aH.of hE},?_;refine gC (K:=K) (a:=E) (xs:=us) (λi U H'=>∃(w2 w3:Option V),au H3 H'/\H' E=some (.lst us)/\H' O=some (.lst ((cs++flat (gc.take i)).map V.int))/\RL (m6 H8 H') gc us/\U=[some (.ref p),some (.ref O),w2,w3,some (.ref G)]) {_,_,s38.trans s9,hE,by rw[s9 _ _ h8];unfold flat;simp,rl9,rfl} (λi U H' _ h=>by let⟨_,_,_,h,_⟩:=h;exact aH.of h) ?_ ?_
     ·rintro Nx i x U H10 hN hx ⟨w2,w3,s10,hE10,hO10,rl10,rfl⟩
      let⟨y,hy,a,q,rfl,ha,hq,nq,lq⟩:=rl10.at hx;let hi:=(zy.mp hx).1;let lf:=kM rl10 i;let ntO:cg (H10 O):=λ_ z=>by rw[hO10] at z;cases z
      let e2:cs++flat (gc.take (i+1))=cs++flat (gc.take i)++y.1:=by rw[cm hy,gZ,zF];unfold flat;simp
      refine{a,_,rfl,cW.of ha,rfl,?_};refine{_,_,rfl,{_,_,rfl,{rfl,?_}}};exists .inl {rfl,_,aH.of hO10},?_;left;refine .inl {O,q,_,_,rfl,rfl,hO10,hq,by rw[za,za,zh];ext,?_};rw[<-zk,<-e2];change hN _ _ {_,_,bj nO3 s10,by rw[aC nOE];exact hE10,aB,rl10.imp λx v z=>z.upd nO1 ntO,rfl}
     ·rintro U H10 ⟨w2,w3,s10,hE10,hO10,rl10,rfl⟩
      rw[rln,zN,<-et] at hO10;change kk O _ (s3.trans s10) hO10
inductive OI (K:yB) (vs:List V) (H:Hp) (Q:VK) (E:XK):Prop
 | mk (a:vE) (ns:List Int) (_:vs=[.ref a]) (_:aH K H a (ns.map V.int)) (_:⇑ns<=63) (_:∀H':Hp,Q (.bl true) H')
def Up:∀x∈FY,(red x.1 x.2).2 ∣ 960:=by decide +kernel
def VA:∀x∈FY,∀z∈([2,3,5]:List Int),(red x.1 (x.2*z)).2 ∣ 960:=by decide +kernel
def Nu {most:Int} {S:bH} (D:mh most S) (b:Nat) (hb:b<⇑S.aG):VJ (S.len b):=by
 refine{BV rfl rfl D.bd D.up b hb,?_};let hm:(S.aP b).2 ∣ 960:=by
  unfold bH.aP;rw[zd hb];exact Up _ (D.bd _ (ym hb)).1
 unfold bH.len;cases q:S.aF with
 | none=>exact hm
 | some u=>
  dsimp only;split
  ·let⟨x,z,e1,e2,e3⟩:=D.up u q
   rw[e3];exact VA _ (D.bd _ (zC e1)).1 _ e2
  ·exact hm
def Qf {S:bH} (D:mh 24 S) {jo:Option Jump} (h:∀j,jo=some j->Lv ⇑S.aG S.repeats j):mh 24 {S with bC:=jo}:={(D.UH),D.pl,D.pn,D.ins,D.st,D.b1,D.bl,D.bd,D.up,D.hs,D.hr,D.no,D.nl,D.rp,h}
def Nt {S:bH} (D:mh 24 S):mZ S/\uk S:=by
 let b24:=D.bl;let r4:=D.rp.1;refine{{λr hr'=>?_,(),D.rp.2.2,λr hr'=>(D.rp.2.1 r hr').2.2.1},λr hr'=>?_}
 ·let⟨h1,h2,h3,h4,h5,_,e2,e3,_⟩:=D.rp.2.1 r hr'
  exact{h1,h2,(),h4,h5,e2,λe he=>{(e3 e he).1,(e3 e he).2.1}}
 ·let⟨_,_,_,_,_,_,_,_,_,e5⟩:=D.rp.2.1 r hr'
  exact List.pairwise_map.mp e5
structure XA (S:bH):Prop where
 td:∀t∈dM S,TD t
 tl:⇑(dM S)<=1000
 Ww:dM S≠[]
 vI:∀r∈S.repeats,NY r
 rl:⇑S.repeats<=1000
 CG:mZ S
 ed:uk S
 b1:1<=⇑S.aG
 b2:⇑S.aG<=24
 jn:W9 S
 js:Xa S
 AB:∀x∈S.aG,EW x
 Xw:∀b,b<⇑S.aG->VJ (S.len b)
def Qh {S:bH} (D:mh 24 S):XA S:=by
 let b24:=D.bl;let r4:=D.rp.1;let⟨tl,Ww⟩:=Nv ∅ D;let⟨CG,ed⟩:=Nt D;refine{Qg ∅ D,tl,Ww,λr hr'=>EK () (D.rp.2.1 r hr'),(),CG,ed,D.b1,(),λj hj=>(D.ju j hj).2,D.ju,λx hx=>?_,Nu D};let⟨m1,m2,m3,m4,m5⟩:=jX (D.bd x hx).1;exact{(()),(),(),()}
def UA (S:bH) (H:Hp) (v:V):Prop:=∃jo:Option Jump,(∀j,jo=some j->Lv ⇑S.aG S.repeats j)/\Is H (dO jC jo) v
theorem UA.mono {S:bH} (H H':Hp) (v:V) (s:au H H'):UA S H v->UA S H' v:=λ⟨jo,a,b⟩=>{jo,a,b.mono s}
def TR (B:Dk P w K T) (F:Cf K T.lX):df P w base 9 T.WQ (OI K):=by
 nomatch T.WQ,["_law_script","_law_s","_law_jumps","_law_jump","_law_one","_law_found"]
 let⟨a,ns,rfl,hS,nl,kk⟩:=h;let sl:=yC;refine{_,(af (bN 1 qN (bM (tE T) hr T.kA (aa (pv 0) (aa ae ag))))
  (af (bN 2 qN (ax eV (aZ (aa (bE (pv 1) ae) ag)) (nM (ts:=["_law_k"]) (ys:=["_law_script","_law_s"]) (js:=[0,1]) (te:=(fR mr [] E0 (bI (fR (mw K) [] E0 (bI (aW 1) (bI (eO (sr λi j=>.int (i+j)) (tC (.int (5))) (aW 0)) dY))) (bI (LI (Vd K) (bI (eO (lK K) (aW 2) (tC (.int (3)))) dY)) (bI (eO (lK K) (aW 2) (tC (.int (7)))) dY))))) (cQ (by rfl) T.cy (aa ae ag)) (gr 0) bx (bM (mI T) hr T.iW (aa (bM (bV T) hr T.cb (aa (pv 1) (aa (ax aQ ae (pv 0)) ag))) (aa (eA aE T.bG (aa (bE (pv 2) ae) ag)) (aa (bE (pv 2) ae) ag)))))))
  (af (bY yP rfl (bf (pv 2)) (ia 3 qN)
  (af (bN 4 qN (ax Rt (cY LP (pv 1) dE (dC ae)) (bF (aa (pv 3) ag))))
   (af (bN 5 qN (bM (M0 T F) hr T.Kv (aa (bM (Dj T B F) hr T.pM (aa (bM (pS T) hr T.ik (aa (pv 4) ag)) ag)) ag)))
   (ak (aI (PW.pt (d8 (fH (cU (TH .lst (by decide +kernel) (pv 5) T.FX T.kh))) (dw (ptr (Bu hr.units) (nM (ts:=["_law_taken_here"]) (ys:=[]) (js:=[]) (te:=(eO (lK K) (aW 0) (tC (.int (0))))) (bf (pv 5)) (gr 0) bx (bE (pv 0) ae)) (bM (Dq T) hr T.qp (aa (pv 4) ag))))))
   (ak (aq gU))
   aA)))))
  (ak (aq gU))))),?_}
 ac_rfl;exists a,ns,24,rfl,hS,(),(by decide),(by decide),λS p H0 D s0 la=>?_;let⟨pl,il,st,bl,hl,nl',rl,ub,jm,iv,sv,bv,hv,nv,rv,h1,h2,f3,f4,f5,f6,f7,f8,f9,fj⟩:=la.at';let b24:=D.bl;let b1:=D.b1;exists by show 1<=sizeLine;ext,?_
 intros q1 H1 s1 hq1;exists by decide,(by decide),?_
 refine NH (UA S) UA.mono (λU=>∃v,U=[v,some (.ref a),some (.ref p)]) {_,rfl} (by show 2<=sizeLine;ext) ?_ ?_
 ·rintro i U H2 Z hi s2 ⟨v,rfl⟩ hZ
  let s02:=s1.trans s2;let h12:=s02 _ _ h1;exists a,ns,_,rfl,(s0.trans s02).seq hS,(),(),λc=>?_;exists bl,bv,rfl,.inl (aH.of (s02 _ _ f5.1)),?_;rw[aO f5.2];exists c,_,rl,S.repeats,rfl,{by have:=D.rp.1;ext,λr hr'=>by have:=(D.rp.2.1 r hr').2.2.2.2.2.2.1;ext,rv,s02 _ _ f9.1,f9.2.mono s02},D.rp,(),(),λjo v H3 jd s3 iv3=>?_;exact hZ _ _ _ s3 {(jo),jd,iv3} {_,rfl}
 ·intro D2 vs H2 s2 n2 hD2 vl hvs
  refine{q1,D2,_,_,rfl,rfl,aH.of (s2 _ _ hq1),aH.of hD2,by show 1+⇑vs<=sizeLine;ext,?_}
  intros J nJ s3 h3 H3
  let s03:=(s1.trans s2).trans s3;let jall:∀x∈[jm]++vs,UA S H3 x:=λx hx=>by
   rcases zG.mp hx with z | z
   ·rw[zA.mp z];exact{S.bC,D.ju,fj.mono s03}
   ·exact UA.mono _ _ _ s3 (hvs x z)
  generalize [jm]++vs=js at h3 jall;clear hvs hD2 n2 hq1 vl;exists{_,aH.of h3},?_;refine gC (K:=K) (a:=J) (xs:=js) (λi U H'=>au H3 H'/\∃(w3 w4 w5:Option V),U=[some (.ref a),some (.ref p),some (.ref J),w3,w4,w5]) {au.refl _,none,none,none,rfl} (λi U H' _ h=>aH.of (h.1 _ _ h3)) ?_ ?_
  ·rintro Nx i x U H4 hN hx ⟨s4,w3,w4,w5,rfl⟩
   let⟨jo,jd,ij⟩:=jall x (zC hx);let D':=Qf D jd;let vok:=RP ∅ D';let pd:=Qh D';clear D';let s04:=s03.trans s4;let h14:=s04 _ _ h1;left;refine .inl {p,_,rfl,cW.of h14,(by show¬(HT.fc 9 0 none=0/\HT.fc 9 9 (some 8)=9);decide),?_};intros p1 H5 s5 h5;exists by show 1<=sizeLine;ext,?_
   intros p2 H6 s6 h6;exists p1,p2,_,_,rfl,rfl,cW.of (s6 _ _ h5),cW.of h6,(λz=>by cases z),(by show 9<=sizeLine;ext),(λz=>by cases z),λ_=>?_;intros p3 H7 s7 h7;let s47:=(s5.trans s6).trans s7;let s07:=s04.trans s47;let la7:lg H7 p3 {S with bC:=jo}:={pl,il,st,bl,hl,nl',rl,ub,x,iv,sv,bv,hv,nv,rv,h7,s07 _ _ h2,{s07 _ _ f3.1,f3.2.mono s07},{s07 _ _ f4.1,f4.2.mono s07},{s07 _ _ f5.1,f5.2.mono s07},f6.mono s07,{s07 _ _ f7.1,f7.2.imp λx v z=>z.mono s07},{s07 _ _ f8.1,f8.2.imp λx v z=>z.mono s07},{s07 _ _ f9.1,f9.2.mono s07},ij.mono (s4.trans s47)}
   generalize ({S with bC:=jo}:bH)=S' at la7 pd vok;exists p3,S',rfl,la7,pd.td,pd.tl,pd.vI,pd.rl,λH8 s8=>?_;exists _,dM S',S',rfl,text_len pd.td pd.tl,Q6 pd.Ww pd.td,OO vok,λsa o H9 sc s9 ow=>?_;exists sa,S',o,rfl,sc,pd.CG,pd.ed,pd.b1,(by have:=pd.b2;ext),pd.jn,pd.AB,pd.Xw,λDE us bs H10 s10 hE bl10 e10 rl10=>?_;let s710:=(s8.trans s9).trans s10;exists _,QS hE,?_;exists{_,aH.of hE},?_;refine NG hE rl10 bl10 λDF H11 s11 hF=>?_;rw[e10] at hF;exists p3,S',rfl,la7.mono (s710.trans s11),pd.js,pd.CG,pd.ed,(by have:=pd.b2;ext),λDG H12 s12 hG=>?_;refine{DF,DG,_,_,rfl,rfl,.inl {aH.of (s12 _ _ hF),aH.of hG},.inr (.inr {Mn _,Mn _}),?_};rw[zg rfl];change hN _ _ {((s4.trans s47).trans s710).trans (s11.trans s12),_,_,_,rfl}
  ·rintro U H4 ⟨s4,w3,w4,w5,rfl⟩
   change kk _
end
def l1 {α:Type} {n:Nat} {P:List α->Prop} {us:List α} (h:⇑us=n+1) (k:∀u r,⇑r=n->P (u::r)):P us:=match us,h with
 | u::r,h=>k u r (Nat.succ.inj h)
def l0 {α:Type} {P:List α->Prop} {us:List α} (h:⇑us=0) (k:P []):P us:=match us,h with
 | [],_=>k
def mM {K:yB} {h:vF} {mg:Str->Option vy} {x:Str} {st:Stmt} {f:vE} {od an:Option vE} {sl:Array (Option vy)} {oc kV dc pm cd ct:vy} {p0:Str} (X:K.In h) (G:h.Ns mainGlobals mg) (a:PySem.W.nsIn K mainGlobals x=some (some (.ref f))<|>qn_) (l:K.lookup f=some {oc,od,.func (PySem.W.fnOf x x (dh st) (cA st) (aT st) .none kV dc pm an cd ct),sl}<|>qn_) (c:PySem.W.codeIn K cd x=true<|>qn_) (k:PySem.W.keepIn K (.ref f)=true<|>qn_)
  (hb:(∀(kV dc pm:vy) (an:Option vE) (cd ct u0:vy),bindArgs (PySem.W.fnOf x x (dh st) (cA st) (aT st) .none kV dc pm an cd ct) {[u0],[]}=pure [(p0,u0)])<|>qo_) :
  Df K mg x st f (PySem.W.fnOf x x (dh st) (cA st) (aT st) .none kV dc pm an cd ct) [p0]:=
 {ko l c k,vx X G a,(ko l c k).binds (ps:=[p0]) λkV dc pm an cd ct us hl=>by
  apply l1 hl;intro u0 r h;apply l0 h;exact hb kV dc pm an cd ct u0}
def kU {K:yB} {h:vF} {mg:Str->Option vy} {x:Str} {st:Stmt} {f:vE} {od an:Option vE} {sl:Array (Option vy)} {oc kV dc pm cd ct:vy} {p0 p1:Str} (X:K.In h) (G:h.Ns mainGlobals mg) (a:PySem.W.nsIn K mainGlobals x=some (some (.ref f))<|>qn_) (l:K.lookup f=some {oc,od,.func (PySem.W.fnOf x x (dh st) (cA st) (aT st) .none kV dc pm an cd ct),sl}<|>qn_) (c:PySem.W.codeIn K cd x=true<|>qn_) (k:PySem.W.keepIn K (.ref f)=true<|>qn_)
  (hb:(∀(kV dc pm:vy) (an:Option vE) (cd ct u0 u1:vy),bindArgs (PySem.W.fnOf x x (dh st) (cA st) (aT st) .none kV dc pm an cd ct) {[u0,u1],[]}=pure [(p0,u0),(p1,u1)])<|>qo_) :
  Df K mg x st f (PySem.W.fnOf x x (dh st) (cA st) (aT st) .none kV dc pm an cd ct) [p0,p1]:=
 {ko l c k,vx X G a,(ko l c k).binds (ps:=[p0,p1]) λkV dc pm an cd ct us hl=>by
  apply l1 hl;intro u0 r h;apply l1 h;intro u1 r h;apply l0 h;exact hb kV dc pm an cd ct u0 u1}
def Sx {K:yB} {h:vF} {mg:Str->Option vy} {x:Str} {st:Stmt} {f:vE} {od an:Option vE} {sl:Array (Option vy)} {oc kV dc pm cd ct:vy} {p0 p1 p2:Str} (X:K.In h) (G:h.Ns mainGlobals mg) (a:PySem.W.nsIn K mainGlobals x=some (some (.ref f))<|>qn_) (l:K.lookup f=some {oc,od,.func (PySem.W.fnOf x x (dh st) (cA st) (aT st) .none kV dc pm an cd ct),sl}<|>qn_) (c:PySem.W.codeIn K cd x=true<|>qn_) (k:PySem.W.keepIn K (.ref f)=true<|>qn_)
  (hb:(∀(kV dc pm:vy) (an:Option vE) (cd ct u0 u1 u2:vy),bindArgs (PySem.W.fnOf x x (dh st) (cA st) (aT st) .none kV dc pm an cd ct) {[u0,u1,u2],[]}=pure [(p0,u0),(p1,u1),(p2,u2)])<|>qo_) :
  Df K mg x st f (PySem.W.fnOf x x (dh st) (cA st) (aT st) .none kV dc pm an cd ct) [p0,p1,p2]:=
 {ko l c k,vx X G a,(ko l c k).binds (ps:=[p0,p1,p2]) λkV dc pm an cd ct us hl=>by
  apply l1 hl;intro u0 r h;apply l1 h;intro u1 r h;apply l1 h;intro u2 r h;apply l0 h;exact hb kV dc pm an cd ct u0 u1 u2}
def V0 {K:yB} {h:vF} {mg:Str->Option vy} {x:Str} {st:Stmt} {f:vE} {od an:Option vE} {sl:Array (Option vy)} {oc kV dc pm cd ct:vy} {p0 p1 p2 p3:Str} (X:K.In h) (G:h.Ns mainGlobals mg) (a:PySem.W.nsIn K mainGlobals x=some (some (.ref f))<|>qn_) (l:K.lookup f=some {oc,od,.func (PySem.W.fnOf x x (dh st) (cA st) (aT st) .none kV dc pm an cd ct),sl}<|>qn_) (c:PySem.W.codeIn K cd x=true<|>qn_) (k:PySem.W.keepIn K (.ref f)=true<|>qn_)
  (hb:(∀(kV dc pm:vy) (an:Option vE) (cd ct u0 u1 u2 u3:vy),bindArgs (PySem.W.fnOf x x (dh st) (cA st) (aT st) .none kV dc pm an cd ct) {[u0,u1,u2,u3],[]}=pure [(p0,u0),(p1,u1),(p2,u2),(p3,u3)])<|>qo_) :
  Df K mg x st f (PySem.W.fnOf x x (dh st) (cA st) (aT st) .none kV dc pm an cd ct) [p0,p1,p2,p3]:=
 {ko l c k,vx X G a,(ko l c k).binds (ps:=[p0,p1,p2,p3]) λkV dc pm an cd ct us hl=>by
  apply l1 hl;intro u0 r h;apply l1 h;intro u1 r h;apply l1 h;intro u2 r h;apply l1 h;intro u3 r h;apply l0 h;exact hb kV dc pm an cd ct u0 u1 u2 u3}
def walk {l:PySem.W.OpenLaw} {q:vA} {loose:List Str} {XP:(Str->Option vy)->vF->Prop} {YP:vB->vF->Prop} {d:DefRec} {K:Params->yB} (hn:l.most=some 63) (hdf:d.params.defaults=[]) (hdn:d.name ="law")
  (hY:∀(w:vB) (h:vF),YP w h->(K w.params).In h)
  (F:∀(w:vB) (mg:Str->Option vy) (h:vF),(K w.params).In h->h.Ns mainGlobals mg->
   ∃T:Txt (K w.params) mg,Dk l.prog w (K w.params) T/\∀(s:vz) (v:vy),BindsTo s T.Qn {[v],[]} [("_law_script",v)]) :
  PySem.W.WalkO q loose XP YP l.row.toRowW d [] (λf vs=>PySem.call f vs):=
 L2.QP (n:=63) (k:=9) (x:="_law_script") (CX:=λ_=>JT) (sp:=λw=>OI (K w.params)) hn ∅ hdf {rfl,∅,∅} hY
  (λw mg fa h kx hns hm=>by
   let⟨T,B,hb⟩:=F w mg h kx hns;rw[hdn] at hm;let e:=hm.symm.trans T.WQ.g;cases e;exact{T.Qn,hb,λbase _ _=>TR T B T.cf}) (λ_ _ a ns hl _ hS=>{a,ns,rfl,hS,hl,λ_=>rfl}) λ_ _ _ _ _ z=>z
def Xe {P:vA} {w:vB} {K:yB} {a:vE} {n:Nat} {t0 t1 t2 t3 t4 t5 t6 t7 t8:Tok} {f0 f1 f2 f3 f4 f5 f6 f7 f8:vE} {s0 s1 s2 s3 s4 s5 s6 s7 s8:Str} (r:K.lookup a=some {cls:=.type "dict",data:=.dict #[{PyData.keyHash w.params s0,.str s0 t0,.ref f0},{PyData.keyHash w.params s1,.str s1 t1,.ref f1},{PyData.keyHash w.params s2,.str s2 t2,.ref f2},{PyData.keyHash w.params s3,.str s3 t3,.ref f3},{PyData.keyHash w.params s4,.str s4 t4,.ref f4},{PyData.keyHash w.params s5,.str s5 t5,.ref f5},{PyData.keyHash w.params s6,.str s6 t6,.ref f6},{PyData.keyHash w.params s7,.str s7 t7,.ref f7},{PyData.keyHash w.params s8,.str s8 t8,.ref f8}] n}) (y:(a == sysModules)=false) (nd:List.Nodup [s0,s1,s2,s3,s4,s5,s6,s7,s8]) :
  KD P w K a [(s0,.ref f0),(s1,.ref f1),(s2,.ref f2),(s3,.ref f3),(s4,.ref f4),(s5,.ref f5),(s6,.ref f6),(s7,.ref f7),(s8,.ref f8)]:=Vl (l:=[(s0,t0,f0),(s1,t1,f1),(s2,t2,f2),(s3,t3,f3),(s4,t4,f4),(s5,t5,f5),(s6,t6,f6),(s7,t7,f7),(s8,t8,f8)]) r y nd
def Xv {K:yB} {a:vE} {rd:Option vE} {rs:Array (Option vy)} {rn:Nat} {t0 t1 t2 t3 t4 t5:Tok} {x0 x1 x2 x3 x4 x5:Int} (r:K.lookup a=some {.type "tuple",rd,.seq #[.int x0 t0,.int x1 t1,.int x2 t2,.int x3 t3,.int x4 t4,.int x5 t5] rn,rs}) (H:Hp):cW K H a [.int x0,.int x1,.int x2,.int x3,.int x4,.int x5]:=
 .inr {_,_,_,r,rfl,rfl,by show 6<=sizeLine;decide,.cons {_,rfl} (.cons {_,rfl} (.cons {_,rfl} (.cons {_,rfl} (.cons {_,rfl} (.cons {_,rfl} (.nil))))))}
def Xz {K:yB} {x y:Str} {st:Stmt} {f:vE} {od an:Option vE} {sl:Array (Option vy)} {oc kV dc pm cd ct:vy} {p:Str} (l:K.lookup f=some {oc,od,.func (PySem.W.fnOf x y (dh st) (cA st) (aT st) .none kV dc pm an cd ct),sl}<|>qn_) (c:PySem.W.codeIn K cd y=true<|>qn_) (k:PySem.W.keepIn K (.ref f)=true<|>qn_)
  (hb:(∀(kV dc pm:vy) (an:Option vE) (cd ct u:vy),bindArgs (PySem.W.fnOf x y (dh st) (cA st) (aT st) .none kV dc pm an cd ct) {[u],[]}=pure [(p,u)])<|>qo_):Xn K x y st f (PySem.W.fnOf x y (dh st) (cA st) (aT st) .none kV dc pm an cd ct) [p]:=
 {ko l c k,(ko l c k).binds (ps:=[p]) λkV dc pm an cd ct us hl=>match us,hl with | [u],_=>hb kV dc pm an cd ct u}
def Rw {K:yB} {C:vE} {f:Str} (e:PySem.W.findIn K (.ref C) f=some none<|>qn_):eN K C f:=e
def Aq {K:yB} {h:vF} {mg:Str->Option vy} {x:Str} {v:vy} (X:K.In h) (G:h.Ns mainGlobals mg) (e:PySem.W.nsIn K mainGlobals x=some (some v)<|>qn_):mg x=some v:=vx X G e
def JW {K:yB} {h:vF} {mg:Str->Option vy} {x:Str} (X:K.In h) (G:h.Ns mainGlobals mg) (e:PySem.W.nsIn K mainGlobals x=some none<|>qn_):mg x=none:=PySem.W.mg_none_of X G e
end K22
local macro_rules|`(command|#check $s:str)=>do{let d (c:Lean.Name):=`(command|def $(Lean.mkIdent (.mkSimple s!"tw{c.hash}")) :=Prop);match s.getString.splitOn " " with|[p,l]=>{let mut n:=0;let mut r:=#[];for c in l.toList do{n:=n+(c.toNat-47-c.toNat/65*7-c.toNat/97*6);r:=r.push (←d (.str `PySem.Challenge.cw_partsmith_k19_played_with_a_jump_holds s!"{p}_{n-1}"))};return Lean.mkNullNode r}|_=>d (.str `PySem.Challenge (s.getString++"partsmith_k19_played_with_a_jump"))}
namespace PySem.W.Fast
#check"env f"
#check"heap d6zzzzzzzzzzz"
#check"o j021120100000110201000010120210000000200210021000310021002100210021002100210002000300200210021002100210021002100200210021002002002100031002002002000210021002002100231002100210021002100210021000320210000000002100210021002002100031002002100200210021002002000231002100210021002100210020021002100210021002000310001100200210021002100210020021002002002000310020021002100210020020020021002002100210021000300"
#check"sts nEEeuzRqotqzJzDzK"
#check"tree lFEeuzRoqtozLzDzK6"
#check"view d"
#check"pw_"
#check"rw_"
end PySem.W.Fast
open PySem PySem.W PyProof.Rows L2 Sc K22
set_option maxRecDepth 100000 in
set_option maxHeartbeats 0 in
theorem PySem.Challenge.cw_partsmith_k19_played_with_a_jump_holds : PySem.Challenge.rw_partsmith_k19_played_with_a_jump.Holds := by
  w_on; o_law; k_head; (case hw => w_witness2)
  k_fill
  refine K22.walk (l := PySem.Challenge.rw_partsmith_k19_played_with_a_jump) rfl rfl rfl (fun w h Y => PySem.W.kIn_of Y) ?F
  case F =>
    intro w mg h X G
    exact ⟨⟨_,_,_,_,_,_,_,_,_,_,_,_,_,_,_,_,_,_,_,_,_,_,_,_,_,_,_,_,_,_,_,_,_,_,_,_,_,_,_,_,_,_,_,_,_,_,_,_,_,_,_,_,_,_,_,_,_,_,_,_,_,_,_,_,_,_,_,_,_,_,_,_,_,_,_,_,_,_,_,_,_,_,_,_,_,_,_,_,_,_,_,_,_,_,_,_,_,_,_,_,_,_,_,_,_,_,_,_,_,_,_,_,_,_,_,_,_,_,_,_,_,_,_,_,_,_,_,_,_,_,_,_,_,_,_,_,_,_,_,_,_,_,_,_,_,_,_,_,_,_,_,_,_,_,_,_,_,_,_,_,_,_,_,_,_,_,_,_,_,_,_,_,_,_,_,_,_,_,_,_,_,_,_,_,_,_,_,_,_,_,_,_,_,_,_,_,_,_,_,_,_,_,_,_,_,_,_,_, kU X G, kU X G, kU X G, kU X G, kU X G, kU X G, mM X G, kU X G, mM X G, mM X G, mM X G, mM X G, mM X G, mM X G, Sx X G, mM X G, kU X G, mM X G, mM X G, mM X G, mM X G, mM X G, mM X G, mM X G, mM X G, mM X G, mM X G, mM X G, mM X G, mM X G, mM X G, mM X G, mM X G, kU X G, kU X G, kU X G, kU X G, kU X G, Sx X G, kU X G, kU X G, kU X G, mM X G, kU X G, kU X G, kU X G, kU X G, kU X G, kU X G, kU X G, kU X G, kU X G, kU X G, Sx X G, kU X G, Sx X G, mM X G, kU X G, kU X G, V0 X G, mM X G, mM X G, kU X G, kU X G, kU X G, kU X G, mM X G, kU X G, kU X G, Sx X G, V0 X G, V0 X G, V0 X G, kU X G, kU X G, kU X G, Sx X G, mM X G, kU X G, kU X G, mM X G, mM X G, mM X G, mM X G, mM X G, mM X G, kU X G, Sx X G, Sx X G, mM X G, mM X G, Aq X G, ⟨by k_is,by k_is,by k_is,by k_is⟩, Xz, Aq X G, Aq X G, Aq X G, Aq X G, Aq X G, Aq X G, Aq X G, Aq X G, Aq X G, Aq X G, Aq X G, Aq X G, Xv (by k_is), Aq X G, Aq X G, Aq X G, Aq X G, Aq X G, Aq X G, Aq X G, Aq X G, Aq X G, Aq X G, JW X G, JW X G, JW X G, JW X G, JW X G, JW X G, JW X G, JW X G, JW X G, JW X G, JW X G, JW X G, JW X G, JW X G, JW X G, JW X G,by k_is, by k_exc, Aq X G, ⟨⟨by k_is,by k_is,by k_is,by k_is⟩, Rw, Rw, Rw, Rw, Rw, Rw, Rw, Rw, Rw⟩⟩, ⟨Xe (by k_is) (by rfl) (show List.Nodup [("player" : Str), ("instrument" : Str), ("staff" : Str), ("bar" : Str), ("upbeat" : Str), ("holds" : Str), ("notes" : Str), ("repeat" : Str), ("jump" : Str)] by decide +kernel), Xe (by k_is) (by rfl) (show List.Nodup [("player" : Str), ("instrument" : Str), ("staff" : Str), ("bar" : Str), ("upbeat" : Str), ("holds" : Str), ("notes" : Str), ("repeat" : Str), ("jump" : Str)] by decide +kernel)⟩, fun s v => .of_eq rfl⟩
