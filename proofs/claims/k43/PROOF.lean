import PyProof.Rows.All
import KE.KNestM
import Wide.FinOn
import PyProof.EqAt
import PyProof.EqKinds
import PyProof.TupleCall
import PyProof.ZipIter
import PyProof.WalksMore
import PyProof.CompFree
import PyProof.NeKinds
import KE.KRevIter
import PyProof.Rows.Range3
import KE.KIntText
import OpenK.KOwn
import PyProof.NsDelKeeps
import KE.KIsAll
import PyProof.CompMap
import PyProof.Cells
import PyProof.ConsumeWalk
import PyProof.SumWalk
import PyProof.Rows.SortShell
import PyProof.MeetsStr
import PyProof.StrOps2
import PyProof.DictWalks
import PyProof.Rows.SetFrom
import PyProof.SetRoads
import PyProof.ListRange
import PyProof.ListNew
import PyProof.ListIndex
import PySem.Challenge.RW_partsmith_k43_widths
local macro_rules|`(tactic|omega)=>`(tactic|lia)
local macro_rules|`(tactic|ext)=>`(tactic|omega)
local macro_rules|`(())=>`(by omega)
local macro_rules|`(∅)=>`(by decide)
local macro_rules|`(↑$s)=>`(($s).heap.objs.size)
local macro_rules|`($a <|> $b)=>`(autoParam $a $b)
local macro_rules (kind:=«term{_}»)|`({$xs,*})=>`(⟨$xs,*⟩)
local macro_rules|`(⇑$x)=>`(($x).length)
def tpt:Nat->Lean.Term->Lean.MacroM (Lean.TSyntax `rcasesPat)
|0,_=>Lean.Macro.throwUnsupported
|n+1,p=>match p with
 |`(⟨$ps,*⟩)=>do let qs<-ps.getElems.mapM (tpt n);`(rcasesPat|⟨$[$qs],*⟩)
 |`($i:ident)=>`(rcasesPat|$i:ident)
 |_=>`(rcasesPat|_)
local macro_rules|`(tactic|let $d:letDecl)=>`(tactic|have $d:letDecl)
local macro_rules|`(tactic|let $p:term:=$v:term)=>do let q<-tpt 9 p;`(tactic|obtain $q:rcasesPat:=$v)
set_option compiler.extract_closed false
set_option Elab.async false
set_option linter.all false
set_option maxRecDepth 100000
set_option maxHeartbeats 8000000
def qa_1(h:True:=by first | exact .inl rfl | exact .inr rfl | assumption):=h
def qa_:=qa_1._auto_1
def qb_1(h:True:=by decide):=h
def qb_:=qb_1._auto_1
def qc_1(h:True:=by first | exact Bi _ (by decide) (by decide) | rfl):=h
def qc_:=qc_1._auto_1
def qd_1(h:True:=by intro _;rfl):=h
def qd_:=qd_1._auto_1
def qe_1(h:True:=by rfl):=h
def qe_:=qe_1._auto_1
def qf_1(h:True:=by with_unfolding_all rfl):=h
def qf_:=qf_1._auto_1
def qg_1(h:True:=by first | exact Or.inl rfl | exact Or.inr (Or.inl rfl) | exact Or.inr (Or.inr rfl)):=h
def qg_:=qg_1._auto_1
def qh_1(h:True:=by repeat constructor):=h
def qh_:=qh_1._auto_1
def qi_1(h:True:=by first | exact Or.inl rfl | exact Or.inr rfl):=h
def qi_:=qi_1._auto_1
def qj_1(h:True:=by exact fun _ _=>rfl):=h
def qj_:=qj_1._auto_1
def qk_1(h:True:=by intro vs H Q E h;first | (obtain⟨_,rfl,_⟩:=h;rfl) | (cases h;subst_vars;rfl)):=h
def qk_:=qk_1._auto_1
def ql_1(h:True:=by decide +kernel):=h
def ql_:=ql_1._auto_1
def qm_1(h:True:=by repeat' (first | exact trivial | exact .inl rfl | exact rfl | constructor)):=h
def qm_:=qm_1._auto_1
def qn_1(h:True:=by k_is):=h
def qn_:=qn_1._auto_1
def qo_1(h:True:=by intros;rfl):=h
def qo_:=qo_1._auto_1
def za:=@List.length_map
def zb:=@List.getElem?_eq_getElem
def zd:=@decide_eq_false
def ze:=@decide_eq_true
def zg:=@List.length_append
def zh:=@List.map_cons
def zj:=@List.map_append
def zk:=@Nat.le_refl
def zm:=@List.mem_cons_of_mem
def zp:=@List.mem_cons_self
def zr:=@Int.emod_lt_of_pos
def zt:=@List.length_cons
def zv:=@Int.emod_nonneg
def zw:=@List.getElem?_eq_some_iff
def zy:=@List.mem_singleton
def zz:=@List.map_map
def zA:=@List.mem_of_getElem?
def zB:=@List.mem_cons
def zC:=@List.not_mem_nil
def zD:=@List.append_assoc
def zE:=@List.mem_append
def zF:=@List.mem_map
def zG:=@List.mem_append_right
def zH:=@List.mem_append_left
def zI:=@List.getElem?_map
def zJ:=@Bool.false_ne_true
def zK:=@Nat.le_trans
def zL:=@List.take_length
def zM:=@Bool.and_eq_true
def zN:=@List.mem_map_of_mem
def zO:=@List.length_take
def zP:=@List.length_range
def zQ:=@List.nodup_append
def zR:=@List.pairwise_append
def zT:=@List.append_nil
def zU:=@Int.ediv_nonneg
def zV:=@Int.ediv_le_self
def zW:=@List.foldl_append
def zX:=@List.getElem?_append_right
def zY:=@List.flatten_cons
def zZ:=@List.size_toArray
def z9:=@Nat.lt_of_lt_of_le
def ya:=@List.nodup_cons
def yb:=@of_decide_eq_true
def yc:=@Nat.lt_irrefl
def yd:=@Nat.zero_le
def ye:=@Nat.le_of_lt
def yf:=@Nat.ne_of_gt
def yg:=@Nat.ne_of_lt
def yh:=@Option.some.inj
def yi:=@List.getElem_mem
def yj:=@List.map_nil
def yk:=@List.any_eq_true
def ym:=@List.all_eq_true
def yn:=@List.lookup_cons
def yo:=@List.length_pos_iff
def yp:=@List.length_eq_zero_iff
def yq:=@PySem.wpAny_bind
def yr:=@PySem.Heap.get?_push_of_some
def yt:=@PySem.wpAny_pure
def yu:=@PySem.Heap.get?_push_size
def yv:=@PySem.Heap.lt_size
def yw:=@PySem.Heap.get?_update_other
abbrev yx:=PySem.W.Frag
def yy:=@PySem.sizeLine_eq
def yz:=@PySem.F.plainAttrs_list
def yA:=@PySem.F.type_list_append
def yB:=@PySem.F.slot_list_append
def yC:=@PySem.F.plainAttrs_str
def yD:=@PySem.F.type_str_join
def yE:=@PySem.F.slot_str_join
def yF:=@PySem.F.type_str_split
def yG:=@PySem.F.slot_str_split
def yH:=@Int.eq_ofNat_of_zero_le
def yI:=@PyProof.Rows.callWith_type1
def yJ:=@if_neg
def yK:=@if_pos
def yL:=@PySem.PassesOwn.never
def yM:=@Array.length_toList
def yN:=@List.mem_range
def yO:=@List.find?_cons
def yP:=@Bool.false_and
def yQ:=@or_false
def yR:=@Bool.true_and
def yS:=@List.zip_cons_cons
def yT:=@List.filter_append
def yU:=@PySem.wpAny_callSpecial?_slot
def yV:=@congrArg
def yW:=@PySem.wpAny_field
def yX:=@PySem.F.type_list_extend
def yY:=@PySem.F.slot_list_extend
def yZ:=@Int.le_of_lt
def y3:=@PySem.wpAny_call_entry
def y4:=@List.pairwise_cons
def y6:=@PySem.wpAny_newObj_type
def y7:=@PySem.wpAny_mono
def y8:=@List.flatten_append
def y9:=@PySem.wpAny_truthy_bool
def xa:=@List.length_filter_le
def xb:=@Array.getElem?_toList
def xf:=@PySem.Heap.size_push
def xg:=@PySem.W.kia_one
def xh:=@Option.map_some
def xi:=@List.length_nil
def xj:=@PySem.wpAny_Call_Name_kw
def xk:=@List.any_cons
def xm:=@PySem.wpAny_seqItems
def xn:=@List.take_add_one
def xo:=@List.take_of_length_le
def xq:=@List.map_congr_left
def xt:=@Int.mul_pos
def xu:=@List.length_zip
def xw:=@List.length_drop
def xx:=@Int.mul_comm
def xy:=@decide_eq_true_eq
def xA:=@beq_eq_false_iff_ne
def xB:=@Nat.lt_trans
def xC:=@Nat.lt_or_ge
def xD:=@PySem.wpAny_holding
def xE:=@PySem.wpAny_setField_rec
def xF:=@PySem.F.slot_zip_next
def xG:=@Bool.eq_iff_iff
def xH:=@Option.some.injEq
def xI:=@PyProof.Rows.slot_tuple_getitem
def xJ:=@Nat.lt_succ_self
def xK:=@PyProof.Rows.part_short
def xM:=@PySem.wpAny_typeNameOfWhole_keyiter
def xN:=@PySem.codeAny_mono
def xO:=@List.find?_eq_none
def xP:=@PySem.wpAny_passesOwn
def xQ:=@PySem.codeAny_builtin
def xR:=@List.dropLast_concat_getLast
def xS:=@PySem.F.slot_dict_keyiterator_next
def xT:=@PySem.Paired.length
def xU:=@Int.toNat_natCast
def xV:=@Nat.le_succ
def xW:=@List.nodup_nil
def xX:=@Int.mul_nonneg
def xY:=@Int.mul_le_mul
def xZ:=@PySem.F.slot_tuple_iterator_next
def x6:=@List.all_map
def x8:=@beq_self_eq_true
def x9:=@List.mem_flatten
def wa:=@List.getLast?_eq_getElem?
def wc:=@List.getElem?_append_left
def wd:=@PySem.mem_of_lookup
def wg:=@if_false
def wj:=@PySem.wpAny_typeNameOf_keyiter
def wk:=@PySem.wpAny_execs_nil
def wm:=@List.of_mem_zip
def wo:=@List.mem_filter
def wq:=@PySem.call_meets
def wt:=@PySem.tupleKind_room_in1
def wu:=@List.lookup_append
def wx:=@PySem.Calls.spliced_cons
def wy:=@List.any_map
def wz:=@Nat.mul_le_mul
def wA:=@List.take_zero
def wB:=@Bool.and_false
def wC:=@PySem.wpAny_pyIter_list
def wD:=@Nat.lt_succ_of_lt
def wF:=@PySem.Calls.callWith_builtin
def wG:=@List.getElem?_eq_none
def wH:=@PySem.typeIs_str
def wI:=@List.cons_append
def wJ:=@PySem.wpAny_attempt
def wK:=@List.sum_cons
def wL:=@List.all_cons
def wM:=@Sum.inr.inj
def wN:=@List.mem_of_getLast?
def wO:=@PySem.W.hideAll_get
def wQ:=@List.take_succ_cons
def wR:=@List.filterMap_cons
def wU:=@PySem.Heap.SameBut.update
def wV:=@if_true
def wW:=@PySem.wpAny_typeOf
def wX:=@beq_iff_eq
def wY:=@Nat.mod_lt
def wZ:=@PySem.W.callWith_K
def w6:=@PySem.Obj.data_mapFields
def w8:=@List.mem_filterMap
def w9:=@Int.fdiv_eq_ediv_of_nonneg
def vc:=@List.any_eq_false
def vd:=@PySem.Calls.spliced_nil
def ve:=@PySem.W.mg_of
abbrev vf:=PySem.Value
abbrev vg:=PySem.Shared
abbrev vh:=PySem.Program
abbrev vi:=PySem.World
abbrev vj:=PySem.Around
abbrev vk:=PySem.FuncData
abbrev vm:=PySem.Addr
abbrev vn:=PySem.Heap
namespace L2
open PySem PySem.Spec PyProof.Rows
abbrev Key:=Sum Int Str
noncomputable def D1:Key->vf->Bool
 | .inl k,v=>Value.isInt k v
 | .inr x,v=>Value.isStrOf x v
noncomputable def WE (w:vi):Key->Int
 | .inl k=>hashInt k
 | .inr x=>hashStr w x
def di:∀{k:Key} {v:vf},D1 k v=true->(∃i t,k=Sum.inl i/\v=Value.int i t)\/(∃x t,k=Sum.inr x/\v=Value.str x t)
 | .inl i,v,h=>by
  let⟨t,e⟩:=Value.isInt_shape (k:=i) (v:=v) h;exact .inl {(i),t,rfl,e}
 | .inr x,v,h=>by
  let⟨t,e⟩:=Value.isStrOf_shape (x:=x) (v:=v) h;exact .inr {(x),t,rfl,e}
def M4 (i:Int) (t:Tok):D1 (.inl i) (.int i t)=true:=by simp[D1,Value.isInt]
def nM (x:Str) (t:Tok):D1 (.inr x) (.str x t)=true:=by simp[D1,Value.isStrOf]
def TN (a b:Int):decide ((Sum.inl a:Key)=Sum.inl b)=(a == b):=by
 by_cases e:a=b
 ·subst e;simp
 ·let h:¬(Sum.inl a:Key)=Sum.inl b:=λq=>e (Sum.inl.inj q)
  rw[zd h];exact(xA.mpr e).symm
def TK (a b:Str):decide ((Sum.inr a:Key)=Sum.inr b)=decide (a=b):=by
 by_cases e:a=b
 ·subst e;simp
 ·let h:¬(Sum.inr a:Key)=Sum.inr b:=λq=>e (wM q)
  rw[zd h,zd e]
def TM (a:Int) (b:Str):decide ((Sum.inl a:Key)=Sum.inr b)=false:=zd (λq=>nomatch q)
def TL (a:Str) (b:Int):decide ((Sum.inr a:Key)=Sum.inl b)=false:=zd (λq=>nomatch q)
noncomputable def dF (prog:vh) (w:vi):PySem.KeyKind prog w Key where
 is:=D1
 hash:=WE w
 inj:=λv a b ha hb=>by
  rcases di ha with⟨i,t,rfl,rfl⟩ | ⟨x,t,rfl,rfl⟩
  ·rcases di hb with⟨j,u,rfl,e⟩ | ⟨y,u,rfl,e⟩
   ·injection e with e1 _;rw[e1]
   ·exact nomatch e
  ·rcases di hb with⟨j,u,rfl,e⟩ | ⟨y,u,rfl,e⟩
   ·exact nomatch e
   ·injection e with e1 _;rw[e1]
 byValue:=λk v h=>by
  rcases di h with⟨i,t,rfl,rfl⟩ | ⟨x,t,rfl,rfl⟩ <;> rfl
 pyHash:=λhv h=>by
  rcases di hv with⟨i,t,rfl,rfl⟩ | ⟨x,t,rfl,rfl⟩
  ·exact wpAny_pyHash_int h
  ·exact wpAny_pyHash_str h
 eqBool:=λhu hv h=>by
  rcases di hu with⟨i,t,rfl,rfl⟩ | ⟨x,t,rfl,rfl⟩
  ·rcases di hv with⟨j,u,rfl,rfl⟩ | ⟨y,u,rfl,rfl⟩
   ·rw[TN] at h;exact wpAny_eqBool_int h
   ·rw[TM] at h;exact SeqAt.EqAt.int_str i t y u _ _ _ _ h
  ·rcases di hv with⟨j,u,rfl,rfl⟩ | ⟨y,u,rfl,rfl⟩
   ·rw[TL] at h;exact SeqAt.EqAt.str_int x t j u _ _ _ _ h
   ·rw[TK] at h;exact wpAny_eqBool_str h
 «strs»:=λk x t v h=>by
  rcases di h with⟨i,u,rfl,e⟩ | ⟨y,u,rfl,e⟩
  ·exact nomatch e
  ·injection e with e1 _
   subst e1;cases v <;> rfl
def Ir (prog:vh) (w:vi) (i:Int) (t:Tok):(dF prog w).is (.inl i) (.int i t)=true:=M4 i t
def tZ (prog:vh) (w:vi) (x:Str) (t:Tok):(dF prog w).is (.inr x) (.str x t)=true:=nM x t
end L2
namespace L2
open PySem PySem.Spec PyProof.Rows
inductive V where
 | bN | bl (b:Bool) | int (i:Int) | str (x:Str) | Mi (b:Array UInt8) | Rw (b:UInt64) | ref (a:vm) | ty (n:String)
 deriving DecidableEq
def RelV:V->vf->Prop
 | .bN,u=>u=Value.none
 | .bl b,u=>u=Value.bool b
 | .int i,u=>∃t,u=Value.int i t
 | .str x,u=>∃t,u=Value.str x t
 | .Mi b,u=>∃t,u=Value.bytes b t
 | .Rw b,u=>∃t,u=Value.float b t
 | .ref a,u=>u=Value.ref a
 | .ty n,u=>u=Value.type n
abbrev Vals:List V->List vf->Prop:=Paired RelV
theorem Vals.length (r:Vals xs us):⇑xs=⇑us:=xT r
theorem Vals.get:∀{xs:List V} {us:List vf} {i:Nat} {x:V},Vals xs us->xs[i]?=some x->∃u,us[i]?=some u/\RelV x u
 | _,_,_,_,.nil,e=>by simp at e
 | _,_,0,_,.cons r _,e=>by simp at e;subst e;exact{_,rfl,r}
 | _,_,i+1,x,.cons _ t,e=>by
  let⟨u,h1,h2⟩:=Vals.get (i:=i) (x:=x) t (by simpa using e);exact{u,by simpa using h1,h2}
theorem Vals.append:∀{xs ys:List V} {us ws:List vf},Vals xs us->Vals ys ws->Vals (xs++ys) (us++ws)
 | _,_,_,_,.nil,s=>s
 | _,_,_,_,.cons r t,s=>.cons r (Vals.append t s)
theorem Vals.take:∀{xs:List V} {us:List vf} (n:Nat),Vals xs us->Vals (xs.take n) (us.take n)
 | _,_,0,_=>.nil
 | _,_,_+1,.nil=>.nil
 | _,_,n+1,.cons r t=>.cons r (Vals.take n t)
theorem Vals.drop:∀{xs:List V} {us:List vf} (n:Nat),Vals xs us->Vals (xs.drop n) (us.drop n)
 | _,_,0,r=>r
 | _,_,_+1,.nil=>.nil
 | _,_,n+1,.cons _ t=>Vals.drop n t
def lG:Option V->Option vf->Prop
 | some v,some u=>RelV v u
 | none,none=>True
 | _,_=>False
def KV:List (κ×V)->List (κ×vf)->Prop:=Paired λ(p:κ×V) (q:κ×vf)=>p.1=q.1/\RelV p.2 q.2
noncomputable def kV:Key->V
 | .inl i=>.int i
 | .inr x=>.str x
inductive HO where
 | lst (xs:List V)
 | tup (xs:List V)
 | dK (kvs:List (Key×V)) | dT (kvs:List (List Key×V))
 | set (S:Int->Bool) (n:Nat)
 | ins (C dx:vm) (fs:List (Str×V))
 | own (x:vm)
 | xd (fs:List (Str×V))
 | met (f x:vm)
 | MO (lo hi:Int)
 | iI (o:Obj) (u:HO)
 | Ou (ps:Array vf)
 | ext (φ:vn->Prop)
abbrev Hp:=vm->Option HO
noncomputable def upd (H:Hp) (a:vm) (o:HO):Hp:=λb=>if b=a then some o else H b
def aE:upd H a o a=some o:=by unfold upd;rw[yK rfl]
def aG (h:b≠a):upd H a o b=H b:=by unfold upd;rw[yJ h]
def bx {H:Hp} {a b:vm} {o u:HO} (h:H a=some o) (h':H b=some u) (d:o≠u):a≠b:=by
 intro e;subst e;rw[h] at h';exact d (yh h')
def cb {H:Hp} {a b:vm} {o:HO} (h:H a=some o) (h':H b=none):a≠b:=by
 intro e;subst e;rw[h] at h';cases h'
inductive LsOk (h:vn) (a:vm) (xs:List V):Prop
 | mk (_:⇑xs<=sizeLine) (its:List vf) (n:Nat) (_:Vals xs its) (_:h.get? a=some {cls:=.type "list",data:=.seq its.toArray n})
inductive WZ (h:vn) (a:vm) (xs:List V):Prop
 | mk (_:⇑xs<=sizeLine) (its:List vf) (_:Vals xs its) (_:IsTup h a its.toArray)
inductive Ur (P:vh) (w:vi) (h:vn) (a:vm) (kvs:List (Key×V)):Prop
 | mk (_:⇑kvs<=sizeLine) (_:(a == sysModules)=false) (vs:List (Key×vf)) (_:KV kvs vs) (_:h.DictOf (dF P w) a vs)
inductive W9 (H:Hp) (h:vn) (a C dx:vm) (fs:List (Str×V)):Prop
 | mk (_:H dx=some (.own a)) (_:⇑fs<=1000) (_:dx≠a) (_:h.get? a=some (PySem.W.instObj C dx)) (mA:Str->Option vf) (_:h.Ns1 dx mA) (_:∀f,lG (fs.lookup f) (mA f)) (_:PySem.Within mA (fs.map (·.1)))
inductive W6 (h:vn) (a:vm) (xs:List V):Prop
 | mk (its:List vf) (_:Vals xs its) (_:PlainL h a its.toArray) (_:⇑xs<=sizeLine)
inductive W3 (h:vn) (a:vm) (xs:List V):Prop
 | mk (its:List vf) (_:Vals xs its) (_:IsTup h a its.toArray) (_:⇑xs<=sizeLine)
inductive XB (h:vn) (a:vm) (xs:List V):Prop
 | mk (_:⇑xs<=sizeLine) (its:List vf) (n:Nat) (_:Vals xs its) (_:⇑xs=⇑its) (_:h.get? a=some {cls:=.type "list",data:=.seq its.toArray n})
section
variable (P:vh) (w:vi)
def cD (H:Hp) (h:vn) (a:vm):HO->Prop
 | .lst xs=>LsOk h a xs
 | .tup xs=>WZ h a xs
 | .dK kvs=>Ur P w h a kvs
 | .dT kvs=>⇑kvs<=sizeLine/\(a == sysModules)=false/\∃xs:List (List Key×vm×vf),
   Paired (λ(p:List Key×V) (q:List Key×vm×vf)=>p.1=q.1/\H q.2.1=some (.tup (p.1.map kV))/\RelV p.2 q.2.2) kvs xs/\
   ∃o es ep,h.get? a=some o/\o.ExactDict/\o.data=.dict es ep/\es.toList=xs.map (entryOfKey (tupleKind (dF P w)))/\(xs.map (·.1)).Nodup
 | .set S n=>h.SetOf (intKind P w) a S n
 | .ins C dx fs=>W9 H h a C dx fs
 | .own _=>∃o,h.get? a=some o
 | .xd fs=>∃mA,h.Ns1 a mA/\∀f,lG (fs.lookup f) (mA f)
 | .MO lo hi=>∃t u v,h.get? a=some {cls:=.type "range",data:=.fields #[.int lo t,.int hi u,.int 1 v]}
 | .iI o u=>h.get? a=some o/\cD H h a u
 | .Ou ps=>h.get? a=some {cls:=.none,data:=.fields ps}
 | .met f x=>h.get? a=some (PySem.W.methodObj (.ref f) (.ref x))
 | .ext φ=>φ h/\(∃o,h.get? a=some o)/\∀h1 h2:vn,φ h1->(∀o,h1.get? a=some o->h2.get? a=some o)->φ h2
def pP (H:Hp) (h:vn):Prop:=∀a o,H a=some o->cD P w H h a o
end
section
variable {P:vh} {w:vi} {H H':Hp} {h h':vn} {a:vm} {o:HO}
theorem cD.lt (x:cD P w H h a o):a<h.objs.size:=by
 cases o with
 | lst xs=>let⟨_,_,_,_,e⟩:=x;exact yv e
 | tup xs=>let⟨_,_,_,p⟩:=x;exact p.lt
 | dK kvs=>let⟨_,_,_,_,o,_,_,e,_⟩:=x;exact yv e
 | dT kvs=>let⟨_,_,_,_,o,_,_,e,_⟩:=x;exact yv e
 | set S n=>let⟨o,_,_,_,e,_⟩:=x;exact yv e
 | ins C dx fs=>let⟨_,_,_,e,_⟩:=x;exact yv e
 | own y=>let⟨_,e⟩:=x;exact yv e
 | xd fs=>let⟨_,⟨_,_,_,e,_⟩,_⟩:=x;exact yv e
 | MO lo hi=>let⟨_,_,_,e⟩:=x;exact yv e
 | iI ob u=>let⟨e,_⟩:=x;exact yv e
 | Ou ps=>exact yv (show h.get? a=some _ from x)
 | met f y=>exact yv (show h.get? a=some _ from x)
 | ext φ=>let⟨_,⟨_,e⟩,_⟩:=x;exact yv e
theorem Paired.TF:∀{l₁:List α} {l₂:List β},Paired F l₁ l₂->(∀a b,F a b->G a b)->Paired G l₁ l₂
 | _,_,.nil,_=>.nil
 | _,_,.cons r t,f=>.cons (f _ _ r) (Paired.TF t f)
def cD.lZ (x:cD P w H h a o) (k:∀b u,(b=a\/H b=some (.own a))->h.get? b=some u->h'.get? b=some u)
  (ho:∀b,H b=some (.own a)->H' b=some (.own a)) (ht:∀b xs,H b=some (.tup xs)->H' b=some (.tup xs)):cD P w H' h' a o:=by
 induction o with
 | lst xs=>let⟨z,its,n,r,e⟩:=x;exact{z,its,n,r,k _ _ (.inl rfl) e}
 | tup xs=>let⟨z,its,r,ob,e,c⟩:=x;exact{z,its,r,ob,k _ _ (.inl rfl) e,c}
 | dK kvs=>let⟨z,y,vs,r,ob,es,ep,e,c⟩:=x;exact{z,y,vs,r,ob,es,ep,k _ _ (.inl rfl) e,c}
 | dT kvs=>
  let⟨z,y,xs,r,ob,es,ep,e,c⟩:=x;exact{z,y,xs,Paired.TF r λp q z=>{z.1,ht _ _ z.2.1,z.2.2},ob,es,ep,k _ _ (.inl rfl) e,c}
 | set S n=>let⟨ob,es,ep,t,e,c⟩:=x;exact{ob,es,ep,t,k _ _ (.inl rfl) e,c}
 | ins C dx fs=>
  let⟨d,z,ne,e,mA,⟨od,es,ep,e2,c⟩,r,r'⟩:=x;exact{ho _ d,z,ne,k _ _ (.inl rfl) e,mA,{od,es,ep,k _ _ (.inr d) e2,c},r,r'}
 | own y=>let⟨ob,e⟩:=x;exact{ob,k _ _ (.inl rfl) e}
 | xd fs=>let⟨mA,⟨od,es,ep,e,c⟩,r⟩:=x;exact{mA,{od,es,ep,k _ _ (.inl rfl) e,c},r}
 | MO lo hi=>let⟨t,u,v,e⟩:=x;exact{t,u,v,k _ _ (.inl rfl) e}
 | iI ob u ih=>let⟨e,q⟩:=x;exact{k _ _ (.inl rfl) e,ih q}
 | Ou ps=>
  let e:h.get? a=some {cls:=.none,data:=.fields ps}:=x;show h'.get? a=some {cls:=.none,data:=.fields ps};exact k a _ (.inl rfl) e
 | met f y=>
  let e:h.get? a=some (PySem.W.methodObj (.ref f) (.ref y)):=x;show h'.get? a=some (PySem.W.methodObj (.ref f) (.ref y));exact k a _ (.inl rfl) e
 | ext φ=>let⟨p,⟨o,e⟩,st⟩:=x;exact{st _ _ p λo q=>k _ _ (.inl rfl) q,{o,k _ _ (.inl rfl) e},st}
theorem pP.lt (x:pP P w H h) (e:H a=some o):a<h.objs.size:=(x a o e).lt
def pP.fresh (x:pP P w H h) (e:h.objs.size<=a):H a=none:=by
 cases q:H a with
 | none=>rfl
 | some u=>exact absurd (z9 (x.lt q) e) (yc _)
def pP.kept (x:pP P w H h) (k:∀b u,h.get? b=some u->h'.get? b=some u):pP P w H h':=λa o e=>
 (x a o e).lZ (λb u _ q=>k b u q) (λ_ q=>q) λ_ _ q=>q
def pP.laid (x:pP P w H h) (k:∀b u,h.get? b=some u->h'.get? b=some u) (hp:h.objs.size<=a) (new:cD P w (upd H a o) h' a o):pP P w (upd H a o) h':=λb u e=>by
 let hn:=x.fresh hp
 by_cases hb:b=a
 ·subst hb;rw[aE] at e;cases e;exact new
 ·rw[aG hb] at e
  exact(x b u e).lZ (λc v _ q=>k c v q) (λc q=>by rw[aG (cb q hn)];exact q) λc xs q=>by rw[aG (cb q hn)];exact q
end
def Rd (H:Hp) (a:vm) (u:HO):Prop:=H a=some u\/∃o,H a=some (.iI o u)
def Rd.ok (r:Rd H a u) (x:pP P w H h):cD P w H h a u:=by
 rcases r with r | ⟨o,r⟩
 ·exact x a u r
 ·let⟨_,q⟩:=x a _ r
  exact q
def Vw:Option HO->Prop
 | some (.lst _)=>True
 | some (.dK _)=>True
 | some (.dT _)=>True
 | some (.set _ _)=>True
 | some (.ins _ _ _)=>True
 | some (.ext _)=>True
 | _=>False
section
variable {P:vh} {w:vi} {H:Hp} {h h':vn} {x e:vm} {o':HO}
def pP.write (ok:pP P w H h) (mu:Vw (H x)) (he:e=x\/H e=some (.own x)) (k:∀b u,b≠e->h.get? b=some u->h'.get? b=some u) (heo:∃u,h'.get? e=some u)
  (new:cD P w (upd H x o') h' x o'):pP P w (upd H x o') h':=λb u q=>by
 let nown:∀c y,H c=some (.own y)->c≠x:=λc y r z=>by subst z;rw[r] at mu;exact mu
 let ntup:∀c xs,H c=some (.tup xs)->c≠x:=λc xs r z=>by subst z;rw[r] at mu;exact mu
 by_cases hb:b=x
 ·subst hb;rw[aE] at q;cases q;exact new
 ·rw[aG hb] at q
  by_cases hbe:b=e
  ·let q':H b=some (.own x):=by
    rcases he with z | z
    ·exact absurd (hbe.trans z) hb
    ·rw[hbe];exact z
   rw[q] at q';cases q';let⟨v,hv⟩:=heo;exact{v,by rw[hbe];exact hv}
  ·refine(ok b u q).lZ (λc v hc r=>k c v ?_ r) (λc r=>by rw[aG (nown c b r)];exact r) λc xs r=>by rw[aG (ntup c xs r)];exact r
   rcases hc with rfl | hc
   ·exact hbe
   ·rintro rfl
    rcases he with z | z
    ·exact nown c b hc z
    ·rw[hc] at z;cases z;exact hb rfl
end
structure Un (fs ex:List vm) (H H':Hp) (h h':vn):Prop where
 keep:∀b o,h.get? b=some o->H b=none->b∉fs->b∉ex->h'.get? b=some o
 slot:∀b o,h.get? b=some o->H b=none->b∈fs->b∉ex->∃sl,h'.get? b=some {o with slots:=sl}
 free:∀b o,h.get? b=some o->H b=none->b∉ex->H' b=none
 there:∀b o,h.get? b=some o->b∉ex->∃o',h'.get? b=some o'
 nX:∀b xs,H b=some (.tup xs)->H' b=some (.tup xs)
 mf:∀b o u,H b=some (.iI o u)->H' b=some (.iI o u)
 nY:∀b ps,H b=some (.Ou ps)->∃more,H' b=some (.Ou (ps++more))
section
variable {fs fs' ex ex':List vm} {H H1 H2:Hp} {h h1 h2 h':vn} {a x e:vm} {o:HO}
def Un.any (u:Un fs ex H H1 h h1) (q:h.get? b=some ob) (n:H b=none) (hx:b∉ex):∃sl,h1.get? b=some {ob with slots:=sl}:=by
 by_cases hb:b∈fs
 ·exact u.slot b ob q n hb hx
 ·exact{ob.slots,u.keep b ob q n hb hx}
def Un.kept (k:∀b u,h.get? b=some u->h'.get? b=some u):Un fs ex H H h h':=
 {λb ob q _ _ _=>k b ob q,λb ob q _ _ _=>{ob.slots,k b ob q},λ_ _ _ n _=>n,λb ob q _=>{ob,k b ob q},λ_ _ q=>q,λ_ _ _ q=>q,λ_ ps q=>{#[],by rw[q];simp}}
def Un.refl:Un fs ex H H h h:=Un.kept λ_ _ q=>q
def Un.laid (k:∀b u,h.get? b=some u->h'.get? b=some u) (hp:h.objs.size<=a) (hn:H a=none):Un fs ex H (upd H a o) h h' where
 keep:=λb u q _ _ _=>k b u q
 slot:=λb u q _ _ _=>{u.slots,k b u q}
 free:=λb u q n _=>by rw[aG (yg (z9 (yv q) hp))];exact n
 there:=λb u q _=>{u,k b u q}
 nX:=λb xs q=>by rw[aG (cb q hn)];exact q
 mf:=λb u xs q=>by rw[aG (cb q hn)];exact q
 nY:=λb ps q=>{#[],by rw[aG (cb q hn),q];simp}
def Un.write (mu:Vw (H x)) (he:e=x\/H e=some (.own x)) (k:∀b u,b≠e->h.get? b=some u->h'.get? b=some u) (heo:∃u,h'.get? e=some u):Un fs ex H (upd H x o) h h':=by
 let hx:∀b,H b=none->b≠x:=λb n z=>by subst z;rw[n] at mu;exact mu
 let hb:∀b,H b=none->b≠e:=λb n z=>by
  subst z;rcases he with r | r
  ·exact hx b n r
  ·rw[n] at r;cases r
 let hm:∀b u,H b=some u->¬Vw (some u)->b≠x:=λb u q nm z=>by subst z;rw[q] at mu;exact nm mu
 refine{λb u q n _ _=>k b u (hb b n) q,λb u q n _ _=>{u.slots,k b u (hb b n) q},λb u q n _=>by rw[aG (hx b n)];exact n,λb u q _=>?_,
  λb xs q=>by rw[aG (hm b _ q λz=>z)];exact q,λb u xs q=>by rw[aG (hm b _ q λz=>z)];exact q,λb ps q=>{#[],by rw[aG (hm b _ q λz=>z),q];simp}}
 by_cases hbe:b=e
 ·subst hbe;exact heo
 ·exact{u,k b u hbe q}
end
noncomputable def VL (h:vn) (H:Hp):List vm:=(List.range h.objs.size).filter λa=>(H a).isSome
noncomputable def FL (h:vn) (H:Hp):vn:=PySem.W.hideAll h (VL h H)
def M9 (h:vn) (H:Hp):(FL h H).objs.size=h.objs.size:=PySem.W.hideAll_size _ _
def PR (e:h.get? b=some o) (n:H b=none):(FL h H).get? b=some o:=
 wO _ e λhm=>by
  let q:(H b).isSome=true:=(wo.mp hm).2;rw[n] at q;simp at q
def Rj (e:(FL h H).get? b=some o):h.get? b=some o/\H b=none:=by
 let e':h.get? b=some o:=PySem.W.of_hideAll (VL h H) e;refine{e',?_};cases q:H b with
 | none=>rfl
 | some x=>
  let hm:b∈VL h H:=wo.mpr {yN.mpr (yv e'),by simp[q]};let z:(FL h H).get? b=none:=PySem.W.hideAll_none (VL h H) hm;rw[z] at e;cases e
end L2
namespace L2
open PySem PySem.Spec PyProof.Rows
structure Mod (K:yx) (mg:Str->Option vf) (base:vn):Prop where
 Uw:K.In base
 glob:base.Ns mainGlobals mg
 blt:∃mb,base.Ns builtinsNs mb/\∀x:Str,x≠ "__name__"->mb x=bootBuiltins x
 nolimit:base.NoLimit
set_option genInjectivity false in
structure Cx where
 prog:vh
 w:vi
 K:yx
 mg:Str->Option vf
 base:vn
 A:vj
 N:List Str
 s₀:vg
 H₀:Hp
 env:Env
 outer:List Env
 stack:List Env
 ex:List vm
 fn:Str->Bool
 calm:Bool
 pn:List (vm×Obj)
 xe:vf->vg->Prop
noncomputable def rE (l:List Env):List vm:=l.filterMap (·.frame)
noncomputable abbrev Cx.fs (X:Cx):List vm:=rE X.outer
def Uj (sc:Scope) (x:Str):Prop:=sc.names.lookup x=some .local\/sc.names.lookup x=some .cell\/sc.names.lookup x=some .free
def Loc (sc:Scope) (x:Str):Prop:=sc.names.lookup x=some .local\/sc.names.lookup x=some .cell
def Look (env:Env) (h:vn) (m:Str->Option vf) (x:Str) (u:vf):Prop:=
 (env.kindOf x=some .local/\m x=some u)\/((env.kindOf x=some .cell\/env.kindOf x=some .free)/\∃c,env.cells.lookup x=some c/\h.IsCell c (some u))
structure Cx.Ok (X:Cx):Prop where
 mod:Mod X.K X.mg X.base
 kind:X.env.scope.kind=.function
 glob:X.env.globals=mainGlobals
 blt:X.env.builtins=builtinsNs
 above:X.s₀.heap.objs.size<=X.env.locals
 inj:∀x y c,X.env.cells.lookup x=some c->X.env.cells.lookup y=some c->x=y
 has:∀x,(X.env.kindOf x=some .cell\/X.env.kindOf x=some .free)->∃c,X.env.cells.lookup x=some c
 Ue:∀x c,X.fn x=true->X.env.cells.lookup x=some c->X.s₀.heap.objs.size<=c
 hd:X.calm=true->X.A.handled=none
 frames:X.A.frames=some X.stack
 Ut:X.stack=X.outer\/(X.stack=X.env::X.outer/\X.env.frame=some X.env.locals)
 VP:∀b∈X.ex,b≠X.env.locals/\∀x c,X.env.cells.lookup x=some c->c≠b
 bs:∀b o,X.base.get? b=some o->X.s₀.heap.get? b=some o/\X.H₀ b=none
 N4:X.base.objs.size<=X.s₀.heap.objs.size
 u9:∀b o,X.base.get? b=some o->b∉X.ex
 K0:∀b∈X.ex,b∉X.fs
 oh:X.s₀.heap.FunFrames X.base X.outer
 KZ:∀b∈X.fs,X.H₀ b=none
structure Sn (L:vm) (fs:List vm) (H:Hp) (s:vg) (p:vm×Obj):Prop where
 get:s.heap.get? p.1=some p.2
 no:H p.1=none
 ne:p.1≠L
 nf:p.1∉fs
 nc:∀v,p.2.data≠.cell v
inductive Vx (env:Env) (N:List Str) (U:List (Option V)) (s:vg):Prop
 | mk (m:Str->Option vf) (_:s.heap.Ns env.locals m) (_:∀(i:Nat) (x:Str) (v:V),N[i]?=some x->U[i]?=some (some v)->Uj env.scope x->∃u,RelV v u/\Look env s.heap m x u)
structure Inv (X:Cx) (pins:List (vm×Obj)) (U:List (Option V)) (H:Hp) (s:vg):Prop where
 ok:X.Ok
 os:s.os=X.s₀.os
 bare:AllBare s.gens
 base:Un X.fs X.ex X.H₀ H X.s₀.heap s.heap
 loc:Vx X.env X.N U s
 cell:∀x c,X.env.cells.lookup x=some c->∃v,s.heap.IsCell c v
 free:H X.env.locals=none
 ke:∀x c,X.env.cells.lookup x=some c->H c=none
 pin:∀p∈X.pn++pins,Sn X.env.locals X.fs H s p
 cx:pP X.prog X.w H s.heap
 len:U.length=⇑X.N
section
variable {X:Cx} {pins:List (vm×Obj)} {U:List (Option V)} {H H':Hp} {s:vg} {h':vn}
def Cx.Ok.WC (ok:X.Ok) (e:X.base.get? b=some o):b∉X.fs:=λhb=>by
 have:=(ok.oh.mem hb).1;rw[e] at this;cases this
theorem Inv.bs (I:Inv X pins U H s):∀b o,X.base.get? b=some o->s.heap.get? b=some o/\H b=none:=λb o e=>
 {I.base.keep b o (I.ok.bs b o e).1 (I.ok.bs b o e).2 (I.ok.WC e) (I.ok.u9 b o e),I.base.free b o (I.ok.bs b o e).1 (I.ok.bs b o e).2 (I.ok.u9 b o e)}
def Inv.bk (I:Inv X pins U H s):∀b o,X.base.get? b=some o->s.heap.get? b=some o:=λb o e=>(I.bs b o e).1
theorem Inv.mod (I:Inv X pins U H s):Mod X.K X.mg X.base:=I.ok.mod
def Inv.sW (I:Inv X pins U H s):X.K.In s.heap:=I.ok.mod.Uw.keeps I.bk
theorem Inv.lt (I:Inv X pins U H s):X.env.locals<↑s:=let ⟨_,hn,_⟩:=I.loc;hn.lt
def Inv.sz (I:Inv X pins U H s):X.s₀.heap.objs.size<=↑s:=zK I.ok.above (ye I.lt)
def Inv.U5 (I:Inv X pins U H s) (h:↑s<=a):a∉X.fs:=λhb=>by
 let⟨_,o,ho,_⟩:=I.ok.oh.mem hb;exact absurd (z9 (yv ho) (zK I.sz h)) (yc _)
def Inv.QC (I:Inv X pins U H s):∀x c,X.env.cells.lookup x=some c->c≠X.env.locals:=λx c e z=>by
 let⟨v,o,ho,hd⟩:=I.cell x c e;let⟨m,⟨o',es,ep,ho',hd',_⟩,_⟩:=I.loc;rw[z,ho'] at ho;cases ho;rw[hd'] at hd;cases hd
theorem Inv.oh (I:Inv X pins U H s):s.heap.FunFrames X.base X.outer:=by
 let all:∀(l:List Env),(∀b∈rE l,b∈X.fs)->X.s₀.heap.FunFrames X.base l->s.heap.FunFrames X.base l:=by
  intro l
  induction l with
  | nil=>intro _ _;trivial
  | cons env r ih=>
   intro hs hl;let⟨hk,⟨L,o,hf,hn,ho,hd⟩,hr⟩:=hl;let hL:L∈X.fs:=hs L (by unfold rE;rw[wR,hf];exact zp);let⟨sl,e⟩:=I.base.slot L o ho (I.ok.KZ L hL) hL λz=>I.ok.K0 L z hL;exact{hk,{L,_,hf,hn,e,hd},ih (λb hb=>hs b (by unfold rE;rw[wR,hf];exact zm _ hb)) hr}
 exact all X.outer (λ_ hb=>hb) I.ok.oh
theorem Inv.stack (I:Inv X pins U H s):s.heap.FunFrames X.base X.stack:=by
 rcases I.ok.Ut with e | ⟨e,hf⟩
 ·rw[e];exact I.oh
 ·rw[e]
  let⟨m,hn,_⟩:=I.loc;refine .cons (by rw[I.ok.kind];decide) hf hn ?_ I.oh;exact Heap.get?_none_of_le (zK I.ok.N4 I.ok.above)
def Inv.EG (I:Inv X pins U H s):∀b∈rE X.stack,b∈X.env.locals::X.fs:=λb hb=>by
 rcases I.ok.Ut with e | ⟨e,hf⟩
 ·rw[e] at hb;exact zm _ hb
 ·rw[e] at hb
  unfold rE at hb;rw[wR,hf] at hb;exact hb
def Inv.vV (I:Inv X pins U H s):∀b∈rE X.stack,H b=none:=λb hb=>by
 rcases zB.mp (I.EG b hb) with e | hb
 ·rw[e];exact I.free
 ·let⟨_,o,ho,_⟩:=I.ok.oh.mem hb
  exact I.base.free b o ho (I.ok.KZ b hb) λz=>I.ok.K0 b z hb
def Inv.step {g':Array GenState} {t':Nat} {d':Drawn} {ch:List vm} (I:Inv X pins U H s)
  (hch:∀b∈ch,(b∈X.ex\/X.s₀.heap.objs.size<=b)/\b≠X.env.locals/\(∀x c,X.env.cells.lookup x=some c->c≠b)/\∀p∈X.pn++pins,p.1≠b)
  (keep:∀b o,b≠X.env.locals->b∉X.fs->b∉ch->s.heap.get? b=some o->H b=none->h'.get? b=some o)
  (slot:∀b o,b≠X.env.locals->b∈X.fs->b∉ch->s.heap.get? b=some o->H b=none->∃sl,h'.get? b=some {o with slots:=sl}) (free:∀b o,b∉ch->s.heap.get? b=some o->H b=none->H' b=none)
  (there:∀b o,b∉ch->s.heap.get? b=some o->∃o',h'.get? b=some o')
  (nX:∀b xs,H b=some (.tup xs)->H' b=some (.tup xs)) (mf:∀b o u,H b=some (.iI o u)->H' b=some (.iI o u)) (nY:∀b ps,H b=some (.Ou ps)->∃more,H' b=some (.Ou (ps++more)))
  (ns:∀m,s.heap.Ns X.env.locals m->h'.Ns X.env.locals m) (cx:pP X.prog X.w H' h') (hg:AllBare g') :
  Inv X pins U H' {s with heap:=h',gens:=g',drawn:=d',toks:=t'}:=by
 let neL:∀b o,X.s₀.heap.get? b=some o->b≠X.env.locals:=λb o e=>yg (z9 (yv e) I.ok.above);let neC:∀b o,X.s₀.heap.get? b=some o->b∉X.ex->b∉ch:=λb o e hx hb=>by
  rcases(hch b hb).1 with z | z
  ·exact hx z
  ·exact absurd (z9 (yv e) z) (yc _)
 let cellK:∀x c,X.env.cells.lookup x=some c->∀v,s.heap.IsCell c v->h'.IsCell c v:=λx c e v ⟨o,ho,hd⟩=>by
  let nch:c∉ch:=λz=>(hch c z).2.2.1 x c e rfl
  by_cases hc:c∈X.fs
  ·let⟨sl,q⟩:=slot c o (I.QC x c e) hc nch ho (I.ke x c e)
   exact{_,q,hd}
  ·exact{o,keep c o (I.QC x c e) hc nch ho (I.ke x c e),hd}
 refine{I.ok,I.os,hg,{λb o e n hb hx=>?_,λb o e n hb hx=>?_,λb o e n hx=>?_,λb o e hx=>?_,λb xs e=>nX b xs (I.base.nX b xs e),λb o xs e=>mf b o xs (I.base.mf b o xs e),λb ps e=>?_},?_,λx c e=>?_,?_,λx c e=>?_,λp hp=>?_,cx,I.len}
 ·exact keep b o (neL b o e) hb (neC b o e hx) (I.base.keep b o e n hb hx) (I.base.free b o e n hx)
 ·let⟨sl,e1⟩:=I.base.slot b o e n hb hx
  let⟨sl',e2⟩:=slot b _ (neL b o e) hb (neC b o e hx) e1 (I.base.free b o e n hx);exact{(sl'),e2}
 ·let⟨o',e1⟩:=I.base.there b o e hx
  exact free b o' (neC b o e hx) e1 (I.base.free b o e n hx)
 ·let⟨o',e1⟩:=I.base.there b o e hx
  exact there b o' (neC b o e hx) e1
 ·let⟨m1,e1⟩:=I.base.nY b ps e
  let⟨m2,e2⟩:=nY b _ e1;exact{m1++m2,by rw[e2,Array.append_assoc]}
 ·let⟨m,hn,hl⟩:=I.loc
  refine{m,ns m hn,λi x v e1 e2 e3=>?_};let⟨u,r,l⟩:=hl i x v e1 e2 e3;refine{u,r,?_};rcases l with l | ⟨k,c,e,z⟩
  ·exact .inl l
  ·exact .inr {k,c,e,cellK x c e _ z}
 ·let⟨v,z⟩:=I.cell x c e
  exact{v,cellK x c e v z}
 ·let⟨m,⟨o,_,_,ho,_⟩,_⟩:=I.loc
  exact free _ o (λz=>(hch _ z).2.1 rfl) ho I.free
 ·let⟨v,o,ho,hd⟩:=I.cell x c e
  exact free c o (λz=>(hch c z).2.2.1 x c e rfl) ho (I.ke x c e)
 ·let⟨e,n,ne,nf,d⟩:=I.pin p hp
  let nch:p.1∉ch:=λz=>(hch p.1 z).2.2.2 p hp rfl;exact{keep p.1 p.2 ne nf nch e n,free p.1 p.2 nch e n,ne,nf,d}
def Inv.un {t':Nat} (I:Inv X pins U H s) (u:Un X.fs [] H H' s.heap h') (cx:pP X.prog X.w H' h'):Inv X pins U H' {s with heap:=h',toks:=t'}:=by
 let⟨m,⟨o,es,ep,ho,r⟩,_⟩:=id I.loc;let⟨sl,hL⟩:=u.any ho I.free (by simp);exact I.step (g':=s.gens) (d':=s.drawn) (ch:=[]) (λ_ z=>nomatch z) (λb o _ hb _ e n=>u.keep b o e n hb (by simp)) (λb o _ hb _ e n=>u.slot b o e n hb (by simp)) (λb o _ e n=>u.free b o e n (by simp)) (λb o _ e=>u.there b o e (by simp)) u.nX u.mf u.nY (λm' hm=>by
  let⟨o',es',ep',ho',r'⟩:=hm;rw[ho] at ho';cases ho';exact{_,es',ep',hL,r'}) cx I.bare
def Inv.call {g':Array GenState} {t':Nat} {d':Drawn} {ch:List vm} (I:Inv X pins U H s) (u:Un (rE X.stack) ch H H' s.heap h') (cx:pP X.prog X.w H' h') (hg:AllBare g')
  (hch:∀b∈ch,(b∈X.ex\/X.s₀.heap.objs.size<=b)/\b≠X.env.locals/\(∀x c,X.env.cells.lookup x=some c->c≠b)/\∀p∈X.pn++pins,p.1≠b) :
  Inv X pins U H' {s with heap:=h',gens:=g',drawn:=d',toks:=t'}:=by
 let⟨m,⟨o,es,ep,ho,r⟩,_⟩:=id I.loc;let⟨sl,hL⟩:=u.any ho I.free λz=>(hch _ z).2.1 rfl;exact I.step (ch:=ch) hch (λb o hL hb hc e n=>u.keep b o e n (λz=>(zB.mp (I.EG b z)).elim hL hb) hc) (λb o _ _ hc e n=>u.any e n hc) (λb o hc e n=>u.free b o e n hc) (λb o hc e=>u.there b o e hc) u.nX u.mf u.nY (λm' hm=>by
  let⟨o',es',ep',ho',r'⟩:=hm;rw[ho] at ho';cases ho';exact{_,es',ep',hL,r'}) cx hg
def Inv.turned {t':Nat} {it:vm} (I:Inv X pins U H s) (k:∀b o,b≠it->s.heap.get? b=some o->h'.get? b=some o) (hn:H it=none) (hL:it≠X.env.locals)
  (h1:it∈X.ex\/X.s₀.heap.objs.size<=it) (h2:∀x c,X.env.cells.lookup x=some c->c≠it) (h3:∀p∈X.pn++pins,p.1≠it):Inv X pins U H {s with heap:=h',toks:=t'}:=by
 let nit:∀b u,H b=some u->b≠it:=λb u e z=>by rw[z,hn] at e;cases e
 refine I.step (g':=s.gens) (d':=s.drawn) (ch:=[it]) (λb hb=>?_) (λb o _ _ hc e _=>k b o (λz=>hc (by simp[z])) e) (λb o _ _ hc e _=>{o.slots,k b o (λz=>hc (by simp[z])) e}) (λ_ _ _ _ n=>n)
  (λb o hc e=>{o,k b o (λz=>hc (by simp[z])) e}) (λ_ _ e=>e) (λ_ _ _ e=>e) (λb ps e=>{#[],by rw[e];simp}) (λm hm=>?_) (λb u e=>?_) I.bare
 ·let e:b=it:=by simpa using hb
  subst e;exact{(h1),hL,h2,h3}
 ·let⟨o,es,ep,ho,r⟩:=hm
  exact{o,es,ep,k _ o (Ne.symm hL) ho,r}
 ·refine(I.cx b u e).lZ (λc v hc q=>k c v ?_ q) (λ_ q=>q) λ_ _ q=>q
  rcases hc with z | z
  ·rw[z];exact nit b u e
  ·exact nit c _ z
def Inv.tok (I:Inv X pins U H s) (t:Nat):Inv X pins U H {s with toks:=t}:=I.un (h':=s.heap) (t':=t) Un.refl I.cx
theorem Inv.kept (I:Inv X pins U H s) (k:∀b u,s.heap.get? b=some u->h'.get? b=some u):Inv X pins U H {s with heap:=h',toks:=t'}:=I.un (Un.kept k) (I.cx.kept k)
theorem Inv.laid (I:Inv X pins U H s) (k:∀b u,s.heap.get? b=some u->h'.get? b=some u) (hp:↑s<=a) (new:cD X.prog X.w (upd H a o) h' a o) :
  Inv X pins U (upd H a o) {s with heap:=h',toks:=t'}:=I.un (Un.laid k hp (I.cx.fresh hp)) (I.cx.laid k hp new)
theorem Inv.write (I:Inv X pins U H s) (mu:Vw (H x)) (he:e=x\/H e=some (.own x)) (k:∀b u,b≠e->s.heap.get? b=some u->h'.get? b=some u) (heo:∃u,h'.get? e=some u)
  (new:cD X.prog X.w (upd H x o) h' x o):Inv X pins U (upd H x o) {s with heap:=h',toks:=t'}:=I.un (Un.write mu he k heo) (I.cx.write mu he k heo new)
def Inv.nH (I:Inv X pins U H s) (h:∀p∈pins',Sn X.env.locals X.fs H s p):Inv X pins' U H s:=
 {I.ok,I.os,I.bare,I.base,I.loc,I.cell,I.free,I.ke,λp hp=>(zE.mp hp).elim (λz=>I.pin p (zH _ z)) (h p),I.cx,I.len}
def Io {N:List Str} (hN:N.Nodup) {i j:Nat} {x:Str} (a:N[i]?=some x) (b:N[j]?=some x):i=j:=by
 let⟨h1,e1⟩:=zw.mp a;let⟨h2,e2⟩:=zw.mp b;exact(List.getElem_inj hN).mp (e1.trans e2.symm)
def DO {M:Model} {A:vj} {E:vf->vg->Prop} {i:Nat} {x:Str} {v:V} {u:vf} {Q:Unit->vg->Prop} (I:Inv X pins U H s) (hN:X.N.Nodup) (hi:X.N[i]?=some x) (hx:Loc X.env.scope x) (r:RelV v u)
  (h:∀s',Inv X pins (U.set i (some v)) H s'->(∃a,Heap.SameBut a s.heap s'.heap/\(a=X.env.locals\/X.env.cells.lookup x=some a))->Q .unit s') (hf:X.fn x=true\/X.env.scope.names.lookup x=some .local<|>qa_):wpAny M A (storeName X.env x u) Q E s:=by
 let⟨m,hn,hl⟩:=id I.loc;let hcls:(X.env.scope.kind == .class||(X.env.scope.kind == .module&&X.env.locals != X.env.globals))=false:=by rw[I.ok.kind];rfl
 let hiU:i<U.length:=by rw[I.len];exact(zw.mp hi).1
 let QC:=I.QC;let tracked:∀{a:vm} {h':vn},(∃o,s.heap.get? a=some o/\H a=none)->Heap.SameBut a s.heap h'->pP X.prog X.w H h':=λ{a h'} ha hs b ob e=>by
  let⟨_,_,hfree⟩:=ha;refine(I.cx b ob e).lZ (λc w' hc q=>(hs.2 c ?_).trans q) (λ_ q=>q) λ_ _ q=>q;rintro rfl;rcases hc with rfl | hc
  ·rw[hfree] at e;cases e
  ·rw[hfree] at hc;cases hc
 rcases hx with hk | hk
 ·refine wpAny_storeName_local hk hn (λh' hn' hs=>?_) hcls
  let⟨oL,_,_,hoL,_⟩:=id hn;refine h _ {I.ok,I.os,I.bare,{λb o e n hb hx=>?_,λb o e n hb hx=>?_,I.base.free,λb o e hx=>?_,I.base.nX,I.base.mf,I.base.nY},{_,hn',λj y v' e1 e2 e3=>?_},λy c e=>?_,I.free,I.ke,λp hp=>?_,tracked {(oL),hoL,I.free} hs,by simpa using I.len} {_,hs,.inl rfl}
  ·exact(hs.2 b (yg (z9 (yv e) I.ok.above))).trans (I.base.keep b o e n hb hx)
  ·let⟨sl,e1⟩:=I.base.slot b o e n hb hx
   exact{sl,(hs.2 b (yg (z9 (yv e) I.ok.above))).trans e1}
  ·let⟨o',e1⟩:=I.base.there b o e hx
   exact{o',(hs.2 b (yg (z9 (yv e) I.ok.above))).trans e1}
  ·by_cases hj:j=i
   ·subst hj
    rw[hi] at e1;cases e1;rw[List.getElem?_set_self hiU] at e2;cases e2;exact{u,r,.inl {hk,by simp}}
   ·rw[List.getElem?_set_ne (Ne.symm hj)] at e2
    let⟨u',r',q⟩:=hl j y v' e1 e2 e3;refine{u',r',?_};rcases q with⟨k,e⟩ | ⟨k,c,e,z⟩
    ·refine .inl {k,?_}
     have:y≠x:=λe=>hj (Io hN e1 (e▸hi));simp[this,e]
    ·exact .inr {k,c,e,z.sameBut hs (QC y c e)}
  ·let⟨w',z⟩:=I.cell y c e
   exact{w',z.sameBut hs (QC y c e)}
  ·let⟨e,n,ne,nf,d⟩:=I.pin p hp
   exact{(hs.2 p.1 ne).trans e,n,ne,nf,d}
 ·let hfn:X.fn x=true:=by
   rcases hf with z | z
   ·exact z
   ·rw[z] at hk;cases hk
  let⟨c,hc⟩:=I.ok.has x (.inl hk);let⟨w',z⟩:=I.cell x c hc;refine wpAny_storeName_cell I.ok.kind hk hc z (λh' hc' hs=>?_);let⟨oc,hoc,hocd⟩:=id z;refine h {s with heap:=h'} {I.ok,I.os,I.bare,{λb o e n hb hx=>?_,λb o e n hb hx=>?_,I.base.free,λb o e hx=>?_,I.base.nX,I.base.mf,I.base.nY},{m,hn.sameBut hs (Ne.symm (QC x c hc)),λj y v' e1 e2 e3=>?_},λy c' e=>?_,I.free,I.ke,λp hp=>?_,tracked {oc,hoc,I.ke x c hc} hs,by simpa using I.len} {c,hs,.inr hc}
  ·exact(hs.2 b (yg (z9 (yv e) (I.ok.Ue x c hfn hc)))).trans (I.base.keep b o e n hb hx)
  ·let⟨sl,e1⟩:=I.base.slot b o e n hb hx
   exact{sl,(hs.2 b (yg (z9 (yv e) (I.ok.Ue x c hfn hc)))).trans e1}
  ·let⟨o',e1⟩:=I.base.there b o e hx
   exact{o',(hs.2 b (yg (z9 (yv e) (I.ok.Ue x c hfn hc)))).trans e1}
  ·by_cases hj:j=i
   ·subst hj
    rw[hi] at e1;cases e1;rw[List.getElem?_set_self hiU] at e2;cases e2;exact{u,r,.inr {.inl hk,c,hc,hc'}}
   ·rw[List.getElem?_set_ne (Ne.symm hj)] at e2
    let⟨u',r',q⟩:=hl j y v' e1 e2 e3;refine{u',r',?_};rcases q with q | ⟨k,c',e,z'⟩
    ·exact .inl q
    ·refine .inr {k,c',e,z'.sameBut hs ?_}
     rintro rfl;exact hj (Io hN e1 (I.ok.inj _ _ _ e hc▸hi))
  ·by_cases hcc:c'=c
   ·subst hcc;exact{_,hc'}
   ·let⟨w2,z2⟩:=I.cell y c' e
    exact{w2,z2.sameBut hs hcc}
  ·let⟨e,n,ne,nf,d⟩:=I.pin p hp
   refine{(hs.2 p.1 ?_).trans e,n,ne,nf,d};intro q;rw[q,hoc] at e;let q':oc=p.2:=yh e;exact d w' (by rw[<-q'];exact hocd)
def mB (I:Inv X pins U H s) (hN:X.N.Nodup) (hi:X.N[i]?=some x) (hx:Loc X.env.scope x) (r:RelV v u)
  (h:∀s',Inv X pins (U.set i (some v)) H s'->Q .unit s') (hf:X.fn x=true\/X.env.scope.names.lookup x=some .local<|>qa_):wpAny M A (storeName X.env x u) Q E s:=
 DO I hN hi hx r (λs' I' _=>h s' I') hf
def Inv.Sj (I:Inv X pins U H s) (ho:s'.os=s.os) (u:Un (rE X.stack) ch H H' s.heap s'.heap) (cx:pP X.prog X.w H' s'.heap) (hg:AllBare s'.gens)
  (hch:∀b∈ch,(b∈X.ex\/X.s₀.heap.objs.size<=b)/\b≠X.env.locals/\(∀x c,X.env.cells.lookup x=some c->c≠b)/\∀p∈X.pn++pins,p.1≠b):Inv X pins U H' s':=by
 let⟨h',g',d',t',o'⟩:=s';let e:o'=s.os:=ho;subst e;exact I.call (g':=g') (t':=t') (d':=d') u cx hg hch
end
abbrev XK:=vf->Option vm->Hp->Prop
abbrev St:=List (Option V)
abbrev VK:=V->Hp->Prop
abbrev TE:=St->Hp->VK->Prop
abbrev TT:=St->Hp->(Bool->Hp->Prop)->Prop
abbrev TA:=St->Hp->(List V->Hp->Prop)->Prop
structure Ends where
 nx:St->Hp->Prop
 rt:VK
 bk:St->Hp->Prop:=λ_ _=>False
 ct:St->Hp->Prop:=λ_ _=>False
abbrev TS:=Ends->St->Hp->Prop
inductive EP (X:Cx) (pins:List (vm×Obj)) (U:St) (Q:VK) (u:vf) (s':vg):Prop
 | mk (v:V) (H':Hp) (_:Inv X pins U H' s') (_:RelV v u) (_:Q v H')
inductive TP (X:Cx) (pins:List (vm×Obj)) (U:St) (Q:Bool->Hp->Prop) (b:Bool) (s':vg):Prop
 | mk (H':Hp) (_:Inv X pins U H' s') (_:Q b H')
inductive AP (X:Cx) (pins:List (vm×Obj)) (U:St) (Q:List V->Hp->Prop) (us:List vf) (s':vg):Prop
 | mk (vs:List V) (H':Hp) (_:Inv X pins U H' s') (_:Vals vs us) (_:Q vs H')
inductive SN (X:Cx) (pins:List (vm×Obj)) (N:St->Hp->Prop) (s':vg):Prop
 | mk (U':St) (H':Hp) (_:Inv X pins U' H' s') (_:N U' H')
inductive SR (X:Cx) (pins:List (vm×Obj)) (R:VK) (u:vf) (s':vg):Prop
 | mk (v:V) (U':St) (H':Hp) (_:Inv X pins U' H' s') (_:RelV v u) (_:R v H')
def SP (X:Cx) (pins:List (vm×Obj)) (D:Ends) (f:Flow) (s':vg):Prop:=
 match f with
 | .next=>SN X pins D.nx s'
 | .brk=>SN X pins D.bk s'
 | .cont=>SN X pins D.ct s'
 | .ret u=>SR X pins D.rt u s'
def PE (X:Cx) (e:Expr) (t:TE):Prop:=
 ∀⦃pins:List (vm×Obj)⦄ (s:vg) (U:St) (H:Hp) (Q:VK),Inv X pins U H s->t U H Q->wpAny (model X.prog X.w) X.A (eval e X.env) (EP X pins U Q) X.xe s
def PT (X:Cx) (e:Expr) (t:TT):Prop:=
 ∀⦃pins:List (vm×Obj)⦄ (s:vg) (U:St) (H:Hp) (Q:Bool->Hp->Prop),Inv X pins U H s->t U H Q->wpAny (model X.prog X.w) X.A (isTrue e X.env (eval e X.env)) (TP X pins U Q) X.xe s
def PW (X:Cx) (e:Expr) (t:TT):Prop:=
 ∀(whole:Sem vf) (pins:List (vm×Obj)) (s:vg) (U:St) (H:Hp) (Q:Bool->Hp->Prop),Inv X pins U H s->t U H Q->wpAny (model X.prog X.w) X.A (isTrue e X.env whole) (TP X pins U Q) X.xe s
def PW.pt (h:PW X e t):PT X e t:=h _
def PA (X:Cx) (es:List Expr) (t:TA):Prop:=
 ∀⦃pos:Pos⦄ ⦃pins:List (vm×Obj)⦄ (s:vg) (U:St) (H:Hp) (Q:List V->Hp->Prop),Inv X pins U H s->t U H Q->wpAny (model X.prog X.w) X.A (spliced (backTo pos (starEach es X.env))) (AP X pins U Q) X.xe s
def PS (X:Cx) (st:Stmt) (t:TS):Prop:=
 ∀⦃pins:List (vm×Obj)⦄ (s:vg) (U:St) (H:Hp) (D:Ends),Inv X pins U H s->t D U H->wpAny (model X.prog X.w) X.A (exec st X.env) (SP X pins D) X.xe s
def DH (X:Cx) (st:List Stmt) (t:TS):Prop:=
 ∀⦃pins:List (vm×Obj)⦄ (s:vg) (U:St) (H:Hp) (D:Ends),Inv X pins U H s->t D U H->wpAny (model X.prog X.w) X.A (execs st X.env) (SP X pins D) X.xe s
def cQ (h:wpAny M A t Q E s) (hQ:∀a s,Q a s->Q' a s):wpAny M A t Q' E s:=y7 h hQ λ_ _ x=>x
end L2
namespace L2
open PySem PySem.Spec PyProof.Rows
section
variable {X:Cx}
def bc (i:Nat):TE:=λU H Q=>∃v,U[i]?=some (some v)/\Q v H
def tC (v:V):TE:=λ_ H Q=>Q v H
def Tj (hN:X.N[i]?=some x) (hv:Uj X.env.scope x) (hd:(x == ("__debug__": Str))=false<|>qb_) (hcd:(x == ("__classdict__": Str))=false<|>qb_):PE X (.Name x pos) (bc i):=by
 intro pins s U H Q I h;let⟨v,e,h⟩:=h;let⟨m,hn,hl⟩:=I.loc;let⟨u,r,l⟩:=hl i x v hN e hv;let fin:EP X pins U Q u s:={(v),H,I,r,h}
 rcases l with⟨hk,hm⟩ | ⟨hk,c,hc,hcell⟩
 ·exact wpAny_Name (wpAny_loadName_local I.ok.kind hk hn hm fin) hd
 ·rcases hk with hk | hk
  ·exact wpAny_Name (wpAny_loadName_cell I.ok.kind hk hc hcell fin) hd
  ·exact wpAny_Name (wpAny_loadName_free I.ok.kind hk hc hcell fin hcd) hd
def aa:PE X (.Constant (.int i) j pos) (tC (.int i)):=λ_ _ _ H _ I h=>wpAny_Constant_int {.int i,H,I.tok _,{_,rfl},h}
def mM:PE X (.Constant (.bool b) j pos) (tC (.bl b)):=λ_ _ _ H _ I h=>Constant_bool {.bl b,H,I,rfl,h}
def aV:PE X (.Constant .none j pos) (tC .bN):=λ_ _ _ H _ I h=>Constant_none {.bN,H,I,rfl,h}
def aL:PE X (.Constant (.str x) j pos) (tC (.str x)):=λ_ _ _ H _ I h=>Calls.Constant_str {.str x,H,I.tok _,{_,rfl},h}
def Gl (X:Cx) (x:Str):Prop:=X.env.kindOf x=some .globalImplicit
def nL (I:Inv X pins U H s) (hg:Gl X x) (hm:X.mg x=some u) (h:Q u s)
  (hd:(x == ("__debug__": Str))=false<|>qb_):wpAny (model X.prog X.w) X.A (eval (.Name x pos) X.env) Q E s:=
 Calls.Name_function_global I.ok.kind hg (Calls.loadGlobal_global (by rw[I.ok.glob];exact I.mod.glob.keeps I.bk) hm h) hd
def jM (I:Inv X pins U H s) (hg:Gl X x) (hm:X.mg x=none) (hv:bootBuiltins x=some u) (h:Q u s)
  (hn:x≠ "__name__"<|>qb_) (hd:(x == ("__debug__": Str))=false<|>qb_):wpAny (model X.prog X.w) X.A (eval (.Name x pos) X.env) Q E s:=by
 let⟨mb,h1,h2⟩:=I.mod.blt;exact Calls.Name_function_global I.ok.kind hg (Calls.loadGlobal_builtin (by rw[I.ok.glob];exact I.mod.glob.keeps I.bk) hm (by rw[I.ok.blt];exact h1.keeps I.bk) ((h2 x hn).trans hv) h) hd
def bM (hg:Gl X x) (hm:X.mg x=some u) (r:RelV v u) (hd:(x == ("__debug__": Str))=false<|>qb_):PE X (.Name x pos) (tC v):=
 λ_ _ _ H _ I h=>nL I hg hm {(v),H,I,r,h} hd
def Rb (hg:Gl X x) (hm:X.mg x=none) (hv:bootBuiltins x=some u) (r:RelV v u) (hn:x≠ "__name__"<|>qb_) (hd:(x == ("__debug__": Str))=false<|>qb_):PE X (.Name x pos) (tC v):=
 λ_ _ _ H _ I h=>jM I hg hm hv {(v),H,I,r,h} hn hd
variable {a b:Expr} {ta tb:TE} {pos:Pos}
def PC (X:Cx) (op:CmpOp) (a b:Expr) (t:TE):Prop:=
 ∀⦃pins:List (vm×Obj)⦄ (s:vg) (U:St) (H:Hp) (Q:VK),Inv X pins U H s->t U H Q->
  wpAny (model X.prog X.w) X.A (eval a X.env) (λv s₁=>wpAny (model X.prog X.w) X.A (eval b X.env) (λu s₂=>wpAny (model X.prog X.w) X.A (compareOp op v u) (EP X pins U Q) X.xe s₂) X.xe s₁) X.xe s
def Bi (b:Expr) (h:op≠.In) (h2:op≠.NotIn):behindInMarks op b=false:=by
 let e1:(op == CmpOp.In)=false:=by cases op <;> first | rfl | exact absurd rfl h
 let e2:(op == CmpOp.NotIn)=false:=by cases op <;> first | rfl | exact absurd rfl h2
 cases b <;> first | rfl | (rename_i a k c;show(k == 0&&(op == .In||op == .NotIn)&&a.all (constantsAlone 8))=false;rw[e1,e2];cases k == 0 <;> rfl)
def OA (ta:TE):TE:=λU H Q=>ta U H λx H1=>Q (.bl (decide (x=.bN))) H1
def Oy (ta:TE):TE:=λU H Q=>ta U H λx H1=>Q (.bl (!decide (x=.bN))) H1
def RelV.Im (r:RelV x v):(v == Value.none)=decide (x=.bN):=by
 cases x with
 | bN=>cases r;rfl
 | bl _=>cases r;rfl
 | int _=>let⟨t,rfl⟩:=r;rfl
 | str _=>let⟨t,rfl⟩:=r;rfl
 | Mi _=>let⟨t,rfl⟩:=r;rfl
 | Rw _=>let⟨t,rfl⟩:=r;rfl
 | ref _=>cases r;rfl
 | ty _=>cases r;rfl
def cm (ha:PE X a ta):PC X .Is a (.Constant .none j pos') (OA ta):=by
 intro pins s U H Q I h;refine cQ (ha s U H _ I h) λv s1 z0=>?_;let⟨x,H1,I1,r1,q1⟩:=z0;exact Constant_none (is_none_gen {.bl _,H1,I1,by rw[r1.Im];rfl,q1})
def eQ (ha:PE X a ta):PC X .IsNot a (.Constant .none j pos') (Oy ta):=by
 intro pins s U H Q I h;refine cQ (ha s U H _ I h) λv s1 z0=>?_;let⟨x,H1,I1,r1,q1⟩:=z0;exact Constant_none (isnot_none_gen {.bl _,H1,I1,by rw[r1.Im];rfl,q1})
def tB (t:TE):TT:=λU H Q=>t U H λx H1=>∃c,x=.bl c/\Q c H1
def oZ (h:PC X op a b t) (h1:behindInMarks op b=false<|>qc_):PE X (.Compare a [op] [b] pos) t:=λpins s U H Q I hw=>wpAny_Compare1 (h s U H Q I hw) h1
def bC (h:PC X op a b t) (h1:behindInMarks op b=false<|>qc_):PT X (.Compare a [op] [b] pos) (tB t):=by
 intro pins s U H Q I hw;refine wpAny_isTrue_Compare1 (cQ (h s U H _ I hw) λv s1 h1=>cQ h1 λu s2 h2=>cQ h2 λc s3 z0=>?_) h1;let⟨x,H1,I1,r1,q1⟩:=z0;let⟨d,rfl,q⟩:=q1;cases r1;exact y9 {(H1),I1,q}
def cB (h:PE X e t) (he:(∀whole,isTrue e X.env whole=(do let v <-whole;standAt e.pos;holding [v] (truthy v)))<|>qd_):PT X e (tB t):=by
 intro pins s U H Q I hw;refine isTrue_plain (cQ (h s U H _ I hw) λv s1 z0=>?_) (he _);let⟨x,H1,I1,r1,q1⟩:=z0;let⟨d,rfl,q⟩:=q1;cases r1;exact y9 {(H1),I1,q}
variable {tA tB':TT} {rest:List Expr}
def SY (t u:TT):TT:=λU H Q=>t U H λc H1=>if c=true then u U H1 Q else Q false H1
def VN (t u:TT):TT:=λU H Q=>t U H λc H1=>if c=true then Q true H1 else u U H1 Q
def Oz (t:TT):TT:=λU H Q=>t U H λc H1=>Q (!c) H1
def cS (ha:PT X a tA):PW X (.BoolOp .And [a] pos) tA:=by
 intro wh pins s U H Q I h;refine isTrue_and (cQ (ha s U H Q I h) λc s1 e=>?_);cases c with
 | true=>exact isTrue_and_nil e
 | false=>exact e
def cY (ha:PT X a tA):PW X (.BoolOp .Or [a] pos) tA:=by
 intro wh pins s U H Q I h;refine isTrue_or (cQ (ha s U H Q I h) λc s1 e=>?_);cases c with
 | false=>exact isTrue_or_nil e
 | true=>exact e
def cZ (ha:PT X a tA) (hb:PW X (.BoolOp .And (b::rest) pos) tB'):PW X (.BoolOp .And (a::b::rest) pos) (SY tA tB'):=by
 intro wh pins s U H Q I h;refine isTrue_and (cQ (ha s U H _ I h) λc s1 z0=>?_);let⟨H1,I1,q1⟩:=z0;cases c with
 | true=>exact hb wh pins s1 U H1 Q I1 q1
 | false=>exact{(H1),I1,q1}
def dB (ha:PT X a tA) (hb:PW X (.BoolOp .Or (b::rest) pos) tB'):PW X (.BoolOp .Or (a::b::rest) pos) (VN tA tB'):=by
 intro wh pins s U H Q I h;refine isTrue_or (cQ (ha s U H _ I h) λc s1 z0=>?_);let⟨H1,I1,q1⟩:=z0;cases c with
 | true=>exact{(H1),I1,q1}
 | false=>exact hb wh pins s1 U H1 Q I1 q1
def eA (ha:PT X a tA):PT X (.UnaryOp .Not a pos) (Oz tA):=by
 intro pins s U H Q I h;refine isTrue_not (cQ (ha s U H (λc H1=>Q (!c) H1) I h) λc s' z0=>?_);let⟨H',I',q⟩:=z0;exact{(H'),I',q}
def R1 (ta tb:TE):TE:=λU H Q=>ta U H λx H1=>∃c,x=.bl c/\if c=true then tb U H1 Q else Q (.bl false) H1
def UO (ta tb:TE):TE:=λU H Q=>ta U H λx H1=>∃c,x=.bl c/\if c=true then Q (.bl true) H1 else tb U H1 Q
def RY (ta:TE):TE:=λU H Q=>ta U H λx H1=>∃c,x=.bl c/\Q (.bl (!c)) H1
def mK (h:PE X a t):PE X (.BoolOp op [a] pos) t:=λpins s U H Q I hw=>BoolOp_one (h s U H Q I hw)
def o6 (ha:PE X a ta) (hb:PE X (.BoolOp .And (b::rest) pos) tb):PE X (.BoolOp .And (a::b::rest) pos) (R1 ta tb):=by
 intro pins s U H Q I h;refine BoolOp_and (cQ (ha s U H _ I h) λv s1 z0=>?_);let⟨x,H1,I1,r1,q1⟩:=z0;let⟨c,rfl,q1⟩:=q1;cases r1;refine y9 ?_;cases c with
 | true=>exact hb s1 U H1 Q I1 q1
 | false=>exact{.bl false,H1,I1,rfl,q1}
def Pd (ha:PE X a ta) (hb:PE X (.BoolOp .Or (b::rest) pos) tb):PE X (.BoolOp .Or (a::b::rest) pos) (UO ta tb):=by
 intro pins s U H Q I h;refine BoolOp_or (cQ (ha s U H _ I h) λv s1 z0=>?_);let⟨x,H1,I1,r1,q1⟩:=z0;let⟨c,rfl,q1⟩:=q1;cases r1;refine y9 ?_;cases c with
 | false=>exact hb s1 U H1 Q I1 q1
 | true=>exact{.bl true,H1,I1,rfl,q1}
def To (ha:PE X a ta):PE X (.UnaryOp .Not a pos) (RY ta):=by
 intro pins s U H Q I h;refine UnaryOp_ (cQ (ha s U H _ I h) λv s1 z0=>?_);let⟨x,H1,I1,r1,q1⟩:=z0;let⟨c,rfl,q1⟩:=q1;cases r1;exact not_of (y9 {.bl (!c),H1,I1,rfl,q1})
def Xt (t:TT) (ta tb:TE):TE:=λU H Q=>t U H λc H1=>if c=true then ta U H1 Q else tb U H1 Q
def A5 (hc:PT X c tA) (ha:PE X a ta) (hb:PE X b tb):PE X (.IfExp c a b pos) (Xt tA ta tb):=by
 intro pins s U H Q I h;refine wpAny_IfExp (cQ (hc s U H _ I h) λd s1 z0=>?_);let⟨H1,I1,q1⟩:=z0;cases d with
 | true=>exact ha s1 U H1 Q I1 q1
 | false=>exact hb s1 U H1 Q I1 q1
end
end L2
namespace L2
open PySem PySem.Spec PyProof.Rows
def fi (K:yx) (H:Hp) (a:vm) (xs:List V):Prop:=
 Rd H a (.lst xs)\/
  ∃(o:Obj) (its:Array vf) (n:Nat),K.lookup a=some o/\o.cls=.type "list"/\o.dict=none/\o.data=.seq its n/\its.size<=sizeLine/\Vals xs its.toList
def pQ (K:yx) (H:Hp) (a:vm) (xs:List V):Prop:=
 Rd H a (.tup xs)\/
  ∃(o:Obj) (its:Array vf) (n:Nat),K.lookup a=some o/\o.cls=.type "tuple"/\o.data=.seq its n/\its.size<=sizeLine/\Vals xs its.toList
noncomputable def WW:vf->Option V
 | .none=>some .bN
 | .bool b=>some (.bl b)
 | .int i _=>some (.int i)
 | .str x _=>some (.str x)
 | .bytes b _=>some (.Mi b)
 | .float b _=>some (.Rw b)
 | .ref a=>some (.ref a)
 | .type n=>some (.ty n)
 | _=>none
def RelV.abs (r:RelV x u):WW u=some x:=by
 cases x with
 | bN=>cases r;rfl
 | bl _=>cases r;rfl
 | int _=>let⟨t,rfl⟩:=r;rfl
 | str _=>let⟨t,rfl⟩:=r;rfl
 | Mi _=>let⟨t,rfl⟩:=r;rfl
 | Rw _=>let⟨t,rfl⟩:=r;rfl
 | ref _=>cases r;rfl
 | ty _=>cases r;rfl
def RelV.inj (r:RelV x u) (q:RelV y u):x=y:=yh (r.abs.symm.trans q.abs)
theorem Vals.inj:∀{xs ys:List V} {us:List vf},Vals xs us->Vals ys us->xs=ys
 | _,_,_,.nil,k=>by cases k;rfl
 | _,_,_,.cons r t,k=>by
  cases k with
  | cons r' t'=>rw[r.inj r',Vals.inj t t']
section
variable {X:Cx} {pins:List (vm×Obj)} {U:St} {H:Hp} {s:vg} {a:vm} {xs ys:List V}
def ao {K:yx} (h:H a=some (.lst xs)):fi K H a xs:=.inl (.inl h)
def bu {K:yx} (h:H a=some (.tup xs)):pQ K H a xs:=.inl (.inl h)
def Inv.list (I:Inv X pins U H s) (h:fi X.K H a xs):W6 s.heap a xs:=by
 rcases h with h | ⟨o,its,n,hk,hc,hd,hs,hz,r⟩
 ·let⟨z,its,n,r,e⟩:=h.ok I.cx
  exact{its,r,{_,n,e,rfl,rfl,rfl},z}
 ·refine{its.toList,r,{o,n,I.sW a o hk,hc,hd,by simpa using hs},?_}
  let e:=⇑r;simp only[yM] at e;ext
def Inv.tuple (I:Inv X pins U H s) (h:pQ X.K H a xs):W3 s.heap a xs:=by
 rcases h with h | ⟨o,its,n,hk,hc,hs,hz,r⟩
 ·let⟨z,its,r,p⟩:=h.ok I.cx
  exact{(its),r,p,z}
 ·refine{its.toList,r,{o,I.sW a o hk,hc,n,by simpa using hs},?_}
  let e:=⇑r;simp only[yM] at e;ext
def Inv.qL (I:Inv X pins U H s) (h:fi X.K H a xs) (h':fi X.K H a ys):xs=ys:=by
 let⟨its,r,⟨o,n,e,_,_,d⟩,_⟩:=I.list h;let⟨its',r',⟨o',n',e',_,_,d'⟩,_⟩:=I.list h';rw[e] at e';cases e';rw[d] at d';injection d' with d1 _;have:its=its':=by simpa using yV Array.toList d1
 subst this;exact r.inj r'
def Inv.DN (I:Inv X pins U H s) (h:pQ X.K H a xs) (h':pQ X.K H a ys):xs=ys:=by
 let⟨its,r,⟨o,e,_,n,d⟩,_⟩:=I.tuple h;let⟨its',r',⟨o',e',_,n',d'⟩,_⟩:=I.tuple h';rw[e] at e';cases e';rw[d] at d';injection d' with d1 _;have:its=its':=by simpa using yV Array.toList d1
 subst this;exact r.inj r'
end
abbrev Cx.uk (X:Cx) (E:vf->vg->Prop):Cx:={X with xe:=E}
abbrev Cx.JL (X:Cx):Cx:=X.uk λ_ _=>False
theorem Cx.Ok.uk {X:Cx} (ok:X.Ok) (E:vf->vg->Prop):(X.uk E).Ok:=
 {(ok.mod),ok.kind,ok.glob,ok.blt,ok.above,ok.inj,ok.has,ok.Ue,ok.hd,ok.frames,ok.Ut,ok.VP,ok.bs,ok.N4,ok.u9,ok.K0,ok.oh,ok.KZ}
def Cx.Ok.jI {X:Cx} {E:vf->vg->Prop} (ok:(X.uk E).Ok):X.Ok:=
 {(ok.mod),ok.kind,ok.glob,ok.blt,ok.above,ok.inj,ok.has,ok.Ue,ok.hd,ok.frames,ok.Ut,ok.VP,ok.bs,ok.N4,ok.u9,ok.K0,ok.oh,ok.KZ}
section
variable {X:Cx} {pins:List (vm×Obj)} {U:St} {H:Hp} {s:vg} {E:vf->vg->Prop}
theorem Inv.uk (I:Inv X pins U H s) (E:vf->vg->Prop):Inv (X.uk E) pins U H s:={I.ok.uk E,I.os,I.bare,I.base,I.loc,I.cell,I.free,I.ke,I.pin,I.cx,I.len}
theorem Inv.jI (I:Inv (X.uk E) pins U H s):Inv X pins U H s:={(I.ok.jI),I.os,I.bare,I.base,I.loc,I.cell,I.free,I.ke,I.pin,I.cx,I.len}
theorem SP.jI (h:SP (X.uk E) pins D f s'):SP X pins D f s':=by
 cases f with
 | next=>let⟨U',H',I,q⟩:=h;exact{U',H',I.jI,q}
 | brk=>let⟨U',H',I,q⟩:=h;exact{U',H',I.jI,q}
 | cont=>let⟨U',H',I,q⟩:=h;exact{U',H',I.jI,q}
 | ret u=>let⟨v,U',H',I,r,q⟩:=h;exact{v,U',H',I.jI,r,q}
theorem DH.JL {st:List Stmt} {t:TS} (h:DH X.JL st t):DH X st t:=λpins s U H D I hw=>
 y7 (h s U H D (I.uk _) hw) (λ_ _ q=>q.jI) λ_ _ z=>False.elim z
end
section
variable {X:Cx} {st:Stmt} {rest:List Stmt} {t u:TS} {e:Expr} {te:TE} {pos:Pos}
def RZ:TS:=λD U H=>D.nx U H
def QJ (t u:TS):TS:=λD U H=>t {D with nx:=u D} U H
def aA:DH X [] RZ:=λ_ _ U H _ I h=>wk {U,H,I,h}
def ah (h1:PS X st t) (h2:DH X rest u):DH X (st::rest) (QJ t u):=by
 intro pins s U H D I h;refine wpAny_execs_cons (cQ (h1 s U H {D with nx:=u D} I h) λf s1 q=>?_);cases f with
 | next=>
  let⟨U',H',I',q⟩:=q;exact h2 s1 U' H' D I' q
 | ret v=>exact q
 | brk=>exact q
 | cont=>exact q
def ak (h1:PS X st t):DH X [st] t:=by
 intro pins s U H D I h;refine wpAny_execs_cons (cQ (h1 s U H D I h) λf s1 q=>?_);cases f with
 | next=>exact wk q
 | ret v=>exact q
 | brk=>exact q
 | cont=>exact q
def Inv.quiet (I:Inv X pins U H s):interactive X.env=false:=by simp[interactive,I.ok.kind]
def R0 (te:TE):TS:=λD U H=>te U H λ_ H1=>D.nx U H1
def bA (he:PE X e te) (hs:swapsWith e none pos.line X.env=pure false<|>qe_):PS X (.Expr e pos) (R0 te):=by
 intro pins s U H D I h;refine wpAny_Expr_any (cQ (he s U H _ I h) λv s1 z0=>?_) I.quiet hs;let⟨x,H1,I1,r1,q1⟩:=z0;exact{U,H1,I1,q1}
def SJ (te:TE):TS:=λD U H=>te U H D.rt
def ar (he:PE X e te):PS X (.Return (some e) pos) (SJ te):=by
 intro pins s U H D I h;refine wpAny_Return_some (cQ (he s U H _ I h) λv s1 z0=>?_);let⟨x,H1,I1,r1,q1⟩:=z0;exact{x,U,H1,I1,r1,q1}
def QK (c:TT) (t u:TS):TS:=λD U H=>c U H λb H1=>if b=true then t D U H1 else u D U H1
def aJ (hc:PT X c tc) (ha:DH X a t) (hb:DH X b u):PS X (.If c a b pos) (QK tc t u):=by
 intro pins s U H D I h;refine wpAny_If (cQ (hc s U H _ I h) λd s1 z0=>?_);let⟨H1,I1,q1⟩:=z0;cases d with
 | true=>exact ha s1 U H1 D I1 q1
 | false=>exact hb s1 U H1 D I1 q1
def SM:TS:=λ_ _ _=>False
def A3:PS X st SM:=λ_ _ _ _ _ _ h=>h.elim
end
abbrev TG:=V->St->Hp->(St->Hp->Prop)->Prop
abbrev Vu:=List V->St->Hp->(St->Hp->Prop)->Prop
def PG (X:Cx) (target:Expr) (t:TG):Prop:=
 ∀(pins:List (vm×Obj)) (s:vg) (U:St) (H:Hp) (v:V) (u:vf) (Q:St->Hp->Prop),Inv X pins U H s->RelV v u->t v U H Q->
  wpAny (model X.prog X.w) X.A (assign target X.env u) (λ_ s'=>SN X pins Q s') X.xe s
def VS (X:Cx) (ts:List Expr) (t:Vu):Prop:=
 ∀(pins:List (vm×Obj)) (s:vg) (U:St) (H:Hp) (vs:List V) (us:List vf) (Q:St->Hp->Prop),Inv X pins U H s->Vals vs us->t vs U H Q->
  wpAny (model X.prog X.w) X.A (assignInOrder ((assignEach ts X.env).map (·.2)) us) (λ_ s'=>SN X pins Q s') X.xe s
section
variable {X:Cx} {pos:Pos}
def cz (i:Nat):TG:=λv U H Q=>Q (U.set i (some v)) H
def LY (hN:X.N.Nodup) (hi:X.N[i]?=some x) (hx:Loc X.env.scope x) (hf:X.fn x=true\/X.env.scope.names.lookup x=some .local<|>qa_):PG X (.Name x pos) (cz i):=by
 intro pins s U H v u Q I r h;exact wpAny_assign_Name (mB I hN hi hx r (λs' I'=>{_,H,I',h}) hf)
def KY:Vu:=λvs U H Q=>vs=[]/\Q U H
def gJ (t:TG) (u:Vu):Vu:=λvs U H Q=>∃v r,vs=v::r/\t v U H λU' H'=>u r U' H' Q
def dt:VS X [] KY:=by
 intro pins s U H vs us Q I r h;let⟨e,h⟩:=h;subst e;cases r;exact assignInOrder_nil {U,H,I,h}
def aO (h1:PG X e t) (h2:VS X es u)
  (hs:(assignEach (e::es) X.env).map (·.2)=assign e X.env::(assignEach es X.env).map (·.2)<|>qe_):VS X (e::es) (gJ t u):=by
 intro pins s U H vs us Q I r h;let⟨v,vr,e1,h⟩:=h;subst e1;cases r with
 | cons r rr=>
  rw[hs];refine assignInOrder_cons (cQ (h1 pins s U H _ _ _ I r h) λ_ s1 z0=>?_);let⟨σ1,H1,I1,q1⟩:=z0;exact h2 pins s1 σ1 H1 _ _ Q I1 rr q1
def KW (K:yx) (n:Nat) (t:Vu):TG:=λv U H Q=>∃a xs,v=.ref a/\pQ K H a xs/\⇑xs=n/\t xs U H Q
def eB (hc:X.calm=true) (h:VS X es t)
  (hn:⇑(assignEach es X.env)=n<|>qe_) (hst:(assignEach es X.env).findIdx? (·.1)=none<|>qe_):PG X (.Tuple es k pos) (KW X.K n t):=by
 intro pins s U H v u Q I r hw;let⟨a,xs,e1,hq,hl,hw⟩:=hw;subst e1;cases r;let⟨its,rv,ht,hz⟩:=I.tuple hq;refine assign_Tuple_tuple (I.ok.hd hc) ht (by simp[hn,<-hl,⇑rv]) hst λh' hx=>?_;let I1:Inv X pins U H {s with heap:=h'}:=I.kept (t':=s.toks) λb o e=>hx b o (yg (yv e)) e;exact h pins _ U H xs _ Q I1 (by simpa using rv) hw
def GY (te:TE) (g:TG):TS:=λD U H=>te U H λx H1=>g x U H1 D.nx
def O6 (hN:X.N.Nodup) (hi:X.N[i]?=some x) (hx:Loc X.env.scope x) (he:PE X e te) (hs:swapsWith e (some (.Name x pos')) pos.line X.env=pure false<|>qe_) (hf:X.fn x=true\/X.env.scope.names.lookup x=some .local<|>qa_) :
  PS X (.Assign [.Name x pos'] e pos) (GY te (cz i)):=by
 intro pins s U H D I h;refine wpAny_Assign_Name (cQ (he s U H _ I h) λv s1 z0=>?_) hs;let⟨y,H1,I1,r1,q1⟩:=z0;exact mB I1 hN hi hx r1 (λs2 I2=>{_,H1,I2,q1}) hf
def Wl (i j:Nat) (ta:TA):TS:=λD U H=>ta U H λvs H1=>∃v w,vs=[v,w]/\D.nx ((U.set i (some v)).set j (some w)) H1
def O7 (hc:X.calm=true) (hN:X.N.Nodup) (hi:X.N[i]?=some x) (hj:X.N[j]?=some y) (hij:i≠j)
  (hx:X.env.scope.names.lookup x=some .local) (hy:X.env.scope.names.lookup y=some .local) (ha:PA X [a,b] ta)
  (hw:swappedStores [.Tuple [.Name x px,.Name y py] kt pt] (.Tuple [a,b] k2 pt2) X.env=pure (some [x,y]))
  (hs:swapsWithSole [.Tuple [.Name x px,.Name y py] kt pt] (.Tuple [a,b] k2 pt2) pos.line X.env=pure false<|>qe_) :
  PS X (.Assign [.Tuple [.Name x px,.Name y py] kt pt] (.Tuple [a,b] k2 pt2) pos) (Wl i j ta):=by
 intro pins s U H D I h;rw[exec_Assign_arm];refine yq (wpAny_standAt ?_);rw[hs];refine yq (yt ?_);rw[yJ ∅];refine yq (Tuple_ (cQ (ha s U H _ I h) λus s1 z0=>?_));let⟨vs,H1,I1,r1,q1⟩:=z0;let⟨v,w,e1,q1⟩:=q1;subst e1;obtain⟨u1,u2,rfl,rv,rw'⟩:∃u1 u2,us=[u1,u2]/\RelV v u1/\RelV w u2:=by
  cases r1 with
  | cons p q=>
   cases q with
   | cons p' q'=>
    cases q';exact{_,_,rfl,p,p'}
 refine y6 ?_ (by show 2<=sizeLine;decide);let I2:Inv X pins U H1 {s1 with heap:=s1.heap.push {cls:=.type "tuple",data:=.seq [u1,u2].toArray}}:=I1.kept (t':=s1.toks) λb o e=>yr _ e;rw[hw];refine yq (yt ?_);show wpAny (model X.prog X.w) X.A (do rule "assign.swapped-stores";let items <-unpackItems (.ref ↑s1) 2 none;assignInOrder [λv=>bindName X.env y v,λv=>bindName X.env x v] items.reverse;pure Flow.next) _ _ _;refine yq (wpAny_rule (yq (unpackItems_tuple (items:=#[u1,u2]) (I.ok.hd hc) (IsTup.new s1.heap _) λh' hx'=>?_)));let I3:=I2.kept (h':=h') (t':=s1.toks) λb o e=>hx' b o (yg (yv e)) e;show wpAny _ _ (assignInOrder [λv=>bindName X.env y v,λv=>bindName X.env x v] [u2,u1] >>= λ_=>pure Flow.next) _ _ _;refine yq (assignInOrder_cons (wpAny_bindName (mB I3 hN hj (.inl hy) rw' (λs2 I4=>?_) (.inr hy))));refine assignInOrder_cons (wpAny_bindName (mB I4 hN hi (.inl hx) rv (λs3 I5=>assignInOrder_nil (yt ?_)) (.inr hx)));rw[List.set_comm _ _ (Ne.symm hij)] at I5;exact{_,H1,I5,q1}
end
section
variable {X:Cx} {pos:Pos}
def Ov (c:TT) (tb:TS):TS:=λD U H=>∃W:Nat->St->Hp->Prop,(∃m,W m U H)/\∀m U H,W m U H->
 c U H λb H1=>if b=true then∃N:St->Hp->Prop,(∀U' H',N U' H'->∃m',m'<m/\W m' U' H')/\tb {D with nx:=N,ct:=N,bk:=D.nx} U H1 else D.nx U H1
def A2 (hp:PassesOwn (model X.prog X.w) X.A X.env X.xe) (hc:PT X c tc) (hb:DH X body tb):PS X (.While c body [] pos) (Ov tc tb):=by
 intro pins s U H D I h;let⟨W,⟨m0,w0⟩,turn⟩:=h;refine wpAny_While (codeAny_whileLoop (λn s'=>SN X pins (W n) s') ?_ m0 {U,H,I,w0});rintro n s1 ⟨σ1,H1,I1,w1⟩;refine xP hp (cQ (hc s1 σ1 H1 _ I1 (turn n σ1 H1 w1)) λb s2 z0=>?_);let⟨H2,I2,q2⟩:=z0;cases b with
 | true=>
  let⟨N,hN,q2⟩:=q2;rw[yK rfl];refine xP hp (cQ (hb s2 σ1 H2 _ I2 q2) λf s3 q3=>?_);cases f with
  | next=>
   let⟨σ3,H3,I3,n3⟩:=q3;let⟨m',hm,w3⟩:=hN σ3 H3 n3;exact{m',hm,σ3,H3,I3,w3}
  | cont=>
   let⟨σ3,H3,I3,n3⟩:=q3;let⟨m',hm,w3⟩:=hN σ3 H3 n3;exact{m',hm,σ3,H3,I3,w3}
  | brk=>exact q3
  | ret v=>exact q3
 | false=>
  rw[yJ zJ];exact wk {σ1,H2,I2,q2}
end
structure It where
 go:Nat->Hp->Prop
 JP:Nat->Hp->V->Hp->Prop
 stop:Nat->Hp->Prop
def DI (X:Cx) (pins:List (vm×Obj)) (H:Hp) (b:vm):Prop:=
 H b=none/\b≠X.env.locals/\b∉X.fs/\(b∈X.ex\/X.s₀.heap.objs.size<=b)/\(∀x c,X.env.cells.lookup x=some c->c≠b)/\∀p∈X.pn++pins,p.1≠b
def Inv.Bu (I:Inv X pins U H s) (hb:↑s<=b) (hn:H' b=none):DI X pins H' b:=by
 refine{hn,yf (z9 I.lt hb),I.U5 hb,.inr (zK I.sz hb),λx c e z=>?_,λp hp z=>?_}
 ·let⟨v,q⟩:=I.cell x c e
  exact absurd (z9 q.lt (by rw[z];exact hb)) (yc _)
 ·exact absurd (z9 (yv (I.pin p hp).1) (by rw[z];exact hb)) (yc _)
inductive Yl (X:Cx) (pins:List (vm×Obj)) (U:St) (J:It) (i:Nat) (H:Hp) (fp:List vm) (tn:Nat->vn->Prop) (u:vf) (s2:vg):Prop
 | mk (x:V) (H':Hp) (_:Inv X pins U H' s2) (_:RelV x u) (_:J.JP i H x H') (_:tn (i+1) s2.heap) (_:∀b∈fp,H' b=none)
structure Turn (P:vh) (w:vi) (K:yx) (tg:Expr) (J:It) (fp:List vm) (it:vm) (tn:Nat->vn->Prop):Prop where
 mem:it∈fp
 obj:∀i h,tn i h->∀b∈fp,∃o,h.get? b=some o/\∀v,o.data≠.cell v
 keep:∀i h h',tn i h->(∀b∈fp,∀o,h.get? b=some o->h'.get? b=some o)->tn i h'
 item:∀(X:Cx),X.prog=P->X.w=w->X.K=K->X.calm=true->∀(i:Nat) (pins:List (vm×Obj)) (s:vg) (U:St) (H:Hp) (E:vf->vg->Prop),Inv X pins U H s->(∀b∈fp,DI X pins H b)->tn i s.heap->J.go i H->
  wpAny (model P w) X.A (pyNext (.ref it)) (λr s1=>∃u,r=some u/\
   wpAny (model P w) X.A (letOwnedTupleGo tg (.ref it) u) (λ_ s2=>Yl X pins U J i H fp tn u s2) E s1) E s
 done:∀(X:Cx),X.prog=P->X.w=w->X.K=K->X.calm=true->∀(i:Nat) (pins:List (vm×Obj)) (s:vg) (U:St) (H:Hp) (E:vf->vg->Prop),Inv X pins U H s->(∀b∈fp,DI X pins H b)->tn i s.heap->J.stop i H->
  wpAny (model P w) X.A (pyNext (.ref it)) (λr s1=>r=none/\Inv X pins U H s1) E s
 self:∀(A:vj) (i:Nat) (s:vg) (Q:vf->vg->Prop) (E:vf->vg->Prop),tn i s.heap->Q (.ref it) s->wpAny (model P w) A (pyIter (.ref it)) Q E s
inductive Xn (X:Cx) (pins:List (vm×Obj)) (fp:List vm) (tn:Nat->vn->Prop) (W:Nat->Nat->St->Hp->Prop) (n:Nat) (s':vg):Prop
 | mk (i:Nat) (U':St) (H':Hp) (_:Inv X pins U' H' s') (_:tn i s'.heap) (_:∀b∈fp,H' b=none) (_:W i n U' H')
inductive XC (Y:Cx) (fp:List vm) (tn:Nat->vn->Prop) (D:vm) (W:Nat->Nat->List V->St->Hp->Prop) (n:Nat) (s':vg):Prop
 | mk (i:Nat) (U':St) (H':Hp) (xs:List V) (its:List vf) (k:Nat) (_:Inv Y [(D,{cls:=.type "list",data:=.seq its.toArray k})] U' H' s') (_:tn i s'.heap) (_:∀b∈fp,H' b=none) (_:Vals xs its) (_:W i n xs U' H')
abbrev TI:=St->Hp->(It->Hp->Prop)->Prop
inductive Xj (X:Cx) (pins:List (vm×Obj)) (U:St) (tg:Expr) (R:It->Hp->Prop) (itv:vf) (s2:vg):Prop
 | mk (it:vm) (fp:List vm) (tn:Nat->vn->Prop) (J:It) (H':Hp) (_:itv=.ref it) (_:Inv X pins U H' s2) (_:Turn X.prog X.w X.K tg J fp it tn) (_:tn 0 s2.heap) (_:∀b∈fp,DI X pins H' b) (_:R J H')
def PI (X:Cx) (tg iter:Expr) (wi:TI):Prop:=
 ∀⦃pins:List (vm×Obj)⦄ (s:vg) (U:St) (H:Hp) (R:It->Hp->Prop),Inv X pins U H s->wi U H R->
  wpAny (model X.prog X.w) X.A (eval iter X.env) (λv s1=>wpAny (model X.prog X.w) X.A (pyIter v) (Xj X pins U tg R) X.xe s1) X.xe s
def Bt (ho:s.heap.get? it=some o) (hc:o.cls=.type n) (hd:o.data=.fields vs)
    (hn:["enumerate","zip","dict_itemiterator","dict_reverseitemiterator","odict_iterator","itertools.zip_longest","itertools.pairwise"].contains n=false) (hQ:Q .unit s):wpAny M A (letOwnedTupleGo tg (.ref it) u) Q E s:=by
  unfold letOwnedTupleGo;cases tg <;> first
    | exact yt hQ
    | (cases u <;> first
        | exact yt hQ
        | (refine yq (wpAny_load ho ?_)
           rw[hc,hd];show wpAny M A (if(["enumerate","zip","dict_itemiterator","dict_reverseitemiterator","odict_iterator","itertools.zip_longest","itertools.pairwise"].contains n&&vs[0]? == some (rawInt _))=true then _ else _) Q E s;rw[yJ (by intro h;rw[hn,yP] at h;cases h)];exact yt hQ))
noncomputable def JN (K:yx) (a:vm):It:=
 {λi H=>∃xs x,fi K H a xs/\xs[i]?=some x,λi H x H'=>H'=H/\∀xs,fi K H a xs->xs[i]?=some x,λi H=>∃xs,fi K H a xs/\⇑xs<=i}
noncomputable def Ss (K:yx) (a:vm):It:=
 {λi H=>∃xs x,pQ K H a xs/\xs[i]?=some x,λi H x H'=>H'=H/\∀xs,pQ K H a xs->xs[i]?=some x,λi H=>∃xs,pQ K H a xs/\⇑xs<=i}
noncomputable def N8 (lo:Int) (n:Nat):It:={λi _=>i<n,λi H x H'=>H'=H/\x=.int (lo+i),λi _=>n<=i}
def Mt {P:vh} {w:vi} {K:yx} {tg:Expr} (a it:vm):Turn P w K tg (JN K a) [it] it (λi h=>h.IsListIter it a i) where
 mem:=by simp
 obj:=λi h st b hb=>by
  let e:b=it:=by simpa using hb
  subst e;let⟨o,e,c,d⟩:=st;exact{o,e,λv z=>by rw[d] at z;cases z}
 keep:=λi h h' st k=>st.at λo e=>k it (by simp) o e
 item:=by
  intro X hP hw hK hc i pins s U H E I hf st hg;subst hP hw hK;let⟨xs,x,hq,hx⟩:=hg;let⟨its,rv,p,hz⟩:=I.list hq;let⟨u,hu,ru⟩:=rv.get hx;let⟨f0,f1,f2,f3,f4,f5⟩:=hf it (by simp);refine wpAny_pyNext_list_item st p.isList (x:=u) (by simpa using hu) λh' st' sb=>?_;let I1:Inv X pins U H {s with heap:=h'}:=I.turned (t':=s.toks) (λb o hb e=>(sb.2 b hb).trans e) f0 f1 f3 f4 f5;let⟨o,e,c,d⟩:=id st';exact{u,rfl,Bt (s:={s with heap:=h'}) e c d ∅ {x,H,I1,ru,{rfl,λys hy=>by rw[I.qL hy hq];exact hx},st',λb hb=>(hf b hb).1}}
 done:=by
  intro X hP hw hK hc i pins s U H E I hf st hg;subst hP hw hK;let⟨xs,hq,hx⟩:=hg;let⟨its,rv,p,hz⟩:=I.list hq;let⟨f0,f1,f2,f3,f4,f5⟩:=hf it (by simp);let hl:=⇑rv;exact wpAny_pyNext_list_end (I.ok.hd hc) st p.isList (by simp;ext) λh' eb=>{rfl,I.turned (t':=s.toks) (λb o hb e=>eb b o hb e) f0 f1 f3 f4 f5}
 self:=λ_ _ _ _ _ st h=>wpAny_pyIter_listiter st h
def JV {P:vh} {w:vi} {K:yx} {tg:Expr} (a it:vm):Turn P w K tg (Ss K a) [it] it (λi h=>h.IsTupleIter it a i) where
 mem:=by simp
 obj:=λi h st b hb=>by
  let e:b=it:=by simpa using hb
  subst e;let⟨o,e,c,d⟩:=st;exact{o,e,λv z=>by rw[d] at z;cases z}
 keep:=λi h h' st k=>st.at λo e=>k it (by simp) o e
 item:=by
  intro X hP hw hK hc i pins s U H E I hf st hg;subst hP hw hK;let⟨xs,x,hq,hx⟩:=hg;let⟨its,rv,p,hz⟩:=I.tuple hq;let⟨u,hu,ru⟩:=rv.get hx;let⟨f0,f1,f2,f3,f4,f5⟩:=hf it (by simp);refine wpAny_pyNext_tuple_item st (show s.heap.IsTuple a its.toArray from p) (x:=u) (by simpa using hu) λh' st' sb=>?_;let I1:Inv X pins U H {s with heap:=h'}:=I.turned (t':=s.toks) (λb o hb e=>(sb.2 b hb).trans e) f0 f1 f3 f4 f5;let⟨o,e,c,d⟩:=id st';exact{u,rfl,Bt (s:={s with heap:=h'}) e c d ∅ {x,H,I1,ru,{rfl,λys hy=>by rw[I.DN hy hq];exact hx},st',λb hb=>(hf b hb).1}}
 done:=by
  intro X hP hw hK hc i pins s U H E I hf st hg;subst hP hw hK;let⟨xs,hq,hx⟩:=hg;let⟨its,rv,p,hz⟩:=I.tuple hq;let⟨f0,f1,f2,f3,f4,f5⟩:=hf it (by simp);let hl:=⇑rv;exact wpAny_pyNext_tuple_end (I.ok.hd hc) st (show s.heap.IsTuple a its.toArray from p) (by simp;ext) λh' eb=>{rfl,I.turned (t':=s.toks) (λb o hb e=>eb b o hb e) f0 f1 f3 f4 f5}
 self:=λ_ _ _ _ _ st h=>wpAny_pyIter_tupleiter st h
def JW {P:vh} {w:vi} {K:yx} {tg:Expr} (it:vm) (lo:Int) (n:Nat):Turn P w K tg (N8 lo n) [it] it (λi h=>IsRangeIter h it (lo+(i:Nat)*1) ((n:Int)-(i:Nat)) 1) where
 mem:=by simp
 obj:=λi h st b hb=>by
  let e:b=it:=by simpa using hb
  subst e;exact{_,st,λv z=>by
   let z':Data.fields _=Data.cell v:=z;cases z'}
 keep:=λi h h' st k=>k it (by simp) _ st
 item:=by
  intro X hP hw hK hc i pins s U H E I hf st hg;subst hP hw hK;let⟨f0,f1,f2,f3,f4,f5⟩:=hf it (by simp);let W:=Walks.range (prog:=X.prog) (w:=X.w) (I.ok.hd hc) it lo 1 n;refine W.item i s _ _ hg st λv h' tk hv st' kk=>?_;let⟨t,rfl⟩:=hv;let I1:Inv X pins U H {s with heap:=h',toks:=tk}:=I.turned (λb o hb e=>kk b o (by simpa using hb) e) f0 f1 f3 f4 f5;refine{_,rfl,Bt (s:={s with heap:=h',toks:=tk}) (n:="range_iterator") st' rfl rfl ∅ {.int (lo+i),H,I1,{t,?_},{(rfl),rfl},st',λb hb=>(hf b hb).1}};rw[Int.mul_one]
 done:=by
  intro X hP hw hK hc i pins s U H E I hf st hg;subst hP hw hK;let⟨f0,f1,f2,f3,f4,f5⟩:=hf it (by simp);exact wpAny_pyNext_range_end (I.ok.hd hc) st (by have:n<=i:=hg;ext) λh' eb=>{rfl,I.turned (t':=s.toks) (λb o hb e=>eb b o hb e) f0 f1 f3 f4 f5}
 self:=λ_ _ _ _ _ st h=>wpAny_pyIter_rangeiter st h
end L2
namespace L2
open PySem PySem.Spec PyProof.Rows
section
variable {X:Cx} {tg:Expr}
def L7 (K:yx) (tl:TE):TI:=λU H R=>tl U H λx H1=>∃a,x=.ref a/\(∃xs,fi K H1 a xs)/\R (JN K a) H1
def WI (K:yx) (tl:TE):TI:=λU H R=>tl U H λx H1=>∃a,x=.ref a/\(∃xs,pQ K H1 a xs)/\R (Ss K a) H1
def bH {l:Expr} {tl:TE} (hl:PE X l tl):PI X tg l (L7 X.K tl):=by
 intro pins s U H R I h;refine cQ (hl s U H _ I h) λv s1 z0=>?_;let⟨x,H1,I1,r1,q1⟩:=z0;let⟨a,e,⟨xs,hq⟩,q⟩:=q1;subst e;cases r1;let⟨its,rv,p,hz⟩:=I1.list hq;refine wC p.isList ?_;refine{↑s1,[↑s1],_,_,H1,rfl,I1.kept (t':=s1.toks) λb o e=>yr _ e,Mt a _,{_,yu _ rfl,rfl,rfl},λb hb=>?_,q};let e:b=↑s1:=by simpa using hb
 subst e;exact I1.Bu (zk _) (I1.cx.fresh (zk _))
def iT {l:Expr} {tl:TE} (hl:PE X l tl):PI X tg l (WI X.K tl):=by
 intro pins s U H R I h;refine cQ (hl s U H _ I h) λv s1 z0=>?_;let⟨x,H1,I1,r1,q1⟩:=z0;let⟨a,e,⟨xs,hq⟩,q⟩:=q1;subst e;cases r1;let⟨its,rv,p,hz⟩:=I1.tuple hq;refine wpAny_pyIter_tuple (show s1.heap.IsTuple a its.toArray from p) ?_;refine{↑s1,[↑s1],_,_,H1,rfl,I1.kept (t':=s1.toks) λb o e=>yr _ e,JV a _,{_,yu _ rfl,rfl,rfl},λb hb=>?_,q};let e:b=↑s1:=by simpa using hb
 subst e;exact I1.Bu (zk _) (I1.cx.fresh (zk _))
def HL {pins:List (vm×Obj)} {U:St} {H:Hp} {s:vg} {R:It->Hp->Prop} {E:vf->vg->Prop} {lo hi:Int} {t u v:Tok} {tk:Nat} (I:Inv X pins U H s) (h1:-(2^62)<=lo) (h2:lo<2^62) (h3:-(2^62)<=hi) (h4:hi<2^62)
  (q:R (N8 lo (hi-lo).toNat) H):wpAny (model X.prog X.w) X.A (pyIter (.ref ↑s)) (Xj X pins U tg R) E {s with heap:=s.heap.push {cls:=.type "range",data:=.fields #[.int lo t,.int hi u,.int 1 v]},toks:=tk}:=by
 refine wpAny_pyIter_range (IsRange.new ..) (small_one h1 h2 h3 h4) ?_;let I1:Inv X pins U H {s with heap:=s.heap.push {cls:=.type "range",data:=.fields #[.int lo t,.int hi u,.int 1 v]},toks:=tk}:=I.kept λb o e=>yr _ e;refine{(s.heap.push {cls:=.type "range",data:=.fields #[.int lo t,.int hi u,.int 1 v]}).objs.size,[(s.heap.push {cls:=.type "range",data:=.fields #[.int lo t,.int hi u,.int 1 v]}).objs.size],_,_,H,rfl,
  I1.kept (t':=tk) λb o e=>yr _ e,JW _ lo (hi-lo).toNat,?_,λb hb=>?_,q}
 ·let e1:lo+((0:Nat):Int)*1=lo:=by simp
  let e2:(((hi-lo).toNat:Nat):Int)-((0:Nat):Int)=Builtin.Range.rangeSize lo hi 1:=by rw[rangeSize_one];split <;> ext
  show IsRangeIter _ _ (lo+((0:Nat):Int)*1) ((((hi-lo).toNat:Nat):Int)-((0:Nat):Int)) 1;rw[e1,e2];exact yu _ rfl
 ·let e:b=(s.heap.push {cls:=.type "range",data:=.fields #[.int lo t,.int hi u,.int 1 v]}).objs.size:=by simpa using hb
  subst e;exact I1.Bu (zk _) (I1.cx.fresh (zk _))
def PQ (ta:TA):TI:=λU H R=>ta U H λvs H1=>∃j:Int,vs=[.int j]/\-(2^62)<=j/\j<2^62/\R (N8 0 j.toNat) H1
def Vg (ta:TA):TI:=λU H R=>ta U H λvs H1=>∃i j:Int,vs=[.int i,.int j]/\(-(2^62)<=i/\i<2^62/\-(2^62)<=j/\j<2^62)/\R (N8 i (j-i).toNat) H1
def cy {a:Expr} {ta:TA} {p pos:Pos} (hg:Gl X "range") (hm:X.mg "range"= none) (ha:PA X [a] ta) (hs:starEach [a] X.env=[(false,eval a X.env)]<|>qe_):PI X tg (.Call (.Name "range" p) [a] [] pos) (PQ ta):=by
 intro pins s U H R I h;refine Call_ (jM I hg hm boot_range (yI (cQ (ha s U H _ I h) λus s1 z0=>?_) hs rfl));let⟨vs,H1,I1,r1,q1⟩:=z0;let⟨j,e,q1,q2,q⟩:=q1;subst e;cases r1 with
 | cons r rr=>
  cases rr;let⟨t,rfl⟩:=r;exact call_range_1 (HL I1 () () q1 q2 (by simpa using q))
def sE (hg:Gl X "range") (hm:X.mg "range"= none) (ha:PA X [a,b] ta) (hs:starEach [a,b] X.env=[(false,eval a X.env),(false,eval b X.env)]<|>qe_) (hs2:starEach [b] X.env=[(false,eval b X.env)]<|>qe_) :
  PI X tg (.Call (.Name "range" p) [a,b] [] pos) (Vg ta):=by
 intro pins s U H R I h;refine Call_ (jM I hg hm boot_range (yI (cQ (ha s U H _ I h) λus s1 z0=>?_) (by rw[hs,hs2]) (by rw[hs2];rfl)));let⟨vs,H1,I1,r1,q1⟩:=z0;let⟨i,j,e,⟨q1,q2,q3,q4⟩,q⟩:=q1;subst e;cases r1 with
 | cons r rr=>
  cases rr with
  | cons r' rr=>
   cases rr;let⟨t,rfl⟩:=r;let⟨t',rfl⟩:=r';exact call_range_2 (HL I1 q1 q2 q3 q4 q)
def SQ (wi:TI) (g:TG) (tb:TS):TS:=λD U H=>wi U H λJ H1=>∃W:Nat->Nat->St->Hp->Prop,(∃m,W 0 m U H1)/\∀i m U H,W i m U H->
 (J.stop i H/\D.nx U H)\/(J.go i H/\∃N:St->Hp->Prop,(∀U' H',N U' H'->∃m',m'<m/\W (i+1) m' U' H')/\∀x H',J.JP i H x H'->g x U H' λσ2 H2=>tb {D with nx:=N,ct:=N,bk:=D.nx} σ2 H2)
noncomputable def sD (fp:List vm) (h:vn):List (vm×Obj):=fp.filterMap λb=>(h.get? b).map λo=>(b,o)
def gg (hb:b∈fp) (e:h.get? b=some o):(b,o)∈sD fp h:=w8.mpr {b,hb,by rw[e];rfl}
def MW (hp:p∈sD fp h):p.1∈fp/\h.get? p.1=some p.2:=by
 let⟨b,hb,e⟩:=w8.mp hp;cases q:h.get? b with
 | none=>rw[q] at e;cases e
 | some o=>
  rw[q] at e;let e':(b,o)=p:=yh e;subst e';exact{(hb),q}
def Inv.pinned (I:Inv X pins U H s) (hf:∀b∈fp,DI X pins H b) (ho:∀b∈fp,∃o,s.heap.get? b=some o/\∀v,o.data≠.cell v):Inv X (pins++sD fp s.heap) U H s:=
 I.nH λp hp=>(zE.mp hp).elim (λz=>I.pin p (zG _ z)) λz=>by
  let⟨hb,e⟩:=MW z;let⟨f0,f1,f2,_⟩:=hf p.1 hb;let⟨o,e',d⟩:=ho p.1 hb;rw[e] at e';cases e';exact{(e),f0,f1,f2,d}
def Inv.Ag (I:Inv X (pins++pl) U H s):Inv X pins U H s:=I.nH λp hp=>I.pin p (zG _ (zH _ hp))
def cj (hp:PassesOwn (model X.prog X.w) X.A X.env X.xe) (hc:X.calm=true) (hi:PI X tg iter wi) (hg:PG X tg g) (hb:DH X body tb)
  (hs:(∀x,foldedSetIterable iter X.env x=pure x)<|>qd_):PS X (.For tg iter body [] pos) (SQ wi g tb):=by
 intro pins s U H D I h;refine wpAny_For (cQ (hi s U H _ I h) λv s1 h1=>cQ h1 λitv s2 h2=>?_) hs;let⟨it,fp,tn,J,H2,e,I2,T,st2,f2,W,⟨m0,w0⟩,turn⟩:=h2;subst e;let stat:∀{H':Hp},(∀b∈fp,H' b=none)->∀b∈fp,DI X pins H' b:=λhn b hb=>{hn b hb,(f2 b hb).2}
 refine codeAny_forLoop_any (Xn X pins fp tn W) ?_ m0 {0,U,H2,I2,st2,λb hb=>(f2 b hb).1,w0};rintro n s3 ⟨i,σ3,H3,I3,st3,fr3,w3⟩;rcases turn i n σ3 H3 w3 with⟨stop,qn⟩ | ⟨go,N,hN,step⟩
 ·refine xP hp (cQ (T.done X rfl rfl rfl hc i pins s3 σ3 H3 X.xe I3 (stat fr3) st3 stop) λr s4 ⟨hr,I4⟩=>?_)
  subst hr;exact wk {σ3,H3,I4,qn}
 ·refine xP hp (cQ (T.item X rfl rfl rfl hc i pins s3 σ3 H3 X.xe I3 (stat fr3) st3 go) λr s4 ⟨u,hr,h4⟩=>?_)
  subst hr;refine xP hp (cQ h4 λ_ s5 z0=>?_);let⟨x,H5,I5,r5,y5,st5,fr5⟩:=z0;let I5':=I5.pinned (stat fr5) (T.obj _ _ st5);refine xP hp (cQ (hg _ s5 σ3 H5 x u _ I5' r5 (step x H5 y5)) λ_ s6 z0=>?_);let⟨σ6,H6,I6,q6⟩:=z0;refine xP hp (cQ (hb s6 σ6 H6 _ I6 q6) λf s7 q7=>?_);let again:∀{σ7:St} {H7:Hp},Inv X (pins++sD fp s5.heap) σ7 H7 s7->N σ7 H7->∃m,m<n/\Xn X pins fp tn W m s7:=λ{σ7 H7} I7 n7=>by
   let⟨m',hm,w7⟩:=hN σ7 H7 n7;refine{m',hm,i+1,σ7,H7,I7.Ag,T.keep _ _ _ st5 λb hb o e=>(I7.pin (b,o) (zG _ (zG _ (gg hb e)))).1,λb hb=>?_,w7};let⟨o,e,d⟩:=T.obj _ _ st5 b hb;exact(I7.pin (b,o) (zG _ (zG _ (gg hb e)))).2
  cases f with
  | next=>let⟨σ7,H7,I7,n7⟩:=q7;exact again I7 n7
  | cont=>let⟨σ7,H7,I7,n7⟩:=q7;exact again I7 n7
  | brk=>let⟨σ7,H7,I7,q7⟩:=q7;exact{σ7,H7,I7.Ag,q7}
  | ret v=>let⟨x7,σ7,H7,I7,r7,q7⟩:=q7;exact{x7,σ7,H7,I7.Ag,r7,q7}
end
def dJ {K:yx} {a:vm} {xs:List V} {g:TG} {tb:TS} {D:Ends} {U:St} {H:Hp} (Pv:Nat->St->Hp->Prop) (h0:Pv 0 U H) (hl:∀i U H,i<=⇑xs->Pv i U H->fi K H a xs)
  (hs:∀i x U H,xs[i]?=some x->Pv i U H->g x U H λσ2 H2=>tb {D with nx:=Pv (i+1),ct:=Pv (i+1),bk:=D.nx} σ2 H2) (hd:∀U H,Pv ⇑xs U H->D.nx U H) :
  ∃W:Nat->Nat->St->Hp->Prop,(∃m,W 0 m U H)/\∀i m U H,W i m U H->
   ((JN K a).stop i H/\D.nx U H)\/((JN K a).go i H/\∃N:St->Hp->Prop,(∀U' H',N U' H'->∃m',m'<m/\W (i+1) m' U' H')/\∀x H',(JN K a).JP i H x H'->g x U H' λσ2 H2=>tb {D with nx:=N,ct:=N,bk:=D.nx} σ2 H2):=by
 refine{λi m U H=>m=⇑xs-i/\i<=⇑xs/\Pv i U H,{⇑xs,by simp,yd _,h0},?_};rintro i m U H ⟨rfl,hi,p⟩;let q:=hl i U H hi p
 by_cases hlt:i<⇑xs
 ·refine .inr {{xs,xs[i],q,by simp[hlt]},Pv (i+1),λU' H' p'=>{⇑xs-(i+1),(),rfl,hlt,p'},λx H' y=>?_}
  let⟨e,y⟩:=y;subst e;exact hs i x U _ (y xs q) p
 ·let e:i=⇑xs:=()
  subst e;exact .inl {{xs,q,zk _},hd U H p}
def L9 {K:yx} {a:vm} {xs:List V} {g:TG} {tb:TS} {D:Ends} {U:St} {H:Hp} (Pv:Nat->St->Hp->Prop) (h0:Pv 0 U H) (hl:∀i U H,i<=⇑xs->Pv i U H->pQ K H a xs)
  (hs:∀i x U H,xs[i]?=some x->Pv i U H->g x U H λσ2 H2=>tb {D with nx:=Pv (i+1),ct:=Pv (i+1),bk:=D.nx} σ2 H2) (hd:∀U H,Pv ⇑xs U H->D.nx U H) :
  ∃W:Nat->Nat->St->Hp->Prop,(∃m,W 0 m U H)/\∀i m U H,W i m U H->
   ((Ss K a).stop i H/\D.nx U H)\/((Ss K a).go i H/\∃N:St->Hp->Prop,(∀U' H',N U' H'->∃m',m'<m/\W (i+1) m' U' H')/\∀x H',(Ss K a).JP i H x H'->g x U H' λσ2 H2=>tb {D with nx:=N,ct:=N,bk:=D.nx} σ2 H2):=by
 refine{λi m U H=>m=⇑xs-i/\i<=⇑xs/\Pv i U H,{⇑xs,by simp,yd _,h0},?_};rintro i m U H ⟨rfl,hi,p⟩;let q:=hl i U H hi p
 by_cases hlt:i<⇑xs
 ·refine .inr {{xs,xs[i],q,by simp[hlt]},Pv (i+1),λU' H' p'=>{⇑xs-(i+1),(),rfl,hlt,p'},λx H' y=>?_}
  let⟨e,y⟩:=y;subst e;exact hs i x U _ (y xs q) p
 ·let e:i=⇑xs:=()
  subst e;exact .inl {{xs,q,zk _},hd U H p}
def fC {lo:Int} {n:Nat} {g:TG} {tb:TS} {D:Ends} {U:St} {H:Hp} (Pv:Nat->St->Hp->Prop) (h0:Pv 0 U H)
  (hs:∀i U H,i<n->Pv i U H->g (.int (lo+i)) U H λσ2 H2=>tb {D with nx:=Pv (i+1),ct:=Pv (i+1),bk:=D.nx} σ2 H2) (hd:∀U H,Pv n U H->D.nx U H) :
  ∃W:Nat->Nat->St->Hp->Prop,(∃m,W 0 m U H)/\∀i m U H,W i m U H->
   ((N8 lo n).stop i H/\D.nx U H)\/((N8 lo n).go i H/\∃N:St->Hp->Prop,(∀U' H',N U' H'->∃m',m'<m/\W (i+1) m' U' H')/\∀x H',(N8 lo n).JP i H x H'->g x U H' λσ2 H2=>tb {D with nx:=N,ct:=N,bk:=D.nx} σ2 H2):=by
 refine{λi m U H=>m=n-i/\i<=n/\Pv i U H,{n,by simp,yd _,h0},?_};rintro i m U H ⟨rfl,hi,p⟩
 by_cases hlt:i<n
 ·refine .inr {hlt,Pv (i+1),λU' H' p'=>{n-(i+1),(),rfl,hlt,p'},λx H' y=>?_}
  let⟨e,y⟩:=y;subst e y;exact hs i U _ hlt p
 ·let e:i=n:=()
  subst e;exact .inl {zk _,hd U H p}
end L2
namespace L2
open PySem PySem.Spec PyProof.Rows
abbrev R2:=V->V->Hp->VK->Prop
def nV (X:Cx) (f:vf->vf->Sem vf) (r:R2):Prop:=
 ∀(pins:List (vm×Obj)) (s:vg) (U:St) (H:Hp) (x y:V) (v u:vf) (Q:VK),Inv X pins U H s->RelV x v->RelV y u->r x y H Q->
  wpAny (model X.prog X.w) X.A (f v u) (EP X pins U Q) X.xe s
def WY (X:Cx) (f:vf->Sem vf) (r:V->Hp->VK->Prop):Prop:=
 ∀(pins:List (vm×Obj)) (s:vg) (U:St) (H:Hp) (x:V) (v:vf) (Q:VK),Inv X pins U H s->RelV x v->r x H Q->
  wpAny (model X.prog X.w) X.A (f v) (EP X pins U Q) X.xe s
def fH (X:Cx) (f:vf) (r:List V->Hp->VK->Prop):Prop:=
 ∀(pins:List (vm×Obj)) (s:vg) (U:St) (H:Hp) (xs:List V) (us:List vf) (Q:VK),Inv X pins U H s->Vals xs us->r xs H Q->
  wpAny (model X.prog X.w) X.A (call f us) (EP X pins U Q) X.xe s
def fj (r:R2) (ta tb:TE):TE:=λU H Q=>ta U H λx H1=>tb U H1 λy H2=>r x y H2 Q
def Xb (r:V->Hp->VK->Prop) (ta:TE):TE:=λU H Q=>ta U H λx H1=>r x H1 Q
def rI (C:Int->Int->Prop) (g:Int->Int->V):R2:=λx y H Q=>∃i j,x=.int i/\y=.int j/\C i j/\Q (g i j) H
def tW (g:Int->Int->V):R2:=λx y H Q=>∃i j,x=.int i/\y=.int j/\Q (g i j) H
def rU (g:Int->V):V->Hp->VK->Prop:=λx H Q=>∃i,x=.int i/\Q (g i) H
section
variable {X:Cx} {a b c:Expr} {ta tb tc:TE} {pos:Pos}
def Uh (ha:PE X a ta) (hb:PE X b tb) {pins:List (vm×Obj)} {s:vg} {U:St} {H:Hp} {R:V->V->Hp->Prop} (I:Inv X pins U H s)
  (h:ta U H λx H1=>tb U H1 λy H2=>R x y H2) {Q:vf->vg->Prop} {f:vf->vf->Sem vf}
  (hf:∀v u s2 x y H2,Inv X pins U H2 s2->RelV x v->RelV y u->R x y H2->wpAny (model X.prog X.w) X.A (f v u) Q X.xe s2) :
  wpAny (model X.prog X.w) X.A (eval a X.env) (λv s₁=>wpAny (model X.prog X.w) X.A (eval b X.env) (λu s₂=>wpAny (model X.prog X.w) X.A (f v u) Q X.xe s₂) X.xe s₁) X.xe s:=by
 refine cQ (ha s U H _ I h) λv s1 z0=>?_;let⟨x,H1,I1,r1,q1⟩:=z0;refine cQ (hb s1 U H1 _ I1 q1) λu s2 z0=>?_;let⟨y,H2,I2,r2,q2⟩:=z0;exact hf v u s2 x y H2 I2 r1 r2 q2
def au {op:Operator} {r:R2} (ho:nV X (binaryOp op) r) (ha:PE X a ta) (hb:PE X b tb):PE X (.BinOp a op b pos) (fj r ta tb):=by
 intro pins s U H Q I h;exact wpAny_BinOp (Uh ha hb I h λv u s2 x y H2 I2 rx ry q=>ho pins s2 U H2 x y v u Q I2 rx ry q)
def jy (ho:WY X (unaryOp op) r) (ha:PE X a ta):PE X (.UnaryOp op a pos) (Xb r ta):=by
 intro pins s U H Q I h;refine UnaryOp_ (cQ (ha s U H _ I h) λv s1 z0=>?_);let⟨x,H1,I1,r1,q1⟩:=z0;exact ho pins s1 U H1 x v Q I1 r1 q1
def Uv {f:vf->vf->Sem vf} {C:Int->Int->Prop} {g:Int->Int->Int}
  (rule:∀(i j:Int) (t u:Tok) (s:vg) (Q:vf->vg->Prop) (E:vf->vg->Prop),C i j->Q (.int (g i j) s.toks) {s with toks:=s.toks+1}->wpAny (model X.prog X.w) X.A (f (.int i t) (.int j u)) Q E s) :
  nV X f (rI C λi j=>.int (g i j)):=by
 intro pins s U H x y v u Q I rx ry h;let⟨i,j,rfl,rfl,hc,q⟩:=h;let⟨t,rfl⟩:=rx;let⟨t',rfl⟩:=ry;exact rule i j t t' s _ _ hc {.int (g i j),H,I.tok _,{_,rfl},q}
def Tw {f:vf->vf->Sem vf} {g:Int->Int->Int}
  (rule:∀(i j:Int) (t u:Tok) (s:vg) (Q:vf->vg->Prop) (E:vf->vg->Prop),Q (.int (g i j) s.toks) {s with toks:=s.toks+1}->wpAny (model X.prog X.w) X.A (f (.int i t) (.int j u)) Q E s) :
  nV X f (tW λi j=>.int (g i j)):=by
 intro pins s U H x y v u Q I rx ry h;let⟨i,j,rfl,rfl,q⟩:=h;let⟨t,rfl⟩:=rx;let⟨t',rfl⟩:=ry;exact rule i j t t' s _ _ {.int (g i j),H,I.tok _,{_,rfl},q}
def Ri {f:vf->vf->Sem vf} {g:Int->Int->Bool}
  (rule:∀(i j:Int) (t u:Tok) (s:vg) (Q:vf->vg->Prop) (E:vf->vg->Prop),Q (.bool (g i j)) s->wpAny (model X.prog X.w) X.A (f (.int i t) (.int j u)) Q E s) :
  nV X f (tW λi j=>.bl (g i j)):=by
 intro pins s U H x y v u Q I rx ry h;let⟨i,j,rfl,rfl,q⟩:=h;let⟨t,rfl⟩:=rx;let⟨t',rfl⟩:=ry;exact rule i j t t' s _ _ {.bl (g i j),H,I,rfl,q}
def Us (i j:Int):Prop:=0<j/\j<1073741824
def N0 (i j:Int):Prop:=(-(2^64)<i/\i<2^64)\/(-(2^64)<j/\j<2^64)
def N0.ok (h:N0 i j):IntMulOk i j:=by
 rcases h with⟨h1,h2⟩ | ⟨h1,h2⟩
 ·exact .of_left (intBits_le_64 h1 h2)
 ·exact .of_right (intBits_le_64 h1 h2)
def JU (k:Nat):(0:Int)<=2^k:=by
 rw[two_pow_cast];exact Int.natCast_nonneg _
def aR:nV X (binaryOp .Add) (tW λi j=>.int (i+j)):=Tw λ_ _ _ _ _ _ _ q=>add_int q
def gN:nV X (binaryOp .Sub) (tW λi j=>.int (i-j)):=Tw λ_ _ _ _ _ _ _ q=>sub_int q
def dR:nV X (binaryOp .Mult) (rI N0 λi j=>.int (i*j)):=Uv λ_ _ _ _ _ _ _ hc q=>mul_int q hc.ok
def aY:nV X (binaryOp .FloorDiv) (rI Us λi j=>.int (i/j)):=Uv λi j _ _ _ _ _ hc q=>by
 let h1:(0:Int)<j:=hc.1;let h2:j<1073741824:=hc.2;exact floordiv_int () (by rw[w9 i ()];exact q) (.inl (PyProof.noPylong_small ()))
def aS:nV X (binaryOp .Mod) (rI (λ_ j=>0<j) λi j=>.int (i%j)):=Uv λi j _ _ _ _ _ hc q=>by
 let h1:(0:Int)<j:=hc;exact mod_int' () (by rw[Int.fmod_eq_emod_of_nonneg i ()];exact q)
def Tt:nV X (binaryOp .RShift) (rI (λ_ j=>0<=j) λi j=>.int (i/2^j.toNat)):=Uv λi j _ _ _ _ _ hc q=>
 rshift_int hc (by rw[w9 i (JU _)];exact q)
def Tv:nV X (binaryOp .BitAnd) (tW λi j=>.int (Builtin.bitAnd i j)):=Tw λ_ _ _ _ _ _ _ q=>and_int q
def Xs {f:vf->Sem vf} {g:Int->Int}
  (rule:∀(i:Int) (t:Tok) (s:vg) (Q:vf->vg->Prop) (E:vf->vg->Prop),Q (.int (g i) s.toks) {s with toks:=s.toks+1}->wpAny (model X.prog X.w) X.A (f (.int i t)) Q E s) :
  WY X f (rU λi=>.int (g i)):=by
 intro pins s U H x v Q I rx h;let⟨i,rfl,q⟩:=h;let⟨t,rfl⟩:=rx;exact rule i t s _ _ {.int (g i),H,I.tok _,{_,rfl},q}
def fL:WY X (unaryOp .USub) (rU λi=>.int (-i)):=Xs λ_ _ _ _ _ q=>neg_int q
end
noncomputable def QT:V->V->Bool
 | .bN,.bN=>true | .bN,.int _=>true | .int _,.bN=>true | .bN,.bl _=>true | .bl _,.bN=>true | .bN,.str _=>true | .str _,.bN=>true
 | .int _,.int _=>true | .bl _,.bl _=>true | .str _,.str _=>true | .Mi _,.Mi _=>true
 | .int _,.str _=>true | .str _,.int _=>true | .bl _,.str _=>true | .str _,.bl _=>true
 | _,_=>false
def Wy:R2:=λx y H Q=>QT x y=true/\Q (.bl (decide (x=y))) H
def Ww:R2:=λx y H Q=>QT x y=true/\Q (.bl (!decide (x=y))) H
def FR:decide (V.int i=V.int j)=(i == j):=by
 rw[xG];simp
def Qd:decide (V.bl i=V.bl j)=(i == j):=by
 rw[xG];simp
def FP:decide (V.str i=V.str j)=(i == j):=by
 rw[xG];simp
def Md:decide (V.Mi i=V.Mi j)=(i.toList == j.toList):=by
 rw[xG];cases i;cases j;simp
section
variable {X:Cx} {a b c:Expr} {ta tb tc:TE} {pos:Pos}
def cq (I:Inv X pins U H s) (q:Q (.bl k) H) (e:k=k'):EP X pins U Q (.bool k') s:=by
 subst e;exact{.bl k,H,I,rfl,q}
def dh:nV X (compareOp .Eq) Wy:=by
 intro pins s U H x y v u Q I rx ry h;let⟨hs,q⟩:=h;cases x with
 | bN=>
  cases rx;cases y with
  | bN=>cases ry;exact PySem.EqNone.eq_none_none (cq I q (by simp))
  | bl j=>cases ry;exact PySem.EqNone.eq_none_bool (cq I q (by simp))
  | int j=>let⟨t',rfl⟩:=ry;exact PySem.EqNone.eq_none_int (cq I q (by simp))
  | str j=>let⟨t',rfl⟩:=ry;exact PySem.EqNone.eq_none_str (cq I q (by simp))
  | _=>exact absurd (show false=true from hs) zJ
 | bl i=>
  cases rx;cases y with
  | bN=>cases ry;exact PySem.EqNone.eq_bool_none (cq I q (by simp))
  | bl j=>cases ry;exact eq_bool (cq I q Qd)
  | str j=>let⟨t',rfl⟩:=ry;exact PySem.EqMixed.eq_bool_str (cq I q (by simp))
  | _=>exact absurd (show false=true from hs) zJ
 | int i=>
  let⟨t,rfl⟩:=rx;cases y with
  | bN=>cases ry;exact PySem.EqNone.eq_int_none (cq I q (by simp))
  | int j=>let⟨t',rfl⟩:=ry;exact eq_int (cq I q FR)
  | str j=>let⟨t',rfl⟩:=ry;exact PySem.EqMixed.eq_int_str (cq I q (by simp))
  | _=>exact absurd (show false=true from hs) zJ
 | str i=>
  let⟨t,rfl⟩:=rx;cases y with
  | bN=>cases ry;exact PySem.EqNone.eq_str_none (cq I q (by simp))
  | bl j=>cases ry;exact PySem.EqMixed.eq_str_bool (cq I q (by simp))
  | int j=>let⟨t',rfl⟩:=ry;exact PySem.EqMixed.eq_str_int (cq I q (by simp))
  | str j=>let⟨t',rfl⟩:=ry;exact eq_str (cq I q FP)
  | _=>exact absurd (show false=true from hs) zJ
 | Mi i=>
  let⟨t,rfl⟩:=rx;cases y with
  | Mi j=>let⟨t',rfl⟩:=ry;exact PySem.W.eq_bytes (cq I q Md)
  | _=>exact absurd (show false=true from hs) zJ
 | _=>cases y <;> exact absurd (show false=true from hs) zJ
def iU:nV X (compareOp .NotEq) Ww:=by
 intro pins s U H x y v u Q I rx ry h;let⟨hs,q⟩:=h;cases x with
 | bN=>
  cases rx;cases y with
  | bN=>cases ry;exact PySem.EqNone.ne_none_none (cq I q (by simp))
  | bl j=>cases ry;exact PySem.EqNone.ne_none_bool (cq I q (by simp))
  | int j=>let⟨t',rfl⟩:=ry;exact PySem.EqNone.ne_none_int (cq I q (by simp))
  | str j=>let⟨t',rfl⟩:=ry;exact PySem.EqNone.ne_none_str (cq I q (by simp))
  | _=>exact absurd (show false=true from hs) zJ
 | bl i=>
  cases rx;cases y with
  | bN=>cases ry;exact PySem.EqNone.ne_bool_none (cq I q (by simp))
  | bl j=>cases ry;exact ne_bool (cq I q (yV not Qd))
  | str j=>let⟨t',rfl⟩:=ry;exact PySem.EqMixed.ne_bool_str (cq I q (by simp))
  | _=>exact absurd (show false=true from hs) zJ
 | int i=>
  let⟨t,rfl⟩:=rx;cases y with
  | bN=>cases ry;exact PySem.EqNone.ne_int_none (cq I q (by simp))
  | int j=>let⟨t',rfl⟩:=ry;exact ne_int (cq I q (yV not FR))
  | str j=>let⟨t',rfl⟩:=ry;exact PySem.EqMixed.ne_int_str (cq I q (by simp))
  | _=>exact absurd (show false=true from hs) zJ
 | str i=>
  let⟨t,rfl⟩:=rx;cases y with
  | bN=>cases ry;exact PySem.EqNone.ne_str_none (cq I q (by simp))
  | bl j=>cases ry;exact PySem.EqMixed.ne_str_bool (cq I q (by simp))
  | int j=>let⟨t',rfl⟩:=ry;exact PySem.EqMixed.ne_str_int (cq I q (by simp))
  | str j=>let⟨t',rfl⟩:=ry;exact ne_str (cq I q (yV not FP))
  | _=>exact absurd (show false=true from hs) zJ
 | Mi i=>
  let⟨t,rfl⟩:=rx;cases y with
  | Mi j=>let⟨t',rfl⟩:=ry;exact PySem.W.ne_bytes (cq I q (yV not Md))
  | _=>exact absurd (show false=true from hs) zJ
 | _=>cases y <;> exact absurd (show false=true from hs) zJ
def eI:nV X (compareOp .Lt) (tW λi j=>.bl (decide (i<j))):=Ri λ_ _ _ _ _ _ _ q=>lt_int q
def gF:nV X (compareOp .LtE) (tW λi j=>.bl (decide (i<=j))):=Ri λ_ _ _ _ _ _ _ q=>le_int q
def d7:nV X (compareOp .Gt) (tW λi j=>.bl (decide (j<i))):=Ri λ_ _ _ _ _ _ _ q=>gt_int q
def Ba:nV X (compareOp .GtE) (tW λi j=>.bl (decide (j<=i))):=Ri λ_ _ _ _ _ _ _ q=>ge_int q
def DX:nV X (compareOp .In) (λx y H Q=>∃i j,x=.str i/\y=.str j/\Q (.bl (!(Builtin.Str.occurrences j i 0 ⇑j 1).isEmpty)) H):=by
 intro pins s U H x y v u Q I rx ry h;let⟨i,j,rfl,rfl,q⟩:=h;let⟨t,rfl⟩:=rx;let⟨t',rfl⟩:=ry;exact in_str (cq I q rfl)
def gQ (b:Expr) (h:op≠.In<|>qb_) (h2:op≠.NotIn<|>qb_):behindInMarks op b=false:=Bi b h h2
def dw (ho:nV X (compareOp op) r) (ha:PE X a ta) (hb:PE X b tb) (hm:behindInMarks op b=false):PE X (.Compare a [op] [b] pos) (fj r ta tb):=by
 intro pins s U H Q I h;exact wpAny_Compare1 (Uh ha hb I h λv u s2 x y H2 I2 rx ry q=>ho pins s2 U H2 x y v u Q I2 rx ry q) hm
def oq (t:TE):TT:=λU H Q=>t U H λx H'=>∃k,x=.bl k/\Q k H'
def gr (ho:nV X (compareOp op) r) (ha:PE X a ta) (hb:PE X b tb) (hm:behindInMarks op b=false):PT X (.Compare a [op] [b] pos) (oq (fj r ta tb)):=by
 intro pins s U H Q I h;refine wpAny_isTrue_Compare1 (cQ (ha s U H _ I h) λv s1 z0=>?_) hm;let⟨x,H1,I1,r1,q1⟩:=z0;refine cQ (hb s1 U H1 _ I1 q1) λu s2 z1=>?_;let⟨y,H2,I2,r2,q2⟩:=z1;refine cQ (ho pins s2 U H2 x y v u _ I2 r1 r2 q2) λc s3 z2=>?_;let⟨z,H3,I3,r3,k,e,q3⟩:=z2;subst e;cases r3;exact y9 {(H3),I3,q3}
def Ap (r r':R2) (ta tb tc:TE):TE:=λU H Q=>ta U H λx H1=>tb U H1 λy H2=>r x y H2 λz H3=>∃k,z=.bl k/\
 (if k=true then tc U H3 λw' H4=>r' y w' H4 Q else Q (.bl false) H3)
def HS (ho:nV X (compareOp op) r) (ho':nV X (compareOp op') r') (ha:PE X a ta) (hb:PE X b tb) (hc:PE X c tc)
  (hm:lastMarks [op,op'] [b,c]=false<|>qf_):PE X (.Compare a [op,op'] [b,c] pos) (Ap r r' ta tb tc):=by
 intro pins s U H Q I h;refine Compare_chain (cQ (ha s U H _ I h) λv s1 z0=>?_) hm;let⟨x,H1,I1,r1,q1⟩:=z0;refine chain_link (cQ (hb s1 U H1 _ I1 q1) λu s2 z1=>?_);let⟨y,H2,I2,r2,q2⟩:=z1;refine cQ (ho pins s2 U H2 x y v u _ I2 r1 r2 q2) λd s3 z2=>?_;let⟨z,H3,I3,r3,k,e,q3⟩:=z2;subst e;cases r3;refine y9 ?_;cases k with
 | false=>exact ite_ff {.bl false,H3,I3,rfl,q3}
 | true=>exact ite_tt (chain_last (cQ (hc s3 U H3 _ I3 q3) λw' s4 ⟨z',H4,I4,r4,q4⟩=>ho' pins s4 U H4 y z' u w' Q I4 r2 r4 q4))
def O5 (ho:nV X (compareOp op) r) (ho':nV X (compareOp op') r') (ha:PE X a ta) (hb:PE X b tb) (hc:PE X c tc)
  (hm:lastMarks [op,op'] [b,c]=false<|>qf_):PT X (.Compare a [op,op'] [b,c] pos) (oq (Ap r r' ta tb tc)):=by
 intro pins s U H Q I h;refine isTrue_chain (cQ (ha s U H _ I h) λv s1 z0=>?_) hm;let⟨x,H1,I1,r1,q1⟩:=z0;refine test_link (cQ (hb s1 U H1 _ I1 q1) λu s2 z1=>?_);let⟨y,H2,I2,r2,q2⟩:=z1;refine cQ (ho pins s2 U H2 x y v u _ I2 r1 r2 q2) λd s3 z2=>?_;let⟨z,H3,I3,r3,k,e,q3⟩:=z2;subst e;cases r3;refine y9 ?_;cases k with
 | false=>
  let⟨k',e',q'⟩:=q3;cases e';exact ite_ff {(H3),I3,q'}
 | true=>
  refine ite_tt (test_last (cQ (hc s3 U H3 _ I3 q3) λw' s4 z0=>?_));let⟨z',H4,I4,r4,q4⟩:=z0;refine cQ (ho' pins s4 U H4 y z' u w' _ I4 r2 r4 q4) λd' s5 z1=>?_;let⟨z2,H5,I5,r5,k2,e2,q5⟩:=z1;subst e2;cases r5;exact y9 {(H5),I5,q5}
def Bl:(sizeLine:Nat)<2^63:=by rw[yy];decide
def b9:nV X (binaryOp .Add) (λx y H Q=>∃i j,x=.str i/\y=.str j/\⇑i+⇑j<=sizeLine/\Q (.str (i++j)) H):=by
 intro pins s U H x y v u Q I rx ry h;let⟨i,j,rfl,rfl,hz,q⟩:=h;let⟨t,rfl⟩:=rx;let⟨t',rfl⟩:=ry;exact add_str (λt' tk=>{.str (i++j),H,I.tok _,{_,rfl},q}) hz
def vals1 (r:Vals [x] us):∃u,us=[u]/\RelV x u:=by
 cases r with
 | cons r1 r2=>cases r2;exact{_,rfl,r1}
def vals2 (r:Vals [x,y] us):∃u w',us=[u,w']/\RelV x u/\RelV y w':=by
 cases r with
 | cons r1 r2=>
  cases r2 with
  | cons r3 r4=>cases r4;exact{_,_,rfl,r1,r3}
def Jn:fH X (.builtin "abs") (λxs H Q=>∃i,xs=[.int i]/\Q (.int (if i<0 then -i else i)) H):=by
 intro pins s U H xs us Q I r h;let⟨i,rfl,q⟩:=h;let⟨u,rfl,t,rfl⟩:=vals1 r;exact call_abs_int λu tk=>{.int (if i<0 then -i else i),H,I.tok _,{_,rfl},q}
def ND (hc:X.calm=true):fH X (.builtin "min") (λxs H Q=>∃i j,xs=[.int i,.int j]/\Q (.int (if j<i then j else i)) H):=by
 intro pins s U H xs us Q I r h;let⟨i,j,rfl,q⟩:=h;let⟨u,w',rfl,⟨t,rfl⟩,⟨t',rfl⟩⟩:=vals2 r;refine min_two_ints (I.ok.hd hc) λh' tk k=>{_,H,I.kept k,?_,q}
 by_cases hj:j<i
 ·rw[yK hj,yK hj];exact{_,rfl}
 ·rw[yJ hj,yJ hj];exact{_,rfl}
def aZ:fH X (.type "str") (λxs H Q=>∃i,xs=[.int i]/\i.natAbs.log2<1920/\Q (.str (toString i)) H):=by
 intro pins s U H xs us Q I r h;let⟨i,rfl,hz,q⟩:=h;let⟨u,rfl,t,rfl⟩:=vals1 r;exact PySem.P.str_of_int hz {.str _,H,I.tok _,{_,rfl},q}
end
end L2
namespace L2
open PySem PySem.Spec PyProof.Rows
structure NV (h:vn) (x dx C:vm) (mA:Str->Option vf):Prop where
 obj:h.get? x=some (PySem.W.instObj C dx)
 ns:h.Ns1 dx mA
 ne:dx≠x
def M0 {h:vn} {dx:vm} {mA:Str->Option vf} (n:h.Ns1 dx mA):∃od,h.get? dx=some od/\∀name,PySem.W.lookIn name od=some (mA name):=by
 let⟨o,es,ep,ho,hd,hk,_,hm⟩:=n;refine{o,ho,λname=>?_};let e:=hm name;unfold nsFind findBy at e;rw[<-Array.find?_toList] at e;unfold PySem.W.lookIn;rw[hd];dsimp only;split
 ·rename_i y q
  rw[q] at e;exact yV some e
 ·rename_i q
  rw[q] at e;let a:es.toList.any (·.refKey)=false:=by
   rw[vc];intro y hy;let⟨z,t,hkey⟩:=hk y (Array.mem_toList_iff.mp hy);simp[DictEntry.refKey,hkey]
  let a':¬es.toList.any (·.refKey)=true:=by rw[a];exact zJ
  rw[yJ a'];exact yV some e
def NV.look (I:NV h x dx C mA):∃od,PySem.W.InstAt h x (PySem.W.instObj C dx) C (some od)/\∀name,PySem.W.lookIn name od=some (mA name):=
 let ⟨od,ho,hl⟩:=M0 I.ns
 {od,{(I.obj),rfl,rfl,ho},hl}
section
variable {prog:vh} {w:vi} {A:vj} {E:vf->vg->Prop} {s:vg} {K:yx} {x dx C f:vm} {mA:Str->Option vf} {name:Str} {v:vf}
def get_map (X:K.In s.heap) (I:NV s.heap x dx C mA) (hg:PySem.W.plainGet K C name=true) (hh:PySem.W.hasDictIn K C=true)
  (ha:PySem.W.findIn K (.ref C) name=some none) (hv:mA name=some v) (hv':PySem.W.handedIn v=true) (h:Q v {s with toks:=s.toks+1}) :
  wpAny (model prog w) A (getAttr (.ref x) name expr) Q E s:=by
 let⟨od,J,hl⟩:=I.look;exact PySem.W.get_value X J (PySem.W.plainGet_of hg).1 (PySem.W.findObj_own hh ha rfl (by rw[hl,hv])) hv' h
def QS (X:K.In s.heap) (I:NV s.heap x dx C mA)
  (hs:PySem.W.findIn K (.ref C) "__setattr__"= some (some (.builtin "object.__setattr__"))) (hp:PySem.W.plainOver K C=true) (ht:PySem.W.takerIn K C name=some none) (hh:PySem.W.hasDictIn K C=true)
  (hw:PySem.Within mA ns) (hsz:⇑ns<=sizeLine)
  (h:∀h',NV h' x dx C (λy=>if y=name then some v else mA y)->Heap.SameBut dx s.heap h'->Q .unit {s with heap:=h',toks:=s.toks+2}) :
  wpAny (model prog w) A (setAttr (.ref x) name v) Q E s:=by
 let⟨od,J,hl⟩:=I.look;refine PySem.W.set_plain X J hs (PySem.W.osa_open (s:={s with toks:=s.toks+1}) (r:=none) X J hp ht λb=>?_);let⟨cd,hc,hd'⟩:=PySem.W.any_some hh;let hx:s.heap.get? x=some ⟨.ref C,some dx,.plain,#[]⟩:=I.obj;refine yq (yt (yq (yq (wpAny_loadPart hx (yq (PySem.W.Looks.here (s:={s with toks:=s.toks+1}) (PySem.W.looks_clsIn X hc) ?_))))));rw[hd'];refine yt (a:=some dx) (yq (yt (yq ?_)));refine wpAny_nsSet1 (s:={s with toks:=s.toks+1}) I.ns λh' hn2 hs2=>?_;let⟨oD,esD,epD,hoD,hdD,hcD⟩:=hn2.count (PySem.Within.cons name v hw);refine yq (wpAny_lookBehind hoD (by rw[hdD];exact pastItsLine_dict (zK hcD (by rw[zt];ext))) ?_);exact yt (h _ {(hs2.2 _ (Ne.symm I.ne)).trans I.obj,hn2,I.ne} hs2)
def Pw (X:K.In s.heap) (hm:PySem.W.makesIn K C=true)
  (hi:PySem.W.findIn K (.ref C) "__init__"= some (some (.ref f))) (hf:PySem.W.typeIn K (.ref f)=some (.type "function"))
  (h:codeAny (model prog w) (A.under (.builtin "type.__call__" {.ref C::vs,kw})) (.call (.ref f) {.ref (↑s+1)::vs,kw}) (PySem.W.InitBack (↑s+1) R)
   {s with heap:=(s.heap.push PySem.W.emptyDict).push (PySem.W.instObj C ↑s)}) :
  codeAny (model prog w) A (.call (.ref C) {(vs),kw}) R s:=by
 let⟨hh,g,d,t,os⟩:=s;exact PySem.W.make_core (PySem.W.makes_of X hm) (PySem.W.looks_findIn X hi) (λself=>PySem.W.bind_fn X self hf) (.inl rfl) h
end
noncomputable def bf (f:Str) (v:V):List (Str×V)->List (Str×V)
 | []=>[(f,v)]
 | (g,x)::r=>if g=f then(g,v)::r else(g,x)::bf f v r
theorem ud (f g:Str) (v:V):∀fs:List (Str×V),(bf f v fs).lookup g=if g=f then some v else fs.lookup g
 | []=>by
  show List.lookup g [(f,v)]=_
  by_cases h:g=f
  ·let hb:(g == f)=true:=wX.mpr h
   simp only[List.lookup,hb,yK h]
  ·let hb:(g == f)=false:=xA.mpr h
   simp only[List.lookup,hb,yJ h]
 | (k,x)::r=>by
  let ih:=ud f g v r;rw[show bf f v ((k,x)::r)=(if k=f then(k,v)::r else(k,x)::bf f v r) from rfl]
  by_cases hk:k=f
  ·rw[yK hk]
   by_cases h:g=k
   ·let hb:(g == k)=true:=wX.mpr h
    simp only[List.lookup,hb,yK (h.trans hk)]
   ·let hb:(g == k)=false:=xA.mpr h
    simp only[List.lookup,hb,yJ (λe:g=f=>h (e.trans hk.symm))]
  ·rw[yJ hk]
   by_cases h:g=k
   ·let hb:(g == k)=true:=wX.mpr h
    simp only[List.lookup,hb,yJ (λe:g=f=>hk (h.symm.trans e))]
   ·let hb:(g == k)=false:=xA.mpr h
    simp only[List.lookup,hb];exact ih
theorem sU (f:Str) (v:V):∀fs:List (Str×V),f∈(bf f v fs).map (·.1)/\∀g,g∈fs.map (·.1)->g∈(bf f v fs).map (·.1)
 | []=>{by simp[bf],λg h=>by simp at h}
 | (k,x)::r=>by
  let⟨i1,i2⟩:=sU f v r;rw[show bf f v ((k,x)::r)=(if k=f then(k,v)::r else(k,x)::bf f v r) from rfl]
  by_cases hk:k=f
  ·rw[yK hk]
   subst hk;exact{by simp,λg h=>by simpa using h}
  ·rw[yJ hk]
   refine{?_,λg h=>?_}
   ·rw[zh]
    exact zm _ i1
   ·rw[zh] at h ⊢
    rcases zB.mp h with e | e
    ·exact zB.mpr (.inl e)
    ·exact zm _ (i2 g e)
theorem ue (f:Str) (v:V):∀fs:List (Str×V),⇑(bf f v fs)<=⇑fs+1
 | []=>by simp[bf]
 | (k,x)::r=>by
  let ih:=ue f v r;rw[show bf f v ((k,x)::r)=(if k=f then(k,v)::r else(k,x)::bf f v r) from rfl]
  by_cases hk:k=f
  ·rw[yK hk,zt,zt];ext
  ·rw[yJ hk,zt,zt];ext
def lG.some_of (r:lG (some v) o):∃u,o=some u/\RelV v u:=by
 cases o with
 | none=>exact(show False from r).elim
 | some u=>exact{(u),rfl,r}
def Na (r:RelV v u):PySem.W.handedIn u=true:=by
 cases v with
 | bN=>cases(show u=Value.none from r);rfl
 | bl b=>cases(show u=Value.bool b from r);rfl
 | int i=>let⟨t,e⟩:=(show∃t,u=Value.int i t from r);cases e;rfl
 | str x=>let⟨t,e⟩:=(show∃t,u=Value.str x t from r);cases e;rfl
 | Mi b=>let⟨t,e⟩:=(show∃t,u=Value.bytes b t from r);cases e;rfl
 | Rw b=>let⟨t,e⟩:=(show∃t,u=Value.float b t from r);cases e;rfl
 | ref a=>cases(show u=Value.ref a from r);rfl
 | ty n=>cases(show u=Value.type n from r);rfl
section
variable {P:vh} {w:vi} {H H':Hp} {h h':vn} {a C dx:vm} {fs fs':List (Str×V)}
def FI (cx:pP P w H h) (e:H a=some (.ins C dx fs)):∃mA,NV h a dx C mA/\(∀f,lG (fs.lookup f) (mA f))/\PySem.Within mA (fs.map (·.1))/\⇑fs<=1000/\H dx=some (.own a):=by
 let⟨d,z,ne,ob,mA,n,r,q⟩:=(show cD P w H h a (.ins C dx fs) from cx a _ e)
 exact{mA,{(ob),n,ne},r,q,z,d}
end
structure RX (K:yx) (C:vm):Prop where
 pg:PySem.W.plainGet K C Str.empty=true
 hd:PySem.W.hasDictIn K C=true
 po:PySem.W.plainOver K C=true
 sa:PySem.W.findIn K (.ref C) "__setattr__"= some (some (.builtin "object.__setattr__"))
def RX.get {K:yx} {C:vm} (c:RX K C) (f:Str):PySem.W.plainGet K C f=true:=c.pg
def eL (K:yx) (C:vm) (f:Str):Prop:=PySem.W.findIn K (.ref C) f=some none
def eL.UK {K:yx} {C:vm} {f:Str} (n:eL K C f):PySem.W.takerIn K C f=some none:=by
 unfold PySem.W.takerIn;rw[show PySem.W.findIn K (.ref C) f=some none from n];rfl
section
variable {X:Cx} {pins:List (vm×Obj)} {U:St} {H:Hp} {s:vg} {a C dx:vm} {fs:List (Str×V)} {f:Str} {v:V} {A:vj} {E:vf->vg->Prop}
def KU (I:Inv X pins U H s) (e:H a=some (.ins C dx fs)) (c:RX X.K C) (n:eL X.K C f) (l:fs.lookup f=some v)
  (h:∀u s',Inv X pins U H s'->RelV v u->Q u s'):wpAny (model X.prog X.w) A (getAttr (.ref a) f b) Q E s:=by
 let⟨mA,O,r,_,_,_⟩:=FI I.cx e;let⟨u,hu,ru⟩:=lG.some_of (v:=v) (o:=mA f) (by rw[<-l];exact r f);exact get_map I.sW O (c.get f) c.hd n hu (Na ru) (h u _ (I.tok _) ru)
def Ka (I:Inv X pins U H s) (e:H a=some (.ins C dx fs)) (c:RX X.K C) (n:eL X.K C f) (hl:⇑fs<1000) (ry:RelV y u)
  (h:∀s',Inv X pins U (upd H a (.ins C dx (bf f y fs))) s'->Q .unit s'):wpAny (model X.prog X.w) A (setAttr (.ref a) f u) Q E s:=by
 let⟨mA,O,r,wi,_,ho⟩:=FI I.cx e;let hz:⇑(fs.map (·.1))<=sizeLine:=by rw[za,yy];ext
 refine QS I.sW O c.sa c.po n.UK c.hd wi hz λh' O' sb=>h _ ?_;let hd:∃o,h'.get? dx=some o:=let ⟨o,_,_,e',_⟩:=O'.ns;{(o),e'};refine I.write (x:=a) (e:=dx) (by rw[e];exact True.intro) (.inr ho) (λb q hb z=>(sb.2 b hb).trans z) hd ?_;refine{by rw[aG O.ne];exact ho,?_,O.ne,O'.obj,_,O'.ns,λg=>?_,λg hg=>?_}
 ·have:=ue f y fs;ext
 ·show lG ((bf f y fs).lookup g) (if g=f then some u else mA g)
  rw[ud]
  by_cases q:g=f
  ·rw[yK q,yK q];exact ry
  ·rw[yJ q,yJ q];exact r g
 ·by_cases q:g=f
  ·rw[q];exact(sU f y fs).1
  ·refine(sU f y fs).2 g (wi g λz=>hg ?_)
   show(if g=f then some u else mA g)=none;rw[yJ q];exact z
def Inv.made (I:Inv X pins U H s):Inv X pins U (upd (upd H ↑s (.own (↑s+1))) (↑s+1) (.ins C ↑s []))
  {s with heap:=(s.heap.push PySem.W.emptyDict).push (PySem.W.instObj C ↑s)}:=by
 let e1:(s.heap.push PySem.W.emptyDict).get? ↑s=some PySem.W.emptyDict:=yu s.heap rfl;let e2:((s.heap.push PySem.W.emptyDict).push (PySem.W.instObj C ↑s)).get? (↑s+1)=some (PySem.W.instObj C ↑s):=by
  have:=yu (s.heap.push PySem.W.emptyDict) (o:=PySem.W.instObj C ↑s) rfl
  rwa [xf] at this
 let e3:(s.heap.push PySem.W.emptyDict).Ns ↑s (λ_=>none):={PySem.W.emptyDict,#[],_,e1,rfl,(λe he=>absurd he (by simp)),λ_=>rfl}
 let I1:=I.laid (a:=↑s) (o:=.own (↑s+1)) (h':=s.heap.push PySem.W.emptyDict) (t':=s.toks) (λb u q=>yr _ q) (zk _) {_,e1};refine I1.laid (a:=↑s+1) (o:=.ins C ↑s []) (t':=s.toks) (λb u q=>yr _ q) (Nat.le_of_eq (xf _ _)) ?_;let ne:↑s≠↑s+1:=yg (xJ _);refine{by rw[aG ne,aE],yd _,ne,e2,λ_=>none,(Heap.Ns1.of_empty e3).at λo q=>yr _ q,λ_=>True.intro,λy hy=>absurd rfl hy}
def RJ (hb:attributeBase e f env (eval e env)=eval e env)
  (h:wpAny (model prog w) A (eval e env) (λo s₁=>wpAny (model prog w) A (getAttr o f true) Q E s₁) E s):wpAny (model prog w) A (eval (.Attribute e f pos) env) Q E s:=
 Attribute_any_ h (by rw[arm_eval_Attribute,hb])
end
def QL (K:yx) (ta:TE) (f:Str):TE:=λU H Q=>ta U H λx H1=>∃a C dx fs v,x=.ref a/\H1 a=some (.ins C dx fs)/\RX K C/\eL K C f/\fs.lookup f=some v/\Q v H1
def Wt (K:yx) (ta tv:TE) (f:Str):TS:=λD U H=>tv U H λy H1=>ta U H1 λx H2=>∃a C dx fs,x=.ref a/\H2 a=some (.ins C dx fs)/\RX K C/\eL K C f/\⇑fs<1000/\
 D.nx U (upd H2 a (.ins C dx (bf f y fs)))
section
variable {X:Cx} {o e value:Expr} {f:Str} {pos pos' tpos:Pos} {ta tv:TE}
def bj (he:PE X e ta) (hb:attributeBase e f X.env (eval e X.env)=eval e X.env):PE X (.Attribute e f pos) (QL X.K ta f):=by
 intro pins s U H Q I h;refine RJ hb (cQ (he s U H _ I h) λu s1 z0=>?_);let⟨x,H1,I1,rx,a,C,dx,fs,v,ex,ea,c,n,l,q⟩:=z0;subst ex;obtain rfl:u=Value.ref a:=rx;exact KU I1 ea c n l λu' s2 I2 ru=>{(v),H1,I2,ru,q}
def iS (ha:PE X o ta) (hv:PE X value tv) (hs:swapsWith value (some (.Attribute o f pos')) pos.line X.env=pure false):PS X (.Assign [.Attribute o f pos'] value pos) (Wt X.K ta tv f):=by
 intro pins s U H D I h;refine plainObj_wpAny_Assign_Attribute (cQ (hv s U H _ I h) λu s1 z0=>?_) hs;let⟨y,H1,I1,ry,q⟩:=z0;refine cQ (ha s1 U H1 _ I1 q) λov s2 z1=>?_;let⟨x,H2,I2,rx,a,C,dx,fs,ex,ea,c,n,l,q2⟩:=z1;subst ex;obtain rfl:ov=Value.ref a:=rx;exact Ka I2 ea c n l ry λs3 I3=>{U,_,I3,q2}
end
section
variable {X:Cx} {pins:List (vm×Obj)} {U:St} {H:Hp} {s:vg} {A:vj} {E:vf->vg->Prop} {Q:vf->vg->Prop} {c:vf} {b:Bool}
inductive tM (K:yx) (H:Hp):V->vf->Prop where
 | bN:tM K H .bN (.type "NoneType")
 | bl (x:Bool):tM K H (.bl x) (.type "bool")
 | int (i:Int):tM K H (.int i) (.type "int")
 | str (x:Str):tM K H (.str x) (.type "str")
 | Rw (x:UInt64):tM K H (.Rw x) (.type "float")
 | lst {a:vm} {xs:List V} (e:H a=some (.lst xs)):tM K H (.ref a) (.type "list")
 | iI {a:vm} {o:Obj} {xs:List V} (e:H a=some (.iI o (.lst xs))):tM K H (.ref a) (.type "list")
 | tup {a:vm} {xs:List V} (e:H a=some (.tup xs)):tM K H (.ref a) (.type "tuple")
 | dK {a:vm} {kvs:List (Key×V)} (e:H a=some (.dK kvs)):tM K H (.ref a) (.type "dict")
 | dT {a:vm} {kvs:List (List Key×V)} (e:H a=some (.dT kvs)):tM K H (.ref a) (.type "dict")
 | ins {a C dx:vm} {fs:List (Str×V)} (e:H a=some (.ins C dx fs)) (cl:RX K C) (ha:PySem.W.findIn K (.ref C) "__class__"= some (some (.builtin "object.__class__")))
   (hn:PySem.W.specialIn K (.builtin "object.__class__") "__get__"= some (some (.builtin "getset_descriptor.__get__"))) (htk:PySem.W.takesIn K (.builtin "object.__class__")=some true)
   (hm:PySem.W.mroIn K C (.type "object")=some true):tM K H (.ref a) (.ref C)
def M6 (I:Inv X pins U H s) (rx:RelV x u) (ty:tM X.K H x t) (e:PySem.W.kitOne X.K t c=some b) (h:∀tk,Q (.bool b) {s with toks:=tk}) :
  wpAny (model X.prog X.w) A (call (.builtin "isinstance") [u,c]) Q E s:=by
 cases ty with
 | bN=>cases(show u=Value.none from rx);exact xg PySem.W.kitx_none I.sW True.intro e (λz=>nomatch z) h
 | bl y=>cases(show u=Value.bool y from rx);exact xg PySem.W.kitx_bool I.sW True.intro e (λz=>nomatch z) h
 | int i=>let⟨t,q⟩:=(show∃t,u=Value.int i t from rx);cases q;exact xg PySem.W.kitx_int I.sW True.intro e (λz=>nomatch z) h
 | str y=>let⟨t,q⟩:=(show∃t,u=Value.str y t from rx);cases q;exact xg PySem.W.kitx_str I.sW True.intro e (λz=>nomatch z) h
 | Rw y=>let⟨t,q⟩:=(show∃t,u=Value.float y t from rx);cases q;exact xg PySem.W.kitx_float I.sW True.intro e (λz=>nomatch z) h
 | @lst a xs ea=>
  cases(show u=Value.ref a from rx);let⟨_,_,n,_,h1⟩:=(show cD X.prog X.w H s.heap a (.lst xs) from I.cx a _ ea)
  exact xg PySem.W.kitx_list I.sW {_,h1,rfl} e (λz=>nomatch z) h
 | @iI a ob xs ea=>
  cases(show u=Value.ref a from rx);let⟨_,_,_,n,_,h1⟩:=(show cD X.prog X.w H s.heap a (.iI ob (.lst xs)) from I.cx a _ ea)
  exact xg PySem.W.kitx_list I.sW {_,h1,rfl} e (λz=>nomatch z) h
 | @tup a xs ea=>
  cases(show u=Value.ref a from rx);let⟨_,_,_,p⟩:=(show cD X.prog X.w H s.heap a (.tup xs) from I.cx a _ ea)
  let⟨o,h1,h2,_⟩:=p;exact xg PySem.W.kitx_tuple I.sW {(o),h1,h2} e (λz=>nomatch z) h
 | @dK a kvs ea=>
  cases(show u=Value.ref a from rx);let⟨_,_,vs,_,p⟩:=(show cD X.prog X.w H s.heap a (.dK kvs) from I.cx a _ ea)
  let⟨o,es,ep,h1,h2,_⟩:=p;exact xg PySem.W.kitx_dict I.sW {(o),h1,h2.1} e (λz=>nomatch z) h
 | @dT a kvs ea=>
  cases(show u=Value.ref a from rx);let⟨_,_,xs,_,o,es,ep,h1,h2,_⟩:=(show cD X.prog X.w H s.heap a (.dT kvs) from I.cx a _ ea)
  exact xg PySem.W.kitx_dict I.sW {(o),h1,h2.1} e (λz=>nomatch z) h
 | @ins a C dx fs ea cl ha hn htk hm=>
  cases(show u=Value.ref a from rx);let⟨mA,O,_⟩:=FI I.cx ea;let⟨od,J,_⟩:=O.look;exact xg (PySem.W.kitx_own (cl.get _) cl.hd ha hn htk hm) I.sW J e (λz=>nomatch z) h
end
end L2
namespace L2
open PySem PySem.Spec PyProof.Rows
structure fo (k:Nat) (A:vj):Prop where
 hd:A.handled=none
 dp:A.depth+3*k+5<recursionLimit
 un:A.units+16*k+200<cLine
def fo.mono (r:fo k A) (h:j<=k):fo j A:={r.hd,by have:=r.dp;ext,by have:=r.un;ext}
theorem fo.deeper (r:fo (k+1) A) (env:Env):fo k (A.deeper env):=
 {r.hd,by have:=r.dp;show A.depth+1+3*k+5<_;ext,by have:=r.un;show A.units+3+16*k+200<_;ext}
def KO {A:vj} {C:vm} {us:List vf} {kw:List (Str×vf)}:(A.under (.builtin "type.__call__" {.ref C::us,kw})).depth=A.depth+1:=by
 first | rfl | simp[Around.under,Code.weight,Code.isCreation,Code.isGuard,Code.isCaller,Code.frames,Code.isFrame,guardIds]
def KN {A:vj} {C:vm} {us:List vf} {kw:List (Str×vf)}:(A.under (.builtin "type.__call__" {.ref C::us,kw})).units=A.units+1:=by
 first | rfl | simp[Around.under,Code.cUnits,Code.frames,Code.isFrame]
def fo.make (r:fo (k+1) A) (C:vm) (us:List vf) (kw:List (Str×vf)):fo k (A.under (.builtin "type.__call__" {.ref C::us,kw})):=
 {r.hd,by have:=r.dp;rw[KO];ext,by have:=r.un;rw[KN];ext}
theorem fo.depth (r:fo k A):A.depth<recursionLimit:=by have:=r.dp;ext
theorem fo.units (r:fo k A):A.units+64<cLine:=by have:=r.un;ext
def d4:TA:=λ_ H Q=>Q [] H
def bD (ta:TE) (tr:TA):TA:=λU H Q=>ta U H λx H1=>tr U H1 λxs H2=>Q (x::xs) H2
section
variable {X:Cx} {e:Expr} {es:List Expr} {te:TE} {t:TA} {pos:Pos}
def ag:PA X [] d4:=λ_ _ _ _ H Q I h=>vd {[],H,I,.nil,h}
def af (ha:PE X e te) (hr:PA X es t) (hs:starEach (e::es) X.env=(false,eval e X.env)::starEach es X.env<|>qe_):PA X (e::es) (bD te t):=by
 intro pos pins s U H Q I h;rw[hs];show wpAny _ _ (spliced ((false,eval e X.env)::backTo pos (starEach es X.env))) _ _ s;refine wx (cQ (ha s U H _ I h) λu s1 z0=>?_);let⟨x,H1,I1,r1,q1⟩:=z0;refine cQ (hr s1 U H1 _ I1 q1) λus s2 z0=>?_;let⟨xs,H2,I2,r2,q2⟩:=z0;exact{x::xs,H2,I2,.cons r1 r2,q2}
def Ao (t:TA):TE:=λU H Q=>t U H λxs H1=>⇑xs<=sizeLine/\∀p,H1 p=none->Q (.ref p) (upd H1 p (.tup xs))
def JZ (t:TA):TE:=λU H Q=>t U H λxs H1=>⇑xs<=sizeLine/\∀p,H1 p=none->Q (.ref p) (upd H1 p (.lst xs))
def aW {x1} (h:PA X es t):PE X (.Tuple es x1 pos) (Ao t):=by
 intro pins s U H Q I hq;refine wpAny_Tuple_spliced (cQ (h s U H _ I hq) λus s1 z0=>?_);let⟨xs,H1,I1,r,z,q⟩:=z0;refine{by rw[<-⇑r];exact z,?_};let hf:H1 ↑s1=none:=I1.cx.fresh (zk _);refine{.ref ↑s1,upd H1 ↑s1 (.tup xs),I1.laid (t':=s1.toks) (λb u e=>yr _ e) (zk _) ?_,rfl,q _ hf};exact{z,us,r,{_,yu _ rfl,rfl,_,rfl}}
def bg (h:PA X es t):PE X (.List es pos) (JZ t):=by
 intro pins s U H Q I hq;refine wpAny_List_spliced (cQ (h s U H _ I hq) λus s1 z0=>?_);let⟨xs,H1,I1,r,z,q⟩:=z0;refine{by rw[<-⇑r];exact z,?_};let hf:H1 ↑s1=none:=I1.cx.fresh (zk _);refine{.ref ↑s1,upd H1 ↑s1 (.lst xs),I1.laid (t':=s1.toks) (λb u e=>yr _ e) (zk _) ?_,rfl,q _ hf};exact{z,us,0,r,yu _ rfl}
end
abbrev Sp:=List V->Hp->VK->XK->Prop
abbrev Mq:=List Env->Hp->vg->XK->vf->vg->Prop
structure JJ (P:vh) (w:vi) (K:yx) (mg:Str->Option vf) (base:vn) (A:vj) (outer:List Env) (s:vg) (H:Hp):Prop where
 frames:A.frames=some outer
 mod:Mod K mg base
 bs:∀b o,base.get? b=some o->s.heap.get? b=some o/\H b=none
 N4:base.objs.size<=↑s
 oh:s.heap.FunFrames base outer
 KZ:∀b∈rE outer,H b=none
 cx:pP P w H s.heap
 bare:AllBare s.gens
inductive CE (outer:List Env) (P:vh) (w:vi) (H:Hp) (s:vg) (Q:VK) (u:vf) (s':vg):Prop
 | mk (v:V) (H':Hp) (_:s'.os=s.os) (_:AllBare s'.gens) (_:Un (rE outer) [] H H' s.heap s'.heap) (_:pP P w H' s'.heap) (_:RelV v u) (_:Q v H')
def CR (CX:Mq) (outer:List Env) (P:vh) (w:vi) (H:Hp) (s:vg) (Q:VK) (E:XK) (r:Result) (s':vg):Prop:=
 match r with
 | .ok (.ret u)=>CE outer P w H s Q u s'
 | .ok _=>False
 | .error e=>CX outer H s E e s'
structure dy (P:vh) (w:vi) (K:yx) (mg:Str->Option vf) (base:vn) (CX:Mq) (k:Nat) (f:vm) (fd:vk) (ps:List Str) (sp:Sp):Prop where
 len:∀vs H Q E,sp vs H Q E->⇑vs=⇑ps
 run:∀(A:vj) (outer:List Env) (s:vg) (H:Hp) (args:Args) (us:List vf) (vs:List V) (Q:VK) (E:XK),fo k A->JJ P w K mg base A outer s H->BindsTo s fd args (ps.zip us)->Vals vs us->sp vs H Q E->
  codeAny (model P w) A (.call (.ref f) args) (CR CX outer P w H s Q E) s
theorem dy.mono {P:vh} {w:vi} {K:yx} {mg:Str->Option vf} {base:vn} {CX:Mq} {j k:Nat} {f:vm} {fd:vk} {ps:List Str} {sp:Sp} (F:dy P w K mg base CX j f fd ps sp) (h:j<=k) :
  dy P w K mg base CX k f fd ps sp:={F.len,λA outer s H args us vs Q E hr=>F.run A outer s H args us vs Q E (hr.mono h)}
def JJ.make {P:vh} {w:vi} {K:yx} {mg:Str->Option vf} {base:vn} {A:vj} {outer:List Env} {s:vg} {H:Hp} (e:JJ P w K mg base A outer s H) (C:vm) (us:List vf) (kw:List (Str×vf)) :
  JJ P w K mg base (A.under (.builtin "type.__call__" {.ref C::us,kw})) outer s H:={by first | exact e.frames | (simpa[Around.under,Code.envs,Code.isFrame,pushEnvs] using e.frames),e.mod,e.bs,e.N4,e.oh,e.KZ,e.cx,e.bare}
section
variable {X:Cx} {pins:List (vm×Obj)} {U:St} {H:Hp} {s s':vg}
def Inv.Ub (I:Inv X pins U H s):JJ X.prog X.w X.K X.mg X.base X.A X.stack s H:=
 {I.ok.frames,I.ok.mod,I.bs,zK I.ok.N4 I.sz,I.stack,I.vV,I.cx,I.bare}
def Inv.after (I:Inv X pins U H s) (h:CE X.stack X.prog X.w H s Q u s'):EP X pins U Q u s':=by
 let⟨v,H',os,bare,un,cx,r,q⟩:=h;let⟨hh,g,d,t,os'⟩:=s';obtain rfl:os'=s.os:=os;exact{v,H',I.call (h':=hh) (g':=g) (d':=d) (t':=t) (ch:=[]) un cx bare (λb z=>absurd z (by simp)),r,q}
end
def fq (sp:Sp) (dvs:List V) (E:XK) (t:TA):TE:=λU H Q=>t U H λvs H1=>sp (vs++dvs) H1 Q E
def UP (C:vm) (sp:Sp) (dvs:List V) (E:XK) (t:TA):TE:=λU H Q=>t U H λvs H1=>∀x dx,H1 x=none->H1 dx=none->dx≠x->
 sp (.ref x::(vs++dvs)) (upd (upd H1 dx (.own x)) x (.ins C dx [])) (λv H2=>v=.bN/\Q (.ref x) H2) E
def Binds (K:yx) (fd:vk) (ps:List Str) (ds:List vf):Prop:=
 ∀(s:vg) (us:List vf),K.In s.heap->⇑(us++ds)=⇑ps->BindsTo s fd {us,[]} (ps.zip (us++ds))
def Binds.all {K:yx} {fd:vk} {ps:List Str} (h:∀us:List vf,⇑us=⇑ps->bindArgs fd {us,[]}=pure (ps.zip us)):Binds K fd ps []:=λs us _ hl=>by
 rw[zT] at hl ⊢;exact .of_eq (h us hl)
def Passes (CX:Mq) (X:Cx) (E:XK):Prop:=∀(pins:List (vm×Obj)) (U:St) (H:Hp) (s:vg) (e:vf) (s':vg),Inv X pins U H s->CX X.stack H s E e s'->X.xe e s'
section
variable {X:Cx} {CX:Mq} {k:Nat} {f C:vm} {fd:vk} {ps:List Str} {sp:Sp} {dvs:List V} {ds:List vf} {E:XK} {x m:Str} {p pos apos:Pos} {e o:Expr} {es:List Expr} {ta:TE} {t:TA}
def OR (F:dy X.prog X.w X.K X.mg X.base CX k f fd ps sp) (hr:fo k X.A) (hb:Binds X.K fd ps ds) (hd:Vals dvs ds) (hx:Passes CX X E)
  (I:Inv X pins U H s) (r:Vals vs us) (h:sp (vs++dvs) H Q E):wpAny (model X.prog X.w) X.A (call (.ref f) us) (EP X pins U Q) X.xe s:=by
 let r2:Vals (vs++dvs) (us++ds):=r.append hd;let hl:⇑(us++ds)=⇑ps:=by rw[<-⇑r2];exact F.len _ _ _ _ h
 refine wpAny_call (xN (F.run X.A X.stack s H {us,[]} (us++ds) (vs++dvs) Q E hr I.Ub (hb s us I.sW hl) r2 h) λr s' hq=>?_);cases r with
 | error e=>exact hx pins U H s e s' I hq
 | ok fl=>
  cases fl with
  | ret u=>exact I.after hq
  | next=>exact False.elim hq
  | brk=>exact False.elim hq
  | cont=>exact False.elim hq
def Ra (F:dy X.prog X.w X.K X.mg X.base CX k f fd ps sp) (hr:fo k X.A) (hg:Gl X x) (hm:X.mg x=some (.ref f)) (hk:PySem.W.keepIn X.K (.ref f)=true) (hb:Binds X.K fd ps ds) (hd:Vals dvs ds) (hx:Passes CX X E)
  (ha:PA X (e::es) t) (hdb:(x == ("__debug__": Str))=false<|>qb_) (he:starEach (e::es) X.env=(false,eval e X.env)::starEach es X.env<|>qe_) (hpl:(backTo pos (starEach es X.env)).any (·.1)=false<|>qe_) :
  PE X (.Call (.Name x p) (e::es) [] pos) (fq sp dvs E t):=by
 intro pins s U H Q I h;refine xj (nL I hg hm ?_ hdb);refine wZ (h₀:=X.base) I.ok.mod.Uw hk (cQ (ha s U H _ I h) λus s1 z0=>?_) he hpl;let⟨vs,H1,I1,r,q⟩:=z0;refine{I1.sW,?_};exact OR F hr hb hd hx I1 r q
structure Mk (K:yx) (C f:vm):Prop where
 makes:PySem.W.makesIn K C=true
 init:PySem.W.findIn K (.ref C) "__init__"= some (some (.ref f))
 fn:PySem.W.isFn K (.ref f)=true
 kp:PySem.W.keepIn K (.ref C)=true
def OQ (M:Mk X.K C f) (F:dy X.prog X.w X.K X.mg X.base CX k f fd ps sp) (hr:fo (k+1) X.A) (hb:Binds X.K fd ps ds) (hd:Vals dvs ds)
  (hx:Passes CX X E) (I:Inv X pins U H s) (r:Vals vs us)
  (h:∀x dx,H x=none->H dx=none->dx≠x->sp (.ref x::(vs++dvs)) (upd (upd H dx (.own x)) x (.ins C dx [])) (λv H2=>v=.bN/\Q (.ref x) H2) E) :
  wpAny (model X.prog X.w) X.A (call (.ref C) us) (EP X pins U Q) X.xe s:=by
 let hq:=h (↑s+1) ↑s (I.cx.fresh (xV _)) (I.cx.fresh (zk _)) (yg (xJ _));let I2:=Inv.made (C:=C) I;let r2:Vals (V.ref (↑s+1)::(vs++dvs)) (Value.ref (↑s+1)::(us++ds)):=.cons rfl (r.append hd);let hl:⇑(Value.ref (↑s+1)::us++ds)=⇑ps:=by
  let e:=⇑r2;rw[F.len _ _ _ _ hq] at e;exact e.symm
 refine wpAny_call (Pw (f:=f) I.sW M.makes M.init (wX.mp M.fn) (xN (F.run _ X.stack _ _ {Value.ref (↑s+1)::us,[]} (Value.ref (↑s+1)::(us++ds)) _ _ E (hr.make C us [])
  (I2.Ub.make C us []) (hb _ (Value.ref (↑s+1)::us) I2.sW hl) r2 hq) λr s' hq'=>?_))
 cases r with
 | error e=>exact hx pins U _ _ e s' I2 hq'
 | ok fl=>
  cases fl with
  | ret u=>
   let⟨v,H',I3,rv,ev,q3⟩:=I2.after hq';subst ev;exact{rv,{V.ref (↑s+1),H',I3,rfl,q3}}
  | next=>exact False.elim hq'
  | brk=>exact False.elim hq'
  | cont=>exact False.elim hq'
def Pf (M:Mk X.K C f) (F:dy X.prog X.w X.K X.mg X.base CX k f fd ps sp) (hr:fo (k+1) X.A) (hg:Gl X x) (hm:X.mg x=some (.ref C)) (hb:Binds X.K fd ps ds) (hd:Vals dvs ds) (hx:Passes CX X E)
  (hdb:(x == ("__debug__": Str))=false<|>qb_):PE X (.Call (.Name x p) [] [] pos) (UP C sp dvs E d4):=by
 intro pins s U H Q I h;refine xj (nL I hg hm ?_ hdb);exact PySem.W.callWith_K0 I.sW M.kp (OQ (us:=[]) M F hr hb hd hx I .nil h)
end
section
variable {X:Cx} {CX:Mq} {k:Nat} {f C:vm} {fd:vk} {ps ks:List Str} {sp:Sp} {E:XK} {x m:Str} {p pos apos kpos:Pos} {e o:Expr} {es:List Expr} {kws:List Keyword} {te ta:TE} {t tk:TA} {nm:Option Str}
variable {g:List vf->List vf->List vf} {gV:List V->List V->List V}
end
structure fZ (N P:List Str) (sc:Scope):Prop where
 kind:sc.kind=.function
 co:sc.isCoroutine=false
 gen:sc.isGenerator=false
 nd:N.Nodup
 pre:N.take P.length=P
 par:∀x∈P,sc.names.lookup x=some .local\/sc.names.lookup x=some .cell
 TB:∀y∈sc.names,y.2≠.free
theorem Ep {kindOf:Str->Option NameKind} {x:Str}:∀{binds:List (Str×vf)} {m:Str->Option vf},(∀v,(x,v)∉binds)->bindL kindOf binds m x=m x
 | [],_,_=>rfl
 | (n,v)::r,m,h=>by
  unfold bindL;rw[Ep λw hw=>h w (zm _ hw)];split
  ·have:x≠n:=by rintro rfl;exact h v zp
   simp[this]
  ·rfl
theorem Es {kindOf:Str->Option NameKind} {x:Str}:∀{binds:List (Str×vf)} {m:Str->Option vf},(∀v,(x,v)∉binds)->bindC kindOf binds m x=m x
 | [],_,_=>rfl
 | (n,v)::r,m,h=>by
  unfold bindC;rw[Es λw hw=>h w (zm _ hw)];split
  ·rfl
  ·have:x≠n:=by rintro rfl;exact h v zp
   simp[this]
theorem Er {kindOf:Str->Option NameKind} {x:Str} {v:vf}:∀{P:List Str} {vs:List vf} {i:Nat} {m:Str->Option vf},P.Nodup->P[i]?=some x->vs[i]?=some v->kindOf x=some .local->
  bindL kindOf (P.zip vs) m x=some v
 | [],_,_,_,_,h,_,_=>by simp at h
 | _::_,[],_,_,_,_,h,_=>by simp at h
 | p::P,w::vs,0,m,nd,h1,h2,hk=>by
  simp at h1 h2;subst h1;subst h2;show bindL kindOf ((p,w)::P.zip vs) m p=_;unfold bindL;rw[Ep λv hv=>(ya.mp nd).1 (wm hv).1,yK hk];simp
 | p::P,w::vs,i+1,m,nd,h1,h2,hk=>by
  show bindL kindOf ((p,w)::P.zip vs) m x=_;unfold bindL;exact Er (i:=i) (ya.mp nd).2 (by simpa using h1) (by simpa using h2) hk
theorem Et {kindOf:Str->Option NameKind} {x:Str} {v:vf}:∀{P:List Str} {vs:List vf} {i:Nat} {m:Str->Option vf},P.Nodup->P[i]?=some x->vs[i]?=some v->kindOf x≠some .local->
  bindC kindOf (P.zip vs) m x=some v
 | [],_,_,_,_,h,_,_=>by simp at h
 | _::_,[],_,_,_,_,h,_=>by simp at h
 | p::P,w::vs,0,m,nd,h1,h2,hk=>by
  simp at h1 h2;subst h1;subst h2;show bindC kindOf ((p,w)::P.zip vs) m p=_;unfold bindC;rw[Es λv hv=>(ya.mp nd).1 (wm hv).1,yJ hk];simp
 | p::P,w::vs,i+1,m,nd,h1,h2,hk=>by
  show bindC kindOf ((p,w)::P.zip vs) m x=_;unfold bindC;exact Et (i:=i) (ya.mp nd).2 (by simpa using h1) (by simpa using h2) hk
noncomputable def start (N:List Str) (vs:List V):St:=vs.map some++List.replicate (N.length-⇑vs) none
noncomputable def jS (CX:Mq) (P:vh) (w:vi) (K:yx) (mg:Str->Option vf) (base:vn) (N:List Str) (qual:Str) (scope:Scope) (f:vm) (cd:vf) (A:vj) (outer:List Env) (s:vg) (H:Hp) (E:XK):Cx where
 prog:=P
 w:=w
 K:=K
 mg:=mg
 base:=base
 A:=A.deeper (envOfC qual scope ↑s f cd)
 N:=N
 s₀:=s
 H₀:=H
 env:=envOfC qual scope ↑s f cd
 outer:=outer
 stack:=envOfC qual scope ↑s f cd::outer
 ex:=[]
 calm:=true
 fn:=λ_=>true
 pn:=[]
 xe:=λe s'=>wpAny (model P w) (A.deeper (envOfC qual scope ↑s f cd)) (leaving (envOfC qual scope ↑s f cd) e) (λ_ s''=>CX outer H s E e s'') (λe' s''=>CX outer H s E e' s'') s'
def Jm {sc:Scope} {n:Nat} {x:Str} (h:sc.names.lookup x=some .cell):∃c,(cellsFrom n sc.names []).lookup x=some c:=by
 let q:=PySem.W.cellsFrom_some sc.names n [] (.inl h);exact Option.isSome_iff_exists.mp q
def M7 {CX:Mq} {P:vh} {w:vi} {K:yx} {mg:Str->Option vf} {base:vn} {N ps:List Str} {qual:Str} {scope:Scope} {f:vm} {cd:vf} {A:vj} {outer:List Env} {s s1:vg} {H:Hp} {E:XK} {us:List vf} {vs:List V}
  (S:fZ N ps scope) (hd:A.handled=none) (e0:JJ P w K mg base A outer s H) (hl:⇑vs=⇑ps) (r:Vals vs us)
  (x:InCallC s ↑s (bindL (envOfC qual scope ↑s f cd).kindOf (ps.zip us) λ_=>none) (cellsFrom (↑s+1) scope.names []) (bindC (envOfC qual scope ↑s f cd).kindOf (ps.zip us) λ_=>none) s1) :
  Inv (jS CX P w K mg base N qual scope f cd A outer s H E) [] (start N vs) H s1:=by
 let hpl:⇑ps<=N.length:=by have:=yV List.length S.pre;rw[zO] at this;ext
 let⟨h1,tk,rfl,hk⟩:=x.done;let noA:∀b:vm,b∉(jS CX P w K mg base N qual scope f cd A outer s H E).ex:=λb z=>absurd (show b∈([]:List vm) from z) (by simp);refine{{e0.mod,S.kind,rfl,rfl,zk _,λy z c h1 h2=>?_,λy hy=>?_,λy c _ h=>?_,λ_=>hd,Around.frames_deeper e0.frames,.inr {(rfl),rfl},λb z=>absurd z (noA b),e0.bs,e0.N4,λb _ _=>noA b,λb z=>absurd z (noA b),e0.oh,e0.KZ},
  rfl,e0.bare,Un.kept hk,{_,x.toInCall.ns,λi y v h1 h2 h3=>?_},λy c h=>{_,x.cell y c h},e0.cx.fresh (zk _),λy c h=>?_,λp hp=>absurd (show p∈([]:List (vm×Obj)) from hp) (by simp),e0.cx.kept hk,?_}
 ·exact name_of_addr x.apart (wd h1) (wd h2)
 ·let hy:scope.names.lookup y=some .cell\/scope.names.lookup y=some .free:=hy
  rcases hy with hy | hy
  ·exact Jm hy
  ·exact absurd rfl (S.TB _ (wd hy))
 ·exact ye (x.above y c (wd h))
 ·let hi:i<⇑vs:=by
   unfold start at h2
   by_cases hi:i<⇑vs
   ·exact hi
   ·rw[zX (by simpa using hi)] at h2
    rw[List.getElem?_replicate] at h2;split at h2 <;> cases h2
  let ha:vs[i]?=some v:=by
   unfold start at h2;rw[wc (by simpa using hi),zI] at h2;cases e:vs[i]? with
   | none=>rw[e] at h2;cases h2
   | some a=>rw[e] at h2;cases h2;rfl
  let⟨u,hu,rv⟩:=r.get ha;let hp:ps[i]?=some y:=by
   rw[<-S.pre,List.getElem?_take_of_lt ()];exact h1
  let ndP:ps.Nodup:=by rw[<-S.pre];exact S.nd.sublist (List.take_sublist _ _)
  refine{u,rv,?_};rcases S.par y (zA hp) with k | k
  ·exact .inl {k,Er ndP hp hu k}
  ·let⟨c,e⟩:=Jm (n:=↑s+1) k
   refine .inr {.inl k,c,e,?_};let q:=x.cell y c e;rw[Et ndP hp hu (by show scope.names.lookup y≠_;rw[k];decide)] at q;exact q
 ·exact e0.cx.fresh (ye (x.above y c (wd h)))
 ·unfold start
  show _=N.length;rw[zg,za,List.length_replicate];ext
def Si {CX:Mq} {P:vh} {w:vi} {K:yx} {mg:Str->Option vf} {base:vn} {k:Nat} {f:vm} {name qual:Str} {params:Arguments} {body:List Stmt} {scope:Scope} {dV kV doc pm cdv ct oc:vf} {an od:Option vm}
  {osl:Array (Option vf)} {N ps:List Str} {sp:Sp} (lk:K.lookup f=some {oc,od,.func (PySem.W.fnOf name qual params body scope dV kV doc pm an cdv ct),osl}) (hcd:PySem.W.codeIn K cdv qual=true) (S:fZ N ps scope)
  (len:∀vs H Q E,sp vs H Q E->⇑vs=⇑ps)
  (hbody:∀(A:vj) (outer:List Env) (s:vg) (H:Hp) (vs:List V) (Q:VK) (E:XK),fo k (A.deeper (envOfC qual scope ↑s f cdv))->sp vs H Q E->
   ∃t,DH (jS CX P w K mg base N qual scope f cdv A outer s H E) body t/\t {nx:=λ_ H'=>Q .bN H',rt:=Q} (start N vs) H) :
  dy P w K mg base CX (k+1) f (PySem.W.fnOf name qual params body scope dV kV doc pm an cdv ct) ps sp:=by
 refine{len,λA outer s H args us vs Q E hr e0 hb r hsp=>?_};let hl:=len _ _ _ _ hsp;let KX:K.In s.heap:=e0.mod.Uw.keeps λb o e=>(e0.bs b o e).1;let lim:s.heap.NoLimit:=e0.mod.nolimit.keeps λb o e=>(e0.bs b o e).1;let hkind:∀y∈ps.zip us,scope.names.lookup y.1=some .local\/(scope.names.lookup y.1=some .cell/\((cellsFrom (↑s+1) scope.names []).lookup y.1).isSome=true):=λ⟨n,v⟩ hy=>by
  rcases S.par n (wm hy).1 with q | q
  ·exact .inl q
  ·exact .inr {q,PySem.W.cellsFrom_some _ _ _ (.inl q)}
 refine codeAny_call_function hr.depth (KX _ _ lk) rfl S.co S.gen rfl (PySem.W.codeRec_of KX hcd) (hb _ _ _ _ ?_);refine wpAny_newFunctionEnv_cells S.kind hkind λenv he s1 x=>?_;subst he;refine{lim.keeps x.toInCall.keep,codeAny_func ?_};let⟨t,ht,hq⟩:=hbody A outer s H vs Q E (hr.deeper _) hsp;let I:Inv (jS CX P w K mg base N qual scope f cdv A outer s H E) [] (start N vs) H s1:=M7 S hr.hd e0 hl r x;refine y7 (ht s1 (start N vs) H _ I hq) (λfl s' hs=>?_) λe s' hs=>hs;let fin:∀{U':St} {H':Hp} {v:V} {u:vf},Inv (jS CX P w K mg base N qual scope f cdv A outer s H E) [] U' H' s'->RelV v u->Q v H'->CE outer P w H s Q u s':=
  λ{U' H' v u} J rv q=>{(v),H',J.os,J.bare,J.base,J.cx,rv,q}
 cases fl with
 | ret u=>
  let⟨v,U',H',J,rv,q⟩:=hs;exact fin J rv q
 | next=>
  let⟨U',H',J,q⟩:=hs;exact fin (v:=V.bN) (u:=Value.none) J rfl q
 | brk=>
  let⟨_,_,_,q⟩:=hs;exact False.elim q
 | cont=>
  let⟨_,_,_,q⟩:=hs;exact False.elim q
end L2
namespace L2
open PySem PySem.Spec PyProof.Rows
section
variable {X:Cx} {x:Str} {p pos:Pos} {e:Expr} {es:List Expr} {t:TA} {id T:String} {r:List V->Hp->VK->Prop}
def N3 (r:List V->Hp->VK->Prop) (t:TA):TE:=λU H Q=>t U H λvs H1=>r vs H1 Q
def HV (hc:fH X (.builtin id) r) (hg:Gl X x) (hm:X.mg x=none) (hv:bootBuiltins x=some (.builtin id)) (ha:PA X (e::es) t) (hn:x≠ "__name__"<|>qb_) (hdb:(x == ("__debug__": Str))=false<|>qb_)
  (he:starEach (e::es) X.env=(false,eval e X.env)::starEach es X.env<|>qe_) (hpl:(backTo pos (starEach es X.env)).any (·.1)=false<|>qe_):PE X (.Call (.Name x p) (e::es) [] pos) (N3 r t):=by
 intro pins s U H Q I h;refine xj (jM I hg hm hv ?_ hn hdb);refine PyProof.Rows.callWith_builtin1 (cQ (ha s U H _ I h) λus s1 z0=>?_) he hpl;let⟨vs,H1,I1,r1,q1⟩:=z0;exact hc pins s1 U H1 vs us Q I1 r1 q1
def MU (hc:fH X (.type T) r) (hg:Gl X x) (hm:X.mg x=none) (hv:bootBuiltins x=some (.type T)) (ha:PA X (e::es) t) (hn:x≠ "__name__"<|>qb_) (hdb:(x == ("__debug__": Str))=false<|>qb_)
  (he:starEach (e::es) X.env=(false,eval e X.env)::starEach es X.env<|>qe_) (hpl:(backTo pos (starEach es X.env)).any (·.1)=false<|>qe_):PE X (.Call (.Name x p) (e::es) [] pos) (N3 r t):=by
 intro pins s U H Q I h;refine xj (jM I hg hm hv ?_ hn hdb);refine yI (cQ (ha s U H _ I h) λus s1 z0=>?_) he hpl;let⟨vs,H1,I1,r1,q1⟩:=z0;exact hc pins s1 U H1 vs us Q I1 r1 q1
end
end L2
namespace HT
open PySem PyProof.Rows
section
open PySem.SeqAt
open PySem.AutoSeq1 (wpAny_loadPart')
open PySem.MeetsSeq PySem.MeetsSeq2 PySem.MeetsSeq3
end
section
variable {prog:vh} {w:vi} {A:vj} {E:vf->vg->Prop} {s:vg}
noncomputable def eZ (n d:Nat):Option Int->Nat
 | none=>d
 | some v=>if v<0 then(v+(n:Int)).toNat else min v.toNat n
def HE (n d:Nat):eZ n d none=d:=rfl
def S6 (n d:Nat) (hd:d<=n) (o:Option Int):eZ n d o<=n:=by
 cases o with
 | none=>exact hd
 | some v=>
  show(if v<0 then(v+(n:Int)).toNat else min v.toNat n)<=n
  by_cases hv:v<0
  ·rw[yK hv];ext
  ·rw[yJ hv];exact Nat.min_le_right _ _
def Mh (v:Int) (n d:Nat):(if v<0 then max (v+(n:Int)) 0 else min v (n:Int))=((eZ n d (some v):Nat):Int):=by
 show(if v<0 then max (v+(n:Int)) 0 else min v (n:Int))=(((if v<0 then(v+(n:Int)).toNat else min v.toNat n):Nat):Int)
 by_cases hv:v<0
 ·simp only[yK hv];ext
 ·simp only[yJ hv];ext
def Lq (lo hi:Option Int) (n:Nat):Builtin.Slice.sliceAdjust lo hi 1 (n:Int)=(((eZ n 0 lo:Nat):Int),((eZ n n hi:Nat):Int)):=by
 let h1:¬((1:Int)<0):=()
 unfold Builtin.Slice.sliceAdjust;simp only[h1,wg];refine Prod.ext ?_ ?_
 ·cases lo with
  | none=>rfl
  | some v=>exact Mh v n 0
 ·cases hi with
  | none=>rfl
  | some v=>exact Mh v n n
def Ks (i j:Nat):Builtin.Slice.slicePlaces (i:Int) (j:Int) 1=j-i:=by
 unfold Builtin.Slice.slicePlaces;let h1:(1:Int)>0:=()
 simp only[h1,wV,Int.ediv_one];split <;> ext
def Aw (p:IsPart v o) (h:Q o s):wpAny (model prog w) A (Builtin.Slice.slicePartIndex v) Q E s:=by
 cases p with
 | none=>exact slicePart_none h
 | int i t=>exact slicePart_int h
def j8 {sl:vm} {vl vu:vf} {lo hi:Option Int} {n:Nat} {Q:Int×Int×Nat->vg->Prop} (hs:s.heap.IsSliceOf sl vl vu .none) (pl:IsPart vl lo) (pu:IsPart vu hi)
  (h:Q (((eZ n 0 lo:Nat):Int),1,eZ n n hi-eZ n 0 lo) s):wpAny (model prog w) A (Builtin.Slice.sliceApplied (.ref sl) (pure (n:Int))) Q E s:=by
 let⟨os,hos,hcs,hds⟩:=id hs;unfold Builtin.Slice.sliceApplied Builtin.Slice.sliceFields;refine yq (yq (yW hos hds (x:=vl) rfl (yq (yW hos hds (x:=vu) rfl (yq (yW hos hds (x:=.none) rfl (yt ?_)))))));refine yq (slicePart_none ?_);show wpAny _ _ (if((1:Int) == 0)=true then _ else _) _ _ s;rw[yJ ∅];refine yq (Aw pl (yq (Aw pu (yq (yt ?_)))));show wpAny _ _ (match Builtin.Slice.sliceAdjust lo hi 1 (n:Int) with | (lo,hi)=>pure (lo,(1:Int),Builtin.Slice.slicePlaces lo hi 1)) _ _ s;rw[Lq lo hi n];show wpAny _ _ (pure (((eZ n 0 lo:Nat):Int),(1:Int),Builtin.Slice.slicePlaces ((eZ n 0 lo:Nat):Int) ((eZ n n hi:Nat):Int) 1)) _ _ s;rw[Ks];exact yt h
def Pa (xs:Array vf) (i k:Nat):((List.range k).filterMap λ(m:Nat)=>xs[((i:Int)+(m:Int)*1).toNat]?).toArray=((xs.toList.drop i).take k).toArray:=by
 let e:(λ(m:Nat)=>xs[((i:Int)+(m:Int)*1).toNat]?)=λm=>xs[i+m]?:=by
  funext m
  have:((i:Int)+(m:Int)*1).toNat=i+m:=()
  rw[this]
 rw[e];have:=pick_run xs i k;rw[List.filterMap_map] at this;let e2:((λx=>xs[x]?)∘λx=>i+x)=λm=>xs[i+m]?:=rfl;rw[e2] at this;rw[this]
def qU {t sl:vm} {items:Array vf} {vl vu:vf} {lo hi:Option Int} {Q:vf->vg->Prop} (ht:IsTup s.heap t items) (hs:s.heap.IsSliceOf sl vl vu .none) (pl:IsPart vl lo) (pu:IsPart vu hi)
  (hw:¬(eZ items.size 0 lo=0/\eZ items.size items.size hi=items.size))
  (h:Q (.ref ↑s) {s with heap:=s.heap.push {cls:=.type "tuple",data:=.seq ((items.toList.drop (eZ items.size 0 lo)).take (eZ items.size items.size hi-eZ items.size 0 lo)).toArray}})
  (hsz:items.size<=sizeLine):wpAny (model prog w) A (getItem (.ref t) (.ref sl)) Q E s:=by
 let htake:sizeOk (.seq ((items.toList.drop (eZ items.size 0 lo)).take (eZ items.size items.size hi-eZ items.size 0 lo)).toArray):=by
  show((items.toList.drop (eZ items.size 0 lo)).take (eZ items.size items.size hi-eZ items.size 0 lo)).toArray.size<=sizeLine;rw[zZ,zO,xw,yM];ext
 let hj:eZ items.size items.size hi<=items.size:=S6 _ _ (zk _) hi;let⟨os,hos,hcs,hds⟩:=id hs;let hTs:s.TypeIs (.ref sl) "slice":={(os),hos,hcs}
 unfold getItem
 try with_reducible refine xD ?_
 first | refine yq (yt ?_) | skip
 refine yq (wpAny_sequenceKey ht.typeIs ∅ ?_);refine yq (yU (name:=Str.ofString "__getitem__") ht.typeIs xI
  (y3 xI ht.typeIs entry_tuple_getitem ?_ (args_tuple_getitem _ _)))
 show wpAny _ _ (Builtin.Tuple.tupleItemsOf (.ref t) >>= _) _ _ s;refine yq (tupleItemsOf_ ht ?_);refine yq (wW hTs ?_);rw[yK ∅];refine yq (j8 hs pl pu ?_);let hno:¬((((eZ items.size 0 lo:Nat):Int) == 0&&(1:Int) == 1&&(eZ items.size items.size hi-eZ items.size 0 lo) == items.size)=true):=by
  intro q;rw[zM,zM] at q;let q1:((eZ items.size 0 lo:Nat):Int)=0:=eq_of_beq q.1.1;let q2:eZ items.size items.size hi-eZ items.size 0 lo=items.size:=eq_of_beq q.2;exact hw {(()),()}
 show wpAny _ _ (if(((eZ items.size 0 lo:Nat):Int) == 0&&(1:Int) == 1&&(eZ items.size items.size hi-eZ items.size 0 lo) == items.size)=true then _ else _) _ _ s;rw[yJ hno,Pa]
 first
  | exact yq (m:=Builtin.Tuple.tupleExact _) (y6 (yt {_,rfl,yt h}) htake)
  | exact yq (m:=Builtin.Tuple.tupleExact _) (y6 (yq (yt (yt {_,rfl,yt h}))) htake)
  | exact yq (yq (m:=Builtin.Tuple.tupleExact _) (y6 (yt (yt {_,rfl,yt h})) htake))
  | exact yq (yq (m:=Builtin.Tuple.tupleExact _) (y6 (yt {_,rfl,yt h}) htake))
end
end HT
namespace L2
open PySem PySem.Spec PyProof.Rows
abbrev TO:=St->Hp->(Option Int->Hp->Prop)->Prop
def PO (X:Cx) (e:Option Expr) (t:TO):Prop:=
 ∀(pins:List (vm×Obj)) (s:vg) (U:St) (H:Hp) (Q:Option Int->Hp->Prop),Inv X pins U H s->t U H Q->
  wpAny (model X.prog X.w) X.A (evalPart e X.env) (λu s'=>∃o H',Inv X pins U H' s'/\IsPart u o/\Q o H') X.xe s
def EE:TO:=λ_ H Q=>Q none H
def Ox (t:TE):TO:=λU H Q=>t U H λx H1=>∃i,x=.int i/\Q (some i) H1
def intsAre_of:∀{us:List vf},Vals (ns.map V.int) us->IntsAre us ns:=by
 induction ns with
 | nil=>intro us r;rw[yj] at r;cases r;exact .nil
 | cons n ns ih=>
  intro us r;rw[zh] at r;cases r with
  | cons r1 r2=>
   let⟨t,e⟩:=r1;subst e;exact .cons n t (ih r2)
section
variable {X:Cx} {e:Expr} {te:TE} {lo hi:Option Expr} {tl th:TO} {pos p2:Pos}
def eP:PO X none EE:=by
 intro pins s U H Q I h;rw[evalPart_none];exact yt {none,H,I,.none,h}
def eO (h:PE X e te):PO X (some e) (Ox te):=by
 intro pins s U H Q I hw;rw[evalPart_some];refine cQ (h s U H _ I hw) λu s1 z0=>?_;let⟨x,H1,I1,r1,q1⟩:=z0;let⟨i,rfl,q⟩:=q1;let⟨t,rfl⟩:=r1;exact{some i,H1,I1,.int i t,q}
def Qs (X:Cx) (r:V->Option Int->Option Int->Hp->VK->Prop):Prop:=
 ∀(pins:List (vm×Obj)) (s:vg) (U:St) (H:Hp) (x:V) (v vl vu:vf) (lo hi:Option Int) (sl:vm) (Q:VK),Inv X pins U H s->RelV x v->s.heap.IsSliceOf sl vl vu .none->IsPart vl lo->IsPart vu hi->r x lo hi H Q->
  ∃T id,typeLookup (.type T) "__getitem__"= pure (some (.builtin id))/\s.TypeIs v T/\wpAny (model X.prog X.w) X.A (getItem v (.ref sl)) (EP X pins U Q) X.xe s
def Qs.or (h:Qs X r) (h':Qs X r'):Qs X (λx lo hi H Q=>r x lo hi H Q\/r' x lo hi H Q):=by
 intro pins s U H x v vl vu lo hi sl Q I rx hs pl pu q;rcases q with q | q
 ·exact h pins s U H x v vl vu lo hi sl Q I rx hs pl pu q
 ·exact h' pins s U H x v vl vu lo hi sl Q I rx hs pl pu q
def Wk (r:V->Option Int->Option Int->Hp->VK->Prop) (te:TE) (tl th:TO):TE:=λU H Q=>te U H λx H1=>tl U H1 λl H2=>th U H2 λu H3=>r x l u H3 Q
def dI (hr:Qs X r) (he:PE X e te) (hl:PO X lo tl) (hu:PO X hi th):PE X (.Subscript e (.Slice lo hi none p2) pos) (Wk r te tl th):=by
 intro pins s U H Q I h;refine Subscript_ (cQ (he s U H _ I h) λv s1 z0=>?_);let⟨x,H1,I1,r1,q1⟩:=z0;refine wpAny_Slice (cQ (hl pins s1 U H1 _ I1 q1) λvl s2 z0=>?_);let⟨l,H2,I2,pl,q2⟩:=z0;refine cQ (hu pins s2 U H2 _ I2 q2) λvu s3 z1=>?_;let⟨u,H3,I3,pu,q3⟩:=z1;rw[evalPart_none];refine yt ?_;let I4:Inv X pins U H3 {s3 with heap:=s3.heap.push {cls:=.type "slice",data:=.fields #[vl,vu,.none]}}:=I3.kept (t':=s3.toks) λb ob q=>yr _ q;let⟨T,id,hT,ht,hg⟩:=hr pins {s3 with heap:=s3.heap.push {cls:=.type "slice",data:=.fields #[vl,vu,.none]}} U H3 x v vl vu l u ↑s3 Q I4 r1 (Heap.IsSliceOf.new ..) pl pu q3;show wpAny (model X.prog X.w) X.A (subscriptTail e (.Slice lo hi none p2) v (.ref ↑s3)) (EP X pins U Q) X.xe {s3 with heap:=s3.heap.push {cls:=.type "slice",data:=.fields #[vl,vu,.none]}};exact tail_any (ops:=[.ref ↑s3,v]) ht hT hg (by with_unfolding_all rfl)
noncomputable def ko (xs:List V) (lo hi:Option Int):List V:=(xs.drop (HT.eZ ⇑xs 0 lo)).take (HT.eZ ⇑xs ⇑xs hi-HT.eZ ⇑xs 0 lo)
def mX (xs:List V) (lo hi:Option Int):⇑(ko xs lo hi)<=⇑xs:=by
 unfold ko;rw[zO,xw];ext
def U0 (K:yx):V->Option Int->Option Int->Hp->VK->Prop:=λx lo hi H Q=>∃a xs,x=.ref a/\pQ K H a xs/\
 ¬(HT.eZ ⇑xs 0 lo=0/\HT.eZ ⇑xs ⇑xs hi=⇑xs)/\∀p,H p=none->Q (.ref p) (upd H p (.tup (ko xs lo hi)))
def S4:Qs X (U0 X.K):=by
 intro pins s U H x v vl vu lo hi sl Q I rx hs pl pu h;let⟨a,xs,rfl,hx,hw,q⟩:=h;cases rx;let⟨its,r,ht,hz⟩:=I.tuple hx;let hlen:its.toArray.size=⇑xs:=by rw[zZ];exact r.length.symm
 refine{"tuple",_,xI.lookup,ht.typeIs,?_};refine HT.qU ht hs pl pu (by rw[hlen];exact hw) ?_ (by rw[hlen];exact hz);rw[hlen];refine{.ref ↑s,_,I.laid (t':=s.toks) (o:=.tup (ko xs lo hi)) (λb ob q=>yr _ q) (zk _) ?_,rfl,q _ (I.cx.fresh (zk _))};exact{zK (mX xs lo hi) hz,_,(r.drop (HT.eZ ⇑xs 0 lo)).take (HT.eZ ⇑xs ⇑xs hi-HT.eZ ⇑xs 0 lo),IsTup.new _ _}
end
end L2
namespace L2
open PySem PySem.Spec PyProof.Rows
noncomputable def Se (n:Nat) (i:Int):Option Nat:=if 0<=i then(if i<n then some i.toNat else none) else if -(n:Int)<=i then some (i+n).toNat else none
noncomputable def vJ (xs:List α) (i:Int):Option α:=(Se ⇑xs i).bind λj=>xs[j]?
def Rq (h:Se n i=some j):seqIndex? i n=some j/\j<n/\-(n:Int)<=i/\i<n:=by
 unfold Se at h
 by_cases h0:0<=i
 ·rw[yK h0] at h
  by_cases h1:i<n
  ·rw[yK h1] at h
   let e:i.toNat=j:=yh h;exact{by rw[seqIndex_of h0 h1,e],(),(),h1}
  ·rw[yJ h1] at h;cases h
 ·rw[yJ h0] at h
  by_cases h1:-(n:Int)<=i
  ·rw[yK h1] at h
   let e:(i+n).toNat=j:=yh h;exact{by rw[seqIndex_neg () h1,e],(),h1,()}
  ·rw[yJ h1] at h;cases h
def Gj (h:vJ xs i=some v):∃j,seqIndex? i ⇑xs=some j/\xs[j]?=some v/\j<⇑xs/\-(⇑xs:Int)<=i/\i<⇑xs:=by
 unfold vJ at h;cases e:Se ⇑xs i with
 | none=>rw[e] at h;cases h
 | some j=>
  rw[e] at h;let⟨h1,h2,h3,h4⟩:=Rq e;exact{(j),h1,h,h2,h3,h4}
def bq {α:Type} {xs:List α} {j:Nat} {v:α} (h:xs[j]?=some v):vJ xs (j:Int)=some v:=by
 let hj:j<⇑xs:=(zw.mp h).1;let e:Se ⇑xs (j:Int)=some j:=by
  unfold Se;rw[yK (),yK ()];simp
 unfold vJ;rw[e];exact h
def B4 (xs:List α) (v:α):vJ (xs++[v]) (-1)=some v:=by
 let hl:⇑(xs++[v])=⇑xs+1:=by simp
 let e:Se ⇑(xs++[v]) (-1)=some ⇑xs:=by
  unfold Se;rw[hl,yJ ∅,yK ()]
  congr 1
  ext
 unfold vJ;rw[e];show(xs++[v])[⇑xs]?=some v;simp
def rD (b:Expr):Prop:=∀o i,subscripted b false o i=operate [o,i] (getItem o i)
def VU (X:Cx) (r:R2):Prop:=
 ∀(value slice:Expr) (pins:List (vm×Obj)) (s:vg) (U:St) (H:Hp) (x y:V) (v u:vf) (Q:VK),Inv X pins U H s->RelV x v->RelV y u->r x y H Q->
  subscripted slice false v u=operate [v,u] (getItem v u)->wpAny (model X.prog X.w) X.A (subscriptTail value slice v u) (EP X pins U Q) X.xe s
def XA (X:Cx) (id:String) (r:V->List V->Hp->VK->Prop):Prop:=
 ∀(pins:List (vm×Obj)) (s:vg) (U:St) (H:Hp) (x:V) (xs:List V) (v:vf) (us:List vf) (Q:VK),Inv X pins U H s->RelV x v->Vals xs us->r x xs H Q->
  wpAny (model X.prog X.w) X.A (call (.builtin id) (v::us)) (EP X pins U Q) X.xe s
section
variable {X:Cx} {a b:Expr} {ta tb:TE} {pos:Pos}
def A4 (hr:VU X r) (ha:PE X a ta) (hb:PE X b tb) (hs:rD b):PE X (.Subscript a b pos) (fj r ta tb):=by
 intro pins s U H Q I h;exact Subscript_ (Uh ha hb I h λv u s2 x y H2 I2 rx ry q=>hr a b pins s2 U H2 x y v u Q I2 rx ry q (hs _ _))
inductive Q3 (K:yx) (x y:V) (H:Hp) (Q:VK):Prop
 | mk (p:vm) (xs:List V) (i:Int) (v:V) (_:x=.ref p) (_:y=.int i) (_:fi K H p xs) (_:vJ xs i=some v) (_:Q v H)
inductive mI (K:yx) (x y:V) (H:Hp) (Q:VK):Prop
 | mk (p:vm) (xs:List V) (i:Int) (v:V) (_:x=.ref p) (_:y=.int i) (_:pQ K H p xs) (_:vJ xs i=some v) (_:Q v H)
def Q2:R2:=λx y H Q=>∃z i c,x=.str z/\y=.int i/\⇑z<=sizeLine/\vJ z.cps.toList i=some c/\Q (.str {#[c]}) H
def L6:VU X (Q3 X.K):=by
 intro value slice pins s U H x y v u Q I rx ry h hs;let⟨p,xs,i,z,rfl,rfl,hq,he,q⟩:=h;cases rx;let⟨t,rfl⟩:=ry;let⟨its,r,pl,hz⟩:=I.list hq;let⟨j,h1,h2,h3,h4,h5⟩:=Gj he;let⟨w,ew,rw'⟩:=r.get h2;let hl:=⇑r;let hn:=Bl;let fin:EP X pins U Q w s:={(z),H,I,rw',q}
 by_cases h0:0<=i
 ·let hj:i.toNat=j:=by
   rw[seqIndex_of h0 h5] at h1;exact yh h1
  exact item_listR pl.isList h0 () (by rw[hj];simpa using ew) fin hs
 ·let hj:(i+(its.toArray.size:Int)).toNat=j:=by
   rw[seqIndex_neg () h4] at h1;rw[zZ,<-hl];exact yh h1
  exact subscriptTail_builtinR (x:=w) pl.isList.typeIs slot_list_getitem.lookup
   (wpAny_getItem_list_neg (Q:=λr s'=>r=w/\EP X pins U Q r s') pl.isList () (by rw[zZ] <;> ext) () (by rw[hj];simpa using ew) {(rfl),fin}) hs
def TR:VU X (mI X.K):=by
 intro value slice pins s U H x y v u Q I rx ry h hs;let⟨p,xs,i,z,rfl,rfl,hq,he,q⟩:=h;cases rx;let⟨t,rfl⟩:=ry;let⟨its,r,pl,hz⟩:=I.tuple hq;let⟨j,h1,h2,h3,h4,h5⟩:=Gj he;let⟨w,ew,rw'⟩:=r.get h2;let hl:=⇑r;let hn:=Bl;let fin:EP X pins U Q w s:={(z),H,I,rw',q}
 exact subscriptTail_builtinR (x:=w) pl.typeIs slot_tuple_getitem.lookup
  (getItem_tuple (j:=j) (Q:=λr s'=>r=w/\EP X pins U Q r s') pl () () (by rw[zZ,<-hl];exact h1) (by simpa using ew) {(rfl),fin}) hs
def FH:VU X Q2:=by
 intro value slice pins s U H x y v u Q I rx ry h hs;let⟨z,i,c,rfl,rfl,hz,he,q⟩:=h;let⟨t,rfl⟩:=rx;let⟨t',rfl⟩:=ry;let⟨j,h1,h2,h3,h4,h5⟩:=Gj he;let hl:⇑z.cps.toList=⇑z:=by simp[Str.length]
 rw[hl] at h1 h4 h5;let hn:=Bl;exact tail_any (wH s z t) slot_str_getitem.lookup (getItem_str (c:=c) (by
  let e1:decide (i < -(2^63:Int))=false:=zd ();let e2:decide (i≥2^63)=false:=zd ();rw[e1,e2,Bool.or_false]) (by rw[h1];simpa using h2) {.str {#[c]},H,I.tok _,{_,rfl},q}) hs
def EV (lo hi:Option Int) (n:Nat):(sliceBounds lo hi none n).1=((HT.eZ n 0 lo:Nat):Int)/\(sliceBounds lo hi none n).2.1=((HT.eZ n n hi:Nat):Int)/\(sliceBounds lo hi none n).2.2=1:=by
 refine{?_,?_,rfl}
 ·cases lo with
  | none=>simp[sliceBounds,HT.eZ]
  | some i=>
   simp only[sliceBounds,HT.eZ,Option.getD_none,show(1:Int)>0 by decide,wV]
   by_cases h:i<0
   ·simp only[h,wV] <;> ext
   ·simp only[h,wg] <;> ext
 ·cases hi with
  | none=>simp[sliceBounds,HT.eZ]
  | some i=>
   simp only[sliceBounds,HT.eZ,Option.getD_none,show(1:Int)>0 by decide,wV]
   by_cases h:i<0
   ·simp only[h,wV] <;> ext
   ·simp only[h,wg] <;> ext
def CG (its:List vf) (lo hi:Option Int):slicePick its.toArray lo hi none=((its.drop (HT.eZ ⇑its 0 lo)).take (HT.eZ ⇑its ⇑its hi-HT.eZ ⇑its 0 lo)).toArray:=by
 let⟨h1,h2,h3⟩:=EV lo hi its.toArray.size;unfold slicePick;rw[h1,h2,h3];simp only[sliceRange_one,pick_run,zZ] <;> rfl
def Wu (K:yx):V->Option Int->Option Int->Hp->VK->Prop:=λx lo hi H Q=>∃a xs,x=.ref a/\fi K H a xs/\∀p,H p=none->Q (.ref p) (upd H p (.lst (ko xs lo hi)))
def kD:Qs X (Wu X.K):=by
 intro pins s U H x v vl vu lo hi sl Q I rx hs pl pu h;let⟨a,xs,rfl,hx,q⟩:=h;cases rx;let⟨its,r,ht,hz⟩:=I.list hx;let hlen:=⇑r;refine{"list",_,slot_list_getitem.lookup,ht.isList.typeIs,?_};refine wpAny_getItem_list_slice ht.isList hs pl pu .none (by simp) ?_ (by rw[zZ] <;> ext);rw[CG,<-hlen];refine{.ref ↑s,_,I.laid (t':=s.toks) (o:=.lst (ko xs lo hi)) (λb ob q=>yr _ q) (zk _) ?_,rfl,q _ (I.cx.fresh (zk _))};exact{zK (mX xs lo hi) hz,_,0,(r.drop (HT.eZ ⇑xs 0 lo)).take (HT.eZ ⇑xs ⇑xs hi-HT.eZ ⇑xs 0 lo),yu _ rfl}
noncomputable def lV:V->Bool
 | .bN=>true
 | .bl _=>true
 | .int _=>true
 | .str _=>true
 | _=>false
noncomputable def Rz:V->V->Bool
 | .bN,.bN=>true
 | .bl a,.bl b=>a == b
 | .bl a,.int b=>(if a then 1 else 0) == b
 | .int a,.bl b=>a == (if b then 1 else 0)
 | .int a,.int b=>a == b
 | .str a,.str b=>a == b
 | _,_=>false
def P7 (ry:RelV y u) (rx:RelV x v) (fy:lV y=true) (fx:lV x=true):SeqAt.EqAt A s u v (Rz y x):=by
 cases y with
 | bN=>
  cases ry;cases x with
  | bN=>cases rx;exact SeqAt.EqAt.same _
  | bl b=>cases rx;exact SeqAt.EqAt.none_bool b
  | int b=>let⟨t,rfl⟩:=rx;exact SeqAt.EqAt.none_int b t
  | str b=>let⟨t,rfl⟩:=rx;exact SeqAt.EqAt.none_str b t
  | _=>exact absurd (show false=true from fx) zJ
 | bl a=>
  cases ry;cases x with
  | bN=>cases rx;exact SeqAt.EqAt.bool_none a
  | bl b=>cases rx;exact SeqAt.EqAt.bool_bool a b
  | int b=>let⟨t,rfl⟩:=rx;exact SeqAt.EqAt.bool_int a b t
  | str b=>let⟨t,rfl⟩:=rx;exact SeqAt.EqAt.bool_str a b t
  | _=>exact absurd (show false=true from fx) zJ
 | int a=>
  let⟨t',rfl⟩:=ry;cases x with
  | bN=>cases rx;exact SeqAt.EqAt.int_none a t'
  | bl b=>cases rx;exact SeqAt.EqAt.int_bool a t' b
  | int b=>let⟨t,rfl⟩:=rx;exact SeqAt.EqAt.int_int a t' b t
  | str b=>let⟨t,rfl⟩:=rx;exact SeqAt.EqAt.int_str a t' b t
  | _=>exact absurd (show false=true from fx) zJ
 | str a=>
  let⟨t',rfl⟩:=ry;cases x with
  | bN=>cases rx;exact SeqAt.EqAt.str_none a t'
  | bl b=>cases rx;exact SeqAt.EqAt.str_bool a t' b
  | int b=>let⟨t,rfl⟩:=rx;exact SeqAt.EqAt.str_int a t' b t
  | str b=>let⟨t,rfl⟩:=rx;exact SeqAt.EqAt.str_str a t' b t
  | _=>exact absurd (show false=true from fx) zJ
 | _=>exact absurd (show false=true from fy) zJ
noncomputable def K1 (x:V) (u:vf):Bool:=match u with
 | .none=>Rz .bN x
 | .bool b=>Rz (.bl b) x
 | .int i _=>Rz (.int i) x
 | .str z _=>Rz (.str z) x
 | _=>false
def P6 (r:RelV y u) (f:lV y=true):K1 x u=Rz y x:=by
 cases y with
 | bN=>cases r;rfl
 | bl b=>cases r;rfl
 | int i=>let⟨t,rfl⟩:=r;rfl
 | str z=>let⟨t,rfl⟩:=r;rfl
 | _=>exact absurd (show false=true from f) zJ
theorem rk:∀{xs:List V} {us:List vf},Vals xs us->xs.all lV=true->us.any (K1 x)=xs.any λy=>Rz y x
 | _,_,.nil,_=>rfl
 | y::xs,u::us,.cons r t,f=>by
  rw[wL,zM] at f;rw[xk,xk,P6 r f.1,rk t f.2]
theorem mU (rx:RelV x v) (fx:lV x=true):∀{xs:List V} {us:List vf},Vals xs us->xs.all lV=true->∀u∈us,SeqAt.EqAt A s u v (K1 x u)
 | _,_,.nil,_=>λu hu=>by cases hu
 | y::xs,u::us,.cons r t,f=>λu' hu=>by
  rw[wL,zM] at f;rcases zB.mp hu with rfl | hu
  ·rw[P6 r f.1];exact P7 r rx f.1 fx
  ·exact mU rx fx t f.2 u' hu
noncomputable def FJ (x:V) (xs:List V):Bool:=xs.any λy=>Rz y x
inductive Td (K:yx) (neg:Bool) (x y:V) (H:Hp) (Q:VK):Prop
 | mk (p:vm) (xs:List V) (_:y=.ref p) (_:fi K H p xs\/pQ K H p xs) (_:lV x=true) (_:xs.all lV=true) (_:Q (.bl (if neg then !FJ x xs else FJ x xs)) H)
def iG:nV X (compareOp .In) (Td X.K false):=by
 intro pins s U H x y v u Q I rx ry h;let⟨p,xs,rfl,hq,fx,fs,q⟩:=h;cases ry;rcases hq with hq | hq
 ·let⟨its,r,pl,hz⟩:=I.list hq
  refine SeqAt.in_listAt (K1 x) pl.isList (λw hw=>mU rx fx r fs w (by simpa using hw)) {.bl _,H,I,rfl,?_};rw[show its.toArray.any (K1 x)=its.any (K1 x) by simp,rk r fs];exact q
 ·let⟨its,r,pl,hz⟩:=I.tuple hq
  refine SeqAt.in_tupleAt (K1 x) pl (λw hw=>mU rx fx r fs w (by simpa using hw)) {.bl _,H,I,rfl,?_};rw[show its.toArray.any (K1 x)=its.any (K1 x) by simp,rk r fs];exact q
def dQ:nV X (compareOp .NotIn) (Td X.K true):=by
 intro pins s U H x y v u Q I rx ry h;let⟨p,xs,rfl,hq,fx,fs,q⟩:=h;cases ry;rcases hq with hq | hq
 ·let⟨its,r,pl,hz⟩:=I.list hq
  refine SeqAt.notIn_listAt (K1 x) pl.isList (λw hw=>mU rx fx r fs w (by simpa using hw)) {.bl _,H,I,rfl,?_};rw[show its.toArray.any (K1 x)=its.any (K1 x) by simp,rk r fs];exact q
 ·let⟨its,r,pl,hz⟩:=I.tuple hq
  refine SeqAt.notIn_tupleAt (K1 x) pl (λw hw=>mU rx fx r fs w (by simpa using hw)) {.bl _,H,I,rfl,?_};rw[show its.toArray.any (K1 x)=its.any (K1 x) by simp,rk r fs];exact q
def aB:fH X (.builtin "len") (λxs H Q=>∃p ys,xs=[.ref p]/\(fi X.K H p ys\/pQ X.K H p ys)/\Q (.int ⇑ys) H):=by
 intro pins s U H xs us Q I r h;let⟨p,ys,rfl,hq,q⟩:=h;let⟨u,rfl,rx⟩:=vals1 r;cases rx;let hn:=Bl;rcases hq with hq | hq
 ·let⟨its,r',pl,hz⟩:=I.list hq
  let hlen:=⇑r';exact Calls.call_len_list pl.isList (by simp only[zZ] <;> ext) {.int ⇑ys,H,I.tok _,{s.toks+1,by rw[zZ,hlen]},q}
 ·let⟨its,r',pl,hz⟩:=I.tuple hq
  let hlen:=⇑r';exact len_tuple pl (by simp only[zZ] <;> ext) {.int ⇑ys,H,I.tok _,{s.toks+1,by rw[zZ,hlen]},q}
def fU:fH X (.builtin "len") (λxs H Q=>∃z,xs=[.str z]/\⇑z<=sizeLine/\Q (.int ⇑z) H):=by
 intro pins s U H xs us Q I r h;let⟨z,rfl,hz,q⟩:=h;let⟨u,rfl,t,rfl⟩:=vals1 r;let hn:=Bl;exact len_str () {.int ⇑z,H,I.tok _,{_,rfl},q}
def rj:fH X (.type "list") (λxs H Q=>∃p ys,xs=[.ref p]/\(fi X.K H p ys\/pQ X.K H p ys)/\∀l,H l=none->Q (.ref l) (upd H l (.lst ys))):=by
 intro pins s U H xs us Q I r h;let⟨p,ys,rfl,hq,q⟩:=h;let⟨u,rfl,rx⟩:=vals1 r;cases rx;let fin:∀(its:List vf),Vals ys its->⇑ys<=sizeLine->∀(h':vn) (c':Nat),(∀b o',s.heap.get? b=some o'->h'.get? b=some o')->
   h'.get? ↑s=some {cls:=.type "list",dict:=none,data:=.seq its.toArray c',slots:=#[]}->EP X pins U Q (.ref ↑s) {s with heap:=h'}:=λits r' hz h' c' kp e=>
  {.ref ↑s,_,I.laid (t':=s.toks) kp (zk _) (show cD X.prog X.w _ h' _ (.lst ys) from{(hz),its,c',r',e}),rfl,q _ (I.cx.fresh (zk _))}
 rcases hq with hq | hq
 ·let⟨its,r',pl,hz⟩:=I.list hq
  let hlen:=⇑r';let⟨o,ho,hc,n,hd⟩:=pl.isList;exact call_list_seq p (.inl rfl) ho hc hd (λh' c' kp e=>fin its r' hz h' c' kp e) (by simp only[zZ] <;> ext)
 ·let⟨its,r',pl,hz⟩:=I.tuple hq
  let hlen:=⇑r';let⟨o,ho,hc,n,hd⟩:=pl;exact call_list_seq p (.inr rfl) ho hc hd (λh' c' kp e=>fin its r' hz h' c' kp e) (by simp only[zZ] <;> ext)
def dz:fH X (.type "tuple") (λxs H Q=>∃p ys,xs=[.ref p]/\((fi X.K H p ys/\∀l,H l=none->Q (.ref l) (upd H l (.tup ys)))\/(pQ X.K H p ys/\Q (.ref p) H))):=by
 intro pins s U H xs us Q I r h;let⟨p,ys,rfl,h⟩:=h;let⟨u,rfl,rx⟩:=vals1 r;cases rx;rcases h with⟨hq,q⟩ | ⟨hq,q⟩
 ·let⟨its,r',pl,hz⟩:=I.list hq
  let hlen:=⇑r';refine call_tuple_list pl.isList (λh' kp=>?_) (by simp only[zZ] <;> ext);let I1:Inv X pins U H {s with heap:=h'}:=I.kept (t':=s.toks) kp;let I2:Inv X pins U (upd H h'.objs.size (.tup ys)) {s with heap:=h'.push {cls:=.type "tuple",data:=.seq its.toArray}}:=
   I1.laid (t':=s.toks) (λb o e=>yr _ e) (zk _) (show cD X.prog X.w _ _ _ (.tup ys) from{hz,its,r',IsTup.new _ _})
  exact{.ref h'.objs.size,_,I2,rfl,q _ (I1.cx.fresh (zk _))}
 ·let⟨its,r',pl,hz⟩:=I.tuple hq
  exact call_tuple_same pl {.ref p,H,I,rfl,q}
def Wj (K:yx) (T:String) (x:V) (H:Hp):Prop:=match x with
 | .str _=>T ="str"
 | .int _=>T ="int"
 | .ref p=>(T ="list"/\∃xs,fi K H p xs)\/(T ="tuple"/\∃o,K.lookup p=some o/\o.cls=.type "tuple"/\o.dict=none)\/
   (T ="dict"/\((∃kvs,H p=some (.dK kvs))\/∃kvs,H p=some (.dT kvs)))\/(T ="set"/\∃S n,H p=some (.set S n))
 | _=>False
def SF (I:Inv X pins U H s) (r:RelV x v) (ty:Wj X.K T x H) :
  s.TypeIs v T/\∀a,v=.ref a->∃ob,s.heap.get? a=some ob/\ob.dict=none:=by
 cases x with
 | str z=>
  let⟨t,rfl⟩:=r;cases(show T ="str" from ty);exact{wH s z t,λ_ e=>nomatch e}
 | int i=>
  let⟨t,rfl⟩:=r;cases(show T ="int" from ty);exact{typeIs_int s i t,λ_ e=>nomatch e}
 | ref p=>
  cases r;rcases ty with⟨rfl,xs,hq⟩ | ⟨rfl,o,hk,hc,hd⟩ | ⟨rfl,hk⟩ | ⟨rfl,S,n,hk⟩
  ·let⟨its,_,pl,_⟩:=I.list hq
   refine{pl.isList.typeIs,λa e=>?_};cases e;let⟨o,n,e,c,hd,_⟩:=pl;exact{(o),e,hd}
  ·refine{{o,I.sW p o hk,hc},λa e=>?_}
   cases e;exact{o,I.sW _ o hk,hd}
  ·let z:∃o,s.heap.get? p=some o/\o.ExactDict:=by
    rcases hk with⟨kvs,hk⟩ | ⟨kvs,hk⟩
    ·let⟨_,_,_,_,o,_,_,e,ex,_⟩:=I.cx p _ hk
     exact{(o),e,ex}
    ·let⟨_,_,_,_,o,_,_,e,ex,_⟩:=I.cx p _ hk
     exact{(o),e,ex}
   let⟨o,e,ex⟩:=z;refine{{(o),e,ex.1},λa e2=>?_};cases e2;exact{(o),e,ex.2.1}
  ·let⟨o,_,_,_,e,ex,_⟩:=I.cx p _ hk
   refine{{(o),e,ex.1},λa e2=>?_};cases e2;exact{(o),e,ex.2.1}
 | _=>exact False.elim ty
def Wo (K:yx) (T:String) (r:V->List V->Hp->VK->Prop) (to:TE) (t:TA):TE:=λU H Q=>to U H λx H1=>Wj K T x H1/\t U H1 λxs H2=>r x xs H2 Q
variable {o e:Expr} {es:List Expr} {to:TE} {t:TA} {name:Str} {apos cpos:Pos} {T id:String} {r:V->List V->Hp->VK->Prop}
def bW (pa:PlainAttrs T) (slot:Slot T name id) (hty:typeOf (.builtin id)=pure (.type "method_descriptor")) (hm:XA X id r) (ho:PE X o to) (ha:PA X (e::es) t)
  (hbase:attributeBase o name X.env (eval o X.env)=eval o X.env<|>qe_)
  (hfew:((backTo cpos (starEach (e::es) X.env)).all (λx=>!x.1)&&(backToKw cpos (keywordEach [] X.env)).all (λx=>x.1.isSome)
   &&decide (⇑(e::es)+⇑([]:List Keyword)+(if([]:List Keyword).isEmpty then 0 else 1)<30))=true<|>qe_)
  (hline:(apos.endLine == cpos.line)=true<|>qe_) (hs:starEach (e::es) X.env=(false,eval e X.env)::starEach es X.env<|>qe_) (hplain:(backTo cpos (starEach es X.env)).any (·.1)=false<|>qe_) :
  PE X (.Call (.Attribute o name apos) (e::es) [] cpos) (Wo X.K T r to t):=by
 intro pins s U H Q I h;refine wpAny_Call_method_late hbase hfew hline rfl (cQ (ho s U H _ I h) λv s1 z0=>?_);let⟨x,H1,I1,r1,ty,q1⟩:=z0;let⟨h1,h2⟩:=SF I1 r1 ty;refine{T,id,pa,slot,hty,h1,h2,?_};let hA:=ha (pos:=cpos) s1 U H1 _ I1 q1;rw[hs] at hA ⊢;refine wF (by show(false||(backTo cpos (starEach es X.env)).any (·.1))=false;rw[hplain] <;> rfl) (Calls.evalArgs_plain ?_);refine cQ hA λus s2 z0=>?_;let⟨vs,H2,I2,r2,q2⟩:=z0;exact hm pins s2 U H2 x vs v us Q I2 r1 r2 q2
end
end L2
namespace L2
open PySem PySem.Spec PyProof.Rows
def Uo (X:Cx) (id:String) (r:V->List V->Hp->VK->Prop):Prop:=
 ∀(pins:List (vm×Obj)) (s:vg) (U:St) (H:Hp) (x:V) (xs:List V) (v:vf) (us:List vf) (Q:VK),Inv X pins U H s->RelV x v->Vals xs us->r x xs H Q->
  wpAny (model X.prog X.w) X.A (call (.builtin id) (v::us)) (EP X pins U Q) X.xe s
def Vals.one {x:V} {us:List vf} (h:Vals [x] us):∃u,us=[u]/\RelV x u:=by
 cases h with
 | cons r t=>cases t;exact{_,rfl,r}
section
variable {X:Cx} {pins:List (vm×Obj)} {U:St} {H:Hp} {s:vg} {l b:vm} {xs ys zs:List V}
def Inv.Rm {its its':List vf} {n:Nat} {f:Array vf->Array vf} {t':Nat} (I:Inv X pins U H s) (hH:H l=some (.lst xs))
  (e:s.heap.get? l=some {cls:=.type "list",data:=.seq its.toArray n}) (hf:f its.toArray=its'.toArray) (hv:Vals ys its') (hz:⇑ys<=sizeLine) :
  Inv X pins U (upd H l (.lst ys)) {s with heap:=s.heap.update l (Obj.mapSeq f),toks:=t'}:=by
 let q:=PySem.IsL.update e f;rw[hf] at q;refine I.write (x:=l) (e:=l) (by rw[hH];exact trivial) (.inl rfl) (λb' u hb hu=>(yw s.heap (Obj.mapSeq f) (Ne.symm hb)).trans hu) {_,q} ?_;exact{hz,its',_,hv,q}
def Inv.U9 (I:Inv X pins U H s) (hv:Vals ys its) (hz:⇑ys<=sizeLine) :
  Inv X pins U (upd H ↑s (.lst ys)) {s with heap:=s.heap.push {cls:=.type "list",data:=.seq its.toArray},toks:=t'}:=
 I.laid (λ_ _ q=>yr _ q) (zk _) {hz,its,0,hv,yu _ rfl}
theorem Inv.fresh (I:Inv X pins U H s):H ↑s=none:=I.cx.fresh (zk _)
def Inv.Px (I:Inv X pins U H s) (hH:H l=some (.lst xs)):XB s.heap l xs:=by
 let⟨z,its,n,r,e⟩:=I.cx l _ hH;exact{(z),its,n,r,⇑r,e}
def Il (h:n<=sizeLine):Builtin.List.listTooLong n=false:=by
 unfold Builtin.List.listTooLong;exact zd ()
end
section
variable {X:Cx}
inductive Q4 (x:V) (vs:List V) (H:Hp) (Q:VK):Prop
 | mk (l:vm) (xs:List V) (y:V) (_:x=.ref l) (_:vs=[y]) (_:H l=some (.lst xs)) (_:⇑xs<sizeLine) (_:Q .bN (upd H l (.lst (xs++[y]))))
def bw:Uo X "list.append" Q4:=by
 intro pins s U H x vs v us Q I rx rv h;let⟨l,xs,y,rfl,rfl,hH,hz,q⟩:=h;cases rx;let⟨u,rfl,ru⟩:=rv.one;let⟨z,its,n,r,hl,e⟩:=I.Px hH;refine wq F.slot_list_append {_,e,rfl} F.entry_list_append (F.args_list_append_2 _ _) (PySem.list_append l its.toArray n u (by rw[zZ];ext)) {e,?_};refine{.bN,_,I.Rm (its':=its++[u]) hH e (by simp) (r.append (.cons ru .nil)) ?_,rfl,q};rw[zg,List.length_singleton];ext
inductive LX (x:V) (vs:List V) (H:Hp) (Q:VK):Prop
 | mk (l b:vm) (xs zs:List V) (_:x=.ref l) (_:vs=[.ref b]) (_:H l=some (.lst xs)) (_:H b=some (.lst zs)) (_:⇑xs+⇑zs<=sizeLine) (_:Q .bN (upd H l (.lst (xs++zs))))
def MY:Uo X "list.extend" LX:=by
 intro pins s U H x vs v us Q I rx rv h;let⟨l,b,xs,zs,rfl,rfl,hH,hB,hz,q⟩:=h;cases rx;let⟨u,rfl,ru⟩:=rv.one;cases ru;let⟨z,its,n,r,hl,e⟩:=I.Px hH;let⟨z2,its2,n2,r2,hl2,e2⟩:=I.Px hB;let hsz:its.toArray.size+its2.toArray.size<=sizeLine:=by rw[zZ,zZ];ext
 let hlong:¬(!its.toArray.isEmpty&&Builtin.List.listTooLong (its.toArray.size+its2.toArray.size))=true:=by
  rw[Il hsz,wB];exact zJ
 refine wq F.slot_list_extend {_,e,rfl} F.entry_list_extend (F.args_list_extend_2 _ _)
  (AutoSeq1.list_extend_list_list_0 l its.toArray n b its2.toArray n2 hlong (by rw[zZ];ext) ()) {e,e2,?_}
 refine{.bN,_,I.Rm (its':=its++its2) hH e (by simp) (r.append r2) ?_,rfl,q};rw[zg];ext
end
section
variable {prog:vh} {w:vi} {A:vj} {E:vf->vg->Prop} {s:vg}
end
section
variable {X:Cx}
end
end L2
namespace Xp
open PySem PySem.W PySem.Calls PyProof.Rows
def vv:∀(ns:List Int) (vs:List vf),WellAll P h vs (ns.map WData.int)->IntsAre vs ns:=by
 intro ns
 induction ns with
 | nil=>
  intro vs w;rw[yj] at w;cases w;exact .nil
 | cons n ns ih=>
  intro vs w;rw[zh] at w;cases w with
  | cons a b=>
   cases a;exact .cons _ _ (ih _ b)
def MC {l:OpenLaw} {n:Nat} (hn:l.most=some n) {P:Params} {h:vn} {args:List WData} {vals:List vf}
  (hpre:l.row.toRowW.claim.pre args=true) (hwl:WellAll P h vals args) :
  ∃a vs ns,vals=[Value.ref a]/\args=[WData.list (ns.map WData.int)]/\h.get? a=some {cls:=.type "list",data:=.seq vs.toArray}/\IntsAre vs ns/\⇑ns<=n:=by
 let hsh:WShape.hasAll [] args [.list .int]=true:=(pre_splitW hpre).1;let hc:l.pre.holds [] {args:=args}=true:=(pre_splitW hpre).2;let⟨d,r,rfl,h1,h2⟩:=hasAllW_cons hsh;obtain rfl:=hasAllW_nil h2;let⟨xs,rfl,h3⟩:=hasW_list h1;let⟨ns,rfl⟩:=items_int h3;let hlen:⇑ns<=n:=by
  unfold OpenLaw.pre at hc;let h4:(WTm.not (.lt (.lit (.int (n:Int))) (.len (.arg 0)))).holds [] {args:=[.list (ns.map .int)]}=true:=by
   let h4:=(holds_andW hc).1;rw[hn] at h4;exact h4
  let h5:=condW_of h4 (w_not (w_lt w_lit (w_len_list (w_arg rfl))));rw[za] at h5;refine Nat.le_of_not_lt λq=>?_;let q':(n:Int)<((⇑ns:Nat):Int):=()
  first
   | (rw[ze q'] at h5;exact absurd h5 ∅)
   | (simp at h5;ext)
 cases hwl with
 | cons w1 w2=>
  cases w2;cases w1 with
  | list ho hall=>exact{_,_,ns,rfl,rfl,ho,vv ns _ hall,hlen}
def MR (l:OpenLaw) (args:List WData):l.row.toRowW.claim.post args (.bool true) args=true:=
 postW_of (r:=l.row.toRowW) (X:=(true == true))
  (show WShape.has [] (.bool true) .bool=true by first | rfl | decide | simp[WShape.has,WShape.arms,WShape.armsAll])
  (show(WTm.eq .res (.lit (.bool true))).value [] {args:=args,res:=some (.bool true),after:=args}=some (.bool (true == true)) from w_eq_bool (w_res rfl) w_lit) rfl
def Jq {l:OpenLaw} {n:Nat} {q:vh} {loose:List Str} {XP:(Str->Option vf)->vn->Prop} {YP:vi->vn->Prop} {d:DefRec}
  (hn:l.most=some n) (hdf:d.params.defaults=[])
  (call:∀(w:vi) (s₀ s₁:vg) (mg mb:Str->Option vf) (fa:vm) (o:Obj) (pm cd doc:vf) (a:vm) (vs:List vf) (ns:List Int),
   Ground q loose [] XP w s₀ mg mb s₁.heap->YP w s₁.heap->
   s₁.heap.get? fa=some o->o.data=.func (docDef d.name d.params d.body d.scope pm cd doc)->s₁.heap.CodeRec cd d.name->mg d.name=some (.ref fa)->
   s₁.heap.get? a=some {cls:=.type "list",data:=.seq vs.toArray}->IntsAre vs ns->⇑ns<=n->s₁.gens=#[]->
   codeAny (model l.prog w) callerA (.call (.ref fa) {[.ref a],[]}) (λr s'=>r=.ok (.ret (.bool true))/\OldK s₁.heap s'.heap/\s'.os=s₁.os/\AllBare s'.gens) s₁) :
  WalkO q loose XP YP l.row.toRowW d [] (λf vs=>PySem.call f vs):=by
 intro w s₀ s₁ mg mb G Y fa o pm cd doc dV kV ho hd hcd hD hmg hg args vals as hpre hlay hrd hwl hlo;obtain rfl:dV=.none:=Dflts.none hD hdf;obtain rfl:kV=.none:=Dflts.noKw hD;let⟨a,vs,ns,rfl,rfl,hobj,hints,hlen⟩:=MC hn hpre hwl;refine enter_call (xN (call w s₀ s₁ mg mb fa o pm cd doc a vs ns G Y ho (fd_plain hd) hcd hmg hobj hints hlen hg) λr s' hq=>?_);let⟨rfl,h2,h3,h4⟩:=hq;exact{.inl {.bool true,.bool true,[],rfl,λ_=>rfl,.bool true,MR l _,λ_=>{List.Pairwise.nil,λ_ hm=>(nomatch hm)}},h2,h3,h4}
section
variable {prog:vh} {w:vi} {A:vj} {E:vf->vg->Prop} {s:vg} {K:Frag}
end
end Xp
namespace L2
open PySem PySem.Spec PyProof.Rows
theorem DL:∀{vs:List vf} {ns:List Int},IntsAre vs ns->Vals (ns.map V.int) vs
 | _,_,.nil=>.nil
 | _,_,.cons n t h=>.cons {(t),rfl} (DL h)
def Ul (H:Hp):Prop:=∀b,H b=none\/∃o xs,H b=some (.iI o (.lst xs))
def PJ {P:vh} {w:vi} {K:yx} {mg mb:Str->Option vf} {CX:Mq} {k:Nat} {fa a:vm} {fd:vk} {x:Str} {sp:Sp} {s₁:vg} {vs:List vf} {ns:List Int}
  (KX:K.In s₁.heap) (hns:s₁.heap.Ns mainGlobals mg) (hb:s₁.heap.Ns builtinsNs mb) (hbb:∀x:Str,x≠ "__name__"->mb x=bootBuiltins x) (hlim:s₁.heap.NoLimit) (hg:s₁.gens=#[])
  (ha:s₁.heap.get? a=some {cls:=.type "list",data:=.seq vs.toArray}) (hi:IntsAre vs ns) (hl:⇑ns<=sizeLine) (hr:fo k callerA)
  (F:∀base:vn,K.In base->base.Ns mainGlobals mg->dy P w K mg base CX k fa fd [x] sp) (hbind:∀(s:vg) (u:vf),BindsTo s fd {[u],[]} [(x,u)])
  (hsp:∀H:Hp,Ul H->fi K H a (ns.map V.int)->sp [.ref a] H (λv _=>v=.bl true) λ_ _ _=>False)
  (hCX:∀H e s',CX [] H s₁ (λ_ _ _=>False) e s'->False) :
  codeAny (model P w) callerA (.call (.ref fa) {[.ref a],[]}) (λr s'=>r=.ok (.ret (.bool true))/\OldK s₁.heap s'.heap/\s'.os=s₁.os/\AllBare s'.gens) s₁:=by
 let rv:=DL hi;let lenV:=⇑hi;let core:∀H:Hp,Ul H->fi K H a (ns.map V.int)->pP P w H s₁.heap->(∀b,H b≠none->b=a)->(H a≠none->K.lookup a=none)->
   codeAny (model P w) callerA (.call (.ref fa) {[.ref a],[]}) (λr s'=>r=.ok (.ret (.bool true))/\OldK s₁.heap s'.heap/\s'.os=s₁.os/\AllBare s'.gens) s₁:=by
  intro H hO hS cx hA hK;let base_of:∀{b:vm} {o:Obj},s₁.heap.get? b=some o->H b=none->(FL s₁.heap H).get? b=some o:=λe n=>PR e n;let noA:∀{b:vm} {o:Obj} {es:Array DictEntry} {ep:Nat},s₁.heap.get? b=some o->o.data=.dict es ep->H b=none:=λ{b o es ep} e d=>by
   cases q:H b with
   | none=>rfl
   | some u=>
    let e':b=a:=hA b (by rw[q];simp);subst e';rw[ha] at e;cases e;let d':Data.seq vs.toArray _=Data.dict es ep:=d;cases d'
  let nsK:∀{b:vm} {m:Str->Option vf},s₁.heap.Ns b m->(FL s₁.heap H).Ns b m:=λ{b m} ⟨o,es,ep,e,d,r⟩=>{o,es,ep,base_of e (noA e d),d,r}
  let hKb:K.In (FL s₁.heap H):=λb o e=>base_of (KX b o e) (by
   cases q:H b with
   | none=>rfl
   | some u=>
    let e':b=a:=hA b (by rw[q];simp);subst e';rw[hK (by rw[q];simp)] at e;cases e)
  let hM:Mod K mg (FL s₁.heap H):={hKb,nsK hns,{mb,nsK hb,hbb},let ⟨mc,h1,h2⟩:=hlim;{mc,nsK h1,h2}}
  let e0:JJ P w K mg (FL s₁.heap H) callerA [] s₁ H:={rfl,hM,λb o e=>Rj e,Nat.le_of_eq (M9 _ _),trivial,λb hb=>absurd (show b∈([]:List vm) from hb) (by simp),cx,.of_eq hg}
  refine xN ((F _ hKb (nsK hns)).run callerA [] s₁ H {[.ref a],[]} [.ref a] [.ref a] _ _ hr e0 (hbind s₁ (.ref a)) (.cons rfl .nil) (hsp H hO hS)) λr s' h=>?_;cases r with
  | error e=>exact(hCX H e s' h).elim
  | ok fl=>
   cases fl with
   | next=>exact False.elim h
   | brk=>exact False.elim h
   | cont=>exact False.elim h
   | ret u=>
    let⟨v,H',os,bare,un,hok',r',q⟩:=h;let q':v=.bl true:=q;subst q';obtain rfl:u=Value.bool true:=r';refine{rfl,OldK.of_keep λb o e=>?_,os,bare};cases q:H b with
    | none=>exact un.keep b o e q (by intro z;exact absurd (show b∈([]:List vm) from z) (by simp)) (by simp)
    | some u=>
     rcases hO b with z | ⟨ob,xs,z⟩
     ·rw[q] at z;cases z
     ·let z2:=un.mf b ob _ z
      let⟨e1,_⟩:=cx b _ z;let⟨e2,_⟩:=hok' b _ z2;rw[e] at e1;cases e1;exact e2
 cases hk:K.lookup a with
 | some o=>
  let e:=KX a o hk;rw[ha] at e;cases e;refine core (λ_=>none) (λ_=>.inl rfl) (.inr {_,vs.toArray,_,hk,rfl,rfl,rfl,by rw[zZ,lenV];exact hl,by simpa using rv}) (λb u z=>by let z':(none:Option HO)=some u:=z;cases z') (λb z=>absurd rfl z) λz=>absurd rfl z
 | none=>
  refine core (λb=>if b=a then some (.iI {cls:=.type "list",data:=.seq vs.toArray} (.lst (ns.map V.int))) else none) (λb=>?_) (.inl (.inr {{cls:=.type "list",data:=.seq vs.toArray},yK rfl})) (λb u z=>?_) (λb z=>?_) λ_=>hk
  ·by_cases hb:b=a
   ·exact .inr {_,_,yK hb}
   ·exact .inl (yJ hb)
  ·by_cases hb:b=a
   ·let z':=(yK hb).symm.trans z
    cases z';subst hb;exact{ha,by rw[za];exact hl,vs,_,rv,ha}
   ·let z':=(yJ hb).symm.trans z
    cases z'
  ·by_cases hb:b=a
   ·exact hb
   ·exact absurd (yJ hb) z
end L2
namespace L2
open PySem PySem.Spec PyProof.Rows
def QH {l:PySem.W.OpenLaw} {n k:Nat} {q:vh} {loose:List Str} {XP:(Str->Option vf)->vn->Prop} {YP:vi->vn->Prop} {d:DefRec} {K:Params->yx} {CX:vi->Mq} {sp:vi->Sp} {x:Str}
  (hn:l.most=some n) (hn2:n<=sizeLine) (hdf:d.params.defaults=[]) (hr:fo k callerA)
  (hY:∀(w:vi) (h:vn),YP w h->(K w.params).In h)
  (F:∀(w:vi) (mg:Str->Option vf) (fa:vm) (h:vn),(K w.params).In h->h.Ns mainGlobals mg->mg d.name=some (.ref fa)->
   ∃fd:vk,(∀(s:vg) (u:vf),BindsTo s fd {[u],[]} [(x,u)])/\
    ∀base:vn,(K w.params).In base->base.Ns mainGlobals mg->dy l.prog w (K w.params) mg base (CX w) k fa fd [x] (sp w))
  (hsp:∀(w:vi) (H:Hp) (a:vm) (ns:List Int),⇑ns<=n->Ul H->fi (K w.params) H a (ns.map V.int)->sp w [.ref a] H (λv _=>v=.bl true) λ_ _ _=>False)
  (hCX:∀(w:vi) (H:Hp) (s:vg) (e:vf) (s':vg),CX w [] H s (λ_ _ _=>False) e s'->False) :
  PySem.W.WalkO q loose XP YP l.row.toRowW d [] (λf vs=>PySem.call f vs):=by
 refine Xp.Jq hn hdf λw s₀ s₁ mg mb fa o pm cd doc a vs ns G Y ho hd hcd hmg hobj hints hlen hg=>?_;let KX:=hY w _ Y;let⟨fd,hb,hF⟩:=F w mg fa _ KX G.T.g hmg;exact PJ KX G.T.g G.T.b G.T.builtins G.T.nolimit hg hobj hints (zK hlen hn2) hr hF hb (λH hO hS=>hsp w H a ns hlen hO hS) λH e s'=>hCX w H s₁ e s'
end L2
namespace L2
open PySem PySem.Spec PyProof.Rows
def inClass (s:Stmt) (j:Nat):Stmt:=match s with
 | .ClassDef _ _ _ body _ _ _ _ _ _ _=>body.getD j (.Pass {0,0,0,0})
 | _=>.Pass {0,0,0,0}
noncomputable def df (s:Stmt):Arguments:=match s with
 | .FunctionDef _ a _ _ _ _ _ _ _ _=>a
 | _=>{posonlyargs:=[],args:=[],vararg:=none,kwonlyargs:=[],kw_defaults:=[],kwarg:=none,defaults:=[]}
noncomputable def cC (s:Stmt):List Stmt:=match s with
 | .FunctionDef _ _ b _ _ _ _ _ _ _=>b
 | _=>[]
noncomputable def aX (s:Stmt):Scope:=match s with
 | .FunctionDef _ _ _ _ _ _ sc _ _ _=>sc
 | _=>{kind:=.function,names:=[],isGenerator:=false,isCoroutine:=false}
abbrev JK:Mq:=λ_ _ _ _ _ _=>False
abbrev E0:XK:=λ_ _ _=>False
def LZ:Passes JK X E0:=λ_ _ _ _ _ _ _ h=>h.elim
structure Qx (K:yx) (x qual:Str) (st:Stmt) (f:vm) (fd:vk):Prop where
 ex:∃(oc:vf) (od:Option vm) (kV doc pm:vf) (an:Option vm) (cdv ct:vf) (osl:Array (Option vf)),
  fd=PySem.W.fnOf x qual (df st) (cC st) (aX st) .none kV doc pm an cdv ct/\K.lookup f=some {oc,od,.func fd,osl}/\PySem.W.codeIn K cdv qual=true
 kp:PySem.W.keepIn K (.ref f)=true
section
variable {P:vh} {w:vi} {K:yx} {mg:Str->Option vf} {base:vn}
def Qx.ok {x qual:Str} {st:Stmt} {f:vm} {fd:vk} {N ps:List Str} {k:Nat} {sp:Sp} (F:Qx K x qual st f fd) (S:fZ N ps (aX st)) (len:∀vs H Q E,sp vs H Q E->⇑vs=⇑ps)
  (hbody:∀(cdv:vf) (A:vj) (outer:List Env) (s:vg) (H:Hp) (vs:List V) (Q:VK) (E:XK),fo k (A.deeper (envOfC qual (aX st) ↑s f cdv))->sp vs H Q E->
   ∃t,DH (jS JK P w K mg base N qual (aX st) f cdv A outer s H E).JL (cC st) t/\t {nx:=λ_ H'=>Q .bN H',rt:=Q} (start N vs) H):dy P w K mg base JK (k+1) f fd ps sp:=by
 let⟨oc,od,kV,doc,pm,an,cdv,ct,osl,rfl,lk,hcd⟩:=F.ex;refine Si lk hcd S len λA outer s H vs Q E hr hsp=>?_;let⟨t,h,q⟩:=hbody cdv A outer s H vs Q E hr hsp;exact{(t),h.JL,q}
def Qx.binds {x qual:Str} {st:Stmt} {f:vm} {fd:vk} {ps:List Str} (F:Qx K x qual st f fd)
  (h:∀(kV doc pm:vf) (an:Option vm) (cdv ct:vf) (us:List vf),⇑us=⇑ps->bindArgs (PySem.W.fnOf x qual (df st) (cC st) (aX st) .none kV doc pm an cdv ct) {us,[]}=pure (ps.zip us)):Binds K fd ps []:=by
 let⟨oc,od,kV,doc,pm,an,cdv,ct,osl,rfl,lk,hcd⟩:=F.ex;exact .all (h kV doc pm an cdv ct)
def jQ {x qual:Str} {st:Stmt} {f:vm} {oc:vf} {od an:Option vm} {osl:Array (Option vf)} {kV doc pm cdv ct:vf} (l:K.lookup f=some {oc,od,.func (PySem.W.fnOf x qual (df st) (cC st) (aX st) .none kV doc pm an cdv ct),osl})
  (c:PySem.W.codeIn K cdv qual=true) (k:PySem.W.keepIn K (.ref f)=true):Qx K x qual st f (PySem.W.fnOf x qual (df st) (cC st) (aX st) .none kV doc pm an cdv ct):={{(oc),od,kV,doc,pm,an,cdv,ct,osl,rfl,l,c},k}
end
def fB (hr:fo k A):A.units+1<cLine:=Nat.lt_of_le_of_lt (Nat.add_le_add_left (by decide:1<=64) _) hr.units
section
variable {X:Cx}
def pv (i:Nat) (hN:X.N[i]?=some x<|>qe_) (hv:Uj X.env.scope x<|>qg_) (hd:(x == ("__debug__": Str))=false<|>qb_)
  (hcd:(x == ("__classdict__": Str))=false<|>qb_):PE X (.Name x pos) (bc i):=Tj hN hv hd hcd
end
def Vc {A B:Prop} (h:B):if false=true then A else B:=by
 rw[yJ zJ];exact h
def WG {A B:Prop} (h:A):if true=true then A else B:=by
 rw[yK rfl];exact h
def vt {c A B:Prop} [Decidable c] (h1:c->A) (h2:¬c->B):if c then A else B:=by
 by_cases h:c
 ·rw[yK h]
  exact h1 h
 ·rw[yJ h]
  exact h2 h
def Sf {c A B:Prop} [Decidable c] (hc:c) (h:B):if(!decide c)=true then A else B:=by
 rw[ze hc];exact Vc h
def aF (H H':Hp):Prop:=∀b o,H b=some o->H' b=some o
def aD (H:Hp):aF H H:=λ_ _ h=>h
def aF.trans (a:aF H H1) (b:aF H1 H2):aF H H2:=λc o h=>b c o (a c o h)
def aF.seq {K:yx} {H H':Hp} {a:vm} {xs:List V} (e:aF H H') (h:fi K H a xs):fi K H' a xs:=by
 rcases h with(h | ⟨o,h⟩) | h
 ·exact .inl (.inl (e _ _ h))
 ·exact .inl (.inr {o,e _ _ h})
 ·exact .inr h
end L2
namespace Lm
def red (t b:Int):Int×Int:=(t/(Int.gcd t b:Int),b/(Int.gcd t b:Int))
def v8 {t b:Int} (hb:0<b):0<(Int.gcd t b:Int):=by
 have:0<Int.gcd t b:=Int.gcd_pos_of_ne_zero_right t ();ext
def qp {t b k:Int} (hk:0<k) (hb:0<b):red (k*t) (k*b)=red t b:=by
 let g0:=v8 (t:=t) hb;let e:(Int.gcd (k*t) (k*b):Int)=k*(Int.gcd t b:Int):=by
  rw[Int.gcd_mul_left];simp only[Int.natCast_mul];rw[Int.natAbs_of_nonneg ()]
 unfold red;rw[e,Int.mul_ediv_mul_of_pos _ _ hk,Int.mul_ediv_mul_of_pos _ _ hk]
def kF {t b:Int} (hb:0<b):∃g,0<g/\t=g*(red t b).1/\b=g*(red t b).2/\0<(red t b).2/\(red t b).2<=b:=by
 let g0:=v8 (t:=t) hb;let d1:(Int.gcd t b:Int) ∣ t:=Int.gcd_dvd_left ..;let d2:(Int.gcd t b:Int) ∣ b:=Int.gcd_dvd_right ..;let e1:(Int.gcd t b:Int)*(t/(Int.gcd t b:Int))=t:=Int.mul_ediv_cancel' d1;let e2:(Int.gcd t b:Int)*(b/(Int.gcd t b:Int))=b:=Int.mul_ediv_cancel' d2;refine{_,g0,e1.symm,e2.symm,?_,?_}
 ·exact Int.ediv_pos_of_pos_of_dvd hb () d2
 ·exact zV _ ()
def AV {t b:Int} (ht:0<=t):0<=(red t b).1:=zU ht (Int.natCast_nonneg _)
def AW {t b:Int} (ht:0<=t):(red t b).1<=t:=zV _ ht
def QZ {t b:Int} (hb:0<b):red (red t b).1 (red t b).2=red t b:=by
 let⟨g,g0,e1,e2,p,_⟩:=kF (t:=t) hb;let h:=qp (t:=(red t b).1) (b:=(red t b).2) g0 p;rw[<-e1,<-e2] at h;exact h.symm
def add (x y:Int×Int):Int×Int:=red (x.1*y.2+y.1*x.2) (x.2*y.2)
def RM {t b s c:Int} (hb:0<b) (hc:0<c):add (red t b) (red s c)=red (t*c+s*b) (b*c):=by
 let⟨g,g0,e1,e2,p,_⟩:=kF (t:=t) hb;let⟨k,k0,f1,f2,q,_⟩:=kF (t:=s) hc;unfold add;generalize hx:red t b=x at *;generalize hy:red s c=y at *;let h:=qp (t:=x.1*y.2+y.1*x.2) (b:=x.2*y.2) (xt g0 k0) (xt p q);rw[<-h]
 congr 1
 ·rw[e1,e2,f1,f2,Int.mul_add]
  congr 1 <;> simp only[Int.mul_assoc,Int.mul_left_comm,xx]
 ·rw[e2,f2];simp only[Int.mul_assoc,Int.mul_left_comm,xx]
end Lm
namespace Lm
def Rd (x:Int×Int):Prop:=∃t b,0<=t/\0<b/\x=red t b
def Rd.of {t b:Int} (ht:0<=t) (hb:0<b):Rd (red t b):={(t),b,ht,hb,rfl}
def Rd.pos {x:Int×Int} (h:Rd x):0<=x.1/\0<x.2/\red x.1 x.2=x:=by
 let⟨t,b,ht,hb,rfl⟩:=h;let⟨g,g0,e1,e2,p,_⟩:=kF (t:=t) hb;exact{AV ht,p,QZ hb}
def Rd.zero:Rd (0,1):={0,1,∅,∅,∅}
theorem Rd.add {x y:Int×Int} (h:Rd x) (k:Rd y):Rd (add x y):=by
 let⟨a,b,_⟩:=h.pos;let⟨c,d,_⟩:=k.pos;refine{_,_,?_,xt b d,rfl};exact Int.add_nonneg (xX a ()) (xX c ())
def ID {x y:Int} (hx:0<=x) (hy:0<y):Int.gcd y (x%y)=Int.gcd x y:=by
 let e:(x%y).natAbs=x.natAbs%y.natAbs:=by
  let⟨a,rfl⟩:=yH hx;let⟨b,rfl⟩:=yH (yZ hy);rfl
 show Nat.gcd y.natAbs (x%y).natAbs=Nat.gcd x.natAbs y.natAbs;rw[e,Nat.gcd_comm x.natAbs,Nat.gcd_rec y.natAbs x.natAbs,Nat.gcd_comm]
def PY {t b:Int} (hb:0<b):(Int.gcd t b:Int)<=b:=by
 let h:Int.gcd t b<=b.natAbs:=Nat.gcd_le_right _ ();ext
end Lm
namespace Lm
end Lm
namespace Lm
theorem Mg {c:Nat}:∀{p q A B:List Nat},c∉p->c∉q->p++c::A=q++c::B->p=q/\A=B
 | [],[],A,B,_,_,h=>{rfl,by simpa using h}
 | [],y::q,A,B,_,hq,h=>by
  simp at h;exact absurd (by rw[h.1];exact zp) hq
 | x::p,[],A,B,hp,_,h=>by
  simp at h;exact absurd (by rw[<-h.1];exact zp) hp
 | x::p,y::q,A,B,hp,hq,h=>by
  simp only[wI,List.cons.injEq] at h;let⟨e,h⟩:=h;let⟨e1,e2⟩:=Mg (λz=>hp (zm _ z)) (λz=>hq (zm _ z)) h;exact{by rw[e,e1],e2}
def PU:∀(n:Nat),0<n->∃c r,Nat.toDigits 10 n=c::r/\c≠'0':=by
 intro n
 induction n using Nat.strongRecOn with
 | _ n ih=>
  intro hn
  by_cases h:n<10
  ·rw[Nat.toDigits_of_lt_base h]
   refine{_,[],rfl,?_};exact(by decide:∀n<10,0<n->Nat.digitChar n≠'0') n h hn
  ·let hd:n%10<10:=wY _ ∅
   let⟨c,r,e,hc⟩:=ih (n/10) () ();let t:=Nat.toDigits_append_toDigits (b:=10) (n:=n/10) (d:=n%10) ∅ () hd;rw[Nat.div_add_mod,e] at t;exact{c,r++Nat.toDigits 10 (n%10),by rw[<-t];rfl,hc}
def TJ {n k:Nat} (hk:0<k):n<10^k->⇑(Nat.toDigits 10 n)<=k:=by
 intro h
 induction k generalizing n with
 | zero=>ext
 | succ k ih=>
  by_cases h10:n<10
  ·rw[Nat.toDigits_of_lt_base h10];simp
  ·let hd:n%10<10:=wY _ ∅
   let hk0:0<k:=by
    rcases Nat.eq_zero_or_pos k with rfl | z
    ·simp at h;ext
    ·exact z
   have:=ih hk0 (n:=n/10) (by rw[Nat.div_lt_iff_lt_mul ∅];rw[Nat.pow_succ] at h;exact h);let t:=Nat.toDigits_append_toDigits (b:=10) (n:=n/10) (d:=n%10) ∅ () hd;rw[Nat.div_add_mod] at t;rw[<-t,zg,Nat.toDigits_of_lt_base hd];simp;ext
end Lm
namespace L2
open PySem
def gK (t:Bool) (h:vn) (a:vm) (items:Array vf):Prop:=match t with
 | true=>h.IsTuple a items
 | false=>h.IsList a items
def dA (t:Bool) (h:vn) (it a:vm) (k:Nat):Prop:=match t with
 | true=>h.IsTupleIter it a k
 | false=>h.IsListIter it a k
noncomputable def qP (t:Bool) (a:vm):Obj:=match t with
 | true=>{cls:=.type "tuple_iterator",data:=.fields #[.ref a,.int 0 0]}
 | false=>{cls:=.type "list_iterator",data:=.fields #[.ref a,.int 0 0]}
theorem gK.at {t:Bool} {h h':vn} {a:vm} {items:Array vf} (x:gK t h a items) (e:∀o,h.get? a=some o->h'.get? a=some o):gK t h' a items:=by
 cases t
 ·exact Heap.IsList.at x e
 ·let⟨o,ho,r⟩:=x;exact{o,e o ho,r}
theorem dA.at {t:Bool} {h h':vn} {it a:vm} {k:Nat} (x:dA t h it a k) (e:∀o,h.get? it=some o->h'.get? it=some o):dA t h' it a k:=by
 cases t
 ·exact Heap.IsListIter.at x e
 ·exact Heap.IsTupleIter.at x e
def gK.but {t:Bool} {h h':vn} {a b:vm} {items:Array vf} (x:gK t h a items) (hs:Heap.SameBut b h h') (n:a≠b):gK t h' a items:=x.at λo e=>hs.extBut a o n e
def dA.but {t:Bool} {h h':vn} {it a b:vm} {k:Nat} (x:dA t h it a k) (hs:Heap.SameBut b h h') (n:it≠b):dA t h' it a k:=x.at λo e=>hs.extBut it o n e
theorem dA.get {t:Bool} {h:vn} {it a:vm} {k:Nat} (x:dA t h it a k):∃o,h.get? it=some o/\∀v,o.data≠.cell v:=by
 cases t
 ·let⟨o,e,_,d⟩:=x;exact{o,e,λv z=>by rw[d] at z;cases z}
 ·let⟨o,e,_,d⟩:=x;exact{o,e,λv z=>by rw[d] at z;cases z}
def dA.new (t:Bool) (h:vn) (a:vm):dA t (h.push (qP t a)) h.objs.size a 0:=by
 cases t
 ·exact{_,yu _ rfl,rfl,rfl}
 ·exact{_,yu _ rfl,rfl,rfl}
section
variable {prog:vh} {w:vi} {A:vj} {E:vf->vg->Prop} {s:vg}
def LS {t:Bool} {a:vm} {items:Array vf} {Q:vf->vg->Prop} (hl:gK t s.heap a items) (hQ:Q (.ref ↑s) {s with heap:=s.heap.push (qP t a)}) :
  wpAny (model prog w) A (pyIter (.ref a)) Q E s:=by
 cases t
 ·exact wC hl hQ
 ·exact wpAny_pyIter_tuple hl hQ
def EI {t:Bool} {it a:vm} {i:Nat} {items:Array vf} {x:vf} {Q:vf->vg->Prop} (hit:dA t s.heap it a i) (hl:gK t s.heap a items) (hx:items[i]?=some x)
  (hQ:∀h',dA t h' it a (i+1)->Heap.SameBut it s.heap h'->Q x {s with heap:=h'}):wpAny (model prog w) A (Builtin.SmallTypes.nextOf (.ref it)) Q E s:=by
 cases t
 ·exact wpAny_nextOf_list_item hit hl hx hQ
 ·let hit':s.heap.IsTupleIter it a i:=hit
  let⟨o,ho,hc,hd⟩:=id hit';let⟨ol,hol,_,nl,hdl⟩:=(show s.heap.IsTuple a items from hl)
  unfold Builtin.SmallTypes.nextOf;refine yq (yU (name:=Str.ofString "__next__") hit'.typeIs xZ (y3 xZ hit'.typeIs F.entry_tuple_iterator_next ?_ (F.args_tuple_iterator_next_1 _)));show wpAny _ _ (field (.ref it) 0 >>= _) _ _ s;refine yq (yW ho hd (x:=.ref a) rfl ?_);show wpAny _ _ (if(Value.ref a == Value.none)=true then _ else _) _ _ s;rw[yJ (show¬((Value.ref a == Value.none)=true) from zJ)];show wpAny _ _ (field (.ref it) 1 >>= _) _ _ s;refine yq (yW ho hd (x:=.int i 0) rfl ?_);show wpAny _ _ (seqItems? (.ref a) >>= _) _ _ s;refine yq (xm hol hdl ?_);simp only[xU,hx];refine yq (wpAny_setField ho hd (by simp) (yt {x,rfl,yt (hQ _ ?_ (wU ..))}));exact{_,Heap.get?_update_self _ ho (Obj.isFreed_of_fields (w6 hd _)),(Obj.cls_mapFields ..).trans hc,by rw[w6 hd];simp[rawInt]}
def LR {t:Bool} {it a:vm} {i:Nat} {items:Array vf} {Q:vf->vg->Prop} (hh:A.handled=none) (hit:dA t s.heap it a i) (hl:gK t s.heap a items) (hx:items[i]?=none)
  (hE:∀h' e,Heap.ExtBut it s.heap h'->(∃o,h'.get? e=some o/\o.cls=.type "StopIteration")->E (.ref e) {s with heap:=h'}):wpAny (model prog w) A (Builtin.SmallTypes.nextOf (.ref it)) Q E s:=by
 cases t
 ·exact wpAny_nextOf_list_end hh hit hl hx hE
 ·let hit':s.heap.IsTupleIter it a i:=hit
  let⟨o,ho,hc,hd⟩:=id hit';let⟨ol,hol,_,nl,hdl⟩:=(show s.heap.IsTuple a items from hl)
  unfold Builtin.SmallTypes.nextOf;refine yq (yU (name:=Str.ofString "__next__") hit'.typeIs xZ (y3 xZ hit'.typeIs F.entry_tuple_iterator_next ?_ (F.args_tuple_iterator_next_1 _)));show wpAny _ _ (field (.ref it) 0 >>= _) _ _ s;refine yq (yW ho hd (x:=.ref a) rfl ?_);show wpAny _ _ (if(Value.ref a == Value.none)=true then _ else _) _ _ s;rw[yJ (show¬((Value.ref a == Value.none)=true) from zJ)];show wpAny _ _ (field (.ref it) 1 >>= _) _ _ s;refine yq (yW ho hd (x:=.int i 0) rfl ?_);show wpAny _ _ (seqItems? (.ref a) >>= _) _ _ s;refine yq (xm hol hdl ?_);simp only[xU,hx];refine yq (wpAny_rule (yq (wpAny_setField ho hd (by simp) ?_)));show wpAny _ _ (newExc (.type "StopIteration") [] >>= _) _ _ _;refine yq ?_;simp only[newExc,newTuple];refine yq (y6 ?_ (by size_fits));refine yq (m:=firstArgMember _ _) (wpAny_of_eq (a:=Value.none) (by first | rfl | (simp only[firstArgMember];rfl)) (y6 ?_ (by size_fits)));simp only[raiseNew];refine yq (wpAny_handled ?_)
  first | rw[show A.in1.handled=none from hh] | rw[hh]
  exact yq (yt (wpAny_throw (hE _ _ (((wU ..).extBut.push _).push _) {_,yu _ rfl,rfl})))
structure Ux (z TI TO i1 i2:vm):Prop where
 a1:TI≠z
 a2:TO≠z
 a3:i1≠z
 a4:i2≠z
 a5:TI≠TO
 a6:TI≠i1
 a7:TI≠i2
 a8:TO≠i1
 a9:TO≠i2
 b1:i1≠i2
structure Qv (l z TO i1 i2:vm):Prop where
 a1:l≠z
 a2:l≠TO
 a3:l≠i1
 a4:l≠i2
def JF (z TO i1 i2:vm) (h h':vn):Prop:=∀c o,c≠z->c≠TO->c≠i1->c≠i2->h.get? c=some o->h'.get? c=some o
structure Sk (t1 t2:Bool) (h:vn) (z TI TO i1 i2 l1 l2:vm) (k:Nat) (f0:vf):Prop where
 z:IsZip h z TI TO f0
 ti:IsPair h TI (.ref i1) (.ref i2)
 to:∃a b,IsPair h TO a b
 i1:dA t1 h i1 l1 k
 i2:dA t2 h i2 l2 k
def Oa {t1 t2:Bool} {z TI TO i1 i2 l1 l2:vm} {k:Nat} {xs ys:Array vf} {x y:vf} {Q:vf->vg->Prop} (D:Ux z TI TO i1 i2) (L1:Qv l1 z TO i1 i2) (L2:Qv l2 z TO i1 i2)
  (S:Sk t1 t2 s.heap z TI TO i1 i2 l1 l2 k .none) (hl1:gK t1 s.heap l1 xs) (hl2:gK t2 s.heap l2 ys) (hx:xs[k]?=some x) (hy:ys[k]?=some y)
  (hQ:∀h',Sk t1 t2 h' z TI TO i1 i2 l1 l2 (k+1) (rawInt ↑s)->IsPair h' ↑s x y->JF z TO i1 i2 s.heap h'->Q (.ref ↑s) {s with heap:=h'}) :
  wpAny (model prog w) A (Builtin.«zip.__next__» {[.ref z],[]}) (λfin s'=>∃v,fin=.done (.ret v)/\Q v s') E s:=by
 let⟨hz,hTI,⟨a,b,hTO⟩,h1,h2⟩:=S;show wpAny _ _ (field (.ref z) 2 >>= _) _ _ _;refine yq (yW hz rfl (x:=.bool false) rfl ?_);show wpAny _ _ (field (.ref z) 3 >>= _) _ _ _;refine yq (yW hz rfl (x:=.ref TI) rfl (yq (xm hTI rfl ?_)));show wpAny _ _ (Builtin.SmallTypes.ownedTupleIsFree (.ref z) >>= _) _ _ _;refine yq ?_;unfold Builtin.SmallTypes.ownedTupleIsFree;refine yq (yW hz rfl (x:=.none) rfl (yt ?_));simp only[wV];refine yq (wpAny_rule (yq (yW hz rfl (x:=.ref TO) rfl (yq (xE hz (by simp) λg1 z1 q1=>?_)))));replace z1:IsZip g1 z TI TO .ellipsis:=z1;refine yq ?_;simp only[List.zipIdx_cons,List.zipIdx_nil,List.forIn_cons,List.forIn_nil];refine yq (yq (wpAny_onRaise ?_));show wpAny _ _ (Builtin.SmallTypes.nextOf (.ref i1) >>= _) _ _ _;refine yq (EI (h1.but q1 D.a3) (hl1.but q1 L1.a1) hx λg2 p2 q2=>yt ?_);let o2:IsPair g2 TO a b:=q2.extBut _ _ D.a8 (q1.extBut _ _ D.a2 hTO);refine yq (xm o2 rfl (yq (wpAny_updateSeq_pair o2 λg3 o3 q3=>yq (wpAny_letGo (yt (yq (yq (wpAny_onRaise ?_))))))));replace o3:IsPair g3 TO x b:=o3;show wpAny _ _ (Builtin.SmallTypes.nextOf (.ref i2) >>= _) _ _ _;refine yq (EI (((h2.but q1 D.a4).but q2 D.b1.symm).but q3 D.a9.symm) (((hl2.but q1 L2.a1).but q2 L2.a3).but q3 L2.a2) hy λg4 p4 q4=>yt ?_);let o4:IsPair g4 TO x b:=q4.extBut _ _ D.a9 o3;refine yq (xm o4 rfl (yq (wpAny_updateSeq_pair o4 λg5 o5 q5=>yq (wpAny_letGo (yt (yt ?_))))));replace o5:IsPair g5 TO x y:=o5;refine yq (xm o5 rfl (yq (wpAny_newTuple ?_)));let sz:g5.objs.size=↑s:=by rw[q5.1,q4.1,q3.1,q2.1,q1.1]
 let z5:IsZip g5 z TI TO .ellipsis:=q5.extBut _ _ D.a2.symm (q4.extBut _ _ D.a4.symm (q3.extBut _ _ D.a2.symm (q2.extBut _ _ D.a3.symm z1)));let k5:JF z TO i1 i2 s.heap g5:=λc o c1 c2 c3 c4 e=>q5.extBut _ _ c2 (q4.extBut _ _ c4 (q3.extBut _ _ c2 (q2.extBut _ _ c3 (q1.extBut _ _ c1 e))));let r1:dA t1 g5 i1 l1 (k+1):=((p2.but q3 D.a8.symm).but q4 D.b1).but q5 D.a8.symm;let r2:dA t2 g5 i2 l2 (k+1):=p4.but q5 D.a9.symm;let zl:z<g5.objs.size:=yv z5;show wpAny _ _ (Builtin.SmallTypes.ownedTupleHandOut (.ref z) (.ref g5.objs.size) >>= _) _ _ _;refine yq ?_;unfold Builtin.SmallTypes.ownedTupleHandOut;let z6:IsZip (g5.push {cls:=.type "tuple",data:=.seq #[x,y]}) z TI TO .ellipsis:=yr _ z5;refine yq (xE z6 (by simp) λg7 z7 q7=>?_);replace z7:IsZip g7 z TI TO (rawInt g5.objs.size):=z7;refine xE z7 (by simp) λg8 z8 q8=>?_;replace z8:IsZip g8 z TI TO (rawInt g5.objs.size):=z8;let up:∀c o,c≠z->g5.get? c=some o->g8.get? c=some o:=λc o c1 e=>q8.extBut _ _ c1 (q7.extBut _ _ c1 (yr _ e));let t8:IsPair g8 g5.objs.size x y:=q8.extBut _ _ (yf zl) (q7.extBut _ _ (yf zl) (yu _ rfl));rw[sz] at z8 t8;refine yt {_,rfl,?_};show Q (.ref g5.objs.size) _;rw[sz];exact hQ g8 {z8,up _ _ D.a1 (k5 _ _ D.a1 D.a5 D.a6 D.a7 hTI),{_,_,up _ _ D.a2 o5},r1.at λo e=>up _ o D.a3 e,r2.at λo e=>up _ o D.a4 e} t8 λc o c1 c2 c3 c4 e=>up c o c1 (k5 c o c1 c2 c3 c4 e)
def N9 {t1 t2:Bool} {z TI TO i1 i2 l1 l2:vm} {k:Nat} {xs ys:Array vf} {Q:Fin->vg->Prop} (hh:A.handled=none) (D:Ux z TI TO i1 i2) (L1:Qv l1 z TO i1 i2) (L2:Qv l2 z TO i1 i2)
  (S:Sk t1 t2 s.heap z TI TO i1 i2 l1 l2 k .none) (hl1:gK t1 s.heap l1 xs) (hl2:gK t2 s.heap l2 ys) (hend:xs[k]?=none\/ys[k]?=none)
  (hE:∀h' e,JF z TO i1 i2 s.heap h'->(∃o,h'.get? e=some o/\o.cls=.type "StopIteration")->E (.ref e) {s with heap:=h'}) :
  wpAny (model prog w) A (Builtin.«zip.__next__» {[.ref z],[]}) Q E s:=by
 let⟨hz,hTI,⟨a,b,hTO⟩,h1,h2⟩:=S;show wpAny _ _ (field (.ref z) 2 >>= _) _ _ _;refine yq (yW hz rfl (x:=.bool false) rfl ?_);show wpAny _ _ (field (.ref z) 3 >>= _) _ _ _;refine yq (yW hz rfl (x:=.ref TI) rfl (yq (xm hTI rfl ?_)));show wpAny _ _ (Builtin.SmallTypes.ownedTupleIsFree (.ref z) >>= _) _ _ _;refine yq ?_;unfold Builtin.SmallTypes.ownedTupleIsFree;refine yq (yW hz rfl (x:=.none) rfl (yt ?_));simp only[wV];refine yq (wpAny_rule (yq (yW hz rfl (x:=.ref TO) rfl (yq (xE hz (by simp) λg1 z1 q1=>?_)))));replace z1:IsZip g1 z TI TO .ellipsis:=z1;refine yq ?_;simp only[List.zipIdx_cons,List.zipIdx_nil,List.forIn_cons,List.forIn_nil];refine yq (yq (wpAny_onRaise ?_));show wpAny _ _ (Builtin.SmallTypes.nextOf (.ref i1) >>= _) _ _ _;cases hx:xs[k]? with
 | none=>
  refine yq (LR hh (h1.but q1 D.a3) (hl1.but q1 L1.a1) hx λg2 e q2 he=>?_);let⟨oe,hoe,hce⟩:=he;let z2:IsZip g2 z TI TO .ellipsis:=q2 _ _ D.a3.symm z1;let hez:e≠z:=λx=>by subst x;rw[z2] at hoe;cases hoe;simp at hce
  exact xE z2 (by simp) λg3 _ q3=>hE g3 e (λc o c1 _ c3 _ x=>q3.extBut _ _ c1 (q2 _ _ c3 (q1.extBut _ _ c1 x))) {oe,q3.extBut _ _ hez hoe,hce}
 | some x=>
  let hy:ys[k]?=none:=by rcases hend with h | h;rw[hx] at h;cases h;exact h
  refine yq (EI (h1.but q1 D.a3) (hl1.but q1 L1.a1) hx λg2 p2 q2=>yt ?_);let o2:IsPair g2 TO a b:=q2.extBut _ _ D.a8 (q1.extBut _ _ D.a2 hTO);refine yq (xm o2 rfl (yq (wpAny_updateSeq_pair o2 λg3 o3 q3=>yq (wpAny_letGo (yt (yq (yq (wpAny_onRaise ?_))))))));show wpAny _ _ (Builtin.SmallTypes.nextOf (.ref i2) >>= _) _ _ _;refine yq (LR hh (((h2.but q1 D.a4).but q2 D.b1.symm).but q3 D.a9.symm) (((hl2.but q1 L2.a1).but q2 L2.a3).but q3 L2.a2) hy λg4 e q4 he=>?_);let⟨oe,hoe,hce⟩:=he;let z4:IsZip g4 z TI TO .ellipsis:=q4 _ _ D.a4.symm (q3.extBut _ _ D.a2.symm (q2.extBut _ _ D.a3.symm z1));let hez:e≠z:=λx=>by subst x;rw[z4] at hoe;cases hoe;simp at hce
  exact xE z4 (by simp) λg5 _ q5=>hE g5 e (λc o c1 c2 c3 c4 x=>q5.extBut _ _ c1 (q4 _ _ c4 (q3.extBut _ _ c2 (q2.extBut _ _ c3 (q1.extBut _ _ c1 x))))) {oe,q5.extBut _ _ hez hoe,hce}
def Od {t1 t2:Bool} {z TI TO i1 i2 l1 l2:vm} {k:Nat} {xs ys:Array vf} {x y:vf} {Q:Option vf->vg->Prop} (D:Ux z TI TO i1 i2) (L1:Qv l1 z TO i1 i2) (L2:Qv l2 z TO i1 i2)
  (S:Sk t1 t2 s.heap z TI TO i1 i2 l1 l2 k .none) (hl1:gK t1 s.heap l1 xs) (hl2:gK t2 s.heap l2 ys) (hx:xs[k]?=some x) (hy:ys[k]?=some y)
  (hQ:∀h',Sk t1 t2 h' z TI TO i1 i2 l1 l2 (k+1) (rawInt ↑s)->IsPair h' ↑s x y->JF z TO i1 i2 s.heap h'->Q (some (.ref ↑s)) {s with heap:=h'}) :
  wpAny (model prog w) A (pyNext (.ref z)) Q E s:=by
 let hT:s.TypeIs (.ref z) "zip":={_,S.z,rfl}
 unfold pyNext;exact yq (wJ (yU (name:=Str.ofString "__next__") hT xF (y3 xF hT F.entry_zip_next (Oa D L1 L2 S hl1 hl2 hx hy λh' a1 a2 a3=>yt (hQ h' a1 a2 a3)) (F.args_zip_next_1 _))))
def Oc {t1 t2:Bool} {z TI TO i1 i2 l1 l2:vm} {k:Nat} {xs ys:Array vf} {Q:Option vf->vg->Prop} (hh:A.handled=none) (D:Ux z TI TO i1 i2) (L1:Qv l1 z TO i1 i2) (L2:Qv l2 z TO i1 i2)
  (S:Sk t1 t2 s.heap z TI TO i1 i2 l1 l2 k .none) (hl1:gK t1 s.heap l1 xs) (hl2:gK t2 s.heap l2 ys) (hend:xs[k]?=none\/ys[k]?=none)
  (hQ:∀h',JF z TO i1 i2 s.heap h'->Q none {s with heap:=h'}):wpAny (model prog w) A (pyNext (.ref z)) Q E s:=by
 let hT:s.TypeIs (.ref z) "zip":={_,S.z,rfl}
 unfold pyNext;refine yq (wJ (yU (name:=Str.ofString "__next__") hT xF (y3 xF hT F.entry_zip_next (N9 hh D L1 L2 S hl1 hl2 hend λh' e hk he=>?_) (F.args_zip_next_1 _))));let⟨o,ho,hc⟩:=he;exact yq (wpAny_isInstance (T:="StopIteration") (b:=true) {(o),ho,hc} isSubtype_stop (yt (hQ _ hk)))
end
noncomputable abbrev VJ (t1:Bool) (h:vn) (l1:vm):vn:=h.push (qP t1 l1)
noncomputable abbrev UA (t1 t2:Bool) (h:vn) (l1 l2:vm):vn:=(VJ t1 h l1).push (qP t2 l2)
noncomputable abbrev VI (t1 t2:Bool) (h:vn) (l1 l2:vm):vn:=(UA t1 t2 h l1 l2).push {cls:=.type "tuple",data:=.seq #[.ref h.objs.size,.ref (VJ t1 h l1).objs.size]}
noncomputable abbrev VH (t1 t2:Bool) (h:vn) (l1 l2:vm):vn:=(VI t1 t2 h l1 l2).push {cls:=.type "tuple",data:=.seq #[.none,.none]}
noncomputable abbrev Sv (t1 t2:Bool) (h:vn) (l1 l2:vm):vn:=(VH t1 t2 h l1 l2).push {cls:=.type "zip",data:=.fields #[.none,.bool false,.bool false,.ref (UA t1 t2 h l1 l2).objs.size,.ref (VI t1 t2 h l1 l2).objs.size]}
def Oe (t1 t2:Bool) (l1 l2:vm) (xs ys:Array vf) :
  Meets (Builtin.«zip.__new__» {[.type "zip",.ref l1,.ref l2],[]}) (λ_ R s=>gK t1 s.heap l1 xs/\gK t2 s.heap l2 ys/\R (.ok (.ret (.ref (VH t1 t2 s.heap l1 l2).objs.size))) {s with heap:=Sv t1 t2 s.heap l1 l2}):=
 .of_wp λprog w A R s h=>by
  let⟨hp,g,d,tk,os⟩:=s;let⟨a1,a2,h⟩:=h;let hsub:=sub_zip;let b1:gK t1 (Shared.heap {(hp),g,d,tk,os}) l1 xs:=a1;let b2:gK t2 (Shared.heap {hp.push (qP t1 l1),g,d,tk,os}) l2 ys:=a2.at λo e=>yr _ e;wp_walk using LS b1,LS b2;exact{_,rfl,h}
def Of {prog:vh} {w:vi} {A:vj} {E:vf->vg->Prop} {s:vg} {t1 t2:Bool} {l1 l2:vm} {xs ys:Array vf} {Q:vf->vg->Prop} (hl1:gK t1 s.heap l1 xs) (hl2:gK t2 s.heap l2 ys)
  (h:∀h',Sk t1 t2 h' (↑s+4) (↑s+2) (↑s+3) ↑s (↑s+1) l1 l2 0 .none->(∀c o,s.heap.get? c=some o->h'.get? c=some o)->Q (.ref (↑s+4)) {s with heap:=h'}) :
  wpAny (model prog w) A (call (.type "zip") [.ref l1,.ref l2]) Q E s:=by
 refine callType_new F.called_zip ∅ (F.typeCall_zip_2 _ _) (F.newCall_zip_2 _ _) (λobj=>F.args_object_init_3 obj _ _) F.entry_zip_new (Oe t1 t2 l1 l2 xs ys) {hl1,hl2,?_};let z1:(VJ t1 s.heap l1).objs.size=↑s+1:=xf ..;let z2:(UA t1 t2 s.heap l1 l2).objs.size=↑s+2:=by rw[xf,z1]
 let z3:(VI t1 t2 s.heap l1 l2).objs.size=↑s+3:=by rw[xf,z2]
 let z4:(VH t1 t2 s.heap l1 l2).objs.size=↑s+4:=by rw[xf,z3]
 let up:∀c o,(UA t1 t2 s.heap l1 l2).get? c=some o->(Sv t1 t2 s.heap l1 l2).get? c=some o:=λc o e=>yr _ (yr _ (yr _ e));let g5:(Sv t1 t2 s.heap l1 l2).get? (VH t1 t2 s.heap l1 l2).objs.size=some _:=yu _ rfl;let g4:(Sv t1 t2 s.heap l1 l2).get? (VI t1 t2 s.heap l1 l2).objs.size=some _:=yr _ (yu _ rfl);let g3:(Sv t1 t2 s.heap l1 l2).get? (UA t1 t2 s.heap l1 l2).objs.size=some _:=yr _ (yr _ (yu _ rfl));let g2:dA t2 (Sv t1 t2 s.heap l1 l2) (VJ t1 s.heap l1).objs.size l2 0:=(dA.new t2 _ l2).at (up _);let g1:dA t1 (Sv t1 t2 s.heap l1 l2) ↑s l1 0:=((dA.new t1 _ l1).at λo e=>yr _ e).at (up _);show _/\_;rw[z2,z3,z4] at g5;rw[z1,z2] at g3;rw[z3] at g4;rw[z1] at g2;rw[z4];exact{{_,g5,rfl},h _ {g5,g3,{_,_,g4},g1,g2} λc o x=>up c o (yr _ (yr _ x))}
end L2
namespace L2
open PySem PySem.Spec PyProof.Rows
def bz (h:H p=none):aF H (upd H p o):=λb u e=>by rw[aG (cb e h)];exact e
def laid {H:Hp} {o:HO} {Q:VK} (k:∀p H',aF H H'->H' p=some o->Q (.ref p) H'):∀p,H p=none->Q (.ref p) (upd H p o):=λp hp=>k p _ (bz hp) aE
def aF.tup {K:yx} {H H':Hp} {a:vm} {xs:List V} (e:aF H H') (h:pQ K H a xs):pQ K H' a xs:=by
 rcases h with(h | ⟨o,h⟩) | h
 ·exact .inl (.inl (e _ _ h))
 ·exact .inl (.inr {o,e _ _ h})
 ·exact .inr h
section
variable {X:Cx} {pins:List (vm×Obj)} {U:St} {H:Hp} {s:vg} {h':vn}
def Inv.GR {T:vm} {o:HO} {ch:List vm} {t':Nat} (I:Inv X pins U H s) (hf:∀b∈ch,DI X pins H b) (hT:↑s<=T) (k:∀b u,b∉ch->s.heap.get? b=some u->h'.get? b=some u)
  (new:cD X.prog X.w (upd H T o) h' T o):Inv X pins U (upd H T o) {s with heap:=h',toks:=t'}:=by
 let hn:H T=none:=I.cx.fresh hT;let neT:∀b u,s.heap.get? b=some u->b≠T:=λb u e=>yg (z9 (yv e) hT);let nch:∀b u,H b=some u->b∉ch:=λb u e hb=>by rw[(hf b hb).1] at e;cases e
 refine I.step (g':=s.gens) (d':=s.drawn) (ch:=ch) (λb hb=>?_) (λb u _ _ hc e _=>k b u hc e) (λb u _ _ hc e _=>{u.slots,k b u hc e}) (λb u hc e n=>by rw[aG (neT b u e)];exact n) (λb u hc e=>{u,k b u hc e})
  (λb xs e=>by rw[aG (cb e hn)];exact e) (λb ob u e=>by rw[aG (cb e hn)];exact e) (λb ps e=>{#[],by rw[aG (cb e hn),e];simp}) (λm hm=>?_) (λb u e=>?_) I.bare
 ·let⟨f0,f1,f2,f3,f4,f5⟩:=hf b hb
  exact{(f3),f1,f4,f5}
 ·let⟨ob,es,ep,ho,r⟩:=hm
  exact{ob,es,ep,k _ _ (λz=>(hf _ z).2.1 rfl) ho,r}
 ·by_cases hb:b=T
  ·subst hb;rw[aE] at e;cases e;exact new
  ·rw[aG hb] at e
   refine(I.cx b u e).lZ (λc v hc q=>k c v ?_ q) (λc q=>by rw[aG (cb q hn)];exact q) λc xs q=>by rw[aG (cb q hn)];exact q
   rcases hc with z | z
   ·rw[z];exact nch b u e
   ·exact nch c _ z
def Inv.turns {ch:List vm} {t':Nat} (I:Inv X pins U H s) (hf:∀b∈ch,DI X pins H b) (k:∀b u,b∉ch->s.heap.get? b=some u->h'.get? b=some u):Inv X pins U H {s with heap:=h',toks:=t'}:=by
 let nch:∀b u,H b=some u->b∉ch:=λb u e hb=>by rw[(hf b hb).1] at e;cases e
 refine I.step (g':=s.gens) (d':=s.drawn) (ch:=ch) (λb hb=>?_) (λb u _ _ hc e _=>k b u hc e) (λb u _ _ hc e _=>{u.slots,k b u hc e}) (λb u hc e n=>n) (λb u hc e=>{u,k b u hc e})
  (λb xs e=>e) (λb ob u e=>e) (λb ps e=>{#[],by rw[e];simp}) (λm hm=>?_) (λb u e=>?_) I.bare
 ·let⟨f0,f1,f2,f3,f4,f5⟩:=hf b hb
  exact{(f3),f1,f4,f5}
 ·let⟨ob,es,ep,ho,r⟩:=hm
  exact{ob,es,ep,k _ _ (λz=>(hf _ z).2.1 rfl) ho,r}
 ·refine(I.cx b u e).lZ (λc v hc q=>k c v ?_ q) (λc q=>q) λc xs q=>q
  rcases hc with z | z
  ·rw[z];exact nch b u e
  ·exact nch c _ z
def Gg:bootBuiltins "enumerate"= some (.type "enumerate"):=by decide +kernel
def Ug:bootBuiltins "zip"= some (.type "zip"):=by decide +kernel
noncomputable def Up (K:yx) (a:vm):It:=
 {λi H=>∃xs x,fi K H a xs/\xs[i]?=some x,λi H x H'=>∃p v,H p=none/\x=.ref p/\H'=upd H p (.tup [.int (i:Int),v])/\∀xs,fi K H a xs->xs[i]?=some v,λi H=>∃xs,fi K H a xs/\⇑xs<=i}
def Mv {P:vh} {w:vi} {K:yx} {es:List Expr} {kt:Nat} {tp:Pos} (a it e:vm) (hne:e≠it) :
  Turn P w K (.Tuple es kt tp) (Up K a) [e,it] e (λi h=>(∃old,IsEnum h e it (i:Int) old)/\h.IsListIter it a i) where
 mem:=by simp
 obj:=λi h st b hb=>by
  let⟨⟨old,he⟩,o,e1,c,d⟩:=st;rcases zB.mp hb with z | z
  ·subst z;exact{_,he,λv z=>by cases z}
  ·let z':b=it:=by simpa using z
   subst z';exact{o,e1,λv z=>by rw[d] at z;cases z}
 keep:=λi h h' st k=>{let ⟨old,he⟩:=st.1;{old,k e (by simp) _ he},st.2.at λo e=>k it (by simp) o e}
 item:=by
  intro X hP hw hK hc i pins s U H E I hf st hg;subst hP hw hK;let⟨xs,x,hq,hx⟩:=hg;let⟨its,rv,p,hz⟩:=I.list hq;let⟨u,hu,ru⟩:=rv.get hx;let⟨⟨old,he⟩,hit⟩:=st;refine wpAny_pyNext_enum_item he hit p.isList (x:=u) (by simpa using hu) hne λg1 ho hit1 hT hsz hk=>?_;refine{_,rfl,wpAny_letOwnedTupleGo_enum (s:={s with heap:=g1,toks:=s.toks+1}) ho λg2 he2 hs2=>?_};let hel:e<↑s:=yv he;let gT:g2.get? ↑s=some {cls:=.type "tuple",data:=.seq #[.int i s.toks,u]}:=hs2.extBut _ _ (yf hel) hT;let I1:Inv X pins U (upd H ↑s (.tup [.int (i:Int),x])) {s with heap:=g2,toks:=s.toks+1}:=
   I.GR hf (zk _) (λb ob hb q=>hs2.extBut _ _ (λz=>hb (by simp[z])) (hk b ob (λz=>hb (by simp[z])) (λz=>hb (by simp[z])) q))
    {by show 2<=sizeLine;decide,[.int i s.toks,u],.cons {_,rfl} (.cons ru .nil),{_,gT,rfl,_,rfl}}
  refine{.ref ↑s,_,I1,rfl,{_,x,I.cx.fresh (zk _),rfl,rfl,λys hy=>by rw[I.qL hy hq];exact hx},{{_,by simpa using he2},hit1.at λo q=>hs2.extBut _ _ hne.symm q},λb hb=>?_};let hb':=(hf b hb).1;obtain⟨o,ho',_⟩:∃o,s.heap.get? b=some o/\True:=by
   rcases zB.mp hb with z | z
   ·subst z;exact{_,he,trivial}
   ·let z':b=it:=by simpa using z
    subst z';let⟨o,e1,_⟩:=hit;exact{(o),e1,trivial}
  rw[aG (yg (yv ho'))];exact hb'
 done:=by
  intro X hP hw hK hc i pins s U H E I hf st hg;subst hP hw hK;let⟨xs,hq,hx⟩:=hg;let⟨its,rv,p,hz⟩:=I.list hq;let⟨⟨old,he⟩,hit⟩:=st;let hl:=⇑rv;exact wpAny_pyNext_enum_end (I.ok.hd hc) he hit p.isList (by simp;ext) λg1 eb=>{rfl,I.turns (t':=s.toks) hf λb o hb q=>eb b o (λz=>hb (by simp[z])) q}
 self:=λ_ _ _ _ _ st h=>let ⟨_,he⟩:=st.1;wpAny_pyIter_enum he h
def Sg (K:yx) (ta:TA):TI:=λU H R=>ta U H λvs H1=>∃a xs,vs=[.ref a]/\fi K H1 a xs/\R (Up K a) H1
def nI {a:Expr} {ta:TA} {es:List Expr} {kt:Nat} {tp p pos:Pos} (hg:Gl X "enumerate") (hm:X.mg "enumerate"= none) (ha:PA X [a] ta) (hs:starEach [a] X.env=[(false,eval a X.env)]<|>qe_) :
  PI X (.Tuple es kt tp) (.Call (.Name "enumerate" p) [a] [] pos) (Sg X.K ta):=by
 intro pins s U H R I h;refine Call_ (jM I hg hm Gg (yI (cQ (ha s U H _ I h) λus s1 z0=>?_) hs rfl));let⟨vs,H1,I1,r1,q1⟩:=z0;let⟨l,xs,e,hq,q⟩:=q1;subst e;cases r1 with
 | cons r rr=>
  cases rr;cases r;let⟨its,rv,pl,hz⟩:=I1.list hq;refine call_enumerate_list pl.isList λg he hit hsz hk=>?_;refine wpAny_pyIter_enum (s:={s1 with heap:=g}) he ?_;let I2:Inv X pins U H1 {s1 with heap:=g}:=I1.kept (t':=s1.toks) hk;refine{↑s1+1,[↑s1+1,↑s1],_,Up X.K l,H1,rfl,I2,Mv l ↑s1 (↑s1+1) (yf (xJ _)),{{_,by simpa using he},hit},λb hb=>?_,q};let hb':↑s1<=b:=by
   rcases zB.mp hb with z | z
   ·subst z;exact xV _
   ·let z':b=↑s1:=by simpa using z
    subst z';exact zk _
  exact I1.Bu hb' (I1.cx.fresh hb')
def LF (t:Bool) (K:yx) (H:Hp) (a:vm) (xs:List V):Prop:=match t with
 | true=>pQ K H a xs
 | false=>fi K H a xs
def Inv.sq (I:Inv X pins U H s) (h:LF t X.K H a xs):∃its:List vf,Vals xs its/\gK t s.heap a its.toArray/\⇑xs<=sizeLine:=by
 cases t
 ·let⟨its,r,p,z⟩:=I.list h;exact{(its),r,p.isList,z}
 ·let⟨its,r,p,z⟩:=I.tuple h;exact{(its),r,p,z}
def Inv.OI (I:Inv X pins U H s) (h:LF t X.K H a xs) (h':LF t X.K H a ys):xs=ys:=by
 cases t
 ·exact I.qL h h'
 ·exact I.DN h h'
def gK.lt (x:gK t h a items):a<h.objs.size:=by
 cases t
 ·let⟨o,e,_⟩:=x;exact yv e
 ·let⟨o,e,_⟩:=x;exact yv e
noncomputable def VV (t1 t2:Bool) (K:yx) (a b:vm):It:=
  {λi H=>∃xs ys x y,LF t1 K H a xs/\LF t2 K H b ys/\xs[i]?=some x/\ys[i]?=some y,
   λi H x H'=>∃p u v,H p=none/\x=.ref p/\H'=upd H p (.tup [u,v])/\(∀xs,LF t1 K H a xs->xs[i]?=some u)/\∀ys,LF t2 K H b ys->ys[i]?=some v,
   λi H=>∃xs ys,LF t1 K H a xs/\LF t2 K H b ys/\(⇑xs<=i\/⇑ys<=i)}
def Ol {P:vh} {w:vi} {K:yx} {es:List Expr} {kt:Nat} {tp:Pos} (t1 t2:Bool) (a b z TI TO i1 i2:vm) (D:Ux z TI TO i1 i2) (L1:Qv a z TO i1 i2) (L2:Qv b z TO i1 i2) :
  Turn P w K (.Tuple es kt tp) (VV t1 t2 K a b) [z,TI,TO,i1,i2] z (λi h=>Sk t1 t2 h z TI TO i1 i2 a b i .none) where
 mem:=by simp
 obj:=λi h st c hc=>by
  let⟨hz,hi,⟨_,_,ho⟩,h1,h2⟩:=st;simp only[zB,zC,yQ] at hc;rcases hc with e | e | e | e | e
  ·subst e;exact{_,hz,λv q=>by cases q}
  ·subst e;exact{_,hi,λv q=>by cases q}
  ·subst e;exact{_,ho,λv q=>by cases q}
  ·subst e;exact h1.get
  ·subst e;exact h2.get
 keep:=λi h h' st k=>{k z (by simp) _ st.z,k TI (by simp) _ st.ti,let ⟨x,y,e⟩:=st.to;{x,y,k TO (by simp) _ e},st.i1.at λo e=>k i1 (by simp) o e,st.i2.at λo e=>k i2 (by simp) o e}
 item:=by
  intro X hP hw hK hc i pins s U H E I hf st hg;subst hP hw hK;let⟨xs,ys,x,y,hq,hq',hx,hy⟩:=hg;let⟨its,rv,p,hz⟩:=I.sq hq;let⟨jts,rw',p',hz'⟩:=I.sq hq';let⟨u,hu,ru⟩:=rv.get hx;let⟨u',hu',ru'⟩:=rw'.get hy;refine Od D L1 L2 st p p' (x:=u) (y:=u') (by simpa using hu) (by simpa using hu') λg1 S1 hT hk=>?_;refine{_,rfl,wpAny_letOwnedTupleGo_zip (s:={s with heap:=g1}) S1.z λg2 z2 hs2=>?_};let zl:z<↑s:=yv st.z;let gT:g2.get? ↑s=some {cls:=.type "tuple",data:=.seq #[u,u']}:=hs2.extBut _ _ (yf zl) hT;let I1:Inv X pins U (upd H ↑s (.tup [x,y])) {s with heap:=g2}:=
   I.GR (t':=s.toks) hf (zk _) (λc ob hb q=>hs2.extBut _ _ (λe=>hb (by simp[e])) (hk c ob (λe=>hb (by simp[e])) (λe=>hb (by simp[e])) (λe=>hb (by simp[e])) (λe=>hb (by simp[e])) q))
    {by show 2<=sizeLine;decide,[u,u'],.cons ru (.cons ru' .nil),{_,gT,rfl,_,rfl}}
  refine{.ref ↑s,_,I1,rfl,{_,x,y,I.cx.fresh (zk _),rfl,rfl,λzs h=>by rw[I.OI h hq];exact hx,λzs h=>by rw[I.OI h hq'];exact hy},{z2,hs2.extBut _ _ D.a1 S1.ti,let ⟨x,y,e⟩:=S1.to;{x,y,hs2.extBut _ _ D.a2 e},S1.i1.but hs2 D.a3,S1.i2.but hs2 D.a4},λc hc=>?_};let hb':=(hf c hc).1;obtain⟨o,ho',_⟩:∃o,s.heap.get? c=some o/\True:=by
   obtain⟨hz,hi,⟨_,_,ho⟩,⟨q1,e1,_⟩,⟨q2,e2,_⟩⟩:_/\_/\_/\_/\_:={(st.z),st.ti,st.to,st.i1.get,st.i2.get}
   simp only[zB,zC,yQ] at hc;rcases hc with e | e | e | e | e
   ·subst e;exact{_,hz,trivial}
   ·subst e;exact{_,hi,trivial}
   ·subst e;exact{_,ho,trivial}
   ·subst e;exact{_,e1,trivial}
   ·subst e;exact{_,e2,trivial}
  rw[aG (yg (yv ho'))];exact hb'
 done:=by
  intro X hP hw hK hc i pins s U H E I hf st hg;subst hP hw hK;let⟨xs,ys,hq,hq',hx⟩:=hg;let⟨its,rv,p,hz⟩:=I.sq hq;let⟨jts,rw',p',hz'⟩:=I.sq hq';let hl:=⇑rv;let hl':=⇑rw';refine Oc (I.ok.hd hc) D L1 L2 st p p' ?_ λg1 eb=>{rfl,I.turns (t':=s.toks) hf λc o hb q=>eb c o (λe=>hb (by simp[e])) (λe=>hb (by simp[e])) (λe=>hb (by simp[e])) (λe=>hb (by simp[e])) q}
  rcases hx with h | h
  ·exact .inl (by simp;ext)
  ·exact .inr (by simp;ext)
 self:=λ_ _ _ _ _ st h=>wpAny_pyIter_zip st.z h
def WH (K:yx) (ta:TA):TI:=λU H R=>ta U H λvs H1=>∃t1 t2 a b xs ys,vs=[.ref a,.ref b]/\LF t1 K H1 a xs/\LF t2 K H1 b ys/\R (VV t1 t2 K a b) H1
def Pb {a b:Expr} {ta:TA} {es:List Expr} {kt:Nat} {tp p pos:Pos} (hg:Gl X "zip") (hm:X.mg "zip"= none) (ha:PA X [a,b] ta)
  (hs:starEach [a,b] X.env=[(false,eval a X.env),(false,eval b X.env)]<|>qe_) (hs2:starEach [b] X.env=[(false,eval b X.env)]<|>qe_) :
  PI X (.Tuple es kt tp) (.Call (.Name "zip" p) [a,b] [] pos) (WH X.K ta):=by
 intro pins s U H R I h;refine Call_ (jM I hg hm Ug (yI (cQ (ha s U H _ I h) λus s1 z0=>?_) (by rw[hs,hs2]) (by rw[hs2];rfl)));let⟨vs,H1,I1,r1,q1⟩:=z0;let⟨t1,t2,a,b,xs,ys,e,hq,hq',q⟩:=q1;subst e;cases r1 with
 | cons r rr=>
  cases rr with
  | cons r' rr=>
   cases rr;cases r;cases r';let⟨its,rv,pl,hz⟩:=I1.sq hq;let⟨jts,rv',pl',hz'⟩:=I1.sq hq';let la:=pl.lt;let lb:=pl'.lt;refine Of pl pl' λg S hk=>?_;refine wpAny_pyIter_zip (s:={s1 with heap:=g}) S.z ?_;let I2:Inv X pins U H1 {s1 with heap:=g}:=I1.kept (t':=s1.toks) hk;let D:Ux (↑s1+4) (↑s1+2) (↑s1+3) ↑s1 (↑s1+1):=by
    constructor <;> (show _≠(_:Nat)) <;> ext
   let L:∀c,c<↑s1->Qv c (↑s1+4) (↑s1+3) ↑s1 (↑s1+1):=λc hc=>by
    constructor <;> (show _≠(_:Nat)) <;> ext
   refine{↑s1+4,[_,_,_,_,_],_,VV t1 t2 X.K a b,H1,rfl,I2,Ol t1 t2 a b _ _ _ _ _ D (L a la) (L b lb),S,λc hc=>?_,q};let hb':↑s1<=c:=by
    simp only[zB,zC,yQ] at hc;rcases hc with e | e | e | e | e <;> (subst e;first | exact Nat.le_add_right _ _ | exact zk _)
   exact I1.Bu hb' (I1.cx.fresh hb')
def Fi (bs:List Bool):((List.range ⇑bs).all λi=>(bs[i]?).getD true)=bs.all id:=by
 rw[xG,ym,ym];constructor
 ·intro h b hb
  let⟨i,hi,e⟩:=List.mem_iff_getElem.mp hb;have:=h i (yN.mpr hi);rw[zb hi,e] at this;exact this
 ·intro h i hi
  let hi':=yN.mp hi;rw[zb hi'];exact h _ (yi hi')
def nS (hc:X.calm=true):fH X (.builtin "all") (λxs H Q=>∃(a:vm) (bs:List Bool),xs=[.ref a]/\fi X.K H a (bs.map V.bl)/\Q (.bl (bs.all id)) H):=by
 intro pins s U H xs us Q I r h;let⟨a,bs,e,hq,q⟩:=h;subst e;cases r with
 | cons r rr=>
  cases rr;cases r;let⟨its,rv,p,hz⟩:=I.list hq;let hlt:a<↑s:=by let⟨o,n,e,_⟩:=p;exact yv e
  let hlen:⇑bs=⇑its:=by have:=⇑rv;rw[za] at this;exact this
  refine call_all_walk (wC p.isList ?_);refine{↑s,[↑s,a],[↑s],its.toArray.size,_,_,λi=>(bs[i]?).getD true,rfl,Walks.list (A:=X.A.in1) (I.ok.hd hc) _ a (yg hlt) its.toArray,
   {{_,yu _ rfl,rfl,rfl},p.isList.push _},λi v s' Q' E' hP hQ=>?_,λh' tk hk=>?_}
  ·let hP':its[i]?=some v:=by simpa using hP
   let hi:i<⇑bs:=by rw[hlen];exact(zw.mp hP').1
   let hm:(bs.map V.bl)[i]?=some (.bl bs[i]):=by rw[zI,zb hi];rfl
   let⟨u,hu,ru⟩:=rv.get hm;rw[hP'] at hu;cases hu;cases ru;dsimp only at hQ;rw[zb hi] at hQ;exact y9 hQ
  ·let e:((List.range its.toArray.size).all λi=>(bs[i]?).getD true)=bs.all id:=by rw[zZ,<-hlen];exact Fi bs
   rw[e];exact{.bl _,H,I.kept λb o x=>hk b o (λhm=>by rw[zy.mp hm] at x;exact yc _ (yv x)) (yr _ x),rfl,q}
end
section
variable {X:Cx} {pos:Pos}
end
inductive Ty where
 | bN | bl | int | str | tup | lst | Vq
noncomputable def Ty.name:Ty->String
 | .bN=> "NoneType" | .bl=> "bool" | .int=> "int" | .str=> "str" | .tup=> "tuple" | .lst=> "list" | .Vq=> "dict"
noncomputable def UL:Option HO->Option Ty
 | some (.tup _)=>some .tup
 | some (.lst _)=>some .lst
 | some (.iI _ (.lst _))=>some .lst
 | some (.dK _)=>some .Vq
 | some (.dT _)=>some .Vq
 | _=>none
noncomputable def tag (H:Hp):V->Option Ty
 | .bN=>some .bN
 | .bl _=>some .bl
 | .int _=>some .int
 | .str _=>some .str
 | .ref a=>UL (H a)
 | _=>none
def SI {K:yx} {H:Hp} {x:V} {n:Ty} (h:tag H x=some n):tM K H x (.type n.name):=by
 cases x with
 | bN=>cases h;exact .bN
 | bl b=>cases h;exact .bl b
 | int i=>cases h;exact .int i
 | str y=>cases h;exact .str y
 | Mi _=>cases h
 | Rw _=>cases h
 | ty _=>cases h
 | ref a=>
  let h:UL (H a)=some n:=h;cases q:H a with
  | none=>rw[q] at h;cases h
  | some o=>
   rw[q] at h;cases o with
   | tup _=>cases h;exact .tup q
   | lst _=>cases h;exact .lst q
   | iI _ o=>
    cases o with
    | lst _=>cases h;exact .iI q
    | _=>cases h
   | dK _=>cases h;exact .dK q
   | dT _=>cases h;exact .dT q
   | _=>cases h
def Ty.sub:Ty->Ty->Bool
 | .bl,.bl=>true | .int,.int=>true | .str,.str=>true | .tup,.tup=>true | .lst,.lst=>true | .Vq,.Vq=>true | .bN,.bN=>true
 | .bl,.int=>true
 | _,_=>false
def Rp (K:yx) (a b:Ty):PySem.W.kitOne K (.type a.name) (.type b.name)=some (a.sub b):=by
 cases a <;> cases b <;> first | rfl | decide +kernel | kernel_rfl
def Wm (c:Ty) (ta:TE):TE:=λU H Q=>ta U H λx H1=>∃n,tag H1 x=some n/\Q (.bl (n.sub c)) H1
section
variable {X:Cx}
def Ph (c:Ty) (hx:bootBuiltins x=some (.type c.name)) (ha:PE X a ta) (hm:X.mg "isinstance"= none) (hm2:X.mg x=none)
  (hg:Gl X "isinstance"<|>qe_) (hg2:Gl X x<|>qe_) (hn:x≠ "__name__"<|>qb_) (hd:(x == ("__debug__": Str))=false<|>qb_)
  (hs:starEach [a,.Name x p2] X.env=(false,eval a X.env)::starEach [.Name x p2] X.env<|>qe_) (hs2:starEach [.Name x p2] X.env=[(false,eval (.Name x p2) X.env)]<|>qe_) :
  PE X (.Call (.Name "isinstance" p1) [a,.Name x p2] [] pos) (Wm c ta):=by
 let hc:fH X (.builtin "isinstance") (λxs H Q=>∃v n,xs=[v,.ty c.name]/\tag H v=some n/\Q (.bl (n.sub c)) H):=by
  intro pins s U H xs us Q I r h;let⟨v,n,e,ht,q⟩:=h;subst e;cases r with
  | cons r rr=>
   cases rr with
   | cons r' rr=>
    cases rr;cases r';exact M6 I r (SI ht) (Rp _ _ _) λtk=>{.bl _,H,I.tok tk,rfl,q}
 let hb:PE X (.Name x p2) (tC (.ty c.name)):=Rb (u:=.type c.name) hg2 hm2 hx rfl hn hd;let ht:=HV (p:=p1) (pos:=pos) hc hg hm (by decide +kernel) (af ha (af hb ag hs2) hs) (he:=hs) (hpl:=by rw[hs2];rfl);intro pins s U H Q I h;let mono:ta U H (λx H1=>∃n,tag H1 x=some n/\Q (.bl (n.sub c)) H1)->N3 (λxs H Q=>∃v n,xs=[v,.ty c.name]/\tag H v=some n/\Q (.bl (n.sub c)) H) (bD ta (bD (tC (.ty c.name)) d4)) U H Q:=λz=>by
  show ta U H λx H1=>∃v n,[x,V.ty c.name]=[v,.ty c.name]/\tag H1 v=some n/\Q (.bl (n.sub c)) H1;let e:(λx H1=>∃n,tag H1 x=some n/\Q (.bl (n.sub c)) H1)=(λ(x:V) (H1:Hp)=>∃v n,[x,V.ty c.name]=[v,V.ty c.name]/\tag H1 v=some n/\Q (.bl (n.sub c)) H1):=by
   funext x H1
   apply propext;constructor
   ·rintro⟨n,h1,h2⟩;exact{(x),n,rfl,h1,h2}
   ·rintro⟨v,n,e,h1,h2⟩;cases e;exact{(n),h1,h2}
  rw[<-e];exact z
 exact ht s U H Q I (mono h)
end
inductive Dt where
 | bN | bl (b:Bool) | int (i:Int) | str (x:Str) | tup (l:List Dt)
mutual
def Is (H:Hp):Dt->V->Prop
 | .bN,v=>v=.bN
 | .bl b,v=>v=.bl b
 | .int i,v=>v=.int i
 | .str x,v=>v=.str x
 | .tup l,v=>∃a vs,v=.ref a/\H a=some (.tup vs)/\aC H l vs
def aC (H:Hp):List Dt->List V->Prop
 | [],vs=>vs=[]
 | d::l,vs=>∃v r,vs=v::r/\Is H d v/\aC H l r
end
mutual
theorem Is.mono (s:aF H H'):∀{d:Dt} {v:V},Is H d v->Is H' d v
 | .bN,_,h=>by unfold Is at h ⊢;exact h
 | .bl _,_,h=>by unfold Is at h ⊢;exact h
 | .int _,_,h=>by unfold Is at h ⊢;exact h
 | .str _,_,h=>by unfold Is at h ⊢;exact h
 | .tup l,_,h=>by
  unfold Is at h ⊢;let⟨a,vs,e,ha,hl⟩:=h;exact{a,vs,e,s _ _ ha,aC.mono s hl}
theorem aC.mono (s:aF H H'):∀{l:List Dt} {vs:List V},aC H l vs->aC H' l vs
 | [],_,h=>by unfold aC at h ⊢;exact h
 | d::l,_,h=>by
  unfold aC at h ⊢;let⟨v,r,e,hv,hr⟩:=h;exact{v,r,e,Is.mono s hv,aC.mono s hr}
end
theorem aC.len:∀{l:List Dt} {vs:List V},aC H l vs->⇑vs=⇑l
 | [],_,h=>by unfold aC at h;rw[h];rfl
 | d::l,_,h=>by
  unfold aC at h;let⟨v,r,e,_,hr⟩:=h;rw[e,zt,zt,aC.len hr]
theorem aC.get:∀{l:List Dt} {vs:List V} {i:Nat} {v:V},aC H l vs->vs[i]?=some v->∃d,l[i]?=some d/\Is H d v
 | [],_,i,v,h,e=>by unfold aC at h;rw[h] at e;simp at e
 | d::l,_,i,v,h,e=>by
  unfold aC at h;let⟨u,r,e1,hv,hr⟩:=h;subst e1;cases i with
  | zero=>simp at e;subst e;exact{(d),rfl,hv}
  | succ i=>
   let⟨d',h1,h2⟩:=aC.get (i:=i) hr (by simpa using e);exact{d',by simpa using h1,h2}
def aF.Bh (e:upd H p o=H') (h:H p=none):aF H H':=e▸bz h
def B3 (e:upd H p o=H'):H' p=some o:=e▸aE
def bX {c:Bool} {A B:Prop} (h:c=true) (q:A):if c=true then A else B:=by rw[yK h];exact q
def b7 {c:Bool} {A B:Prop} (h:c=false) (q:B):if c=true then A else B:=by rw[yJ (by rw[h];decide)];exact q
def bK:⇑[a,b]<=sizeLine:=by show 2<=sizeLine;decide
def iP:⇑[a,b,c]<=sizeLine:=by show 3<=sizeLine;decide
def ig (h:H p=some (.tup [.int a,.int b])):Is H (.tup [.int a,.int b]) (.ref p):=by
 unfold Is;exact{p,_,rfl,h,by simp only[aC,Is];exact{_,_,rfl,rfl,_,_,rfl,rfl,rfl}}
def kf {K:yx} {a:vm} {xs:List V} {g:TG} {tb:TS} {D:Ends} {U:St} {H:Hp} (Pv:Nat->St->Hp->Prop) (h0:Pv 0 U H) (hl:∀i U H,i<=⇑xs->Pv i U H->fi K H a xs)
  (hs:∀i x U H p H',xs[i]?=some x->Pv i U H->aF H H'->H' p=some (.tup [.int (i:Int),x])->g (.ref p) U H' λσ2 H2=>tb {D with nx:=Pv (i+1),ct:=Pv (i+1),bk:=D.nx} σ2 H2) (hd:∀U H,Pv ⇑xs U H->D.nx U H) :
  ∃W:Nat->Nat->St->Hp->Prop,(∃m,W 0 m U H)/\∀i m U H,W i m U H->
   ((Up K a).stop i H/\D.nx U H)\/((Up K a).go i H/\∃N:St->Hp->Prop,(∀U' H',N U' H'->∃m',m'<m/\W (i+1) m' U' H')/\∀x H',(Up K a).JP i H x H'->g x U H' λσ2 H2=>tb {D with nx:=N,ct:=N,bk:=D.nx} σ2 H2):=by
 refine{λi m U H=>m=⇑xs-i/\i<=⇑xs/\Pv i U H,{⇑xs,by simp,yd _,h0},?_};rintro i m U H ⟨rfl,hi,p⟩;let q:=hl i U H hi p
 by_cases hlt:i<⇑xs
 ·refine .inr {{xs,xs[i],q,by simp[hlt]},Pv (i+1),λU' H' p'=>{⇑xs-(i+1),(),rfl,hlt,p'},λx H' y=>?_}
  let⟨pp,v,hp,e1,e2,y⟩:=y;subst e1 e2;exact hs i v U H pp _ (y xs q) p (bz hp) aE
 ·let e:i=⇑xs:=()
  subst e;exact .inl {{xs,q,zk _},hd U H p}
section
variable {X:Cx} {pos:Pos}
def Inv.Va (I2:Inv X pins σ2 H2 s2) (hC:↑s2<=C) (I:Inv X pins U H s) (hn:H C=none) (hs:Heap.SameBut C s.heap h'):Inv X pins U H {s with heap:=h'}:=by
 let⟨f0,f1,f2,f3,f4,f5⟩:=I2.Bu hC hn;exact I.turned (t':=s.toks) (λb o hb e=>hs.extBut b o hb e) f0 f1 f3 f4 f5
end
section
variable {X:Cx} {pins:List (vm×Obj)} {U:St} {H:Hp} {s:vg}
def Sz (n:Nat) (i:Int):Prop:=i.natAbs<2^n
def Sz.mono (h:Sz n i) (k:n<=m):Sz m i:=z9 h (Nat.pow_le_pow_right ∅ k)
def Sz.mul (h:Sz n i) (k:Sz m j):Sz (n+m) (i*j):=by
 unfold Sz at *;rw[Int.natAbs_mul,Nat.pow_add];exact Nat.mul_lt_mul'' h k
def Sz.add (h:Sz n i) (k:Sz n j):Sz (n+1) (i+j):=by
 unfold Sz at *;have:=Int.natAbs_add_le i j;rw[Nat.pow_succ];ext
def Sz.le (h:Sz n j) (h0:0<=i) (hl:i<=j):Sz n i:=by
 unfold Sz at *;have:i.natAbs<=j.natAbs:=()
 ext
def Sz.bits (h:Sz n i):Builtin.Int.intBits i<=n:=by
 unfold Builtin.Int.intBits;split
 ·exact yd _
 ·rename_i hz
  have:i.natAbs≠0:=by
   intro e;have:i=0:=Int.natAbs_eq_zero.mp e;subst this;exact hz rfl
  have:=(Nat.log2_lt this).mpr h;ext
def VE (i j:Int):Prop:=Sz 20000 i/\Sz 20000 j
def VF (_ j:Int):Prop:=0<j/\Sz 8999 j
def qC:nV X (binaryOp .Mult) (rI VE λi j=>.int (i*j)):=Uv λ_ _ _ _ _ _ _ hc q=>mul_int q (.of_bits (zK hc.1.bits ∅) (zK hc.2.bits ∅))
def qD:nV X (binaryOp .FloorDiv) (rI VF λi j=>.int (i/j)):=Uv λi j _ _ _ _ _ hc q=>by
 let h1:(0:Int)<j:=hc.1;refine floordiv_int () (by rw[w9 i ()];exact q) (.inl (PyProof.noPylong_of_log2 ?_));let h2:j.natAbs<2^8999:=hc.2;let h3:j.natAbs≠0:=()
 exact xB ((Nat.log2_lt h3).mpr h2) ∅
def Ql {ns:List Int} {j:Int} (h0:0<=j) (h1:j<⇑ns):vJ (ns.map V.int) j=some (.int (ns.getD j.toNat 0)):=by
 let⟨k,rfl⟩:=yH h0;refine bq ?_;let hk:k<⇑ns:=()
 rw[zI,zb hk];simp[List.getD,hk]
def Uy (K:yx) (a:vm) (n:Nat):It:=
 {λi H=>∃xs,fi K H a xs/\⇑xs=n/\i<n,λi H x H'=>H'=H/\∀xs,fi K H a xs->xs[n-1-i]?=some x,λi _=>i=n}
def Oo {P:vh} {w:vi} {K:yx} {tg:Expr} (a it:vm) (n:Nat):Turn P w K tg (Uy K a n) [it] it (λi h=>i<=n/\h.IsRevIter it a ((n:Int)-1-i)) where
 mem:=by simp
 obj:=λi h st b hb=>by
  let e:b=it:=by simpa using hb
  subst e;let⟨o,e,c,d⟩:=st.2;exact{o,e,λv z=>by rw[d] at z;cases z}
 keep:=λi h h' st k=>{st.1,st.2.at λo e=>k it (by simp) o e}
 item:=by
  intro X hP hw hK hc i pins s U H E I hf st hg;subst hP hw hK;let⟨xs,hq,hn,hi⟩:=hg;let⟨its,rv,p,hz⟩:=I.list hq;let hx:xs[n-1-i]?=some xs[n-1-i]:=zb ();let⟨u,hu,ru⟩:=rv.get hx;let st':s.heap.IsRevIter it a ((n-1-i:Nat):Int):=by
   let e:(n:Int)-1-i=((n-1-i:Nat):Int):=()
   rw[<-e];exact st.2
  refine wpAny_pyNext_rev_item st' p.isList (x:=u) (by simpa using hu) λh' st2 sb=>?_;let I1:Inv X pins U H {s with heap:=h'}:=I.turns (t':=s.toks) hf λb o hb e=>sb.extBut b o (λz=>hb (by simp[z])) e;let⟨o,e,c,d⟩:=id st2;refine{u,rfl,Bt (s:={s with heap:=h'}) e c d ∅ {xs[n-1-i],H,I1,ru,{rfl,λys hy=>by rw[I.qL hy hq];exact hx},{(),?_},λb hb=>(hf b hb).1}};let e2:(n:Int)-1-((i+1:Nat):Int)=((n-1-i:Nat):Int)-1:=()
  rw[e2];exact st2
 done:=by
  intro X hP hw hK hc i pins s U H E I hf st hg;subst hP hw hK;let hi:i=n:=hg;let st':s.heap.IsRevIter it a (-1):=by
   let e:(n:Int)-1-i=-1:=()
   rw[<-e];exact st.2
  exact wpAny_pyNext_rev_end (I.ok.hd hc) st' λh' eb=>{rfl,I.turns (t':=s.toks) hf λb o hb e=>eb b o (λz=>hb (by simp[z])) e}
 self:=λ_ _ _ _ _ st h=>wpAny_pyIter_revIter st.2 h
def WK (K:yx) (ta:TA):TI:=λU H R=>ta U H λvs H1=>∃a xs,vs=[.ref a]/\fi K H1 a xs/\R (Uy K a ⇑xs) H1
def Jp:bootBuiltins "reversed"= some (.type "reversed"):=by decide +kernel
def Ti {tg a:Expr} {ta:TA} {p pos:Pos} (hg:Gl X "reversed") (hm:X.mg "reversed"= none) (ha:PA X [a] ta) (hs:starEach [a] X.env=[(false,eval a X.env)]<|>qe_) :
  PI X tg (.Call (.Name "reversed" p) [a] [] pos) (WK X.K ta):=by
 intro pins s U H R I h;refine Call_ (jM I hg hm Jp (yI (cQ (ha s U H _ I h) λus s1 z0=>?_) hs rfl));let⟨vs,H1,I1,r1,q1⟩:=z0;let⟨l,xs,e,hq,q⟩:=q1;subst e;cases r1 with
 | cons r rr=>
  cases rr;cases r;let⟨its,rv,pl,hz⟩:=I1.list hq;let hlen:=⇑rv;refine call_reversed_list pl.isList ?_;let I2:Inv X pins U H1 {s1 with heap:=s1.heap.push (revObj l ((its.toArray.size:Int)-1))}:=I1.kept (t':=s1.toks) λb o e=>yr _ e;let st:(s1.heap.push (revObj l ((its.toArray.size:Int)-1))).IsRevIter ↑s1 l ((⇑xs:Int)-1-((0:Nat):Int)):=by
   let e:(⇑xs:Int)-1-((0:Nat):Int)=(its.toArray.size:Int)-1:=by rw[zZ,hlen];ext
   rw[e];exact{_,yu _ rfl,rfl,rfl}
  refine wpAny_pyIter_revIter (s:={s1 with heap:=s1.heap.push (revObj l ((its.toArray.size:Int)-1))}) st ?_;refine{↑s1,[↑s1],_,Uy X.K l ⇑xs,H1,rfl,I2,Oo l ↑s1 ⇑xs,{yd _,st},λb hb=>?_,q};let e:b=↑s1:=by simpa using hb
  subst e;exact I1.Bu (zk _) (I1.cx.fresh (zk _))
end
def Rv {K:yx} {a:vm} {xs:List V} {g:TG} {tb:TS} {D:Ends} {U:St} {H:Hp} (Pv:Nat->St->Hp->Prop) (h0:Pv 0 U H) (hl:∀i U H,i<=⇑xs->Pv i U H->fi K H a xs)
  (hs:∀i x U H,i<⇑xs->xs[⇑xs-1-i]?=some x->Pv i U H->g x U H λσ2 H2=>tb {D with nx:=Pv (i+1),ct:=Pv (i+1),bk:=D.nx} σ2 H2) (hd:∀U H,Pv ⇑xs U H->D.nx U H) :
  ∃W:Nat->Nat->St->Hp->Prop,(∃m,W 0 m U H)/\∀i m U H,W i m U H->
   ((Uy K a ⇑xs).stop i H/\D.nx U H)\/((Uy K a ⇑xs).go i H/\∃N:St->Hp->Prop,(∀U' H',N U' H'->∃m',m'<m/\W (i+1) m' U' H')/\∀x H',(Uy K a ⇑xs).JP i H x H'->g x U H' λσ2 H2=>tb {D with nx:=N,ct:=N,bk:=D.nx} σ2 H2):=by
 refine{λi m U H=>m=⇑xs-i/\i<=⇑xs/\Pv i U H,{⇑xs,by simp,yd _,h0},?_};rintro i m U H ⟨rfl,hi,p⟩;let q:=hl i U H hi p
 by_cases hlt:i<⇑xs
 ·refine .inr {{(xs),q,rfl,hlt},Pv (i+1),λU' H' p'=>{⇑xs-(i+1),(),rfl,hlt,p'},λx H' y=>?_}
  let⟨e,y⟩:=y;subst e;exact hs i x U _ hlt (y xs q) p
 ·let e:i=⇑xs:=()
  subst e;exact .inl {rfl,hd U H p}
section
variable {X:Cx} {pos:Pos}
def U1 (K:yx):R2:=λx y H Q=>∃l b xs zs,x=.ref l/\y=.ref b/\fi K H l xs/\fi K H b zs/\⇑xs+⇑zs<=sizeLine/\∀p,H p=none->Q (.ref p) (upd H p (.lst (xs++zs)))
def gw:nV X (binaryOp .Add) (U1 X.K):=by
 intro pins s U H x y v u Q I rx ry h;let⟨l,b,xs,zs,rfl,rfl,hH,hB,hz,q⟩:=h;cases rx;cases ry;let⟨its,r,p,z⟩:=I.list hH;let⟨jts,r',p',z'⟩:=I.list hB;let l1:=⇑r;let l2:=⇑r';let⟨⟨cls,dd,data,sl⟩,ho,hc,n,hd⟩:=id p.isList;let⟨⟨cls2,dd2,data2,sl2⟩,ho2,hc2,n2,hd2⟩:=id p'.isList;simp only at hc hd hc2 hd2;subst hc hd hc2 hd2;refine concat_meets {_,ho,rfl} {_,ho2,rfl} noFill_list_add seq_list_add PySem.F.slot_list_add PySem.F.entry_list_add (PySem.F.args_list_add_2 _ _) (list_addW l b its.toArray jts.toArray n n2 dd dd2 sl sl2 (by rw[zZ,zZ];ext)) {ho,ho2,?_};let ea:its.toArray++jts.toArray=(its++jts).toArray:=by simp
 rw[ea];exact{.ref _,_,I.U9 (t':=s.toks) (r.append r') (by rw[zg];ext),rfl,q _ I.fresh}
end
def Cp (n:Nat) (x:Int×Int):Prop:=Sz n x.1/\Sz n x.2
theorem Cp.red (ht:0<=t) (hb:0<b) (h1:Sz n t) (h2:Sz n b):Cp n (Lm.red t b):=by
 let⟨g,g0,_,_,p,l⟩:=Lm.kF (t:=t) hb;exact{h1.le (Lm.AV ht) (Lm.AW ht),h2.le (yZ p) l}
theorem Cp.add (hx:Lm.Rd x) (hy:Lm.Rd y) (h:Cp n x) (k:Cp m y):Cp (n+m+1) (Lm.add x y):=by
 let⟨a,b,_⟩:=hx.pos;let⟨c,d,_⟩:=hy.pos;refine Cp.red (Int.add_nonneg (xX a ()) (xX c ())) (xt b d) ?_ ((h.2.mul k.2).mono ());refine Sz.add (h.1.mul k.2) ?_;have:=k.1.mul h.2;rw[Nat.add_comm] at this;exact this
noncomputable def dec (n:Int):Str:=Str.ofString (toString n)
def kz {x y:Str} (h:x.cps.toList=y.cps.toList):x=y:=by
 cases x;cases y;simp only[Str.mk.injEq];exact Array.toList_inj.mp h
def cF (x y:Str):(x++y).cps.toList=x.cps.toList++y.cps.toList:=Array.toList_append ..
def bT (x y:Str):⇑(x++y)=⇑x+⇑y:=Array.size_append ..
def NH (x y z:Str):x++y++z=x++(y++z):=kz (by rw[cF,cF,cF,cF,zD])
def Ab (m:Nat):(dec (m:Int)).cps.toList=(Nat.toDigits 10 m).map Char.toNat:=PySem.W.KIN.signs_num m
def FQ (m:Nat):⇑(dec (m:Int))=⇑(Nat.toDigits 10 m):=by
 let h:=yV List.length (Ab m);rw[za,yM] at h;exact h
def RD (h:c∈(Nat.toDigits 10 m).map Char.toNat):48<=c/\c<=57:=by
 let⟨ch,hc,e⟩:=zF.mp h;let r:=Nat.isDigit_of_mem_toDigits ∅ ∅ hc;rw[<-e];simp only[Char.isDigit,zM,xy] at r;exact{(r.1),r.2}
section
variable {X:Cx}
end
section
variable {X:Cx}
def Tc:V->Option Int->Option Int->Hp->VK->Prop:=λx lo hi H Q=>∃t:Str,x=.str t/\⇑t<=sizeLine/\Q (.str (PySem.Txt.slice t lo hi)) H
def J9:Qs X Tc:=by
 intro pins s U H x v vl vu lo hi sl Q I rx hs pl pu h;let⟨t,rfl,hz,q⟩:=h;let⟨tk,rfl⟩:=rx;let⟨o,ho,hc,hd⟩:=hs;let fin:∀(l u:Option (Int×Tok)),l.map (·.1)=lo->u.map (·.1)=hi->partValue l=vl->partValue u=vu->
   ∃T id,typeLookup (.type T) "__getitem__"= pure (some (.builtin id))/\s.TypeIs (.str t tk) T/\wpAny (model X.prog X.w) X.A (getItem (.str t tk) (.ref sl)) (EP X pins U Q) X.xe s:=by
  intro l u e1 e2 e3 e4;subst e1 e2 e3 e4;exact{"str",_,F.slot_str_getitem.lookup,wH _ _ _,wpAny_getItem_str_slice (l:=l) (u:=u) (st:=none) {(o),ho,hc,hd} rfl
   (post_val_or_str {zK (PySem.Txt.slice_le t _ _) hz,λt' k=>{.str _,H,I.tok _,{_,rfl},q}})}
 cases pl with
 | none=>
  cases pu with
  | none=>exact fin none none rfl rfl rfl rfl
  | int j tj=>exact fin none (some (j,tj)) rfl rfl rfl rfl
 | int i ti=>
  cases pu with
  | none=>exact fin (some (i,ti)) none rfl rfl rfl rfl
  | int j tj=>exact fin (some (i,ti)) (some (j,tj)) rfl rfl rfl rfl
noncomputable def Vz (x:Str):It:={λi _=>i<⇑x,λi H v H'=>H'=H/\∃c,x.cps[i]?=some c/\v=.str {#[c]},λi _=>⇑x<=i}
def Om {P:vh} {w:vi} {K:yx} {tg:Expr} (x:Str) (t:Tok) (it:vm) (ty:String) (hty:ty ="str_ascii_iterator"\/ty ="str_iterator"):Turn P w K tg (Vz x) [it] it (λi h=>i<=⇑x/\h.IsStrIter it ty x t i) where
 mem:=by simp
 obj:=λi h st b hb=>by
  let e:b=it:=by simpa using hb
  subst e;let⟨_,o,e,c,d⟩:=st;exact{o,e,λv z=>by rw[d] at z;cases z}
 keep:=λi h h' st k=>{st.1,let ⟨o,ho,r⟩:=st.2;{o,k it (by simp) o ho,r}}
 item:=by
  intro X hP hw hK hc i pins s U H E I hf st hg;subst hP hw hK;let W:Walks X.prog X.w X.A it [it] [it] x.cps.size (SignAt x) (λi h=>h.IsStrIter it ty x t i):=by
   rcases hty with rfl | rfl
   ·exact Walks.strAscii (I.ok.hd hc) it x t
   ·exact Walks.strWide (I.ok.hd hc) it x t
  refine W.item i s _ _ hg st.2 λv h' tk hv z' kk=>?_;let⟨c,u,hcx,rfl⟩:=hv;let I1:Inv X pins U H {s with heap:=h',toks:=tk}:=I.turns hf λb o hb e=>kk b o (by simpa using hb) e;let⟨o,e,cc,d⟩:=id z';let hgl:i<⇑x:=hg;refine{_,rfl,Bt (s:={s with heap:=h',toks:=tk}) (n:=ty) e cc d ?_ {.str {#[c]},H,I1,{(u),rfl},{(rfl),c,hcx,rfl},{(hgl),z'},λb hb=>(hf b hb).1}};rcases hty with rfl | rfl <;> decide
 done:=by
  intro X hP hw hK hc i pins s U H E I hf st hg;subst hP hw hK;let hi:i=x.cps.size:=Nat.le_antisymm st.1 hg;subst hi;let W:Walks X.prog X.w X.A it [it] [it] x.cps.size (SignAt x) (λi h=>h.IsStrIter it ty x t i):=by
   rcases hty with rfl | rfl
   ·exact Walks.strAscii (I.ok.hd hc) it x t
   ·exact Walks.strWide (I.ok.hd hc) it x t
  exact W.done s _ _ st.2 λh' tk eb=>{rfl,I.turns hf λb o hb e=>eb b o (by simpa using hb) e}
 self:=λA i s Q E z h=>by
  rcases hty with rfl | rfl
  ·exact wpAny_pyIter_striter_ascii z.2 h
  ·exact wpAny_pyIter_striter_wide z.2 h
def WJ (tl:TE):TI:=λU H R=>tl U H λx H1=>∃t,x=.str t/\R (Vz t) H1
def Pc {tg l:Expr} {tl:TE} (hl:PE X l tl):PI X tg l (WJ tl):=by
 intro pins s U H R I h;refine cQ (hl s U H _ I h) λv s1 z0=>?_;let⟨x,H1,I1,r1,q1⟩:=z0;let⟨t,e,q⟩:=q1;subst e;let⟨tk,rfl⟩:=r1;refine wpAny_pyIter_strU ?_;refine{↑s1,[↑s1],_,_,H1,rfl,I1.kept (t':=s1.toks) λb o e=>yr _ e,Om t tk _ (strIterType t) ?_,{yd _,_,yu _ rfl,rfl,rfl},λb hb=>?_,q}
 ·unfold strIterType
  split
  ·exact .inl rfl
  ·exact .inr rfl
 ·let e:b=↑s1:=by simpa using hb
  subst e;exact I1.Bu (zk _) (I1.cx.fresh (zk _))
theorem DK:∀(l:List (Str×Tok)),Vals ((l.map (·.1)).map V.str) (strValues l)
 | []=>.nil
 | (x,t)::r=>.cons {(t),rfl} (DK r)
def S9:V->List V->Hp->VK->Prop:=λx vs H Q=>∃(t y:Str),x=.str t/\vs=[.str y]/\⇑y=1/\⇑t+2<=sizeLine/\∀l,H l=none->Q (.ref l) (upd H l (.lst ((PySem.Txt.split t y).map V.str)))
def iX:Uo X "str.split" S9:=by
 intro pins s U H x vs v us Q I rx rv h;let⟨t,y,rfl,rfl,hy,hz,q⟩:=h;let⟨tk,rfl⟩:=rx;let⟨u,rfl,tk',rfl⟩:=rv.one;let hy':(⇑y == 0)=false:=by rw[hy];rfl
 let hle:=split_le t y;let fin:∀(l:List (Str×Tok)) (k:Nat),l.map (·.1)=PySem.Txt.split t y->
   EP X pins U Q (.ref ↑s) {s with heap:=s.heap.push {cls:=.type "list",data:=.seq (strValues l).toArray},toks:=k}:=λl k e=>
  {.ref _,_,I.U9 (t':=k) (by rw[<-e];exact DK l) (by rw[za];ext),rfl,q _ I.fresh}
 cases h1:(decide (⇑t<⇑y)||decide (Builtin.Str.strKind t<Builtin.Str.strKind y))
 ·cases hf:(Builtin.Str.occurrences t y 0 ⇑t (⇑t+1)).isEmpty
  ·let es:PySem.Txt.split t y=Builtin.Str.partsBetween t (Builtin.Str.occurrences t y 0 ⇑t (⇑t+1)) ⇑y:=by
    unfold PySem.Txt.split;rw[h1,hf];rfl
   refine wq F.slot_str_split (wH s t tk) F.entry_str_split (F.args_str_split_2 _ _) (meets_str_split_sep t y tk tk' h1 hy' hf () (by rw[<-es];ext)) ?_;rw[strsFrom_eq];exact fin (numbered s.toks _) _ ((numbered_texts _ _).trans es.symm)
  ·let es:PySem.Txt.split t y=[t]:=by
    unfold PySem.Txt.split;rw[h1,hf];rfl
   refine wq F.slot_str_split (wH s t tk) F.entry_str_split (F.args_str_split_2 _ _) (meets_str_split_not_found t y tk tk' h1 hy' hf) ?_;exact fin [(t,tk)] _ es.symm
 ·let es:PySem.Txt.split t y=[t]:=by
   unfold PySem.Txt.split;rw[h1];rfl
  refine wq F.slot_str_split (wH s t tk) F.entry_str_split (F.args_str_split_2 _ _) (meets_str_split_cannot_occur t y tk tk' h1) ?_;exact fin [(t,tk)] _ es.symm
def Q1:V->List V->Hp->VK->Prop:=λx vs H Q=>∃(t y:Str),x=.str t/\vs=[.str y]/\Q (.bl (decide (0+⇑y<=⇑t)&&Builtin.Str.subAt t y 0)) H
def C9:Uo X "str.startswith" Q1:=by
 intro pins s U H x vs v us Q I rx rv h;let⟨t,y,rfl,rfl,q⟩:=h;let⟨tk,rfl⟩:=rx;let⟨u,rfl,tk',rfl⟩:=rv.one;exact wq F.slot_str_startswith (wH s t tk) F.entry_str_startswith (F.args_str_startswith_2 _ _) (gives_str_startswith t y tk tk').meets {.bl _,H,I,rfl,q}
def F9:fH X (.type "int") (λxs H Q=>∃(t:Str) (n:Int),xs=[.str t]/\PySem.intText? t=some n/\⇑t<=640/\Q (.int n) H):=by
 intro pins s U H xs us Q I r h;let⟨t,n,rfl,hn,hl,q⟩:=h;let⟨u,rfl,tk,rfl⟩:=vals1 r;exact PySem.W.KIN.call_text hn hl {.int n,H,I.tok _,{_,rfl},q}
end
def join_one (sep x:Str):Str.join sep [x]=x:=rfl
def eR (sep x y:Str) (r:List Str):Str.join sep (x::y::r)=x++sep++Str.join sep (y::r):=rfl
theorem Iz:∀{ps qs:List Str},ps≠[]->qs≠[]->(∀p∈ps,c∉p.cps.toList)->(∀q∈qs,c∉q.cps.toList)->Str.join {#[c]} ps=Str.join {#[c]} qs->ps=qs
 | [],_,h,_,_,_,_=>absurd rfl h
 | _,[],_,h,_,_,_=>absurd rfl h
 | [p],[q],_,_,_,_,h=>by rw[join_one,join_one] at h;rw[h]
 | [p],q::q2::r,_,_,hp,_,h=>by
  rw[join_one,eR] at h;let e:=yV (λz:Str=>z.cps.toList) h;simp only[cF] at e;exact absurd (show c∈p.cps.toList by rw[e];simp) (hp p zp)
 | p::p2::r,[q],_,_,_,hq,h=>by
  rw[join_one,eR] at h;let e:=yV (λz:Str=>z.cps.toList) h;simp only[cF] at e;exact absurd (show c∈q.cps.toList by rw[<-e];simp) (hq q zp)
 | p::p2::r,q::q2::r',_,_,hp,hq,h=>by
  rw[eR,eR] at h;let e:=yV (λz:Str=>z.cps.toList) h;simp only[cF,zD] at e;let⟨e1,e2⟩:=Lm.Mg (hp p zp) (hq q zp) (show p.cps.toList++c::(Str.join {#[c]} (p2::r)).cps.toList=q.cps.toList++c::(Str.join {#[c]} (q2::r')).cps.toList from e);let ih:=Iz (ps:=p2::r) (qs:=q2::r') (by simp) (by simp) (λz hz=>hp z (zm _ hz)) (λz hz=>hq z (zm _ hz)) (kz e2);rw[ih,kz e1]
def gd (ne:ps≠[]) (fr:∀p∈ps,c∉p.cps.toList):PySem.Txt.split (Str.join {#[c]} ps) {#[c]}=ps:=by
 refine Iz ?_ ne (PySem.StrLaws.split_free _ c) fr (PySem.StrLaws.join_split _ _);intro z;have:=split_pos (Str.join {#[c]} ps) {#[c]};rw[z] at this;exact absurd this ∅
def EJ (ha:c∉a.cps.toList) (hb:c∉b.cps.toList):PySem.Txt.split (a++{#[c]}++b) {#[c]}=[a,b]:=by
 refine gd (ps:=[a,b]) (by simp) λp hp=>?_;rcases zB.mp hp with rfl | hp
 ·exact ha
 ·rw[zy.mp hp];exact hb
def split1 (ha:c∉a.cps.toList):PySem.Txt.split a {#[c]}=[a]:=by
 refine gd (ps:=[a]) (by simp) λp hp=>?_;rw[zy.mp hp];exact ha
def S0 (ha:c∉a.cps.toList) (hb:c∉b.cps.toList) (hd:c∉d.cps.toList):PySem.Txt.split (a++{#[c]}++b++{#[c]}++d) {#[c]}=[a,b,d]:=by
 let e:a++({#[c]}:Str)++b++⟨#[c]⟩++d=Str.join ⟨#[c]⟩ [a,b,d]:=by
  rw[eR,eR,join_one];simp only[NH]
 rw[e];refine gd (ps:=[a,b,d]) (by simp) λp hp=>?_;rcases zB.mp hp with rfl | hp
 ·exact ha
 rcases zB.mp hp with rfl | hp
 ·exact hb
 ·rw[zy.mp hp];exact hd
def Aa (h:n<0):dec n ="-" ++ dec (-n):=by
 obtain⟨m,rfl⟩:∃m:Nat,n=Int.negSucc m:={(-n-1).toNat,()}
 refine kz ?_;rw[cF];let e1:(dec (Int.negSucc m)).cps.toList=("-" ++ toString (m+1)).toList.map Char.toNat:=PyProof.Rows.signs_ofString _;let e2:(dec (-(Int.negSucc m))).cps.toList=(toString (m+1)).toList.map Char.toNat:=PyProof.Rows.signs_ofString _;rw[e1,e2,String.toList_append,zj];rfl
def km {n:Nat} {c:Nat} (h:c∈(dec (n:Int)).cps.toList):48<=c/\c<=57:=by
 rw[Ab] at h;exact RD h
def Nk {n:Nat} (h:(dec (n:Int)).cps[0]?=some 48):⇑(dec (n:Int))=1:=by
 rcases Nat.eq_zero_or_pos n with rfl | hn
 ·rw[FQ];decide
 ·let⟨c,r,e,hc⟩:=Lm.PU n hn
  rw[<-xb,Ab,e] at h;simp only[zh,List.getElem?_cons_zero,xH] at h;exact absurd (Char.toNat_inj.mp (by rw[h];rfl)) hc
def IU {n:Nat}:1<=⇑(dec (n:Int)):=by
 rw[FQ];exact PySem.toDigits_len_ge 10 n
def El {n k:Nat} (hk:0<k) (h:n<10^k):⇑(dec (n:Int))<=k:=by rw[FQ];exact Lm.TJ hk h
def TZ (a:Option Int) (n:Nat):Builtin.Str.strSliceIndices a none 1 n=Builtin.Str.strSliceIndices a (some (n:Int)) 1 n:=by
 let h:¬((n:Int)<0):=()
 let e:max (0:Int) (min (n:Int) (n:Int))=n:=()
 simp only[Builtin.Str.strSliceIndices,h,wg,e,show((1:Int)>0)=True from by simp,wV]
def TY (b:Option Int) (n:Nat):Builtin.Str.strSliceIndices none b 1 n=Builtin.Str.strSliceIndices (some ((0:Nat):Int)) b 1 n:=by
 let h:¬(((0:Nat):Int)<0):=()
 let e:max (0:Int) (min ((0:Nat):Int) (n:Int))=0:=()
 simp only[Builtin.Str.strSliceIndices,h,wg,e,show((1:Int)>0)=True from by simp,wV]
def DQ (x:Str) (hab:a<=b) (hb:b<=⇑x):(PySem.Txt.slice x (some (a:Int)) (some (b:Int))).cps.toList=(x.cps.toList.drop a).take (b-a):=by
 unfold PySem.Txt.slice;split
 ·rename_i h
  rw[PySem.StrLaws.strSliceIndices_plain hab hb] at h;simp only[x8,yR,wX,za,zP] at h;let hl:⇑x.cps.toList=⇑x:=yM;let ea:a=0:=()
  let eb:b-a=⇑x.cps.toList:=()
  rw[eb,ea,List.drop_zero,zL]
 ·exact PySem.StrLaws.sliced_plain x hab hb
def oM (x:Str) (h:a<=⇑x):(PySem.Txt.slice x (some (a:Int)) none).cps.toList=x.cps.toList.drop a:=by
 let e:PySem.Txt.slice x (some (a:Int)) none=PySem.Txt.slice x (some (a:Int)) (some ((⇑x:Nat):Int)):=by
  unfold PySem.Txt.slice;rw[TZ]
 let hl:⇑x.cps.toList=⇑x:=yM;rw[e,DQ x h (zk _),xo (by rw[xw];ext)]
def Hl (x:Str) (h:b<=⇑x):(PySem.Txt.slice x none (some (b:Int))).cps.toList=x.cps.toList.take b:=by
 let e:PySem.Txt.slice x none (some (b:Int))=PySem.Txt.slice x (some ((0:Nat):Int)) (some (b:Int)):=by
  unfold PySem.Txt.slice;rw[TY]
 rw[e,DQ x (yd _) h,List.drop_zero,Nat.sub_zero]
def o7 {K:yx} {mg:Str->Option vf} {base:vn} {x:Str} {C:vm} {bm:List vf} {newId:String} (P:vh) (m:Mod K mg base) (e:PySem.W.nsIn K mainGlobals x=some (some (.ref C)))
  (q:PySem.W.excIn K C bm newId=true):OwnCls x C bm newId mg base:=by
 let⟨mb,hb,hbb⟩:=m.blt;let⟨o0,es0,ep0,hg0,hd0,sk0,look⟩:=m.glob;let fr:∀y,y∉(es0.toList.filterMap λ(d:DictEntry)=>match d.key with | .str z _=>some z | _=>none)->mg y=none:=λy hy=>by
  rw[<-look y];show(es0.find? λd=>d.key.isStr y).map (·.val)=none;cases hf:es0.find? λd=>d.key.isStr y with
  | none=>rfl
  | some d=>
   exfalso;let hm:=Array.mem_of_find?_eq_some hf;let hk:=Array.find?_some hf;let⟨z,t,ez⟩:=sk0 d hm;let ezy:z=y:=by rw[ez] at hk;exact eq_of_beq (show(z == y)=true from hk)
   exact hy (w8.mpr {d,by simpa using hm,by rw[ez,ezy]})
 exact PySem.W.own_of_in (p:=P) (loose:=es0.toList.filterMap λ(d:DictEntry)=>match d.key with | .str z _=>some z | _=>none) m.Uw {m.glob,hb,m.nolimit,hbb,λy _ hl _ _ _=>fr y hl} e q
structure QE (P:vh) (w:vi) (fs:List vm) (H H':Hp) (h B h':vn):Prop where
 keep:∀b o,h.get? b=some o->H b=none->b∉fs->B.get? b=some o
 slot:∀b o,h.get? b=some o->H b=none->b∈fs->∃sl,h'.get? b=some {o with slots:=sl}
 free:∀b o,h.get? b=some o->H b=none->H' b=none
 there:∀b o,h.get? b=some o->b∉fs->∃o',B.get? b=some o'
 nX:∀b xs,H b=some (.tup xs)->H' b=some (.tup xs)
 mf:∀b o u,H b=some (.iI o u)->H' b=some (.iI o u)
 nY:∀b ps,H b=some (.Ou ps)->∃more,H' b=some (.Ou (ps++more))
 cx:pP P w H' B
 lZ:B.StaysIn h'
section
variable {P:vh} {w:vi} {fs:List vm} {H H':Hp} {h B h' h2:vn}
def QE.un (f:QE P w fs H H' h B h') (KZ:∀b∈fs,H b=none):Un fs [] H H' h h' where
 keep:=λb o e n hb _=>f.lZ b o (f.keep b o e n hb)
 slot:=λb o e n hb _=>f.slot b o e n hb
 free:=λb o e n _=>f.free b o e n
 there:=λb o e _=>by
  by_cases hb:b∈fs
  ·let⟨sl,q⟩:=f.slot b o e (KZ b hb) hb
   exact{_,q}
  ·let⟨o',q⟩:=f.there b o e hb
   exact{o',f.lZ b o' q}
 nX:=f.nX
 mf:=f.mf
 nY:=f.nY
def QE.on (f:QE P w fs H H' h B h') (u:h'.UpToSlots h2) (st:B.StaysIn h2) (nf:∀b∈fs,∃o,h'.get? b=some o/\∀vs,o.data≠.fields vs):QE P w fs H H' h B h2:=
 {f.keep,λb o e n hb=>by
  let⟨sl,q⟩:=f.slot b o e n hb;let⟨o1,q1,nd⟩:=nf b hb;rw[q] at q1;cases q1;let⟨sl2,q2⟩:=u b _ q nd;exact{(sl2),q2},f.free,f.there,f.nX,f.mf,f.nY,f.cx,st}
end
inductive GH (P:vh) (w:vi) (outer:List Env) (H:Hp) (s:vg) (E:XK) (e:vf) (s':vg):Prop
 | mk (a:vm) (cls a0:vf) (B:vn) (H':Hp) (_:e=.ref a) (_:s'.os=s.os) (_:AllBare s'.gens) (_:Heap.FlyingW B outer a cls a0 s'.heap) (_:QE P w (rE outer) H H' s.heap B s'.heap) (_:E cls none H')
def P1 (hf:env.frame=some L):rE (env::outer)=L::rE outer:=by
 unfold rE;rw[wR,hf]
def SK (C:vm) (te:TA) (E:XK):TS:=λ_ U H=>te U H λvs H1=>⇑vs<=sizeLine/\E (.ref C) none H1
section
variable {P:vh} {w:vi} {K:yx} {mg:Str->Option vf} {base:vn} {N:List Str} {qual:Str} {scope:Scope} {f:vm} {cdv:vf} {A:vj} {outer:List Env} {s₀:vg} {H₀:Hp} {E:XK}
def HP
  (hC0:PySem.W.nsIn K mainGlobals x=some (some (.ref C))) (hQ0:PySem.W.excIn K C bm newId=true) (FB:ExcBaseFacts Bn newId initId bm) (hg:Gl (jS (GH P w) P w K mg base N qual scope f cdv A outer s₀ H₀ E) x)
  (ha:PA (jS (GH P w) P w K mg base N qual scope f cdv A outer s₀ H₀ E) (e₀::es) ta) (hd:(x == ("__debug__": Str))=false<|>qb_)
  (hs:starEach (e₀::es) (jS (GH P w) P w K mg base N qual scope f cdv A outer s₀ H₀ E).env=(false,eval e₀ (jS (GH P w) P w K mg base N qual scope f cdv A outer s₀ H₀ E).env)::starEach es (jS (GH P w) P w K mg base N qual scope f cdv A outer s₀ H₀ E).env<|>qe_)
  (hpl:(backTo cpos (starEach es (jS (GH P w) P w K mg base N qual scope f cdv A outer s₀ H₀ E).env)).any (·.1)=false<|>qe_) :
  PS (jS (GH P w) P w K mg base N qual scope f cdv A outer s₀ H₀ E) (.Raise (some (.Call (.Name x np) (e₀::es) [] cpos)) none pos) (SK C ta E):=by
 intro pins s U H D I h;let O:OwnCls x C bm newId mg base:=o7 P I.ok.mod hC0 hQ0;let⟨tl,Nn,nm,q,bs,hdct,sn,sub,ab,col,dd,k0,k1,k2,k3,k5,mN,hC,hN,hni,T⟩:=O.obj;refine wpAny_Raise_call_subT (C:=C) (nm:=nm) (q:=q) (N:=Nn) (bs:=bs) (bm:=tl) (hdct:=hdct) (sn:=sn) (sub:=sub) (ab:=ab) (col:=col) (dd:=dd) (k0:=k0) (k1:=k1) (k2:=k2) (k3:=k3) (k5:=k5)
  FB (mN:=mN) (T.hasType FB.hasBase) (I.ok.hd rfl) (by rw[hs];show(false||(backTo cpos (starEach es (jS (GH P w) P w K mg base N qual scope f cdv A outer s₀ H₀ E).env)).any (·.1))=false;rw[hpl];rfl) hni (nL I hg O.bound {rfl,?_} hd)
 let hA:=ha (pos:=cpos) s U H _ I h;rw[hs] at hA ⊢;refine Calls.evalArgs_plain (y7 hA (λus s2 z0=>?_) λ_ _ y=>y);let⟨vs,H2,I2,r2,hl,q2⟩:=z0;refine{rfl,?_,I2.bk _ _ hC,hN.keeps I2.bk,T.keeps I2.bk,λh' e mk=>?_}
 ·show ⇑us<=sizeLine
  rw[<-⇑r2];exact hl
 show wpAny (model P w) (A.deeper (envOfC qual scope ↑s₀ f cdv)) (leaving (envOfC qual scope ↑s₀ f cdv) (.ref e)) (λ_ s''=>GH P w outer H₀ s₀ E (.ref e) s'') (λe' s''=>GH P w outer H₀ s₀ E e' s'') {s2 with heap:=h'};let hfr:rE (envOfC qual scope ↑s₀ f cdv::outer)=↑s₀::rE outer:=P1 rfl;let hst:s2.heap.FunFrames base (envOfC qual scope ↑s₀ f cdv::outer):=I2.stack;let hin:∀env∈(envOfC qual scope ↑s₀ f cdv::outer),∀a,env.frame=some a->a∈rE (envOfC qual scope ↑s₀ f cdv::outer):=λenv he a hf=>w8.mpr {(env),he,hf};let hl:=PySem.W.funFrames_hide (as:=rE (envOfC qual scope ↑s₀ f cdv::outer)) hst hin;refine wpAny_leaves_madeW (base:=PySem.W.hideAll s2.heap (rE (envOfC qual scope ↑s₀ f cdv::outer))) (h:=s2.heap) I2.ok.frames rfl (λb o q=>PySem.W.of_hideAll _ q) hl mk (λh'' t fl _ _ ups=>?_);let low:∀b o,s₀.heap.get? b=some o->b≠↑s₀:=λb o e z=>absurd (yv e) (by rw[z];exact yc _);let nin:∀b o,s₀.heap.get? b=some o->b∉rE outer->b∉rE (envOfC qual scope ↑s₀ f cdv::outer):=λb o e n z=>by
  rw[hfr] at z;rcases zB.mp z with z | z
  ·exact low b o e z
  ·exact n z
 let u9:∀b:vm,b∉(jS (GH P w) P w K mg base N qual scope f cdv A outer s₀ H₀ E).ex:=λb z=>absurd (show b∈([]:List vm) from z) (by simp);refine{e,.ref C,.ref t,_,H2,rfl,I2.os,I2.bare,fl,{λb o q n hb=>wO _ (I2.base.keep b o q n hb (u9 b)) (nin b o q hb),λb o q n hb=>?_,λb o q n=>I2.base.free b o q n (u9 b),λb o q hb=>?_,I2.base.nX,I2.base.mf,I2.base.nY,λa o q=>?_,fl.1},q2}
 ·let⟨sl,e1⟩:=I2.base.slot b o q n hb (u9 b)
  let⟨_,o1,e2,nd⟩:=I2.ok.oh.mem hb;let e3:=mk.keeps _ _ e1;let e2':s₀.heap.get? b=some o1:=e2;rw[q] at e2';cases e2';let⟨sl2,e4⟩:=ups b _ e3 nd;exact{(sl2),e4}
 ·let⟨o',e1⟩:=I2.base.there b o q (u9 b)
  exact{o',wO _ e1 (nin b o q hb)}
 ·refine(I2.cx a o q).lZ (λb u hb e1=>wO _ e1 λz=>?_) (λ_ z=>z) λ_ _ z=>z
  let n:=I2.vV b z;rcases hb with rfl | hb
  ·rw[q] at n;cases n
  ·rw[hb] at n;cases n
def Qx.Xv {x:Str} {st:Stmt} {fd:vk} {ps:List Str} {k:Nat} {sp:Sp} (F:Qx K x qual st f fd) (S:fZ N ps (aX st)) (len:∀vs H Q E,sp vs H Q E->⇑vs=⇑ps)
  (hbody:∀(cdv:vf) (A:vj) (outer:List Env) (s:vg) (H:Hp) (vs:List V) (Q:VK) (E:XK),fo k (A.deeper (envOfC qual (aX st) ↑s f cdv))->sp vs H Q E->
   ∃t,DH (jS (GH P w) P w K mg base N qual (aX st) f cdv A outer s H E) (cC st) t/\t {nx:=λ_ H'=>Q .bN H',rt:=Q} (start N vs) H):dy P w K mg base (GH P w) (k+1) f fd ps sp:=by
 let⟨oc,od,kV,doc,pm,an,cdv,ct,osl,rfl,lk,hcd⟩:=F.ex;exact Si lk hcd S len λA outer s H vs Q E hr hsp=>hbody cdv A outer s H vs Q E hr hsp
end
abbrev Cx.held (X:Cx) (e:vf):Cx:={X with A:=X.A.mark (some e),calm:=false}
theorem Cx.Ok.held {X:Cx} (ok:X.Ok) (e:vf):(X.held e).Ok:=
 {ok.mod,ok.kind,ok.glob,ok.blt,ok.above,ok.inj,ok.has,ok.Ue,λz=>(nomatch (show false=true from z)),ok.frames,ok.Ut,ok.VP,ok.bs,ok.N4,ok.u9,ok.K0,ok.oh,ok.KZ}
def Cx.Ok.mr {X:Cx} {e:vf} (ok:(X.held e).Ok) (hd:X.calm=true->X.A.handled=none):X.Ok:=
 {(ok.mod),ok.kind,ok.glob,ok.blt,ok.above,ok.inj,ok.has,ok.Ue,hd,ok.frames,ok.Ut,ok.VP,ok.bs,ok.N4,ok.u9,ok.K0,ok.oh,ok.KZ}
section
variable {X:Cx} {pins:List (vm×Obj)} {U:St} {H:Hp} {s:vg} {e:vf}
theorem Inv.held (I:Inv X pins U H s) (e:vf):Inv (X.held e) pins U H s:={I.ok.held e,I.os,I.bare,I.base,I.loc,I.cell,I.free,I.ke,I.pin,I.cx,I.len}
theorem Inv.mr (I:Inv (X.held e) pins U H s) (hd:X.calm=true->X.A.handled=none):Inv X pins U H s:={I.ok.mr hd,I.os,I.bare,I.base,I.loc,I.cell,I.free,I.ke,I.pin,I.cx,I.len}
theorem SP.mr (hd:X.calm=true->X.A.handled=none) (h:SP (X.held e) pins D f s'):SP X pins D f s':=by
 cases f with
 | next=>let⟨U',H',I,q⟩:=h;exact{U',H',I.mr hd,q}
 | brk=>let⟨U',H',I,q⟩:=h;exact{U',H',I.mr hd,q}
 | cont=>let⟨U',H',I,q⟩:=h;exact{U',H',I.mr hd,q}
 | ret u=>let⟨v,U',H',I,r,q⟩:=h;exact{v,U',H',I.mr hd,r,q}
end
def HX {X:Cx} {k:Nat} {f:vm} {fd:vk} {ps:List Str} {sp:Sp} {fx:Str} {p cpos:Pos} {e₀:Expr} {es:List Expr} {t:TA} {pins:List (vm×Obj)} {s:vg} {U:St} {H:Hp} {Q:VK} {E:XK} (F:dy X.prog X.w X.K X.mg X.base (GH X.prog X.w) k f fd ps sp) (hr:fo k X.A) (hg:Gl X fx) (hm:X.mg fx=some (.ref f)) (hk:PySem.W.keepIn X.K (.ref f)=true) (hb:Binds X.K fd ps []) (ha:PA X.JL (e₀::es) t)
  (I:Inv X pins U H s) (h:t U H λvs H1=>sp vs H1 Q E) (hdb:(fx == ("__debug__": Str))=false) (he:starEach (e₀::es) X.env=(false,eval e₀ X.env)::starEach es X.env) (hpl:(backTo cpos (starEach es X.env)).any (·.1)=false) :
  wpAny (model X.prog X.w) X.A (eval (.Call (.Name fx p) (e₀::es) [] cpos) X.env) (EP X pins U Q) (λe s'=>∃H1 s1,Inv X pins U H1 s1/\GH X.prog X.w X.stack H1 s1 E e s') s:=by
 refine xj (nL I hg hm ?_ hdb);let hA:wpAny (model X.prog X.w) X.A (spliced (backTo cpos (starEach (e₀::es) X.env))) (AP X.JL pins U _) (λ_ _=>False) s:=ha s U H _ (I.uk _) h;refine wZ (h₀:=X.base) I.ok.mod.Uw hk (y7 hA (λus s1 z=>?_) λ_ _ z=>z.elim) he hpl;let⟨vs,H1,I1',r,q⟩:=z;refine{I1'.sW,?_};let I1:Inv X pins U H1 s1:=I1'.jI;let hl:⇑us=⇑ps:=by rw[<-⇑r];exact F.len _ _ _ _ q
 refine wpAny_call (xN (F.run X.A X.stack s1 H1 {us,[]} us vs _ _ hr I1.Ub (by have:=hb s1 us I1.sW (by rw[zT];exact hl);rw[zT] at this;exact this) r q) λrr s' hq=>?_);cases rr with
 | ok fl=>
  cases fl with
  | ret u=>exact I1.after hq
  | next=>exact False.elim hq
  | brk=>exact False.elim hq
  | cont=>exact False.elim hq
 | error ev=>exact{(H1),s1,I1,hq}
def A9 {X:Cx} {pins:List (vm×Obj)} {U:St} {H1 H':Hp} {s1 s':vg} {a C:vm} {a0:vf} {B:vn} {cn:Str} {np hpos:Pos} {bm:List vf} {newId:String} {b₀:Stmt} {suite:List Stmt} {th:TS} {D:Ends}
  (I1:Inv X pins U H1 s1) (os:s'.os=s1.os) (bare:AllBare s'.gens) (fl:Heap.FlyingW B X.stack a (.ref C) a0 s'.heap) (fly:QE X.prog X.w (rE X.stack) H1 H' s1.heap B s'.heap) (q2:th D U H') (hgc:Gl X cn) (O:OwnCls cn C bm newId X.mg X.base) (hbase:bm.contains (.type "BaseException")=true) (hstk:X.stack=X.env::X.outer) (hfrm:X.env.frame=some X.env.locals)
  (hsu:∀e,DH (X.held e).JL (b₀::suite) th) (hdc:(cn == ("__debug__": Str))=false) :
  wpAny (model X.prog X.w) X.A (noteFrame (.ref a) X.env) (λ_ s₂=>wpAny (model X.prog X.w) X.A (setFlight (.ref a) none) (λ_ s₃=>wpAny (model X.prog X.w) X.A (handleBy (.ref a) X.env [.ExceptHandler (some (.Name cn np)) none (b₀::suite) hpos]) (SP X pins D) X.xe s₃) X.xe s₂) X.xe s':=by
 let KZ:∀b∈rE X.stack,H1 b=none:=I1.vV;let nf:∀{hh:vn},Heap.FunFrames hh B X.stack->∀b∈rE X.stack,∃o,hh.get? b=some o/\∀vs,o.data≠.fields vs:=λhF b hb=>(hF.mem hb).2;let back:∀(hh:vn),QE X.prog X.w (rE X.stack) H1 H' s1.heap B hh->Inv X pins U H' {s' with heap:=hh}:=λhh fy=>
  I1.Sj (s':={s' with heap:=hh}) (ch:=[]) os (fy.un KZ) (fy.cx.kept fy.lZ) bare λb z=>absurd z (by simp)
 let hfr:X.A.frames=some (X.env::X.outer):=by rw[<-hstk];exact I1.ok.frames
 refine wpAny_looks_onW hfr hfrm (by rw[<-hstk];exact fl) λh4 held4 up4=>?_;refine wpAny_landsW held4 λh5 fl5 up5=>?_;let fl5':Heap.FlyingW B X.stack a (.ref C) a0 h5:=by rw[hstk];exact fl5
 let fy5:QE X.prog X.w (rE X.stack) H1 H' s1.heap B h5:=fly.on (up4.trans up5) fl5.1 (nf fl.2.2.1);let I5:=back h5 fy5;let⟨ob,hob,hobc⟩:=fl5'.there;let⟨tl,Nn,nm,qn,bs,hdct,sn,sub,ab,col,dd,k0,k1,k2,k3,k5,mN,hC,hN',hni,T⟩:=O.obj;refine wpAny_handleBy_cons (codeAny_handlers_test (nL (X:=X.held (.ref a)) (I5.held _) hgc O.bound ?_ hdc)) (by intro q;cases q);refine wpAny_excMatches_sub_self (I5.bk _ _ hC) hob hobc (T.hasType hbase) (codeAny_handlers_suite ?_);refine lands_againW fl5' λh6 fl6 up6=>?_;let fy6:QE X.prog X.w (rE X.stack) H1 H' s1.heap B h6:=fy5.on up6 fl6.1 (nf fl5'.2.2.1);let I6:=back h6 fy6;refine y7 (hsu (.ref a) _ U H' D ((I6.held _).uk _) q2) (λfl s7 z=>?_) λ_ _ z=>z.elim;exact SP.mr I1.ok.hd (SP.jI z)
def UN (i:Nat) (sp:Sp) (t:TA) (C:vm) (th:TS):TS:=λD U H=>t U H λvs H1=>sp vs H1 (λv H2=>cz i v U H2 D.nx) λcls _ H2=>cls=.ref C/\th D U H2
section
variable {X:Cx} {k:Nat} {f:vm} {fd:vk} {ps:List Str} {sp:Sp} {fx cn x:Str} {p pos cpos pa tpos np hpos:Pos} {e₀:Expr} {es:List Expr} {t:TA} {i:Nat} {C:vm} {bm:List vf} {newId:String} {b₀:Stmt} {suite:List Stmt} {th:TS}
def Q6 (F:dy X.prog X.w X.K X.mg X.base (GH X.prog X.w) k f fd ps sp) (hr:fo k X.A) (hg:Gl X fx) (hm:X.mg fx=some (.ref f)) (hk:PySem.W.keepIn X.K (.ref f)=true) (hb:Binds X.K fd ps []) (ha:PA X.JL (e₀::es) t)
  (hc:X.calm=true) (hN:X.N.Nodup) (hi:X.N[i]?=some x) (hx:Loc X.env.scope x) (hgc:Gl X cn) (hC0:PySem.W.nsIn X.K mainGlobals cn=some (some (.ref C))) (hQ0:PySem.W.excIn X.K C bm newId=true) (hbase:bm.contains (.type "BaseException")=true) (hstk:X.stack=X.env::X.outer) (hfrm:X.env.frame=some X.env.locals)
  (hsu:∀e,DH (X.held e).JL (b₀::suite) th)
  (hdb:(fx == ("__debug__": Str))=false<|>qb_) (hdc:(cn == ("__debug__": Str))=false<|>qb_) (he:starEach (e₀::es) X.env=(false,eval e₀ X.env)::starEach es X.env<|>qe_) (hpl:(backTo cpos (starEach es X.env)).any (·.1)=false<|>qe_)
  (hs:swapsWith (.Call (.Name fx p) (e₀::es) [] cpos) (some (.Name x tpos)) pa.line X.env=pure false<|>qe_) (hf:X.fn x=true\/X.env.scope.names.lookup x=some .local<|>qa_) :
  PS X (.Try [.Assign [.Name x tpos] (.Call (.Name fx p) (e₀::es) [] cpos) pa] [.ExceptHandler (some (.Name cn np)) none (b₀::suite) hpos] [] [] pos) (UN i sp t C th):=by
 intro pins s U H D I h;let O:OwnCls cn C bm newId X.mg X.base:=o7 X.prog I.ok.mod hC0 hQ0;refine wpAny_Try_except (wpAny_execs_cons (wpAny_Assign_Name (y7 (HX F hr hg hm hk hb ha I h hdb he hpl) (λu s1 z=>?_) λev s' z=>?_) hs))
 ·let⟨v,H2,I2,r2,q2⟩:=z
  refine mB I2 hN hi hx r2 (λs2 I3=>?_) hf;exact wk (wk {_,H2,I3,q2})
 ·let⟨H1,s1,I1,a,cls,a0,B,H',rfl,os,bare,fl,fly,⟨rfl,q2⟩⟩:=z
  exact A9 I1 os bare fl fly q2 hgc O hbase hstk hfrm hsu hdc
end
section
variable {X:Cx}
def OE {zs:List Str} {its:List vf} (r:Vals (zs.map V.str) its) {j:Nat} (h:j<⇑its):∃z t,zs[j]?=some z/\its[j]=.str z t:=by
 let hl:⇑zs=⇑its:=by have:=⇑r;rw[za] at this;exact this
 let⟨u,hu,ru⟩:=r.get (i:=j) (x:=.str (zs[j]'())) (by rw[zI,zb ()];rfl);let⟨t,rfl⟩:=ru;rw[zb h] at hu;exact{_,t,zb (),yh hu}
end
section
variable {K:yx} {D x:vm} {prog:vh} {w:vi} {A:vj} {E:vf->vg->Prop} {h:vn} {g:Array GenState} {d:Drawn} {t:Nat} {os:OsState}
open Builtin Builtin.ObjectAttr Builtin.Getset_descriptor in
end
section
variable {X:Cx}
end
def cD.here (x:cD P w H h a o):∃ob,h.get? a=some ob:=by
 cases o with
 | lst xs=>let⟨_,_,_,_,e⟩:=x;exact{_,e}
 | tup xs=>let⟨_,_,_,o,e,_⟩:=x;exact{_,e}
 | dK kvs=>let⟨_,_,_,_,o,_,_,e,_⟩:=x;exact{_,e}
 | dT kvs=>let⟨_,_,_,_,o,_,_,e,_⟩:=x;exact{_,e}
 | set S n=>let⟨o,_,_,_,e,_⟩:=x;exact{_,e}
 | ins C dx fs=>let⟨_,_,_,e,_⟩:=x;exact{_,e}
 | own y=>exact x
 | xd fs=>let⟨_,⟨_,_,_,e,_⟩,_⟩:=x;exact{_,e}
 | MO lo hi=>let⟨_,_,_,e⟩:=x;exact{_,e}
 | iI ob u=>let⟨e,_⟩:=x;exact{_,e}
 | Ou ps=>exact{_,x}
 | met f y=>exact{_,x}
 | ext φ=>exact x.2.1
section
variable {X:Cx} {pins:List (vm×Obj)} {U:St} {H:Hp} {s:vg}
end
section
variable {X:Cx} {k:Nat} {f:vm} {fd:vk} {ps:List Str} {sp:Sp} {fx cn n x:Str} {p pos cpos pa tpos np hpos:Pos} {e₀:Expr} {es:List Expr} {t:TA} {i j:Nat} {C S:vm} {bm bmS:List vf} {newId newIdS:String} {b₀:Stmt} {suite:List Stmt} {th:TS}
end
end L2
namespace L2
open PySem PySem.Spec PyProof.Rows
section
variable {κ:Type} [DecidableEq κ]
noncomputable def cV (kvs:List (κ×V)) (k:κ):Option V:=(kvs.find? λkv=>decide (kv.1=k)).map (·.2)
noncomputable def putK (kvs:List (κ×V)) (k:κ) (v:V):List (κ×V):=
 if(kvs.any λkv=>decide (kv.1=k))=true then kvs.map (λkv=>if kv.1=k then(kv.1,v) else kv) else kvs++[(k,v)]
def Oi {k:κ}:cV ([]:List (κ×V)) k=none:=rfl
def dY {p:κ×V} {r:List (κ×V)} {k:κ} (e:p.1=k):cV (p::r) k=some p.2:=by simp[cV,yO,e]
def dZ {p:κ×V} {r:List (κ×V)} {k:κ} (e:¬p.1=k):cV (p::r) k=cV r k:=by simp[cV,yO,e]
theorem j7 (k:κ):∀kvs:List (κ×V),(kvs.any λkv=>decide (kv.1=k))=(cV kvs k).isSome
 | []=>rfl
 | p::r=>by
  rw[xk]
  by_cases e:p.1=k
  ·simp only[dY e,ze e,Bool.true_or,Option.isSome_some]
  ·rw[dZ e,zd e,Bool.false_or];exact j7 k r
theorem GP (k j:κ) (y:V):∀kvs:List (κ×V),cV (kvs.map λkv=>if kv.1=k then(kv.1,y) else kv) j=(cV kvs j).map λx=>if j=k then y else x
 | []=>rfl
 | p::r=>by
  let ih:=GP k j y r;rw[zh]
  by_cases h:p.1=k
  ·rw[yK h]
   by_cases e:p.1=j
   ·rw[dY (p:=(p.1,y)) e,dY e,xh,yK (e.symm.trans h)]
   ·rw[dZ (p:=(p.1,y)) e,dZ e,ih]
  ·rw[yJ h]
   by_cases e:p.1=j
   ·rw[dY (p:=p) e,dY e,xh,yJ (λz=>h (e.trans z))]
   ·rw[dZ (p:=p) e,dZ e,ih]
theorem DM (k j:κ) (y:V):∀kvs:List (κ×V),cV kvs k=none->cV (kvs++[(k,y)]) j=if j=k then some y else cV kvs j
 | [],_=>by
  by_cases e:k=j
  ·rw[yK e.symm];exact dY (p:=(k,y)) e
  ·rw[yJ (λz=>e z.symm)];exact dZ (p:=(k,y)) e
 | p::r,hn=>by
  rw[wI];let hk:¬p.1=k:=λz=>by rw[dY z] at hn;cases hn
  rw[dZ hk] at hn;let ih:=DM k j y r hn
  by_cases e:p.1=j
  ·rw[dY e,dY e,yJ (λz=>hk (e.trans z))]
  ·rw[dZ e,dZ e,ih]
def Oh (kvs:List (κ×V)) (k j:κ) (y:V):cV (putK kvs k y) j=if j=k then some y else cV kvs j:=by
 unfold putK
 by_cases a:(kvs.any λkv=>decide (kv.1=k))=true
 ·rw[yK a,GP]
  rw[j7] at a
  by_cases e:j=k
  ·let⟨x,hx⟩:=Option.isSome_iff_exists.mp a
   rw[yK e,e,hx,xh,yK rfl]
  ·rw[yJ e]
   cases cV kvs j with
   | none=>rfl
   | some x=>rw[xh,yJ e]
 ·rw[yJ a]
  refine DM k j y kvs ?_;rw[j7] at a;cases q:cV kvs k with
  | none=>rfl
  | some x=>rw[q] at a;exact(a rfl).elim
def jC (kvs:List (κ×V)) (k:κ) (v:V):⇑(putK kvs k v)<=⇑kvs+1:=by
 unfold putK;split
 ·rw[za];ext
 ·rw[zg,zt,xi];ext
def O4 {kvs:List (κ×V)} {k:κ} (v:V) (h:cV kvs k=none):putK kvs k v=kvs++[(k,v)]:=by
 unfold putK;rw[j7,h];exact yJ ∅
def lG.ka (r:lG o u):o.isSome=u.isSome:=by
 cases o with
 | none=>cases u with
  | none=>rfl
  | some _=>exact(show False from r).elim
 | some _=>cases u with
  | none=>exact(show False from r).elim
  | some _=>rfl
theorem lG.getD (r:lG o u) (rd:RelV d d'):RelV (o.getD d) (u.getD d'):=by
 cases o with
 | none=>cases u with
  | none=>exact rd
  | some _=>exact(show False from r).elim
 | some _=>cases u with
  | none=>exact(show False from r).elim
  | some _=>exact r
def KV.val {kvs:List (κ×V)} {vs:List (κ×vf)} (r:KV kvs vs) (k:κ):lG (cV kvs k) (valueAt vs k):=by
 unfold KV at r
 induction r with
 | nil=>exact True.intro
 | @cons p q ps qs h t ih=>
  let⟨h1,h2⟩:=h
  by_cases e:p.1=k
  ·let e':q.1=k:=h1.symm.trans e
   let b:valueAt (q::qs) k=some q.2:=by simp[valueAt,yO,e']
   rw[dY e,b];exact h2
  ·let e':¬q.1=k:=λz=>e (h1.trans z)
   let b:valueAt (q::qs) k=valueAt qs k:=by simp[valueAt,yO,e']
   rw[dZ e,b];exact ih
theorem KV.any (r:KV kvs vs) (k:κ):(kvs.any λkv=>decide (kv.1=k))=vs.any λkv=>decide (kv.1=k):=by
 unfold KV at r
 induction r with
 | nil=>rfl
 | cons h t ih=>rw[xk,xk,ih,h.1]
def KV.S8 (r:KV kvs vs) (k:κ) (ry:RelV y u) :
  KV (kvs.map λkv=>if kv.1=k then(kv.1,y) else kv) (vs.map λkv=>if kv.1=k then(kv.1,u) else kv):=by
 unfold KV at r ⊢
 induction r with
 | nil=>exact .nil
 | @cons p q ps qs h t ih=>
  rw[zh,zh];refine .cons ?_ ih;let⟨h1,h2⟩:=h
  by_cases e:p.1=k
  ·rw[yK e,yK (h1.symm.trans e)];exact{(h1),ry}
  ·rw[yJ e,yJ (λz=>e (h1.trans z))];exact{(h1),h2}
def KV.put (r:KV kvs vs) (k:κ) (ry:RelV y u):KV (putK kvs k y) (stored vs k u):=by
 unfold putK stored;rw[r.any k]
 by_cases e:(vs.any λkv=>decide (kv.1=k))=true
 ·rw[yK e,yK e];exact r.S8 k ry
 ·rw[yJ e,yJ e];exact Paired.snoc r {(rfl),ry}
theorem KV.length (r:KV kvs vs):⇑kvs=⇑vs:=xT r
end
def D3 (r:RelV (kV k) u):(dF P w).is k u=true:=by
 cases k with
 | inl i=>let⟨t,e⟩:=(show∃t,u=Value.int i t from r);subst e;exact Ir P w i t
 | inr x=>let⟨t,e⟩:=(show∃t,u=Value.str x t from r);subst e;exact tZ P w x t
theorem Ea:∀{ks:List Key} {us:List vf},Vals (ks.map kV) us->ItemsAre (dF P w) ks us
 | [],_,r=>by rw[yj] at r;cases r;exact .nil
 | k::ks,_,r=>by
  rw[zh] at r;cases r with
  | cons h t=>exact .cons (D3 h) (Ea t)
abbrev KT (H:Hp):List (List Key×V)->List (List Key×vm×vf)->Prop:=Paired λp q=>p.1=q.1/\H q.2.1=some (.tup (p.1.map kV))/\RelV p.2 q.2.2
def KT.val {H:Hp} {kvs:List (List Key×V)} {xs:List (List Key×vm×vf)} (r:KT H kvs xs) (k:List Key):lG (cV kvs k) ((atKey xs k).map (·.2)):=by
 induction r with
 | nil=>exact True.intro
 | @cons p q ps qs h t ih=>
  let⟨h1,_,h2⟩:=h
  by_cases e:p.1=k
  ·let e':q.1=k:=h1.symm.trans e
   let b:atKey (q::qs) k=some q.2:=by simp[atKey,yO,e']
   rw[dY e,b];exact h2
  ·let e':¬q.1=k:=λz=>e (h1.trans z)
   let b:atKey (q::qs) k=atKey qs k:=by simp[atKey,yO,e']
   rw[dZ e,b];exact ih
def KT.S8 (r:KT H kvs xs) (k:List Key) (ry:RelV y u) :
  KT H (kvs.map λkv=>if kv.1=k then(kv.1,y) else kv) (xs.map (putAt k u)):=by
 induction r with
 | nil=>exact .nil
 | @cons p q ps qs h t ih=>
  rw[zh,zh];refine .cons ?_ ih;let⟨h1,h2,h3⟩:=h;unfold putAt
  by_cases e:p.1=k
  ·rw[yK e,yK (h1.symm.trans e)];exact{(h1),h2,ry}
  ·rw[yJ e,yJ (λz=>e (h1.trans z))];exact{(h1),h2,h3}
def KT.put (r:KT H kvs xs) (k:List Key) (hb:H b=some (.tup (k.map kV))) (ry:RelV y u) :
  KT H (putK kvs k y) (storedH xs k b u):=by
 let e:(kvs.any λkv=>decide (kv.1=k))=(atKey xs k).isSome:=by
  rw[j7,(r.val k).ka,Option.isSome_map]
 unfold putK storedH;rw[e]
 by_cases q:(atKey xs k).isSome=true
 ·rw[yK q,yK q];exact r.S8 k ry
 ·rw[yJ q,yJ q];exact Paired.snoc r {(rfl),hb,ry}
def KT.keeps (r:KT H kvs xs) (ht:∀b ys,H b=some (.tup ys)->H' b=some (.tup ys)):KT H' kvs xs:=
 Paired.TF r λ_ _ z=>{z.1,ht _ _ z.2.1,z.2.2}
inductive VB (P:vh) (w:vi) (H:Hp) (h:vn) (a:vm) (kvs:List (List Key×V)):Prop
 | mk (_:⇑kvs<=sizeLine) (_:(a == sysModules)=false) (xs:List (List Key×vm×vf)) (_:KT H kvs xs) (_:h.DictOfH (tupleKind (dF P w)) a xs)
section
variable {P:vh} {w:vi} {H:Hp} {h:vn} {a:vm}
def R4 (ok:pP P w H h) (e:Rd H a u):cD P w H h a u:=e.ok ok
def uh (ok:pP P w H h) (e:Rd H a (.dK kvs)):Ur P w h a kvs:=
 show cD P w H h a (.dK kvs) from R4 ok e
def Vp (ok:pP P w H h) (e:H a=some (.dK kvs)):Ur P w h a kvs:=uh ok (.inl e)
def sV (ok:pP P w H h) (e:H a=some (.tup (ks.map kV))):(tupleKind (dF P w)).is h ks a:=by
 let⟨_,its,r,o,h1,h2,n,h3⟩:=(show cD P w H h a (.tup (ks.map kV)) from ok a _ e)
 exact{o,its.toArray,n,h1,h2,h3,by simpa using Ea r}
def BC (ok:pP P w H h) (e:Rd H a (.dT kvs)):VB P w H h a kvs:=by
 let⟨z,y,xs,r,o,es,ep,h1,h2,h3,h4,h5⟩:=(show cD P w H h a (.dT kvs) from R4 ok e)
 refine{z,y,xs,r,o,es,ep,h1,h2,h3,h4,λx hx=>?_,h5};let all:∀{l:List (List Key×V)} {m:List (List Key×vm×vf)},KT H l m->∀x∈m,(tupleKind (dF P w)).is h x.1 x.2.1:=by
  intro l m q
  induction q with
  | nil=>intro x hx;exact nomatch hx
  | @cons p q ps qs hq t ih=>
   intro x hx;rcases zB.mp hx with e | hx
   ·subst e
    exact sV ok (by rw[<-hq.1];exact hq.2.1)
   ·exact ih x hx
 exact all r x hx
def Vo (ok:pP P w H h) (e:H a=some (.dT kvs)):VB P w H h a kvs:=BC ok (.inl e)
end
def GG (H:Hp) (a:vm) (y:V) (r:Option V):Prop:=
 (∃kvs k,Rd H a (.dK kvs)/\y=kV k/\r=cV kvs k)\/∃kvs k b,Rd H a (.dT kvs)/\y=.ref b/\H b=some (.tup (k.map kV))/\r=cV kvs k
def VC (H:Hp) (a:vm) (y v:V) (H':Hp):Prop:=
 (∃kvs k,H a=some (.dK kvs)/\y=kV k/\⇑kvs<sizeLine/\H'=upd H a (.dK (putK kvs k v)))\/
 ∃kvs k b,H a=some (.dT kvs)/\y=.ref b/\H b=some (.tup (k.map kV))/\⇑kvs<sizeLine/\H'=upd H a (.dT (putK kvs k v))
section
variable {X:Cx} {pins:List (vm×Obj)} {U:St} {H:Hp} {s:vg} {a:vm} {y v:V} {u r:vf} {o:Option V} {A:vj} {E:vf->vg->Prop}
def Inv.big (I:Inv X pins U H s):sysModules<↑s:=by
 let h:mainGlobals<↑s:=(I.mod.glob.keeps I.bk).lt;exact xB ∅ h
def Nt (hu:A.units+1<cLine) (I:Inv X pins U H s) (g:GG H a y (some v)) (ry:RelV y u) (h:∀w' s',Inv X pins U H s'->RelV v w'->Q w' s') :
  wpAny (model X.prog X.w) A (getItem (.ref a) u) Q E s:=by
 rcases g with⟨kvs,k,e,ey,l⟩ | ⟨kvs,k,b,e,ey,eb,l⟩
 ·subst ey
  let⟨z,hd,vs,rel,dd⟩:=uh I.cx e;let⟨w',hw,rw'⟩:=lG.some_of (v:=v) (o:=valueAt vs k) (by rw[l];exact rel.val k);exact wpAny_getItem_of (D3 ry) dd.mapOf hw (h w' _ (I.tok _) rw')
 ·subst ey
  cases(show u=Value.ref b from ry);let⟨z,hd,xs,rel,dd⟩:=BC I.cx e;let⟨w',hw,rw'⟩:=lG.some_of (v:=v) (o:=(atKey xs k).map (·.2)) (by rw[l];exact rel.val k);let⟨p,hp,hp2⟩:=Option.map_eq_some_iff.mp hw;refine wpAny_getItem_heap (wt hu) (sV I.cx eb) dd hp ?_;rw[hp2];exact h w' _ (I.tok _) rw'
def WU (hu:A.units+1<cLine) (I:Inv X pins U H s) (g:GG H a y o) (ry:RelV y u) (h:∀s',Inv X pins U H s'->Q (.bool o.isSome) s') :
  wpAny (model X.prog X.w) A (compareOp .In u (.ref a)) Q E s:=by
 rcases g with⟨kvs,k,e,ey,l⟩ | ⟨kvs,k,b,e,ey,eb,l⟩
 ·subst ey
  let⟨z,hd,vs,rel,dd⟩:=uh I.cx e;refine wpAny_in_of (D3 ry) hd dd.mapOf ?_;rw[<-(rel.val k).ka,<-l];exact h _ (I.tok _)
 ·subst ey
  cases(show u=Value.ref b from ry);let⟨z,hd,xs,rel,dd⟩:=BC I.cx e;refine wpAny_in_heap (wt hu) (sV I.cx eb) hd dd ?_;let q:=(rel.val k).ka;rw[Option.isSome_map] at q;rw[<-q,<-l];exact h _ (I.tok _)
def RE (hu:A.units+1<cLine) (I:Inv X pins U H s) (g:GG H a y o) (ry:RelV y u) (h:∀s',Inv X pins U H s'->Q (.bool (!o.isSome)) s') :
  wpAny (model X.prog X.w) A (compareOp .NotIn u (.ref a)) Q E s:=by
 rcases g with⟨kvs,k,e,ey,l⟩ | ⟨kvs,k,b,e,ey,eb,l⟩
 ·subst ey
  let⟨z,hd,vs,rel,dd⟩:=uh I.cx e;refine wpAny_notIn_of (D3 ry) hd dd.mapOf ?_;rw[<-(rel.val k).ka,<-l];exact h _ (I.tok _)
 ·subst ey
  cases(show u=Value.ref b from ry);let⟨z,hd,xs,rel,dd⟩:=BC I.cx e;refine wpAny_notIn_heap (wt hu) (sV I.cx eb) hd dd ?_;let q:=(rel.val k).ka;rw[Option.isSome_map] at q;rw[<-q,<-l];exact h _ (I.tok _)
def Mf (I:Inv X pins U H s) (mu:Vw (H a)) (hs:Heap.SameBut a s.heap h') (he:∃q,h'.get? a=some q) (new:cD X.prog X.w (upd H a ob) h' a ob) :
  Inv X pins U (upd H a ob) {s with heap:=h',toks:=t'}:=
 I.write (x:=a) (e:=a) mu (.inl rfl) (λb q hb z=>(hs.2 b hb).trans z) he new
def Uc (z:⇑kvs<=sizeLine) (hd:(a == sysModules)=false) (rel:KV kvs vs) (dd:h'.DictOf (dF P w) a vs) :
  cD P w H' h' a (.dK kvs):={(z),hd,vs,rel,dd}
def Nq (hu:A.units+1<cLine) (I:Inv X pins U H s) (g:VC H a y v H') (ry:RelV y u) (rv:RelV v r) (h:∀s',Inv X pins U H' s'->Q .unit s') :
  wpAny (model X.prog X.w) A (setItem (.ref a) u r) Q E s:=by
 rcases g with⟨kvs,k,e,ey,l,eH⟩ | ⟨kvs,k,b,e,ey,eb,l,eH⟩
 ·subst ey eH
  let⟨z,hd,vs,rel,dd⟩:=Vp I.cx e;let hz:⇑vs<=sizeLine:=by rw[<-⇑rel];exact z
  let hl:⇑(putK kvs k v)<=sizeLine:=by have:=jC kvs k v;ext
  refine wpAny_setItem_pairs (hsz:=hz) (D3 ry) dd λh' dd' hs=>h _ ?_;let he:∃q,h'.get? a=some q:=let ⟨q,_,_,hq,_⟩:=dd';{(q),hq};exact Mf I (by rw[e];exact True.intro) hs he (Uc hl hd (rel.put k rv) dd')
 ·subst ey eH
  cases(show u=Value.ref b from ry);let⟨z,hd,xs,rel,dd⟩:=Vo I.cx e;let hz:⇑xs<=sizeLine:=by rw[<-xT rel];exact z
  let hl:⇑(putK kvs k v)<=sizeLine:=by have:=jC kvs k v;ext
  refine wpAny_setItem_heap (hsz:=hz) (wt hu) (sV I.cx eb) dd λh' dd' hs=>h _ ?_;let⟨q,es,ep,hq,h2,h3,h4,_,h5⟩:=dd';refine Mf I (by rw[e];exact True.intro) hs ⟨q,hq⟩ ⟨hl,hd,_,(rel.put k eb rv).keeps λc ys ec=>?_,q,es,ep,hq,h2,h3,h4,h5⟩;rw[aG (bx ec e (λz=>nomatch z))];exact ec
end
section
variable {X:Cx} {pins:List (vm×Obj)} {U:St} {H:Hp} {s:vg} {a:vm} {kvs:List (Key×V)} {k:Key} {u:vf} {A:vj} {E:vf->vg->Prop}
def Vr (I:Inv X pins U H s) (e:Rd H a (.dK kvs)) (h:∀t s',Inv X pins U H s'->Q (.int ⇑kvs t) s'):wpAny (model X.prog X.w) A (call (.builtin "len") [.ref a]) Q E s:=by
 let⟨z,hd,vs,rel,dd⟩:=uh I.cx e;refine call_len_dict hd dd (by rw[<-⇑rel];rw[yy] at z;ext) ?_;rw[<-⇑rel];exact h _ _ (I.tok _)
end
def Um (i:Expr):Prop:=∀ov iv,subscripted i false ov iv=operate [ov,iv] (getItem ov iv)
def LP {prog:vh} {w:vi} {A:vj} {E:vf->vg->Prop} {s:vg} {env:Env} {value slice:Expr} {pos:Pos} {T id:String} {Q:vf->vg->Prop}
  (hl:typeLookup (.type T) "__getitem__"= pure (some (.builtin id))) (hs:Um slice)
  (h:wpAny (model prog w) A (eval value env) (λo s₁=>wpAny (model prog w) A (eval slice env) (λi s₂=>s₂.TypeIs o T/\wpAny (model prog w) A (getItem o i) Q E s₂) E s₁) E s) :
  wpAny (model prog w) A (eval (.Subscript value slice pos) env) Q E s:=by
 refine Subscript_ (y7 h (λo s₁ h₁=>y7 h₁ (λi s₂ h₂=>?_) λ_ _ x=>x) λ_ _ x=>x);let⟨hT,h₂⟩:=h₂;unfold subscriptTail;refine yq ?_;rw[getitemInPython_of_ne hT.not_modules];refine yq (wpAny_specialOf hT hl ?_);let fin:wpAny (model prog w) A (subscripted slice false o i) (λr s₃=>wpAny (model prog w) A (letTemporaryGo value o r >>= λ_=>pure r) Q E s₃) E s₂:=by
  rw[hs o i];exact wpAny_operating (y7 h₂ (λr s₃ h₃=>yq (wpAny_letTemporaryGo (yt h₃))) λ_ _ x=>x)
 first
  | exact yt (yq fin)
  | exact yq (yt (yq fin))
  | exact yq fin
def IS (I:Inv X pins U H s) (g:GG H a y o):s.TypeIs (.ref a) "dict":=by
 rcases g with⟨kvs,k,e,_,_⟩ | ⟨kvs,k,b,e,_,_,_⟩
 ·let⟨_,_,vs,_,dd⟩:=uh I.cx e
  exact dd.typeIs
 ·let⟨_,_,xs,_,dd⟩:=BC I.cx e
  exact dd.typeIs
def UR (td ty:TE):TE:=λU H Q=>td U H λx H1=>ty U H1 λy H2=>∃a v,x=.ref a/\GG H2 a y (some v)/\Q v H2
def Wn (ty td:TE):TE:=λU H Q=>ty U H λy H1=>td U H1 λx H2=>∃a o,x=.ref a/\GG H2 a y o/\Q (.bl o.isSome) H2
def QM (ty td:TE):TE:=λU H Q=>ty U H λy H1=>td U H1 λx H2=>∃a o,x=.ref a/\GG H2 a y o/\Q (.bl (!o.isSome)) H2
def UZ (td ty tv:TE):TS:=λD U H=>tv U H λv H1=>td U H1 λx H2=>ty U H2 λy H3=>∃a H4,x=.ref a/\VC H3 a y v H4/\D.nx U H4
section
variable {X:Cx} {o i e value:Expr} {pos pos' tpos:Pos} {td ty tv:TE}
def vW (hu:X.A.units+1<cLine) (ho:PE X o td) (hi:PE X i ty) (hs:Um i):PE X (.Subscript o i pos) (UR td ty):=by
 intro pins s U H Q I h;refine LP PySem.F.slot_dict_getitem.lookup hs (cQ (ho s U H _ I h) λu s1 z0=>?_);let⟨x,H1,I1,rx,q1⟩:=z0;refine cQ (hi s1 U H1 _ I1 q1) λiv s2 z1=>?_;let⟨y,H2,I2,ry,a,v,ex,g,q2⟩:=z1;subst ex;obtain rfl:u=Value.ref a:=rx;exact{IS I2 g,Nt hu I2 g ry λw' s3 I3 rw'=>{(v),H2,I3,rw',q2}}
def Fm (hu:X.A.units+1<cLine) (hi:PE X i ty) (ho:PE X o td):PC X .In i o (Wn ty td):=by
 intro pins s U H Q I h;refine cQ (hi s U H _ I h) λiv s1 z0=>?_;let⟨y,H1,I1,ry,q1⟩:=z0;refine cQ (ho s1 U H1 _ I1 q1) λu s2 z1=>?_;let⟨x,H2,I2,rx,a,ov,ex,g,q2⟩:=z1;subst ex;obtain rfl:u=Value.ref a:=rx;exact WU hu I2 g ry λs3 I3=>{.bl ov.isSome,H2,I3,rfl,q2}
def sF (hu:X.A.units+1<cLine) (hi:PE X i ty) (ho:PE X o td):PC X .NotIn i o (QM ty td):=by
 intro pins s U H Q I h;refine cQ (hi s U H _ I h) λiv s1 z0=>?_;let⟨y,H1,I1,ry,q1⟩:=z0;refine cQ (ho s1 U H1 _ I1 q1) λu s2 z1=>?_;let⟨x,H2,I2,rx,a,ov,ex,g,q2⟩:=z1;subst ex;obtain rfl:u=Value.ref a:=rx;exact RE hu I2 g ry λs3 I3=>{.bl (!ov.isSome),H2,I3,rfl,q2}
def nF (hu:X.A.units+1<cLine) (ho:PE X o td) (hi:PE X i ty) (hv:PE X value tv) (hs:swapsWith value (some (.Subscript o i pos')) pos.line X.env=pure false) :
  PS X (.Assign [.Subscript o i pos'] value pos) (UZ td ty tv):=by
 intro pins s U H D I h;refine wpAny_Assign_Subscript (cQ (hv s U H _ I h) λr s1 z0=>?_) hs;let⟨v,H1,I1,rv,q1⟩:=z0;refine cQ (ho s1 U H1 _ I1 q1) λu s2 z1=>?_;let⟨x,H2,I2,rx,q2⟩:=z1;refine cQ (hi s2 U H2 _ I2 q2) λiv s3 z2=>?_;let⟨y,H3,I3,ry,a,H4,ex,g,q3⟩:=z2;subst ex;obtain rfl:u=Value.ref a:=rx;exact Nq hu I3 g ry rv λs4 I4=>{U,H4,I4,q3}
end
def Qc (h:vn) (hb:sysModules<h.objs.size):cD P w H (h.push {cls:=.type "dict",data:=.dict #[]}) h.objs.size (.dK []):=
 {yd _,xA.mpr (Ne.symm (yg hb)),[],.nil,Heap.DictOf.new h}
def P9 (h:vn) (hb:sysModules<h.objs.size):cD P w H (h.push {cls:=.type "dict",data:=.dict #[]}) h.objs.size (.dT []):=
 {yd _,xA.mpr (Ne.symm (yg hb)),[],.nil,_,#[],0,yu _ rfl,{(rfl),rfl,rfl},rfl,rfl,xW}
def SU:TE:=λ_ H Q=>∀p,H p=none->Q (.ref p) (upd H p (.dK []))
def SS:TE:=λ_ H Q=>∀p,H p=none->Q (.ref p) (upd H p (.dT []))
section
variable {X:Cx} {pos:Pos}
def mL:PE X (.Dict [] [] pos) SU:=λpins s U H Q I h=>
 wpAny_Dict_empty {.ref ↑s,_,I.laid (a:=↑s) (o:=.dK []) (t':=s.toks) (λ_ _ q=>yr _ q) (zk _) (Qc s.heap I.big),rfl,h _ (I.cx.fresh (zk _))}
def Pj:PE X (.Dict [] [] pos) SS:=λpins s U H Q I h=>
 wpAny_Dict_empty {.ref ↑s,_,I.laid (a:=↑s) (o:=.dT []) (t':=s.toks) (λ_ _ q=>yr _ q) (zk _) (P9 s.heap I.big),rfl,h _ (I.cx.fresh (zk _))}
end
structure M2 (X:Cx) (o:Expr) (m:Str) (apos:Pos) (e f:Expr) (cpos:Pos):Prop where
 base:attributeBase o m X.env (eval o X.env)=eval o X.env
 Xy:((backTo cpos (starEach [e,f] X.env)).all (λx=>!x.1)&&(backToKw cpos (keywordEach [] X.env)).all (λx=>x.1.isSome)
  &&decide (⇑([e,f]:List Expr)+⇑([]:List Keyword)+(if([]:List Keyword).isEmpty then 0 else 1)<30))=true
 line:(apos.endLine == cpos.line)=true
 trees:backTo cpos (starEach [e,f] X.env)=[(false,eval e X.env),(false,eval f X.env)]
def Xm (H:Hp) (a:vm):Prop:=(∃kvs,Rd H a (.dK kvs))\/∃kvs,Rd H a (.dT kvs)
def TV (I:Inv X pins U H s) (d:Xm H a) :
  s.TypeIs (.ref a) "dict"/\(∀b,Value.ref a=.ref b->∃ob,s.heap.get? b=some ob/\ob.dict=none)/\(a == sysModules)=false:=by
 rcases d with⟨kvs,e⟩ | ⟨kvs,e⟩
 ·let⟨_,hd,vs,_,dd⟩:=uh I.cx e
  refine{dd.typeIs,λb q=>?_,hd};cases q;let⟨ob,_,_,h1,h2,_⟩:=dd;exact{(ob),h1,h2.2.1}
 ·let⟨_,hd,xs,_,dd⟩:=BC I.cx e
  refine{dd.typeIs,λb q=>?_,hd};cases q;let⟨ob,_,_,h1,h2,_⟩:=dd;exact{(ob),h1,h2.2.1}
section
variable {X:Cx} {pins:List (vm×Obj)} {U:St} {H:Hp} {s:vg} {a:vm} {y d:V} {u r:vf} {o:Option V} {A:vj} {E:vf->vg->Prop}
def Ud (hu:A.units+1<cLine) (I:Inv X pins U H s) (g:GG H a y o) (ry:RelV y u) (rd:RelV d r) (h:∀w' s',Inv X pins U H s'->RelV (o.getD d) w'->Q w' s') :
  wpAny (model X.prog X.w) A (call (.builtin "dict.get") [.ref a,u,r]) Q E s:=by
 rcases g with⟨kvs,k,e,ey,l⟩ | ⟨kvs,k,b,e,ey,eb,l⟩
 ·subst ey
  let⟨z,hd,vs,rel,dd⟩:=uh I.cx e;refine call_meetsIn PySem.F.slot_dict_get dd.typeIs PySem.F.entry_dict_get (PySem.F.args_dict_get_3 _ _ _) (meets_dict_get_default (dF X.prog X.w) a (D3 ry) hd r) {_,dd.mapOf,h _ _ (I.tok _) ?_};rw[l];exact(rel.val k).getD rd
 ·subst ey
  cases(show u=Value.ref b from ry);let⟨z,hd,xs,rel,dd⟩:=BC I.cx e;refine call_meetsIn PySem.F.slot_dict_get dd.typeIs PySem.F.entry_dict_get (PySem.F.args_dict_get_3 _ _ _) (meetsH_dict_get_default (tupleKind (dF X.prog X.w)) a b hd r) {wt hu,k,xs,sV I.cx eb,dd,h _ _ (I.tok _) ?_};rw[l];exact(rel.val k).getD rd
end
def SW (td ty tx:TE):TE:=λU H Q=>td U H λx H1=>∃a,x=.ref a/\Xm H1 a/\ty U H1 λy H2=>tx U H2 λz H3=>∃o,GG H3 a y o/\Q (o.getD z) H3
section
variable {X:Cx} {o e f:Expr} {apos cpos:Pos} {td ty tx:TE}
def A6 (hu:X.A.units+1<cLine) (ho:PE X o td) (he:PE X e ty) (hf:PE X f tx) (m:M2 X o "get" apos e f cpos):PE X (.Call (.Attribute o "get" apos) [e,f] [] cpos) (SW td ty tx):=by
 intro pins s U H Q I h;refine wpAny_Call_method m.base m.Xy m.line PySem.F.plainAttrs_dict PySem.F.slot_dict_get PySem.F.type_dict_get (cQ (ho s U H _ I h) λu s1 z0=>?_);let⟨x,H1,I1,rx,a,ex,d,q1⟩:=z0;subst ex;obtain rfl:u=Value.ref a:=rx;let⟨t1,t2,_⟩:=TV I1 d;refine{t1,t2,?_};rw[m.trees];refine wF rfl (Calls.evalArgs_plain (wx (cQ (he s1 U H1 _ I1 q1) λiv s2 z0=>?_)));let⟨y,H2,I2,ry,q2⟩:=z0;refine wx (cQ (hf s2 U H2 _ I2 q2) λfv s3 z1=>?_);let⟨z,H3,I3,rz,ov,g,q3⟩:=z1;refine vd ?_;exact Ud hu I3 g ry rz λw' s4 I4 rw'=>{_,H3,I4,rw',q3}
end
section
variable {X:Cx} {pins:List (vm×Obj)} {U:St} {H:Hp} {s:vg} {a:vm} {kvs:List (Key×V)} {A:vj} {E:vf->vg->Prop}
end
section
variable {X:Cx} {pins:List (vm×Obj)} {U:St} {H:Hp} {s:vg} {a:vm} {y:V} {u:vf} {A:vj} {E:vf->vg->Prop}
end
end L2
namespace L2
open PySem PySem.Spec PyProof.Rows
section
variable {κ:Type} [DecidableEq κ]
def GO {kvs:List (κ×V)} {k:κ} (h:cV kvs k=none):¬k∈kvs.map (·.1):=by
 intro m;let⟨p,hp,e⟩:=zF.mp m;let q:(kvs.any λkv=>decide (kv.1=k))=true:=yk.mpr {p,hp,ze e};rw[j7,h] at q;exact absurd q (by simp)
end
end L2
namespace L2
open PySem PySem.Spec PyProof.Rows
def dg (U₀:St) (g:TG) (tc:TT) (te:TE) (Q:VK) (J:It) (H1:Hp):Prop:=∃W:Nat->Nat->List V->St->Hp->Prop,(∃m,W 0 m [] U₀ H1)/\∀i m xs U' H',W i m xs U' H'->
 (J.stop i H'/\⇑xs<=sizeLine/\∀D,H' D=none->Q (.ref D) (upd H' D (.lst xs)))\/
 (J.go i H'/\⇑xs<sizeLine/\∀x H2,J.JP i H' x H2->g x U' H2 λσ3 H3=>tc σ3 H3 λb H4=>if b=true then te σ3 H4 λy H5=>∃m',m'<m/\W (i+1) m' (xs++[y]) σ3 H5 else∃m',m'<m/\W (i+1) m' xs σ3 H4)
noncomputable def cP (X:Cx) (N:List Str) (scope:Scope) (cl:List (Str×vm)) (C:vm) (s₀:vg) (H₀:Hp) (ex:List vm):Cx:=
 {X with N:=N,s₀:=s₀,H₀:=H₀,env:=compEnvC scope (cellsFrom (C+1) scope.names cl) C X.env,outer:=X.stack,stack:=X.stack,ex:=ex,fn:=λx=>((cellsFrom (C+1) scope.names []).lookup x).isSome,pn:=[],xe:=λ_ _=>False}
def mz (fr:List (Option Nat)) (wi:TI) (g:TG) (tc:TT) (te:TE):TE:=λU H Q=>wi U H λJ H1=>dg (fr.map λo=>o.bind λj=>(U[j]?).join) g tc te Q J H1
def RQ (X:Cx) (ifs:List Expr) (tc:TT):Prop:=∀(pins:List (vm×Obj)) (s:vg) (U:St) (H:Hp) (Q:Bool->Hp->Prop),Inv X pins U H s->tc U H Q->
 wpAny (model X.prog X.w) X.A (forIn ifs true λc r=>if r=true then do let ok <-isTrue c X.env (eval c X.env);pure (ForInStep.yield ok) else pure (ForInStep.yield r)) (TP X pins U Q) X.xe s
def pT:TT:=λ_ H Q=>Q true H
def bB:RQ X [] pT:=λ_ _ _ H _ I h=>wpAny_tests_nil {(H),I,h}
def gs (h:PT X c tc):RQ X [c] tc:=λpins s U H Q I q=>wpAny_tests_one (h s U H Q I q)
theorem dj:∀(names:List (Str×NameKind)) (n:Nat) (acc:List (Str×vm)),cellsFrom n names acc=cellsFrom n names []++acc
 | [],_,_=>rfl
 | (x,k)::r,n,acc=>by
  unfold cellsFrom;split
  ·rw[dj r (n+1) ((x,n)::acc),dj r (n+1) [(x,n)],zD];rfl
  ·exact dj r n acc
def Rg {h:vn} {lo:Nat} {cs:List (Str×vm)} (ok:CellsOk h lo cs) {x y:Str} {c:vm} (e:cs.lookup x=some c) (e':cs.lookup y=some c):x=y:=by
 let key:∀(l:List (Str×vm)),l.Pairwise (λx y=>x.2≠y.2)->(x,c)∈l->(y,c)∈l->x=y:=by
  intro l
  induction l with
  | nil=>intro _ h;cases h
  | cons p r ih=>
   intro hp h1 h2;rw[y4] at hp;rcases zB.mp h1 with h1 | h1
   ·rcases zB.mp h2 with h2 | h2
    ·rw[<-h1] at h2;exact(Prod.mk.inj h2).1.symm
    ·exact absurd rfl (by have:=hp.1 _ h2;rw[<-h1] at this;exact this)
   ·rcases zB.mp h2 with h2 | h2
    ·exact absurd rfl (by have:=hp.1 _ h1;rw[<-h2] at this;exact this)
    ·exact ih hp.2 h1 h2
 exact key cs ok.apart (mem_of_lookup e) (mem_of_lookup e')
def FE
  (hQ:∀g1:vn,g1.Ns ↑s (λ_=>none)->(∀b o,s.heap.get? b=some o->g1.get? b=some o)->CellsOk g1 (↑s+1) (cellsFrom (↑s+1) scope.names [])->
   Q (newEnv scope ↑s globals (cellsFrom (↑s+1) scope.names cl) qual none .none (some outer) builtinsNs) {s with heap:=g1}) :
  wpAny M A (newFunctionEnv scope globals cl [] qual none .none (some outer)) Q E s:=by
 simp only[newFunctionEnv,Option.isSome_some,wV];refine yq (wpAny_alloc ?_);refine yq (wpAny_layCells _ (λname kind cells=>by cases hkc:kind == NameKind.cell <;> simp[hkc]) _ _ _ _ ?_);let ok:=cellsFrom_ok scope.names (s.heap.push {cls:=.type "dict",data:=.dict #[]}) (↑s+1) [] {λ_ _ hm=>(nomatch hm),List.Pairwise.nil} (by rw[xf];exact zk _);rw[xf] at ok;rw[show({s with heap:=s.heap.push {cls:=.type "dict",data:=.dict #[]}}:vg).heap.objs.size=↑s+1 from xf ..];exact yq (yt (yt (hQ _ ((Heap.Ns.new s.heap (.type "dict")).keeps (pushCells_keeps _ _)) (λb o e=>pushCells_keeps _ _ b o (yr _ e)) ok)))
def Lh (I:Nat->vg->Prop)
  (turn:∀n s,I n s->wpAny (model prog w) A (pyNext it) (λr s1=>match r with
   | none=>R (.ok .next) s1
   | some v=>wpAny (model prog w) A (letOwnedTupleGo target it v) (λ_ s2=>wpAny (model prog w) A (assign target env v) (λ_ s3=>
     wpAny (model prog w) A (forIn ifs true λc r=>if r=true then do let ok <-isTrue c env (eval c env);pure (ForInStep.yield ok) else pure (ForInStep.yield r)) (λok s3'=>if ok=true then wpAny (model prog w) A (eval elt env) (λx s4=>
     wpAny (model prog w) A (call (.builtin "list.append") [acc,x]) (λ_ s5=>∃m,m<n/\I m s5) (λ_ _=>False) s4) (λ_ _=>False) s3' else∃m,m<n/\I m s3') (λ_ _=>False) s3) (λ_ _=>False) s2) (λ_ _=>False) s1) (λ_ _=>False) s)
  (n:Nat) (h:I n s):codeAny (model prog w) A (.compLoop (.ListComp elt [{target,iter,ifs,0}] scope pos) 0 it acc env) R s:=by
 refine codeAny_loop rfl I (λn s hI=>?_) n h;show wpAny _ _ ((compTurn (.ListComp elt [{target,iter,ifs,0}] scope pos) 0 it acc env).onRaise (λx=>do noteFrame x env;theTreesLotGoes x)) _ _ s;refine wpAny_noted ?_;rw[compTurn_list];let no:∀(E:vf->vg->Prop) (x:vf) (s':vg),False->E x s':=λ_ _ _ f=>f.elim;refine yq (wpAny_standAt (yq (y7 (turn n s hI) (λr s1 h1=>?_) (no _))));cases r with
 | none=>exact yt h1
 | some v=>
  refine yq (y7 h1 (λ_ s2 h2=>yq (y7 h2 (λ_ s3 h3=>yq (y7 h3 (λok s3' h3'=>?_) (no _))) (no _))) (no _));cases ok with
  | false=>
   rw[yJ ∅] at h3';exact yt {(rfl),h3'}
  | true=>
   rw[yK rfl] at h3';exact yq (yq (y7 h3' (λx s4 h4=>yq (y7 h4 (λ_ s5 h5=>yt (yt {(rfl),h5})) (no _))) (no _)))
section
variable {X:Cx} {pos:Pos}
def BV {elt target iter:Expr} {scope:Scope} {N:List Str} {fr:List (Option Nat)} {cl:List (Str×vm)} {g:TG} {tc:TT} {te:TE} {ifs:List Expr} (hc:X.calm=true) (hsub:∀x c,cl.lookup x=some c->X.env.cells.lookup x=some c) (hhas:∀C x,((compEnvC scope cl C X.env).kindOf x=some .cell\/(compEnvC scope cl C X.env).kindOf x=some .free)->(∃c,cl.lookup x=some c)\/∃c,(cellsFrom (C+1) scope.names []).lookup x=some c)
  (hlen:⇑fr=N.length) (hfr:∀(i:Nat) x j,N[i]?=some x->fr[i]?=some (some j)->X.N[j]?=some x/\Uj X.env.scope x/\X.env.kindOf x≠some .local/\(∀C,(compEnvC scope cl C X.env).kindOf x=some .cell\/(compEnvC scope cl C X.env).kindOf x=some .free)/\(∀c,X.env.cells.lookup x=some c->cl.lookup x=some c)/\∀C,(cellsFrom (C+1) scope.names []).lookup x=none) (hkind:scope.kind=.function)
  (hg:∀C s₀ H₀ ex,PG (cP X N scope cl C s₀ H₀ ex) target g) (hif:∀C s₀ H₀ ex,RQ (cP X N scope cl C s₀ H₀ ex) ifs tc) (he:∀C s₀ H₀ ex,PE (cP X N scope cl C s₀ H₀ ex) elt te)
  {pins:List (vm×Obj)} {U:St} {s2:vg} {it:vm} {fp:List vm} {tn:Nat->vn->Prop} {J:It} {H2:Hp} {Q:VK} {RR:vf->vm->Result->vg->Prop} (I2:Inv X pins U H2 s2) (T:Turn X.prog X.w X.K target J fp it tn) (st2:tn 0 s2.heap) (f2:∀b∈fp,DI X pins H2 b)
  (ok:dg (fr.map λo=>o.bind λj=>(U[j]?).join) g tc te Q J H2)
  (fin:∀D C s4 H' xs,↑s2<=D->↑s2<=C->C≠D->Inv X pins U (upd H' D (.lst xs)) s4->H' D=none->H' C=none->(∃m,s4.heap.Ns C m)->(∀D,H' D=none->Q (.ref D) (upd H' D (.lst xs)))->RR (.ref D) C (.ok .next) s4) :
  wpAny (model X.prog X.w) X.A (newList []) (λacc s3=>wpAny (model X.prog X.w) X.A (newFunctionEnv scope X.env.globals cl [] X.env.qual none .none (some X.env)) (λcenv s4=>
   codeAny (model X.prog X.w) X.A (.compStart (.ListComp elt [{target,iter,ifs,0}] scope pos) 0 (.ref it) acc {cenv with scope:=relabel scope X.env}) (RR acc cenv.locals) s4) X.xe s3) X.xe s2:=by
 let⟨W,⟨m0,w0⟩,turn⟩:=ok;refine y6 (FE λg1 hns hold hown=>?_);dsimp only at hns hold hown ⊢;generalize hG:s2.heap.push {cls:=.type "list",dict:=none,data:=.seq ([]:List vf).toArray}=G2 at hns hold hown ⊢;let hC:G2.objs.size=↑s2+1:=by rw[<-hG,xf]
 let below:∀b,b<↑s2->b≠G2.objs.size/\b≠↑s2:=λb hb=>{by rw[hC];exact yg (wD hb),yg hb}
 let hDC:↑s2≠G2.objs.size:=by rw[hC];exact yg (xJ _)
 let old:∀b o,s2.heap.get? b=some o->g1.get? b=some o:=λb o e=>hold b o (hG▸yr _ e);let hacc:g1.get? ↑s2=some {cls:=.type "list",data:=.seq ([]:List vf).toArray 0}:=hold _ _ (hG▸yu _ rfl);let hsC:↑s2<G2.objs.size:=by rw[hC];exact xJ _
 let csl:∀x c,(cellsFrom (G2.objs.size+1) scope.names cl).lookup x=some c->((cellsFrom (G2.objs.size+1) scope.names []).lookup x=some c/\G2.objs.size<c/\g1.IsCell c none)\/((cellsFrom (G2.objs.size+1) scope.names []).lookup x=none/\cl.lookup x=some c/\X.env.cells.lookup x=some c/\c<↑s2):=λx c e=>by
  rw[dj,wu] at e;cases q:(cellsFrom (G2.objs.size+1) scope.names []).lookup x with
  | some d=>
   rw[q] at e;cases e;let⟨z1,z2⟩:=hown.empty x _ (mem_of_lookup q);exact .inl {(rfl),z2,z1}
  | none=>
   rw[q] at e;let⟨v,z⟩:=I2.cell x c (hsub x c e);exact .inr {rfl,e,hsub x c e,z.lt}
 let fplt:∀b∈fp,b<↑s2:=λb hb=>let ⟨o,e,_⟩:=T.obj _ _ st2 b hb;yv e;let QC:∀b∈fp,∀x c,(cellsFrom (G2.objs.size+1) scope.names cl).lookup x=some c->c≠b:=λb hb x c e=>by
  rcases csl x c e with⟨_,l,_⟩ | ⟨_,_,z,_⟩
  ·exact yf (xB (fplt b hb) (xB hsC l))
  ·exact(f2 b hb).2.2.2.2.1 x c z
 letI Y:Cx:=cP X N scope cl G2.objs.size s2 H2 fp
 let okY:Y.Ok:=by
  refine{I2.ok.mod,hkind,I2.ok.glob,I2.ok.blt,?_,λx y c e e'=>?_,λx hx=>?_,λx c hf e=>?_,I2.ok.hd,I2.ok.frames,.inl rfl,λb hb=>{(below b (fplt b hb)).1,λx c e=>QC b hb x c e},I2.bs,zK I2.ok.N4 I2.sz,λb o e hb=>?_,λb hb hf=>?_,I2.stack,I2.vV}
  ·show ↑s2<=G2.objs.size
   rw[hC];exact xV _
  ·rcases csl x c e with⟨q,l,_⟩ | ⟨_,q,z,l⟩
   ·rcases csl y c e' with⟨q',l',_⟩ | ⟨_,q',z',l'⟩
    ·exact Rg hown q q'
    ·exact absurd (xB (xB hsC l) l') (yc _)
   ·rcases csl y c e' with⟨q',l',_⟩ | ⟨_,q',z',l'⟩
    ·exact absurd (xB (xB hsC l') l) (yc _)
    ·exact I2.ok.inj x y c z z'
  ·show∃c,(cellsFrom (G2.objs.size+1) scope.names cl).lookup x=some c
   rw[dj,wu];rcases hhas G2.objs.size x hx with⟨c,e⟩ | ⟨c,e⟩
   ·rw[e];cases(cellsFrom (G2.objs.size+1) scope.names []).lookup x with
    | none=>exact{(c),rfl}
    | some d=>exact{(d),rfl}
   ·rw[e];exact{(c),rfl}
  ·let hf':((cellsFrom (G2.objs.size+1) scope.names []).lookup x).isSome=true:=hf
   rcases csl x c e with⟨q,l,_⟩ | ⟨q,_⟩
   ·exact ye (xB hsC l)
   ·rw[q] at hf';cases hf'
  ·rcases(f2 b hb).2.2.2.1 with z | z
   ·exact I2.ok.u9 b o e z
   ·exact absurd (z9 (yv e) (zK I2.ok.N4 z)) (yc _)
  ·rcases zB.mp (I2.EG b hf) with z | z
   ·exact(f2 b hb).2.1 z
   ·exact(f2 b hb).2.2.1 z
 let cl2:∀x c,(cellsFrom (G2.objs.size+1) scope.names cl).lookup x=some c->(∃v,g1.IsCell c v)/\H2 c=none/\c≠↑s2:=λx c e=>by
  rcases csl x c e with⟨_,l,z⟩ | ⟨_,_,z,l⟩
  ·exact{{_,z},I2.cx.fresh (ye (xB hsC l)),yf (xB hsC l)}
  ·let⟨v,oc,hoc,hd⟩:=I2.cell x c z
   exact{{v,oc,old _ _ hoc,hd},I2.ke x c z,yg l}
 let Dfs:↑s2∉Y.fs:=λhb=>by
  rcases zB.mp (I2.EG _ hb) with z | z
  ·exact absurd (z▸I2.lt) (yc _)
  ·exact I2.U5 (zk _) z
 let hCf:H2 G2.objs.size=none:=I2.cx.fresh (by rw[hC];exact xV _);let start:∀tk,Inv Y [(↑s2,{cls:=.type "list",data:=.seq ([]:List vf).toArray 0})] (fr.map λo=>o.bind λj=>(U[j]?).join) H2 {s2 with heap:=g1,toks:=tk}:=λtk=>
  {okY,rfl,I2.bare,Un.kept old,{_,hns,λi x v e1 e2 _=>by
    rw[zI] at e2;cases ef:fr[i]? with
    | none=>rw[ef] at e2;cases e2
    | some o=>
     cases o with
     | none=>rw[ef] at e2;cases e2
     | some j=>
      rw[ef] at e2;let e2':(U[j]?).join=some v:=by simpa using e2
      let ej:U[j]?=some (some v):=by
       cases q:U[j]? with
       | none=>rw[q] at e2';cases e2'
       | some w=>rw[q] at e2';cases w with
        | none=>cases e2'
        | some w=>cases e2';rfl
      let⟨k1,k2,k3,k4,k5,k6⟩:=hfr i x j e1 ef;let⟨m,_,hl⟩:=I2.loc;let⟨u,r,l⟩:=hl j x v k1 ej k2;refine{u,r,?_};rcases l with l | ⟨_,c,ec,z⟩
      ·exact absurd l.1 k3
      ·let⟨oc,hoc,hd⟩:=z
       exact .inr {k4 G2.objs.size,c,by show(cellsFrom (G2.objs.size+1) scope.names cl).lookup x=some c;rw[dj,wu,k6];exact k5 c ec,oc,old _ _ hoc,hd}},
   λx c e=>(cl2 x c e).1,hCf,λx c e=>(cl2 x c e).2.1,
   λp hp=>by
    let e:p=(↑s2,{cls:=.type "list",data:=.seq ([]:List vf).toArray 0}):=by simpa using (show p∈[]++[_] from hp)
    subst e;exact{hacc,I2.cx.fresh (zk _),hDC,Dfs,λv z=>by cases z},I2.cx.kept old,by rw[za,hlen];rfl}
 let stat:∀{H':Hp} {ob:Obj},(∀b∈fp,H' b=none)->∀b∈fp,DI Y [(↑s2,ob)] H' b:=λ{H' ob} hn b hb=>by
  refine{hn b hb,(below b (fplt b hb)).1,λz=>okY.K0 b hb z,.inl hb,QC b hb,λp hp=>?_};let e:p=(↑s2,ob):=by simpa using (show p∈[]++[_] from hp)
  subst e;exact(below b (fplt b hb)).2.symm
 let loop:∀tk,codeAny (model X.prog X.w) X.A (.compLoop (.ListComp elt [{target,iter,ifs,0}] scope pos) 0 (.ref it) (.ref ↑s2) (compEnvC scope (cellsFrom (G2.objs.size+1) scope.names cl) G2.objs.size X.env))
   (RR (.ref ↑s2) G2.objs.size) {s2 with heap:=g1,toks:=tk}:=by
  intro tk;refine Lh (XC Y fp tn ↑s2 W) ?_ m0
   {0,_,H2,[],[],0,start tk,T.keep _ _ _ st2 λb _ o e=>old b o e,λb hb=>(f2 b hb).1,.nil,w0}
  rintro n s3 ⟨i,σ3,H3,xs,its,k,I3,st3,fr3,rv3,w3⟩;rcases turn i n xs σ3 H3 w3 with⟨stop,hz,qn⟩ | ⟨go,hz,step⟩
  ·refine cQ (T.done Y rfl rfl rfl hc i _ s3 σ3 H3 _ I3 (stat fr3) st3 stop) λr s4 ⟨hr,I4⟩=>?_
   subst hr;let⟨m,hm,_⟩:=id I4.loc;let⟨pD,nD,neD,fD,_⟩:=I4.pin (↑s2,{cls:=.type "list",data:=.seq its.toArray k}) (by show _∈[]++[_];simp);refine fin ↑s2 G2.objs.size s4 H3 xs (zk _) (by rw[hC];exact xV _) hDC.symm (I2.Sj (s':=s4) (ch:=fp) I4.os ?_ ?_ I4.bare (λb hb=>{(f2 b hb).2.2.2.1,(f2 b hb).2.1,(f2 b hb).2.2.2.2.1,(f2 b hb).2.2.2.2.2})) nD I4.free {(m),hm} qn
   ·let ub:Un Y.fs Y.ex H2 H3 s2.heap s4.heap:=I4.base
    let lt:∀b o,s2.heap.get? b=some o->b≠G2.objs.size/\b≠↑s2:=λb o e=>below b (yv e);refine{λb o e n hb hx=>ub.keep b o e n hb hx,λb o e n hb hx=>ub.slot b o e n hb hx,λb o e n hx=>?_,λb o e hx=>ub.there b o e hx,λb ys e=>?_,λb o u e=>?_,λb ps e=>?_}
    ·rw[aG (lt b o e).2];exact ub.free b o e n hx
    ·let q:=ub.nX b ys e
     rw[aG (cb q nD)];exact q
    ·let q:=ub.mf b o u e
     rw[aG (cb q nD)];exact q
    ·let⟨more,q⟩:=ub.nY b ps e
     exact{more,by rw[aG (cb q nD)];exact q}
   ·intro b u e
    by_cases hb:b=↑s2
    ·subst hb;rw[aE] at e;cases e
     exact{(hz),its,k,rv3,pD}
    ·rw[aG hb] at e
     exact(I4.cx b u e).lZ (λc v hc' q=>q) (λc q=>by rw[aG (cb q nD)];exact q) λc ys q=>by rw[aG (cb q nD)];exact q
  ·refine cQ (T.item Y rfl rfl rfl hc i _ s3 σ3 H3 _ I3 (stat fr3) st3 go) λr s4 ⟨u,hr,h4⟩=>?_
   subst hr;refine cQ h4 λ_ s5 z0=>?_;let⟨x,H5,I5,r5,y5,st5,fr5⟩:=z0;let I5':=I5.pinned (stat fr5) (T.obj _ _ st5);refine cQ (hg G2.objs.size s2 H2 fp _ s5 σ3 H5 x u _ I5' r5 (step x H5 y5)) λ_ s6 z0=>?_;let⟨σ6,H6,I6,q6⟩:=z0;refine cQ (hif G2.objs.size s2 H2 fp _ s6 σ6 H6 _ I6 q6) λb s6' z0=>?_;let⟨H6',I6',q6'⟩:=z0;cases b with
   | false=>
    rw[yJ ∅] at q6' ⊢;let⟨m',hm,w7⟩:=q6';let inD:(↑s2,({cls:=.type "list",data:=.seq its.toArray k}:Obj))∈Y.pn++([(↑s2,({cls:=.type "list",data:=.seq its.toArray k}:Obj))]++sD fp s5.heap):=by show _∈[]++_;simp
    let⟨pD,nD,neD,fD,dD⟩:=I6'.pin _ inD;let I7':Inv Y [] σ6 H6' s6':=I6'.nH λp hp=>nomatch hp;refine{m',hm,i+1,σ6,H6',xs,its,k,I7'.nH λp hp=>?_,T.keep _ _ _ st5 (λb hb o e=>(I6'.pin (b,o) (zG _ (zG _ (gg hb e)))).1),λb hb=>?_,rv3,w7}
    ·let e:p=(↑s2,{cls:=.type "list",data:=.seq its.toArray k}):=by simpa using hp
     subst e;exact{(pD),nD,neD,fD,dD}
    ·let⟨o,e,d⟩:=T.obj _ _ st5 b hb
     exact(I6'.pin (b,o) (zG _ (zG _ (gg hb e)))).2
   | true=>
   rw[yK rfl] at q6' ⊢;refine cQ (he G2.objs.size s2 H2 fp s6' σ6 H6' _ I6' q6') λv s7 z0=>?_;let⟨y,H7,I7,r7,m',hm,w7⟩:=z0;let inD:(↑s2,({cls:=.type "list",data:=.seq its.toArray k}:Obj))∈Y.pn++([(↑s2,({cls:=.type "list",data:=.seq its.toArray k}:Obj))]++sD fp s5.heap):=by show _∈[]++_;simp
   let⟨pD,nD,neD,fD,dD⟩:=I7.pin _ inD;let hlen:=⇑rv3;refine wpAny_list_append_plain (items:=its.toArray) (hsz:=by rw[zZ];ext) {(k),pD} λg8 pl8 sb8=>?_;let⟨k8,e8⟩:=pl8;let I7':Inv Y [] σ6 H7 s7:=I7.nH λp hp=>nomatch hp;let I8:Inv Y [] σ6 H7 {s7 with heap:=g8}:=I7'.turned (t':=s7.toks) (λb o hb e=>sb8.extBut b o hb e) nD neD (.inr (zk _)) (λx c e=>(cl2 x c e).2.2) (λp hp=>(nomatch (show p∈([]:List (vm×Obj)) from hp)));let e8':g8.get? ↑s2=some {cls:=.type "list",data:=.seq (its++[v]).toArray k8}:=by rw[e8];simp
   let fpD:∀b∈fp,∀o,s5.heap.get? b=some o->g8.get? b=some o:=λb hb o e=>sb8.extBut b o (below b (fplt b hb)).2 (I7.pin (b,o) (zG _ (zG _ (gg hb e)))).1;refine{m',hm,i+1,σ6,H7,xs++[y],its++[v],k8,I8.nH λp hp=>?_,T.keep _ _ _ st5 fpD,λb hb=>?_,rv3.append (.cons r7 .nil),w7}
   ·let e:p=(↑s2,{cls:=.type "list",data:=.seq (its++[v]).toArray k8}):=by simpa using hp
    subst e;exact{e8',nD,neD,fD,λv z=>by cases z}
   ·let⟨o,e,d⟩:=T.obj _ _ st5 b hb
    exact(I7.pin (b,o) (zG _ (zG _ (gg hb e)))).2
 exact codeAny_compStart_list (loop _) (T.self _ _ _ _ _ (T.keep _ _ _ st2 λb _ o e=>old b o e) (loop _))
def MT {elt target iter:Expr} {scope:Scope} {N:List Str} {fr:List (Option Nat)} {cl:List (Str×vm)} {wi:TI} {g:TG} {tc:TT} {te:TE} {ifs:List Expr} (hc:X.calm=true) (hclos:closureFor scope X.env=pure cl) (hsub:∀x c,cl.lookup x=some c->X.env.cells.lookup x=some c) (hhas:∀C x,((compEnvC scope cl C X.env).kindOf x=some .cell\/(compEnvC scope cl C X.env).kindOf x=some .free)->(∃c,cl.lookup x=some c)\/∃c,(cellsFrom (C+1) scope.names []).lookup x=some c)
  (hlen:⇑fr=N.length) (hfr:∀(i:Nat) x j,N[i]?=some x->fr[i]?=some (some j)->X.N[j]?=some x/\Uj X.env.scope x/\X.env.kindOf x≠some .local/\(∀C,(compEnvC scope cl C X.env).kindOf x=some .cell\/(compEnvC scope cl C X.env).kindOf x=some .free)/\(∀c,X.env.cells.lookup x=some c->cl.lookup x=some c)/\∀C,(cellsFrom (C+1) scope.names []).lookup x=none) (hkind:scope.kind=.function)
  (hnames:∀y∈scope.names,y.2=.local->scope.names.lookup y.1=some .local) (hi:PI X target iter wi)
  (hg:∀C s₀ H₀ ex,PG (cP X N scope cl C s₀ H₀ ex) target g) (hif:∀C s₀ H₀ ex,RQ (cP X N scope cl C s₀ H₀ ex) ifs tc) (he:∀C s₀ H₀ ex,PE (cP X N scope cl C s₀ H₀ ex) elt te) (hs:(∀x,foldedSetIterable iter X.env x=pure x)<|>qd_) :
  PE X (.ListComp elt [{target,iter,ifs,0}] scope pos) (mz fr wi g tc te):=by
 intro pins s U H Q I h;rw[eval_ListComp];refine wpAny_comprehension_free (use:=none) (cl:=cl) rfl hs hclos hkind hnames (cQ (hi s U H _ I h) λxv s1 h1=>cQ h1 λitv s2 h2=>?_);let⟨it,fp,tn,J,H2,e,I2,T,st2,f2,ok⟩:=h2;subst e;refine BV (RR:=λacc C=>compPost (model X.prog X.w) X.A X.xe none (EP X pins U Q) acc C) hc hsub hhas hlen hfr hkind hg hif he I2 T st2 f2 ok ?_;intro D C s4 H' xs hD hC hne I4 nD nC ⟨m,hm⟩ qn;refine{m,hm,λg5 hs5=>{.ref D,upd H' D (.lst xs),I2.Va hC I4 (by rw[aG hne];exact nC) hs5,rfl,qn D nD}}
def MQ {elt target iter:Expr} {scope:Scope} {N:List Str} {fr:List (Option Nat)} {cl:List (Str×vm)} {wi:TI} {g:TG} {tc:TT} {te:TE} {ifs:List Expr} (hc:X.calm=true) (hclos:closureFor scope X.env=pure cl) (hsub:∀x c,cl.lookup x=some c->X.env.cells.lookup x=some c) (hhas:∀C x,((compEnvC scope cl C X.env).kindOf x=some .cell\/(compEnvC scope cl C X.env).kindOf x=some .free)->(∃c,cl.lookup x=some c)\/∃c,(cellsFrom (C+1) scope.names []).lookup x=some c)
  (hlen:⇑fr=N.length) (hfr:∀(i:Nat) x j,N[i]?=some x->fr[i]?=some (some j)->X.N[j]?=some x/\Uj X.env.scope x/\X.env.kindOf x≠some .local/\(∀C,(compEnvC scope cl C X.env).kindOf x=some .cell\/(compEnvC scope cl C X.env).kindOf x=some .free)/\(∀c,X.env.cells.lookup x=some c->cl.lookup x=some c)/\∀C,(cellsFrom (C+1) scope.names []).lookup x=none) (hkind:scope.kind=.function)
  (hnames:∀y∈scope.names,y.2=.local->scope.names.lookup y.1=some .local) (hi:PI X target iter wi)
  (hg:∀C s₀ H₀ ex,PG (cP X N scope cl C s₀ H₀ ex) target g) (hif:∀C s₀ H₀ ex,RQ (cP X N scope cl C s₀ H₀ ex) ifs tc) (he:∀C s₀ H₀ ex,PE (cP X N scope cl C s₀ H₀ ex) elt te) (hs:(∀x,foldedSetIterable iter X.env x=pure x)<|>qd_)  {i:Nat} {x:Str} {ps pa:Pos} (hN:X.N.Nodup) (hx1:X.N[i]?=some x) (hx2:Loc X.env.scope x) (hsw:swapsWith (.ListComp elt [{target,iter,ifs,0}] scope pos) (some (.Name x ps)) pa.line X.env=pure true<|>qe_)
  (hf:X.fn x=true\/X.env.scope.names.lookup x=some .local<|>qa_) :
  PS X (.Assign [.Name x ps] (.ListComp elt [{target,iter,ifs,0}] scope pos) pa) (GY (mz fr wi g tc te) (cz i)):=by
 intro pins s U H D I h;rw[exec_Assign_Name_used _ _ _ _ hsw];refine yq (wpAny_standAt (yq ?_));show wpAny _ X.A (do let _ <-comprehension (.ListComp elt [{target,iter,ifs,0}] scope pos) scope X.env _ (newList []) false (eval iter X.env) (some (assign (.Name x ps) X.env))) _ _ s;refine yq (y7 (wpAny_comprehension_free (use:=some (assign (.Name x ps) X.env)) (cl:=cl) (Q:=λ_ s'=>SP X pins D .next s') rfl hs hclos hkind hnames (cQ (hi s U H _ I h) λxv s1 h1=>cQ h1 λitv s2 h2=>?_)) (λ_ s' hq=>yt (yt hq)) λ_ _ e=>e);let⟨it,fp,tn,J,H2,e,I2,T,st2,f2,ok⟩:=h2;subst e;refine BV (RR:=λacc C=>compPost (model X.prog X.w) X.A X.xe (some (assign (.Name x ps) X.env)) (λ_ s'=>SP X pins D .next s') acc C) hc hsub hhas hlen hfr hkind hg hif he I2 T st2 f2 ok ?_;intro E C s4 H' xs hE hC hne I4 nE nC ⟨m,hm⟩ qn;show wpAny _ X.A (assign (.Name x ps) X.env (.ref E)) _ _ s4;refine wpAny_assign_Name (DO I4 hN hx1 hx2 (v:=.ref E) rfl (λs5 I5 hw=>?_) hf);let⟨aw,sb,ha⟩:=hw;let hCn:(upd H' E (.lst xs)) C=none:=by rw[aG hne];exact nC
 let⟨f0,f1,f2',f3,f4,f5⟩:=I2.Bu hC hCn;let neC:C≠aw:=by
  rcases ha with z | z
  ·rw[z];exact f1
  ·exact λq=>f4 x aw z q.symm
 refine{m,hm.sameBut sb neC,λg6 hs6=>?_};exact{_,_,I2.Va hC I5 hCn hs6,qn E nE}
end
def GA (cells:List (Str×vm)):List (Str×vm)->Prop
 | []=>True
 | p::r=>cells.lookup p.1=some p.2/\GA cells r
theorem GA.sub:∀{cl:List (Str×vm)},GA cells cl->∀x c,cl.lookup x=some c->cells.lookup x=some c
 | [],_,x,c,e=>by cases e
 | (y,d)::r,h,x,c,e=>by
  rw[yn] at e;split at e
  ·rename_i q
   cases e;rw[eq_of_beq q];exact h.1
  ·exact GA.sub h.2 x c e
def NY (X:Cx) (scope:Scope) (cl:List (Str×vm)):List Str->List Nat->Prop
 | [],[]=>True
 | y::ys,j::js=>(X.N[j]?=some y/\(X.env.kindOf y=some .cell\/X.env.kindOf y=some .free)/\((relabel scope X.env).names.lookup y=some .cell\/(relabel scope X.env).names.lookup y=some .free)/\∃c,X.env.cells.lookup y=some c/\cl.lookup y=some c)/\NY X scope cl ys js
 | _,_=>False
theorem NY.len:∀{ys:List Str} {js:List Nat},NY X scope cl ys js->⇑js=⇑ys
 | [],[],_=>rfl
 | _::_,_::_,h=>by rw[zt,zt,NY.len h.2]
 | [],_::_,h=>h.elim
 | _::_,[],h=>h.elim
theorem NY.get:∀{ys:List Str} {js:List Nat} {i:Nat} {y:Str} {j:Nat},NY X scope cl ys js->ys[i]?=some y->js[i]?=some j->
  X.N[j]?=some y/\(X.env.kindOf y=some .cell\/X.env.kindOf y=some .free)/\((relabel scope X.env).names.lookup y=some .cell\/(relabel scope X.env).names.lookup y=some .free)/\∃c,X.env.cells.lookup y=some c/\cl.lookup y=some c
 | [],_,_,_,_,_,e,_=>by simp at e
 | _::_,[],_,_,_,h,_,_=>h.elim
 | y::ys,j::js,0,_,_,h,e,e'=>by simp at e e';subst e e';exact h.1
 | y::ys,j::js,i+1,_,_,h,e,e'=>NY.get (i:=i) h.2 (by simpa using e) (by simpa using e')
theorem Lk:∀{names:List (Str×NameKind)} {n:Nat} {x:Str} {c:vm},(cellsFrom n names []).lookup x=some c->(x,NameKind.cell)∈names
 | [],_,_,_,e=>by cases e
 | (y,k)::r,n,x,c,e=>by
  unfold cellsFrom at e;split at e
  ·rename_i hk
   rw[dj,wu] at e;cases q:(cellsFrom (n+1) r []).lookup x with
   | some d=>exact zm _ (Lk q)
   | none=>
    rw[q] at e;let e':([(y,n)]:List (Str×vm)).lookup x=some c:=e;rw[yn] at e';split at e'
    ·rename_i z
     rw[eq_of_beq z,eq_of_beq hk];exact zp
    ·cases e'
  ·exact zm _ (Lk e)
theorem Ll:∀{names:List (Str×NameKind)} {n:Nat} {x:Str},(x,NameKind.cell)∈names->∃c,(cellsFrom n names []).lookup x=some c
 | [],_,_,h=>by cases h
 | (y,k)::r,n,x,h=>by
  unfold cellsFrom;split
  ·rw[dj,wu]
   cases q:(cellsFrom (n+1) r []).lookup x with
   | some d=>exact{(d),rfl}
   | none=>
    rcases zB.mp h with h | h
    ·let⟨e1,_⟩:=Prod.mk.inj h
     exact{n,by show([(y,n)]:List (Str×vm)).lookup x=some n;rw[e1,yn,x8]}
    ·let⟨c,e⟩:=Ll (n:=n+1) h
     rw[q] at e;cases e
  ·rename_i hk
   rcases zB.mp h with h | h
   ·cases h;exact absurd rfl hk
   ·exact Ll h
theorem uc:∀{L:List (Str×NameKind)} {x:Str} {k:NameKind},L.lookup x=some k->(x,k)∈L
 | [],_,_,h=>by cases h
 | (y,j)::r,x,k,h=>by
  rw[yn] at h;split at h
  ·rename_i q;cases h;rw[eq_of_beq q];exact zp
  ·exact zm _ (uc h)
section
variable {X:Cx} {pos:Pos} {elt target iter:Expr} {ifs:List Expr} {scope:Scope} {ts ys:List Str} {js:List Nat} {cl:List (Str×vm)} {wi:TI} {g:TG} {tc:TT} {te:TE}
def Em (hcl:GA X.env.cells cl) (hLo:((relabel scope X.env).names.all λp=>(p.2 != .cell&&p.2 != .free)||ys.contains p.1||scope.names.contains (p.1,.cell))=true) (hno:∀p∈scope.names,p.2=.cell->p.1∉ys) (hfr:NY X scope cl ys js) :
  (∀(C:vm) x,((compEnvC scope cl C X.env).kindOf x=some .cell\/(compEnvC scope cl C X.env).kindOf x=some .free)->(∃c,cl.lookup x=some c)\/∃c,(cellsFrom (C+1) scope.names []).lookup x=some c)/\
  ⇑(ts.map (λ_=>(none:Option Nat))++js.map some)=⇑(ts++ys)/\
  (∀(i:Nat) x j,(ts++ys)[i]?=some x->(ts.map (λ_=>(none:Option Nat))++js.map some)[i]?=some (some j)->X.N[j]?=some x/\Uj X.env.scope x/\X.env.kindOf x≠some .local/\(∀C,(compEnvC scope cl C X.env).kindOf x=some .cell\/(compEnvC scope cl C X.env).kindOf x=some .free)/\(∀c,X.env.cells.lookup x=some c->cl.lookup x=some c)/\∀C,(cellsFrom (C+1) scope.names []).lookup x=none):=by
 refine{λC x hx=>?_,by simp[NY.len hfr],λi x j h1 h2=>?_}
 ·let key:∀k,(relabel scope X.env).names.lookup x=some k->(k=.cell\/k=.free)->(∃c,cl.lookup x=some c)\/∃c,(cellsFrom (C+1) scope.names []).lookup x=some c:=λk hk hk'=>by
   have:=(ym.mp hLo) _ (uc hk);rw[Bool.or_eq_true,Bool.or_eq_true] at this;rcases this with(z | z) | z
   ·rcases hk' with rfl | rfl <;> simp at z
   ·let hm:x∈ys:=List.contains_iff_mem.mp z
    let⟨n,hn⟩:=List.getElem?_of_mem hm;let hl:n<⇑js:=by rw[hfr.len];exact(zw.mp hn).1
    let⟨_,_,_,c,_,e⟩:=hfr.get hn (zb hl);exact .inl {(c),e}
   ·exact .inr (Ll (List.contains_iff_mem.mp z))
  rcases hx with hx | hx
  ·exact key _ hx (.inl rfl)
  ·exact key _ hx (.inr rfl)
 ·let hi:⇑ts<=i:=by
   rcases xC i ⇑ts with h | h
   ·rw[wc (by simpa using h),zI] at h2
    cases q:ts[i]? with
    | none=>rw[q] at h2;cases h2
    | some z=>rw[q] at h2;cases h2
   ·exact h
  rw[zX hi] at h1;rw[zX (by simpa using hi),za,zI] at h2;let h2':js[i-⇑ts]?=some j:=by
   cases q:js[i-⇑ts]? with
   | none=>rw[q] at h2;cases h2
   | some z=>rw[q] at h2;cases h2;rfl
  let⟨k1,k2,k3,c,k4,k5⟩:=hfr.get h1 h2';refine{k1,.inr k2,λz=>?_,λC=>k3,λd hd=>?_,λC=>?_}
  ·rcases k2 with k2 | k2 <;> (rw[z] at k2;cases k2)
  ·rw[k4] at hd;cases hd;exact k5
  ·cases q:(cellsFrom (C+1) scope.names []).lookup x with
   | none=>rfl
   | some d=>exact absurd (zA h1) (hno _ (Lk q) rfl)
def Pk (hc:X.calm=true) (hclos:closureFor scope X.env=pure cl) (hcl:GA X.env.cells cl) (hLo:((relabel scope X.env).names.all λp=>(p.2 != .cell&&p.2 != .free)||ys.contains p.1||scope.names.contains (p.1,.cell))=true) (hno:∀p∈scope.names,p.2=.cell->p.1∉ys) (hfr:NY X scope cl ys js) (hkind:scope.kind=.function)
  (hnames:∀y∈scope.names,y.2=.local->scope.names.lookup y.1=some .local) (hi:PI X target iter wi)
  (hg:∀C s₀ H₀ ex,PG (cP X (ts++ys) scope cl C s₀ H₀ ex) target g) (hif:∀C s₀ H₀ ex,RQ (cP X (ts++ys) scope cl C s₀ H₀ ex) ifs tc) (he:∀C s₀ H₀ ex,PE (cP X (ts++ys) scope cl C s₀ H₀ ex) elt te) (hs:(∀x,foldedSetIterable iter X.env x=pure x)<|>qd_) :
  PE X (.ListComp elt [{target,iter,ifs,0}] scope pos) (mz (ts.map (λ_=>none)++js.map some) wi g tc te):=by
 let⟨a,b,c⟩:=Em (ts:=ts) hcl hLo hno hfr;exact MT hc hclos hcl.sub a b c hkind hnames hi hg hif he hs
def O8 (hc:X.calm=true) (hclos:closureFor scope X.env=pure cl) (hcl:GA X.env.cells cl) (hLo:((relabel scope X.env).names.all λp=>(p.2 != .cell&&p.2 != .free)||ys.contains p.1||scope.names.contains (p.1,.cell))=true) (hno:∀p∈scope.names,p.2=.cell->p.1∉ys) (hfr:NY X scope cl ys js) (hkind:scope.kind=.function)
  (hnames:∀y∈scope.names,y.2=.local->scope.names.lookup y.1=some .local) (hi:PI X target iter wi)
  (hg:∀C s₀ H₀ ex,PG (cP X (ts++ys) scope cl C s₀ H₀ ex) target g) (hif:∀C s₀ H₀ ex,RQ (cP X (ts++ys) scope cl C s₀ H₀ ex) ifs tc) (he:∀C s₀ H₀ ex,PE (cP X (ts++ys) scope cl C s₀ H₀ ex) elt te) (hN:X.N.Nodup) (hx1:X.N[i]?=some x) (hx2:Loc X.env.scope x) (hs:(∀x,foldedSetIterable iter X.env x=pure x)<|>qd_) (hsw:swapsWith (.ListComp elt [{target,iter,ifs,0}] scope pos) (some (.Name x ps)) pa.line X.env=pure true<|>qe_)
  (hf:X.fn x=true\/X.env.scope.names.lookup x=some .local<|>qa_) :
  PS X (.Assign [.Name x ps] (.ListComp elt [{target,iter,ifs,0}] scope pos) pa) (GY (mz (ts.map (λ_=>none)++js.map some) wi g tc te) (cz i)):=by
 let⟨a,b,c⟩:=Em (ts:=ts) hcl hLo hno hfr;exact MQ hc hclos hcl.sub a b c hkind hnames hi hg hif he hs hN hx1 hx2 hsw hf
end
def NZ (n:Nat) (f:Nat->List V) (Pv:Nat->St->Hp->Prop) (i m:Nat) (xs:List V) (U:St) (H:Hp):Prop:=m=n-i/\i<=n/\xs=f i/\Pv i U H
def NZ.push (hi:i<n) (e:f (i+1)=f i++[y]) (p:Pv (i+1) U H):∃m',m'<n-i/\NZ n f Pv (i+1) m' (f i++[y]) U H:={n-(i+1),(),rfl,hi,e.symm,p}
def NZ.skip (hi:i<n) (e:f (i+1)=f i) (p:Pv (i+1) U H):∃m',m'<n-i/\NZ n f Pv (i+1) m' (f i) U H:={n-(i+1),(),rfl,hi,e.symm,p}
def ra (n:Nat) (f:Nat->List V) (Pv:Nat->St->Hp->Prop) (hz:∀i,i<=n->⇑(f i)<=i) (hn:n<=sizeLine) (f0:f 0=[]) (h0:Pv 0 U₀ H1)
  (go:∀i U H,i<n->Pv i U H->J.go i H) (stop:∀U H,Pv n U H->J.stop n H)
  (turn:∀i x U H H2,i<n->Pv i U H->J.JP i H x H2->g x U H2 λσ3 H3=>tc σ3 H3 λb H4=>if b=true then te σ3 H4 λy H5=>∃m',m'<n-i/\NZ n f Pv (i+1) m' (f i++[y]) σ3 H5 else∃m',m'<n-i/\NZ n f Pv (i+1) m' (f i) σ3 H4)
  (fin:∀U H,Pv n U H->∀D,H D=none->Q (.ref D) (upd H D (.lst (f n)))):dg U₀ g tc te Q J H1:=by
 refine{NZ n f Pv,{n,by simp,yd _,f0.symm,h0},?_};rintro i m xs U H ⟨rfl,hi,rfl,p⟩;have:=hz i hi;rcases xC i n with hlt | hge
 ·exact .inr {go i U H hlt p,(),λx H2 y=>turn i x U H H2 hlt p y}
 ·let e:i=n:=()
  subst e;exact .inl {stop U H p,(),fin U H p}
section
variable {X:Cx}
def Fh (bs:List Bool):((List.range ⇑bs).any λi=>(bs[i]?).getD false)=bs.any id:=by
 rw[xG,yk,yk];constructor
 ·rintro⟨i,hi,e⟩
  let hi':=yN.mp hi;rw[zb hi'] at e;exact{_,yi hi',e}
 ·rintro⟨b,hb,e⟩
  let⟨i,hi,e'⟩:=List.mem_iff_getElem.mp hb;exact{i,yN.mpr hi,by rw[zb hi,e'];exact e}
def gm (hc:X.calm=true):fH X (.builtin "any") (λxs H Q=>∃(a:vm) (bs:List Bool),xs=[.ref a]/\fi X.K H a (bs.map V.bl)/\Q (.bl (bs.any id)) H):=by
 intro pins s U H xs us Q I r h;let⟨a,bs,e,hq,q⟩:=h;subst e;cases r with
 | cons r rr=>
  cases rr;cases r;let⟨its,rv,p,hz⟩:=I.list hq;let hlt:a<↑s:=by let⟨o,n,e,_⟩:=p;exact yv e
  let hlen:⇑bs=⇑its:=by have:=⇑rv;rw[za] at this;exact this
  refine call_any_walk (wC p.isList ?_);refine{↑s,[↑s,a],[↑s],its.toArray.size,_,_,λi=>(bs[i]?).getD false,rfl,Walks.list (A:=X.A.in1) (I.ok.hd hc) _ a (yg hlt) its.toArray,
   {{_,yu _ rfl,rfl,rfl},p.isList.push _},λi v s' Q' E' hP hQ=>?_,λh' tk hk=>?_}
  ·let hP':its[i]?=some v:=by simpa using hP
   let hi:i<⇑bs:=by rw[hlen];exact(zw.mp hP').1
   let hm:(bs.map V.bl)[i]?=some (.bl bs[i]):=by rw[zI,zb hi];rfl
   let⟨u,hu,ru⟩:=rv.get hm;rw[hP'] at hu;cases hu;cases ru;dsimp only at hQ;rw[zb hi] at hQ;exact y9 hQ
  ·let e:((List.range its.toArray.size).any λi=>(bs[i]?).getD false)=bs.any id:=by rw[zZ,<-hlen];exact Fh bs
   rw[e];exact{.bl _,H,I.kept λb o x=>hk b o (λhm=>by rw[zy.mp hm] at x;exact yc _ (yv x)) (yr _ x),rfl,q}
def tY (ns:List Int):∀k,k<=⇑ns->preSum (λi=>(ns[i]?).getD 0) k=(ns.take k).sum:=by
 intro k
 induction k with
 | zero=>intro _;simp[preSum]
 | succ k ih=>
  intro hk;let hk':k<⇑ns:=hk;let e:=ih (ye hk');rw[List.take_succ,List.sum_append,<-e,zb hk'];simp[preSum,zb hk']
def NA (hc:X.calm=true):fH X (.builtin "sum") (λxs H Q=>∃(a:vm) (ns:List Int),xs=[.ref a]/\fi X.K H a (ns.map V.int)/\(∀n∈ns,0<=n/\n<1000000)/\⇑ns<=1000/\Q (.int ns.sum) H):=by
 intro pins s U H xs us Q I r h;let⟨a,ns,e,hq,hb,hl,q⟩:=h;subst e;cases r with
 | cons r rr=>
  cases rr;cases r;let⟨its,rv,p,hz⟩:=I.list hq;let hlt:a<↑s:=by let⟨o,n,e,_⟩:=p;exact yv e
  let hlen:⇑ns=⇑its:=by have:=⇑rv;rw[za] at this;exact this
  let bnd:∀k,k<=⇑ns->0<=(ns.take k).sum/\(ns.take k).sum<=1000000*k:=by
   intro k
   induction k with
   | zero=>intro _;simp
   | succ k ih=>
    intro hk;let hk':k<⇑ns:=hk;have:=ih (ye hk');rw[List.take_succ,List.sum_append,zb hk'];let hb':=hb _ (yi hk');simp only[Option.toList_some,wK,List.sum_nil];ext
  refine call_sum_walk (wC p.isList ?_);refine{↑s,[↑s,a],[↑s],its.toArray.size,_,_,λi=>(ns[i]?).getD 0,rfl,Walks.list (A:=X.A.in1) (I.ok.hd hc) _ a (yg hlt) its.toArray,
   {{_,yu _ rfl,rfl,rfl},p.isList.push _},λb hb'=>?_,λi v hP=>?_,λj hj=>?_,λh' tk t' hk=>?_}
  ·rw[xf]
   rcases zB.mp hb' with e | e
   ·rw[e];exact xJ _
   ·rw[zy.mp e];exact wD hlt
  ·let hP':its[i]?=some v:=by simpa using hP
   let hi:i<⇑ns:=by rw[hlen];exact(zw.mp hP').1
   let hm:(ns.map V.int)[i]?=some (.int ns[i]):=by rw[zI,zb hi];rfl
   let⟨u,hu,ru⟩:=rv.get hm;rw[hP'] at hu;cases hu;dsimp only;rw[zb hi];exact ru
  ·let hj':j<⇑ns:=by rw[hlen];simpa using hj
   let b1:=hb _ (yi hj');let b2:=bnd (j+1) hj';rw[tY ns (j+1) hj'];dsimp only;rw[zb hj'];simp only[Option.getD_some];constructor <;> (unfold InLong;ext)
  ·let e:preSum (λi=>(ns[i]?).getD 0) its.toArray.size=ns.sum:=by rw[zZ,<-hlen,tY ns _ (zk _),zL]
   rw[e];exact{.int _,H,I.kept λb o x=>hk b o (λhm=>by rw[zy.mp hm] at x;exact yc _ (yv x)) (yr _ x),{_,rfl},q}
end
section
variable {prog:vh} {w:vi} {A:vj} {E:vf->vg->Prop} {s:vg}
def Ds (hl:IsTup s.heap l vs.toArray)
  (h:Q vs {s with heap:=(s.heap.push (seqObj "list" #[] 0)).update ↑s (Obj.mapSeq (·++vs.toArray))}) (hsz:⇑vs<=sizeLine) :
  wpAny (model prog w) A (collect (.ref l)) Q E s:=by
 let⟨o,ho,hc,n,hd⟩:=id hl;unfold collect;refine yq (wpAny_runValue (xQ entry_proto_collect' ?_));show wpAny _ _ (do again (.builtin "list.__iadd__" {[<-newList [],.ref l],[]})) _ _ s;refine yq (wpAny_newList (yt {Code.quiet_builtin _ (by decide +kernel),xQ entry_list_iadd' ?_}));show wpAny _ _ (Builtin.List.listExtendWith (.ref ↑s) (.ref l) (.ref ↑s)) _ _ {s with heap:=s.heap.push (seqObj "list" #[] 0)};unfold Builtin.List.listExtendWith;let ho':(s.heap.push (seqObj "list" #[] 0)).get? l=some o:=yr _ ho;refine yq (wW (T:="tuple") {(o),ho',hc} ?_);let ht:(Value.type "tuple"== Value.type "tuple")=true:=by rfl
 rw[yK (by rw[ht];simp)];refine yq (listItems_at ho' hd ?_);refine yq (listItems_at (xs:=#[]) (n:=0) (yu _ rfl) rfl ?_);rw[yJ (by simp)];refine yq (listUpdate_at (xs:=#[]) (n:=0) (yu _ rfl) rfl ?_ (yd _) (by show(#[]++vs.toArray).size<=sizeLine+1;simp only[Array.size_append,zZ,xi];ext));refine yt ?_;show wpAny (model prog w) A (do
   let o <-load ↑s
   match o.data with
   | .seq xs _=>pure xs.toList
   | _=>unsupported "internal:collect") Q E {s with heap:=(s.heap.push (seqObj "list" #[] 0)).update ↑s (Obj.mapSeq (·++vs.toArray))}
 refine yq (wpAny_load (get?_update_seq (yu _ rfl) _) ?_);show wpAny _ _ (pure ((#[]:Array vf)++vs.toArray).toList) Q E _;rw[show((#[]:Array vf)++vs.toArray).toList=vs by simp];exact yt h
def J8 (hl:IsTup s.heap l vs.toArray) (hI:IntsAre vs ns) (h64:⇑vs<64)
  (h:∀(out:Array vf) (ns':List Int),IntsAre out.toList ns'->ns'.Perm ns->ns'.Pairwise (·<=·)->Q (.ref (↑s+1)) {s with heap:=sortedAll s.heap vs out}) :
  wpAny (model prog w) A (call (.builtin "sorted") [.ref l]) Q E s:=by
 refine Calls.call_function_entry kind_sorted plain_sorted entry_sorted (args_sorted1 _) ?_;unfold Builtin.«sorted»;refine yq (m:=checkCount "sorted" 1 1 _) (yt ?_);refine yq (Ds hl ?_ (by rw[yy];ext));refine yq (wpAny_newList ?_);let hsz:((s.heap.push (seqObj "list" #[] 0)).update ↑s (Obj.mapSeq (·++vs.toArray))).objs.size=↑s+1:=by
  rw[Heap.size_update,size_push']
 let hoL:(((s.heap.push (seqObj "list" #[] 0)).update ↑s (Obj.mapSeq (·++vs.toArray))).push (seqObj "list" vs.toArray 0)).get? (↑s+1)=some (seqObj "list" vs.toArray 0):=by
  rw[<-hsz];exact yu _ rfl
 show wpAny _ _ _ _ _ {s with heap:=((s.heap.push (seqObj "list" #[] 0)).update ↑s (Obj.mapSeq (·++vs.toArray))).push (seqObj "list" vs.toArray 0)};rw[hsz];refine yq (xD (y3 slot_list_sort {_,hoL,rfl} entry_list_sort (list_sort_tree hoL hI h64 λout ns' a1 a2 a3=>{_,rfl,?_}) (args_list_sort _)));exact yt {_,rfl,h out ns' a1 a2 a3}
def CF (h:vn) (vs:List vf) (out:Array vf):∃n,(sortedAll h vs out).get? (h.objs.size+1)=some {cls:=.type "list",data:=.seq out n}:=by
 let hsz:((h.push (seqObj "list" #[] 0)).update h.objs.size (Obj.mapSeq (·++vs.toArray))).objs.size=h.objs.size+1:=by rw[Heap.size_update,size_push']
 let h1:(((h.push (seqObj "list" #[] 0)).update h.objs.size (Obj.mapSeq (·++vs.toArray))).push (seqObj "list" vs.toArray 0)).get? (h.objs.size+1)=some (seqObj "list" vs.toArray 0):=by
  rw[<-hsz];exact yu _ rfl
 unfold sortedAll sortedHeap;let h2:=get?_update_seq h1 (λ_=>#[]);let h3:=yr (seqObj "list" #[] 0) (yr (seqObj "tuple" vs.toArray 0) h2);exact{_,get?_update_seq h3 (λ_=>out)}
def uH (h:vn) (vs:List vf) (out:Array vf) (b:vm) (o:Obj) (e:h.get? b=some o):(sortedAll h vs out).get? b=some o:=by
 let hb:b<h.objs.size:=yv e;unfold sortedAll sortedHeap;let n1:h.objs.size≠b:=yf hb;let n2:h.objs.size+1≠b:=yf (wD hb);rw[yw _ _ n2];refine yr _ (yr _ ?_);rw[yw _ _ n2];refine yr _ ?_;rw[yw _ _ n1];exact yr _ e
end
theorem pR:∀{us:List vf} {ns:List Int},IntsAre us ns->Vals (ns.map V.int) us
 | _,_,.nil=>.nil
 | _,_,.cons r t h=>.cons {_,rfl} (pR h)
section
variable {X:Cx}
def rg:fH X (.builtin "sorted") (λxs H Q=>∃(a:vm) (ns:List Int),xs=[.ref a]/\(fi X.K H a (ns.map V.int)\/pQ X.K H a (ns.map V.int))/\⇑ns<64/\∀ns':List Int,ns'.Perm ns->ns'.Pairwise (·<=·)->∀l,H l=none->Q (.ref l) (upd H l (.lst (ns'.map V.int)))):=by
 intro pins s U H xs us Q I r h;let⟨a,ns,rfl,hq,h64,q⟩:=h;let⟨u,rfl,rx⟩:=vals1 r;cases rx;let fin:∀(its:List vf),⇑ns=⇑its->∀(out:Array vf) (ns':List Int),IntsAre out.toList ns'->ns'.Perm ns->ns'.Pairwise (·<=·)->EP X pins U Q (.ref (↑s+1)) {s with heap:=sortedAll s.heap its out}:=λits hl out ns' a1 a2 a3=>by
  let⟨n,hn⟩:=CF s.heap its out;refine{.ref _,_,I.laid (t':=s.toks) (a:=↑s+1) (o:=.lst (ns'.map V.int)) (uH s.heap its out) (xV _) ?_,rfl,q ns' a2 a3 _ (I.cx.fresh (xV _))};refine{by rw[za,a2.length_eq,yy];ext,out.toList,n,pR a1,by simpa using hn}
 rcases hq with hq | hq
 ·let⟨its,rv,p,_⟩:=I.list hq
  let hl:⇑ns=⇑its:=by have:=⇑rv;rw[za] at this;exact this
  exact sorted_ints p.isList (intsAre_of rv) () (fin its hl)
 ·let⟨its,rv,p,_⟩:=I.tuple hq
  let hl:⇑ns=⇑its:=by have:=⇑rv;rw[za] at this;exact this
  exact J8 p (intsAre_of rv) () (fin its hl)
theorem LQ:∀{zs:List Str} {us:List vf},Vals (zs.map V.str) us->∃l:List (Str×Tok),us=strValues l/\l.map (·.1)=zs
 | [],_,.nil=>{[],rfl,rfl}
 | z::zs,_,.cons ⟨t,e⟩ r=>by
  let⟨l,e1,e2⟩:=LQ r;subst e e1 e2;exact{(z,t)::l,rfl,rfl}
def rJoin (K:yx):V->List V->Hp->VK->Prop:=λx vs H Q=>∃(sep:Str) (a:vm) (zs:List Str),x=.str sep/\vs=[.ref a]/\fi K H a (zs.map V.str)/\(zs.map (λz:Str=>⇑z+⇑sep)).sum<=sizeLine/\Q (.str (Str.join sep zs)) H
theorem IE (sep:Str):∀(zs:List Str) (k:Nat),zs.foldl (λn z=>n+⇑z+⇑sep) k=k+(zs.map (λz:Str=>⇑z+⇑sep)).sum
 | [],k=>by simp
 | z::zs,k=>by
  rw[List.foldl_cons,IE sep zs,zh,wK];ext
theorem LO (sep:Str):∀zs:List Str,(zs.map (·.length)).sum+⇑zs*⇑sep=(zs.map (λz:Str=>⇑z+⇑sep)).sum
 | []=>by simp
 | z::zs=>by
  let ih:=LO sep zs;simp only[zh,wK,zt,Nat.succ_mul] at ih ⊢;ext
def hZ:Uo X "str.join" (rJoin X.K):=by
 intro pins s U H x vs v us Q I rx rv h;let⟨sep,a,zs,rfl,rfl,hq,hz,q⟩:=h;let⟨tk,rfl⟩:=rx;let⟨u,rfl,ru⟩:=rv.one;cases ru;let⟨its,ri,p,_⟩:=I.list hq;let⟨l,e1,e2⟩:=LQ ri;subst e1;let hl:Builtin.Str.tooLong ((l.map (·.1)).toArray.foldl (·+·.length+⇑sep) 0)=false:=by
  rw[e2,List.foldl_toArray,IE,Nat.zero_add];exact zd ()
 let hj:Builtin.Str.glued sep (l.map (·.1))=Str.join sep zs:=by rw[e2];exact StrLaws.glued_eq_join sep zs
 let jl:⇑(Str.join sep zs)<=sizeLine:=by
  exact zK (StrLaws.join_length_le sep zs) (zK (Nat.le_of_eq (LO sep zs)) hz)
 refine wq F.slot_str_join (wH s sep tk) F.entry_str_join (F.args_str_join_2 _ _) (meets_str_join_list sep tk a l hl) {p.isList,?_}
 match l,e2,hj with
 | [],e2,hj=>
  subst e2;exact{by rw[hj];exact jl,.str _,H,I.tok _,{_,rfl},by rw[hj];exact q}
 | [z],e2,hj=>
  subst e2;exact{.str _,H,I,{_,rfl},q}
 | z::z'::r,e2,hj=>
  subst e2;exact{by rw[hj];exact jl,.str _,H,I.tok _,{_,rfl},by rw[hj];exact q}
noncomputable def oU (x:Str) (n:Nat):Str:={(List.replicate n x.cps).foldl (·++·) #[]}
def R6:R2:=λx y H Q=>∃(t:Str) (n:Int),x=.str t/\y=.int n/\0<=n/\n<=1000/\⇑t<=1000/\Q (.str (oU t n.toNat)) H
def qo (x:Str) (n:Nat):(oU x n).cps.toList=(List.replicate n x.cps.toList).flatten:=by
 let key:∀(n:Nat) (a:Array Nat),((List.replicate n x.cps).foldl (·++·) a).toList=a.toList++(List.replicate n x.cps.toList).flatten:=by
  intro n
  induction n with
  | zero=>intro a;simp
  | succ n ih=>intro a;rw[List.replicate_succ,List.foldl_cons,ih,List.replicate_succ,zY];simp
 have:=key n #[];show((List.replicate n x.cps).foldl (·++·) #[]).toList=_;rw[this];rfl
def HK (x:Str) (n:Nat):⇑(oU x n)=n*⇑x:=by
 let e:⇑(oU x n)=⇑(oU x n).cps.toList:=yM.symm;rw[e,qo];let e2:⇑x.cps.toList=⇑x:=yM;simp[e2]
def OW (x:Str):oU x 1=x:=kz (by rw[qo];simp)
def Rh:nV X (binaryOp .Mult) R6:=by
 intro pins s U H x y v u Q I rx ry h;let⟨t,n,rfl,rfl,h0,h1,hl,q⟩:=h;let⟨tk,rfl⟩:=rx;let⟨tk',rfl⟩:=ry;let sl:=yy;let hm:⇑t*n.toNat<=1000000:=by
  have:⇑t*n.toNat<=1000*1000:=wz hl ();ext
 refine P.mul_str (by rw[zd (),zd ()];rfl) (λh2 _=>?_) (λ_ _=>zd ()) ?_
 ·have:(2^63-1)/1000<=((2:Int)^63-1)/n:=by
   rw[Int.le_ediv_iff_mul_le ()];have:n*9223372036854775<=1000*9223372036854775:=Int.mul_le_mul_of_nonneg_right h1 ∅;ext
  ext
 ·by_cases c1:n<1
  ·let e:n.toNat=0:=()
   rw[yK c1];rw[e] at q;exact{∅,.str _,H,I.tok _,{_,rfl},q}
  ·rw[yJ c1]
   refine post_val_or_str {?_,λt' k=>{.str _,H,I.tok _,{_,rfl},?_}}
   ·split
    ·ext
    ·have:=HK t n.toNat
     let e:n.toNat*⇑t=⇑t*n.toNat:=Nat.mul_comm _ _;show(oU t n.toNat).length<=sizeLine;ext
   ·let ee:(if(n == 1||⇑t == 0)=true then t else oU t n.toNat)=oU t n.toNat:=by
     split
     ·rename_i c2
      rw[Bool.or_eq_true,wX,wX] at c2;rcases c2 with rfl | c2
      ·exact(OW t).symm
      ·refine kz ?_
       let e2:t.cps.toList=[]:=yp.mp (by rw[yM];exact c2);rw[qo,e2];simp
     ·rfl
    show Q (.str (if(n == 1||⇑t == 0)=true then t else oU t n.toNat)) H;rw[ee];exact q
end
def KD (P:vh) (w:vi) (K:yx) (a:vm) (kvs:List (Str×V)):Prop:=
 (a == sysModules)=false/\(kvs.map (·.1)).Nodup/\∀h:vn,K.In h->∃vs:List (Key×vf),KV (kvs.map λp=>((Sum.inr p.1:Key),p.2)) vs/\h.DictOf (dF P w) a vs
noncomputable def IM (Pm:Params) (l:List (Str×Tok×vm)):List DictEntry:=l.map λp=>{PyData.keyHash Pm p.1,.str p.1 p.2.1,.ref p.2.2}
theorem Pr:∀{l:List Str},l.Nodup->(l.map (Sum.inr:Str->Key)).Nodup
 | [],_=>xW
 | x::r,h=>by
  rw[ya] at h;rw[zh,ya];exact{λz=>by let⟨y,hy,e⟩:=zF.mp z;exact h.1 (wM e▸hy),Pr h.2}
def Vb {P:vh} {w:vi} {K:yx} {a:vm} {l:List (Str×Tok×vm)} {n:Nat} (hl:K.lookup a=some {cls:=.type "dict",data:=.dict (IM w.params l).toArray n}) (hs:(a == sysModules)=false) (nd:(l.map (·.1)).Nodup) :
  KD P w K a (l.map λp=>(p.1,V.ref p.2.2)):=by
 let e1:(l.map λp=>(p.1,V.ref p.2.2)).map (·.1)=l.map (·.1):=by rw[zz];rfl
 refine{hs,by rw[e1];exact nd,λh X=>{l.map λp=>(Sum.inr p.1,.ref p.2.2),?_,_,_,_,X _ _ hl,{(rfl),rfl,rfl},rfl,?_,?_,?_}}
 ·clear hl nd e1
  induction l with
  | nil=>exact .nil
  | cons p r ih=>exact .cons {(rfl),rfl} ih
 ·intro e he
  rw[List.mem_toArray] at he;let⟨p,_,rfl⟩:=zF.mp he;exact{Sum.inr p.1,nM p.1 p.2.1,rfl}
 ·show PySem.Pairs _ (IM w.params l) _
  clear hl nd e1
  induction l with
  | nil=>exact .nil
  | cons p r ih=>exact .cons (nM p.1 p.2.1) rfl ih
 ·let e2:(l.map λp=>((Sum.inr p.1:Key),(Value.ref p.2.2))).map (·.1)=(l.map (·.1)).map Sum.inr:=by rw[zz,zz];rfl
  rw[e2];exact Pr nd
noncomputable def rG (kvs:List (Str×V)) (k:Str):Option V:=(kvs.find? λp=>decide (p.1=k)).map (·.2)
theorem KQ:∀{kvs:List (Str×V)} {vs:List (Key×vf)} (k:Str),KV (kvs.map λp=>((Sum.inr p.1:Key),p.2)) vs->lG (rG kvs k) (valueAt vs (Sum.inr k))
 | [],_,_,.nil=>trivial
 | (x,v)::r,_,k,.cons (b:=b) h t=>by
  let⟨h1,h2⟩:=h;let⟨bk,bv⟩:=b;dsimp only at h1 h2;subst h1
  by_cases e:x=k
  ·subst e
   simp only[rG,valueAt,yO,decide_true];exact h2
  ·let ih:=KQ k t
   let e':¬((Sum.inr x:Key)=Sum.inr k):=λz=>e (wM z);simp only[rG,valueAt,yO,e,e',decide_false] at ih ⊢;exact ih
def SV (P:vh) (w:vi) (K:yx) (td ty:TE):TE:=λU H Q=>td U H λx H1=>ty U H1 λy H2=>∃a kvs k v,x=.ref a/\KD P w K a kvs/\y=.str k/\rG kvs k=some v/\Q v H2
def UQ (P:vh) (w:vi) (K:yx) (b:Bool) (ty td:TE):TE:=λU H Q=>ty U H λy H1=>td U H1 λx H2=>∃a kvs k,x=.ref a/\KD P w K a kvs/\y=.str k/\Q (.bl (b ^^ (rG kvs k).isSome)) H2
section
variable {X:Cx} {pos:Pos} {o i:Expr} {td ty:TE}
theorem lG.KR:∀{a:Option V} {b:Option vf},lG a b->a.isSome=b.isSome
 | some _,some _,_=>rfl
 | none,none,_=>rfl
 | some _,none,h=>h.elim
 | none,some _,h=>h.elim
def HR (ho:PE X o td) (hi:PE X i ty) (hs:Um i):PE X (.Subscript o i pos) (SV X.prog X.w X.K td ty):=by
 intro pins s U H Q I h;refine LP PySem.F.slot_dict_getitem.lookup hs (cQ (ho s U H _ I h) λu s1 z0=>?_);let⟨x,H1,I1,rx,q1⟩:=z0;refine cQ (hi s1 U H1 _ I1 q1) λiv s2 z1=>?_;let⟨y,H2,I2,ry,a,kvs,k,v,ex,kd,ey,hv,q2⟩:=z1;subst ex ey;obtain rfl:u=Value.ref a:=rx;let⟨tk,rfl⟩:=ry;let⟨hd,_,hk⟩:=kd;let⟨vs,rel,dd⟩:=hk _ I2.sW;let rv:=KQ k rel;rw[hv] at rv;cases hw:valueAt vs (Sum.inr k) with
 | none=>rw[hw] at rv;exact rv.elim
 | some w'=>
  rw[hw] at rv;exact{dd.typeIs,wpAny_getItem_of (nM k tk) dd.mapOf hw {v,H2,I2.tok _,rv,q2}}
def Rc (hi:PE X i ty) (ho:PE X o td):PC X .In i o (UQ X.prog X.w X.K false ty td):=by
 intro pins s U H Q I h;refine cQ (hi s U H _ I h) λiv s1 z0=>?_;let⟨y,H1,I1,ry,q1⟩:=z0;refine cQ (ho s1 U H1 _ I1 q1) λu s2 z1=>?_;let⟨x,H2,I2,rx,a,kvs,k,ex,kd,ey,q2⟩:=z1;subst ex ey;obtain rfl:u=Value.ref a:=rx;let⟨tk,rfl⟩:=ry;let⟨hd,_,hk⟩:=kd;let⟨vs,rel,dd⟩:=hk _ I2.sW;refine wpAny_in_of (tZ _ _ k tk) hd dd.mapOf ?_;let e:=lG.KR (KQ k rel);exact{.bl _,H2,I2.tok _,rfl,by rw[e,Bool.false_xor] at q2;exact q2}
end
structure Uq (X:Cx) (CX:Mq) (k:Nat) (f:vm) (sp:Sp):Prop where
 ok:∃fd ps,dy X.prog X.w X.K X.mg X.base CX k f fd ps sp/\PySem.W.keepIn X.K (.ref f)=true/\Binds X.K fd ps []
def SX (Tb:vm->Sp->Prop) (E:XK) (i:Nat) (t:TA):TE:=λU H Q=>∃f sp,U[i]?=some (some (.ref f))/\Tb f sp/\t U H λvs H1=>sp vs H1 Q E
section
variable {X:Cx} {CX:Mq} {k:Nat} {x:Str} {i:Nat} {p pos:Pos} {e:Expr} {es:List Expr} {t:TA} {E:XK}
def HU (Tb:vm->Sp->Prop) (hT:∀f sp,Tb f sp->Uq X CX k f sp) (hr:fo k X.A) (hv:PE X (.Name x p) (bc i)) (hx:Passes CX X E)
  (ha:PA X (e::es) t) (he:starEach (e::es) X.env=(false,eval e X.env)::starEach es X.env<|>qe_) (hpl:(backTo pos (starEach es X.env)).any (·.1)=false<|>qe_) :
  PE X (.Call (.Name x p) (e::es) [] pos) (SX Tb E i t):=by
 intro pins s U H Q I h;let⟨f,sp,hf,hTb,h⟩:=h;let⟨fd,ps,F,hk,hb⟩:=(hT f sp hTb).ok;refine xj (cQ (hv s U H (λv H1=>v=.ref f/\H1=H) I {_,hf,rfl,rfl}) λu s1 z0=>?_);let⟨v,H1,I1,rv,ev,eH⟩:=z0;subst ev eH;obtain rfl:u=Value.ref f:=rv;refine wZ (h₀:=X.base) I1.ok.mod.Uw hk (cQ (ha s1 U _ _ I1 h) λus s2 z0=>?_) he hpl;let⟨vs,H2,I2,r,q⟩:=z0;refine{I2.sW,?_};exact OR F hr hb .nil hx I2 r (by rw[zT];exact q)
end
def UM (sp:Sp) (t:TA) (C:vm) (th:TS):TS:=λD U H=>t U H λvs H1=>sp vs H1 (λv H2=>D.rt v H2) λcls _ H2=>cls=.ref C/\th D U H2
section
variable {X:Cx} {k:Nat} {f:vm} {fd:vk} {ps:List Str} {sp:Sp} {fx cn:Str} {p pos cpos pa np hpos:Pos} {e₀:Expr} {es:List Expr} {t:TA} {C:vm} {bm:List vf} {newId:String} {b₀:Stmt} {suite:List Stmt} {th:TS}
def Q5 (F:dy X.prog X.w X.K X.mg X.base (GH X.prog X.w) k f fd ps sp) (hr:fo k X.A) (hg:Gl X fx) (hm:X.mg fx=some (.ref f)) (hk:PySem.W.keepIn X.K (.ref f)=true) (hb:Binds X.K fd ps []) (ha:PA X.JL (e₀::es) t)
  (hc:X.calm=true) (hgc:Gl X cn) (hC0:PySem.W.nsIn X.K mainGlobals cn=some (some (.ref C))) (hQ0:PySem.W.excIn X.K C bm newId=true) (hbase:bm.contains (.type "BaseException")=true) (hstk:X.stack=X.env::X.outer) (hfrm:X.env.frame=some X.env.locals)
  (hsu:∀e,DH (X.held e).JL (b₀::suite) th)
  (hdb:(fx == ("__debug__": Str))=false<|>qb_) (hdc:(cn == ("__debug__": Str))=false<|>qb_) (he:starEach (e₀::es) X.env=(false,eval e₀ X.env)::starEach es X.env<|>qe_) (hpl:(backTo cpos (starEach es X.env)).any (·.1)=false<|>qe_) :
  PS X (.Try [.Return (some (.Call (.Name fx p) (e₀::es) [] cpos)) pa] [.ExceptHandler (some (.Name cn np)) none (b₀::suite) hpos] [] [] pos) (UM sp t C th):=by
 intro pins s U H D I h;let O:OwnCls cn C bm newId X.mg X.base:=o7 X.prog I.ok.mod hC0 hQ0;refine wpAny_Try_except (wpAny_execs_cons (wpAny_Return_some (y7 (HX F hr hg hm hk hb ha I h hdb he hpl) (λu s1 z=>?_) λev s' z=>?_)))
 ·let⟨v,H2,I2,r2,q2⟩:=z
  exact{v,U,H2,I2,r2,q2}
 ·let⟨H1,s1,I1,a,cls,a0,B,H',rfl,os,bare,fl,fly,⟨rfl,q2⟩⟩:=z
  exact A9 I1 os bare fl fly q2 hgc O hbase hstk hfrm hsu hdc
end
section
variable {prog:vh} {w:vi} {A:vj} {E:vf->vg->Prop} {s:vg}
def O0 (hd:(d == sysModules)=false) (ho:s.heap.get? d=some o) (hx:o.ExactDict) (hdat:o.data=.dict es ep)
  (hQ:Q (.ref ↑s) {s with heap:=s.heap.push {cls:=.type "dict_keyiterator",data:=.fields #[.ref d,.int 0 0,.int es.size 0,.int ep 0]}}) :
  wpAny (model prog w) A (pyIter (.ref d)) Q E s:=by
 let hT:s.TypeIs (.ref d) "dict":={(o),ho,hx.1}
 refine wpAny_pyIter_slot hT F.slot_dict_iter (y3 F.slot_dict_iter hT F.entry_dict_iter ?_ (F.args_dict_iter_1 _));unfold Builtin.«dict.__iter__»;refine yq ?_;unfold Builtin.Dict.dictSlotNone;refine yq (wpAny_notOrdered_dict hT ?_);show wpAny _ _ (pure (Value.ref d)) _ _ s;refine yt ?_;show wpAny _ _ (Builtin.Dict.showsAll d >>= _) _ _ s;unfold Builtin.Dict.showsAll;rw[yJ (by rw[hd];exact zJ)];refine yq (yt ?_);refine yq (wpAny_dictEntries ho hdat ?_);refine yq (wpAny_dictEpoch ho hdat ?_);refine yq (y6 (yt {_,rfl,"dict_keyiterator",_,{_,yu _ rfl,rfl},xS.lookup,?_}))
 simpa[rawInt] using hQ
def O1 (hit:s.heap.IsKeyIter it d i es.size ep)
  (hod:s.heap.get? d=some od) (hdd:od.data=.dict es ep) (hx:es[i]?=some e)
  (hQ:∀h',h'.IsKeyIter it d (i+1) es.size ep->Heap.SameBut it s.heap h'->Q (some e.key) {s with heap:=h'}) :
  wpAny (model prog w) A (pyNext (.ref it)) Q E s:=by
 let⟨o,ho,hc,hd⟩:=id hit;unfold pyNext;refine yq (wJ (yU (name:=Str.ofString "__next__") hit.typeIs xS
  (y3 xS hit.typeIs F.entry_dict_keyiterator_next ?_ (F.args_dict_keyiterator_next_1 _))))
 refine yq (yt ?_);refine yq ?_;refine yq ?_
 first | refine yq (xM hit.typeIs (yt ?_)) | refine yq (wj hit.typeIs (yt ?_))
 refine yq (wpAny_fieldsOf ho hd ?_);let hown:Builtin.Dict_items.ownsTuple "dict_keyiterator"= false:=by decide
 rw[hown,yJ zJ];show wpAny _ _ (if(Value.ref d == Value.none)=true then _ else _) _ _ s;rw[yJ (show¬((Value.ref d == Value.none)=true) from zJ)];refine yq (yt ?_);refine yq (wpAny_dictEntries hod hdd ?_);rw[yJ (by simp)];refine yq (yt ?_);refine yq (wpAny_dictEpoch hod hdd ?_);rw[yJ (by simp)];refine yt ?_;dsimp only;rw[yJ (show¬((i:Int)<0) from by ext),xU,hx];dsimp only;refine yq ?_
 first | refine yq (xM hit.typeIs (yt ?_)) | refine yq (wj hit.typeIs (yt ?_))
 refine yq (wpAny_isOneOf_keyiter hit.typeIs ?_);show wpAny _ _ (setField (.ref it) 1 (rawInt ((i:Int)+1)) >>= _) _ _ s;refine yq (wpAny_setField ho hd (by simp) ?_);let hit':(s.heap.update it (Obj.mapFields (·.setIfInBounds 1 (rawInt ((i:Int)+1))))).IsKeyIter it d (i+1) es.size ep:=
  {_,Heap.get?_update_self _ ho (Obj.isFreed_of_fields (w6 hd _)),(Obj.cls_mapFields ..).trans hc,by rw[w6 hd];simp[rawInt]}
 refine yq (xD ?_);refine yq (wpAny_isOneOf_keyiter (s:={s with heap:=s.heap.update it (Obj.mapFields (·.setIfInBounds 1 (rawInt ((i:Int)+1))))}) hit'.typeIs ?_);show wpAny _ _ (pure e.key) _ _ _;exact yt (yt {_,rfl,yt (hQ _ hit' (wU ..))})
def Q0 (hh:A.handled=none) (hit:s.heap.IsKeyIter it d i es.size ep)
  (hod:s.heap.get? d=some od) (hdd:od.data=.dict es ep) (hx:es.size<=i)
  (hQ:∀h',Heap.ExtBut it s.heap h'->Q none {s with heap:=h'}):wpAny (model prog w) A (pyNext (.ref it)) Q E s:=by
 let⟨o,ho,hc,hd⟩:=id hit;unfold pyNext;refine yq (wJ (yU (name:=Str.ofString "__next__") hit.typeIs xS
  (y3 xS hit.typeIs F.entry_dict_keyiterator_next ?_ (F.args_dict_keyiterator_next_1 _))))
 refine yq (yt ?_);refine yq ?_;refine yq ?_
 first | refine yq (xM hit.typeIs (yt ?_)) | refine yq (wj hit.typeIs (yt ?_))
 refine yq (wpAny_fieldsOf ho hd ?_);let hown:Builtin.Dict_items.ownsTuple "dict_keyiterator"= false:=by decide
 rw[hown,yJ zJ];show wpAny _ _ (if(Value.ref d == Value.none)=true then _ else _) _ _ s;rw[yJ (show¬((Value.ref d == Value.none)=true) from zJ)];refine yq (yt ?_);refine yq (wpAny_dictEntries hod hdd ?_);rw[yJ (by simp)];refine yq (yt ?_);refine yq (wpAny_dictEpoch hod hdd ?_);rw[yJ (by simp)];refine yt ?_;dsimp only;rw[yJ (show¬((i:Int)<0) from by ext),xU,Array.getElem?_eq_none hx];dsimp only;refine yq ?_
 first | refine yq (xM hit.typeIs (yt ?_)) | refine yq (wj hit.typeIs (yt ?_))
 show wpAny _ _ (setField (.ref it) 0 .none >>= _) _ _ s;refine yq (wpAny_setField ho hd (by simp) ?_);show wpAny _ _ (newExc (.type "StopIteration") [] >>= _) _ _ _;refine yq ?_;simp only[newExc,newTuple];refine yq (y6 ?_ (by size_fits));refine yq (m:=firstArgMember _ _) (wpAny_of_eq (a:=Value.none) (by first | rfl | (simp only[firstArgMember];rfl)) ?_);refine y6 ?_ (by size_fits);simp only[raiseNew];refine yq (wpAny_handled ?_);rw[show A.in1.handled=none from hh];refine yq (yt (wpAny_throw ?_));refine yq (wpAny_isInstance (T:="StopIteration") (b:=true) {_,yu _ rfl,rfl} isSubtype_stop ?_);exact yt (hQ _ (((wU ..).extBut.push _).push _))
end
def Qy (H:Hp) (d:vm) (o:Obj) (n:Nat) (kat:Hp->Nat->V->Prop):Prop:=∃u,H d=some (.iI o u)/\((∃kvs:List (Key×V),u=.dK kvs/\n=⇑kvs/\kat=λ_ i x=>∃p,kvs[i]?=some p/\x=kV p.1)\/
 ∃kvs:List (List Key×V),u=.dT kvs/\n=⇑kvs/\kat=λH i x=>∃p b,kvs[i]?=some p/\H b=some (.tup (p.1.map kV))/\x=.ref b)
theorem DW {K:Type} [DecidableEq K] {prog:vh} {w:vi} {knd:KeyKind prog w K}:∀{es:List DictEntry} {kvs:List (K×vf)} {i:Nat} {e:DictEntry},PySem.Pairs knd es kvs->es[i]?=some e->∃kv,kvs[i]?=some kv/\knd.is kv.1 e.key=true/\e.val=kv.2
 | _,_,_,_,.nil,h=>by simp at h
 | _,_,0,_,.cons a b _,h=>by simp at h;subst h;exact{_,rfl,a,b}
 | _,_,i+1,_,.cons _ _ t,h=>by
  let⟨kv,h1,h2⟩:=DW (i:=i) t (by simpa using h);exact{kv,by simpa using h1,h2}
theorem kM:∀{l:List α} {m:List β} {i:Nat} {b:β},Paired F l m->m[i]?=some b->∃a,l[i]?=some a/\F a b
 | _,_,_,_,.nil,h=>by simp at h
 | _,_,0,_,.cons r _,h=>by simp at h;subst h;exact{_,rfl,r}
 | _,_,i+1,_,.cons _ t,h=>by
  let⟨a,h1,h2⟩:=kM (i:=i) t (by simpa using h);exact{a,by simpa using h1,h2}
section
variable {X:Cx} {pins:List (vm×Obj)} {U:St} {H:Hp} {s:vg} {d:vm} {o:Obj} {n:Nat} {kat:Hp->Nat->V->Prop}
def Qy.raw (f:Qy H d o n kat) (I:Inv X pins U H s):(d == sysModules)=false/\∃es ep,s.heap.get? d=some o/\o.ExactDict/\o.data=.dict es ep/\es.size=n/\∀i e,es[i]?=some e->∃x,RelV x e.key/\kat H i x:=by
 let⟨u,hH,hu⟩:=f;let⟨ho,ok⟩:=(show cD X.prog X.w H s.heap d (.iI o u) from I.cx d _ hH)
 rcases hu with⟨kvs,rfl,rfl,rfl⟩ | ⟨kvs,rfl,rfl,rfl⟩
 ·let⟨_,hd,vs,rel,o',es,ep,ho',hx,hdat,_,hp,_⟩:=ok
  let hl:es.size=⇑kvs:=by
   let h1:=⇑hp;let h2:⇑kvs=⇑vs:=xT rel;let h3:⇑es.toList=es.size:=yM;ext
  rw[ho] at ho';cases ho';refine{hd,es,ep,ho,hx,hdat,hl,λi e he=>?_};let⟨kv,h1,h2,_⟩:=DW hp (i:=i) (e:=e) (by rw[xb];exact he);let⟨p,h3,h4,_⟩:=kM rel h1;refine{kV p.1,?_,p,h3,rfl};rw[<-h4] at h2;rcases di h2 with⟨j,t,e1,e2⟩ | ⟨y,t,e1,e2⟩
  ·rw[e1,e2];exact{(t),rfl}
  ·rw[e1,e2];exact{(t),rfl}
 ·let⟨_,hd,xs,rel,o',es,ep,ho',hx,hdat,he,_⟩:=ok
  let h3:⇑es.toList=es.size:=yM;let hl:es.size=⇑kvs:=by
   let h2:⇑kvs=⇑xs:=xT rel;rw[he,za] at h3;ext
  rw[ho] at ho';cases ho';refine{hd,es,ep,ho,hx,hdat,hl,λi e hi=>?_};rw[<-xb,he,zI] at hi;cases q:xs[i]? with
  | none=>rw[q] at hi;cases hi
  | some y=>
   rw[q] at hi;cases hi;let⟨p,h4,h5,h6,_⟩:=kM rel q;exact{.ref y.2.1,rfl,p,y.2.1,h4,h6,rfl}
end
noncomputable def Xl (d:vm) (o:Obj) (n:Nat) (kat:Hp->Nat->V->Prop):It:={λi H=>Qy H d o n kat/\i<n,λi H x H'=>H'=H/\kat H i x,λi H=>Qy H d o n kat/\n<=i}
def Mu {P:vh} {w:vi} {K:yx} {tg:Expr} (d it:vm) (n:Nat) (kat:Hp->Nat->V->Prop) (o:Obj) (es:Array DictEntry) (ep:Nat) (hdat:o.data=.dict es ep) (hn:es.size=n) :
  Turn P w K tg (Xl d o n kat) [it] it (λi h=>h.IsKeyIter it d i n ep) where
 mem:=by simp
 obj:=λi h st b hb=>by
  let e:b=it:=by simpa using hb
  subst e;let⟨o,e,c,d⟩:=st;exact{o,e,λv z=>by rw[d] at z;cases z}
 keep:=λi h h' st k=>st.at λo e=>k it (by simp) o e
 item:=by
  intro X hP hw hK hc i pins s U H E I hf st hg;subst hP hw hK hn;let⟨fz,hlt⟩:=hg;let⟨hd,es',ep',ho,hx,hdat',hsz,hk⟩:=fz.raw I;rw[hdat] at hdat';cases hdat';let⟨f0,f1,f2,f3,f4,f5⟩:=hf it (by simp);let he:es[i]?=some es[i]:=Array.getElem?_eq_getElem hlt;let⟨x,rx,kx⟩:=hk i _ he;refine O1 st ho hdat he λh' st' sb=>?_;let I1:Inv X pins U H {s with heap:=h'}:=I.turned (t':=s.toks) (λb o hb e=>(sb.2 b hb).trans e) f0 f1 f3 f4 f5;let⟨oi,e,c,dd⟩:=id st';exact{_,rfl,Bt (s:={s with heap:=h'}) e c dd ∅ {x,H,I1,rx,{(rfl),kx},st',λb hb=>(hf b hb).1}}
 done:=by
  intro X hP hw hK hc i pins s U H E I hf st hg;subst hP hw hK hn;let⟨fz,hge⟩:=hg;let⟨hd,es',ep',ho,hx,hdat',hsz,hk⟩:=fz.raw I;rw[hdat] at hdat';cases hdat';let⟨f0,f1,f2,f3,f4,f5⟩:=hf it (by simp);exact Q0 (I.ok.hd hc) st ho hdat hge λh' eb=>{rfl,I.turned (t':=s.toks) (λb o hb e=>eb b o hb e) f0 f1 f3 f4 f5}
 self:=λ_ _ _ _ _ st h=>wpAny_pyIter_keyiter st h
def Vh (td:TE):TI:=λU H R=>td U H λx H1=>∃d o n kat,x=.ref d/\Qy H1 d o n kat/\R (Xl d o n kat) H1
section
variable {X:Cx} {tg l:Expr} {tl:TE}
def Q8 (hl:PE X l tl):PI X tg l (Vh tl):=by
 intro pins s U H R I h;refine cQ (hl s U H _ I h) λv s1 z0=>?_;let⟨x,H1,I1,r1,q1⟩:=z0;let⟨d,o,n,kat,e,fz,q⟩:=q1;subst e;cases r1;let⟨hd,es,ep,ho,hx,hdat,hsz,hk⟩:=fz.raw I1;refine O0 hd ho hx hdat ?_;refine{↑s1,[↑s1],_,_,H1,rfl,I1.kept (t':=s1.toks) λb o e=>yr _ e,Mu d _ n kat o es ep hdat hsz,{_,yu _ rfl,rfl,by rw[hsz];rfl},λb hb=>?_,q};let e:b=↑s1:=by simpa using hb
 subst e;exact I1.Bu (zk _) (I1.cx.fresh (zk _))
end
def LI (H:Hp) (d:vm) (o:Obj) (kvs:List (Key×V)):Prop:=H d=some (.iI o (.dK kvs))
noncomputable def Qw (d:vm) (o:Obj) (kvs:List (Key×V)):It:={λi H=>LI H d o kvs/\i<⇑kvs,λi H x H'=>H'=H/\∃p,kvs[i]?=some p/\x=p.2,λi H=>LI H d o kvs/\⇑kvs<=i}
section
variable {X:Cx} {pins:List (vm×Obj)} {U:St} {H:Hp} {s:vg} {d:vm} {o:Obj} {kvs:List (Key×V)}
def LI.at' (f:LI H d o kvs) (I:Inv X pins U H s):(d == sysModules)=false/\∃vs es ep,KV kvs vs/\o.data=.dict es ep/\s.heap.DictAt (dF X.prog X.w) d vs ep:=by
 let⟨ho,ok⟩:=(show cD X.prog X.w H s.heap d (.iI o (.dK kvs)) from I.cx d _ f)
 let⟨_,hd,vs,rel,o',es,ep,ho',hx,hdat,hk,hp,nd⟩:=ok;rw[ho] at ho';cases ho';exact{(hd),vs,es,ep,rel,hdat,o,es,ho,hx,hdat,hk,hp,nd}
end
def GQ {P:vh} {w:vi} {K:yx} {tg:Expr} (d it:vm) (o:Obj) (kvs:List (Key×V)) (es:Array DictEntry) (ep:Nat) (hdat:o.data=.dict es ep) :
  Turn P w K tg (Qw d o kvs) [it] it (λi h=>h.IsValIter it d i ⇑kvs ep) where
 mem:=by simp
 obj:=λi h st b hb=>by
  let e:b=it:=by simpa using hb
  subst e;let⟨o,e,c,d⟩:=st;exact{o,e,λv z=>by rw[d] at z;cases z}
 keep:=λi h h' st k=>st.at λo e=>k it (by simp) o e
 item:=by
  intro X hP hw hK hc i pins s U H E I hf st hg;subst hP hw hK;let⟨fz,hlt⟩:=hg;let⟨hd,vs,es',ep',rel,hdat',da⟩:=fz.at' I;rw[hdat] at hdat';cases hdat';let⟨f0,f1,f2,f3,f4,f5⟩:=hf it (by simp);let hl:⇑kvs=⇑vs:=xT rel;let hi:vs[i]?=some (vs[i]'()):=zb ();let⟨p,h3,h4,h5⟩:=kM rel hi;refine wpAny_pyNext_values_item (by rw[<-hl];exact st) da hi λh' st' sb=>?_;let I1:Inv X pins U H {s with heap:=h'}:=I.turned (t':=s.toks) (λb o hb e=>(sb.2 b hb).trans e) f0 f1 f3 f4 f5;let⟨oi,e,c,dd⟩:=id st';exact{_,rfl,Bt (s:={s with heap:=h'}) e c dd ∅ {p.2,H,I1,h5,{(rfl),p,h3,rfl},by rw[hl];exact st',λb hb=>(hf b hb).1}}
 done:=by
  intro X hP hw hK hc i pins s U H E I hf st hg;subst hP hw hK;let⟨fz,hge⟩:=hg;let⟨hd,vs,es',ep',rel,hdat',da⟩:=fz.at' I;rw[hdat] at hdat';cases hdat';let⟨f0,f1,f2,f3,f4,f5⟩:=hf it (by simp);let hl:⇑kvs=⇑vs:=xT rel;exact wpAny_pyNext_values_end (I.ok.hd hc) (by rw[<-hl];exact st) da (by simp;ext) λh' eb=>{rfl,I.turned (t':=s.toks) (λb o hb e=>eb b o hb e) f0 f1 f3 f4 f5}
 self:=λ_ _ _ _ _ st h=>wpAny_pyIter_valiter st h
def Ru (td:TE):TI:=λU H R=>td U H λx H1=>∃d o kvs,x=.ref d/\LI H1 d o kvs/\R (Qw d o kvs) H1
section
variable {X:Cx} {tg l:Expr} {tl:TE} {apos cpos:Pos}
def DU (hl:PE X l tl) (hbase:attributeBase l "values" X.env (eval l X.env)=eval l X.env<|>qe_) (hline:(apos.endLine == cpos.line)=true<|>qe_):PI X tg (.Call (.Attribute l "values" apos) [] [] cpos) (Ru tl):=by
 intro pins s U H R I h;refine wpAny_Call_method0_late hbase hline (cQ (hl s U H _ I h) λv s1 z0=>?_);let⟨x,H1,I1,r1,q1⟩:=z0;let⟨d,o,kvs,e,fz,q⟩:=q1;subst e;cases r1;let⟨hd,vs,es,ep,rel,hdat,da⟩:=fz.at' I1;refine{"dict","dict.values",F.plainAttrs_dict,F.slot_dict_values,F.type_dict_values,da.dictOf.typeIs,da.dictOf.mapOf.noDict,wF rfl (PySem.evalArgs_none ?_)};refine call_meetsIn F.slot_dict_values da.dictOf.typeIs F.entry_dict_values (F.args_dict_values_1 _) (meets_dict_values (dF X.prog X.w) d hd) {{(vs),da.dictOf},?_};let I2:Inv X pins U H1 {s1 with heap:=s1.heap.push {cls:=.type "dict_values",data:=.fields #[.ref d]}}:=I1.kept (t':=s1.toks) λb o e=>yr _ e;let⟨_,vs2,es2,ep2,rel2,hdat2,da2⟩:=fz.at' I2;rw[hdat] at hdat2;cases hdat2;let hl2:⇑kvs=⇑vs2:=xT rel2;refine wpAny_pyIter_values (knd:=dF X.prog X.w) {_,yu _ rfl,rfl,rfl} da2 ?_;refine{_,[_],_,_,H1,rfl,I2.kept (t':=s1.toks) λb o e=>yr _ e,GQ d _ o kvs es ep hdat,{_,yu _ rfl,rfl,by rw[hl2];rfl},λb hb=>?_,q};rw[zy.mp hb];exact I2.Bu (zk _) (I2.cx.fresh (zk _))
end
def Bw {d:vm} {o:Obj} {kvs:List (Key×V)} {g:TG} {tb:TS} {D:Ends} {U:St} {H:Hp} (Pv:Nat->St->Hp->Prop) (h0:Pv 0 U H) (hf:∀i U H,i<=⇑kvs->Pv i U H->LI H d o kvs)
  (hs:∀i p U H,kvs[i]?=some p->Pv i U H->g p.2 U H λσ2 H2=>tb {D with nx:=Pv (i+1),ct:=Pv (i+1),bk:=D.nx} σ2 H2) (hd:∀U H,Pv ⇑kvs U H->D.nx U H) :
  ∃W:Nat->Nat->St->Hp->Prop,(∃m,W 0 m U H)/\∀i m U H,W i m U H->
   ((Qw d o kvs).stop i H/\D.nx U H)\/((Qw d o kvs).go i H/\∃Nn:St->Hp->Prop,(∀U' H',Nn U' H'->∃m',m'<m/\W (i+1) m' U' H')/\∀v H',(Qw d o kvs).JP i H v H'->g v U H' λσ2 H2=>tb {D with nx:=Nn,ct:=Nn,bk:=D.nx} σ2 H2):=by
 refine{λi m U H=>m=⇑kvs-i/\i<=⇑kvs/\Pv i U H,{⇑kvs,by simp,yd _,h0},?_};rintro i m U H ⟨rfl,hi,pv'⟩;rcases xC i ⇑kvs with hlt | hge
 ·refine .inr {{hf i U H hi pv',hlt},Pv (i+1),λU' H' p'=>{⇑kvs-(i+1),(),rfl,hlt,p'},λv H' y=>?_}
  let⟨e1,p,hp,e2⟩:=y;rw[e1,e2];exact hs i p U H hp pv'
 ·let e:i=⇑kvs:=()
  subst e;exact .inl {{hf _ U H hi pv',zk _},hd U H pv'}
noncomputable def Vf:HO->Bool
 | .dK _=>true
 | .dT _=>true
 | _=>false
def dy.R3 {P:vh} {w:vi} {K:yx} {mg:Str->Option vf} {base:vn} {k:Nat} {f:vm} {fd:vk} {ps:List Str} {sp sp':Sp} (F:dy P w K mg base JK k f fd ps sp) (len:∀vs H Q E,sp' vs H Q E->⇑vs=⇑ps)
  (h:∀vs H Q E,sp' vs H Q E->∃d u,H d=some u/\Vf u=true/\∀o,sp vs (upd H d (.iI o u)) (λv H'=>Q v (upd H' d u)) E):dy P w K mg base JK k f fd ps sp':=by
 refine{len,λA outer s H args us vs Q E hr e hb hv hs=>?_};let⟨d,u,hd,hu,hsp⟩:=h vs H Q E hs;let okd:=e.cx d u hd;let⟨o,ho⟩:=okd.here;let nt:∀xs,u≠.tup xs:=λxs z=>by rw[z] at hu;cases hu
 let no:∀x,u≠.own x:=λx z=>by rw[z] at hu;cases hu
 let nf:∀a b,u≠.iI a b:=λa b z=>by rw[z] at hu;cases hu
 let nb:∀a,u≠.Ou a:=λa z=>by rw[z] at hu;cases hu
 let off:∀b,H b=none->b≠d:=λb n z=>by rw[z,hd] at n;cases n
 let tup1:∀b xs,H b=some (.tup xs)->upd H d (.iI o u) b=some (.tup xs):=λb xs q=>by rw[aG (λz=>by rw[z,hd] at q;exact nt xs (yh q))];exact q
 let own1:∀b x,H b=some (.own x)->upd H d (.iI o u) b=some (.own x):=λb x q=>by rw[aG (λz=>by rw[z,hd] at q;exact no x (yh q))];exact q
 let e1:JJ P w K mg base A outer s (upd H d (.iI o u)):=by
  refine{e.frames,e.mod,λb ob q=>{(e.bs b ob q).1,by rw[aG (off b (e.bs b ob q).2)];exact(e.bs b ob q).2},e.N4,e.oh,λb hb=>by rw[aG (off b (e.KZ b hb))];exact e.KZ b hb,λb ub q=>?_,e.bare}
  by_cases hbd:b=d
  ·subst hbd
   rw[aE] at q;cases q;exact{ho,okd.lZ (λ_ _ _ z=>z) (λc z=>own1 c _ z) tup1}
  ·rw[aG hbd] at q
   exact(e.cx b ub q).lZ (λ_ _ _ z=>z) (λc z=>own1 c _ z) tup1
 refine xN (F.run A outer s _ args us vs _ E hr e1 hb hv (hsp o)) λr s' hq=>?_;cases r with
 | error x=>exact hq
 | ok fl=>
  cases fl with
  | next=>exact hq
  | brk=>exact hq
  | cont=>exact hq
  | ret uv=>
   let⟨v,H',os,bare,un,cx,rv,q⟩:=hq;let hd':H' d=some (.iI o u):=un.mf d o u aE;let off1:∀b,H b=none->upd H d (.iI o u) b=none:=λb n=>by rw[aG (off b n)];exact n
   let back:∀b z,H b=some z->b≠d->upd H d (.iI o u) b=some z:=λb z q n=>by rw[aG n];exact q
   refine{v,upd H' d u,os,bare,{λb ob q n hb hx=>un.keep b ob q (off1 b n) hb hx,λb ob q n hb hx=>un.slot b ob q (off1 b n) hb hx,λb ob q n hx=>by rw[aG (off b n)];exact un.free b ob q (off1 b n) hx,un.there,
    λb xs q=>?_,λb ob uu q=>?_,λb ps' q=>?_},λb ub q=>?_,rv,q}
   ·let n:b≠d:=λz=>by rw[z,hd] at q;exact nt xs (yh q)
    rw[aG n];exact un.nX b xs (back b _ q n)
   ·let n:b≠d:=λz=>by rw[z,hd] at q;exact nf ob uu (yh q)
    rw[aG n];exact un.mf b ob uu (back b _ q n)
   ·let n:b≠d:=λz=>by rw[z,hd] at q;exact nb ps' (yh q)
    let⟨m,z⟩:=un.nY b ps' (back b _ q n);exact{m,by rw[aG n];exact z}
   ·let own2:∀c x,H' c=some (.own x)->upd H' d u c=some (.own x):=λc x z=>by rw[aG (λy=>by rw[y,hd'] at z;cases z)];exact z
    let tup2:∀c xs,H' c=some (.tup xs)->upd H' d u c=some (.tup xs):=λc xs z=>by rw[aG (λy=>by rw[y,hd'] at z;cases z)];exact z
    by_cases hbd:b=d
    ·subst hbd
     rw[aE] at q;cases q;let⟨_,ok'⟩:=(show cD P w H' s'.heap b (.iI o u) from cx b _ hd')
     exact ok'.lZ (λ_ _ _ z=>z) (λc z=>own2 c _ z) tup2
    ·rw[aG hbd] at q
     exact(cx b ub q).lZ (λ_ _ _ z=>z) (λc z=>own2 c _ z) tup2
noncomputable def HN (U:List Str) (x:Str):List Str:=if x∈U then U else U++[x]
noncomputable def gj (l:List Str):List Str:=l.foldl HN []
def IT (l:List Str):⇑(gj l)<=⇑l/\(⇑(gj l)=⇑l↔l.Nodup):=by
 let key:∀(l U:List Str),U.Nodup->⇑(l.foldl HN U)<=U.length+⇑l/\(⇑(l.foldl HN U)=U.length+⇑l↔(U++l).Nodup):=by
  intro l
  induction l with
  | nil=>intro U h;simp[h]
  | cons x l ih=>
   intro U h;rw[List.foldl_cons,zt]
   by_cases hx:x∈U
   ·rw[show HN U x=U from yK hx]
    have:=ih U h;refine{(),{λe=>(),λe=>?_}};exact absurd hx (λz=>(zQ.mp e).2.2 x z x zp rfl)
   ·rw[show HN U x=U++[x] from yJ hx]
    let hn:(U++[x]).Nodup:=zQ.mpr {h,by simp,λa ha b hb e=>by rw[zy.mp hb] at e;exact hx (e▸ha)};have:=ih (U++[x]) hn;rw[zg,List.length_singleton,zD,List.singleton_append] at this;exact{(),{λe=>this.2.mp (),λe=>by have:=this.2.mpr e;ext}}
 have:=key l [] xW
 simpa[gj] using this
def sub_tuple_set:isSubtype (.type "tuple") (.type "set")=pure false:=by rw[isSubtype_type];kernel_rfl
def sub_tuple_frozenset:isSubtype (.type "tuple") (.type "frozenset")=pure false:=by rw[isSubtype_type];kernel_rfl
section
variable {prog:vh} {w:vi}
def OM {A:vj} {R:Result->vg->Prop} {I:vm} {fp wr:List vm} {G:Array GenState->Array GenState->Prop} {n:Nat} {P:Nat->vf->Prop} {St:Nat->vg->Prop} (W:WalksS prog w A.in1 I fp wr G n P St) (S:vm) (hSf:S∉fp)
  (zs:List Str) (hn:n=⇑zs) (hval:∀i v,P i v->∃z t,zs[i]?=some z/\v=.str z t) (hb:n+1<scanBound) :
  ∀(k i:Nat) (s:vg),n-i=k->i<=n->St i s->s.heap.SetOf (PySem.strKind prog w) S (λx=>decide (x∈gj (zs.take i))) ⇑(gj (zs.take i))->
   (∀s',Moved (S::wr) G s s'->s'.heap.SetOf (PySem.strKind prog w) S (λx=>decide (x∈gj zs)) ⇑(gj zs)->R (.ok (.ret .none)) s')->
   codeAny (model prog w) A (.builtin "set.update.loop" {[.ref S,.ref I],[]}) R s:=by
 let hSw:S∉wr:=λh=>hSf (W.sub _ h);let hsub:∀b∈wr,b∈S::wr:=λb hb=>zm _ hb;intro k
 induction k with
 | zero=>
  intro i s hk hi hst hS hR;let hin:i=n:=()
  subst hin;rw[hn,zL] at hS;refine xQ F.entry_set_update_loop ?_;rw[Around.under_plainId F.plain_set_update_loop _];show wpAny _ A.in1 (pyNext (.ref I) >>= _) _ _ s;refine yq (W.done s _ _ hst λs' hm=>?_);let⟨o,es,ep,t,ho,rest⟩:=hS;exact yt (hR s' (hm.mono hsub) {o,es,ep,t,hm.heap S _ hSw ho,rest})
 | succ k ih=>
  intro i s hk hi hst hS hR;let hlt:i<n:=()
  refine xQ F.entry_set_update_loop ?_;rw[Around.under_plainId F.plain_set_update_loop _];show wpAny _ A.in1 (pyNext (.ref I) >>= _) _ _ s;refine yq (W.item i s _ _ hlt hst λv s' hP hst' hm=>?_);let⟨z,t,hz,rfl⟩:=hval i v hP;let⟨o,es,ep,tb,ho,rest⟩:=hS;let hS':s'.heap.SetOf (PySem.strKind prog w) S (λx=>decide (x∈gj (zs.take i))) ⇑(gj (zs.take i)):={o,es,ep,tb,hm.heap S _ hSw ho,rest}
  show wpAny _ A.in1 (holding [Value.str z t] (setAdd S (.str z t)) >>= _) _ _ s';refine yq (xD ?_);unfold setAdd;refine xD ?_;refine yq ((PySem.strKind prog w).pyHash (k:=z) (strKind_is _ _ _ _) ?_);let hl:=(IT (zs.take i)).1;rw[zO] at hl;refine wpAny_setAddHashed_of (knd:=PySem.strKind prog w) (s:={s' with toks:=s'.toks+1}) (strKind_is _ _ _ _) rfl hS' () λh' hsb hS2=>?_;let et:zs.take (i+1)=zs.take i++[z]:=by rw[List.take_succ,hz];rfl
  let ed:gj (zs.take (i+1))=HN (gj (zs.take i)) z:=by rw[et];unfold gj;rw[zW];rfl
  let hSi:h'.SetOf (PySem.strKind prog w) S (λx=>decide (x∈gj (zs.take (i+1)))) ⇑(gj (zs.take (i+1))):=by
   refine SetOf_congr hS2 (λx=>?_) ?_
   ·rw[ed]
    unfold HN
    by_cases hx:z∈gj (zs.take i)
    ·rw[yK hx]
     by_cases e:x=z
     ·subst e;simp[hx]
     ·simp[e]
    ·rw[yJ hx];simp[zE]
   ·rw[ed]
    unfold HN
    by_cases hx:z∈gj (zs.take i) <;> simp[hx]
  refine yt {plainId_quiet F.plain_set_update_loop _,ih (i+1) _ () hlt (W.frame _ s' _ _ hst' (xV _) λb hb o e=>?_) hSi λs'' hm'' hS''=>?_}
  ·rw[hsb.2 b (λh:b=S=>hSf (by rw[<-h];exact hb))];exact e
  ·refine hR s'' (Moved.trans W.gtrans ((hm.mono hsub).then_heap (xV _) λb o hb e=>?_) hm'') hS''
   rw[hsb.2 b (λh:b=S=>hb (by rw[h];exact zp))];exact e
variable {A:vj} {E:vf->vg->Prop} {s:vg}
def Kb {l:vm} {items:Array vf} {zs:List Str} {Q:vf->vg->Prop} (hh:A.handled=none) (hl:IsTup s.heap l items) (hi:∀(i:Nat) (v:vf),items[i]?=some v->∃z t,zs[i]?=some z/\v=.str z t) (hn:items.size=⇑zs) (hb:items.size+1<scanBound)
  (h:∀(h':vn) (tk:Nat),h'.SetOf (PySem.strKind prog w) ↑s (λx=>decide (x∈gj zs)) ⇑(gj zs)->(∀b o,b<↑s->s.heap.get? b=some o->h'.get? b=some o)->Q (.ref ↑s) {s with heap:=h',toks:=tk}) :
  wpAny (model prog w) A (call (.type "set") [.ref l]) Q E s:=by
 let⟨c,tl,hmro⟩:=F.called_set.mro;let hmade:=F.called_set.made;let hsub:=F.called_set.sub;refine wpAny_call (codeAny_of_tree ?_);show wpAny _ _ (callAny (.type "set") _) _ _ _;refine yt {Code.quiet_builtin _ (by decide +kernel),xQ F.entry_type_call ?_};rw[Around.under_plain (weight_type_call_type "set" [.ref l] []) rfl];let h1:=F.called_set.notType;let h2:=F.called_set.canCreate;let hct:=F.typeCall_set_1 (.ref l)
 repeat (any_goals (first | assumption | wp_step))
 letI fresh:Bool->Obj:=λled=>{cls:=.type "set",dict:=none,data:=.set #[] 0 (.fresh 0 0 led)}
 refine xN (code_set_new_1 (.ref l) (E:=E) (Q₁:=λobj s₁=>∃led:Bool,obj=.ref ↑s/\s₁={s with heap:=s.heap.push (fresh led)}) λled=>{(led),rfl,rfl}) λr s₁ hr=>?_;cases r with
 | error e=>exact hr
 | ok fl=>
  cases fl with
  | next=>exact hr.elim
  | brk=>exact hr.elim
  | cont=>exact hr.elim
  | ret obj=>
   let⟨led,rfl,rfl⟩:=hr;let hS:(s.heap.push (fresh led)).get? ↑s=some (fresh led):=yu _ rfl;let hT:Shared.TypeIs {s with heap:=s.heap.push (fresh led)} (.ref ↑s) "set":={_,hS,rfl}
   let hli:=F.called_set.init.lookup;let hbi:=F.called_set.init.bind (.ref ↑s)
   repeat (any_goals (first | assumption | wp_step))
   refine xN (codeAny_call_builtin (R:=wants (λr s₂=>r=.none/\∃h' tk,s₂={s with heap:=h',toks:=tk}/\h'.SetOf (PySem.strKind prog w) ↑s (λx=>decide (x∈gj zs)) ⇑(gj zs)/\
     (∀b o,b<↑s->s.heap.get? b=some o->h'.get? b=some o)) E) F.called_set.init.plain F.entry_set_init (check_set_init_1 hT ?_)) λr₂ s₂ hr₂=>?_
   ·let⟨⟨ocls,odict,odata,oslots⟩,hol,hcl,nl,hdl⟩:=hl
    simp only at hcl hdl;subst hcl hdl;let hol':(s.heap.push (fresh led)).get? l=some {cls:=.type "tuple",dict:=odict,data:=.seq items nl,slots:=oslots}:=yr _ hol;let hsls:=sub_tuple_set;let hslf:=sub_tuple_frozenset;let hne:(Value.type "tuple"== Value.type "dict")=false:=by decide
    let hl1:(s.heap.push (fresh led)).IsTuple l items:={_,hol',rfl,nl,rfl}
    unfold Builtin.«set.__init__» noKeywords Builtin.Frozenset.updateFrom;generalize hPI:pyIter=PI;wp_walk;subst hPI;refine wpAny_pyIter_tuple hl1 ?_;refine yq (wpAny_runValue ?_);let hlS:l<↑s:=yv hol;let hh3:A.in1.in1.in1.handled=none:=by simp[hh]
    let hz:(s.heap.push (fresh led)).objs.size=↑s+1:=xf ..;let hSf:↑s∉[(s.heap.push (fresh led)).objs.size,l]:=by
     rw[hz];simp only[zB,zC,yQ,not_or];exact{yg (xJ _),yf hlS}
    refine OM ((Walks.tuple hh3 _ l (by rw[hz];exact yg (wD hlS)) items).toS) ↑s hSf zs hn hi hb (items.size-0) 0 _ () (yd _)
     {{_,yu _ rfl,rfl,rfl},(hl1.push _)} ?hS0 ?hR
    case hS0=>
     exact SetOf_congr ((setObjOf_fresh (knd:=PySem.strKind prog w) led).setOf (yr _ hS) (by unfold scanBound;ext)) (λ_=>rfl) rfl
    case hR=>
     intro s' hm hS';let⟨h',g',d',tk',os'⟩:=s';let eg:g'=s.gens:=hm.gens;let ed:d'=s.drawn:=hm.drawn;let eo:os'=s.os:=hm.os;subst eg ed eo;refine yt (yt {rfl,h',tk',rfl,hS',λb o hb e=>?_});refine hm.heap b o ?_ (yr _ (yr _ e));simp only[zB,zC,yQ,not_or];exact{yg hb,by rw[hz];exact yg (wD hb)}
   ·cases r₂ with
    | error e=>exact hr₂
    | ok fl₂=>
     cases fl₂ with
     | next=>exact hr₂.elim
     | brk=>exact hr₂.elim
     | cont=>exact hr₂.elim
     | ret r=>
      let⟨rfl,h',tk,rfl,hS',hk'⟩:=hr₂
      repeat (any_goals (first | assumption | wp_step))
      exact h _ _ hS' hk'
end
noncomputable def JG (a:vm) (n:Nat):HO:=.ext λh=>∃o es ep t,h.get? a=some o/\o.ExactSet/\o.data=.set es ep t/\t.fits es.size=true/\es.size=n
section
variable {X:Cx}
def NC (hc:X.calm=true):fH X (.type "set") (λxs H Q=>∃(a:vm) (zs:List Str),xs=[.ref a]/\pQ X.K H a (zs.map V.str)/\⇑zs<=1000/\∀p,H p=none->Q (.ref p) (upd H p (JG p ⇑(gj zs)))):=by
 intro pins s U H xs us Q I r h;let⟨a,zs,rfl,hq,hz,q⟩:=h;let⟨u,rfl,rx⟩:=vals1 r;cases rx;let⟨its,rv,p,_⟩:=I.tuple hq;let hl:⇑zs=⇑its:=by have:=⇑rv;rw[za] at this;exact this
 refine Kb (zs:=zs) (I.ok.hd hc) p (λi v hv=>?_) (by rw[zZ,hl]) (by rw[zZ];unfold scanBound;ext) λh' tk hS hk=>?_
 ·let hv':its[i]?=some v:=by simpa using hv
  let hi:i<⇑its:=(zw.mp hv').1;let⟨z,t,e1,e2⟩:=OE rv hi;have:=(zw.mp hv').2;exact{z,t,e1,by rw[<-this,e2]}
 ·let⟨o,es,ep,t,ho,hex,hd,hel,hmem,hb,hf,hn⟩:=hS
  refine{.ref _,_,I.laid (t':=tk) (a:=↑s) (o:=JG ↑s ⇑(gj zs)) (λb ob e=>hk b ob (yv e) e) (zk _) ?_,rfl,q _ (I.cx.fresh (zk _))};exact{{(o),es,ep,t,ho,hex,hd,hf,hn},{(o),ho},λh1 h2 ⟨o,es,ep,t,e1,r⟩ kk=>{o,es,ep,t,kk o e1,r}}
def NF:fH X (.builtin "len") (λxs H Q=>∃(p:vm) (n:Nat),xs=[.ref p]/\H p=some (JG p n)/\n<=1000/\Q (.int n) H):=by
 intro pins s U H xs us Q I r h;let⟨p,n,rfl,hp,hn,q⟩:=h;let⟨u,rfl,rx⟩:=vals1 r;cases rx;let⟨⟨o,es,ep,t,ho,hex,hd,hf,rfl⟩,_⟩:=(show cD X.prog X.w H s.heap p (JG p n) from I.cx p _ hp)
 exact call_len_set ho hex hd hf () {.int _,H,I.tok _,{_,rfl},q}
end
noncomputable def R8:V->Bool
 | .bN=>true
 | .int _=>true
 | .str _=>true
 | _=>false
def HQ (h:R8 x=true):lV x=true:=by cases x <;> first | rfl | cases h
def Tg {x y:V} (a:R8 x=true) (b:R8 y=true):Rz x y=decide (x=y):=by
 cases x <;> first | cases a;done | skip
 all_goals (cases y <;> first | rfl | exact FR.symm | exact FP.symm | cases b)
def Xh (K:yx) (H:Hp) (a b:vm) (xs ys:List V):Prop:=(fi K H a xs/\fi K H b ys)\/(pQ K H a xs/\pQ K H b ys)
def W5 (xs ys:List V):Prop:=xs=[]\/ys=[]\/(xs.all R8=true/\ys.all R8=true)
inductive Wx (K:yx) (x y:V) (H:Hp) (Q:VK):Prop
 | mk (a b:vm) (xs ys:List V) (_:x=.ref a) (_:y=.ref b) (_:Xh K H a b xs ys) (_:W5 xs ys) (_:Q (.bl (decide (xs=ys))) H)
inductive Wv (K:yx) (x y:V) (H:Hp) (Q:VK):Prop
 | mk (a b:vm) (xs ys:List V) (_:x=.ref a) (_:y=.ref b) (_:Xh K H a b xs ys) (_:W5 xs ys) (_:Q (.bl (!decide (xs=ys))) H)
def LN (r:Vals xs its) (h:j<⇑its):∃x,xs[j]?=some x/\RelV x its[j]:=by
 let hl:=⇑r;let⟨u,hu,ru⟩:=r.get (i:=j) (x:=xs[j]'()) (zb ());rw[zb h] at hu;cases hu;exact{_,zb (),ru}
section
variable {X:Cx}
def FN (r:Vals xs its) (r':Vals ys jts) (p:W5 xs ys):∀j (h1:j<its.toArray.size) (h2:j<jts.toArray.size),SeqAt.EqAt A s its.toArray[j] jts.toArray[j] (decide (xs[j]?=ys[j]?)):=by
 intro j h1 h2;let h1':j<⇑its:=by simpa using h1
 let h2':j<⇑jts:=by simpa using h2
 let⟨x,ex,rx⟩:=LN r h1';let⟨y,ey,ry⟩:=LN r' h2';let l1:=⇑r;let l2:=⇑r';let hp:R8 x=true/\R8 y=true:=by
  rcases p with e | e | ⟨q1,q2⟩
  ·rw[e] at ex;simp at ex
  ·rw[e] at ey;simp at ey
  ·exact{ym.mp q1 x (zA ex),ym.mp q2 y (zA ey)}
 let g1:its.toArray[j]=its[j]:=by simp
 let g2:jts.toArray[j]=jts[j]:=by simp
 let z:=P7 (A:=A) (s:=s) rx ry (HQ hp.1) (HQ hp.2);rw[Tg hp.1 hp.2] at z;let e:decide (xs[j]?=ys[j]?)=decide (x=y):=by rw[ex,ey,xG];simp
 rw[g1,g2,e];exact z
def all_eq {xs ys:List V} (h:⇑xs=⇑ys):((List.range ⇑xs).all λj=>decide (xs[j]?=ys[j]?))=decide (xs=ys):=by
 rw[xG,ym,xy];constructor
 ·intro hh
  refine List.ext_getElem? λj=>?_;rcases xC j ⇑xs with hj | hj
  ·exact yb (hh j (yN.mpr hj))
  ·rw[wG hj,wG ()]
 ·intro hh j _
  rw[hh];exact ze rfl
def FF {xs ys:List V} (h:⇑xs≠⇑ys):decide (xs=ys)=false:=zd λe=>h (by rw[e])
def Fo (hu:X.A.units+64<cLine):nV X (compareOp .Eq) (Wx X.K):=by
 intro pins s U H x y v u Q I rx ry h;let⟨a,b,xs,ys,rfl,rfl,hs,pl,q⟩:=h;cases rx;cases ry;rcases hs with⟨ha,hb⟩ | ⟨ha,hb⟩
 ·let⟨its,r,p,_⟩:=I.list ha
  let⟨jts,r',p',_⟩:=I.list hb;let l1:=⇑r;let l2:=⇑r'
  by_cases hl:⇑xs=⇑ys
  ·let z:=SeqAt.RcAt.lists (A:=X.A) (s:=s) p.isList p'.isList (by rw[zZ,zZ];ext) () (FN r r' pl)
   rw[zZ,<-l1,all_eq hl] at z;exact z _ _ _ _ {.bl _,H,I,rfl,q}
  ·let z:=SeqAt.RcAt.lists_lengths (A:=X.A) (s:=s) p.isList p'.isList (by rw[zZ,zZ];simp;ext) ()
   rw[FF hl] at q;exact z _ _ _ _ {.bl false,H,I,rfl,q}
 ·let⟨its,r,p,_⟩:=I.tuple ha
  let⟨jts,r',p',_⟩:=I.tuple hb;let l1:=⇑r;let l2:=⇑r';let z:=SeqAt.RcAt.tuples (A:=X.A) (s:=s) p p' () (FN r r' pl);rw[zZ,zZ,<-l1,<-l2] at z
  by_cases hl:⇑xs=⇑ys
  ·let em:min ⇑xs ⇑ys=⇑xs:=()
   rw[em,all_eq hl,hl,x8,Bool.and_true] at z;exact z _ _ _ _ {.bl _,H,I,rfl,q}
  ·rw[show(⇑xs == ⇑ys)=false by simpa using hl,wB] at z
   rw[FF hl] at q;exact z _ _ _ _ {.bl false,H,I,rfl,q}
def sG (hu:X.A.units+64<cLine):nV X (compareOp .NotEq) (Wv X.K):=by
 intro pins s U H x y v u Q I rx ry h;let⟨a,b,xs,ys,rfl,rfl,hs,pl,q⟩:=h;cases rx;cases ry;rcases hs with⟨ha,hb⟩ | ⟨ha,hb⟩
 ·let⟨its,r,p,_⟩:=I.list ha
  let⟨jts,r',p',_⟩:=I.list hb;let l1:=⇑r;let l2:=⇑r'
  by_cases hl:⇑xs=⇑ys
  ·let z:=SeqAt.RcNeAt.lists (A:=X.A) (s:=s) p.isList p'.isList (by rw[zZ,zZ];ext) () (FN r r' pl)
   rw[zZ,<-l1,all_eq hl] at z;exact z _ _ _ _ {.bl _,H,I,rfl,q}
  ·let z:=SeqAt.RcNeAt.lists_lengths (A:=X.A) (s:=s) p.isList p'.isList (by rw[zZ,zZ];simp;ext) ()
   rw[FF hl] at q;exact z _ _ _ _ {.bl true,H,I,rfl,q}
 ·let⟨its,r,p,_⟩:=I.tuple ha
  let⟨jts,r',p',_⟩:=I.tuple hb;let l1:=⇑r;let l2:=⇑r';let z:=SeqAt.RcNeAt.tuples (A:=X.A) (s:=s) p p' () (FN r r' pl);rw[zZ,zZ,<-l1,<-l2] at z
  by_cases hl:⇑xs=⇑ys
  ·let em:min ⇑xs ⇑ys=⇑xs:=()
   rw[em,all_eq hl,hl,x8,Bool.and_true] at z;exact z _ _ _ _ {.bl _,H,I,rfl,q}
  ·rw[show(⇑xs == ⇑ys)=false by simpa using hl,wB] at z
   rw[FF hl] at q;exact z _ _ _ _ {.bl true,H,I,rfl,q}
def R5 (K:yx):V->Option Int->Option Int->Hp->VK->Prop:=λx lo hi H Q=>∃a xs,x=.ref a/\pQ K H a xs/\(HT.eZ ⇑xs 0 lo=0/\HT.eZ ⇑xs ⇑xs hi=⇑xs)/\Q (.ref a) H
def QP:Qs X (R5 X.K):=by
 intro pins s U H x v vl vu lo hi sl Q I rx hs pl pu h;let⟨a,xs,rfl,hx,hw,q⟩:=h;cases rx;let⟨its,r,ht,hz⟩:=I.tuple hx;let hlen:its.toArray.size=⇑xs:=by rw[zZ];exact r.length.symm
 refine{"tuple",_,xI.lookup,ht.typeIs,?_};rw[<-hlen] at hw;let⟨os,hos,hcs,hds⟩:=id hs;let hTs:s.TypeIs (.ref sl) "slice":={(os),hos,hcs}
 unfold getItem
 try with_reducible refine xD ?_
 first | refine yq (yt ?_) | skip
 refine yq (wpAny_sequenceKey ht.typeIs ∅ ?_);refine yq (yU (name:=Str.ofString "__getitem__") ht.typeIs xI
  (y3 xI ht.typeIs entry_tuple_getitem ?_ (args_tuple_getitem _ _)))
 show wpAny _ _ (Builtin.Tuple.tupleItemsOf (.ref a) >>= _) _ _ s;refine yq (tupleItemsOf_ ht ?_);refine yq (wW hTs ?_);rw[yK ∅];refine yq (HT.j8 hs pl pu ?_);show wpAny _ _ (if(((HT.eZ its.toArray.size 0 lo:Nat):Int) == 0&&(1:Int) == 1&&(HT.eZ its.toArray.size its.toArray.size hi-HT.eZ its.toArray.size 0 lo) == its.toArray.size)=true then _ else _) _ _ s;rw[yK (by rw[hw.1,hw.2];simp)];unfold Builtin.Tuple.tupleIsExact;refine yq ?_
 repeat (any_goals (first | assumption | exact⟨_,rfl,yt ⟨.ref a,H,I,rfl,q⟩⟩ | refine yq (wW ht.typeIs ?_) | wp_step))
def O2 (K:yx):V->Option Int->Option Int->Hp->VK->Prop:=λx lo hi H Q=>U0 K x lo hi H Q\/R5 K x lo hi H Q
def EW:Qs X (O2 X.K):=Qs.or S4 QP
def HM (K:yx):V->List V->Hp->VK->Prop:=λx vs H Q=>∃l b xs zs,x=.ref l/\vs=[.ref b]/\H l=some (.lst xs)/\H b=some (.tup zs)/\⇑xs+⇑zs<=sizeLine/\Q .bN (upd H l (.lst (xs++zs)))
def O3 (K:yx):V->List V->Hp->VK->Prop:=λx vs H Q=>LX x vs H Q\/HM K x vs H Q
def KI:Uo X "list.extend" (HM X.K):=by
 intro pins s U H x vs v us Q I rx rv h;let⟨l,b,xs,zs,rfl,rfl,hH,hB,hz,q⟩:=h;cases rx;let⟨u,rfl,ru⟩:=rv.one;cases ru;let⟨z,its,n,r,hl,e⟩:=I.Px hH;let⟨_,its2,r2,⟨oc,od,oda,osl⟩,ho,hoc,n2,hod⟩:=(show cD X.prog X.w H s.heap b (.tup zs) from I.cx b _ hB)
 let l1:=⇑r;let l2:=⇑r2;let hsz:its.toArray.size+its2.toArray.size<=sizeLine:=by rw[zZ,zZ];ext
 let hlong:¬(!its.toArray.isEmpty&&Builtin.List.listTooLong (its.toArray.size+its2.toArray.size))=true:=by
  rw[Il hsz,wB];exact zJ
 dsimp only at hoc hod;subst hoc hod;refine y3 F.slot_list_extend {_,e,rfl} F.entry_list_extend ?_ (F.args_list_extend_2 _ _);show wpAny _ _ (Builtin.List.listExtendWith (.ref l) (.ref b) .none) _ _ s;unfold Builtin.List.listExtendWith;refine yq (wW (T:="tuple") {_,ho,rfl} ?_);let ht:(Value.type "tuple"== Value.type "tuple")=true:=by rfl
 rw[yK (by rw[ht];simp)];refine yq (listItems_at ho rfl ?_);refine yq (listItems_at e rfl ?_);rw[yJ hlong];refine yq (listUpdate_at e rfl ?_ (by rw[zZ];ext) (by show(its.toArray++its2.toArray).size<=sizeLine+1;rw[Array.size_append];ext));refine yt {_,rfl,?_};refine{.bN,_,I.Rm (its':=its++its2) hH e (by simp) (r.append r2) ?_,rfl,q};rw[zg];ext
def pz:Uo X "list.extend" (O3 X.K):=by
 intro pins s U H x vs v us Q I rx rv h;rcases h with h | h
 ·exact MY pins s U H x vs v us Q I rx rv h
 ·exact KI pins s U H x vs v us Q I rx rv h
def Ln:fH X (.builtin "len") (λxs H Q=>∃p kvs,xs=[.ref p]/\H p=some (.dK kvs)/\Q (.int (⇑kvs:Nat)) H):=by
 intro pins s U H xs us Q I r h;let⟨p,kvs,rfl,hp,q⟩:=h;let⟨u,rfl,rx⟩:=vals1 r;cases rx;exact Vr I (.inl hp) λt s' I'=>{.int _,H,I',{_,rfl},q}
end
abbrev Wz (K:yx):List V->Hp->VK->Prop:=λxs H Q=>∃p ys,xs=[.ref p]/\(fi K H p ys\/pQ K H p ys)/\Q (.int ⇑ys) H
abbrev WA (K:yx):List V->Hp->VK->Prop:=λxs H Q=>∃(a:vm) (bs:List Bool),xs=[.ref a]/\fi K H a (bs.map V.bl)/\Q (.bl (bs.any id)) H
abbrev U2:List V->Hp->VK->Prop:=λxs H Q=>∃i,xs=[.int i]/\i.natAbs.log2<1920/\Q (.str (toString i)) H
abbrev Te (K:yx):List V->Hp->VK->Prop:=λxs H Q=>∃p ys,xs=[.ref p]/\((fi K H p ys/\∀l,H l=none->Q (.ref l) (upd H l (.tup ys)))\/(pQ K H p ys/\Q (.ref p) H))
noncomputable def MN (lo:Int) (n:Nat):List Int:=(List.range n).map λi=>lo+(i:Nat)
def SO (ta:TA):TE:=λU H Q=>ta U H λvs H1=>∃i j:Int,vs=[.int i,.int j]/\(-(2^62)<=i/\i<2^62/\-(2^62)<=j/\j<2^62)/\(j-i).toNat<=1000000/\∀l,H1 l=none->Q (.ref l) (upd H1 l (.lst ((MN i (j-i).toNat).map V.int)))
theorem LM:∀{xs:List V} {us:List vf},⇑xs=⇑us->(∀(i:Nat) (x:V) (u:vf),xs[i]?=some x->us[i]?=some u->RelV x u)->Vals xs us
 | [],[],_,_=>.nil
 | x::xs,u::us,h,k=>.cons (k 0 x u rfl rfl) (LM (by simpa using h) λi y v e e'=>k (i+1) y v (by simpa using e) (by simpa using e'))
 | [],_::_,h,_=>by simp at h
 | _::_,[],h,_=>by simp at h
section
variable {X:Cx}
def Pg (hc:X.calm=true) (hg0:Gl X "list") (hm0:X.mg "list"= none) (hg:Gl X "range") (hm:X.mg "range"= none) (ha:PA X [a,b] ta)
  (hs:starEach [a,b] X.env=[(false,eval a X.env),(false,eval b X.env)]<|>qe_) (hs2:starEach [b] X.env=[(false,eval b X.env)]<|>qe_)
  (hs1:starEach [.Call (.Name "range" p2) [a,b] [] pos2] X.env=[(false,eval (.Call (.Name "range" p2) [a,b] [] pos2) X.env)]<|>qe_) :
  PE X (.Call (.Name "list" p1) [.Call (.Name "range" p2) [a,b] [] pos2] [] pos1) (SO ta):=by
 intro pins s U H Q I h;refine xj (jM I hg0 hm0 (by decide +kernel:bootBuiltins "list"= some (.type "list")) ?_ ∅ ∅);refine yI (Q:=_) ?_ hs1 rfl;rw[hs1];refine wx ?_;refine Call_ (jM I hg hm boot_range (yI (cQ (ha s U H _ I h) λus s1 z0=>?_) (by rw[hs,hs2]) (by rw[hs2];rfl)));let⟨vs,H1,I1,r1,q1⟩:=z0;let⟨i,j,e,⟨q1,q2,q3,q4⟩,hz,q⟩:=q1;subst e;cases r1 with
 | cons r rr=>
  cases rr with
  | cons r' rr=>
   cases rr;let⟨t,rfl⟩:=r;let⟨t',rfl⟩:=r';refine call_range_2 ?_;refine vd ?_;let I2:Inv X pins U H1 {s1 with heap:=s1.heap.push {cls:=.type "range",data:=.fields #[.int i t,.int j t',.int 1 s1.toks]},toks:=s1.toks+1}:=I1.kept λb o e=>yr _ e;let hn:Builtin.Range.rangeSize i j 1=(((j-i).toNat:Nat):Int):=by rw[rangeSize_one];split <;> ext
   refine call_list_range (I2.ok.hd hc) (IsRange.new ..) (small_one q1 q2 q3 q4) hn (zK hz ∅) λh' tk acc c hk hS hit=>?_;let rv:Vals ((MN i (j-i).toNat).map V.int) acc.toList:=by
    refine LM ?_ ?_
    ·let e1:⇑acc.toList=(j-i).toNat:=by rw[yM];exact hit.1
     rw[za,e1];unfold MN;simp
    ·intro k x u hx hu
     rw[xb] at hu;let⟨tk',rfl⟩:=hit.2 k u hu;let hk':k<(j-i).toNat:=by
      have:=(Array.getElem?_eq_some_iff.mp hu).1;rw[hit.1] at this;exact this
     unfold MN at hx;rw[zz,zI,List.getElem?_range hk'] at hx;cases hx;exact{tk',by simp}
   let hl:H1 (s1.heap.push {cls:=.type "range",data:=.fields #[.int i t,.int j t',.int 1 s1.toks]}).objs.size=none:=I2.cx.fresh (zk _);refine{.ref _,_,I2.laid (t':=tk) hk (zk _) (show cD X.prog X.w _ h' _ (.lst ((MN i (j-i).toNat).map V.int)) from{?_,acc.toList,c,rv,?_}),rfl,q _ hl}
   ·rw[za]
    let sl:=yy;unfold MN;simp;ext
   ·simpa using hS
end
section
variable {prog:vh} {w:vi} {A:vj} {E:vf->vg->Prop} {s:vg}
end
def aF.Uu {t:Bool} {K:yx} {H H':Hp} {a:vm} {xs:List V} (e:aF H H') (h:LF t K H a xs):LF t K H' a xs:=by
 cases t
 ·exact e.seq h
 ·exact e.tup h
section
variable {X:Cx} {pins:List (vm×Obj)} {U:St}
end
end L2
namespace Sc
open PySem L2 Lm
noncomputable def mixed (c k:Int):Int:=(c%2305843009213693951+1)*(k*k+48271)*40692%2147483399
def dm (h0:0<=i) (h1:i<2^n):Sz n i:=by
 unfold Sz;let e:((2^n:Nat):Int)=(2:Int)^n:=by simp
 rw[<-e] at h1;ext
def T4 (h1:48<=c) (h2:c<=57):c∈("0123456789": Str).cps.toList:=by
 have:c=48\/c=49\/c=50\/c=51\/c=52\/c=53\/c=54\/c=55\/c=56\/c=57:=()
 rcases this with rfl | rfl | rfl | rfl | rfl | rfl | rfl | rfl | rfl | rfl <;> decide
noncomputable def ic (x:Int×Int):Str:=if x.2=1 then dec x.1 else dec x.1 ++"/" ++ dec x.2
abbrev Item:=Option (Int×Int)×(Int×Int)
noncomputable def pA:Item->Str
 | (none,x)=> "r:" ++ ic x
 | (some q,x)=>dec q.1 ++":" ++ dec q.2 ++":" ++ ic x
def QD (x:Int×Int):Prop:=Rd x/\0<x.1/\x.1<10000/\x.2<10000
def Qt (q:Int×Int):Prop:=-100<q.1/\q.1<100/\-100<q.2/\q.2<100/\(q.2-7*q.1)%12=0
def NX (it:Item):Prop:=QD it.2/\∀q,it.1=some q->Qt q
def fR (h1:c≠45) (h2:¬(48<=c/\c<=57)):c∉(dec n).cps.toList:=by
 intro z
 by_cases h0:0<=n
 ·let⟨m,rfl⟩:=yH h0
  exact h2 (km z)
 ·obtain⟨m,em⟩:∃m:Nat,-n=(m:Int):={(-n).toNat,()}
  rw[Aa (),em,cF] at z;rcases zE.mp z with z | z
  ·let e:("-": Str).cps.toList=[45]:=rfl
   rw[e] at z;exact h1 (zy.mp z)
  ·exact h2 (km z)
def DZ (h:QD x):58∉(ic x).cps.toList:=by
 unfold ic;split
 ·exact fR ∅ ∅
 ·rw[cF,cF]
  intro z;rcases zE.mp z with z | z
  ·rcases zE.mp z with z | z
   ·exact fR ∅ ∅ z
   ·let e:("/": Str).cps.toList=[47]:=rfl
    rw[e] at z;exact absurd (zy.mp z) ∅
  ·exact fR ∅ ∅ z
def IV (h0:0<=n) (h:n<10000):⇑(dec n)<=4:=by
 let⟨m,rfl⟩:=yH h0;exact El ∅ ()
abbrev gp (x:Int×Int):HO:=.tup [.int x.1,.int x.2]
inductive LH (H:Hp):V->Option (Int×Int)->Prop where
 | bN:LH H .bN none
 | ref {b:vm} {q:Int×Int}:H b=some (gp q)->LH H (.ref b) (some q)
def LH.mono (s:aF H H') (h:LH H v o):LH H' v o:=by
 cases h with
 | bN=>exact .bN
 | ref h=>exact .ref (s _ _ h)
def W7 (H:Hp) (v:V) (it:Item):Prop:=∃p pv a,v=.ref p/\H p=some (.tup [pv,.ref a])/\H a=some (gp it.2)/\LH H pv it.1
noncomputable def vw:List Nat:=("0123456789": Str).cps.toList
noncomputable def rn (most:Int) (cs:List Nat):Option Int:=
 if(⇑cs:Int)<1 then none else if most<⇑cs then none else if cs.all (λc=>decide (c∈vw))=true then(if cs[0]?=some 48/\1<⇑cs then none else some ((NumText.digitsVal cs:Nat):Int)) else none
noncomputable def ov:Option Int->V
 | none=>.bN
 | some n=>.int n
noncomputable def rs (most:Int) (t:Str):Option Int:=if t.cps.toList[0]?=some 45 then(match rn most (t.cps.toList.drop 1) with | some n=>if n=0 then none else some (-n) | none=>none) else rn most t.cps.toList
noncomputable def rp (a b:Str):Option (Int×Int):=match rs 2 a,rs 2 b with
 | some f,some h=>if(h-7*f)%12=0 then some (f,h) else none
 | _,_=>none
noncomputable def QA (t:Str):Option (Int×Int):=match Txt.split t "/" with
 | [a]=>(match rn 4 a.cps.toList with | some n=>some (red n 1) | none=>none)
 | [a,b]=>(match rn 4 a.cps.toList,rn 4 b.cps.toList with | some n,some m=>if m=0 then none else some (red n m) | _,_=>none)
 | _=>none
noncomputable def lr (t:Str):Option (Int×Int):=match QA t with
 | some x=>if x.1=0 then none else some x
 | none=>none
noncomputable def ir (t:Str):Option Item:=match lr ((Txt.split t ":").getLast?.getD "") with
 | none=>none
 | some x=>if(Txt.split t ":").dropLast=[("r": Str)] then some (none,x) else match (Txt.split t ":").dropLast with
  | [a,b]=>(match rp a b with | some q=>some (some q,x) | none=>none)
  | _=>none
def RV (H:Hp) (v:V):Option Item->Prop
 | none=>v=.bN
 | some it=>W7 H v it
def IK (h:c∈vw):48<=c/\c<=57:=by
 let e:vw=[48,49,50,51,52,53,54,55,56,57]:=rfl;rw[e] at h;simp at h;ext
def OU (h:rn most cs=some n) (hm:most<=4):0<=n/\n<10000/\(cs.all (λc=>decide (c∈vw))=true):=by
 unfold rn at h;split at h
 ·cases h
 ·split at h
  ·cases h
  ·split at h
   ·rename_i h1 h2 h3
    split at h
    ·cases h
    ·cases h
     refine{Int.natCast_nonneg _,?_,h3};let hl:⇑cs<=4:=()
     let key:∀(l:List Nat) (a:Nat),l.all (λc=>decide (c∈vw))=true->l.foldl (λacc c=>acc*10+(c-48)) a<(a+1)*10^⇑l:=by
      intro l
      induction l with
      | nil=>intro a _;simp
      | cons c l ih=>
       intro a ha;rw[wL,zM] at ha;let i3:=IK (yb ha.1);let i1:=ih (a*10+(c-48)) ha.2;let i2:(a*10+(c-48)+1)*10^⇑l<=((a+1)*10)*10^⇑l:=Nat.mul_le_mul_right _ ();rw[List.foldl_cons,zt,Nat.pow_succ,Nat.mul_comm (10^⇑l) 10,<-Nat.mul_assoc];exact z9 i1 i2
     let k1:NumText.digitsVal cs<10^⇑cs:=by have:=key cs 0 h3;rw[Nat.zero_add,Nat.one_mul] at this;exact this
     let k2:10^⇑cs<=10^4:=Nat.pow_le_pow_right ∅ hl;ext
   ·cases h
def Lp (h:cs.all (λc=>decide (c∈vw))=true):NumText.AllDigits cs:=λc hc=>by
 have:=(ym.mp h) c hc;exact IK (yb this)
inductive jn (vs:List V) (H:Hp) (Q:VK) (E:XK):Prop
 | mk (a b:Int) (_:vs=[.int a,.int b]) (_:0<=a) (_:0<=b) (_:Q (.int (Int.gcd a b:Nat)) H)
inductive fN (vs:List V) (H:Hp) (Q:VK) (E:XK):Prop
 | mk (t b:Int) (_:vs=[.int t,.int b]) (_:0<=t) (_:0<b) (_:Sz 8999 b) (_:∀p H',aF H H'->H' p=some (gp (red t b))->Q (.ref p) H')
inductive OK (vs:List V) (H:Hp) (Q:VK) (E:XK):Prop
 | mk (x y:Int×Int) (p q:vm) (n m:Nat) (_:vs=[.ref p,.ref q]) (_:H p=some (gp x)) (_:H q=some (gp y)) (_:Rd x) (_:Rd y) (_:Cp n x) (_:Cp m y) (_:n+m<=8999) (_:∀r H',aF H H'->H' r=some (gp (add x y))->Q (.ref r) H')
inductive J3 (vs:List V) (H:Hp) (Q:VK) (E:XK):Prop
 | mk (x y:Int×Int) (p q:vm) (_:vs=[.ref p,.ref q]) (_:H p=some (gp x)) (_:H q=some (gp y)) (_:Cp 8999 x) (_:Cp 8999 y) (_:Q (.bl (decide (x.1*y.2<y.1*x.2))) H)
inductive CC (vs:List V) (H:Hp) (Q:VK) (E:XK):Prop
 | mk (c k:Int) (_:vs=[.int c,.int k]) (_:0<=k) (_:k<1000000) (_:Q (.int (mixed c k)) H)
abbrev Av:Sp:=fN
inductive gL (vs:List V) (H:Hp) (Q:VK) (E:XK):Prop
 | mk (t:Str) (most:Int) (_:vs=[.str t,.int most]) (_:⇑t<=600) (_:∀H',aF H H'->Q (ov (rn most t.cps.toList)) H')
inductive lI (vs:List V) (H:Hp) (Q:VK) (E:XK):Prop
 | mk (t:Str) (most:Int) (_:vs=[.str t,.int most]) (_:⇑t<=600) (_:∀H',aF H H'->Q (ov (rs most t)) H')
inductive mD (vs:List V) (H:Hp) (Q:VK) (E:XK):Prop
 | mk (a b:Str) (_:vs=[.str a,.str b]) (_:⇑a<=600) (_:⇑b<=600) (_:∀v H',aF H H'->LH H' v (rp a b)->Q v H')
def lH (C:vm):Sp:=λvs H Q E=>∃(t:Str),vs=[.str t]/\⇑t<=600/\(∀x,QA t=some x->∀p H',aF H H'->H' p=some (gp x)->Q (.ref p) H')/\(QA t=none->∀H',aF H H'->E (.ref C) none H')
def gE:Sp:=λvs H Q _=>∃(t:Str),vs=[.str t]/\⇑t<=600/\∀v H',aF H H'->LH H' v (lr t)->Q v H'
def ou:Sp:=λvs H Q _=>∃(t:Str),vs=[.str t]/\⇑t<=600/\∀v H',aF H H'->RV H' v (ir t)->Q v H'
noncomputable def dL (x:Int×Int):Dt:=.tup [.int x.1,.int x.2]
noncomputable def dO (f:α->Dt):Option α->Dt
 | none=>.bN
 | some x=>f x
noncomputable def dN (it:Item):Dt:=.tup [dO dL it.1,dL it.2]
noncomputable def ui (l:List Int):Dt:=.tup (l.map .int)
noncomputable def lW (l:List Str):Dt:=.tup (l.map .str)
abbrev End:=Int×List Int
noncomputable def mj (e:End):Dt:=.tup [.int e.1,ui e.2]
structure Rep where
 first:Int
 last:Int
 times:Int
 ends:List End
noncomputable def i6 (r:Rep):Dt:=.tup [.int r.first,.int r.last,.int r.times,.tup (r.ends.map mj)]
structure N2 where
 aP:Int×Int
 key:Int
 marks:List Str
noncomputable def ji (b:N2):Dt:=.tup [dL b.aP,.int b.key,lW b.marks]
structure Jump where
 vq:Int
 Bm:Int
 dn:Int
 fJ:Option Int
noncomputable def i7 (j:Jump):Dt:=.tup [.int j.vq,.int j.Bm,.int j.dn,dO .int j.fJ]
noncomputable def words (t:Str):List Str:=(Txt.split t " ").filter λw=>decide (w≠ "")
noncomputable def sgn:List Nat:=("abcdefghijklmnopqrstuvwxyz0123456789": Str).cps.toList
noncomputable def cI (t:Str):Option Str:=if(⇑t:Int)<1 then none else if(12:Int)<⇑t then none else if t.cps.toList.all (λc=>decide (c∈sgn))=true then some t else none
noncomputable def os:Option Str->V
 | none=>.bN
 | some x=>.str x
noncomputable def fu (t:Str):Option Int:=rn 3 t.cps.toList
noncomputable def lN (t:Str) (lo hi:Int):Option Int:=match fu t with
 | some n=>if n<lo then none else if hi<n then none else some n
 | none=>none
noncomputable def AR (a b:Str):Option (Int×Int):=match rp a b with
 | some q=>if 12<(if q.1<0 then -q.1 else q.1) then none else some q
 | none=>none
noncomputable def Dv:List Int:=[1,2,4,8,16,32]
noncomputable def iQ (t:Str):Option (Int×Int):=match Txt.split t "/" with
 | [a,b]=>(match lN a 1 32,fu b with | some m,some n=>if n∈Dv then some (m,n) else none | _,_=>none)
 | _=>none
noncomputable def HI (t:Str):Option Int:=match rs 3 t with
 | some k=>if 7<(if k<0 then -k else k) then none else some k
 | none=>none
noncomputable def m6:List (Option α)->Option (List α)
 | []=>some []
 | none::_=>none
 | some x::r=>match m6 r with
  | some l=>some (x::l)
  | none=>none
noncomputable def AU (t:Str):Option End:=match Txt.split t ":" with
 | [a,b]=>(match fu a,m6 ((Txt.split b ",").map fu) with | some n,some ps=>some (n,ps) | _,_=>none)
 | _=>none
noncomputable def mJ:List Str->Option (Str×(Int×Int)×(Int×Int))
 | [a,b,c,d]=>(match cI a,AR b c,QA d with | some n,some t,some l=>some (n,t,l) | _,_,_=>none)
 | _=>none
noncomputable def sC (ws:List Str):Option (Str×List Str):=match ws with
 | a::b::r=>(match m6 ((a::b::r).map cI) with | some (n::ps)=>some (n,ps) | _=>none)
 | _=>none
noncomputable def Fj:List Str->Option N2
 | m::k::ms=>(match m6 (ms.map cI) with | some l=>(match iQ m,HI k with | some x,some y=>some {(x),y,l} | _,_=>none) | none=>none)
 | _=>none
noncomputable def tX:List Str->Option (Str×Int×Str)
 | [a,b,c]=>(match cI a,fu b,cI c with | some x,some y,some z=>some (x,y,z) | _,_,_=>none)
 | _=>none
noncomputable def kK:List Str->Option (Int×Str×List Item)
 | b::p::i::r=>(match m6 ((i::r).map ir) with | some l=>if l.all (λit=>it.1.isNone)=true then none else(match fu b,cI p with | some x,some y=>some (x,y,l) | _,_=>none) | none=>none)
 | _=>none
noncomputable def kJ:List Str->Option Rep
 | a::b::c::r=>(match m6 (r.map AU) with | some l=>(match fu a,fu b,lN c 2 9 with | some x,some y,some z=>some {(x),y,z,l} | _,_,_=>none) | none=>none)
 | _=>none
noncomputable def A1:List Str->Option Jump
 | [a,b,c,d]=>(match fu a,fu b,fu c with | some x,some y,some z=>(match fu d with | some n=>some {x,y,z,some n} | none=>if d ="end" then some {(x),y,z,none} else none) | _,_,_=>none)
 | _=>none
noncomputable def one (f:Str->Option α):List Str->Option α
 | [w]=>f w
 | _=>none
inductive Told where
 | bO (n:Str)
 | cJ (n:Str) (t l:Int×Int)
 | cR (n:Str) (ps:List Str)
 | bar (b:N2)
 | aK (l:Int×Int)
 | holds (p:Str) (b:Int) (i:Str)
 | aI (b:Int) (p:Str) (its:List Item)
 | rep (r:Rep)
 | bU (j:Jump)
noncomputable def nA:List Str->Option Told
 | []=>none
 | w::r=>
  if w ="player" then(one cI r).map .bO
  else if w ="instrument" then(mJ r).map λx=>.cJ x.1 x.2.1 x.2.2
  else if w ="staff" then(sC r).map λx=>.cR x.1 x.2
  else if w ="bar" then(Fj r).map .bar
  else if w ="upbeat" then(one lr r).map .aK
  else if w ="holds" then(tX r).map λx=>.holds x.1 x.2.1 x.2.2
  else if w ="notes" then(kK r).map λx=>.aI x.1 x.2.1 x.2.2
  else if w ="repeat" then(kJ r).map .rep
  else if w ="jump" then(A1 r).map .bU
  else none
noncomputable def i4 (r:Rep):List (Int×Int×List Int):=(r.ends.zip ((r.ends.drop 1).map (·.1)++[r.last+1])).map λp=>(p.1.1,p.2-1,p.1.2)
noncomputable def sortI (l:List Int):List Int:=l.mergeSort
noncomputable def fP:List End->Int->List Int->Option (Int×List Int)
 | [],a,ps=>some (a,ps)
 | e::r,a,ps=>if e.1<=a then none else if e.2≠sortI e.2 then none else fP r e.1 (ps++e.2)
noncomputable def MO (lo:Int) (n:Nat):List Int:=(List.range n).map λi=>lo+(i:Nat)
noncomputable def fQ (r:Rep):Bool:=match r.ends with
 | []=>true
 | _=>(match fP r.ends (r.first-1) [] with | none=>false | some (a,ps)=>decide (a<=r.last)&&decide (sortI ps=MO 1 (r.times+1-1).toNat))
noncomputable def kE (rs:List Rep) (r:Rep):Bool:=match rs.getLast? with
 | some q=>if r.first<=q.last then false else decide (r.first<=r.last)&&fQ r
 | none=>decide (r.first<=r.last)&&fQ r
noncomputable def dC (rs:List Rep) (b:Int):Option Rep:=rs.find? λr=>decide (r.first<=b)&&decide (b<=r.last)
noncomputable def gH (rs:List Rep) (b:Int):Bool:=match dC rs b with
 | none=>true
 | some r=>decide (b=r.last)
noncomputable def d8 (rs:List Rep) (b:Int):Bool:=match dC rs b with
 | none=>true
 | some r=>decide (b=r.first)
noncomputable def kW (rs:List Rep) (b:Int):Bool:=rs.all λr=>(i4 r).all λe=>!(decide (e.1<=b)&&decide (b<=e.2.1)&&!decide (r.times∈e.2.2))
noncomputable def gI (rs:List Rep) (j:Jump):Bool:=
 if j.dn<j.Bm then false else if j.vq<j.dn then false else
 match j.fJ with
 | some c=>(decide (j.vq<c)&&d8 rs c&&kW rs c)&&(gH rs j.vq&&d8 rs j.Bm&&kW rs j.dn)
 | none=>gH rs j.vq&&d8 rs j.Bm&&kW rs j.dn
structure cg where
 az:List Str:=[]
 aq:List (Str×(Int×Int)×(Int×Int)):=[]
 aM:List (Str×List Str):=[]
 aN:List N2:=[]
 aK:Option (Int×Int):=none
 holds:List (Str×List (Int×Str)):=[]
 aI:List ((Int×Str)×List Item):=[]
 aH:List Rep:=[]
 bU:Option Jump:=none
noncomputable def cg.aP (S:cg) (b:Nat):Int×Int:=match S.aN[b]? with
 | some x=>red x.aP.1 x.aP.2
 | none=>(0,1)
noncomputable def cg.len (S:cg) (b:Nat):Int×Int:=match S.aK with
 | some u=>if b=0 then u else S.aP b
 | none=>S.aP b
noncomputable def jJ (l:List Item):Int×Int:=l.foldl (λt it=>add t it.2) (0,1)
noncomputable def cg.has (S:cg) (bs:List Int):Bool:=bs.all λb=>decide (b<⇑S.aN)
noncomputable def bY (S:cg):Told->Option Str
 | .bO n=>if n∈S.az then some "twice" else if 12<=⇑S.az then some "many" else none
 | .cJ n _ _=>if n∈S.aq.map (·.1) then some "twice" else if 12<=⇑S.aq then some "many" else none
 | .cR n ps=>if n∈S.aM.map (·.1) then some "twice" else if¬ps.Nodup then some "twice" else if S.aM.any (λq=>ps.any λp=>decide (p∈q.2))=true then some "twice" else if ps.any (λp=>!decide (p∈S.az))=true then some "name" else none
 | .bar _=>if 200<=⇑S.aN then some "many" else none
 | .aK l=>if S.aK.isSome=true then some "twice" else if ⇑S.aN=0 then some "bar" else if¬l.1*(S.aP 0).2<(S.aP 0).1*l.2 then some "length" else if S.aI.any (λp=>decide (p.1.1=0))=true then some "length" else none
 | .holds p b i=>
  let hs:=(S.holds.lookup p).getD []
  if(match hs.getLast? with | some q=>decide (b<=q.1) | none=>false)=true then some "twice" else if p∉S.az then some "name" else if i∉S.aq.map (·.1) then some "name" else if¬S.has [b]=true then some "bar" else if 20<=⇑hs then some "many" else none
 | .aI b p its=>if(b,p)∈S.aI.map (·.1) then some "twice" else if p∉S.az then some "name" else if¬S.has [b]=true then some "bar" else if jJ its≠S.len b.toNat then some "length" else if 40<⇑its then some "many" else none
 | .rep r=>if¬S.has ([r.first,r.last]++r.ends.map (·.1))=true then some "bar" else if S.bU.isSome=true then some "form" else if¬kE S.aH r=true then some "form" else if 20<=⇑S.aH then some "many" else none
 | .bU j=>if S.bU.isSome=true then some "twice" else if¬S.has ([j.vq,j.Bm,j.dn]++j.fJ.toList)=true then some "bar" else if¬gI S.aH j=true then some "form" else none
noncomputable def eU (hs:List (Str×List (Int×Str))) (p:Str) (h:Int×Str):List (Str×List (Int×Str)):=
 if p∈hs.map (·.1) then hs.map λq=>if q.1=p then(q.1,q.2++[h]) else q else hs++[(p,[h])]
noncomputable def bS (S:cg):Told->cg
 | .bO n=>{S with az:=S.az++[n]}
 | .cJ n t l=>{S with aq:=S.aq++[(n,t,l)]}
 | .cR n ps=>{S with aM:=S.aM++[(n,ps)]}
 | .bar b=>{S with aN:=S.aN++[b]}
 | .aK l=>{S with aK:=some l}
 | .holds p b i=>{S with holds:=eU S.holds p (b,i)}
 | .aI b p its=>{S with aI:=S.aI++[((b,p),its)]}
 | .rep r=>{S with aH:=S.aH++[r]}
 | .bU j=>{S with bU:=some j}
theorem cX (h:Is H d v):∀{ds:List Dt} {vs:List V},aC H ds vs->aC H (ds++[d]) (vs++[v])
 | [],_,q=>by unfold aC at q;subst q;show aC H [d] [v];unfold aC;exact{v,[],rfl,h,by unfold aC;rfl}
 | c::ds,_,q=>by
  unfold aC at q;let⟨u,r,rfl,h1,h2⟩:=q;show aC H (c::(ds++[d])) (u::(r++[v]));unfold aC;exact{u,_,rfl,h1,cX h h2}
def Eg (h:fi K H p xs) (hi:i<⇑xs):(JN K p).go i H:={xs,xs[i],h,zb hi}
def KS (h:pQ K H p xs) (hi:i<⇑xs):(Ss K p).go i H:={xs,xs[i],h,zb hi}
def iE (e:aF H H') (h:H a=some (.tup xs)):pQ K H' a xs:=bu (e _ _ h)
theorem _root_.L2.aF.back (s:aF H H') (h:H' a=none):H a=none:=by
 cases q:H a with
 | none=>rfl
 | some u=>rw[s _ _ q] at h;cases h
def mY {α:Type} {J:It} {ws:List α} {enc:α->V} {U₀:St} {g:TG} {te:TE} {Q:VK} {H1:Hp} (F:α->Dt) (Pσ:St->Prop) (hn:⇑ws<=sizeLine) (h0:Pσ U₀)
  (go:∀i H,i<⇑ws->aF H1 H->J.go i H) (stop:∀H,aF H1 H->J.stop ⇑ws H) (yl:∀(i:Nat) x H H2 (hi:i<⇑ws),aF H1 H->J.JP i H x H2->H2=H/\x=enc ws[i])
  (turn:∀(a:α) (U:St) (H:Hp) (R:St->V->Hp->Prop),a∈ws->aF H1 H->Pσ U->(∀σ3 y H5,aF H H5->Is H5 (F a) y->Pσ σ3->R σ3 y H5)->g (enc a) U H λσ3 H3=>te σ3 H3 λy H5=>R σ3 y H5)
  (fin:∀D vs H,aF H1 H->H1 D=none->H D=some (.lst vs)->aC H (ws.map F) vs->Q (.ref D) H):dg U₀ g pT te Q J H1:=by
 refine{λi m xs U H=>m=⇑ws-i/\i<=⇑ws/\⇑xs=i/\aF H1 H/\aC H ((ws.take i).map F) xs/\Pσ U,{_,rfl,yd _,rfl,aD _,by simp[aC],h0},?_};rintro i m xs U H ⟨rfl,hi,hx,sm,il,pσ⟩;rcases xC i ⇑ws with hlt | hge
 ·refine .inr {go i H hlt sm,(),?_}
  intro x H2 hy;let⟨rfl,rfl⟩:=yl i x H H2 hlt sm hy;refine turn ws[i] U H2 (λσ3 y H5=>if true=true then∃m',m'<⇑ws-i/\(m'=⇑ws-(i+1)/\i+1<=⇑ws/\⇑(xs++[y])=i+1/\aF H1 H5/\aC H5 ((ws.take (i+1)).map F) (xs++[y])/\Pσ σ3) else False) (yi hlt) sm pσ ?_;rintro σ3 y H5 s5 iy p3;rw[yK rfl];refine{_,(),rfl,hlt,by simp[hx],sm.trans s5,?_,p3};rw[xn,zb hlt,zj];exact cX iy (il.mono s5)
 ·let e:i=⇑ws:=()
  subst e;refine .inl {stop H sm,(),λD hD=>?_};let il':aC H (ws.map F) xs:=by rw[zL] at il;exact il
  exact fin D xs _ (sm.trans (bz hD)) (sm.back hD) aE (il'.mono (bz hD))
def BU {α:Type} {J:It} {ws:List α} {enc:α->V} {U₀:St} {g:TG} {te:TE} {Q:VK} {H1:Hp} (F:α->Dt) (Pσ:St->Prop) (hn:⇑ws<=sizeLine) (h0:Pσ U₀)
  (go:∀i H,i<⇑ws->aF H1 H->J.go i H) (stop:∀H,aF H1 H->J.stop ⇑ws H) (yl:∀(i:Nat) x H H2 (hi:i<⇑ws),aF H1 H->J.JP i H x H2->H2=H/\x=enc ws[i])
  (turn:∀(a:α) (U:St) (H:Hp) (R:St->V->Hp->Prop),a∈ws->aF H1 H->Pσ U->(∀σ3 y H5,aF H H5->Is H5 (F a) y->Pσ σ3->R σ3 y H5)->g (enc a) U H λσ3 H3=>te σ3 H3 λy H5=>R σ3 y H5)
  (fin:∀D vs H,aF H1 H->H D=some (.lst vs)->aC H (ws.map F) vs->Q (.ref D) H):dg U₀ g pT te Q J H1:=mY F Pσ hn h0 go stop yl turn λD vs H s _=>fin D vs H s
def dW {K:yx} {α:Type} {p:vm} {ws:List α} {enc:α->V} {U₀:St} {g:TG} {te:TE} {Q:VK} {H1:Hp} (F:α->Dt) (Pσ:St->Prop) (hn:⇑ws<=sizeLine) (hp:fi K H1 p (ws.map enc)) (h0:Pσ U₀)
  (turn:∀(a:α) (U:St) (H:Hp) (R:St->V->Hp->Prop),a∈ws->aF H1 H->Pσ U->(∀σ3 y H5,aF H H5->Is H5 (F a) y->Pσ σ3->R σ3 y H5)->g (enc a) U H λσ3 H3=>te σ3 H3 λy H5=>R σ3 y H5)
  (fin:∀D vs H,aF H1 H->H1 D=none->H D=some (.lst vs)->aC H (ws.map F) vs->Q (.ref D) H):dg U₀ g pT te Q (JN K p) H1:=by
 refine mY F Pσ hn h0 (λi H hi sm=>Eg (sm.seq hp) (by rw[za];exact hi)) (λH sm=>{_,sm.seq hp,by rw[za];exact zk _}) ?_ turn fin;rintro i x H H2 hi sm ⟨rfl,hy⟩;let hx':=hy _ (sm.seq hp);rw[zI,zb hi] at hx';cases hx';exact{(rfl),rfl}
def fF {K:yx} {α:Type} {p:vm} {ws:List α} {enc:α->V} {U₀:St} {g:TG} {te:TE} {Q:VK} {H1:Hp} (F:α->Dt) (Pσ:St->Prop) (hn:⇑ws<=sizeLine) (hp:fi K H1 p (ws.map enc)) (h0:Pσ U₀)
  (turn:∀(a:α) (U:St) (H:Hp) (R:St->V->Hp->Prop),a∈ws->aF H1 H->Pσ U->(∀σ3 y H5,aF H H5->Is H5 (F a) y->Pσ σ3->R σ3 y H5)->g (enc a) U H λσ3 H3=>te σ3 H3 λy H5=>R σ3 y H5)
  (fin:∀D vs H,aF H1 H->H D=some (.lst vs)->aC H (ws.map F) vs->Q (.ref D) H):dg U₀ g pT te Q (JN K p) H1:=by
 refine BU F Pσ hn h0 (λi H hi sm=>Eg (sm.seq hp) (by rw[za];exact hi)) (λH sm=>{_,sm.seq hp,by rw[za];exact zk _}) ?_ turn fin;rintro i x H H2 hi sm ⟨rfl,hy⟩;let hx':=hy _ (sm.seq hp);rw[zI,zb hi] at hx';cases hx';exact{(rfl),rfl}
def fm {K:yx} {α:Type} {p:vm} {ws:List α} {enc:α->V} {U₀:St} {g:TG} {te:TE} {Q:VK} {H1:Hp} (F:α->Dt) (Pσ:St->Prop) (hn:⇑ws<=sizeLine) (hp:H1 p=some (.tup (ws.map enc))) (h0:Pσ U₀)
  (turn:∀(a:α) (U:St) (H:Hp) (R:St->V->Hp->Prop),a∈ws->aF H1 H->Pσ U->(∀σ3 y H5,aF H H5->Is H5 (F a) y->Pσ σ3->R σ3 y H5)->g (enc a) U H λσ3 H3=>te σ3 H3 λy H5=>R σ3 y H5)
  (fin:∀D vs H,aF H1 H->H D=some (.lst vs)->aC H (ws.map F) vs->Q (.ref D) H):dg U₀ g pT te Q (Ss K p) H1:=by
 refine BU F Pσ hn h0 (λi H hi sm=>KS (iE sm hp) (by rw[za];exact hi)) (λH sm=>{_,iE sm hp,by rw[za];exact zk _}) ?_ turn fin;rintro i x H H2 hi sm ⟨rfl,hy⟩;let hx':=hy _ (iE sm hp);rw[zI,zb hi] at hx';cases hx';exact{(rfl),rfl}
noncomputable def gc (v:V):Bool:=decide (v=.bN)
noncomputable def Dt.gc:Dt->Bool
 | .bN=>true
 | _=>false
def PM:∀{d:Dt} {v:V},Is H d v->gc v=Dt.gc d
 | .bN,_,h=>by unfold Is at h;subst h;rfl
 | .bl _,_,h=>by unfold Is at h;subst h;rfl
 | .int _,_,h=>by unfold Is at h;subst h;rfl
 | .str _,_,h=>by unfold Is at h;subst h;rfl
 | .tup _,_,h=>by unfold Is at h;let⟨a,vs,rfl,_⟩:=h;rfl
theorem jE:∀{ds:List Dt} {vs:List V},aC H ds vs->vs.any gc=ds.any Dt.gc
 | [],_,h=>by unfold aC at h;subst h;rfl
 | d::ds,_,h=>by
  unfold aC at h;let⟨v,r,rfl,h1,h2⟩:=h;rw[xk,xk,PM h1,jE h2]
theorem jN:∀{bs:List Bool} {vs:List V},aC H (bs.map Dt.bl) vs->vs=bs.map V.bl
 | [],_,h=>by unfold aC at h;exact h
 | b::bs,_,h=>by
  rw[zh] at h;unfold aC at h;let⟨v,r,rfl,h1,h2⟩:=h;unfold Is at h1;rw[h1,jN h2];rfl
theorem dG:∀{bs:List Str} {vs:List V},aC H (bs.map Dt.str) vs->vs=bs.map V.str
 | [],_,h=>by unfold aC at h;exact h
 | b::bs,_,h=>by
  rw[zh] at h;unfold aC at h;let⟨v,r,rfl,h1,h2⟩:=h;unfold Is at h1;rw[h1,dG h2];rfl
theorem eD:∀{bs:List Int} {vs:List V},aC H (bs.map Dt.int) vs->vs=bs.map V.int
 | [],_,h=>by unfold aC at h;exact h
 | b::bs,_,h=>by
  rw[zh] at h;unfold aC at h;let⟨v,r,rfl,h1,h2⟩:=h;unfold Is at h1;rw[h1,eD h2];rfl
theorem EF:∀{bs:List Str},aC H (bs.map Dt.str) (bs.map V.str)
 | []=>by simp[aC]
 | b::bs=>by rw[zh,zh];unfold aC;exact{_,_,rfl,by unfold Is;rfl,EF}
theorem qQ:∀{bs:List Int},aC H (bs.map Dt.int) (bs.map V.int)
 | []=>by simp[aC]
 | b::bs=>by rw[zh,zh];unfold aC;exact{_,_,rfl,by unfold Is;rfl,qQ}
def LJ (d:α->Dt):Prop:=∀a,Dt.gc (d a)=false
theorem iO {α:Type} {d:α->Dt} (f:LJ d):∀{l:List (Option α)},(l.map (dO d)).any Dt.gc=true->m6 l=none
 | [],h=>by cases h
 | none::_,_=>rfl
 | some x::r,h=>by
  rw[zh,xk] at h;let e:Dt.gc (dO d (some x))=false:=f x;rw[e,Bool.false_or] at h;show(match m6 r with | some l=>some (x::l) | none=>none)=none;rw[iO f h]
theorem iM:∀{l:List (Option α)},(l.map (dO d)).any Dt.gc=false->∃xs,m6 l=some xs/\l.map (dO d)=xs.map d/\⇑xs=⇑l
 | [],_=>{[],rfl,rfl,rfl}
 | none::_,h=>by cases h
 | some x::r,h=>by
  rw[zh,xk,Bool.or_eq_false_iff] at h;let⟨xs,e1,e2,e3⟩:=iM h.2;refine{x::xs,?_,?_,by simp[e3]}
  ·show(match m6 r with | some l=>some (x::l) | none=>none)=_
   rw[e1]
  ·rw[zh,zh,e2];rfl
def IH:LJ Dt.str:=λ_=>rfl
def P2:LJ Dt.int:=λ_=>rfl
def T3:LJ dL:=λ_=>rfl
def P4:LJ mj:=λ_=>rfl
def Nc:LJ dN:=λ_=>rfl
def Bp (h:LH H v o):Is H (dO dL o) v:=by
 cases h with
 | bN=>unfold dO Is;rfl
 | ref h=>exact ig h
def dP (h:Is H (dO dL o) v):LH H v o:=by
 cases o with
 | none=>unfold dO Is at h;subst h;exact .bN
 | some q=>
  unfold dO dL Is at h;let⟨a,vs,rfl,ha,hl⟩:=h;let e:[Dt.int q.1,Dt.int q.2]=[q.1,q.2].map Dt.int:=rfl;rw[e] at hl;rw[eD hl] at ha;exact .ref ha
def Bq (o:Option Int):Is H (dO .int o) (ov o):=by cases o <;> (unfold dO Is;rfl)
def Eb (o:Option Str):Is H (dO .str o) (os o):=by cases o <;> (unfold dO Is;rfl)
def Vd (h:RV H v o):Is H (dO dN o) v:=by
 cases o with
 | none=>unfold dO Is;exact h
 | some it=>
  let⟨p,pv,a,rfl,h1,h2,h3⟩:=h;unfold dO dN;unfold Is;refine{p,_,rfl,h1,?_};unfold aC;refine{_,_,rfl,Bp h3,?_};unfold aC;exact{_,_,rfl,ig h2,by unfold aC;rfl}
def G1:Sp:=λvs H Q _=>∃(t:Str),vs=[.str t]/\⇑t<=1000000/\∀p H',aF H H'->H' p=some (.lst ((words t).map V.str))->Q (.ref p) H'
def kA:Sp:=λvs H Q _=>∃(t:Str),vs=[.str t]/\⇑t<=600/\∀H',aF H H'->Q (os (cI t)) H'
def jK:Sp:=λvs H Q _=>∃(t:Str),vs=[.str t]/\⇑t<=600/\∀H',aF H H'->Q (ov (fu t)) H'
inductive Au (vs:List V) (H:Hp) (Q:VK) (E:XK):Prop
 | mk (t:Str) (lo hi:Int) (_:vs=[.str t,.int lo,.int hi]) (_:⇑t<=600) (_:∀H',aF H H'->Q (ov (lN t lo hi)) H')
def EM:Sp:=λvs H Q _=>∃(t:Str),vs=[.str t]/\⇑t<=600/\∀v H',aF H H'->LH H' v (QA t)->Q v H'
inductive EL (vs:List V) (H:Hp) (Q:VK) (E:XK):Prop
 | mk (a b:Str) (_:vs=[.str a,.str b]) (_:⇑a<=600) (_:⇑b<=600) (_:∀v H',aF H H'->LH H' v (AR a b)->Q v H')
def Cv (K:yx):Sp:=λvs H Q _=>∃(t:Str),vs=[.str t]/\⇑t<=600/\∀v H',aF H H'->LH H' v (iQ t)->Q v H'
def G5:Sp:=λvs H Q _=>∃(t:Str),vs=[.str t]/\⇑t<=600/\∀H',aF H H'->Q (ov (HI t)) H'
inductive Cz (K:yx) (vs:List V) (H:Hp) (Q:VK) (E:XK):Prop
 | mk (a:vm) (us:List V) (_:vs=[.ref a]) (_:fi K H a us) (_:⇑us<=1000000) (_:∀H',aF H H'->Q (if us.any gc=true then .bN else .ref a) H')
inductive Cy (vs:List V) (H:Hp) (Q:VK) (E:XK):Prop
 | mk (a:vm) (us:List V) (_:vs=[.ref a]) (_:H a=some (.tup us)) (_:⇑us<=1000000) (_:∀H',aF H H'->Q (if us.any gc=true then .bN else .ref a) H')
def tQ:Sp:=λvs H Q _=>∃(t:Str),vs=[.str t]/\⇑t<=600/\∀v H',aF H H'->Is H' (dO mj (AU t)) v->Q v H'
inductive fM (K:yx) (D:Hp->Hp->V->List Str->Prop) (vs:List V) (H:Hp) (Q:VK) (E:XK):Prop
 | mk (p:vm) (ws:List Str) (_:vs=[.ref p]) (_:fi K H p (ws.map V.str)) (_:⇑ws<=1000000) (_:(∀x∈ws,⇑x<=600)) (_:∀v H',aF H H'->D H H' v ws->Q v H')
noncomputable def eC (x:Str×(Int×Int)×(Int×Int)):Dt:=.tup [.str x.1,dL x.2.1,dL x.2.2]
noncomputable def kZ (x:Str×List Str):Dt:=.tup [.str x.1,lW x.2]
noncomputable def uj (x:Str×Int×Str):Dt:=.tup [.str x.1,.int x.2.1,.str x.2.2]
def Mo (H:Hp) (v:V) (x:Int×Str×List Item):Prop:=∃a q vs,v=.ref a/\H a=some (.tup [.int x.1,.str x.2.1,.ref q])/\H q=some (.lst vs)/\aC H (x.2.2.map dN) vs
def iD (H0 H:Hp) (v:V) (x:Int×Str×List Item):Prop:=∃a q vs,v=.ref a/\H a=some (.tup [.int x.1,.str x.2.1,.ref q])/\H q=some (.lst vs)/\aC H (x.2.2.map dN) vs/\H0 q=none
def iD.at (h:iD H0 H v x):Mo H v x:=by
 let⟨a,q,vs,h1,h2,h3,h4,_⟩:=h;exact{(a),q,vs,h1,h2,h3,h4}
theorem iD.back (s:aF H00 H0) (h:iD H0 H v x):iD H00 H v x:=by
 let⟨a,q,vs,h1,h2,h3,h4,h5⟩:=h;exact{a,q,vs,h1,h2,h3,h4,s.back h5}
def oC (d:α->Dt) (f:List Str->Option α) (_ H:Hp) (v:V) (ws:List Str):Prop:=Is H (dO d (f ws)) v
def Vv (H0 H:Hp) (v:V) (ws:List Str):Prop:=match kK ws with
 | none=>v=.bN
 | some x=>iD H0 H v x
def mV (h:Is H d v):aC H [d] [v]:=by unfold aC;exact{_,_,rfl,h,by unfold aC;rfl}
def aU (h:Is H d v) (r:aC H ds vs):aC H (d::ds) (v::vs):=by unfold aC;exact{_,_,rfl,h,r}
def c9:aC H [] []:=by unfold aC;rfl
def cO (h:H a=some (.tup vs)) (r:aC H ds vs):Is H (.tup ds) (.ref a):=by unfold Is;exact{_,_,rfl,h,r}
def eW:Is H (.str x) (.str x):=by unfold Is;rfl
def cH:Is H (.int x) (.int x):=by unfold Is;rfl
def dU:Is H .bN .bN:=by unfold Is;rfl
def iK (xs:List V) (k:Nat):ko xs (some (k:Int)) none=xs.drop k:=by
 unfold ko;rw[HT.HE];let e:HT.eZ ⇑xs 0 (some (k:Int))=min k ⇑xs:=by unfold HT.eZ;simp;ext
 rw[e];rcases Nat.le_total k ⇑xs with h | h
 ·rw[Nat.min_eq_left h]
  exact xo (by rw[xw];exact zk _)
 ·rw[Nat.min_eq_right h,List.drop_eq_nil_of_le (zk _),List.drop_eq_nil_of_le h,List.take_nil]
def RI (xs:List V) (k:Nat):ko xs none (some (k:Int))=xs.take k:=by
 unfold ko;rw[HT.HE,List.drop_zero,Nat.sub_zero];let e:HT.eZ ⇑xs ⇑xs (some (k:Int))=min k ⇑xs:=by unfold HT.eZ;simp;ext
 rw[e];rcases Nat.le_total k ⇑xs with h | h
 ·rw[Nat.min_eq_left h]
 ·rw[Nat.min_eq_right h,xo (zk _),xo h]
def oX (a b:Str) (r:List Str):sC (a::b::r)=(match m6 ((a::b::r).map cI) with | some (n::ps)=>some (n,ps) | _=>none):=rfl
def gq (H0 H:Hp) (v:V):Option Told->Prop
 | none=>v=.bN
 | some (.bO n)=>v=.str n
 | some (.cJ n t l)=>Is H (eC (n,t,l)) v
 | some (.cR n ps)=>Is H (kZ (n,ps)) v
 | some (.bar b)=>Is H (ji b) v
 | some (.aK l)=>Is H (dL l) v
 | some (.holds p b i)=>Is H (uj (p,b,i)) v
 | some (.aI b p its)=>iD H0 H v (b,p,its)
 | some (.rep r)=>Is H (i6 r) v
 | some (.bU j)=>Is H (i7 j) v
inductive G4 (K:yx) (vs:List V) (H:Hp) (Q:VK) (E:XK):Prop
 | mk (p:vm) (x:Str) (ws:List Str) (_:vs=[.ref p]) (_:fi K H p ((x::ws).map V.str)) (_:⇑ws<=999999) (_:(∀y∈x::ws,⇑y<=600)) (_:∀v H',aF H H'->gq H H' v (nA (x::ws))->Q v H')
def mw (h:Is H (dO d o) v) (hg:∀x,Is H (d x) v->gq H0 H v (some (g x))):gq H0 H v (o.map g):=by
 cases o with
 | none=>unfold dO Is at h;exact h
 | some x=>exact hg x h
theorem gq.back (s:aF H00 H0):∀{t:Option Told},gq H0 H v t->gq H00 H v t
 | none,h=>h
 | some (.bO _),h=>h
 | some (.cJ _ _ _),h=>h
 | some (.cR _ _),h=>h
 | some (.bar _),h=>h
 | some (.aK _),h=>h
 | some (.holds _ _ _),h=>h
 | some (.aI _ _ _),h=>iD.back s h
 | some (.rep _),h=>h
 | some (.bU _),h=>h
def dr {α:Type} {l:List α} {i:Nat} {x:α} (h:l[i]?=some x):l.take (i+1)=l.take i++[x]:=by rw[xn,h];rfl
theorem Mb:∀{l:List α} {i:Nat} {x:α},l[i]?=some x->(l.take i).find? p=none->p x=true->l.find? p=some x
 | [],i,x,h,_,_=>by simp at h
 | y::l,0,x,h,_,hx=>by simp at h;subst h;rw[yO,hx]
 | y::l,i+1,x,h,hn,hx=>by
  rw[wQ,yO] at hn;rw[yO];cases q:p y with
  | true=>rw[q] at hn;cases hn
  | false=>rw[q] at hn;exact Mb (by simpa using h) hn hx
def Eh {α:Type} {p:α->Bool} {l:List α} {i:Nat} {x:α} (h:l[i]?=some x) (hn:(l.take i).find? p=none) (hx:p x=false):(l.take (i+1)).find? p=none:=by
 rw[dr h,List.find?_append,hn];simp[hx]
def DG (K:yx) (H:Hp) (p:vm) (rs:List Rep):Prop:=∃vs,fi K H p vs/\aC H (rs.map i6) vs
theorem DG.mono {K:yx} {H H':Hp} (s:aF H H') {p:vm} {rs:List Rep} (h:DG K H p rs):DG K H' p rs:=by
 let⟨vs,h1,h2⟩:=h;exact{vs,s.seq h1,h2.mono s}
def fk (h:Is H (i6 r) v):∃a e,v=.ref a/\H a=some (.tup [.int r.first,.int r.last,.int r.times,.ref e])/\Is H (.tup (r.ends.map mj)) (.ref e):=by
 unfold i6 Is at h;let⟨a,vs,rfl,ha,hl⟩:=h;unfold aC at hl;let⟨v1,r1,rfl,h1,hl⟩:=hl;unfold aC at hl;let⟨v2,r2,rfl,h2,hl⟩:=hl;unfold aC at hl;let⟨v3,r3,rfl,h3,hl⟩:=hl;unfold aC at hl;let⟨v4,r4,rfl,h4,hl⟩:=hl;unfold aC at hl;subst hl;unfold Is at h1 h2 h3;subst h1 h2 h3;let h4':=h4;unfold Is at h4;let⟨e,us,rfl,he,hle⟩:=h4;exact{(a),e,rfl,ha,h4'}
def pB (h:Is H (mj e) v):∃a q,v=.ref a/\H a=some (.tup [.int e.1,.ref q])/\H q=some (.tup (e.2.map V.int)):=by
 unfold mj Is at h;let⟨a,vs,rfl,ha,hl⟩:=h;unfold aC at hl;let⟨v1,r1,rfl,h1,hl⟩:=hl;unfold aC at hl;let⟨v2,r2,rfl,h2,hl⟩:=hl;unfold aC at hl;subst hl;unfold Is at h1;subst h1;unfold ui Is at h2;let⟨q,us,rfl,hq,hle⟩:=h2;rw[eD hle] at hq;exact{(a),q,rfl,ha,hq}
def cN {H:Hp} {α:Type} {d:α->Dt} {xs:List α} {vs:List V} {i:Nat} {v:V} (h:aC H (xs.map d) vs) (e:vs[i]?=some v):∃x,xs[i]?=some x/\Is H (d x) v:=by
 let⟨c,h1,h2⟩:=h.get e;rw[zI] at h1;cases q:xs[i]? with
 | none=>rw[q] at h1;cases h1
 | some x=>rw[q] at h1;cases h1;exact{(x),rfl,h2}
def aQ {H:Hp} {α:Type} {d:α->Dt} {xs:List α} {vs:List V} (h:aC H (xs.map d) vs):⇑vs=⇑xs:=by rw[h.len,za]
inductive ux (K:yx) (vs:List V) (H:Hp) (Q:VK) (E:XK):Prop
 | mk (p:vm) (rs:List Rep) (b:Int) (_:vs=[.ref p,.int b]) (_:DG K H p rs) (_:∀v,Is H (dO i6 (dC rs b)) v->Q v H)
inductive EN (K:yx) (vs:List V) (H:Hp) (Q:VK) (E:XK):Prop
 | mk (p:vm) (rs:List Rep) (b:Int) (_:vs=[.ref p,.int b]) (_:DG K H p rs) (_:Q (.bl (gH rs b)) H)
inductive EO (K:yx) (vs:List V) (H:Hp) (Q:VK) (E:XK):Prop
 | mk (p:vm) (rs:List Rep) (b:Int) (_:vs=[.ref p,.int b]) (_:DG K H p rs) (_:Q (.bl (d8 rs b)) H)
noncomputable def Ny (x:Int×Int×List Int):Dt:=.tup [.int x.1,.int x.2.1,ui x.2.2]
inductive J6 (vs:List V) (H:Hp) (Q:VK) (E:XK):Prop
 | mk (v:V) (r:Rep) (_:vs=[v]) (_:Is H (i6 r) v) (_:⇑r.ends<=1000000) (_:∀p us H',aF H H'->H' p=some (.lst us)->aC H' ((i4 r).map Ny) us->Q (.ref p) H')
inductive uA (K:yx) (vs:List V) (H:Hp) (Q:VK) (E:XK):Prop
 | mk (p:vm) (rs:List Rep) (b:Int) (_:vs=[.ref p,.int b]) (_:DG K H p rs) (_:(∀r∈rs,⇑r.ends<=1000000)) (_:∀H',aF H H'->Q (.bl (kW rs b)) H')
def BS {α:Type} {J:It} {ws:List α} {U₀:St} {g:TG} {te:TE} {Q:VK} {H1:Hp} (Y:α->V->Hp->Prop) (F:α->Dt) (Pσ:St->Prop) (hn:⇑ws<=sizeLine) (h0:Pσ U₀)
  (go:∀i H,i<⇑ws->aF H1 H->J.go i H) (stop:∀H,aF H1 H->J.stop ⇑ws H) (yl:∀(i:Nat) x H H2 (hi:i<⇑ws),aF H1 H->J.JP i H x H2->aF H H2/\Y ws[i] x H2)
  (turn:∀(a:α) (x:V) (U:St) (H:Hp) (R:St->V->Hp->Prop),a∈ws->aF H1 H->Y a x H->Pσ U->(∀σ3 y H5,aF H H5->Is H5 (F a) y->Pσ σ3->R σ3 y H5)->g x U H λσ3 H3=>te σ3 H3 λy H5=>R σ3 y H5)
  (fin:∀D vs H,aF H1 H->H D=some (.lst vs)->aC H (ws.map F) vs->Q (.ref D) H):dg U₀ g pT te Q J H1:=by
 refine{λi m xs U H=>m=⇑ws-i/\i<=⇑ws/\⇑xs=i/\aF H1 H/\aC H ((ws.take i).map F) xs/\Pσ U,{_,rfl,yd _,rfl,aD _,by simp[aC],h0},?_};rintro i m xs U H ⟨rfl,hi,hx,sm,il,pσ⟩;rcases xC i ⇑ws with hlt | hge
 ·refine .inr {go i H hlt sm,(),?_}
  intro x H2 hy;let⟨s2,hY⟩:=yl i x H H2 hlt sm hy;refine turn ws[i] x U H2 (λσ3 y H5=>if true=true then∃m',m'<⇑ws-i/\(m'=⇑ws-(i+1)/\i+1<=⇑ws/\⇑(xs++[y])=i+1/\aF H1 H5/\aC H5 ((ws.take (i+1)).map F) (xs++[y])/\Pσ σ3) else False) (yi hlt) (sm.trans s2) hY pσ ?_;rintro σ3 y H5 s5 iy p3;rw[yK rfl];refine{_,(),rfl,hlt,by simp[hx],(sm.trans s2).trans s5,?_,p3};rw[xn,zb hlt,zj];exact cX iy (il.mono (s2.trans s5))
 ·let e:i=⇑ws:=()
  subst e;refine .inl {stop H sm,(),λD hD=>?_};let il':aC H (ws.map F) xs:=by rw[zL] at il;exact il
  exact fin D xs _ (sm.trans (bz hD)) aE (il'.mono (bz hD))
structure Ow where
 dx:vm
 pl:vm
 ins:vm
 st:vm
 ba:vm
 ho:vm
 no:vm
 re:vm
 hs:List vm
 ns:List vm
noncomputable def Ow.lists (o:Ow):List vm:=[o.pl,o.ba,o.re]++o.hs++o.ns
noncomputable def QU (o:Ow) (ub jm:V):List (Str×V):=[("players",.ref o.pl),("instruments",.ref o.ins),("staffs",.ref o.st),("bars",.ref o.ba),("upbeat",ub),("holds",.ref o.ho),("notes",.ref o.no),("repeats",.ref o.re),("jump",jm)]
noncomputable def kS (x:Str):Key:=Sum.inr x
noncomputable def kN (x:Int×Str):List Key:=[Sum.inl x.1,Sum.inr x.2]
noncomputable def Jl (x:Str×(Int×Int)×(Int×Int)):Dt:=.tup [dL x.2.1,dL x.2.2]
noncomputable def RG (x:Str×List Str):Dt:=lW x.2
noncomputable def JM (x:Int×Str):Dt:=.tup [.int x.1,.str x.2]
def b8 (H:Hp) (d:α->Dt):List (List α)->List vm->Prop
 | [],as=>as=[]
 | l::r,as=>∃a t vs,as=a::t/\H a=some (.lst vs)/\aC H (l.map d) vs/\b8 H d r t
inductive Xi (C:vm) (H:Hp) (a:vm) (o:Ow) (u:Option (Int×Int)) (j:Option Jump):Prop
 | mk (ub jm:V) (_:H a=some (.ins C o.dx (QU o ub jm))) (_:Is H (dO dL u) ub) (_:Is H (dO i7 j) jm)
inductive Qu {α:Type} (H:Hp) (d:α->Dt) (a:vm) (l:List α):Prop
 | mk (vs:List V) (_:H a=some (.lst vs)) (_:aC H (l.map d) vs)
inductive RW {α:Type} (H:Hp) (d:Str×α->Dt) (a:vm) (l:List (Str×α)):Prop
 | mk (vs:List V) (_:H a=some (.dK ((l.map λx=>kS x.1).zip vs))) (_:aC H (l.map d) vs)
structure bP (C:vm) (H:Hp) (a:vm) (S:cg) (o:Ow):Prop where
 obj:Xi C H a o S.aK S.bU
 pl:H o.pl=some (.lst (S.az.map V.str))
 ins:RW H Jl o.ins S.aq
 st:RW H RG o.st S.aM
 ba:Qu H ji o.ba S.aN
 ho:H o.ho=some (.dK ((S.holds.map λx=>kS x.1).zip (o.hs.map V.ref)))/\b8 H JM (S.holds.map (·.2)) o.hs
 no:H o.no=some (.dT ((S.aI.map λx=>kN x.1).zip (o.ns.map V.ref)))/\b8 H dN (S.aI.map (·.2)) o.ns
 re:Qu H i6 o.re S.aH
 nd:o.lists.Nodup
 dd:[o.ins,o.st,o.ho].Nodup
theorem b8.mono (s:aF H H'):∀{ls:List (List α)} {as:List vm},b8 H d ls as->b8 H' d ls as
 | [],_,h=>h
 | l::r,_,⟨a,t,vs,e,h1,h2,h3⟩=>{a,t,vs,e,s _ _ h1,h2.mono s,b8.mono s h3}
theorem bP.mono (s:aF H H') (h:bP C H a S o):bP C H' a S o where
 obj:=by let⟨ub,jm,h1,h2,h3⟩:=h.obj;exact{ub,jm,s _ _ h1,h2.mono s,h3.mono s}
 pl:=s _ _ h.pl
 ins:=by let⟨vs,h1,h2⟩:=h.ins;exact{vs,s _ _ h1,h2.mono s}
 st:=by let⟨vs,h1,h2⟩:=h.st;exact{vs,s _ _ h1,h2.mono s}
 ba:=by let⟨vs,h1,h2⟩:=h.ba;exact{vs,s _ _ h1,h2.mono s}
 ho:={s _ _ h.ho.1,h.ho.2.mono s}
 no:={s _ _ h.no.1,h.no.2.mono s}
 re:=by let⟨vs,h1,h2⟩:=h.re;exact{vs,s _ _ h1,h2.mono s}
 nd:=h.nd
 dd:=h.dd
def cT (o:Option HO):Prop:=∀vs,o≠some (.tup vs)
mutual
theorem Is.upd (hx:cT (H x)):∀{d:Dt} {v:V},Is H d v->Is (upd H x o) d v
 | .bN,_,h=>by unfold Is at h ⊢;exact h
 | .bl _,_,h=>by unfold Is at h ⊢;exact h
 | .int _,_,h=>by unfold Is at h ⊢;exact h
 | .str _,_,h=>by unfold Is at h ⊢;exact h
 | .tup l,_,h=>by
  unfold Is at h ⊢;let⟨a,vs,e,ha,hl⟩:=h;let ne:a≠x:=λz=>hx vs (by rw[<-z];exact ha);exact{a,vs,e,by rw[aG ne];exact ha,aC.upd hx hl}
theorem aC.upd (hx:cT (H x)):∀{l:List Dt} {vs:List V},aC H l vs->aC (L2.upd H x o) l vs
 | [],_,h=>by unfold aC at h ⊢;exact h
 | d::l,_,h=>by
  unfold aC at h ⊢;let⟨v,r,e,hv,hr⟩:=h;exact{v,r,e,Is.upd hx hv,aC.upd hx hr}
end
theorem b8.upd (hx:cT (H x)):∀{ls:List (List α)} {as:List vm},x∉as->b8 H d ls as->b8 (L2.upd H x o) d ls as
 | [],_,_,h=>h
 | l::r,_,nx,⟨a,t,vs,e,h1,h2,h3⟩=>by
  subst e;let ne:a≠x:=λz=>nx (by rw[z];exact zp);exact{a,t,vs,rfl,by rw[aG ne];exact h1,aC.upd hx h2,b8.upd hx (λz=>nx (zm _ z)) h3}
structure Cf (K:yx) (C:vm):Prop where
 cls:RX K C
 az:eL K C "players"
 aq:eL K C "instruments"
 aM:eL K C "staffs"
 aN:eL K C "bars"
 aK:eL K C "upbeat"
 holds:eL K C "holds"
 aI:eL K C "notes"
 aH:eL K C "repeats"
 bU:eL K C "jump"
def RC (n:Nat):NumText.digitsVal (dec (n:Int)).cps.toList=n:=by rw[Ab];exact PySem.W.KIN.val_back n
def S7 {most:Int} {n k:Nat} (hk:0<k) (hm:(k:Int)<=most) (h:n<10^k):rn most (dec (n:Int)).cps.toList=some (n:Int):=by
 let l1:=IU (n:=n);let l2:=El hk h;let el:⇑(dec (n:Int)).cps.toList=⇑(dec (n:Int)):=yM;let ha:((dec (n:Int)).cps.toList.all λc=>decide (c∈vw))=true:=ym.mpr λc hc=>ze (T4 (km hc).1 (km hc).2);unfold rn;rw[yJ (),yJ (),yK ha,yJ,RC];rintro⟨z1,z2⟩;have:=Nk (n:=n) (by rw[<-xb];exact z1);ext
def nh {most n:Int} {k:Nat} (hk:0<k) (hm:(k:Int)<=most) (h0:0<=n) (h:n<10^k):rn most (dec n).cps.toList=some n:=by
 let⟨m,rfl⟩:=yH h0;exact S7 hk hm (by exact_mod_cast h)
def fg {n:Int} (h0:0<=n) (h:n<1000):fu (dec n)=some n:=nh (k:=3) ∅ ∅ h0 ()
def DR (h0:0<=n) (h:n<1000) (h1:lo<=n) (h2:n<=hi):lN (dec n) lo hi=some n:=by
 unfold lN;rw[fg h0 h];dsimp only;rw[yJ (),yJ ()]
def Kn {most n:Int} {k:Nat} (hk:0<k) (hm:(k:Int)<=most) (h1:-(10^k)<n) (h2:n<10^k):rs most (dec n)=some n:=by
 unfold rs
 by_cases h0:0<=n
 ·rw[yJ,nh hk hm h0 h2]
  intro z;let⟨m,rfl⟩:=yH h0;have:=km (zA z);ext
 ·let e:(dec n).cps.toList=45::(dec (-n)).cps.toList:=by rw[Aa (),cF];rfl
  rw[e,yK (show(45::(dec (-n)).cps.toList)[0]?=some 45 from rfl)];show(match rn most (dec (-n)).cps.toList with | some n=>if n=0 then none else some (-n) | none=>none)=_;rw[nh hk hm () ()];dsimp only;rw[yJ (),Int.neg_neg]
def OS {q:Int×Int} (h:Qt q):rp (dec q.1) (dec q.2)=some q:=by
 let⟨h1,h2,h3,h4,h5⟩:=h;unfold rp;rw[Kn (k:=2) ∅ ∅ () (),Kn (k:=2) ∅ ∅ () ()];dsimp only;rw[yK h5]
def IW (n:Int):47∉(dec n).cps.toList:=fR ∅ ∅
def Me (n:Int):58∉(dec n).cps.toList:=fR ∅ ∅
def Iu {x:Int×Int} (h:Rd x) (h1:x.1<10000) (h2:x.2<10000):QA (ic x)=some x:=by
 let⟨p1,p2,p3⟩:=h.pos;unfold ic QA
 by_cases c:x.2=1
 ·rw[yK c,show Txt.split (dec x.1) "/"= [dec x.1] from split1 (c:=47) (IW _)]
  dsimp only;rw[nh (k:=4) ∅ ∅ p1 ()];dsimp only;rw[<-c,p3]
 ·rw[yJ c,show Txt.split (dec x.1 ++"/" ++ dec x.2) "/"= [dec x.1,dec x.2] from EJ (c:=47) (IW _) (IW _)]
  dsimp only;rw[nh (k:=4) ∅ ∅ p1 (),nh (k:=4) ∅ ∅ () ()];dsimp only;rw[yJ (),p3]
def FG (h:QD x):lr (ic x)=some x:=by
 let⟨h1,h2,h3,h4⟩:=h;unfold lr;rw[Iu h1 h3 h4];dsimp only;rw[yJ ()]
def Rr (h:NX it):ir (pA it)=some it:=by
 let⟨o,x⟩:=it;let⟨h1,h2⟩:=h;cases o with
 | none=>
  let e:Txt.split (pA (none,x)) ":"= [("r": Str),ic x]:=EJ (c:=58) (a:="r") ∅ (DZ h1);unfold ir;rw[e];show(match lr (ic x) with | none=>none | some x=>_)=_;rw[FG h1];exact yK rfl
 | some q=>
  let e:Txt.split (pA (some q,x)) ":"= [dec q.1,dec q.2,ic x]:=S0 (c:=58) (Me _) (Me _) (DZ h1);unfold ir;rw[e];show(match lr (ic x) with | none=>none | some x=>_)=_;rw[FG h1];dsimp only;rw[yJ (by simp)];show(match rp (dec q.1) (dec q.2) with | some q=>some (some q,x) | none=>none)=_;rw[OS (h2 q rfl)]
def Ko (h1:1<=a) (h2:a<=32) (h3:b∈Dv):iQ (dec a ++"/" ++ dec b)=some (a,b):=by
 let hb:0<=b/\b<1000:=by
  unfold Dv at h3;simp at h3;ext
 unfold iQ;rw[show Txt.split (dec a ++"/" ++ dec b) "/"= [dec a,dec b] from EJ (c:=47) (IW _) (IW _)];dsimp only;rw[DR () () h1 h2,fg hb.1 hb.2];dsimp only;rw[yK h3]
def OV {k:Int} (h1:-7<=k) (h2:k<=7):HI (dec k)=some k:=by
 unfold HI;rw[Kn (k:=3) ∅ ∅ () ()];dsimp only;rw[yJ (by split <;> ext)]
def ML (h:Qt q) (h1:-12<=q.1) (h2:q.1<=12):AR (dec q.1) (dec q.2)=some q:=by
 unfold AR;rw[OS h];dsimp only;rw[yJ (by split <;> ext)]
theorem mZ:∀{l:List α},(∀x∈l,f (g x)=some x)->m6 ((l.map g).map f)=some l
 | [],_=>rfl
 | x::l,h=>by
  rw[zh,zh,h x zp];unfold m6;rw[mZ λy hy=>h y (zm _ hy)]
noncomputable def oj (e:End):Str:=dec e.1 ++":" ++ Str.join "," (e.2.map dec)
def Xa (e:End):Prop:=0<=e.1/\e.1<1000/\e.2≠[]/\∀p∈e.2,0<=p/\p<1000
theorem nN (hs:c∉sep.cps.toList):∀{zs:List Str},(∀z∈zs,c∉z.cps.toList)->c∉(Str.join sep zs).cps.toList
 | [],_=>by show c∉("": Str).cps.toList;exact zC
 | [z],h=>h z zp
 | z::y::r,h=>by
  rw[eR,cF,cF];intro m;rcases zE.mp m with m | m
  ·rcases zE.mp m with m | m
   ·exact h z zp m
   ·exact hs m
  ·exact nN hs (λx hx=>h x (zm _ hx)) m
def OX (h:Xa e):AU (oj e)=some e:=by
 let⟨h1,h2,h3,h4⟩:=h;let f:58∉(Str.join "," (e.2.map dec)).cps.toList:=nN ∅ λz hz=>by
  let⟨y,_,rfl⟩:=zF.mp hz;exact Me _
 unfold AU oj;rw[show Txt.split (dec e.1 ++":" ++ Str.join "," (e.2.map dec)) ":"= [dec e.1,Str.join "," (e.2.map dec)] from EJ (c:=58) (Me _) f];dsimp only;rw[show Txt.split (Str.join "," (e.2.map dec)) ","= e.2.map dec from gd (c:=44) (by simpa using h3) λz hz=>by
  let⟨y,_,rfl⟩:=zF.mp hz;exact fR ∅ ∅]
 rw[fg h1 h2,mZ λx hx=>fg (h4 x hx).1 (h4 x hx).2]
def NS (w:Str):Prop:=w≠ ""/\32∉w.cps.toList/\10∉w.cps.toList
def JR (ne:ws≠[]) (h:∀w∈ws,NS w):words (Str.join " " ws)=ws:=by
 unfold words;rw[show Txt.split (Str.join " " ws) " "= ws from gd (c:=32) ne λw hw=>(h w hw).2.1];exact List.filter_eq_self.mpr λw hw=>ze (h w hw).1
def fE (n:Int):NS (dec n):=by
 refine{λz=>?_,fR ∅ ∅,fR ∅ ∅}
 by_cases h:0<=n
 ·let⟨m,rfl⟩:=yH h
  have:=IU (n:=m);rw[z] at this;exact absurd this ∅
 ·let e:(dec n).cps.toList=45::(dec (-n)).cps.toList:=by rw[Aa (),cF];rfl
  rw[z] at e;cases e
def Jr (ha:NS a) (hb1:32∉b.cps.toList) (hb2:10∉b.cps.toList):NS (a++b):=by
 refine{λz=>ha.1 (kz ?_),λm=>?_,λm=>?_}
 ·let e:(a++b).cps.toList=("": Str).cps.toList:=by rw[z]
  rw[cF] at e;exact(List.append_eq_nil_iff.mp e).1
 ·rw[cF] at m
  rcases zE.mp m with m | m
  ·exact ha.2.1 m
  ·exact hb1 m
 ·rw[cF] at m
  rcases zE.mp m with m | m
  ·exact ha.2.2 m
  ·exact hb2 m
def Gk (ha:NS a) (hb1:32∉b.cps.toList) (hb2:10∉b.cps.toList) (hc:NS c):NS (a++b++c):=Jr (Jr ha hb1 hb2) hc.2.1 hc.2.2
def Bk (x:Int×Int):NS (ic x):=by
 unfold ic;split
 ·exact fE _
 ·exact Gk (fE _) ∅ ∅ (fE _)
def TU (it:Item):NS (pA it):=by
 let⟨o,x⟩:=it;cases o with
 | none=>exact Jr (a:="r:") {∅,∅,∅} (Bk x).2.1 (Bk x).2.2
 | some q=>exact Gk (Gk (fE _) ∅ ∅ (fE _)) ∅ ∅ (Bk x)
def Ua (e:End):NS (oj e):=by
 let f:∀c,c≠44->c≠45->¬(48<=c/\c<=57)->c∉(Str.join "," (e.2.map dec)).cps.toList:=λc h0 h1 h2=>nN (by show c∉[44];simpa using h0) λz hz=>by
  let⟨y,_,rfl⟩:=zF.mp hz;exact fR h1 h2
 unfold oj;exact Jr (Jr (fE _) ∅ ∅) (f 32 ∅ ∅ ∅) (f 10 ∅ ∅ ∅)
def gb (n:Str):Prop:=cI n=some n
def gb.w (h:gb n):NS n:=by
 unfold gb cI at h;split at h
 ·cases h
 ·split at h
  ·cases h
  ·split at h
   ·rename_i h1 _ h3
    let hs:∀c,c∉sgn->c∉n.cps.toList:=λc hc m=>hc (yb (ym.mp h3 c m));refine{λz=>h1 (by rw[z];decide),hs 32 ∅,hs 10 ∅}
   ·cases h
noncomputable def ctxt:Option Int->Str
 | none=> "end"
 | some n=>dec n
noncomputable def aT:Told->List Str
 | .bO n=>["player",n]
 | .cJ n t l=>["instrument",n,dec t.1,dec t.2,ic l]
 | .cR n ps=> "staff":: n::ps
 | .bar b=> "bar":: (dec b.aP.1 ++"/" ++ dec b.aP.2)::dec b.key::b.marks
 | .aK l=>["upbeat",ic l]
 | .holds p b i=>["holds",p,dec b,i]
 | .aI b p its=> "notes":: dec b::p::its.map pA
 | .rep r=> "repeat":: dec r.first::dec r.last::dec r.times::r.ends.map oj
 | .bU j=>["jump",dec j.vq,dec j.Bm,dec j.dn,ctxt j.fJ]
noncomputable def cL (t:Told):Str:=Str.join " " (aT t)
def NB (n:Int):Prop:=0<=n/\n<1000
def Sl:Told->Prop
 | .bO n=>gb n
 | .cJ n t l=>gb n/\Qt t/\-12<=t.1/\t.1<=12/\Lm.Rd l/\l.1<10000/\l.2<10000
 | .cR n ps=>gb n/\ps≠[]/\∀p∈ps,gb p
 | .bar b=>1<=b.aP.1/\b.aP.1<=32/\b.aP.2∈Dv/\-7<=b.key/\b.key<=7/\∀m∈b.marks,gb m
 | .aK l=>QD l
 | .holds p b i=>gb p/\NB b/\gb i
 | .aI b p its=>NB b/\gb p/\(∀it∈its,NX it)/\its.all (λit=>it.1.isNone)=false
 | .rep r=>NB r.first/\NB r.last/\2<=r.times/\r.times<=9/\∀e∈r.ends,Xa e
 | .bU j=>NB j.vq/\NB j.Bm/\NB j.dn/\∀c,j.fJ=some c->NB c
def Mm (h:∀p∈l,gb p):m6 (l.map cI)=some l:=by
 have:=mZ (f:=cI) (g:=λx:Str=>x) (l:=l) h
 rwa [List.map_id'] at this
def Kq (h:Sl t):nA (aT t)=some t:=by
 cases t with
 | bO n=>
  show(cI n).map Told.bO=_;rw[show cI n=some n from h];rfl
 | cJ n t l=>
  let⟨h1,h2,h3,h4,h5,h6,h7⟩:=h;show(mJ [n,dec t.1,dec t.2,ic l]).map (λx=>Told.cJ x.1 x.2.1 x.2.2)=_;unfold mJ;dsimp only;rw[show cI n=some n from h1,ML h2 h3 h4,Iu h5 h6 h7];rfl
 | cR n ps=>
  let⟨h1,h2,h3⟩:=h;show(sC (n::ps)).map (λx=>Told.cR x.1 x.2)=_;let⟨b,r,rfl⟩:=List.exists_cons_of_ne_nil h2;rw[oX,Mm (l:=n::b::r) λp hp=>by
   rcases zB.mp hp with e | e
   ·rw[e];exact h1
   ·exact h3 p e]
  rfl
 | bar b=>
  let⟨h1,h2,h3,h4,h5,h6⟩:=h;show(Fj ((dec b.aP.1 ++"/" ++ dec b.aP.2)::dec b.key::b.marks)).map Told.bar=_;unfold Fj;dsimp only;rw[Mm h6,Ko h1 h2 h3,OV h4 h5];rfl
 | aK l=>
  show(lr (ic l)).map Told.aK=_;rw[FG h];rfl
 | holds p b i=>
  let⟨h1,h2,h3⟩:=h;show(tX [p,dec b,i]).map (λx=>Told.holds x.1 x.2.1 x.2.2)=_;unfold tX;dsimp only;rw[show cI p=some p from h1,fg h2.1 h2.2,show cI i=some i from h3];rfl
 | aI b p its=>
  let⟨h1,h2,h3,h4⟩:=h;show(kK (dec b::p::its.map pA)).map (λx=>Told.aI x.1 x.2.1 x.2.2)=_;cases its with
  | nil=>cases h4
  | cons i r=>
   show(kK (dec b::p::pA i::r.map pA)).map _=_;unfold kK;let e:=mZ (f:=ir) (g:=pA) (l:=i::r) λx hx=>Rr (h3 x hx);rw[zh] at e;dsimp only;rw[e];dsimp only;rw[h4,fg h1.1 h1.2,show cI p=some p from h2];rfl
 | rep r=>
  let⟨h1,h2,h3,h4,h5⟩:=h;show(kJ (dec r.first::dec r.last::dec r.times::r.ends.map oj)).map Told.rep=_;unfold kJ;dsimp only;rw[mZ λx hx=>OX (h5 x hx),fg h1.1 h1.2,fg h2.1 h2.2,DR () () h3 h4];rfl
 | bU j=>
  let⟨h1,h2,h3,h4⟩:=h;show(A1 [dec j.vq,dec j.Bm,dec j.dn,ctxt j.fJ]).map Told.bU=_;unfold A1;dsimp only;rw[fg h1.1 h1.2,fg h2.1 h2.2,fg h3.1 h3.2];let⟨a,b,c,d⟩:=j;cases d with
  | none=>rfl
  | some n=>
   dsimp only[ctxt];rw[fg (h4 n rfl).1 (h4 n rfl).2];rfl
def LL (h:Sl t):∀w∈aT t,NS w:=by
 let lit:∀s:Str,s≠ ""->32∉s.cps.toList->10∉s.cps.toList->NS s:=λs a b c=>{(a),b,c}
 cases t with
 | bO n=>
  intro w hw;simp only[aT,zB,zC,yQ] at hw;rcases hw with rfl | rfl
  ·exact lit _ ∅ ∅ ∅
  ·exact gb.w h
 | cJ n t l=>
  intro w hw;simp only[aT,zB,zC,yQ] at hw;rcases hw with rfl | rfl | rfl | rfl | rfl
  ·exact lit _ ∅ ∅ ∅
  ·exact gb.w h.1
  ·exact fE _
  ·exact fE _
  ·exact Bk _
 | cR n ps=>
  intro w hw;simp only[aT,zB] at hw;rcases hw with rfl | rfl | hw
  ·exact lit _ ∅ ∅ ∅
  ·exact gb.w h.1
  ·exact gb.w (h.2.2 _ hw)
 | bar b=>
  intro w hw;simp only[aT,zB] at hw;rcases hw with rfl | rfl | rfl | hw
  ·exact lit _ ∅ ∅ ∅
  ·exact Gk (fE _) ∅ ∅ (fE _)
  ·exact fE _
  ·exact gb.w (h.2.2.2.2.2 _ hw)
 | aK l=>
  intro w hw;simp only[aT,zB,zC,yQ] at hw;rcases hw with rfl | rfl
  ·exact lit _ ∅ ∅ ∅
  ·exact Bk _
 | holds p b i=>
  intro w hw;simp only[aT,zB,zC,yQ] at hw;rcases hw with rfl | rfl | rfl | rfl
  ·exact lit _ ∅ ∅ ∅
  ·exact gb.w h.1
  ·exact fE _
  ·exact gb.w h.2.2
 | aI b p its=>
  intro w hw;simp only[aT,zB,zF] at hw;rcases hw with rfl | rfl | rfl | ⟨x,_,rfl⟩
  ·exact lit _ ∅ ∅ ∅
  ·exact fE _
  ·exact gb.w h.2.1
  ·exact TU _
 | rep r=>
  intro w hw;simp only[aT,zB,zF] at hw;rcases hw with rfl | rfl | rfl | rfl | ⟨x,_,rfl⟩
  ·exact lit _ ∅ ∅ ∅
  ·exact fE _
  ·exact fE _
  ·exact fE _
  ·exact Ua _
 | bU j=>
  intro w hw;simp only[aT,zB,zC,yQ] at hw;rcases hw with rfl | rfl | rfl | rfl | rfl
  ·exact lit _ ∅ ∅ ∅
  ·exact fE _
  ·exact fE _
  ·exact fE _
  ·unfold ctxt
   cases j.fJ with
   | none=>exact lit _ ∅ ∅ ∅
   | some n=>exact fE _
def JS (t:Told):aT t≠[]:=by cases t <;> simp[aT]
def MM (h:Sl t):words (cL t)=aT t:=JR (JS t) (LL h)
def OT (h:Sl t):10∉(cL t).cps.toList:=nN ∅ λw hw=>(LL h w hw).2.2
noncomputable def kindOf:HO->Nat
 | .lst _=>0
 | .tup _=>1
 | .ins _ _ _=>2
 | .dK _=>3
 | .dT _=>4
 | _=>5
def fI {a b:Nat} (h:Nat.beq a b=false):a≠b:=λz=>by rw[z,Nat.beq_refl] at h;cases h
def bx {H:Hp} {a b:vm} {u v:HO} (h1:H a=some u) (h2:H b=some v) (k:kindOf u≠kindOf v):a≠b:=λz=>by
 rw[z,h2] at h1;cases h1;exact k rfl
noncomputable def own (a:vm) (o:Ow):List vm:=[a,o.pl,o.ins,o.st,o.ba,o.ho,o.no,o.re]++o.hs++o.ns
def vU (L:List vm) (H H':Hp):Prop:=∀b u,b∉L->H b=some u->H' b=some u
def vU.of (s:aF H H'):vU L H H':=λb u _ h=>s b u h
def vU.trans (s:vU L H H') (t:vU L H' H''):vU L H H'':=λb u n h=>t b u n (s b u n h)
theorem vU.upd (h:x∈L):vU L H (L2.upd H x o):=λb u n e=>by
 rw[aG (λz=>n (by rw[z];exact h))];exact e
structure Nd (o:Ow):Prop where
 pb:o.pl≠o.ba
 pr:o.pl≠o.re
 ph:o.pl∉o.hs
 pn:o.pl∉o.ns
 br:o.ba≠o.re
 bh:o.ba∉o.hs
 bn:o.ba∉o.ns
 rh:o.re∉o.hs
 rn:o.re∉o.ns
 hh:o.hs.Nodup
 nn:o.ns.Nodup
 hn:∀x∈o.hs,x∉o.ns
def Nd.of (h:o.lists.Nodup):Nd o:=by
 unfold Ow.lists at h;rw[zQ] at h;let⟨h1,h2,h3⟩:=h;rw[zQ] at h1;let⟨h4,h5,h6⟩:=h1;simp only[ya,zB,zC,yQ,not_or] at h4;refine{h4.1.1,h4.1.2,λz=>?_,λz=>?_,h4.2.1,λz=>?_,λz=>?_,λz=>?_,λz=>?_,h5,h2,λx hx z=>?_}
 ·exact h6 o.pl (by simp) o.pl z rfl
 ·exact h3 o.pl (by simp) o.pl z rfl
 ·exact h6 o.ba (by simp) o.ba z rfl
 ·exact h3 o.ba (by simp) o.ba z rfl
 ·exact h6 o.re (by simp) o.re z rfl
 ·exact h3 o.re (by simp) o.re z rfl
 ·exact h3 x (by simp[hx]) x z rfl
def Nd.to (h:Nd o):o.lists.Nodup:=by
 unfold Ow.lists;rw[zQ];refine{?_,h.nn,?_}
 ·rw[zQ]
  refine{?_,h.hh,?_}
  ·simp only[ya,zB,zC,yQ,not_or]
   exact{{(h.pb),h.pr},h.br,λz=>z,xW}
  ·intro x hx y hy e
   subst e;simp only[zB,zC,yQ] at hx;rcases hx with rfl | rfl | rfl
   ·exact h.ph hy
   ·exact h.bh hy
   ·exact h.rh hy
 ·intro x hx y hy e
  subst e;rw[zE] at hx;rcases hx with hx | hx
  ·simp only[zB,zC,yQ] at hx
   rcases hx with rfl | rfl | rfl
   ·exact h.pn hy
   ·exact h.bn hy
   ·exact h.rn hy
  ·exact h.hn x hx hy
section
variable {C a x:vm} {H:Hp} {S:cg} {o:Ow} {u:HO}
def bP.DY (h:bP C H a S o) (nx:cT (H x)) (n:a≠x):Xi C (L2.upd H x u) a o S.aK S.bU:=by
 let⟨ub,jm,h1,h2,h3⟩:=h.obj;exact{ub,jm,by rw[aG n];exact h1,Is.upd nx h2,Is.upd nx h3}
def bP.Fl (h:bP C H a S o) (n:o.pl≠x):L2.upd H x u o.pl=some (.lst (S.az.map V.str)):=by rw[aG n];exact h.pl
def bP.qS (h:bP C H a S o) (nx:cT (H x)) (n:o.ins≠x):RW (L2.upd H x u) Jl o.ins S.aq:=by
 let⟨vs,h1,h2⟩:=h.ins;exact{vs,by rw[aG n];exact h1,aC.upd nx h2}
def bP.EH (h:bP C H a S o) (nx:cT (H x)) (n:o.st≠x):RW (L2.upd H x u) RG o.st S.aM:=by
 let⟨vs,h1,h2⟩:=h.st;exact{vs,by rw[aG n];exact h1,aC.upd nx h2}
def bP.Gi (h:bP C H a S o) (nx:cT (H x)) (n:o.ba≠x):Qu (L2.upd H x u) ji o.ba S.aN:=by
 let⟨vs,h1,h2⟩:=h.ba;exact{vs,by rw[aG n];exact h1,aC.upd nx h2}
def bP.Fg (h:bP C H a S o) (nx:cT (H x)) (n:o.re≠x):Qu (L2.upd H x u) i6 o.re S.aH:=by
 let⟨vs,h1,h2⟩:=h.re;exact{vs,by rw[aG n];exact h1,aC.upd nx h2}
def bP.IC (h:bP C H a S o) (nx:cT (H x)) (n:o.ho≠x) (nn:x∉o.hs):L2.upd H x u o.ho=some (.dK ((S.holds.map λx=>kS x.1).zip (o.hs.map V.ref)))/\b8 (L2.upd H x u) JM (S.holds.map (·.2)) o.hs:=
 {by rw[aG n];exact h.ho.1,b8.upd nx nn h.ho.2}
def bP.FD (h:bP C H a S o) (nx:cT (H x)) (n:o.no≠x) (nn:x∉o.ns):L2.upd H x u o.no=some (.dT ((S.aI.map λx=>kN x.1).zip (o.ns.map V.ref)))/\b8 (L2.upd H x u) dN (S.aI.map (·.2)) o.ns:=
 {by rw[aG n];exact h.no.1,b8.upd nx nn h.no.2}
end
theorem cG:∀{ls:List (List α)} {as:List vm},b8 H d ls as->x∈as->∃vs,H x=some (.lst vs)
 | [],_,h,hx=>by unfold b8 at h;subst h;simp at hx
 | l::r,_,⟨a,t,vs,e,h1,_,h3⟩,hx=>by
  subst e;rcases zB.mp hx with rfl | hx
  ·exact{(vs),h1}
  ·exact cG h3 hx
theorem b8.snoc (hx:H x=some (.lst vs)) (im:aC H (m.map d) vs):∀{ls:List (List α)} {as:List vm},b8 H d ls as->b8 H d (ls++[m]) (as++[x])
 | [],_,h=>by unfold b8 at h;subst h;exact{x,[],vs,rfl,hx,im,rfl}
 | l::r,_,⟨a,t,vs',e,h1,h2,h3⟩=>by
  subst e;exact{a,t++[x],vs',rfl,h1,h2,b8.snoc hx im h3}
def Ob (h:l.length=m.length) (x:α) (y:β):(l++[x]).zip (m++[y])=l.zip m++[(x,y)]:=by
 rw[List.zip_append h];rfl
def qz {κ:Type} [DecidableEq κ] {ks:List κ} {vs:List V} (hl:⇑ks=⇑vs) {k:κ} {v:V} (h:cV (ks.zip vs) k=none):putK (ks.zip vs) k v=(ks++[k]).zip (vs++[v]):=by
 rw[Ob hl];exact O4 v h
theorem Ee (p:Str):∀{hs:List (Str×List α)} {as:List vm},b8 H d (hs.map (·.2)) as->as.Nodup->(hs.map (·.1)).Nodup->p∈hs.map (·.1)->
  ∃x vs,cV ((hs.map λx=>kS x.1).zip (as.map V.ref)) (kS p)=some (.ref x)/\x∈as/\H x=some (.lst vs)/\∀y e,Is (L2.upd H x (.lst (vs++[y]))) (d e) y->
   b8 (L2.upd H x (.lst (vs++[y]))) d ((hs.map λq=>if q.1=p then(q.1,q.2++[e]) else q).map (·.2)) as
 | [],_,_,_,_,h=>by simp at h
 | (k,l)::r,_,hL,na,nk,hm=>by
  rw[zh] at hL;let⟨a,t,vs,rfl,h1,h2,h3⟩:=hL;rw[zh,ya] at nk;rw[ya] at na
  by_cases e:k=p
  ·subst e
   refine{a,vs,?_,zp,h1,λy e iy=>?_}
   ·rw[zh,zh,yS]
    unfold cV;rw[yO];simp
   ·let nx:cT (H a):=by rw[h1];exact λ_ z=>by cases z
    let er:(r.map λq=>if q.1=k then(q.1,q.2++[e]) else q)=r:=by
     conv=>rhs;rw[<-List.map_id r]
     refine xq λq hq=>?_;rw[yJ (λz=>nk.1 (by rw[show(k,l).1=q.1 from z.symm];exact zN (f:=λx:Str×List α=>x.1) hq))];rfl
    rw[zh,zh,yK rfl,er];refine{a,t,vs++[y],rfl,aE,?_,b8.upd nx na.1 h3};rw[zj];exact cX iy (aC.upd nx h2)
  ·let hm':p∈r.map (·.1):=by
    rcases zB.mp hm with z | z
    ·exact absurd z.symm e
    ·exact z
   let⟨x,vs',e1,e2,e3,e4⟩:=Ee p h3 na.2 nk.2 hm';refine{x,vs',?_,zm _ e2,e3,λy e iy=>?_}
   ·let e':¬kS k=kS p:=λz=>e (wM z)
    rw[zh,zh,yS];unfold cV at e1 ⊢;rw[yO];simp only[e',decide_false];exact e1
   ·let nx:cT (H x):=by rw[e3];exact λ_ z=>by cases z
    rw[zh,zh,yJ (by assumption)];refine{a,t,vs,rfl,?_,aC.upd nx h2,e4 y e iy};rw[aG (λz=>na.1 (by rw[z];exact e2))];exact h1
section
variable {C a:vm} {H:Hp} {S:cg} {o:Ow}
def bP.Ls (h:bP C H a S o) (n:Str):bP C (L2.upd H o.pl (.lst (S.az.map V.str++[.str n]))) a (bS S (.bO n)) o:=by
 let d:=Nd.of h.nd;let hp:=h.pl;let nx:cT (H o.pl):=by rw[hp];exact λ_ z=>by cases z
 let⟨_,_,ha,_⟩:=h.obj;let⟨_,hi,_⟩:=h.ins;let⟨_,hs,_⟩:=h.st;exact{h.DY nx (bx ha hp (fI rfl)),by rw[aE];show _=some (HO.lst ((S.az++[n]).map V.str));rw[zj];rfl,h.qS nx (bx hi hp (fI rfl)),h.EH nx (bx hs hp (fI rfl)),h.Gi nx d.pb.symm,
  h.IC nx (bx h.ho.1 hp (fI rfl)) d.ph,h.FD nx (bx h.no.1 hp (fI rfl)) d.pn,h.Fg nx d.pr.symm,h.nd,h.dd}
def bP.RN (h:bP C H a S o) {b:N2} {v:V} {vs:List V} (hb:H o.ba=some (.lst vs)) (il:aC H (S.aN.map ji) vs) (iv:Is H (ji b) v):bP C (L2.upd H o.ba (.lst (vs++[v]))) a (bS S (.bar b)) o:=by
 let d:=Nd.of h.nd;let nx:cT (H o.ba):=by rw[hb];exact λ_ z=>by cases z
 let⟨_,_,ha,_⟩:=h.obj;let⟨_,hi,_⟩:=h.ins;let⟨_,hs,_⟩:=h.st;refine{h.DY nx (bx ha hb (fI rfl)),h.Fl d.pb,h.qS nx (bx hi hb (fI rfl)),h.EH nx (bx hs hb (fI rfl)),{_,aE,?_},
  h.IC nx (bx h.ho.1 hb (fI rfl)) d.bh,h.FD nx (bx h.no.1 hb (fI rfl)) d.bn,h.Fg nx d.br.symm,h.nd,h.dd}
 show aC _ ((S.aN++[b]).map ji) _;rw[zj];exact cX (Is.upd nx iv) (aC.upd nx il)
def bP.RK (h:bP C H a S o) {r:Rep} {v:V} {vs:List V} (hb:H o.re=some (.lst vs)) (il:aC H (S.aH.map i6) vs) (iv:Is H (i6 r) v):bP C (L2.upd H o.re (.lst (vs++[v]))) a (bS S (.rep r)) o:=by
 let d:=Nd.of h.nd;let nx:cT (H o.re):=by rw[hb];exact λ_ z=>by cases z
 let⟨_,_,ha,_⟩:=h.obj;let⟨_,hi,_⟩:=h.ins;let⟨_,hs,_⟩:=h.st;refine{h.DY nx (bx ha hb (fI rfl)),h.Fl d.pr,h.qS nx (bx hi hb (fI rfl)),h.EH nx (bx hs hb (fI rfl)),h.Gi nx d.br,
  h.IC nx (bx h.ho.1 hb (fI rfl)) d.rh,h.FD nx (bx h.no.1 hb (fI rfl)) d.rn,{_,aE,?_},h.nd,h.dd}
 show aC _ ((S.aH++[r]).map i6) _;rw[zj];exact cX (Is.upd nx iv) (aC.upd nx il)
def Ae {n:Str} {ks:List Str} {vs:List V} (h:n∉ks):cV ((ks.map kS).zip vs) (kS n)=none:=by
 unfold cV;rw[Option.map_eq_none_iff,xO];intro x hx z;let e:=yb z;let m:=(wm hx).1;let⟨k,hk,ek⟩:=zF.mp m;rw[<-ek] at e;exact h ((wM e)▸hk)
def Qe (h:[o.ins,o.st,o.ho].Nodup):o.ins≠o.st/\o.ins≠o.ho/\o.st≠o.ho:=by
 simp only[ya,zB,zC,yQ,not_or] at h;exact{(h.1.1),h.1.2,h.2.1}
def bP.NK (h:bP C H a S o) {n:Str} {t l:Int×Int} {p:vm} {vs:List V} (hb:H o.ins=some (.dK ((S.aq.map λx=>kS x.1).zip vs))) (il:aC H (S.aq.map Jl) vs) (iv:Is H (Jl (n,t,l)) (.ref p))
  (fr:n∉S.aq.map (·.1)):bP C (L2.upd H o.ins (.dK (putK ((S.aq.map λx=>kS x.1).zip vs) (kS n) (.ref p)))) a (bS S (.cJ n t l)) o:=by
 let d:=Nd.of h.nd;let⟨d1,d2,d3⟩:=Qe h.dd;let nx:cT (H o.ins):=by rw[hb];exact λ_ z=>by cases z
 let⟨_,_,ha,_⟩:=h.obj;let⟨_,hba,_⟩:=h.ba;let⟨_,hre,_⟩:=h.re;let vl:=aQ il;let em:(S.aq.map λx=>kS x.1)=(S.aq.map (·.1)).map kS:=by rw[zz];rfl
 let hns:o.ins∉o.ns:=λz=>by
  let⟨_,q⟩:=cG h.no.2 z;rw[hb] at q;cases q
 let hhs:o.ins∉o.hs:=λz=>by
  let⟨_,q⟩:=cG h.ho.2 z;rw[hb] at q;cases q
 refine{h.DY nx (bx ha hb (fI rfl)),h.Fl (bx h.pl hb (fI rfl)),{vs++[.ref p],?_,?_},h.EH nx d1.symm,h.Gi nx (bx hba hb (fI rfl)),
  h.IC nx d2.symm hhs,h.FD nx (bx h.no.1 hb (fI rfl)) hns,h.Fg nx (bx hre hb (fI rfl)),h.nd,h.dd}
 ·rw[aE,qz (by rw[za];exact vl.symm) (by rw[em];exact Ae fr)]
  show _=some (HO.dK (((S.aq++[(n,t,l)]).map λx=>kS x.1).zip (vs++[.ref p])));rw[zj];rfl
 ·show aC _ ((S.aq++[(n,t,l)]).map Jl) _
  rw[zj];exact cX (Is.upd nx iv) (aC.upd nx il)
def bP.NI (h:bP C H a S o) {n:Str} {ps:List Str} {v:V} {vs:List V} (hb:H o.st=some (.dK ((S.aM.map λx=>kS x.1).zip vs))) (il:aC H (S.aM.map RG) vs) (iv:Is H (RG (n,ps)) v)
  (fr:n∉S.aM.map (·.1)):bP C (L2.upd H o.st (.dK (putK ((S.aM.map λx=>kS x.1).zip vs) (kS n) v))) a (bS S (.cR n ps)) o:=by
 let d:=Nd.of h.nd;let⟨d1,d2,d3⟩:=Qe h.dd;let nx:cT (H o.st):=by rw[hb];exact λ_ z=>by cases z
 let⟨_,_,ha,_⟩:=h.obj;let⟨_,hba,_⟩:=h.ba;let⟨_,hre,_⟩:=h.re;let vl:=aQ il;let em:(S.aM.map λx=>kS x.1)=(S.aM.map (·.1)).map kS:=by rw[zz];rfl
 let hns:o.st∉o.ns:=λz=>by
  let⟨_,q⟩:=cG h.no.2 z;rw[hb] at q;cases q
 let hhs:o.st∉o.hs:=λz=>by
  let⟨_,q⟩:=cG h.ho.2 z;rw[hb] at q;cases q
 refine{h.DY nx (bx ha hb (fI rfl)),h.Fl (bx h.pl hb (fI rfl)),h.qS nx d1,{vs++[v],?_,?_},h.Gi nx (bx hba hb (fI rfl)),
  h.IC nx d3.symm hhs,h.FD nx (bx h.no.1 hb (fI rfl)) hns,h.Fg nx (bx hre hb (fI rfl)),h.nd,h.dd}
 ·rw[aE,qz (by rw[za];exact vl.symm) (by rw[em];exact Ae fr)]
  show _=some (HO.dK (((S.aM++[(n,ps)]).map λx=>kS x.1).zip (vs++[v])));rw[zj];rfl
 ·show aC _ ((S.aM++[(n,ps)]).map RG) _
  rw[zj];exact cX (Is.upd nx iv) (aC.upd nx il)
def Ms {n:Int×Str} {ks:List (Int×Str)} {vs:List V} (h:n∉ks):cV ((ks.map kN).zip vs) (kN n)=none:=by
 unfold cV;rw[Option.map_eq_none_iff,xO];intro x hx z;let e:=yb z;let m:=(wm hx).1;let⟨k,hk,ek⟩:=zF.mp m;rw[<-ek] at e;unfold kN at e;simp at e;have:k=n:=Prod.ext e.1 e.2;exact h (this▸hk)
def bP.NJ (h:bP C H a S o) {b:Int} {pn:Str} {its:List Item} {q:vm} {us:List V} (hq:H q=some (.lst us)) (iq:aC H (its.map dN) us) (nq:q∉o.lists) (fr:(b,pn)∉S.aI.map (·.1)) :
  bP C (L2.upd H o.no (.dT (putK ((S.aI.map λx=>kN x.1).zip (o.ns.map V.ref)) (kN (b,pn)) (.ref q)))) a (bS S (.aI b pn its)) {o with ns:=o.ns++[q]}:=by
 let d:=Nd.of h.nd;let hb:=h.no.1;let nx:cT (H o.no):=by rw[hb];exact λ_ z=>by cases z
 let⟨ub,jm,ha,hub,hjm⟩:=h.obj;let⟨_,hi,_⟩:=h.ins;let⟨_,hs,_⟩:=h.st;let⟨_,hba,_⟩:=h.ba;let⟨_,hre,_⟩:=h.re;let em:(S.aI.map λx=>kN x.1)=(S.aI.map (·.1)).map kN:=by rw[zz];rfl
 let hns:o.no∉o.ns:=λz=>by
  let⟨_,q⟩:=cG h.no.2 z;rw[hb] at q;cases q
 let hhs:o.no∉o.hs:=λz=>by
  let⟨_,q⟩:=cG h.ho.2 z;rw[hb] at q;cases q
 let ll:⇑(o.ns.map V.ref)=⇑S.aI:=by
  have:∀{ls:List (List Item)} {as:List vm},b8 H dN ls as->⇑as=⇑ls:=by
   intro ls
   induction ls with
   | nil=>intro as z;unfold b8 at z;rw[z];rfl
   | cons l r ih=>rintro _ ⟨a,t,vs,rfl,_,_,h3⟩;rw[zt,zt,ih h3]
  rw[za,this h.no.2,za]
 let nn:q∉[o.pl,o.ba,o.re]/\q∉o.hs/\q∉o.ns:=by
  unfold Ow.lists at nq;rw[zE,zE] at nq;exact{λz=>nq (.inl (.inl z)),λz=>nq (.inl (.inr z)),λz=>nq (.inr z)}
 let⟨n1,n2,n3⟩:=nn;simp only[zB,zC,yQ,not_or] at n1;refine{{ub,jm,by rw[aG (bx ha hb (fI rfl))];exact ha,Is.upd nx hub,Is.upd nx hjm},h.Fl (bx h.pl hb (fI rfl)),h.qS nx (bx hi hb (fI rfl)),h.EH nx (bx hs hb (fI rfl)),h.Gi nx (bx hba hb (fI rfl)),
  h.IC nx (bx h.ho.1 hb (fI rfl)) hhs,{?_,?_},h.Fg nx (bx hre hb (fI rfl)),?_,h.dd}
 ·show L2.upd H o.no _ o.no=some (HO.dT (((S.aI++[((b,pn),its)]).map λx=>kN x.1).zip ((o.ns++[q]).map V.ref)))
  rw[aE,qz (by rw[za];exact ll.symm) (by rw[em];exact Ms fr),zj,zj];rfl
 ·show b8 _ dN ((S.aI++[((b,pn),its)]).map (·.2)) (o.ns++[q])
  rw[zj];exact b8.snoc (by rw[aG (bx hq hb (fI rfl))];exact hq) (aC.upd nx iq) (b8.upd nx hns h.no.2)
 ·refine Nd.to {d.pb,d.pr,d.ph,?_,d.br,d.bh,?_,d.rh,?_,d.hh,?_,?_}
  ·show o.pl∉o.ns++[q]
   rw[zE,zy];rintro(z | z)
   ·exact d.pn z
   ·exact n1.1 z.symm
  ·show o.ba∉o.ns++[q]
   rw[zE,zy];rintro(z | z)
   ·exact d.bn z
   ·exact n1.2.1 z.symm
  ·show o.re∉o.ns++[q]
   rw[zE,zy];rintro(z | z)
   ·exact d.rn z
   ·exact n1.2.2 z.symm
  ·show(o.ns++[q]).Nodup
   rw[zQ];exact{d.nn,by simp,λx hx y hy e=>by rw[zy] at hy;subst hy;subst e;exact n3 hx}
  ·intro x hx z
   let z':x∈o.ns++[q]:=z;rw[zE,zy] at z';rcases z' with z' | z'
   ·exact d.hn x hx z'
   ·subst z';exact n2 hx
def bP.Lr (h:bP C H a S o) {l:Int×Int} {v ub jm:V} (ha:H a=some (.ins C o.dx (QU o ub jm))) (ij:Is H (dO i7 S.bU) jm) (iv:Is H (dL l) v):bP C (L2.upd H a (.ins C o.dx (QU o v jm))) a (bS S (.aK l)) o:=by
 let nx:cT (H a):=by rw[ha];exact λ_ z=>by cases z
 let⟨_,hi,_⟩:=h.ins;let⟨_,hs,_⟩:=h.st;let⟨_,hba,_⟩:=h.ba;let⟨_,hre,_⟩:=h.re;let hns:a∉o.ns:=λz=>by
  let⟨_,q⟩:=cG h.no.2 z;rw[ha] at q;cases q
 let hhs:a∉o.hs:=λz=>by
  let⟨_,q⟩:=cG h.ho.2 z;rw[ha] at q;cases q
 exact{{v,jm,aE,Is.upd nx iv,Is.upd nx ij},h.Fl (bx h.pl ha (fI rfl)),h.qS nx (bx hi ha (fI rfl)),h.EH nx (bx hs ha (fI rfl)),h.Gi nx (bx hba ha (fI rfl)),
  h.IC nx (bx h.ho.1 ha (fI rfl)) hhs,h.FD nx (bx h.no.1 ha (fI rfl)) hns,h.Fg nx (bx hre ha (fI rfl)),h.nd,h.dd}
def bP.Qq (h:bP C H a S o) {j:Jump} {v ub jm:V} (ha:H a=some (.ins C o.dx (QU o ub jm))) (iu:Is H (dO dL S.aK) ub) (iv:Is H (i7 j) v):bP C (L2.upd H a (.ins C o.dx (QU o ub v))) a (bS S (.bU j)) o:=by
 let nx:cT (H a):=by rw[ha];exact λ_ z=>by cases z
 let⟨_,hi,_⟩:=h.ins;let⟨_,hs,_⟩:=h.st;let⟨_,hba,_⟩:=h.ba;let⟨_,hre,_⟩:=h.re;let hns:a∉o.ns:=λz=>by
  let⟨_,q⟩:=cG h.no.2 z;rw[ha] at q;cases q
 let hhs:a∉o.hs:=λz=>by
  let⟨_,q⟩:=cG h.ho.2 z;rw[ha] at q;cases q
 exact{{ub,v,aE,Is.upd nx iu,Is.upd nx iv},h.Fl (bx h.pl ha (fI rfl)),h.qS nx (bx hi ha (fI rfl)),h.EH nx (bx hs ha (fI rfl)),h.Gi nx (bx hba ha (fI rfl)),
  h.IC nx (bx h.ho.1 ha (fI rfl)) hhs,h.FD nx (bx h.no.1 ha (fI rfl)) hns,h.Fg nx (bx hre ha (fI rfl)),h.nd,h.dd}
def bP.Pq (h:bP C H a S o) {pn:Str} {q:vm} (hq:H q=some (.lst [])) (nq:q∉o.lists) (fr:pn∉S.holds.map (·.1)) :
  bP C (L2.upd H o.ho (.dK (putK ((S.holds.map λx=>kS x.1).zip (o.hs.map V.ref)) (kS pn) (.ref q)))) a {S with holds:=S.holds++[(pn,[])]} {o with hs:=o.hs++[q]}:=by
 let d:=Nd.of h.nd;let⟨d1,d2,d3⟩:=Qe h.dd;let hb:=h.ho.1;let nx:cT (H o.ho):=by rw[hb];exact λ_ z=>by cases z
 let⟨ub,jm,ha,hub,hjm⟩:=h.obj;let⟨_,hba,_⟩:=h.ba;let⟨_,hre,_⟩:=h.re;let em:(S.holds.map λx=>kS x.1)=(S.holds.map (·.1)).map kS:=by rw[zz];rfl
 let hns:o.ho∉o.ns:=λz=>by
  let⟨_,q⟩:=cG h.no.2 z;rw[hb] at q;cases q
 let hhs:o.ho∉o.hs:=λz=>by
  let⟨_,q⟩:=cG h.ho.2 z;rw[hb] at q;cases q
 let ll:⇑(o.hs.map V.ref)=⇑S.holds:=by
  have:∀{ls:List (List (Int×Str))} {as:List vm},b8 H JM ls as->⇑as=⇑ls:=by
   intro ls
   induction ls with
   | nil=>intro as z;unfold b8 at z;rw[z];rfl
   | cons l r ih=>rintro _ ⟨a,t,vs,rfl,_,_,h3⟩;rw[zt,zt,ih h3]
  rw[za,this h.ho.2,za]
 let nn:q∉[o.pl,o.ba,o.re]/\q∉o.hs/\q∉o.ns:=by
  unfold Ow.lists at nq;rw[zE,zE] at nq;exact{λz=>nq (.inl (.inl z)),λz=>nq (.inl (.inr z)),λz=>nq (.inr z)}
 let⟨n1,n2,n3⟩:=nn;simp only[zB,zC,yQ,not_or] at n1;refine{{ub,jm,by rw[aG (bx ha hb (fI rfl))];exact ha,Is.upd nx hub,Is.upd nx hjm},h.Fl (bx h.pl hb (fI rfl)),h.qS nx d2,h.EH nx d3,h.Gi nx (bx hba hb (fI rfl)),
  {?_,?_},h.FD nx (bx h.no.1 hb (fI rfl)) hns,h.Fg nx (bx hre hb (fI rfl)),?_,h.dd}
 ·show L2.upd H o.ho _ o.ho=some (HO.dK (((S.holds++[((pn,[]):Str×List (Int×Str))]).map λx:Str×List (Int×Str)=>kS x.1).zip ((o.hs++[q]).map V.ref)))
  rw[aE,qz (by rw[za];exact ll.symm) (by rw[em];exact Ae fr),zj,zj];rfl
 ·show b8 _ JM ((S.holds++[((pn,[]):Str×List (Int×Str))]).map λx:Str×List (Int×Str)=>x.2) (o.hs++[q])
  rw[zj];exact b8.snoc (vs:=[]) (by rw[aG (bx hq hb (fI rfl))];exact hq) (by show aC _ [] [];unfold aC;rfl) (b8.upd nx hhs h.ho.2)
 ·refine Nd.to {d.pb,d.pr,?_,d.pn,d.br,?_,d.bn,?_,d.rn,?_,d.nn,?_}
  ·show o.pl∉o.hs++[q]
   rw[zE,zy];rintro(z | z)
   ·exact d.ph z
   ·exact n1.1 z.symm
  ·show o.ba∉o.hs++[q]
   rw[zE,zy];rintro(z | z)
   ·exact d.bh z
   ·exact n1.2.1 z.symm
  ·show o.re∉o.hs++[q]
   rw[zE,zy];rintro(z | z)
   ·exact d.rh z
   ·exact n1.2.2 z.symm
  ·show(o.hs++[q]).Nodup
   rw[zQ];exact{d.hh,by simp,λx hx y hy e=>by rw[zy] at hy;subst hy;subst e;exact n2 hx}
  ·intro x hx z
   let hx':x∈o.hs++[q]:=hx;rw[zE,zy] at hx';rcases hx' with hx' | hx'
   ·exact d.hn x hx' z
   ·subst hx';exact n3 z
def bP.nJ (h:bP C H a S o) {pn:Str} (nk:(S.holds.map (·.1)).Nodup) (hm:pn∈S.holds.map (·.1)) :
  ∃x vs,cV ((S.holds.map λx=>kS x.1).zip (o.hs.map V.ref)) (kS pn)=some (.ref x)/\x∈o.hs/\H x=some (.lst vs)/\∀y b i,Is H (JM (b,i)) y->bP C (L2.upd H x (.lst (vs++[y]))) a (bS S (.holds pn b i)) o:=by
 let d:=Nd.of h.nd;let⟨x,vs,e1,e2,e3,e4⟩:=Ee pn h.ho.2 d.hh nk hm;refine{x,vs,e1,e2,e3,λy b i iy=>?_};let nx:cT (H x):=by rw[e3];exact λ_ z=>by cases z
 let⟨ub,jm,ha,hub,hjm⟩:=h.obj;let⟨_,hi,_⟩:=h.ins;let⟨_,hs,_⟩:=h.st;let ea:bS S (.holds pn b i)={S with holds:=S.holds.map λq:Str×List (Int×Str)=>if q.1=pn then(q.1,q.2++[(b,i)]) else q}:=by
  show({S with holds:=eU S.holds pn (b,i)}:cg)=_;unfold eU;rw[yK hm]
 rw[ea];refine{h.DY nx (bx ha e3 (fI rfl)),h.Fl (λz=>d.ph (by rw[z];exact e2)),h.qS nx (bx hi e3 (fI rfl)),h.EH nx (bx hs e3 (fI rfl)),h.Gi nx (λz=>d.bh (by rw[z];exact e2)),
  {?_,e4 y (b,i) (Is.upd nx iy)},h.FD nx (bx h.no.1 e3 (fI rfl)) (d.hn x e2),h.Fg nx (λz=>d.rh (by rw[z];exact e2)),h.nd,h.dd}
 rw[aG (bx h.ho.1 e3 (fI rfl)),h.ho.1];show _=some (HO.dK (((S.holds.map λq:Str×List (Int×Str)=>if q.1=pn then(q.1,q.2++[(b,i)]) else q).map λx:Str×List (Int×Str)=>kS x.1).zip _));rw[zz];have:(S.holds.map λx:Str×List (Int×Str)=>kS x.1)=S.holds.map ((λx:Str×List (Int×Str)=>kS x.1)∘λq:Str×List (Int×Str)=>if q.1=pn then(q.1,q.2++[(b,i)]) else q):=by
  refine xq λq _=>?_;show kS q.1=kS (if q.1=pn then((q.1,q.2++[(b,i)]):Str×List (Int×Str)) else q).1;split <;> rfl
 rw[this]
end
end Sc
namespace L2
open PySem PySem.Spec PyProof.Rows
noncomputable def noStar:Expr->Bool
 | .Starred ..=>false
 | _=>true
def m8 (h:noStar e=true):starEach (e::es) env=(false,eval e env)::starEach es env:=by
 cases e <;> first | rfl | cases h
def ae (ha:PE X e te) (hr:PA X es t) (hs:noStar e=true<|>qe_):PA X (e::es) (bD te t):=af ha hr (m8 hs)
end L2
namespace Sc
open PySem L2 Lm
def lq (F:Nat->Dt) (Pσ:St->Prop) (hn:n<=sizeLine) (h0:Pσ U₀)
  (turn:∀(i:Nat) (U:St) (H:Hp) (R:St->V->Hp->Prop),i<n->aF H1 H->Pσ U->(∀σ3 y H5,aF H H5->Is H5 (F i) y->Pσ σ3->R σ3 y H5)->g (.int (lo+i)) U H λσ3 H3=>te σ3 H3 λy H5=>R σ3 y H5)
  (fin:∀D vs H,aF H1 H->H1 D=none->H D=some (.lst vs)->aC H ((List.range n).map F) vs->Q (.ref D) H):dg U₀ g pT te Q (N8 lo n) H1:=by
 refine mY (ws:=List.range n) (enc:=λi=>.int (lo+(i:Nat))) F Pσ (by rw[zP];exact hn) h0 (λi H hi _=>by rw[zP] at hi;exact hi) (λH _=>by rw[zP];exact zk _) ?_ ?_ fin
 ·rintro i x H H2 hi _ ⟨rfl,rfl⟩
  exact{rfl,by rw[List.getElem_range]}
 ·intro i U H R hi s p r
  exact turn i U H R (yN.mp hi) s p r
def dM {c:Bool} {T:(Bool->Hp->Prop)->Prop} {Z:Bool->Hp->Prop} {H:Hp} (v:Bool) (h1:c=true->∀Z,Z v H->T Z) (h2:c=false->v=false) (hz:Z v H):if c=true then T Z else Z false H:=by
 cases c with
 | true=>rw[yK rfl];exact h1 rfl Z hz
 | false=>rw[yJ (by simp)];rw[<-h2 rfl];exact hz
def GX:List (Int×Int)->TA
 | []=>d4
 | p::r=>bD (Ao (bD (tC (.int p.1)) (bD (tC (.int p.2)) d4))) (GX r)
theorem O9:∀{ps:List (Int×Int)} {H:Hp} {R:List V->Hp->Prop},(∀vs H',aF H H'->aC H' (ps.map dL) vs->R vs H')->GX ps U H R
 | [],H,R,h=>h [] H (aD _) c9
 | p::r,H,R,h=>by
  let sl:=yy;refine{by show 2<=sizeLine;ext,λq hq=>?_};refine O9 λvs H' s' il=>?_;let s1:=bz (o:=HO.tup [.int p.1,.int p.2]) hq;exact h _ _ (s1.trans s') (aU (ig (s' _ _ aE)) il)
def VM (ps:List (Int×Int)):TE:=λ_ H Q=>∀D vs H',aF H H'->H' D=some (.lst vs)->aC H' (ps.map dL) vs->Q (.ref D) H'
def Rl (hl:⇑ps<=1000) (h:VM ps U H Q):JZ (GX ps) U H Q:=by
 let sl:=yy;refine O9 λvs H' s' il=>{by have:=aQ il;ext,λD hD=>?_}
 exact h D vs _ (s'.trans (bz hD)) aE (il.mono (bz hD))
def Tr:PA X [] (GX []):=ag
def U3 (h:PA X es (GX r)):PA X (.Tuple [.Constant (.int a) x1 p1,.Constant (.int b) x2 p2] k pos::es) (GX ((a,b)::r)):=
 af (aW (af aa (af aa ag (m8 rfl)) (m8 rfl))) h (m8 rfl)
def Tn (h:PA X es (GX ps)) (hl:⇑ps<=1000<|>qb_):PE X (.List es pos) (VM ps):=by
 intro pins s U H Q I hq;exact bg h s U H Q I (Rl hl hq)
def nU (h:xs[⇑xs-1]?=some x):vJ xs (-1)=some x:=by
 let hp:0<⇑xs:=by
  have:=(zw.mp h).1;ext
 let ne:xs≠[]:=yo.mp hp;let e:=xR ne;let e2:xs.getLast ne=x:=by
  have:=(zw.mp h).2;rw[List.getLast_eq_getElem];exact this
 rw[<-e,e2];exact L2.B4 _ _
theorem IA:∀l:List Str,aC H (l.map Dt.str) (l.map V.str)
 | []=>c9
 | x::r=>aU eW (IA r)
def vY (h:Is H (ji b) v):∃a m q,v=.ref a/\H a=some (.tup [m,.int b.key,.ref q])/\Is H (dL b.aP) m/\H q=some (.tup (b.marks.map V.str)):=by
 unfold ji Is at h;let⟨a,vs,rfl,ha,hl⟩:=h;unfold aC at hl;let⟨v1,r1,rfl,h1,hl⟩:=hl;unfold aC at hl;let⟨v2,r2,rfl,h2,hl⟩:=hl;unfold aC at hl;let⟨v3,r3,rfl,h3,hl⟩:=hl;unfold aC at hl;subst hl;unfold Is at h2;subst h2;unfold lW Is at h3;let⟨q,us,rfl,hq,hle⟩:=h3;rw[dG hle] at hq;exact{(a),v1,q,rfl,ha,h1,hq}
noncomputable def lets:Str:="abcdefghijklmnopqrstuvwxyz"
def PD:∀j:Fin 26,lets.cps.toList[j.val]?=some (97+j.val):=by decide
def L3 (h0:0<=i) (h:i<26):vJ lets.cps.toList i=some (97+i.toNat):=by
 let⟨j,rfl⟩:=yH h0;exact bq (PD {(j),()})
def QQ:∀j:Fin 36,(lets ++"0123456789").cps.toList[j.val]?=some (sgn.getD j.val 0)/\sgn.getD j.val 0∈sgn:=by decide
def S5 (h0:0<=i) (h:i<36):∃c,c∈sgn/\vJ (lets ++"0123456789").cps.toList i=some c:=by
 let⟨j,rfl⟩:=yH h0;have:=QQ {(j),()};exact{_,this.2,bq this.1}
noncomputable def QR (i:Int):Nat:=(vJ (lets ++"0123456789").cps.toList i).getD 0
def OL (h0:0<=i) (h:i<36):vJ (lets ++"0123456789").cps.toList i=some (QR i)/\QR i∈sgn:=by
 let⟨c,h1,h2⟩:=S5 h0 h;unfold QR;rw[h2];exact{(rfl),h1}
def L4:∀j:Fin 26,97+j.val∈sgn:=by decide
def PF {i:Int} (h0:0<=i) (h:i<26):97+i.toNat∈sgn:=L4 {(i.toNat),()}
def R9 (h1:1<=⇑n) (h2:⇑n<=12) (h3:∀c∈n.cps.toList,c∈sgn):gb n:=by
 unfold gb cI;rw[yJ (),yJ (),yK (ym.mpr λc hc=>ze (h3 c hc))]
def JI (ns:List Str):Prop:=(∀n∈ns,gb n)/\ns.Nodup
theorem sT:∀{l:List α},l.Nodup->(∀x∈l,∀y∈l,f x=f y->x=y)->(l.map f).Nodup
 | [],_,_=>xW
 | x::r,h,k=>by
  rw[ya] at h;rw[zh,ya];refine{λz=>?_,sT h.2 λa ha b hb e=>k a (zm _ ha) b (zm _ hb) e};let⟨y,hy,e⟩:=zF.mp z;have:=k y (zm _ hy) x zp e;subst this;exact h.1 hy
def MX (hm:m<=12) (hc:c∈sgn):JI ((List.range m).map λk=>oU {#[c]} (m-k)):=by
 let el:∀k,⇑(oU {#[c]} k)=k:=λk=>by rw[HK];exact Nat.mul_one k
 refine{λn hn=>?_,sT List.nodup_range λx hx y hy e=>?_}
 ·let⟨k,hk,rfl⟩:=zF.mp hn
  have:=yN.mp hk;refine R9 (by rw[el];ext) (by rw[el];ext) λd hd=>?_;rw[qo] at hd;let⟨l,hl,hd⟩:=x9.mp hd;rw[List.mem_replicate] at hl;rw[hl.2] at hd;have:d=c:=by simpa using hd
  rw[this];exact hc
 ·have:=yV Str.length e
  rw[el,el] at this;have:=yN.mp hx;have:=yN.mp hy;ext
def KC {stem:Str} {pl first m:Nat} (hs:⇑stem<=11) (hp:pl<=⇑stem) (hc:∀c∈stem.cps.toList,c∈sgn) (hm:m<=26) :
  JI ((List.range m).map λk=>Txt.slice stem none (some (pl:Int))++{#[97+(first+5*k)%26]}++Txt.slice stem (some (pl:Int)) none):=by
 let sl:⇑stem.cps.toList=⇑stem:=yM;let cp:∀k,(Txt.slice stem none (some (pl:Int))++{#[97+(first+5*k)%26]}++Txt.slice stem (some (pl:Int)) none).cps.toList=stem.cps.toList.take pl++[97+(first+5*k)%26]++stem.cps.toList.drop pl:=λk=>by
  rw[cF,cF,Hl stem hp,oM stem hp]
 refine{λn hn=>?_,sT List.nodup_range λx hx y hy e=>?_}
 ·let⟨k,hk,rfl⟩:=zF.mp hn
  let el:⇑(Txt.slice stem none (some (pl:Int))++{#[97+(first+5*k)%26]}++Txt.slice stem (some (pl:Int)) none)=⇑stem+1:=by
   rw[<-show _=⇑(Txt.slice stem none (some (pl:Int))++{#[97+(first+5*k)%26]}++Txt.slice stem (some (pl:Int)) none) from yM,cp,zg,zg,zO,xw,List.length_singleton];ext
  refine R9 () () λd hd=>?_;rw[cp,zE,zE,zy] at hd;rcases hd with(hd | hd) | hd
  ·exact hc d (List.mem_of_mem_take hd)
  ·rw[hd];exact L4 {(first+5*k)%26,wY _ ∅}
  ·exact hc d (List.mem_of_mem_drop hd)
 ·let q:(Txt.slice stem none (some (pl:Int))++{#[97+(first+5*x)%26]}++Txt.slice stem (some (pl:Int)) none).cps.toList=(Txt.slice stem none (some (pl:Int))++{#[97+(first+5*y)%26]}++Txt.slice stem (some (pl:Int)) none).cps.toList:=by rw[e]
  rw[cp,cp,zD,zD] at q;let q2:=List.append_cancel_left q;simp at q2;have:=yN.mp hx;have:=yN.mp hy;ext
theorem qO:∀zs:List Str,(Str.join "" zs).cps.toList=(zs.map λz:Str=>z.cps.toList).flatten
 | []=>rfl
 | [z]=>by rw[join_one];simp
 | z::y::r=>by
  rw[eR,cF,cF,qO (y::r)];show z.cps.toList++[]++_=_;rw[zT];rfl
noncomputable def mC (c:Int) (n:Nat):List Str:=(List.range n).map λk=>{#[QR ((c/16224+7*(0+(k:Nat)))%36)]}
theorem IG (f:α->β):∀l:List α,((l.map f).map λx=>[x]).flatten=l.map f
 | []=>rfl
 | x::r=>by rw[zh,zh,zY,IG f r];rfl
def GZ (c:Int) (n:Nat):(Str.join "" (mC c n)).cps.toList=(List.range n).map λk:Nat=>QR ((c/16224+7*(0+(k:Nat)))%36):=by
 rw[qO];unfold mC;rw[zz];have:=IG (λk:Nat=>QR ((c/16224+7*(0+(k:Nat)))%36)) (List.range n);rw[zz] at this;exact this
def OH (c:Int) (n:Nat):(Str.join "" (mC c n)).length=n:=by
 rw[<-show _=(Str.join "" (mC c n)).length from yM,GZ,za,zP]
def OG:∀d∈(Str.join "" (mC c n)).cps.toList,d∈sgn:=λd hd=>by
 rw[GZ] at hd;let⟨k,_,rfl⟩:=zF.mp hd;exact(OL (zv _ ∅) (zr _ ∅)).2
def OF (c:Int) (n:Nat):((mC c n).map (λz:Str=>⇑z+("": Str).length)).sum=n:=by
 unfold mC;rw[zz];have:((λz:Str=>⇑z+("": Str).length)∘λk:Nat=>({#[QR ((c/16224+7*(0+(k:Nat)))%36)]}:Str))=λ_=>1:=rfl;rw[this,List.map_const',List.sum_replicate_nat,zP,Nat.mul_one]
def QN {a b:TS} {D:Ends} {U:St} {H:Hp} (h:∀Z:Ends,(∀U H,b D U H->Z.nx U H)->(∀v H,D.rt v H->Z.rt v H)->a Z U H):QJ a b D U H:=h {D with nx:=b D} (λ_ _ z=>z) λ_ _ z=>z
end Sc
namespace Sc
open PySem L2 Lm
def bF (n:H D=none) (s:aF H H2):aF H (L2.upd H2 D u):=λb v hb=>by
 rw[aG (λz=>by rw[z,n] at hb;cases hb)];exact s b v hb
def GF (its:List Item) (x:Int×Int):Prop:=⇑its<=40/\(∀it∈its,NX it)/\jJ its=x/\its.all (λit=>it.1.isNone)=false
def NW (x:Int×Int):Prop:=Lm.Rd x/\0<x.1/\x.1<=32/\x.2<=160
def J0 (l:List Item) (it:Item):jJ (l++[it])=add (jJ l) it.2:=by unfold jJ;rw[zW];rfl
def OB {x:Int×Int} (hx:0<x.2) {W:Int} (hW:0<W) {l:List Item} {t w:Int} {it:Item} (h:jJ l=red (x.1*t) (x.2*W)) (e:it.2=red (x.1*w) (x.2*W)):jJ (l++[it])=red (x.1*(t+w)) (x.2*W):=by
 let hb:0<x.2*W:=xt hx hW;rw[J0,h,e,RM hb hb,<-qp hb hb (t:=x.1*(t+w))]
 congr 1
 rw[<-Int.add_mul,<-Int.mul_add,xx]
def OC {x:Int×Int} (hx:0<x.2) {W:Int} (hW:0<W):jJ []=red (x.1*0) (x.2*W):=by
 let hb:0<x.2*W:=xt hx hW;show((0,1):Int×Int)=_;rw[Int.mul_zero];have:=qp (t:=0) (b:=1) (k:=x.2*W) hb ∅;rw[Int.mul_zero,Int.mul_one] at this;rw[this];decide
def My (hx:Lm.Rd x) (hW:0<W):red (x.1*W) (x.2*W)=x:=by
 let⟨_,p2,p3⟩:=hx.pos;rw[xx x.1,xx x.2,qp hW p2,p3]
def Pz (h:NW x) (w1:1<=w) (w2:w<=4) (W1:1<=W) (W2:W<=24):QD (red (x.1*w) (x.2*W)):=by
 let⟨hr,h1,h2,h3⟩:=h;let⟨_,p2,_⟩:=hr.pos;let a1:0<x.1*w:=xt h1 ();let a2:x.1*w<=32*4:=xY h2 w2 () ∅;let b1:0<x.2*W:=xt p2 ();let b2:x.2*W<=160*24:=xY h3 W2 () ∅;let⟨g,g1,g2,g3,g4,g5⟩:=kF (t:=x.1*w) b1;let r1:=AW (t:=x.1*w) (b:=x.2*W) (yZ a1);refine{Lm.Rd.of (yZ a1) b1,?_,(),()};let r0:=AV (t:=x.1*w) (b:=x.2*W) (yZ a1);rcases Int.lt_or_eq_of_le r0 with z | z
 ·exact z
 ·rw[<-z,Int.mul_zero] at g2;ext
noncomputable def rF (m:Int) (n:Nat):List Int:=(List.range n).map λj=>1+m/(7+5*(0+(j:Nat)))%4
def QG (m:Int) (n:Nat):⇑(rF m n)=n:=by unfold rF;rw[za,zP]
def JQ (h:w∈rF m n):1<=w/\w<=4:=by
 unfold rF at h;let⟨j,_,rfl⟩:=zF.mp h;let a:=zv (m/(7+5*(0+(j:Int)))) (b:=4) ∅;let b:=zr (m/(7+5*(0+(j:Int)))) (b:=4) ∅;ext
theorem OD:∀{l:List Int},(∀w∈l,1<=w/\w<=4)->(⇑l:Int)<=l.sum/\l.sum<=4*⇑l
 | [],_=>by simp
 | w::r,h=>by
  let ih:=OD (l:=r) λz hz=>h z (zm _ hz);have:=h w zp;rw[wK,zt];ext
def MS (m:Int):Qt (m%41-20,7*(m%41-20)%12+(m/41%14-7)*12):=by
 let a:=zv m (b:=41) ∅;let b:=zr m (b:=41) ∅;let c:=zv (m/41) (b:=14) ∅;let d:=zr (m/41) (b:=14) ∅;unfold Qt;dsimp only;ext
def join {c:Bool} {t1 t2:TS} {D:Ends} {U:St} {H:Hp} (P:St->Hp->Prop) (ha:∀N:St->Hp->Prop,(∀U H,P U H->N U H)->c=true->t1 {D with nx:=N} U H)
  (hb:∀N:St->Hp->Prop,(∀U H,P U H->N U H)->c=false->t2 {D with nx:=N} U H) (hN:∀U H,P U H->D.nx U H):if c=true then t1 D U H else t2 D U H:=by
 cases c with
 | true=>rw[yK rfl];exact ha D.nx hN rfl
 | false=>rw[yJ (by simp)];exact hb D.nx hN rfl
def RL (R:α->V->Prop):List α->List V->Prop
 | [],vs=>vs=[]
 | x::xs,vs=>∃v r,vs=v::r/\R x v/\RL R xs r
theorem RL.imp {α:Type} {R R':α->V->Prop} (h:∀x v,R x v->R' x v):∀{xs:List α} {vs:List V},RL R xs vs->RL R' xs vs
 | [],_,e=>e
 | _::_,_,⟨v,r,e,h1,h2⟩=>{v,r,e,h _ _ h1,RL.imp h h2}
theorem RL.snoc {α:Type} {R:α->V->Prop} {x:α} {v:V} (h:R x v):∀{xs:List α} {vs:List V},RL R xs vs->RL R (xs++[x]) (vs++[v])
 | [],_,e=>by unfold RL at e;subst e;exact{v,[],rfl,h,rfl}
 | _::_,_,⟨u,r,e,h1,h2⟩=>by subst e;exact{u,r++[v],rfl,h1,RL.snoc h h2}
theorem RL.len:∀{xs:List α} {vs:List V},RL R xs vs->⇑vs=⇑xs
 | [],_,e=>by unfold RL at e;rw[e];rfl
 | _::_,_,⟨u,r,e,_,h2⟩=>by rw[e,zt,zt,RL.len h2]
theorem RL.at:∀{xs:List α} {vs:List V} {i:Nat} {v:V},RL R xs vs->vs[i]?=some v->∃x,xs[i]?=some x/\R x v
 | [],_,_,_,e,h=>by unfold RL at e;subst e;simp at h
 | x::_,_,0,_,⟨u,r,e,h1,_⟩,h=>by subst e;simp at h;subst h;exact{(x),rfl,h1}
 | _::_,_,i+1,_,⟨u,r,e,_,h2⟩,h=>by subst e;simpa using RL.at (i:=i) h2 (by simpa using h)
inductive jg (D:vm) (H:Hp) (x:Str×List (Int×Str)) (v:V):Prop
 | mk (a r:vm) (us:List V) (_:v=.ref a) (_:H a=some (.tup [.str x.1,.ref r])) (_:H r=some (.lst us)) (_:aC H (x.2.map JM) us) (_:r≠D)
theorem jg.mono (s:aF H H') (h:jg D H x v):jg D H' x v:=by
 let⟨a,r,us,h1,h2,h3,h4,h5⟩:=h;exact{a,r,us,h1,s _ _ h2,s _ _ h3,h4.mono s,h5}
theorem jg.upd (hD:H D=some (.lst vs)) (h:jg D H x v):jg D (L2.upd H D o) x v:=by
 let⟨a,r,us,h1,h2,h3,h4,h5⟩:=h;let nt:cT (H D):=by rw[hD];exact λ_ z=>by cases z
 exact{a,r,us,h1,by rw[aG (Sc.bx h2 hD (fI rfl))];exact h2,by rw[aG h5];exact h3,aC.upd nt h4,h5}
inductive gW (D:vm) (H:Hp) (x:(Int×Str)×List Item) (v:V):Prop
 | mk (a q:vm) (us:List V) (_:v=.ref a) (_:H a=some (.tup [.int x.1.1,.str x.1.2,.ref q])) (_:H q=some (.lst us)) (_:aC H (x.2.map dN) us) (_:q≠D)
theorem gW.mono (s:aF H H') (h:gW D H x v):gW D H' x v:=by
 let⟨a,r,us,h1,h2,h3,h4,h5⟩:=h;exact{a,r,us,h1,s _ _ h2,s _ _ h3,h4.mono s,h5}
theorem gW.upd (hD:H D=some (.lst vs)) (h:gW D H x v):gW D (L2.upd H D o) x v:=by
 let⟨a,r,us,h1,h2,h3,h4,h5⟩:=h;let nt:cT (H D):=by rw[hD];exact λ_ z=>by cases z
 exact{a,r,us,h1,by rw[aG (Sc.bx h2 hD (fI rfl))];exact h2,by rw[aG h5];exact h3,aC.upd nt h4,h5}
def Mn (ins:List Str) (many:Int) (row:List (Int×Str)):Prop:=row≠[]/\⇑row<=4/\(row.map (·.1)).Pairwise (·<·)/\∀h∈row,0<=h.1/\h.1<many/\h.2∈ins
noncomputable def eV (S:cg):List Told:=
 S.az.map .bO++(S.aq.map λx=>.cJ x.1 x.2.1 x.2.2)++(S.aM.map λx=>.cR x.1 x.2)++S.aN.map .bar++S.aK.toList.map .aK ++
 (S.holds.map λx=>x.2.map λh=>Told.holds x.1 h.1 h.2).flatten++(S.aI.map λx=>.aI x.1.1 x.1.2 x.2)++(S.aH.map .rep++S.bU.toList.map .bU)
inductive m7 (H:Hp) (p:vm) (S:cg):Prop
 | mk (pl il sl bl hl nl rl:vm) (ub jm:V) (iv sv bv hv nv rv:List V) (_:H p=some (.tup [.ref pl,.ref il,.ref sl,.ref bl,ub,.ref hl,.ref nl,.ref rl,jm])) (_:H pl=some (.lst (S.az.map V.str)))
  (_:H il=some (.lst iv)/\aC H (S.aq.map eC) iv) (_:H sl=some (.lst sv)/\aC H (S.aM.map kZ) sv) (_:H bl=some (.lst bv)/\aC H (S.aN.map ji) bv) (_:Is H (dO dL S.aK) ub)
  (_:H hl=some (.lst hv)/\RL (jg hl H) S.holds hv) (_:H nl=some (.lst nv)/\RL (gW nl H) S.aI nv) (_:H rl=some (.lst rv)/\aC H (S.aH.map i6) rv) (_:Is H (dO i7 S.bU) jm)
def m7.at' {H:Hp} {p:vm} {S:cg} (h:m7 H p S):m7 H p S:=h
theorem m7.mono (s:aF H H') (h:m7 H p S):m7 H' p S:=by
 let⟨pl,il,sl,bl,hl,nl,rl,ub,jm,iv,sv,bv,hv,nv,rv,h1,h2,h3,h4,h5,h6,h7,h8,h9,ha⟩:=h;exact{pl,il,sl,bl,hl,nl,rl,ub,jm,iv,sv,bv,hv,nv,rv,s _ _ h1,s _ _ h2,{s _ _ h3.1,h3.2.mono s},{s _ _ h4.1,h4.2.mono s},{s _ _ h5.1,h5.2.mono s},h6.mono s,{s _ _ h7.1,h7.2.imp λx v z=>z.mono s},{s _ _ h8.1,h8.2.imp λx v z=>z.mono s},{s _ _ h9.1,h9.2.mono s},ha.mono s}
def bI (h1:-10000<n) (h2:n<10000):⇑(dec n)<=5:=by
 by_cases h:0<=n
 ·have:=IV h h2;ext
 ·rw[Aa (),bT]
  have:=IV (n:=-n) () ();have:("-": Str).length=1:=rfl;ext
def bV (h1:-10000<n) (h2:n<10000):n.natAbs.log2<1920:=by
 by_cases z:n.natAbs=0
 ·rw[z];decide
 ·exact z9 ((Nat.log2_lt z).mpr (show n.natAbs<2^14 by ext)) ∅
def j9 (h1:-10000<x.1) (h2:x.1<10000) (h3:-10000<x.2) (h4:x.2<10000):⇑(ic x)<=11:=by
 unfold ic;let a:=bI h1 h2;let b:=bI h3 h4;split
 ·ext
 ·rw[bT,bT]
  have:("/": Str).length=1:=rfl;ext
def M5 (h:NX it):⇑(pA it)<=30:=by
 let⟨o,x⟩:=it;let⟨⟨hr,h1,h2,h3⟩,hq⟩:=h;let⟨_,p2,_⟩:=hr.pos;dsimp only at h1 h2 h3 p2 hq;let lx:=j9 (x:=x) () h2 () h3;cases o with
 | none=>
  show("r:" ++ ic x).length<=30;rw[bT];have:("r:": Str).length=2:=rfl;ext
 | some q=>
  let⟨q1,q2,q3,q4,_⟩:=hq q rfl;let a:=bI (n:=q.1) () ();let b:=bI (n:=q.2) () ();show(dec q.1 ++":" ++ dec q.2 ++":" ++ ic x).length<=30;rw[bT,bT,bT,bT];have:(":": Str).length=1:=rfl;ext
theorem oG {sep:Str} {k:Nat}:∀{zs:List Str},(∀z∈zs,⇑z<=k)->(zs.map (λz:Str=>⇑z+⇑sep)).sum<=⇑zs*(k+⇑sep)
 | [],_=>by simp
 | z::r,h=>by
  let ih:=oG (sep:=sep) (zs:=r) λy hy=>h y (zm _ hy);have:=h z zp;rw[zh,wK,zt,Nat.succ_mul];ext
theorem join_le (sep:Str):∀zs:List Str,⇑(Str.join sep zs)<=(zs.map (λz:Str=>⇑z+⇑sep)).sum
 | []=>zk _
 | [z]=>by rw[join_one];simp
 | z::y::r=>by
  let ih:=join_le sep (y::r);rw[eR,bT,bT,zh,wK];ext
def Bo (h:∀z∈zs,⇑z<=k):⇑(Str.join sep zs)<=⇑zs*(k+⇑sep):=zK (join_le sep zs) (oG h)
def NT (r:Rep):Prop:=Sl (.rep r)/\⇑r.ends<=9/\∀e∈r.ends,⇑e.2<=9
def IL (h:Xa e) (hl:⇑e.2<=9):⇑(oj e)<=60:=by
 let⟨h1,h2,h3,h4⟩:=h;let a:=bI (n:=e.1) () ();let b:(Str.join "," (e.2.map dec)).length<=⇑(e.2.map dec)*(5+(",": Str).length):=Bo λz hz=>by
  let⟨p,hp,rfl⟩:=zF.mp hz;have:=h4 p hp;exact bI () ()
 let l1:(":": Str).length=1:=rfl;let l2:(",": Str).length=1:=rfl;rw[za,l2] at b;unfold oj;rw[bT,bT];ext
def LU (h1:ns.Perm l) (h2:ns.Pairwise (·<=·)):sortI l=ns:=by
 unfold sortI;refine(List.Perm.eq_of_pairwise (le:=λa b:Int=>a<=b) (λa b _ _ x y=>Int.le_antisymm x y) h2 ?_ (h1.trans (List.mergeSort_perm _ _).symm)).symm;have:=List.pairwise_mergeSort (le:=λa b:Int=>decide (a<=b)) (λa b c x y=>by simp at x y ⊢;ext) (λa b=>by simp;ext) l;exact this.imp λh=>yb h
theorem BA:∀{es:List End} {a:Int} {ps:List Int},(es.map (·.1)).Pairwise (·<·)->(∀e∈es,a<e.1)->(∀e∈es,e.2.Pairwise (·<=·))->fP es a ps=some (((es.map (·.1)).getLast?).getD a,ps++(es.map (·.2)).flatten)
 | [],a,ps,_,_,_=>by simp[fP]
 | e::r,a,ps,h1,h2,h3=>by
  rw[zh,y4] at h1;let ih:=BA (es:=r) (a:=e.1) (ps:=ps++e.2) h1.2 (λx hx=>h1.1 _ (zN (f:=λy:End=>y.1) hx)) (λx hx=>h3 x (zm _ hx));show(if e.1<=a then none else if e.2≠sortI e.2 then none else fP r e.1 (ps++e.2))=_;let c1:=h2 e zp;rw[yJ (),yJ (λz=>z (LU (List.Perm.refl _) (h3 e zp)).symm),ih,zh,zh,zY,zD]
  congr 2
  cases r with
  | nil=>rfl
  | cons x t=>rw[zh,List.getLast?_cons_cons,List.getLast?_cons];rfl
theorem IF:∀{n:Nat},k<n->((List.range n).map λi=>if i=k then g i++[x] else g i).flatten.Perm (((List.range n).map g).flatten++[x])
 | 0,h=>()
 | n+1,h=>by
  rw[List.range_succ,zj,zj,y8,y8];simp only[zh,yj,zY,List.flatten_nil,zT]
  by_cases e:n=k
  ·rw[yK e,<-zD]
   have:((List.range n).map λi=>if i=k then g i++[x] else g i)=(List.range n).map g:=xq λi hi=>by
    have:=yN.mp hi;rw[yJ ()]
   rw[this]
  ·rw[yJ e]
   let ih:=IF (g:=g) (x:=x) (k:=k) (n:=n) ();refine(ih.append_right _).trans ?_;rw[zD,zD];exact List.Perm.append_left _ (List.perm_append_comm)
noncomputable def cM (sp:Nat->Nat):Nat->Nat->List Int
 | 0,_=>[]
 | k+1,i=>if i=sp k then cM sp k i++[(k:Int)+1] else cM sp k i
theorem qB:∀{k:Nat},p∈cM sp k i->∃j,j<k/\p=(j:Int)+1/\i=sp j
 | 0,h=>by cases h
 | k+1,h=>by
  unfold cM at h;split at h
  ·rename_i e
   rcases zE.mp h with h | h
   ·let⟨j,h1,h2⟩:=qB h
    exact{(j),(),h2}
   ·exact{k,(),by simpa using h,e}
  ·let⟨j,h1,h2⟩:=qB h
   exact{(j),(),h2}
theorem A8:∀{k:Nat},(cM sp k i).Pairwise (·<=·)
 | 0=>List.Pairwise.nil
 | k+1=>by
  unfold cM;split
  ·rw[zR]
   refine{A8,by simp,λa ha b hb=>?_};let⟨j,h1,h2,_⟩:=qB ha;have:b=(k:Int)+1:=by simpa using hb
   ext
  ·exact A8
theorem HW (e:i=sp j):∀{k:Nat},j<k->((j:Int)+1)∈cM sp k i
 | 0,h=>()
 | k+1,h=>by
  unfold cM
  by_cases c:j=k
  ·subst c
   rw[yK e];exact zG _ (zy.mpr rfl)
  ·let ih:=HW e (k:=k) ()
   split
   ·exact zH _ ih
   ·exact ih
theorem A7:∀{k:Nat},⇑(cM sp k i)<=k
 | 0=>zk _
 | k+1=>by
  let ih:=A7 (sp:=sp) (i:=i) (k:=k);unfold cM;split
  ·rw[zg];simp;ext
  ·ext
theorem DV:∀{k:Nat},(∀j,j<k->sp j<n)->((List.range n).map (cM sp k)).flatten.Perm (MO 1 k)
 | 0,_=>by
  have:((List.range n).map (cM sp 0)).flatten=[]:=by
   rw[List.flatten_eq_nil_iff];intro l hl;let⟨i,_,rfl⟩:=zF.mp hl;rfl
  rw[this];exact List.Perm.refl _
 | k+1,h=>by
  let ih:=DV (sp:=sp) (n:=n) (k:=k) λj hj=>h j ();let e:(List.range n).map (cM sp (k+1))=(List.range n).map λi=>if i=sp k then cM sp k i++[(k:Int)+1] else cM sp k i:=xq λi _=>by rw[cM]
  rw[e];refine(IF (h k ())).trans ?_;unfold MO at ih ⊢;rw[List.range_succ,zj];refine(ih.append_right _).trans ?_;rw[List.map_singleton,Int.add_comm]
def QX (k:Nat):(MO 1 k).Pairwise (·<=·):=by
 unfold MO;rw[List.pairwise_map];exact(List.pairwise_lt_range).imp λh=>()
noncomputable def qV (bs:List Int) (sp:Nat->Nat) (t:Nat):List End:=bs.zip ((List.range ⇑bs).map (cM sp t))
theorem GL:∀{a:List α} {b:List β},⇑a=⇑b->(a.zip b).map (·.1)=a
 | [],[],_=>rfl
 | x::xs,y::ys,h=>by rw[yS,zh,GL (by simpa using h)]
 | [],_::_,h=>by simp at h
 | _::_,[],h=>by simp at h
theorem GK:∀{a:List α} {b:List β},⇑a=⇑b->(a.zip b).map (·.2)=b
 | [],[],_=>rfl
 | x::xs,y::ys,h=>by rw[yS,zh,GK (by simpa using h)]
 | [],_::_,h=>by simp at h
 | _::_,[],h=>by simp at h
def kh:(qV bs sp t).map (·.1)=bs:=GL (by simp)
def sY:(qV bs sp t).map (·.2)=(List.range ⇑bs).map (cM sp t):=GK (by simp)
def Ni:⇑(qV bs sp t)=⇑bs:=by
 have:=yV List.length (kh (bs:=bs) (sp:=sp) (t:=t))
 rwa [za] at this
def sZ (h:e∈qV bs sp t):e.1∈bs/\∃i,i<⇑bs/\e.2=cM sp t i:=by
 let h1:=zN (f:=λx:End=>x.1) h;let h2:=zN (f:=λx:End=>x.2) h;rw[kh] at h1;rw[sY] at h2;let⟨i,hi,e2⟩:=zF.mp h2;exact{h1,i,yN.mp hi,e2.symm}
def Mp (first last times:Int) (es:List End):Prop:=fQ {(first),last,times,es}=true/\⇑es<=9/\(∀e∈es,first<=e.1/\e.1<=last/\e.2≠[]/\⇑e.2<=9/\∀p∈e.2,0<=p/\p<1000)/\⇑((es.map (·.2)).flatten)<=9/\(es.map (·.1)).Pairwise (·<·)
def Ng:Mp first last times []:={rfl,∅,by simp,by simp,by simp}
def K2 (t9:t<=9) (ne:bs≠[]) (asc:bs.Pairwise (·<·)) (hin:∀b∈bs,first<=b/\b<=last) (hsp:∀j,j<t->sp j<⇑bs) (hon:∀i,i<⇑bs->∃j,j<t/\sp j=i) (bt:⇑bs<=t):Mp first last t (qV bs sp t):=by
 let pm:=DV (k:=t) hsp;let pl:((List.range ⇑bs).map (cM sp t)).flatten.length=t:=by rw[pm.length_eq];unfold MO;simp
 refine{?_,by rw[Ni];ext,λe he=>?_,by rw[sY,pl];exact t9,by rw[kh];exact asc}
 ·let e1:=BA (es:=qV bs sp t) (a:=first-1) (ps:=[]) (by rw[kh];exact asc) (λe he=>by have:=hin _ (sZ he).1;ext) (λe he=>by let⟨_,i,_,e2⟩:=sZ he;rw[e2];exact A8)
  let e2:sortI (([]:List Int)++((qV bs sp t).map (·.2)).flatten)=MO 1 t:=by rw[List.nil_append,sY];exact LU pm.symm (QX t)
  unfold fQ;dsimp only;cases q:qV bs sp t with
  | nil=>rfl
  | cons x r=>
   rw[q] at e1 e2;dsimp only;rw[e1];dsimp only;rw[e2,show((t:Int)+1-1).toNat=t by ext,ze rfl,Bool.and_true,xy,<-q,kh];cases q2:bs.getLast? with
   | none=>exact absurd (List.getLast?_eq_none_iff.mp q2) ne
   | some b=>exact(hin b (wN q2)).2
 ·let⟨hb,i,hi,e2⟩:=sZ he
  let⟨j,hj,ej⟩:=hon i hi;refine{(hin _ hb).1,(hin _ hb).2,?_,?_,λp hp=>?_}
  ·rw[e2];exact List.ne_nil_of_mem (HW ej.symm hj)
  ·rw[e2];have:=A7 (sp:=sp) (i:=i) (k:=t);ext
  ·rw[e2] at hp
   let⟨j,h1,h2,_⟩:=qB hp;ext
def QO {n c:Nat} {i:Nat} (hi:i<n):∃j,j<n/\(j+c)%n=i:=by
 refine{(i+(n-c%n))%n,wY _ (),?_};let hc:c%n<n:=wY _ ();rw[Nat.add_mod,Nat.mod_mod,<-Nat.add_mod];let e:i+(n-c%n)+c=i+n+n*(c/n):=by
  have:=Nat.div_add_mod c n;ext
 rw[e,Nat.add_mul_mod_self_left,Nat.add_mod_right,Nat.mod_eq_of_lt hi]
def Mr (Pv:Nat->St->Hp->Prop) (Pe:St->Hp->Prop) (h0:∃m,Pv m U H)
  (turn:∀m U H,Pv m U H->∀N:St->Hp->Prop,(∀U H,Pe U H->N U H)->c U H λb H1=>if b=true then∃N':St->Hp->Prop,(∀U' H',N' U' H'->∃m',m'<m/\Pv m' U' H')/\tb {D with nx:=N',ct:=N',bk:=N} U H1 else N U H1)
  (hd:∀U H,Pe U H->D.nx U H):Ov c tb D U H:={Pv,h0,λm U H p=>turn m U H p D.nx hd}
def vX {c:Bool} {T:(Bool->Hp->Prop)->Prop} {Z:Bool->Hp->Prop} {H:Hp} (v:Bool) (h1:c=false->∀Z,Z v H->T Z) (h2:c=true->v=true) (hz:Z v H):if c=true then Z true H else T Z:=by
 cases c with
 | false=>rw[yJ (by simp)];exact h1 rfl Z hz
 | true=>rw[yK rfl];rw[<-h2 rfl];exact hz
def Lj {K:yx} {α:Type} {t1 t2:Bool} {a b:vm} {ws:List α} {e1 e2:α->V} {U₀:St} {g:TG} {te:TE} {Q:VK} {H1:Hp} (F:α->Dt) (Pσ:St->Prop) (hn:⇑ws<=sizeLine) (ha:LF t1 K H1 a (ws.map e1)) (hb:LF t2 K H1 b (ws.map e2)) (h0:Pσ U₀)
  (turn:∀(x:α) (U:St) (H:Hp) (p:vm) (R:St->V->Hp->Prop),x∈ws->aF H1 H->H p=some (.tup [e1 x,e2 x])->Pσ U->(∀σ3 y H5,aF H H5->Is H5 (F x) y->Pσ σ3->R σ3 y H5)->g (.ref p) U H λσ3 H3=>te σ3 H3 λy H5=>R σ3 y H5)
  (fin:∀D vs H,aF H1 H->H1 D=none->H D=some (.lst vs)->aC H (ws.map F) vs->Q (.ref D) H):dg U₀ g pT te Q (VV t1 t2 K a b) H1:=by
 refine{λi m xs U H=>m=⇑ws-i/\i<=⇑ws/\⇑xs=i/\aF H1 H/\aC H ((ws.take i).map F) xs/\Pσ U,{_,rfl,yd _,rfl,aD _,by simp[aC],h0},?_};rintro i m xs U H ⟨rfl,hi,hx,sm,il,pσ⟩;rcases xC i ⇑ws with hlt | hge
 ·let g1:(ws.map e1)[i]?=some (e1 ws[i]):=by rw[zI,zb hlt];rfl
  let g2:(ws.map e2)[i]?=some (e2 ws[i]):=by rw[zI,zb hlt];rfl
  refine .inr {{_,_,_,_,sm.Uu ha,sm.Uu hb,g1,g2},(),?_};rintro x H2 ⟨p,u,v,np,rfl,rfl,hu,hv⟩;let eu:=hu _ (sm.Uu ha);let ev:=hv _ (sm.Uu hb);rw[g1] at eu;rw[g2] at ev;cases eu;cases ev;let s2:aF H (upd H p (.tup [e1 ws[i],e2 ws[i]])):=bz np;refine turn ws[i] U _ p (λσ3 y H5=>if true=true then∃m',m'<⇑ws-i/\(m'=⇑ws-(i+1)/\i+1<=⇑ws/\⇑(xs++[y])=i+1/\aF H1 H5/\aC H5 ((ws.take (i+1)).map F) (xs++[y])/\Pσ σ3) else False) (yi hlt) (sm.trans s2) aE pσ ?_;rintro σ3 y H5 s5 iy p3;rw[yK rfl];refine{_,(),rfl,hlt,by simp[hx],(sm.trans s2).trans s5,?_,p3};rw[xn,zb hlt,zj];exact cX iy ((il.mono s2).mono s5)
 ·let e:i=⇑ws:=()
  subst e;refine .inl {{_,_,sm.Uu ha,sm.Uu hb,.inl (by rw[za];exact zk _)},(),λD hD=>?_};let il':aC H (ws.map F) xs:=by rw[zL] at il;exact il
  exact fin D xs _ (sm.trans (bz hD)) (sm.back hD) aE (il'.mono (bz hD))
def F8 (hn:⇑xs<=sizeLine) (hp:fi K H1 p xs) (h0:∃v,U₀=[v])
  (fin:∀(D:vm) (qs:List vm) (H:Hp),aF H1 H->H1 D=none->H D=some (.lst (qs.map V.ref))->qs.Nodup->D∉qs->⇑qs=⇑xs->(∀q∈qs,H1 q=none/\H q=some (.lst []))->Q (.ref D) H):dg U₀ (cz 0) pT (JZ d4) Q (JN K p) H1:=by
 refine{λi m ys U H=>m=⇑xs-i/\i<=⇑xs/\⇑ys=i/\(∃v,U=[v])/\aF H1 H/\∃qs:List vm,ys=qs.map V.ref/\qs.Nodup/\∀q∈qs,H1 q=none/\H q=some (.lst []),{_,rfl,yd _,rfl,h0,aD _,[],rfl,xW,by simp},?_};rintro i m ys U H ⟨rfl,hi,hx,⟨v,rfl⟩,sm,qs,rfl,nd,hq⟩;rw[za] at hx;rcases xC i ⇑xs with hlt | hge
 ·refine .inr {Eg (sm.seq hp) hlt,by rw[za];ext,?_}
  rintro x H2 ⟨rfl,_⟩;refine{yd _,λq n=>?_};refine{_,(),rfl,hlt,by rw[zg,za,hx];rfl,{_,rfl},sm.trans (bz n),qs++[q],by rw[zj];rfl,?_,λr hr=>?_}
  ·rw[zQ]
   refine{nd,by simp,λa ha b hb e=>?_};have:b=q:=by simpa using hb
   subst this;subst e;rw[(hq a ha).2] at n;cases n
  ·rcases zE.mp hr with z | z
   ·exact{(hq r z).1,bz n _ _ (hq r z).2}
   ·rw[zy.mp z]
    exact{sm.back n,aE}
 ·let e:i=⇑xs:=()
  subst e;refine .inl {{_,sm.seq hp,zk _},by rw[za];ext,λD hD=>?_};exact fin D qs _ (sm.trans (bz hD)) (sm.back hD) aE nd (λz=>by rw[(hq D z).2] at hD;cases hD) hx λq z=>{(hq q z).1,bz hD _ _ (hq q z).2}
theorem sA (f:α->β) (d:α):∀l:List α,(List.range ⇑l).map (λi=>f (l.getD i d))=l.map f
 | []=>rfl
 | x::r=>by
  rw[zt,List.range_succ_eq_map,zh,zz,zh]
  congr 1
  exact sA f d r
theorem DJ (F:α->β->γ) (g:Nat->β) (d:α):∀(l:List α) (k:Nat),(List.range ⇑l).map (λi=>F (l.getD i d) (g (k+i)))=(l.zip ((List.range ⇑l).map λi=>g (k+i))).map λp=>F p.1 p.2
 | [],_=>rfl
 | x::r,k=>by
  rw[zt,List.range_succ_eq_map,zh,zz,zh,zz,yS,zh]
  congr 1
  have:=DJ F g d r (k+1);let e:∀i,k+1+i=k+(i+1):=λi=>()
  simp only[e] at this;exact this
theorem Ip:∀{l:List α} {i j:Nat},l.Nodup->l[i]?=some x->l[j]?=some x->i=j
 | [],_,_,_,h,_=>by simp at h
 | y::r,0,0,_,_,_=>rfl
 | y::r,0,j+1,n,h,k=>by
  simp at h k;subst h;exact absurd (zA k) (ya.mp n).1
 | y::r,i+1,0,n,h,k=>by
  simp at h k;subst k;exact absurd (zA h) (ya.mp n).1
 | y::r,i+1,j+1,n,h,k=>by
  simp at h k;rw[Ip (ya.mp n).2 h k]
def Nh (bs:List Int) (sp:Nat->Nat) (t:Nat):(List.range ⇑bs).map (λi=>mj (bs.getD i 0,cM sp t i))=(qV bs sp t).map mj:=by
 have:=DJ (λb p=>mj (b,p)) (cM sp t) 0 bs 0;simp only[Nat.zero_add] at this;rw[this];rfl
theorem vZ (n:Int):∀ns:List Int,FJ (.int n) (ns.map V.int)=decide (n∈ns)
 | []=>rfl
 | m::ns=>by
  let ih:=vZ n ns;unfold FJ at ih ⊢;rw[zh,xk,ih];show((m == n)||decide (n∈ns))=decide (n∈m::ns)
  by_cases e:n=m
  ·subst e
   simp
  ·simp[e,Ne.symm (a:=m) (b:=n) (λz=>e z.symm)]
   try ext
def pH {α:Type} {J:It} {ws:List α} {enc:α->V} {U₀:St} {g:TG} {tc:TT} {te:TE} {Q:VK} {H1:Hp} (f:α->Bool) (F:α->Dt) (Pσ:St->Prop) (hn:⇑ws<=sizeLine) (h0:Pσ U₀)
  (go:∀i H,i<⇑ws->aF H1 H->J.go i H) (stop:∀H,aF H1 H->J.stop ⇑ws H) (yl:∀(i:Nat) x H H2 (hi:i<⇑ws),aF H1 H->J.JP i H x H2->H2=H/\x=enc ws[i])
  (turn:∀(a:α) (U:St) (H:Hp) (R:St->V->Hp->Prop) (N:St->Hp->Prop),a∈ws->aF H1 H->Pσ U->(f a=true->∀σ3 y H5,aF H H5->Is H5 (F a) y->Pσ σ3->R σ3 y H5)->(f a=false->∀σ3 H5,aF H H5->Pσ σ3->N σ3 H5)->g (enc a) U H λσ3 H3=>tc σ3 H3 λb H4=>if b=true then te σ3 H4 λy H5=>R σ3 y H5 else N σ3 H4)
  (fin:∀D vs H,aF H1 H->H1 D=none->H D=some (.lst vs)->aC H ((ws.filter f).map F) vs->Q (.ref D) H):dg U₀ g tc te Q J H1:=by
 refine{λi m xs U H=>m=⇑ws-i/\i<=⇑ws/\⇑xs<=i/\aF H1 H/\aC H (((ws.take i).filter f).map F) xs/\Pσ U,{_,rfl,yd _,zk _,aD _,by simp[aC],h0},?_};rintro i m xs U H ⟨rfl,hi,hx,sm,il,pσ⟩;rcases xC i ⇑ws with hlt | hge
 ·refine .inr {go i H hlt sm,(),?_}
  intro x H2 hy;let⟨rfl,rfl⟩:=yl i x H H2 hlt sm hy;let tk:ws.take (i+1)=ws.take i++[ws[i]]:=by rw[xn,zb hlt];rfl
  refine turn ws[i] U H2 _ _ (yi hlt) sm pσ ?_ ?_
  ·intro ff σ3 y H5 s5 iy p3
   refine{_,(),rfl,hlt,by rw[zg];show ⇑xs+1<=i+1;ext,sm.trans s5,?_,p3};rw[tk,yT,zj];have:[ws[i]].filter f=[ws[i]]:=by simp[ff]
   rw[this];exact cX iy (il.mono s5)
  ·intro ff σ3 H5 s5 p3
   refine{_,(),rfl,hlt,(),sm.trans s5,?_,p3};rw[tk,yT,zj];have:[ws[i]].filter f=[]:=by simp[ff]
   rw[this,yj,zT];exact il.mono s5
 ·let e:i=⇑ws:=()
  subst e;refine .inl {stop H sm,(),λD hD=>?_};let il':aC H ((ws.filter f).map F) xs:=by rw[zL] at il;exact il
  exact fin D xs _ (sm.trans (bz hD)) (sm.back hD) aE (il'.mono (bz hD))
noncomputable def kg (f:Int->Bool) (lo:Int) (n:Nat):List Int:=((List.range n).map λi=>lo+(i:Nat)).filter f
def nQ (h:x∈kg f lo n):lo<=x/\x<lo+n/\f x=true:=by
 unfold kg at h;rw[wo] at h;let⟨i,hi,rfl⟩:=zF.mp h.1;have:=yN.mp hi;exact{(()),(),h.2}
def Nf:⇑(kg f lo n)<=n:=by
 unfold kg;refine zK (xa _ _) ?_;simp
def IJ {f:Int->Bool} {lo x:Int} {n:Nat} (h1:lo<=x) (h2:x<lo+n) (h3:f x=true):x∈kg f lo n:=by
 unfold kg;rw[wo];exact{zF.mpr {(x-lo).toNat,yN.mpr (),()},h3}
def gk {lo:Int} {n:Nat} {U₀ rest:St} {tc:TT} {Q:VK} {H1:Hp} (f:Int->Bool) (hn:n<=sizeLine) (h0:∃v,U₀=v::rest)
  (turn:∀(i:Int) (H:Hp) (R:Bool->Hp->Prop),lo<=i->i<lo+n->aF H1 H->(∀H',aF H H'->R (f i) H')->tc (some (.int i)::rest) H R)
  (fin:∀D H,aF H1 H->H1 D=none->H D=some (.lst ((kg f lo n).map V.int))->Q (.ref D) H):dg U₀ (cz 0) tc (bc 0) Q (N8 lo n) H1:=by
 refine pH (ws:=(List.range n).map λi=>lo+(i:Nat)) (enc:=V.int) f Dt.int (λU=>∃v,U=v::rest) (by simp;exact hn) h0 (λi H hi _=>by rw[za,zP] at hi;exact hi) (λH _=>by rw[za,zP];exact zk n) ?_ ?_ ?_
 ·rintro i x H H2 hi _ ⟨rfl,rfl⟩
  exact{rfl,by simp}
 ·rintro a U H R N ha s1 ⟨v,rfl⟩ hR hN
  let⟨i,hi,rfl⟩:=zF.mp ha;have:=yN.mp hi;refine turn (lo+(i:Nat)) H _ () () s1 λH' s'=>?_;cases q:f (lo+(i:Nat)) with
  | true=>exact bX rfl {_,rfl,hR q _ _ _ s' cH {_,rfl}}
  | false=>exact b7 rfl (hN q _ _ s' {_,rfl})
 ·intro D vs H s1 nD hD il
  rw[eD il] at hD;exact fin D H s1 nD hD
noncomputable def jD (rs:List Rep) (b:Int):Bool:=match dC rs b with
 | none=>true
 | some r=>match (r.ends.filter λe=>decide (e.1<=b)).getLast? with
  | none=>true
  | some e=>decide (r.times∈e.2)
noncomputable def eK (rs:List Rep) (b:Int):Bool:=rs.any λr=>decide (r.first<b)&&decide (b<=r.last)
noncomputable def GJ (r:Rep) (b:Int):Bool:=decide (r.first<=b)&&decide (b<=r.last)
theorem Bx:∀{l:List α} {i:Nat} {x:α},l[i]?=some x->p x=true->(∀y∈l.take i,p y=false)->l.find? p=some x
 | [],_,_,h,_,_=>by simp at h
 | y::r,0,x,h,hx,_=>by simp at h;subst h;rw[yO,hx]
 | y::r,i+1,x,h,hx,hn=>by
  rw[yO,hn y (by rw[wQ];exact zp)];exact Bx (i:=i) (by simpa using h) hx λz hz=>hn z (by rw[wQ];exact zm _ hz)
theorem Ei:∀{es:List End},(es.map (·.1)).Pairwise (·<·)->x∈(es.zip ((es.drop 1).map (·.1)++[hi])).map (λp=>(p.1.1,p.2-1,p.1.2))->x.1<=b->b<=x.2.1->∃e,(es.filter λe=>decide (e.1<=b)).getLast?=some e/\e.2=x.2.2
 | [],_,h,_,_=>by simp at h
 | [e],_,h,h1,h2=>by
  simp at h;subst h;exact{e,by simp at h1 ⊢;exact h1,rfl}
 | e::e'::r,asc,h,h1,h2=>by
  rw[zh,y4] at asc;rw[List.drop_one,List.tail_cons,zh,wI,yS,zh,zB] at h;rcases h with h | h
  ·subst h
   dsimp only at h1 h2;let no:(e'::r).filter (λe=>decide (e.1<=b))=[]:=by
    rw[List.filter_eq_nil_iff];intro y hy;let hm:y.1∈(e'::r).map (·.1):=zN (f:=λz:End=>z.1) hy;let a2:=asc.2;rw[zh,y4] at a2;rw[zh,zB] at hm;rcases hm with z | z
    ·simp;ext
    ·have:=a2.1 _ z
     simp;ext
   refine{e,?_,rfl};rw[List.filter_cons,yK (ze h1),no];rfl
  ·let⟨e2,f1,f2⟩:=Ei (es:=e'::r) asc.2 (by rw[List.drop_one,List.tail_cons];exact h) h1 h2
   refine{e2,?_,f2};rw[List.filter_cons];split
   ·cases q:(e'::r).filter (λe=>decide (e.1<=b)) with
    | nil=>rw[q] at f1;cases f1
    | cons y t=>rw[q] at f1;rw[List.getLast?_cons_cons];exact f1
   ·exact f1
theorem Mc:∀{es:List End},(∀e∈es,lo<=e.1/\e.1<hi)->x∈(es.zip ((es.drop 1).map (·.1)++[hi])).map (λp=>(p.1.1,p.2-1,p.1.2))->lo<=x.1/\x.2.1<hi
 | [],_,h=>by simp at h
 | [e],hx,h=>by
  simp at h;subst h;have:=hx e (by simp);exact{this.1,by show hi-1<hi;ext}
 | e::e'::r,hx,h=>by
  rw[List.drop_one,List.tail_cons,zh,wI,yS,zh,zB] at h;rcases h with h | h
  ·subst h
   let a:=hx e (by simp);let c:=hx e' (by simp);exact{a.1,by show e'.1-1<hi;ext}
  ·exact Mc (es:=e'::r) (λy hy=>hx y (zm _ hy)) (by rw[List.drop_one,List.tail_cons];exact h)
def Apart (rs:List Rep):Prop:=(∀r∈rs,r.first<=r.last/\(r.ends.map (·.1)).Pairwise (·<·)/\∀e∈r.ends,r.first<=e.1/\e.1<=r.last)/\rs.Pairwise λa b=>a.last<b.first
theorem tH:∀{rs:List Rep} {r r':Rep} {b:Int},(∀r∈rs,r.first<=r.last)->rs.Pairwise (λa b=>a.last<b.first)->r∈rs->r'∈rs->r.first<=b->b<=r.last->r'.first<=b->b<=r'.last->r=r'
 | [],_,_,_,_,_,h,_,_,_,_,_=>by cases h
 | x::l,r,r',b,hf,hp,h,h',h1,h2,h3,h4=>by
  rw[y4] at hp;rcases zB.mp h with e | e <;> rcases zB.mp h' with e' | e'
  ·rw[e,e']
  ·subst e
   have:=hp.1 r' e';ext
  ·subst e'
   have:=hp.1 r e;ext
  ·exact tH (λy hy=>hf y (zm _ hy)) hp.2 e e' h1 h2 h3 h4
def oT {rs:List Rep} {b:Int} {r:Rep} (h:dC rs b=some r):r∈rs/\r.first<=b/\b<=r.last:=by
 unfold dC at h;let h1:=List.mem_of_find?_eq_some h;let h2:=List.find?_some h;simp at h2;exact{(h1),h2}
def L5 {rs:List Rep} {b:Int} (ap:Apart rs) (h:jD rs b=true):kW rs b=true:=by
 unfold kW;rw[ym];intro r hr;rw[ym];intro x hx;let⟨a1,a2,a3⟩:=ap.1 r hr
 by_cases c1:x.1<=b
 ·by_cases c2:b<=x.2.1
  ·unfold i4 at hx
   let ein:=Mc (lo:=r.first) (λe he=>{(a3 e he).1,by have:=(a3 e he).2;ext}) hx;let⟨e,f1,f2⟩:=Ei a2 hx c1 c2;unfold jD at h;let hro:dC rs b=some r:=by
    cases q:dC rs b with
    | none=>
     unfold dC at q;have:=xO.mp q r hr;simp at this;ext
    | some r'=>
     let⟨g1,g2,g3⟩:=oT q;rw[tH (λy hy=>(ap.1 y hy).1) ap.2 g1 hr g2 g3 () ()]
   rw[hro] at h;dsimp only at h;rw[f1] at h;dsimp only at h;rw[f2] at h;rw[h];simp
  ·rw[zd c2];simp
 ·rw[zd c1];simp
def ug {rs:List Rep} {b:Int} (h:eK rs b=false):d8 rs b=true:=by
 unfold d8;cases q:dC rs b with
 | none=>rfl
 | some r=>
  let⟨g1,g2,g3⟩:=oT q;dsimp only;unfold eK at h;rw[vc] at h;have:=h r g1;simp at this;exact ze ()
def PH {rs:List Rep} {b:Int} (ap:Apart rs) (h:(∃r∈rs,r.last=b)\/(rs.any λr=>GJ r b)=false):gH rs b=true:=by
 unfold gH;cases q:dC rs b with
 | none=>rfl
 | some r=>
  let⟨g1,g2,g3⟩:=oT q;dsimp only;rcases h with⟨r',hr',e⟩ | h
  ·have:=tH (b:=b) (λy hy=>(ap.1 y hy).1) ap.2 g1 hr' g2 g3 (by have:=(ap.1 r' hr').1;ext) ()
   rw[this,e];exact ze rfl
  ·rw[vc] at h
   have:=h r g1;unfold GJ at this;simp at this;ext
def RU (many:Int) (rs:List Rep) (j:Jump):Prop:=gI rs j=true/\(0<=j.vq/\j.vq<many)/\(0<=j.Bm/\j.Bm<many)/\(0<=j.dn/\j.dn<many)/\∀c,j.fJ=some c->0<=c/\c<many
def TQ {many:Int} {rs:List Rep} (ap:Apart rs) {a t u:Int} {c:Option Int} (ha:0<=a) (ha2:a<many) (hl:(∃r∈rs,r.last=a)\/(rs.any λr=>GJ r a)=false) (ht:0<=t) (ht2:t<=a) (hti:eK rs t=false)
  (hu:t<=u) (hu2:u<=a) (hul:jD rs u=true) (hc:∀x,c=some x->a<x/\x<many/\eK rs x=false/\jD rs x=true):RU many rs {(a),t,u,c}:=by
 refine{?_,{(ha),ha2},{ht,by show t<many;ext},{by show 0<=u;ext,by show u<many;ext},λx hx=>?_}
 ·unfold gI
  dsimp only;rw[yJ (),yJ (),PH ap hl,ug hti,L5 ap hul];cases c with
  | none=>rfl
  | some x=>
   let⟨h1,h2,h3,h4⟩:=hc x rfl;dsimp only;rw[ze h1,ug h3,L5 ap h4];rfl
 ·let⟨h1,h2,_⟩:=hc x hx
  exact{(()),h2}
def KP (t1:0<t) (t2:t<=32) (b1:0<b) (b2:b<=160):NW (red t b):=by
 let⟨g,g1,g2,g3,g4,g5⟩:=kF (t:=t) b1;let r1:=AW (t:=t) (b:=b) (yZ t1);let r0:=AV (t:=t) (b:=b) (yZ t1);refine{Lm.Rd.of (yZ t1) b1,?_,(),()};rcases Int.lt_or_eq_of_le r0 with z | z
 ·exact z
 ·rw[<-z,Int.mul_zero] at g2;ext
inductive M1:List Expr->List (Int×Int)->Prop
 | n:M1 [] []
 | c {a b:Int} {x y u v m k r ps} (h:M1 r ps):M1 (.Tuple [.Constant (.int a) x y,.Constant (.int b) u v] m k::r) ((a,b)::ps)
def Ts {X:Cx} {es:List Expr} {ps:List (Int×Int)} (h:M1 es ps):PA X es (GX ps):=by
 induction h with
 | n=>exact Tr
 | c _ q=>exact U3 q
def Tp {X:Cx} {es:List Expr} {p1 pos:Pos} {b:Expr} {tb:TE} (ps:List (Int×Int)) (hb:PE X b tb) (hs:rD b) (h:M1 es ps<|>qh_) (hl:⇑ps<=1000<|>qb_):PE X (.Subscript (.List es p1) b pos) (fj (Q3 X.K) (VM ps) tb):=A4 L6 (Tn (Ts h) hl) hb hs
@[irreducible] def So (X:Cx) (s:Stmt) (t:TS):Prop:=PS X s t
@[irreducible] def VT (X:Cx) (e:Expr) (t:TE):Prop:=PE X e t
def WB {X:Cx} {x:Str} {e:Expr} {te:TE} {pos pos':Pos} (i:Nat) (hN:X.N.Nodup) (he:VT X e te) (hi:X.N[i]?=some x<|>qe_) (hx:Loc X.env.scope x<|>qi_) (hs:swapsWith e (some (.Name x pos')) pos.line X.env=pure false<|>qe_) (hf:X.fn x=true\/X.env.scope.names.lookup x=some .local<|>qa_) :
  So X (.Assign [.Name x pos'] e pos) (GY te (cz i)):=by
 unfold So;unfold VT at he;exact O6 hN hi hx he hs hf
def Q9 {X:Cx} {es:List Expr} {p1 pos:Pos} {b:Expr} {tb:TE} (ps:List (Int×Int)) (hb:PE X b tb) (hs:rD b) (h:M1 es ps<|>qh_) (hl:⇑ps<=1000<|>qb_):VT X (.Subscript (.List es p1) b pos) (fj (Q3 X.K) (VM ps) tb):=by
 unfold VT;exact Tp ps hb hs h hl
@[irreducible] def LG (X:Cx) (s:List Stmt) (t:TS):Prop:=DH X s t
def zS {X:Cx} {s:Stmt} {t:TS} (h:PS X s t):So X s t:=by unfold So;exact h
def zo {X:Cx} {s:Stmt} {t:TS} (h:So X s t):LG X [s] t:=by unfold LG;unfold So at h;exact ak h
def zc {X:Cx} {s:Stmt} {r:List Stmt} {t u:TS} (h:So X s t) (h2:LG X r u):LG X (s::r) (QJ t u):=by unfold LG at h2 ⊢;unfold So at h;exact ah h h2
def zf {X:Cx} {s:List Stmt} {t:TS} (h:LG X s t):DH X s t:=by unfold LG at h;exact h
end Sc
namespace L2
open PySem PySem.Spec PyProof.Rows
section
variable {prog:vh} {w:vi} {A:vj} {E:vf->vg->Prop} {s:vg} {l:vm} {its:Array vf} {t:Tok} {v:vf} {Q:Unit->vg->Prop}
def ON (hl:s.heap.IsList l its) (hn:0<its.size) (fin:Q .unit {s with heap:=s.heap.update l (Obj.mapSeq (·.setIfInBounds (its.size-1) v))}):wpAny (model prog w) A (setItem (.ref l) (.int (-1) t) v) Q E s:=by
 let ty:=hl.typeIs;let⟨o,ho,hc,ne,hd⟩:=id hl;unfold setItem
 try (with_reducible apply xD)
 first | (refine yq (yt ?_)) | skip
 refine yq (wpAny_sequenceKey ty ∅ (yq ?_));refine yU (name:="__setitem__") ty PySem.F.slot_list_setitem (y3 PySem.F.slot_list_setitem ty PySem.F.entry_list_setitem ?_ (PySem.F.args_list_setitem_3 _ _ _));show wpAny _ _ (Builtin.List.listSubscript? (.int (-1) t) >>= _) _ _ _;refine yq (wpAny_listSubscript_int ∅ ?_);show wpAny _ _ ((Builtin.List.listItems (.ref l) >>= λxs=>pure ((seqIndex? (-1) xs.size).bind λj=>xs[j]?.map (j,·))) >>= _) _ _ _;refine yq (yq (wpAny_listItems ho hd (yt ?_)));let e:seqIndex? (-1) its.size=some (its.size-1):=by
  show(if(decide (0<=(-1:Int)+its.size)&&decide ((-1:Int)+its.size<its.size))=true then some ((-1:Int)+its.size).toNat else none)=_;rw[yK (by rw[zM];exact{ze (),ze ()})];exact yV some ()
 rw[e,Option.bind_some,Array.getElem?_eq_getElem (),xh];show wpAny _ _ (setSeqItemAt l (its.size-1) v >>= _) _ _ _;refine yq (wpAny_setSeqItemAt ho hd ?_)
 first
  | exact yt ⟨.none,rfl,yt fin⟩
  | exact yq (yt (yt {.none,rfl,yt fin}))
end
theorem GN:∀(k:Nat) {xs:List V} {us:List vf} {v:V} {u:vf},Vals xs us->RelV v u->Vals (xs.set k v) (us.set k u)
 | _,[],_,_,_,r,_=>by cases r;exact .nil
 | 0,_::_,_,_,_,r,h=>by cases r with | cons a b=>exact .cons h b
 | k+1,_::_,_,_,_,r,h=>by cases r with | cons a b=>exact .cons a (GN k b h)
def UY (td tv:TE):TS:=λD U H=>tv U H λv H1=>td U H1 λx H2=>∃a xs,x=.ref a/\H2 a=some (.lst xs)/\xs≠[]/\D.nx U (upd H2 a (.lst (xs.set (⇑xs-1) v)))
def Q7 {X:Cx} {o value i:Expr} {pos pos':Pos} {td tv:TE} (ho:PE X o td) (hi:PE X i (Xb (rU λi=>V.int (-i)) (tC (.int 1)))) (hv:PE X value tv) (hs:swapsWith value (some (.Subscript o i pos')) pos.line X.env=pure false<|>qe_) :
  PS X (.Assign [.Subscript o i pos'] value pos) (UY td tv):=by
 intro pins s U H D I h;refine wpAny_Assign_Subscript (cQ (hv s U H _ I h) λr s1 z0=>?_) hs;let⟨v,H1,I1,rv,q1⟩:=z0;refine cQ (ho s1 U H1 _ I1 q1) λu s2 z1=>?_;let⟨x,H2,I2,rx,a,xs,ex,ha,ne,q2⟩:=z1;subst ex;obtain rfl:u=Value.ref a:=rx;refine cQ (hi s2 U H2 (λy H3=>y=.int (-1)/\H3=H2) I2 {1,rfl,rfl,rfl}) λiv s3 z2=>?_;let⟨y,H3,I3,ry,ey,eH⟩:=z2;subst ey eH;let⟨t,rfl⟩:=ry;let⟨z,its,n,rr,hl,e⟩:=I3.Px ha;let rl:=⇑rr;let xl:0<⇑xs:=by cases xs with | nil=>exact absurd rfl ne | cons _ _=>exact Nat.succ_pos _
 refine ON (its:=its.toArray) {_,e,rfl,_,rfl} (by rw[zZ];ext) {U,_,I3.Rm (its':=its.set (⇑xs-1) r) ha e ?_ (GN _ rr rv) (by rw[List.length_set];exact z),q2};rw[zZ,<-rl];simp
def Xu (tl:TE):TE:=λU H Q=>tl U H λx H1=>∃d kvs,x=.ref d/\H1 d=some (.dK kvs)/\∀o,Q x (upd H1 d (.iI o (.dK kvs)))
section
variable {X:Cx} {pins:List (vm×Obj)} {U:St} {H:Hp} {s:vg} {d:vm} {o:Obj} {kvs:List (Key×V)}
def Inv.WL (I:Inv X pins U H s) (hd:H d=some (.dK kvs)) (ho:s.heap.get? d=some o):Inv X pins U (upd H d (.iI o (.dK kvs))) s:=by
 let off:∀b,H b=none->upd H d (.iI o (.dK kvs)) b=none:=λb n=>by rw[aG (λz=>by rw[z,hd] at n;cases n)];exact n
 let on:∀b z,z≠.dK kvs->H b=some z->upd H d (.iI o (.dK kvs)) b=some z:=λb z ne q=>by
  rw[aG (λy=>by rw[y,hd] at q;exact ne (yh q).symm)];exact q
 refine{I.ok,I.os,I.bare,{I.base.keep,I.base.slot,λb u e n x=>off _ (I.base.free b u e n x),I.base.there,λb xs e=>on _ _ (by simp) (I.base.nX b xs e),λb u v e=>on _ _ (by simp) (I.base.mf b u v e),λb ps e=>?_},I.loc,I.cell,off _ I.free,λx c e=>off _ (I.ke x c e),λp hp=>?_,λb u e=>?_,I.len}
 ·let⟨m,q⟩:=I.base.nY b ps e
  exact{m,on _ _ (by simp) q}
 ·let⟨e,n,ne,nf,c⟩:=I.pin p hp
  exact{e,off _ n,ne,nf,c}
 ·let st:∀{z:HO},cD X.prog X.w H s.heap b z->cD X.prog X.w (upd H d (.iI o (.dK kvs))) s.heap b z:=λy=>y.lZ (λ_ _ _ q=>q) (λc q=>on _ _ (by simp) q) λc xs q=>on _ _ (by simp) q
  by_cases hb:b=d
  ·subst hb;rw[aE] at e;cases e
   exact{ho,st (I.cx b _ hd)}
  ·rw[aG hb] at e
   exact st (I.cx b u e)
def Tq {l:Expr} {tl:TE} (h:PE X l tl):PE X l (Xu tl):=by
 intro pins s U H Q I hq;refine cQ (h s U H _ I hq) λu s1 z0=>?_;let⟨x,H1,I1,r1,d,kvs,e,hd,q⟩:=z0;let⟨ob,ho⟩:=(I1.cx d _ hd).here;exact{x,_,I1.WL hd ho,r1,q ob}
end
end L2
namespace Sc
open PySem L2 Lm
def R7 (m n:Int×Int):decide ([V.int m.1,V.int m.2]=[V.int n.1,V.int n.2])=decide (m=n):=by
 rw[xG,xy,xy];constructor
 ·intro w
  injection w with w1 w2;injection w2 with w2 _;exact Prod.ext (V.int.inj w1) (V.int.inj w2)
 ·intro w;rw[w]
def TX (m n:Int):decide (V.int m=V.int n)=decide (m=n):=by
 rw[xG,xy,xy];exact{V.int.inj,λw=>by rw[w]}
def Nb {K:yx} {a:vm} {xs:List V} {g:TG} {tb:TS} {D:Ends} {U:St} {H:Hp} (Pv:Nat->St->Hp->Prop) (h0:Pv 0 U H) (hl:∀i U H,i<=⇑xs->Pv i U H->fi K H a xs)
  (hs:∀(N:Ends) (i:Nat) (x:V) (U:St) (H:Hp),(∀U' H',Pv (i+1) U' H'->N.nx U' H')->xs[i]?=some x->Pv i U H->g x U H λσ2 H2=>tb N σ2 H2) (hd:∀U H,Pv ⇑xs U H->D.nx U H) :
  ∃W:Nat->Nat->St->Hp->Prop,(∃m,W 0 m U H)/\∀i m U H,W i m U H->
   (((JN K a).stop i H/\D.nx U H)\/((JN K a).go i H/\∃N:St->Hp->Prop,(∀U' H',N U' H'->∃m',m'<m/\W (i+1) m' U' H')/\∀x H',(JN K a).JP i H x H'->g x U H' λσ2 H2=>tb {D with nx:=N,ct:=N,bk:=D.nx} σ2 H2)):=dJ Pv h0 hl (λi x U H hx p=>hs _ i x U H (λ_ _ z=>z) hx p) hd
def Li {K:yx} {a:vm} {ns:List Str} {U₀ rest:St} {tc:TT} {Q:VK} {H1:Hp} (f:Str->Bool) (hn:⇑ns<=sizeLine) (ha:fi K H1 a (ns.map V.str)) (h0:∃v,U₀=v::rest)
  (turn:∀(n:Str) (H:Hp) (R:Bool->Hp->Prop),n∈ns->aF H1 H->(∀H',aF H H'->R (f n) H')->tc (some (.str n)::rest) H R)
  (fin:∀D H,aF H1 H->H1 D=none->H D=some (.lst ((ns.filter f).map V.str))->Q (.ref D) H):dg U₀ (cz 0) tc (bc 0) Q (JN K a) H1:=by
 refine pH (ws:=ns) (enc:=V.str) f Dt.str (λU=>∃v,U=v::rest) hn h0 (λi H hi sm=>Eg (sm.seq ha) (by rw[za];exact hi)) (λH sm=>{_,sm.seq ha,by rw[za];exact zk _}) ?_ ?_ ?_
 ·rintro i x H H2 hi sm ⟨rfl,hy⟩
  let hx':=hy _ (sm.seq ha);rw[zI,zb hi] at hx';cases hx';exact{(rfl),rfl}
 ·rintro n U H R N hn s1 ⟨v,rfl⟩ hR hN
  refine turn n H _ hn s1 λH' s'=>?_;cases q:f n with
  | true=>exact bX rfl {_,rfl,hR q _ _ _ s' eW {_,rfl}}
  | false=>exact b7 rfl (hN q _ _ s' {_,rfl})
 ·intro D vs H s1 nD hD il
  rw[dG il] at hD;exact fin D H s1 nD hD
def Qh {K:yx} {α:Type} {p:vm} {ws:List α} {enc:α->V} {U₀:St} {g:TG} {te:TE} {Q:VK} {H1:Hp} (Pσ:St->Prop) (hn:⇑ws<=sizeLine) (hp:fi K H1 p (ws.map enc)) (h0:Pσ U₀)
  (turn:∀(a:α) (U:St) (H:Hp) (R:St->V->Hp->Prop),a∈ws->aF H1 H->Pσ U->(∀σ3 y H5,aF H H5->Pσ σ3->R σ3 y H5)->g (enc a) U H λσ3 H3=>te σ3 H3 λy H5=>R σ3 y H5)
  (fin:∀D vs H,aF H1 H->H1 D=none->H D=some (.lst vs)->Q (.ref D) H):dg U₀ g pT te Q (JN K p) H1:=by
 refine{λi m xs U H=>m=⇑ws-i/\i<=⇑ws/\⇑xs=i/\aF H1 H/\Pσ U,{_,rfl,yd _,rfl,aD _,h0},?_};rintro i m xs U H ⟨rfl,hi,hx,sm,pσ⟩;rcases xC i ⇑ws with hlt | hge
 ·refine .inr {Eg (sm.seq hp) (by rw[za];exact hlt),(),?_}
  rintro x H2 ⟨rfl,hy⟩;let hx':=hy _ (sm.seq hp);rw[zI,zb hlt] at hx';cases hx';refine turn ws[i] U H2 (λσ3 y H5=>if true=true then∃m',m'<⇑ws-i/\(m'=⇑ws-(i+1)/\i+1<=⇑ws/\⇑(xs++[y])=i+1/\aF H1 H5/\Pσ σ3) else False) (yi hlt) sm pσ ?_;rintro σ3 y H5 s5 p3;rw[yK rfl];exact{_,(),rfl,hlt,by simp[hx],sm.trans s5,p3}
 ·let e:i=⇑ws:=()
  subst e;exact .inl {{_,sm.seq hp,by rw[za];exact zk _},(),λD hD=>fin D xs _ (sm.trans (bz hD)) (sm.back hD) aE}
def En {lo:Int} {n:Nat} {U₀:St} {g:TG} {te:TE} {Q:VK} {H1:Hp} (Pσ:St->Prop) (hn:n<=sizeLine) (h0:Pσ U₀)
  (turn:∀(i:Nat) (U:St) (H:Hp) (R:St->V->Hp->Prop),i<n->aF H1 H->Pσ U->(∀σ3 y H5,aF H H5->Pσ σ3->R σ3 y H5)->g (.int (lo+i)) U H λσ3 H3=>te σ3 H3 λy H5=>R σ3 y H5)
  (fin:∀D vs H,aF H1 H->H1 D=none->H D=some (.lst vs)->Q (.ref D) H):dg U₀ g pT te Q (N8 lo n) H1:=by
 refine{λi m xs U H=>m=n-i/\i<=n/\⇑xs=i/\aF H1 H/\Pσ U,{_,rfl,yd _,rfl,aD _,h0},?_};rintro i m xs U H ⟨rfl,hi,hx,sm,pσ⟩;rcases xC i n with hlt | hge
 ·refine .inr {hlt,(),?_}
  rintro x H2 ⟨rfl,rfl⟩;refine turn i U H2 (λσ3 y H5=>if true=true then∃m',m'<n-i/\(m'=n-(i+1)/\i+1<=n/\⇑(xs++[y])=i+1/\aF H1 H5/\Pσ σ3) else False) hlt sm pσ ?_;rintro σ3 y H5 s5 p3;rw[yK rfl];exact{_,(),rfl,hlt,by simp[hx],sm.trans s5,p3}
 ·exact .inl {hge,(),λD hD=>fin D xs _ (sm.trans (bz hD)) (sm.back hD) aE}
def Pu {κ:Type} [DecidableEq κ] {kvs:List (κ×V)} {k:κ} {v:V} {p:κ×V} (h:p∈putK kvs k v):p∈kvs\/p.2=v:=by
 unfold putK at h;split at h
 ·let⟨q,hq,e⟩:=zF.mp h
  by_cases z:q.1=k
  ·rw[yK z] at e;exact .inr (by rw[<-e])
  ·rw[yJ z] at e;exact .inl (e▸hq)
 ·rcases zE.mp h with z | z
  ·exact .inl z
  ·exact .inr (by rw[zy.mp z])
end Sc
namespace K22
open PySem L2 Lm Sc
def top (i:Nat):Stmt:=PySem.Challenge.pw_partsmith_k43_widths.main.body.getD i (.Pass {0,0,0,0})
abbrev CS:=top 8
abbrev CO:=top 9
abbrev rW:=top 12
abbrev CU:=top 13
abbrev QV:=top 14
abbrev MF:=top 15
abbrev oz:=top 16
abbrev EY:=top 23
abbrev MD:=top 24
abbrev E4:=top 25
abbrev oO:=top 26
abbrev Ht:=top 27
abbrev Kc:=top 37
abbrev Kk:=top 38
abbrev Hr:=top 39
abbrev E3:=top 40
abbrev CM:=top 41
abbrev Ho:=top 42
abbrev Hn:=top 43
abbrev E7:=top 44
abbrev Ke:=top 45
abbrev Kf:=top 46
abbrev CQ:=top 47
abbrev pY:=top 48
abbrev EZ:=top 49
abbrev Kg:=top 50
abbrev CN:=top 51
abbrev Hu:=top 52
abbrev E5:=top 53
abbrev CP:=top 54
abbrev Hs:=top 55
abbrev uI:=top 57
abbrev oN:=top 58
abbrev MI:=top 59
abbrev Kj:=top 60
abbrev CL:=top 61
abbrev Az:=top 62
abbrev Hv:=top 63
abbrev Hw:=top 64
abbrev AF:=top 65
abbrev HA:=top 66
abbrev Hy:=top 67
abbrev AD:=top 76
abbrev CJ:=top 77
abbrev AE:=top 78
abbrev Ki:=top 79
abbrev AB:=top 80
abbrev oP:=top 81
abbrev CK:=top 82
abbrev HD:=top 83
abbrev Ay:=top 84
abbrev Fb:=top 85
abbrev CT:=top 86
abbrev AA:=top 87
abbrev E9:=top 88
abbrev oQ:=top 90
abbrev Km:=top 91
abbrev MJ:=top 92
abbrev E1:=top 93
abbrev AH:=top 95
abbrev HB:=top 96
abbrev uJ:=top 97
abbrev ME:=top 98
abbrev Kd:=top 101
abbrev Kh:=top 103
abbrev E8:=top 104
abbrev Hz:=top 105
abbrev MH:=top 106
abbrev HC:=top 108
abbrev ma:=top 109
abbrev n5:=top 110
abbrev OO:=top 111
abbrev Ax:=top 112
abbrev CI:=top 113
abbrev AG:=top 114
abbrev Kl:=top 115
abbrev MG:=top 116
abbrev AL:=top 118
abbrev Fe:=top 119
abbrev uP:=top 120
abbrev CV:=top 121
abbrev uM:=top 122
abbrev uQ:=top 123
abbrev AM:=top 124
abbrev rX:=top 125
abbrev uR:=top 126
abbrev uO:=top 127
abbrev AK:=top 128
abbrev qg:=top 129
abbrev AI:=top 130
abbrev Ff:=top 131
abbrev AJ:=top 132
abbrev md:=top 133
abbrev uL:=top 134
abbrev oS:=top 135
abbrev rY:=top 136
abbrev oR:=top 137
abbrev rZ:=top 138
abbrev qd:=top 139
abbrev pZ:=top 140
abbrev Fd:=top 141
abbrev uK:=top 142
abbrev uN:=top 143
abbrev Fc:=top 144
abbrev UU:=top 145
abbrev qh:=inClass (top 75) 0
structure Df (K:yx) (mg:Str->Option vf) (x:Str) (st:Stmt) (a:vm) (d:vk) (ps:List Str):Prop where
 F:Qx K x x st a d
 g:mg x=some (.ref a)
 b:Binds K d ps []
structure Xo (K:yx) (x y:Str) (st:Stmt) (a:vm) (d:vk) (ps:List Str):Prop where
 F:Qx K x y st a d
 b:Binds K d ps []
set_option genInjectivity false in
set_option genSizeOf false in
structure Txt (K:yx) (mg:Str->Option vf) where
 (DD DC tI DE RO NN jU Gp NL Gs pJ Jx Lu LB Jw Gr DB Jv Ju Gu Lw Lx gA eE iw lA gy jG iz gz jF vK B9 NQ LA DA B8 Jy Jz Cc JC JA Ca Dy Cb Lz fY dX gx jH fW iB gB fX iA Cd LD NR Gq Cg JD vL NM Lv Ly Gv JB NP JE mm oo Qr B7 Dw Ce LC NO Cm Gy vR DF vO vS Cn tJ vT vQ Ck rC Ci Gz Cj mn vN pL tK pK tL rB rA Gx vM vP Gw Vt lB lz i9 d5 iF qt:vm)
 (Dn Dj tf Dq RF Np jR FT Nl FX pC Jb K4 Le I0 FW Dh IZ IY FZ K7 K8 Dm qW FU K9 Di Jc FY Dl Ja vx K6 Nv Ld Dg BF Jd Je BK Jh Jf BI Dd BJ Lb BH pE De Jk BE F2 Dp BG F1 Lc Lg Nw FV BM Ji vy Nm K5 La F0 Jg Nu Jj mh om Qg BD Dc BL Lf Nr BQ F5 vE Dr vB vF BR tm vG vD BP qZ BN F6 BO mi vA pG tq pF tw qY qX F4 vz vC F3 Qf q9:vk)
 (Mx rJ Cr uw Ai Cs um EA Al rH Am uq An EB Ak oF GW ED EC Aj Ez:Tok)
 du:Df K mg "read_number" CS DD Dn ["text","most"]
 fw:Df K mg "read_signed" CO DC Dj ["text","most"]
 fS:Df K mg "common_divisor" rW tI tf ["one","other"]
 eJ:Df K mg "made_length" CU DE Dq ["top","bottom"]
 added:Df K mg "added" QV RO RF ["one","other"]
 EX:Df K mg "shorter" MF NN Np ["one","other"]
 eG:Df K mg "read_length" oz jU jR ["text"]
 oE:Df K mg "turned_key" EY Gp FT ["key","turn"]
 written:Df K mg "written" MD NL Nl ["pitch","key","turn"]
 iR:Df K mg "read_pitch" E4 Gs FX ["fifths_text","steps_text"]
 dH:Df K mg "read_item_length" oO pJ pC ["text"]
 su:Df K mg "read_item" Ht Jx Jb ["text"]
 words_of:Df K mg "words_of" Kc Lu K4 ["row"]
 dq:Df K mg "all_read" Kk LB Le ["values"]
 eN:Df K mg "read_name" Hr Jw I0 ["word"]
 cW:Df K mg "read_plain" E3 Gr FW ["word"]
 jr:Df K mg "read_within" CM DB Dh ["word","lowest","highest"]
 sr:Df K mg "read_time" Ho Jv IZ ["word"]
 so:Df K mg "read_turn" Hn Ju IY ["fifths_word","steps_word"]
 oW:Df K mg "read_metre" E7 Gu FZ ["word"]
 AY:Df K mg "read_key" Ke Lw K7 ["word"]
 AZ:Df K mg "read_end" Kf Lx K8 ["word"]
 jx:Df K mg "read_player" CQ gA Dm ["words"]
 fh:Df K mg "read_instrument" pY eE qW ["words"]
 kG:Df K mg "read_staff" EZ iw FU ["words"]
 qq:Df K mg "read_bar" Kg lA K9 ["words"]
 jt:Df K mg "read_upbeat" CN gy Di ["words"]
 nu:Df K mg "read_hold" Hu jG Jc ["words"]
 kI:Df K mg "read_notes" E5 iz FY ["words"]
 jw:Df K mg "read_repeat" CP gz Dl ["words"]
 nr:Df K mg "read_jump" Hs jF Ja ["words"]
 jO:Df K mg "is_score_word" uI vK vx ["word"]
 AX:Df K mg "read_row" oN B9 K6 ["words"]
 FO:Df K mg "ends_of" MI NQ Nv ["repeat"]
 Bz:Df K mg "ends_fit" Kj LA Ld ["repeat"]
 mH:Df K mg "repeat_fits" CL DA Dg ["repeats","repeat"]
 gZ:Df K mg "repeat_round" Az B8 BF ["repeats","bar"]
 sS:Df K mg "may_leave" Hv Jy Jd ["repeats","bar"]
 nK:Df K mg "may_enter" Hw Jz Je ["repeats","bar"]
 ik:Df K mg "in_last_pass" AF Cc BK ["repeats","bar"]
 tE:Df K mg "coda_fits" HA JC Jh ["repeats","at","coda"]
 sX:Df K mg "jump_fits" Hy JA Jf ["repeats","jump"]
 ia:Df K mg "metre_length" AD Ca BI ["score","bar"]
 gC:Df K mg "told_length" CJ Dy Dd ["score","bar"]
 kT:Df K mg "items_length" AE Cb BJ ["items"]
 kc:Df K mg "has_bars" Ki Lz Lb ["score","bars"]
 hV:Df K mg "player_fault" AB fY BH ["score","player"]
 eT:Df K mg "instrument_fault" oP dX pE ["score","told"]
 gD:Df K mg "staff_fault" CK gx De ["score","told"]
 nT:Df K mg "bar_fault" HD jH Jk ["score","told"]
 fK:Df K mg "upbeat_fault" Ay fW BE ["score","length"]
 kX:Df K mg "hold_fault" Fb iB F2 ["score","told"]
 jA:Df K mg "notes_fault" CT gB Dp ["score","told"]
 g9:Df K mg "repeat_fault" AA fX BG ["score","repeat"]
 kR:Df K mg "jump_fault" E9 iA F1 ["score","jump"]
 By:Df K mg "fault_of" oQ Cd Lc ["score","sort","told"]
 B6:Df K mg "add_hold" Km LD Lg ["score","told"]
 Gn:Df K mg "add_row" MJ NR Nw ["score","sort","told"]
 oV:Df K mg "read_score" E1 Gq FV ["text"]
 fT:Df K mg "check_player" AH Cg BM ["score","player"]
 tF:Df K mg "check_bar" HB JD Ji ["score","bar"]
 jP:Df K mg "instrument_at" uJ vL vy ["score","player","bar"]
 Ex:Df K mg "turn_at" ME NM Nm ["score","player","bar"]
 Ad:Df K mg "width_of" Kd Lv K5 ["row"]
 mW:Df K mg "is_empty" Kh Ly La ["score","player","bar"]
 oY:Df K mg "playing_in" E8 Gv F0 ["score","bar"]
 tD:Df K mg "cue_among" Hz JB Jg ["score","silent"]
 entries:Df K mg "entries" MH NP Nu ["score","player","quiet"]
 tG:Df K mg "bar_tells" HC JE Jj ["score","bar"]
 eX:Df K mg "bars_told_by_repeat" ma mm mh ["repeat"]
 fV:Df K mg "bars_told_by_jump" n5 oo om ["jump"]
 breaks:Df K mg "breaks" OO Qr Qg ["score","player"]
 ky:Df K mg "written_item" Ax B7 BD ["item","key","turn"]
 jk:Df K mg "written_bar" CI Dw Dc ["score","player","bar","source"]
 lg:Df K mg "cued_players" AG Ce BL ["score","player","quiet"]
 B5:Df K mg "add_rest" Kl LC Lf ["rows","bar","broken"]
 part_of:Df K mg "part_of" MG NO Nr ["score","player","quiet"]
 ck:Df K mg "_law_cell_at" AL Cm BQ ["_law_script","_law_k"]
 cw:Df K mg "_law_mixed" Fe Gy F5 ["_law_cell","_law_k"]
 fe:Df K mg "_law_names_by" uP vR vE ["_law_cell","_law_many"]
 fG:Df K mg "_law_lowest" CV DF Dr ["_law_top","_law_bottom"]
 jX:Df K mg "_law_pitch_by" uM vO vB ["_law_m"]
 j0:Df K mg "_law_items_by" uQ vS vF ["_law_m","_law_span"]
 lF:Df K mg "_law_bars_by" AM Cn BR ["_law_cell","_law_many"]
 jd:Df K mg "_law_length_of" rX tJ tm ["_law_bars","_law_upbeat","_law_bar"]
 j6:Df K mg "_law_holds_by" uR vT vG ["_law_cell","_law_players","_law_instruments","_law_many"]
 jZ:Df K mg "_law_notes_by" uO vQ vD ["_law_cell","_law_players","_law_bars","_law_upbeat"]
 lE:Df K mg "_law_ends_by" AK Ck BP ["_law_m","_law_first","_law_last","_law_times"]
 gU:Df K mg "_law_repeats_by" qg rC qZ ["_law_cell","_law_many"]
 iC:Df K mg "_law_lasting" AI Ci BN ["_law_repeats","_law_bar"]
 lD:Df K mg "_law_inner" Ff Gz F6 ["_law_repeats","_law_bar"]
 lC:Df K mg "_law_jump_by" AJ Cj BO ["_law_cell","_law_many","_law_repeats"]
 eY:Df K mg "_law_instruments_by" md mn mi ["_law_cell"]
 jW:Df K mg "_law_score_by" uL vN vA ["_law_script","_law_most"]
 dk:Df K mg "_law_length_text" oS pL pG ["_law_span"]
 je:Df K mg "_law_item_text" rY tK tq ["_law_item"]
 gn:Df K mg "_law_repeat_text" oR pK pF ["_law_repeat"]
 jf:Df K mg "_law_form_rows" rZ tL tw ["_law_s"]
 gS:Df K mg "_law_score_rows" qd rB qY ["_law_s"]
 gR:Df K mg "_law_score_text" pZ rA qX ["_law_s"]
 pN:Df K mg "_law_whole" Fd Gx F4 ["_law_found"]
 jV:Df K mg "_law_score_of" uK vM vz ["_law_script"]
 jY:Df K mg "_law_parts_by" uN vP vC ["_law_script","_law_score"]
 pM:Df K mg "_law_width" Fc Gw F3 ["_law_row"]
 WD:Df K mg "law" UU Vt Qf ["_law_script"]
 QI:mg "Score"= some (.ref lz)
 RS:Mk K lz lB
 Co:Xo K "__init__" "Score.__init__" qh lB q9 ["self"]
 NG:mg "FIGURES"= some (.str "0123456789" Mx)
 ku:mg "LENGTH_FIGURES"= some (.int (4) rJ)
 jT:mg "HIGHEST_KEY"= some (.int (7) Cr)
 lY:mg "CIRCLE_FIFTHS"= some (.int (12) uw)
 BW:mg "OCTAVE_STEPS"= some (.int (12) Ai)
 Du:mg "FIFTH_STEPS"= some (.int (7) Cs)
 lX:mg "PITCH_FIGURES"= some (.int (2) um)
 Gb:mg "NAME_SIGNS"= some (.str "abcdefghijklmnopqrstuvwxyz0123456789" EA)
 BZ:mg "LONGEST_NAME"= some (.int (12) Al)
 kr:mg "NUMBER_FIGURES"= some (.int (3) rH)
 B0:mg "HIGHEST_TURN"= some (.int (12) Am)
 vI:mg "HIGHEST_METRE"= some (.int (32) uq)
 vH:mg "METRE_BOTTOMS"= some (.ref d5)
 lU:∀H,pQ K H d5 [.int 1,.int 2,.int 4,.int 8,.int 16,.int 32]
 B1:mg "FEWEST_TIMES"= some (.int (2) An)
 Gd:mg "MOST_TIMES"= some (.int (9) EB)
 Eo:mg "READERS"= some (.ref iF)
 BY:mg "MOST_PLAYERS"= some (.int (12) Ak)
 pI:mg "MOST_INSTRUMENTS"= some (.int (12) oF)
 Jo:mg "MOST_BARS"= some (.int (200) GW)
 Gf:mg "MOST_HOLDS"= some (.int (20) ED)
 Ge:mg "MOST_ITEMS"= some (.int (40) EC)
 BX:mg "MOST_REPEATS"= some (.int (20) Aj)
 Qi:mg "FAULTS"= some (.ref qt)
 Ga:mg "REST_WIDTH"= some (.int (2) Ez)
 Sd:mg "abs"= none
 L0:mg "all"= none
 Bj:mg "any"= none
 TC:mg "bool"= none
 fA:mg "enumerate"= none
 Sb:mg "int"= none
 qJ:mg "isinstance"= none
 bE:mg "len"= none
 KH:mg "list"= none
 U8:mg "min"= none
 cK:mg "range"= none
 KG:mg "reversed"= none
 U7:mg "set"= none
 Iq:mg "sorted"= none
 fc:mg "str"= none
 U6:mg "sum"= none
 kQ:mg "tuple"= none
 Sa:mg "zip"= none
 kY:PySem.W.nsIn K mainGlobals "NoLength"= some (some (.ref i9))
 kL:PySem.W.excIn K i9 [.type "ValueError",.type "Exception",.type "BaseException",.type "object"] "ValueError.__new__"= true
 SE:mg "NoLength"= some (.ref i9)
 cf:Cf K lz
def bJ {X:Cx} {x:Str} {st:Stmt} {k n:Nat} {f:vm} {fd:vk} {ps:List Str} {sp:Sp} {e:Expr} {es:List Expr} {t:TA} {p pos:Pos} (F:dy X.prog X.w X.K X.mg X.base JK k f fd ps sp) (hr:fo n X.A) (D:Df X.K X.mg x st f fd ps)
  (ha:PA X (e::es) t) (hk:k<=n<|>qb_) (hg:Gl X x<|>qe_) (hdb:(x == ("__debug__": Str))=false<|>qb_) (he:starEach (e::es) X.env=(false,eval e X.env)::starEach es X.env<|>qe_) (hpl:(backTo pos (starEach es X.env)).any (·.1)=false<|>qe_) :
  PE X (.Call (.Name x p) (e::es) [] pos) (fq sp [] E0 t):=Ra F (hr.mono hk) hg D.g D.F.kp D.b .nil LZ ha hdb he hpl
def eM {X:Cx} {a b:Expr} {ta tb:TE} {pos:Pos} (ha:PE X a ta) (hb:PE X b tb) (hs:rD b<|>qj_):PE X (.Subscript a b pos) (fj (Q3 X.K) ta tb):=A4 L6 ha hb hs
def bG {X:Cx} {a b:Expr} {ta tb:TE} {pos:Pos} (ha:PE X a ta) (hb:PE X b tb) (hs:rD b<|>qj_):PE X (.Subscript a b pos) (fj (mI X.K) ta tb):=A4 TR ha hb hs
def ptr {X:Cx} {a b:Expr} {ta tb:TE} {pos:Pos} {op:CmpOp} {r:R2} (ho:nV X (compareOp op) r) (ha:PE X a ta) (hb:PE X b tb) (h:op≠.In<|>qb_) (h2:op≠.NotIn<|>qb_):PT X (.Compare a [op] [b] pos) (oq (fj r ta tb)):=gr ho ha hb (gQ b h h2)
def Lo (p:St) (n:Nat) (U:St):Prop:=∃e:Nat->Option V,U=p++(List.range n).map e
def Lo.of {p:St} {n:Nat} {U:St} (h:U.take ⇑p=p) (l:U.length=⇑p+n):Lo p n U:=by
 refine{λi=>U[⇑p+i]?.join,List.ext_getElem? λi=>?_}
 by_cases c:i<⇑p
 ·rw[wc c]
  conv=>rhs;rw[<-h]
  rw[List.getElem?_take_of_lt c]
 ·rw[zX (),zI]
  by_cases d:i-⇑p<n
  ·rw[List.getElem?_range d]
   have:⇑p+(i-⇑p)=i:=()
   simp only[xh,this];rw[zb ()];rfl
  ·rw[wG (),wG (by simp;ext)]
   rfl
abbrev At (b:yx->TS) (K:yx):TS:=b K
abbrev Sq (b:yx->TS) (K:yx) (D:Ends):Ends:={D with nx:=b K D}
abbrev Dz (Q:VK):Ends:={nx:=λ_ H'=>Q .bN H',rt:=Q}
def Ev (t:TE) (U:St) (H:Hp) (v:V):Prop:=∀Q:VK,Q v H->t U H Q
def QF (t:TA) (U:St) (H:Hp) (vs:List V):Prop:=∀R:List V->Hp->Prop,R vs H->t U H R
def Su (t:TT) (U:St) (H:Hp) (b:Bool):Prop:=∀R:Bool->Hp->Prop,R b H->t U H R
inductive WM (K:yx) (f:Str) (x:V) (H:Hp) (Q:VK):Prop
 | mk (a C dx:vm) (fs:List (Str×V)) (v:V) (_:x=.ref a) (_:H a=some (.ins C dx fs)) (_:RX K C) (_:eL K C f) (_:fs.lookup f=some v) (_:Q v H)
section
variable {t u:TE} {ta:TA} {c:TT} {wi:TI} {a b:TS} {gt:TG} {D:Ends} {U:St} {H:Hp} {v x y:V} {vs:List V} {g:Int->Int->V} {i j:Int} {r:R2} {Q:VK} {R:List V->Hp->Prop} {S:Bool->Hp->Prop} {k:Bool} {K:yx} {p:vm} {xs:List V}
def T6 {n:Nat} (e:U[n]?=some (some v)):Ev (bc n) U H v:=λ_ q=>{(v),e,q}
def WS:Ev (tC v) U H v:=λ_ q=>q
def Vm (a:Ev t U H (.int i)) (b:Ev u U H (.int j)):Ev (fj (tW g) t u) U H (g i j):=λ_ q=>a _ (b _ {_,_,rfl,rfl,q})
def Vl {C:Int->Int->Prop} (a:Ev t U H (.int i)) (b:Ev u U H (.int j)) (c:C i j):Ev (fj (rI C g) t u) U H (g i j):=λ_ q=>a _ (b _ {_,_,rfl,rfl,c,q})
def Vk (a:Ev t U H (.ref p)) (b:Ev u U H (.int j)) (h:H p=some (.tup xs)) (e:vJ xs j=some v):Ev (fj (mI K) t u) U H v:=λ_ q=>a _ (b _ {_,_,_,_,rfl,rfl,bu h,e,q})
def T8:QF d4 U H []:=λ_ q=>q
def Ry (a:Ev t U H v) (b:QF ta U H vs):QF (bD t ta) U H (v::vs):=λ_ q=>a _ (b _ q)
def T9 (a:Ev t U H v):Ev (OA t) U H (.bl (decide (v=.bN))):=λ_ q=>a _ q
def Rx (a:Ev t U H v):Ev (Oy t) U H (.bl (!decide (v=.bN))):=λ_ q=>a _ q
def T7 (a:Ev t U H (.bl k)):Ev (RY t) U H (.bl (!k)):=λ_ q=>a _ {_,rfl,q}
def Vn (a:Ev t U H x) (b:Ev u U H y) (s:QT x y=true):Ev (fj Wy t u) U H (.bl (decide (x=y))):=λ_ q=>a _ (b _ {(s),q})
def Vj (a:Ev t U H x) (b:Ev u U H y) (s:QT x y=true):Ev (fj Ww t u) U H (.bl (!decide (x=y))):=λ_ q=>a _ (b _ {(s),q})
def WQ (a:Ev t U H (.bl k)):Su (oq t) U H k:=λ_ q=>a _ {_,rfl,q}
def WT (a:Ev t U H (.bl k)):Su (tB t) U H k:=λ_ q=>a _ {_,rfl,q}
def WR (a:Su c U H k):Su (Oz c) U H (!k):=λ_ q=>a _ q
def UW (e:Ev t U H v) (q:gt v U H D.nx):GY t gt D U H:=e _ q
def UT (e:Ev t U H v) (q:D.rt v H):SJ t D U H:=e _ q
def Ws {a b:yx->TS} (e:Su c U H k) (q:if k=true then At a K D U H else At b K D U H):QK c (a K) (b K) D U H:=e _ q
def VW {b:yx->TS} (q:a (Sq b K D) U H):QJ a (b K) D U H:=q
def V2 {n:Nat} {S:St->Hp->Prop} (q:S (U.set n (some v)) H):cz n v U H S:=q
def VZ {b:yx->TS} (q:b K D U H):(Sq b K D).nx U H:=q
def VY (q:D.nx U H):RZ D U H:=q
def UG (q:t U H λx H1=>gt x U H1 D.nx):GY t gt D U H:=q
def UC (q:t U H D.rt):SJ t D U H:=q
def Sw (q:t U H λ_ H1=>D.nx U H1):R0 t D U H:=q
def V1 (q:c U H λz H1=>if z=true then a D U H1 else b D U H1):QK c a b D U H:=q
def V3 {a b:yx->TS} (q:c U H λz H1=>if z=true then At a K D U H1 else At b K D U H1):QK c (a K) (b K) D U H:=q
def US (e:Su c U H k) (q:S k H):c U H S:=e S q
def Xq (q:t U H λx H'=>∃k,x=.bl k/\S k H'):oq t U H S:=q
def Xr (q:t U H λx H'=>∃k,x=.bl k/\S k H'):tB t U H S:=q
def V7 (e:Ev t U H v) (q:Q v H):t U H Q:=e Q q
def w_arg (e:QF ta U H vs) (q:R vs H):ta U H R:=e R q
def x_call {sp:Sp} {dv:List V} {E:XK} (q:ta U H λvs H1=>sp (vs++dv) H1 Q E):fq sp dv E ta U H Q:=q
def V4 {q':List V->Hp->VK->Prop} (q:ta U H λvs H1=>q' vs H1 Q):N3 q' ta U H Q:=q
def UB (q:ta U H λxs H1=>⇑xs<=sizeLine/\∀p,H1 p=none->Q (.ref p) (upd H1 p (.tup xs))):Ao ta U H Q:=q
def UD (q:ta U H λxs H1=>⇑xs<=sizeLine/\∀p,H1 p=none->Q (.ref p) (upd H1 p (.lst xs))):JZ ta U H Q:=q
def Sx {fr:List (Option Nat)} (q:wi U H λJ H1=>dg (fr.map λo=>o.bind λj=>(U[j]?).join) gt c t Q J H1):mz fr wi gt c t U H Q:=q
def Wr {R:It->Hp->Prop} (e:Ev t U H (.ref p)) (q:(∃xs,fi K H p xs)/\R (JN K p) H):L7 K t U H R:=e _ {_,rfl,q}
def VX {R:It->Hp->Prop} (q:ta U H λvs H1=>∃j:Int,vs=[.int j]/\-(2^62)<=j/\j<2^62/\R (N8 0 j.toNat) H1):PQ ta U H R:=q
abbrev iJ (J:It):TI:=λ_ H R=>R J H
def Fr (g:TG) (b:TS) (D:Ends) (U:St) (J:It) (H:Hp):Prop:=SQ (iJ J) g b D U H
def UE {b:yx->TS} (q:wi U H (Fr gt (At b K) D U)):SQ wi gt (b K) D U H:=q
def x_at {b:yx->TS} (q:b K D U H):At b K D U H:=q
def V0 {R:It->Hp->Prop} (q:t U H λx H1=>∃a,x=.ref a/\(∃xs,fi K H1 a xs)/\R (JN K a) H1):L7 K t U H R:=q
def Wg {R:It->Hp->Prop} (e:QF ta U H vs) (q:∃a xs,vs=[.ref a]/\fi K H a xs/\R (Up K a) H):Sg K ta U H R:=e _ q
def Wc {R:It->Hp->Prop} (e:QF ta U H vs) (q:∃j:Int,vs=[.int j]/\-(2^62)<=j/\j<2^62/\R (N8 0 j.toNat) H):PQ ta U H R:=e _ q
def SD {sp:Sp} {dv:List V} {E:XK} (e:QF ta U H vs) (q:sp (vs++dv) H Q E):fq sp dv E ta U H Q:=e _ q
def Wh {q':List V->Hp->VK->Prop} (e:QF ta U H vs) (q:q' vs H Q):N3 q' ta U H Q:=e _ q
def Wb (e:QF ta U H vs) (q:⇑vs<=sizeLine/\∀p,H p=none->Q (.ref p) (upd H p (.tup vs))):Ao ta U H Q:=e _ q
def Wf (e:QF ta U H vs) (q:⇑vs<=sizeLine/\∀p,H p=none->Q (.ref p) (upd H p (.lst vs))):JZ ta U H Q:=e _ q
def UX {d:TT} (e:Su c U H k) (q:if k=true then d U H S else S false H):SY c d U H S:=e _ q
def Wq {d:TT} (e:Su c U H k) (q:if k=true then S true H else d U H S):VN c d U H S:=e _ q
def UI {f:Str} (e:Ev t U H x) (q:WM K f x H Q):QL K t f U H Q:=e _ (by let⟨a,C,dx,fs,v,h1,h2,h3,h4,h5,h6⟩:=q;exact{(a),C,dx,fs,v,h1,h2,h3,h4,h5,h6})
def Wi {T:String} {q':V->List V->Hp->VK->Prop} (e:Ev t U H x) (q:Wj K T x H/\ta U H λxs H2=>q' x xs H2 Q):Wo K T q' t ta U H Q:=e _ q
def UJ (e:Ev t U H (.bl k)) (q:if k=true then u U H Q else Q (.bl false) H):R1 t u U H Q:=e _ {_,rfl,q}
def Wd (e:Ev t U H (.bl k)) (q:if k=true then Q (.bl true) H else u U H Q):UO t u U H Q:=e _ {_,rfl,q}
def We (q:t U H λx H1=>u U H1 λy H2=>r x y H2 Q):fj r t u U H Q:=q
def SA (q:t U H λx H1=>ta U H1 λxs H2=>R (x::xs) H2):bD t ta U H R:=q
def V5 (e:Ev t U H x) (q:u U H λy H2=>r x y H2 Q):fj r t u U H Q:=e _ q
def Sy (e:Ev t U H v) (q:ta U H λxs H2=>R (v::xs) H2):bD t ta U H R:=e _ q
def V6 (q:Q (g i j) H):tW g (.int i) (.int j) H Q:={(i),j,rfl,rfl,q}
def UH (h:H p=some (.tup xs)) (e:vJ xs j=some v) (q:Q v H):mI K (.ref p) (.int j) H Q:={_,_,_,_,rfl,rfl,bu h,e,q}
end
def cU {g:TG} {tb:TS} {x:V} {U:St} {H:Hp} {A C:St->Hp->Prop} {B:VK} (h:∀N:Ends,(∀U H,A U H->N.nx U H)->(∀v H,B v H->N.rt v H)->(∀U H,A U H->N.ct U H)->(∀U H,C U H->N.bk U H)->g x U H λσ2 H2=>tb N σ2 H2):g x U H λσ2 H2=>tb {nx:=A,rt:=B,bk:=C,ct:=A} σ2 H2:=h _ (λ_ _ z=>z) (λ_ _ z=>z) (λ_ _ z=>z) λ_ _ z=>z
def V9 {r:Sp} {vs:List V} {H:Hp} {Q:VK} {E:XK} (h:∀Q':VK,(∀v H',Q v H'->Q' v H')->r vs H Q' E):r vs H Q E:=h Q λ_ _ z=>z
def Wa {r:R2} {x y:V} {H:Hp} {Q:VK} (h:∀Q':VK,(∀v H',Q v H'->Q' v H')->r x y H Q'):r x y H Q:=h Q λ_ _ z=>z
def V8 {r:V->Hp->VK->Prop} {x:V} {H:Hp} {Q:VK} (h:∀Q':VK,(∀v H',Q v H'->Q' v H')->r x H Q'):r x H Q:=h Q λ_ _ z=>z
abbrev cE (P:vh) (w:vi) (base:vn) (n:Nat) {K:yx} {mg:Str->Option vf} {x:Str} {st:Stmt} {a:vm} {d:vk} {ps:List Str} (_:Df K mg x st a d ps) (sp:Sp):Prop:=dy P w K mg base JK n a d ps sp
theorem _root_.L2.Qx.VO {P:vh} {w:vi} {K:yx} {mg:Str->Option vf} {base:vn} {x qual:Str} {st:Stmt} {f:vm} {fd:vk} {N ps:List Str} {k:Nat} {sp:Sp} (F:Qx K x qual st f fd) (S:fZ N ps (aX st))
  (hbody:∀(cdv:vf) (A:vj) (outer:List Env) (s:vg) (H:Hp) (vs:List V) (Q:VK) (E:XK),fo k (A.deeper (PyProof.Rows.envOfC qual (aX st) ↑s f cdv))->sp vs H Q E->
   ∃t,DH (jS JK P w K mg base N qual (aX st) f cdv A outer s H E).JL (cC st) t/\t (Dz Q) (start N vs) H)
  (len:(∀vs H Q E,sp vs H Q E->⇑vs=⇑ps)<|>qk_):dy P w K mg base JK (k+1) f fd ps sp:=F.ok S len hbody
def Xc {P:vh} {w:vi} {K:yx} {mg:Str->Option vf} {base:vn} {x:Str} {st:Stmt} {f:vm} {fd:vk} {N ps:List Str} {k:Nat} {sp:Sp} (D:Df K mg x st f fd ps) (S:fZ N ps (aX st))
  (hbody:N.Nodup->∀(cdv:vf) (A:vj) (outer:List Env) (s:vg) (H:Hp) (vs:List V) (Q:VK) (E:XK),fo k (A.deeper (PyProof.Rows.envOfC x (aX st) ↑s f cdv))->sp vs H Q E->
   ∃t,DH (jS JK P w K mg base N x (aX st) f cdv A outer s H E).JL (cC st) t/\t (Dz Q) (start N vs) H)
  (len:(∀vs H Q E,sp vs H Q E->⇑vs=⇑ps)<|>qk_):dy P w K mg base JK (k+1) f fd ps sp:=D.F.ok S len (hbody S.nd)
def Vi {N P:List Str} {sc:Scope} (h1:sc.kind=.function<|>qe_) (h2:sc.isCoroutine=false<|>qe_) (h3:sc.isGenerator=false<|>qe_) (h4:N.Nodup<|>ql_) (h5:N.take P.length=P<|>qe_) (h6:(∀x∈P,sc.names.lookup x=some .local\/sc.names.lookup x=some .cell)<|>ql_) (h7:(∀y∈sc.names,y.2≠.free)<|>ql_):fZ N P sc:={(h1),h2,h3,h4,h5,h6,h7}
def d6 {X:Cx} {x:Str} {id:String} {r:List V->Hp->VK->Prop} {e:Expr} {es:List Expr} {t:TA} {p pos:Pos} (hc:fH X (.builtin id) r) (hm:X.mg x=none) (ha:PA X (e::es) t) (hg:Gl X x<|>qe_) (hv:bootBuiltins x=some (.builtin id)<|>ql_) (hn:x≠ "__name__"<|>qb_) (hdb:(x == ("__debug__": Str))=false<|>qb_)
  (he:starEach (e::es) X.env=(false,eval e X.env)::starEach es X.env<|>qe_) (hpl:(backTo pos (starEach es X.env)).any (·.1)=false<|>qe_):PE X (.Call (.Name x p) (e::es) [] pos) (N3 r t):=HV hc hg hm hv ha hn hdb he hpl
def oA {X:Cx} {x:Str} {id:String} {r:List V->Hp->VK->Prop} {e:Expr} {es:List Expr} {t:TA} {p pos:Pos} (hc:fH X (.type id) r) (hm:X.mg x=none) (ha:PA X (e::es) t) (hg:Gl X x<|>qe_) (hv:bootBuiltins x=some (.type id)<|>ql_) (hn:x≠ "__name__"<|>qb_) (hdb:(x == ("__debug__": Str))=false<|>qb_)
  (he:starEach (e::es) X.env=(false,eval e X.env)::starEach es X.env<|>qe_) (hpl:(backTo pos (starEach es X.env)).any (·.1)=false<|>qe_):PE X (.Call (.Name x p) (e::es) [] pos) (N3 r t):=MU hc hg hm hv ha hn hdb he hpl
def bQ {X:Cx} {x:Str} {e:Expr} {te:TE} {pos pos':Pos} (i:Nat) (hN:X.N.Nodup) (he:PE X e te) (hi:X.N[i]?=some x<|>qe_) (hx:Loc X.env.scope x<|>qi_) (hs:swapsWith e (some (.Name x pos')) pos.line X.env=pure false<|>qe_) (hf:X.fn x=true\/X.env.scope.names.lookup x=some .local<|>qa_) :
  PS X (.Assign [.Name x pos'] e pos) (GY te (cz i)):=O6 hN hi hx he hs hf
def hX {X:Cx} {x:Str} {pos:Pos} (i:Nat) (hN:X.N.Nodup) (hi:X.N[i]?=some x<|>qe_) (hx:Loc X.env.scope x<|>qi_) (hf:X.fn x=true\/X.env.scope.names.lookup x=some .local<|>qa_):PG X (.Name x pos) (cz i):=LY hN hi hx hf
def f9 {X:Cx} {ts ys:List Str} {scope:Scope} {cl:List (Str×vm)} {C:vm} {s₀:vg} {H₀:Hp} {ex:List vm} {x:Str} {pos:Pos} (i:Nat) (hN:(ts++ys).Nodup<|>ql_) (hi:(ts++ys)[i]?=some x<|>qe_) (hx:Loc (cP X (ts++ys) scope cl C s₀ H₀ ex).env.scope x<|>qi_) (hf:(cP X (ts++ys) scope cl C s₀ H₀ ex).fn x=true\/(cP X (ts++ys) scope cl C s₀ H₀ ex).env.scope.names.lookup x=some .local<|>qa_):PG (cP X (ts++ys) scope cl C s₀ H₀ ex) (.Name x pos) (cz i):=LY hN hi hx hf
def Xk (X:Cx) (e:Expr) (t:TE):Prop:=∀(pins:List (vm×Obj)) (s:vg) (U:St) (H:Hp) (Q:VK),Inv X pins U H s->t U H Q->wpAny (model X.prog X.w) X.A (eval e X.env) (EP X pins U Q) X.xe s
section
variable {X:Cx} {pos:Pos} {elt target iter:Expr} {ifs:List Expr} {scope:Scope} {ts ys:List Str} {js:List Nat} {cl:List (Str×vm)} {wi:TI} {g:TG} {tc:TT} {te:TE}
def mq (hi:PI X target iter wi) (hg:∀{C s₀ H₀ ex},PG (cP X (ts++ys) scope cl C s₀ H₀ ex) target g) (hif:∀{C s₀ H₀ ex},RQ (cP X (ts++ys) scope cl C s₀ H₀ ex) ifs tc) (he:∀{C s₀ H₀ ex},Xk (cP X (ts++ys) scope cl C s₀ H₀ ex) elt te)
  (hclos:closureFor scope X.env=pure cl<|>qe_) (hc:X.calm=true<|>qe_) (hcl:GA X.env.cells cl<|>qm_)
  (hLo:((relabel scope X.env).names.all λp=>(p.2 != .cell&&p.2 != .free)||ys.contains p.1||scope.names.contains (p.1,.cell))=true<|>qe_) (hno:(∀p∈scope.names,p.2=.cell->p.1∉ys)<|>ql_)
  (hfr:NY X scope cl ys js<|>qm_)
  (hkind:scope.kind=.function<|>qe_) (hnames:(∀y∈scope.names,y.2=.local->scope.names.lookup y.1=some .local)<|>ql_) (hs:(∀x,foldedSetIterable iter X.env x=pure x)<|>qd_) :
  PE X (.ListComp elt [{target,iter,ifs,0}] scope pos) (mz (ts.map (λ_=>none)++js.map some) wi g tc te):=Pk hc hclos hcl hLo hno hfr hkind hnames hi (λ_ _ _ _=>hg) (λ_ _ _ _=>hif) (λ_ _ _ _=>he) hs
def Pl {i:Nat} {x:Str} {ps pa:Pos} (hi:PI X target iter wi) (hg:∀{C s₀ H₀ ex},PG (cP X (ts++ys) scope cl C s₀ H₀ ex) target g) (hif:∀{C s₀ H₀ ex},RQ (cP X (ts++ys) scope cl C s₀ H₀ ex) ifs tc) (he:∀{C s₀ H₀ ex},Xk (cP X (ts++ys) scope cl C s₀ H₀ ex) elt te) (hN:X.N.Nodup)
  (hclos:closureFor scope X.env=pure cl<|>qe_) (hc:X.calm=true<|>qe_) (hcl:GA X.env.cells cl<|>qm_)
  (hLo:((relabel scope X.env).names.all λp=>(p.2 != .cell&&p.2 != .free)||ys.contains p.1||scope.names.contains (p.1,.cell))=true<|>qe_) (hno:(∀p∈scope.names,p.2=.cell->p.1∉ys)<|>ql_)
  (hfr:NY X scope cl ys js<|>qm_)
  (hkind:scope.kind=.function<|>qe_) (hnames:(∀y∈scope.names,y.2=.local->scope.names.lookup y.1=some .local)<|>ql_) (hx1:X.N[i]?=some x<|>qe_) (hx2:Loc X.env.scope x<|>qi_) (hs:(∀x,foldedSetIterable iter X.env x=pure x)<|>qd_) (hsw:swapsWith (.ListComp elt [{target,iter,ifs,0}] scope pos) (some (.Name x ps)) pa.line X.env=pure true<|>qe_)
  (hf:X.fn x=true\/X.env.scope.names.lookup x=some .local<|>qa_) :
  PS X (.Assign [.Name x ps] (.ListComp elt [{target,iter,ifs,0}] scope pos) pa) (GY (mz (ts.map (λ_=>none)++js.map some) wi g tc te) (cz i)):=O8 hc hclos hcl hLo hno hfr hkind hnames hi (λ_ _ _ _=>hg) (λ_ _ _ _=>hif) (λ_ _ _ _=>he) hN hx1 hx2 hs hsw hf
end
section
variable {P:vh} {w:vi} {K:yx} {mg:Str->Option vf} {base:vn} (T:Txt K mg)
local macro_rules | `(tactic|right) => `(tactic| (intro pp hn; generalize hG : upd _ pp _ = HH; have sm := aF.Bh hG hn; have hh := B3 hG; clear hG hn))
local macro_rules | `(tactic| intros $D:ident $n:ident $s:ident $h:ident $H:ident) => `(tactic| ((try refine ⟨yd _, ?_⟩); intro $D $n; generalize hG : upd _ $D _ = $H; have $s:ident := aF.Bh hG $n; have $h:ident := B3 hG; clear hG))
local macro_rules|`(tactic|ac_rfl)=>`(tactic|try dsimp only[jS,Cx.JL])
local macro_rules|`(tactic|intros $p:ident $H:ident $s:ident $h:ident)=>`(tactic|(intro $p hn;generalize hG:upd _ $p _=$H;have $s:ident:=aF.Bh hG hn;have $h:ident:=B3 hG;clear hG hn))
local macro_rules|`(tactic|change $e:term)=>`(tactic|(left ;exact $e))
set_option hygiene false
local macro_rules|`(tactic|fail "h")=>`(tactic|(refine aF.on (by assumption) ?_; fail "h"))
local macro_rules|`(tactic|fail "h")=>`(tactic|assumption)
local macro_rules|`(tactic|fail "e")=>`(tactic|((with_reducible apply Vl); fail "e"; fail "e"; (first | (show (0 : Int) < _; decide) | exact And.intro ∅ ∅ | exact Or.inl ⟨∅, by decide⟩ | exact Or.inr ⟨∅, by decide⟩)))
local macro_rules|`(tactic|fail "e")=>`(tactic|((with_reducible (first | apply Vn | apply Vj)); fail "e"; fail "e"; exact rfl))
local macro_rules|`(tactic|fail "e")=>`(tactic|((with_reducible (first | apply WQ | apply WT | apply WR | apply T9 | apply Rx | apply T7)); fail "e"))
local macro_rules|`(tactic|fail "e")=>`(tactic|((with_reducible apply Vk); fail "e"; fail "e"; fail "h"; exact rfl))
local macro_rules|`(tactic|fail "e")=>`(tactic|((with_reducible (first | apply Vm | apply Ry)); fail "e"; fail "e"))
local macro_rules|`(tactic|fail "e")=>`(tactic|with_reducible (first | exact WS | exact T8))
local macro_rules|`(tactic|fail "e")=>`(tactic|((with_reducible apply T6); exact rfl))
local macro_rules | `(tactic| exists $es,*) => `(tactic| (left; first | ((with_reducible (first | refine V9 fun _ kq => ?_ | refine Wa fun _ kq => ?_ | refine V8 fun _ kq => ?_)); refine ⟨$es,*⟩; refine kq _ _ ?_) | refine ⟨$es,*⟩))
local macro_rules|`(tactic|fail "s")=>`(tactic|refine Or.inr ⟨_, rfl, ?_⟩)
local macro_rules|`(tactic|fail "s")=>`(tactic|refine ⟨Or.inr ⟨∅, by decide⟩, ?_⟩)
local macro_rules|`(tactic|fail "s")=>`(tactic|refine ⟨Or.inl ⟨∅, by decide⟩, ?_⟩)
local macro_rules|`(tactic|fail "s")=>`(tactic|refine ⟨(And.intro ∅ ∅), ?_⟩)
local macro_rules|`(tactic|fail "s")=>`(tactic|refine ⟨(by show (0 : Int) < _; decide), ?_⟩)
local macro_rules|`(tactic|fail "s")=>`(tactic|refine ⟨_, tag_tup (by fail "h"), ?_⟩)
local macro_rules|`(tactic|fail "s")=>`(tactic|refine ⟨_, _, _, _, rfl, rfl, bu (by fail "h"), rfl, ?_⟩)
local macro_rules|`(tactic|fail "s")=>`(tactic|refine WG ?_)
local macro_rules|`(tactic|fail "s")=>`(tactic|refine Vc ?_)
local macro_rules|`(tactic|fail "s")=>`(tactic|refine ⟨rfl, ?_⟩)
local macro_rules|`(tactic|fail "s")=>`(tactic|refine ⟨_, _, rfl, rfl, ?_⟩)
local macro_rules|`(tactic|fail "s")=>`(tactic|refine ⟨_, rfl, ?_⟩)
local macro_rules|`(tactic|fail "s")=>`(tactic|with_reducible (first | apply V6 | apply Xq | apply Xr | apply x_call | apply V4 | apply UB | apply UD | apply Sx | apply VX | apply V0 | apply We | apply SA))
local macro_rules|`(tactic|fail "s")=>`(tactic|((with_reducible apply UH); fail "h"; exact rfl))
local macro_rules|`(tactic|fail "s")=>`(tactic|((with_reducible (first | apply SD | apply Wh | apply Wr | apply UI | apply Wi | apply UJ | apply Wd | apply V5 | apply Sy | apply Wb | apply Wf | apply Wg | apply Wc | apply UX | apply Wq | apply s_ie)); fail "e"))
local macro_rules|`(tactic|fail "s")=>`(tactic|((with_reducible apply US); fail "e"))
local macro_rules|`(tactic|fail "s")=>`(tactic|((with_reducible apply w_arg); fail "e"))
local macro_rules|`(tactic|fail "s")=>`(tactic|((with_reducible apply V7); fail "e"))
local macro_rules|`(tactic|fail "s")=>`(tactic|with_reducible (first | apply VW (K := K) | apply V2 | apply VZ | apply VY | apply x_at | apply UG | apply UC | apply Sw | apply V3 (K := K) | apply V1 | apply UE (K := K)))
local macro_rules|`(tactic|fail "s")=>`(tactic|((with_reducible (first | apply UW | apply UT | apply Ws (K := K))); fail "e"))
local macro_rules | `(tactic|left) => `(tactic| ((repeat fail "s"); (first | (first | apply kN4 | apply kN3 | apply kN2 | apply kN1 | apply kN0 | apply kR4 | apply kR3 | apply kR2 | apply kR1 | apply kR0); left | skip)))
local macro_rules | `(tactic| nomatch $a:term, $b:term) => `(tactic| refine Xc $a (N := $b) Vi fun qN _ _ _ _ H vs Q E hr h => ?_)
set_option hygiene true
def qF:cE P w base 1 T.fS jn:=by
 nomatch T.fS,["one","other","rest"]
 let⟨a,b,rfl,h1,h2,kk⟩:=h;refine{_,(ah (A2 yL (ptr iU (pv 1) aa)
  (ah (bQ 2 qN (au aS (pv 0) (pv 1)))
   (ah (bQ 0 qN (pv 1))
   (ak (bQ 1 qN (pv 2))))))
  (ak (ar (pv 0)))),?_}
 refine{λm U H'=>H'=H/\∃(x y:Int) (r:Option V),U=[some (.int x),some (.int y),r]/\0<=x/\0<=y/\Int.gcd x y=Int.gcd a b/\m=y.toNat,{_,rfl,a,b,none,rfl,h1,h2,rfl,rfl},?_};rintro m U H' ⟨rfl,x,y,r,rfl,hx,hy,hg,rfl⟩;left
 by_cases e:y=0
 ·subst e
  refine Sf rfl ?_;refine{_,rfl,?_};let e2:Int.gcd a b=x.natAbs:=by rw[<-hg];simp
  let e3:((Int.gcd a b:Nat):Int)=x:=by rw[e2];ext
  rw[e3] at kk;exact kk
 ·refine bX (by simp[e]) ?_
  refine{λU' H''=>∃m',m'<y.toNat/\H''=H'/\∃(x y:Int) (r:Option V),U'=[some (.int x),some (.int y),r]/\0<=x/\0<=y/\Int.gcd x y=Int.gcd a b/\m'=y.toNat,λ_ _ h=>h,?_};exists(by show(0:Int)<y;ext),?_;left;let hp:(0:Int)<y:=()
  let l1:=zv x (by omega:y≠0);let l2:=zr x hp;exact{(x%y).toNat,(),rfl,y,x%y,_,rfl,hy,l1,(ID hx hp).trans hg,rfl}
def iW:cE P w base 2 T.eJ fN:=by
 let G_common_divisor:cE P w base 1 T.fS jn:=qF T
 nomatch T.eJ,["top","bottom","divisor"]
 let⟨t,b,rfl,h1,h2,h3,kk⟩:=h;refine{_,(ah (bQ 2 qN (bJ G_common_divisor hr T.fS (af (pv 0) (af (pv 1) ag))))
  (ak (ar (aW (af (au qD (pv 0) (pv 2)) (af (au qD (pv 1) (pv 2)) ag)))))),?_}
 exists t,b,rfl,h1,yZ h2,?_;let g0:=v8 (t:=t) h2;let g1:Sz 8999 ((Int.gcd t b:Nat):Int):=h3.le (yZ g0) (PY h2);exists{(g0),g1},?_;exists{(g0),g1},?_;refine{bK,laid λp H' sm hp=>kk p H' sm ?_};exact hp
def Pp:cE P w base 3 T.added OK:=by
 let G_made_length:cE P w base 2 T.eJ fN:=iW T
 nomatch T.added,["one","other"]
 let⟨x,y,p,q,n,m,rfl,hp,hq,rx,ry,sx,sy,hnm,kk⟩:=h;let⟨x1,x2,_⟩:=rx.pos;let⟨y1,y2,_⟩:=ry.pos;let bx1:Sz 20000 x.1:=sx.1.mono ();let bx2:Sz 20000 x.2:=sx.2.mono ();let by1:Sz 20000 y.1:=sy.1.mono ();let by2:Sz 20000 y.2:=sy.2.mono ();refine{_,(ak (ar (bJ G_made_length hr T.eJ (af (au aR (au qC (bG (pv 0) aa) (bG (pv 1) aa)) (au qC (bG (pv 1) aa) (bG (pv 0) aa))) (af (au qC (bG (pv 0) aa) (bG (pv 1) aa)) ag))))),?_};exists{(bx1),by2},?_;exists{(by1),bx2},?_;exists{(bx2),by2},?_;refine{_,_,rfl,Int.add_nonneg (xX x1 (yZ y2)) (xX y1 (yZ x2)),xt x2 y2,(sx.2.mul sy.2).mono hnm,λr H' sm hr'=>kk r H' sm hr'}
def Kv:cE P w base 1 T.EX J3:=by
 nomatch T.EX,["one","other"]
 let⟨x,y,p,q,rfl,hp,hq,sx,sy,kk⟩:=h;let bx1:Sz 20000 x.1:=sx.1.mono ();let bx2:Sz 20000 x.2:=sx.2.mono ();let by1:Sz 20000 y.1:=sy.1.mono ();let by2:Sz 20000 y.2:=sy.2.mono ();refine{_,(ak (ar (dw eI (au qC (bG (pv 0) aa) (bG (pv 1) aa)) (au qC (bG (pv 1) aa) (bG (pv 0) aa)) (gQ _)))),?_};exists{(bx1),by2},?_;exists{(by1),bx2},?_;change kk
def bR:cE P w base 1 T.cw CC:=by
 nomatch T.cw,["_law_cell","_law_k"]
 let⟨c,k,rfl,h1,h2,kk⟩:=h;refine{_,(ak (ar (au aS (au dR (au dR (au aR (au aS (pv 0) aa) aa) (au aR (au dR (pv 1) (pv 1)) aa)) aa) aa))),?_};exists Or.inl {(()),()},?_;left;let e1:0<=c%2305843009213693951:=zv _ ∅;let e2:c%2305843009213693951<2305843009213693951:=zr _ ∅;refine{Or.inl {(()),()},?_};change kk
def fO:cE P w base 1 T.fG Av:=by
 nomatch T.fG,["_law_top","_law_bottom","_law_one","_law_other"]
 let⟨t,b,rfl,h1,h2,h3,kk⟩:=h;let g0:=v8 (t:=t) h2;let g1:Sz 8999 ((Int.gcd t b:Nat):Int):=h3.le (yZ g0) (PY h2);refine{_,(ah (O7 (i:=2) (j:=3) rfl qN rfl rfl ∅ rfl rfl (af (pv 0) (af (pv 1) ag)) rfl)
  (ah (A2 yL (ptr d7 (pv 3) aa)
  (ak (O7 (i:=2) (j:=3) rfl qN rfl rfl ∅ rfl rfl (af (pv 3) (af (au aS (pv 2) (pv 3)) ag)) rfl)))
  (ak (ar (aW (af (au qD (pv 0) (pv 2)) (af (au qD (pv 1) (pv 2)) ag))))))),?_}
 exists _,_,rfl,?_;refine{λm U H'=>H'=H/\∃(x y:Int),U=[some (.int t),some (.int b),some (.int x),some (.int y)]/\0<=x/\0<=y/\Int.gcd x y=Int.gcd t b/\m=y.toNat,{_,rfl,t,b,rfl,h1,yZ h2,rfl,rfl},?_};rintro m U H' ⟨rfl,x,y,rfl,hx,hy,hg,rfl⟩;left
 by_cases e:y=0
 ·subst e
  refine b7 (by simp) ?_;let e2:Int.gcd t b=x.natAbs:=by rw[<-hg];simp
  let e3:x=((Int.gcd t b:Nat):Int):=by rw[e2];ext
  subst e3;exists{(g0),g1},?_;exists{(g0),g1},?_;refine{bK,laid λp H' sm hp=>kk p H' sm ?_};exact hp
 ·let hp:(0:Int)<y:=()
  refine bX (ze hp) ?_;refine{λU' H''=>∃m',m'<y.toNat/\H''=H'/\∃(x y:Int),U'=[some (.int t),some (.int b),some (.int x),some (.int y)]/\0<=x/\0<=y/\Int.gcd x y=Int.gcd t b/\m'=y.toNat,λ_ _ h=>h,?_};exists(by show(0:Int)<y;ext),?_;refine{_,_,rfl,?_};let l1:=zv x (by omega:y≠0);let l2:=zr x hp;exact{(x%y).toNat,(),rfl,y,x%y,rfl,hy,l1,(ID hx hp).trans hg,rfl}
def eF:fZ ["text","parts","top","bottom"] ["text"] (aX oz):=Vi
def gO:cE P w base 1 T.du gL:=by
 nomatch T.du,["text","most"]
 let⟨t,most,rfl,hl,kk⟩:=h;let sl:=yy;let hz:⇑t<=sizeLine:=()
 let el:⇑t.cps.toList=⇑t:=yM;unfold rn at kk;rw[el] at kk;refine{_,(ah (aJ (PW.pt (dB (ptr eI (d6 fU T.bE (af (pv 0) ag)) aa) (cY (ptr d7 (d6 fU T.bE (af (pv 0) ag)) (pv 1)))))
  (ak (ar aV))
  aA)
  (ah (aJ (eA (cB (d6 (nS rfl) T.L0 (af (mq (ts:=["sign"]) (ys:=[]) (js:=[]) (te:=(fj (λx y H Q=>∃i j,x=.str i/\y=.str j/\Q (.bl (!(Builtin.Str.occurrences j i 0 ⇑j 1).isEmpty)) H) (bc 0) (tC (.str "0123456789")))) (Pc (pv 0)) (f9 0) bB (dw DX (pv 0) (bM (v:=.str "0123456789") (by rfl) T.NG {_,rfl}) (by with_unfolding_all rfl))) ag))))
  (ak (ar aV))
  aA)
  (ah (aJ (PW.pt (cZ (ptr dh (A4 FH (pv 0) aa (λ_ _=>rfl)) aL) (cS (ptr d7 (d6 fU T.bE (af (pv 0) ag)) aa))))
  (ak (ar aV))
  aA)
  (ak (ar (oA F9 T.Sb (af (pv 0) ag))))))),?_}
 exists hz,?_;left;refine vt (λc1=>?_) (λc1=>?_)
 ·left
  let z:=kk H (aD H);rw[yK (yb c1)] at z;exact z
 let c1':¬(⇑t:Int)<1:=λz=>c1 (ze z);rw[yJ c1'] at kk;exists hz,?_;left;refine vt (λc2=>?_) (λc2=>?_)
 ·left
  let z:=kk H (aD H);rw[yK (yb c2)] at z;exact z
 let c2':¬most<(⇑t:Int):=λz=>c2 (ze z);rw[yJ c2'] at kk;left;refine ra ⇑t (λi=>(t.cps.toList.take i).map λc=>V.bl (decide (c∈vw))) (λi U H'=>H'=H/\∃v,U=[v]) (λi hi=>by rw[za,zO];ext) () rfl {(rfl),none,rfl} (λi U H' hi _=>hi) (λU H' _=>zk _) ?_ ?_
 ·rintro i x U H1 H2 hi ⟨rfl,v,rfl⟩ ⟨rfl,c,hc,rfl⟩
  left;refine NZ.push hi ?_ {rfl,_,rfl};rw[PySem.StrLaws.found_one];rw[<-xb] at hc;show List.map _ (List.take (i+1) t.cps.toList)=_;rw[xn,hc,zj];rfl
 ·rintro U H1 ⟨rfl,_⟩
  rw[<-el,zL];intros D H2 sm h2;refine{D,t.cps.toList.map (λc=>decide (c∈vw)),rfl,ao (by rw[h2,zz];rfl),?_};let ea:(t.cps.toList.map (λc=>decide (c∈vw))).all id=t.cps.toList.all (λc=>decide (c∈vw)):=by rw[x6];rfl
  rw[ea]
  by_cases ha:t.cps.toList.all (λc=>decide (c∈vw))=true
  ·rw[ha]
   rw[yK ha] at kk;left;let h1:0<t.cps.size:=by show 0<⇑t;ext
   obtain⟨c,hc⟩:∃c,t.cps[0]?=some c:={t.cps[0]'h1,Array.getElem?_eq_getElem h1}
   let hc':t.cps.toList[0]?=some c:=by rw[xb];exact hc
   rw[hc'] at kk;refine{_,0,c,rfl,rfl,hz,bq (j:=0) hc',?_};left;let rd:PySem.intText? t=some ((NumText.digitsVal t.cps.toList:Nat):Int):=PySem.intText_digits (Lp ha) (λz=>by rw[z] at el;simp at el;ext) ()
   by_cases e0:c=48
   ·subst e0
    refine bX ∅ ?_;exists hz,?_;left;refine vt (λc3=>?_) (λc3=>?_)
    ·left
     let c3':1<⇑t:=by have:=yb c3;ext
     let z:=kk H2 sm;rw[yK {(rfl),c3'}] at z;exact z
    ·let c3':¬1<⇑t:=λz=>c3 (ze ())
     let z:=kk H2 sm;rw[yJ (λq=>c3' q.2)] at z;change{_,_,rfl,rd,(),z}
   ·refine b7 (zd λz=>e0 ?_) ?_
    ·let z':=V.str.inj z
     exact(List.cons.inj (show [c]=[48] from yV (λy:Str=>y.cps.toList) z')).1
    let z:=kk H2 sm;rw[yJ (λq=>e0 (yh q.1))] at z;change{_,_,rfl,rd,(),z}
  ·rw[yJ ha] at kk
   rw[Bool.eq_false_iff.mpr ha];change kk H2 sm
def lP:cE P w base 2 T.fw lI:=by
 let G_read_number:cE P w base 1 T.du gL:=gO T
 nomatch T.fw,["text","most","number"]
 let⟨t,most,rfl,hl,kk⟩:=h;let sl:=yy;unfold rs at kk;refine{_,(ah (aJ (eA (cB (bW yC PySem.F.slot_str_startswith PySem.F.type_str_startswith C9 (pv 0) (af aL ag))))
  (ak (ar (bJ G_read_number hr T.du (af (pv 0) (af (pv 1) ag)))))
  aA)
  (ah (bQ 2 qN (bJ G_read_number hr T.du (af (dI J9 (pv 0) (eO aa) eP) (af (pv 1) ag))))
  (ah (aJ (PW.pt (dB (bC (cm (pv 2))) (cY (ptr dh (pv 2) aa))))
  (ak (ar aV))
  aA)
  (ak (ar (jy fL (pv 2))))))),?_}
 left
 by_cases hn:t.cps.toList[0]?=some 45
 ·rw[yK hn] at kk
  let q:=(PySem.StrLaws.subAt_one t 45 0).mpr hn;let es:(decide (0+("-": Str).length<=⇑t)&&Builtin.Str.subAt t "-" 0)=true:=by
   rw[zM];exact{ze q.1,q.2}
  rw[es];exists by ext,?_
  let h1:1<=⇑t:=by have:=q.1;let e:⇑({#[45]}:Str)=1:=rfl;ext
  let e1:(PySem.Txt.slice t (some 1) none).cps.toList=t.cps.toList.drop 1:=oM t h1;exists _,most,rfl,zK (PySem.Txt.slice_le t _ _) hl,λH1 s1=>?_;rw[e1];let z:=kk H1 s1;cases hr':rn most (t.cps.toList.drop 1) with
  | none=>
   rw[hr'] at z;change z
  | some n=>
   rw[hr'] at z;left
   by_cases e0:n=0
   ·subst e0
    refine bX ∅ ?_;change z
   ·refine b7 (zd λy=>e0 (V.int.inj y)) ?_
    left;let z':Q (ov (if n=0 then none else some (-n))) H1:=z;rw[yJ e0] at z';exact z'
 ·rw[yJ hn] at kk
  let es:(decide (0+("-": Str).length<=⇑t)&&Builtin.Str.subAt t "-" 0)=false:=by
   rw[Bool.eq_false_iff];intro z;rw[zM] at z;exact hn ((PySem.StrLaws.subAt_one t 45 0).mp {yb z.1,z.2})
  rw[es];change{t,most,rfl,hl,λH1 s1=>kk H1 s1}
def mO:cE P w base 3 T.iR mD:=by
 let G_read_signed:cE P w base 2 T.fw lI:=lP T
 nomatch T.iR,["fifths_text","steps_text","fifths","steps"]
 let⟨a,b,rfl,la,lb,kk⟩:=h;unfold rp at kk;refine{_,(ah (bQ 2 qN (bJ G_read_signed hr T.fw (af (pv 0) (af (bM (v:=.int 2) (by rfl) T.lX {_,rfl}) ag))))
  (ah (bQ 3 qN (bJ G_read_signed hr T.fw (af (pv 1) (af (bM (v:=.int 2) (by rfl) T.lX {_,rfl}) ag))))
  (ah (aJ (PW.pt (dB (bC (cm (pv 2))) (cY (bC (cm (pv 3))))))
  (ak (ar aV))
  aA)
  (ah (aJ (ptr iU (au aS (au gN (pv 3) (au dR (bM (v:=.int 7) (by rfl) T.Du {_,rfl}) (pv 2))) (bM (v:=.int 12) (by rfl) T.BW {_,rfl})) aa)
  (ak (ar aV))
  aA)
  (ak (ar (aW (af (pv 2) (af (pv 3) ag))))))))),?_}
 exists a,2,rfl,la,λH1 s1=>?_;exists b,2,rfl,lb,λH2 s2=>?_;let S2:=s1.trans s2;cases ea:rs 2 a with
 | none=>
  rw[ea] at kk;change kk .bN H2 S2 .bN
 | some f=>
  cases eb:rs 2 b with
  | none=>
   rw[ea,eb] at kk;change kk .bN H2 S2 .bN
  | some g=>
   rw[ea,eb] at kk;left
   by_cases hm:(g-7*f)%12=0
   ·refine Sf (yV V.int hm) ?_
    left;refine{bK,laid λp H3 s3 hp=>kk (.ref p) H3 (S2.trans s3) ?_};show LH H3 (.ref p) (if(g-7*f)%12=0 then some (f,g) else none);rw[yK hm];exact .ref hp
   ·refine bX (by simp[hm]) ?_
    left;refine kk .bN H2 S2 ?_;show LH H2 .bN (if(g-7*f)%12=0 then some (f,g) else none);rw[yJ hm];exact .bN
def lO:dy P w K mg base (GH P w) 3 T.jU T.jR ["text"] (lH T.i9):=by
 let G_read_number:cE P w base 1 T.du gL:=gO T;let G_made_length:cE P w base 2 T.eJ fN:=iW T;refine T.eG.F.Xv eF (λvs H Q E h=>?_) (λcdv A' outer s H vs Q E hr h=>?_)
 ·let⟨_,rfl,_⟩:=h;rfl
 ·let⟨t,rfl,lt,k1,k2⟩:=h
  let sl:=yy;let pl:=PyProof.Rows.split_pos t "/";let sh:∀z∈Txt.split t "/",⇑z<=600:=λz hz=>zK (xK hz) lt;refine{_,(ah (bQ 1 eF.nd (bW yC yG yF iX (pv 0) (af aL ag)))
   (ah (aJ (ptr d7 (d6 aB T.bE (af (pv 1) ag)) aa)
   (ak (HP T.kY T.kL PySem.F.excBase_ValueError rfl (af aL ag)))
   aA)
   (ah (bQ 2 eF.nd (bJ G_read_number hr T.du (af (eM (pv 1) aa) (af (bM (v:=.int 4) (by rfl) T.ku {_,rfl}) ag))))
   (ah (bQ 3 eF.nd aa)
   (ah (aJ (ptr dh (d6 aB T.bE (af (pv 1) ag)) aa)
   (ak (bQ 3 eF.nd (bJ G_read_number hr T.du (af (eM (pv 1) aa) (af (bM (v:=.int 4) (by rfl) T.ku {_,rfl}) ag)))))
   aA)
   (ah (aJ (PW.pt (dB (bC (cm (pv 2))) (dB (bC (cm (pv 3))) (cY (ptr dh (pv 3) aa)))))
   (ak (HP T.kY T.kL PySem.F.excBase_ValueError rfl (af aL ag)))
   aA)
   (ak (ar (bJ G_made_length hr T.eJ (af (pv 2) (af (pv 3) ag))))))))))),?_}
  exists by ext,?_
  unfold QA at k1 k2;generalize Txt.split t "/"= ws at k1 k2 pl sh;intros p1 H1 s1 h1;exists p1,_,rfl,.inl (ao h1),?_
  match ws,pl,sh,k1,k2,h1 with
  | [a],_,sh,k1,k2,h1=>
   exists p1,_,0,_,rfl,rfl,ao h1,rfl,?_;exists a,4,rfl,sh a (by simp),λH2 s2=>?_;replace h1:=s2 _ _ h1;exists p1,_,rfl,.inl (ao h1),?_;cases ea:rn 4 a.cps.toList with
   | none=>
    simp only[ea] at k1 k2;left;refine{by show 1<=sizeLine;decide,k2 trivial H2 (s1.trans s2)}
   | some n=>
    simp only[ea] at k1 k2;let⟨n0,n1,_⟩:=OU ea ∅;change{_,_,rfl,n0,∅,(dm (n:=1) ∅ ∅).mono ∅,λp3 H3 s3 h3=>k1 _ rfl p3 H3 ((s1.trans s2).trans s3) h3}
  | [a,b],_,sh,k1,k2,h1=>
   exists p1,_,0,_,rfl,rfl,ao h1,rfl,?_;exists a,4,rfl,sh a (by simp),λH2 s2=>?_;replace h1:=s2 _ _ h1;exists p1,_,rfl,.inl (ao h1),?_;exists p1,_,1,_,rfl,rfl,ao h1,rfl,?_;exists b,4,rfl,sh b (by simp),λH3 s3=>?_;let S3:=(s1.trans s2).trans s3;cases ea:rn 4 a.cps.toList with
   | none=>
    simp only[ea] at k1 k2;change{by show 1<=sizeLine;decide,k2 trivial H3 S3}
   | some n=>
    cases eb:rn 4 b.cps.toList with
    | none=>
     simp only[ea,eb] at k1 k2;change{by show 1<=sizeLine;decide,k2 trivial H3 S3}
    | some m=>
     simp only[ea,eb] at k1 k2;let⟨n0,n1,_⟩:=OU ea ∅;let⟨m0,m1,_⟩:=OU eb ∅;left
     by_cases e0:m=0
     ·subst e0
      refine bX ∅ ?_;change{by show 1<=sizeLine;decide,k2 rfl H3 S3}
     ·rw[yJ e0] at k1
      refine b7 (zd λy=>e0 (V.int.inj y)) ?_;change{_,_,rfl,n0,(),(dm (n:=14) () ()).mono ∅,λp4 H4 s4 h4=>k1 _ rfl p4 H4 (S3.trans s4) h4}
  | a::b::c::r,_,sh,k1,k2,h1=>
   left;refine bX (ze (show(2:Int)<(⇑((a::b::c::r).map V.str):Int) by rw[za];simp only[zt];ext)) ?_;change{by show 1<=sizeLine;decide,k2 rfl H1 s1}
def gG:cE P w base 4 T.dH gE:=by
 let G_read_length:dy P w K mg base (GH P w) 3 T.jU T.jR ["text"] (lH T.i9):=lO T
 nomatch T.dH,["text","length"]
 let⟨t,rfl,lt,kk⟩:=h;unfold lr at kk;refine{_,(ah (Q6 G_read_length (hr.mono ∅) rfl T.eG.g T.eG.F.kp T.eG.b (af (pv 0) ag) rfl qN (i:=1) rfl (Or.inl rfl) rfl T.kY T.kL rfl rfl rfl (λe=>(ak (ar aV))))
  (ah (aJ (ptr dh (bG (pv 1) aa) aa)
  (ak (ar aV))
  aA)
  (ak (ar (pv 1))))),?_}
 left;refine{lt,λx ex p1 H1 s1 h1=>?_,λen H1 s1=>{rfl,?_}}
 ·simp only[ex] at kk
  left
  by_cases e0:x.1=0
  ·refine bX (by rw[e0];rfl) ?_
   left;rw[yK e0] at kk;exact kk .bN H1 s1 .bN
  ·refine b7 (zd λy=>e0 (V.int.inj y)) ?_
   left;rw[yJ e0] at kk;exact kk (.ref p1) H1 s1 (.ref h1)
 ·simp only[en] at kk
  change kk .bN H1 s1 .bN
def Ro {ws:List Str} (h:1<=⇑ws):vJ (ws.map V.str) (-1)=some (.str (ws.getLast?.getD "")):=by
 let ne:ws≠[]:=λz=>by rw[z] at h;simp at h
 let e:=xR ne;let e2:ws.getLast?.getD ""= ws.getLast ne:=by rw[List.getLast?_eq_some_getLast ne];rfl
 rw[e2];let e3:ws.map V.str=ws.dropLast.map V.str++[V.str (ws.getLast ne)]:=by rw[<-List.map_singleton (f:=V.str),<-zj,e]
 rw[e3];exact B4 _ _
def PK {ws:List Str} (h:1<=⇑ws):ws.getLast?.getD "" ∈ws:=by
 let ne:ws≠[]:=λz=>by rw[z] at h;simp at h
 rw[List.getLast?_eq_some_getLast ne];exact List.getLast_mem ne
def CW:cE P w base 5 T.su ou:=by
 let G_read_item_length:cE P w base 4 T.dH gE:=gG T;let G_read_pitch:cE P w base 3 T.iR mD:=mO T
 nomatch T.su,["text","parts","length","pitch"]
 let⟨t,rfl,lt,kk⟩:=h;let sl:=yy;let pl:=PyProof.Rows.split_pos t ":";let sh:∀z∈Txt.split t ":",⇑z<=600:=λz hz=>zK (xK hz) lt;unfold ir at kk;refine{_,(ah (bQ 1 qN (bW yC yG yF iX (pv 0) (af aL ag)))
  (ah (bQ 2 qN (bJ G_read_item_length hr T.dH (af (eM (pv 1) (jy fL aa)) ag)))
  (ah (aJ (bC (cm (pv 2)))
  (ak (ar aV))
  aA)
  (ah (aJ (PW.pt (cZ (ptr dh (d6 aB T.bE (af (pv 1) ag)) aa) (cS (ptr dh (eM (pv 1) aa) aL))))
  (ak (ar (aW (af aV (af (pv 2) ag)))))
  aA)
  (ah (aJ (ptr iU (d6 aB T.bE (af (pv 1) ag)) aa)
  (ak (ar aV))
  aA)
  (ah (bQ 3 qN (bJ G_read_pitch hr T.iR (af (eM (pv 1) aa) (af (eM (pv 1) aa) ag))))
  (ah (aJ (bC (cm (pv 3)))
  (ak (ar aV))
  aA)
  (ak (ar (aW (af (pv 3) (af (pv 2) ag)))))))))))),?_}
 exists by ext,?_
 generalize Txt.split t ":"= ws at kk pl sh;intros p1 H1 s1 h1;exists p1,_,-1,_,rfl,rfl,ao h1,Ro pl,?_;refine{_,rfl,sh _ (PK pl),λv H2 s2 hv=>?_};let h2:=s2 _ _ h1;let S2:=s1.trans s2;generalize lr (ws.getLast?.getD "")=o at kk hv;cases hv with
 | bN=>
  change kk .bN H2 S2 rfl
 | @ref p2 x hx=>
  let kk':∀v H',aF H H'->RV H' v (if ws.dropLast=[("r": Str)] then some (none,x) else match ws.dropLast with
   | [a,b]=>(match rp a b with | some q=>some (some q,x) | none=>none)
   | _=>none)->Q v H':=kk
  clear kk;exists p1,_,rfl,.inl (ao h2),?_
  match ws,pl,sh,kk',h2 with
  | [a],_,sh,kk,h2=>
   exists p1,_,rfl,.inl (ao h2),?_;change kk .bN H2 S2 rfl
  | [a,b],_,sh,kk,h2=>
   exists p1,_,0,_,rfl,rfl,ao h2,rfl,?_;left
   by_cases ea:a ="r"
   ·subst ea
    refine bX ∅ ?_;change{bK,laid λp3 H3 s3 h3=>kk (.ref p3) H3 (S2.trans s3) {p3,_,p2,rfl,h3,s3 _ _ hx,.bN}}
   ·refine b7 (zd λz=>ea (V.str.inj z)) ?_
    exists p1,_,rfl,.inl (ao h2),?_;left;refine kk .bN H2 S2 ?_;rw[yJ (by intro z;exact ea (List.cons.inj z).1)];rfl
  | [a,b,c],_,sh,kk,h2=>
   exists p1,_,rfl,.inl (ao h2),?_;exists p1,_,0,_,rfl,rfl,ao h2,rfl,?_;exists p1,_,1,_,rfl,rfl,ao h2,rfl,?_;refine{a,b,rfl,sh a (by simp),sh b (by simp),λv H3 s3 hv=>?_};let kk2:∀v H',aF H H'->RV H' v (match rp a b with | some q=>some (some q,x) | none=>none)->Q v H':=λv H' s' z=>kk v H' s' (by
    rw[yJ (by intro y;simp at y)];exact z)
   generalize rp a b=o at kk2 hv;cases hv with
   | bN=>
    change kk2 .bN H3 (S2.trans s3) rfl
   | @ref p4 q hq=>
    change{bK,laid λp5 H5 s5 h5=>kk2 (.ref p5) H5 ((S2.trans s3).trans s5) {p5,_,p2,rfl,h5,s5 _ _ (s3 _ _ hx),.ref (s5 _ _ hq)}}
  | a::b::c::d::r,_,sh,kk,h2=>
   exists p1,_,rfl,.inl (ao h2),?_;left;refine kk .bN H2 S2 ?_;rw[yJ (by intro y;simp at y)];rfl
def HY:cE P w base 1 T.words_of G1:=by
 nomatch T.words_of,["row"]
 let⟨t,rfl,hl,kk⟩:=h;let sl:=yy;let ple:=PyProof.Rows.split_le t " ";refine{_,(ak (ar (mq (ts:=["word"]) (ys:=[]) (js:=[]) (g:=(cz 0)) (tc:=(oq (fj Ww (bc 0) (tC (.str ""))))) (te:=(bc 0)) (bH (bW yC yG yF iX (pv 0) (af aL ag))) (f9 0) (gs (ptr iU (pv 0) aL)) (pv 0)))),?_};ac_rfl;exists by ext,?_
 unfold words at kk;generalize Txt.split t " "= ws at kk ple;intros p1 H1 s1 h1;refine{p1,rfl,{_,ao h1},?_};refine ra ⇑ws (λi=>((ws.take i).filter λw=>decide (w≠("": Str))).map V.str) (λi U H'=>H'=H1/\∃v,U=[v]) ?_ () rfl {(rfl),none,rfl} ?_ ?_ ?_ ?_
 ·intro i hi
  rw[za];exact zK (xa _ _) (by rw[zO];ext)
 ·rintro i U H' hi ⟨rfl,_⟩
  exact Eg (ao h1) (by rw[za];exact hi)
 ·rintro U H' ⟨rfl,_⟩
  exact{_,ao h1,by rw[za];exact zk _}
 ·rintro i x U H' H2 hi ⟨rfl,v,rfl⟩ ⟨rfl,hy⟩
  let hx:=hy _ (ao h1);rw[zI,zb hi] at hx;cases hx;left
  by_cases e:ws[i] =""
  ·refine b7 (by rw[e];rfl) ?_
   refine NZ.skip hi ?_ {rfl,_,rfl};show List.map V.str (List.filter _ (List.take (i+1) ws))=List.map V.str (List.filter _ (List.take i ws));rw[xn,zb hi,e,yT];simp
  ·refine bX (by rw[zd λz=>e (V.str.inj z)];rfl) ?_
   left;refine NZ.push hi ?_ {rfl,_,rfl};show List.map V.str (List.filter _ (List.take (i+1) ws))=List.map V.str (List.filter _ (List.take i ws))++[V.str ws[i]];rw[xn,zb hi,yT,zj];have:List.filter (λw=>decide (w≠("": Str))) (Option.toList (some ws[i]))=[ws[i]]:=by simp[e]
   rw[this];rfl
 ·rintro U H' ⟨rfl,_⟩
  rw[zL];exact laid λp H' sm h=>kk p H' (s1.trans sm) h
def cA:cE P w base 2 T.cW jK:=by
 nomatch T.cW,["word"]
 let⟨t,rfl,hl,kk⟩:=h;refine{_,(ak (ar (bJ (gO T) hr T.du (af (pv 0) (af (bM (v:=.int (3)) (by rfl) T.kr {_,rfl}) ag))))),?_};ac_rfl;change{_,_,rfl,hl,kk}
def dS:cE P w base 1 T.eN kA:=by
 nomatch T.eN,["word"]
 let⟨t,rfl,hl,kk⟩:=h;let sl:=yy;let hz:⇑t<=sizeLine:=()
 let el:⇑t.cps.toList=⇑t:=yM;unfold cI at kk;refine{_,(ah (aJ (PW.pt (dB (ptr eI (d6 fU T.bE (af (pv 0) ag)) aa) (cY (ptr d7 (d6 fU T.bE (af (pv 0) ag)) (bM (v:=.int (12)) (by rfl) T.BZ {_,rfl})))))
  (ak (ar aV))
  aA)
  (ah (aJ (eA (cB (d6 (nS rfl) T.L0 (af (mq (ts:=["sign"]) (ys:=[]) (js:=[]) (te:=(fj (λx y H Q=>∃i j,x=.str i/\y=.str j/\Q (.bl (!(Builtin.Str.occurrences j i 0 ⇑j 1).isEmpty)) H) (bc 0) (tC (.str "abcdefghijklmnopqrstuvwxyz0123456789")))) (Pc (pv 0)) (f9 0) bB (dw DX (pv 0) (bM (v:=.str "abcdefghijklmnopqrstuvwxyz0123456789") (by rfl) T.Gb {_,rfl}) (by with_unfolding_all rfl))) ag))))
  (ak (ar aV))
  aA)
  (ak (ar (pv 0))))),?_}
 ac_rfl;exists hz,?_;left;refine vt (λc1=>?_) (λc1=>?_)
 ·left
  let z:=kk H (aD H);rw[yK (yb c1)] at z;exact z
 let c1':¬(⇑t:Int)<1:=λz=>c1 (ze z);rw[yJ c1'] at kk;exists hz,?_;left;refine vt (λc2=>?_) (λc2=>?_)
 ·left
  let z:=kk H (aD H);rw[yK (yb c2)] at z;exact z
 let c2':¬(12:Int)<(⇑t:Int):=λz=>c2 (ze z);rw[yJ c2'] at kk;left;refine ra ⇑t (λi=>(t.cps.toList.take i).map λc=>V.bl (decide (c∈sgn))) (λi U H'=>H'=H/\∃v,U=[v]) (λi hi=>by rw[za,zO];ext) () rfl {(rfl),none,rfl} (λi U H' hi _=>hi) (λU H' _=>zk _) ?_ ?_
 ·rintro i x U H1 H2 hi ⟨rfl,v,rfl⟩ ⟨rfl,c,hc,rfl⟩
  left;refine NZ.push hi ?_ {rfl,_,rfl};rw[PySem.StrLaws.found_one];rw[<-xb] at hc;show List.map _ (List.take (i+1) t.cps.toList)=_;rw[xn,hc,zj];rfl
 ·rintro U H1 ⟨rfl,_⟩
  rw[<-el,zL];intros D H2 s2 h2;refine{D,t.cps.toList.map (λc=>decide (c∈sgn)),rfl,ao (by rw[h2,zz];rfl),?_};let ea:(t.cps.toList.map (λc=>decide (c∈sgn))).all id=t.cps.toList.all (λc=>decide (c∈sgn)):=by rw[x6];rfl
  rw[ea]
  by_cases ha:t.cps.toList.all (λc=>decide (c∈sgn))=true
  ·rw[ha]
   rw[yK ha] at kk;change kk _ s2
  ·rw[yJ ha] at kk
   rw[show t.cps.toList.all (λc=>decide (c∈sgn))=false from by simpa using ha];change kk _ s2
def mQ:cE P w base 3 T.jr Au:=by
 nomatch T.jr,["word","lowest","highest","number"]
 let⟨t,lo,hi,rfl,hl,kk⟩:=h;unfold lN at kk;refine{_,(ah (bQ 3 qN (bJ (cA T) hr T.cW (af (pv 0) ag)))
  (ah (aJ (PW.pt (dB (bC (cm (pv 3))) (dB (ptr eI (pv 3) (pv 1)) (cY (ptr d7 (pv 3) (pv 2))))))
  (ak (ar aV))
  aA)
  (ak (ar (pv 3))))),?_}
 ac_rfl;exists hl,λH1 s1=>?_;cases e:fu t with
 | none=>
  rw[e] at kk;change kk _ s1
 | some n=>
  rw[e] at kk;left
  by_cases c1:n<lo
  ·refine bX (ze c1) ?_
   simp only[yK c1] at kk;change kk _ s1
  ·refine b7 (zd c1) ?_
   simp only[yJ c1] at kk;left
   by_cases c2:hi<n
   ·refine bX (ze c2) ?_
    simp only[yK c2] at kk;change kk _ s1
   ·refine b7 (zd c2) ?_
    simp only[yJ c2] at kk;change kk _ s1
def Fs:cE P w base 4 T.sr EM:=by
 nomatch T.sr,["word"]
 let⟨t,rfl,hl,kk⟩:=h;refine{_,(ak (Q5 (lO T) (hr.mono ∅) rfl T.eG.g T.eG.F.kp T.eG.b (af (pv 0) ag) rfl rfl T.kY T.kL rfl rfl rfl (λe=>(ak (ar aV))))),?_};ac_rfl;left;refine{hl,λx e p H1 s1 h1=>?_,λe H1 s1=>{rfl,?_}}
 ·rw[e] at kk
  exact kk _ H1 s1 (.ref h1)
 ·rw[e] at kk
  change kk _ H1 s1 .bN
def Fq:cE P w base 4 T.so EL:=by
 nomatch T.so,["fifths_word","steps_word","turn"]
 let⟨a,b,rfl,la,lb,kk⟩:=h;unfold AR at kk;refine{_,(ah (bQ 2 qN (bJ (mO T) hr T.iR (af (pv 0) (af (pv 1) ag))))
  (ah (aJ (PW.pt (dB (bC (cm (pv 2))) (cY (ptr d7 (d6 Jn T.Sd (af (bG (pv 2) aa) ag)) (bM (v:=.int (12)) (by rfl) T.B0 {_,rfl})))))
  (ak (ar aV))
  aA)
  (ak (ar (pv 2))))),?_}
 ac_rfl;exists _,_,rfl,la,lb,λv H1 s1 h1=>?_;cases e:rp a b with
 | none=>
  rw[e] at kk h1;cases h1;change kk _ _ s1 .bN
 | some q=>
  rw[e] at kk h1;cases h1 with
  | ref h1=>
   left;refine vt (λc=>?_) (λc=>?_)
   ·simp only[yK (yb c)] at kk
    change kk _ _ s1 .bN
   ·simp only[yJ (λz=>c (ze z))] at kk
    change kk _ _ s1 (.ref h1)
def Ic:cE P w base 3 T.AY G5:=by
 nomatch T.AY,["word","key"]
 let⟨t,rfl,hl,kk⟩:=h;unfold HI at kk;refine{_,(ah (bQ 1 qN (bJ (lP T) hr T.fw (af (pv 0) (af (bM (v:=.int (3)) (by rfl) T.kr {_,rfl}) ag))))
  (ah (aJ (PW.pt (dB (bC (cm (pv 1))) (cY (ptr d7 (d6 Jn T.Sd (af (pv 1) ag)) (bM (v:=.int (7)) (by rfl) T.jT {_,rfl})))))
  (ak (ar aV))
  aA)
  (ak (ar (pv 1))))),?_}
 ac_rfl;exists _,_,rfl,hl,λH1 s1=>?_;cases e:rs 3 t with
 | none=>
  rw[e] at kk;change kk _ s1
 | some n=>
  rw[e] at kk;left;refine vt (λc=>?_) (λc=>?_)
  ·simp only[yK (yb c)] at kk
   change kk _ s1
  ·simp only[yJ (λz=>c (ze z))] at kk
   change kk _ s1
def d9:cE P w base 1 T.dq (Cz K):=by
 nomatch T.dq,["values"]
 let⟨a,us,rfl,ha,hl,kk⟩:=h;let sl:=yy;refine{_,(ah (aJ (cB (d6 (gm rfl) T.Bj (af (mq (ts:=["value"]) (ys:=[]) (js:=[]) (te:=(OA (bc 0))) (bH (pv 0)) (f9 0) bB (oZ (cm (pv 0)))) ag)))
  (ak (ar aV))
  aA)
  (ak (ar (pv 0)))),?_}
 ac_rfl;exists{_,ha},?_;refine fF (enc:=λv=>v) (ws:=us) (λv=>.bl (gc v)) (λU=>∃v,U=[v]) () (by rw[List.map_id'];exact ha) {(none),rfl} ?_ ?_
 ·rintro v U H1 R hv s1 ⟨_,rfl⟩ r
  change r _ _ _ (aD _) (by unfold Is;rfl) {_,rfl}
 ·intro D vs H1 s1 hD il
  let e:us.map (λv=>Dt.bl (gc v))=(us.map gc).map Dt.bl:=by rw[zz];rfl
  rw[e] at il;rw[jN il] at hD;refine{D,us.map gc,rfl,ao hD,?_};let e2:(us.map gc).any id=us.any gc:=by rw[wy];rfl
  rw[e2];cases q:us.any gc with
  | true=>
   rw[q] at kk;change kk _ s1
  | false=>
   rw[q] at kk;change kk _ s1
def fb:cE P w base 1 T.dq Cy:=by
 nomatch T.dq,["values"]
 let⟨a,us,rfl,ha,hl,kk⟩:=h;let sl:=yy;refine{_,(ah (aJ (cB (d6 (gm rfl) T.Bj (af (mq (ts:=["value"]) (ys:=[]) (js:=[]) (te:=(OA (bc 0))) (iT (pv 0)) (f9 0) bB (oZ (cm (pv 0)))) ag)))
  (ak (ar aV))
  aA)
  (ak (ar (pv 0)))),?_}
 ac_rfl;exists{_,bu ha},?_;refine fm (enc:=λv=>v) (ws:=us) (λv=>.bl (gc v)) (λU=>∃v,U=[v]) () (by rw[List.map_id'];exact ha) {(none),rfl} ?_ ?_
 ·rintro v U H1 R hv s1 ⟨_,rfl⟩ r
  change r _ _ _ (aD _) (by unfold Is;rfl) {_,rfl}
 ·intro D vs H1 s1 hD il
  let e:us.map (λv=>Dt.bl (gc v))=(us.map gc).map Dt.bl:=by rw[zz];rfl
  rw[e] at il;rw[jN il] at hD;refine{D,us.map gc,rfl,ao hD,?_};let e2:(us.map gc).any id=us.any gc:=by rw[wy];rfl
  rw[e2];cases q:us.any gc with
  | true=>
   rw[q] at kk;change kk _ s1
  | false=>
   rw[q] at kk;change kk _ s1
def xc {n:Nat} {ws:List Str} (h:⇑ws=n+1):∃a r,ws=a::r/\⇑r=n:=match ws,h with
 | a::r,h=>{a,r,rfl,Nat.succ.inj h}
def WO {ws:List Str} (h:⇑ws=1):∃a,ws=[a]:=by
 let⟨a,r,e,h⟩:=xc (n:=0) h;rw[e,List.eq_nil_of_length_eq_zero h];exact{(a),rfl}
def WN {ws:List Str} (h:⇑ws=2):∃a b,ws=[a,b]:=by
 let⟨a,r,e,h⟩:=xc (n:=1) h;let⟨b,f⟩:=WO h;rw[e,f];exact{(a),b,rfl}
def Xg {ws:List Str} (h:⇑ws=3):∃a b c,ws=[a,b,c]:=by
 let⟨a,r,e,h⟩:=xc (n:=2) h;let⟨b,c,f⟩:=WN h;rw[e,f];exact{(a),b,c,rfl}
def Xf {ws:List Str} (h:⇑ws=4):∃a b c d,ws=[a,b,c,d]:=by
 let⟨a,r,e,h⟩:=xc (n:=3) h;let⟨b,c,d,f⟩:=Xg h;rw[e,f];exact{(a),b,c,d,rfl}
theorem qT (n:Int):∀ns:List Int,FJ (.int n) (ns.map V.int)=decide (n∈ns)
 | []=>rfl
 | m::ns=>by
  let ih:=qT n ns;unfold FJ at ih ⊢;rw[zh,xk,ih];show((m == n)||decide (n∈ns))=decide (n∈m::ns)
  by_cases e:n=m
  ·subst e
   simp
  ·simp[e,Ne.symm (a:=m) (b:=n) (λz=>e z.symm)]
   try ext
def Kp {t a b:Str} (h:Txt.split t "/"= [a,b]):iQ t=(match lN a 1 32,fu b with | some m,some n=>if n∈Dv then some (m,n) else none | _,_=>none):=by unfold iQ;rw[h];try rfl
def MP {t:Str} (h:(Txt.split t "/").length≠2):iQ t=none:=by
 unfold iQ
 revert h
 rcases Txt.split t "/" with _ | ⟨a,_ | ⟨b,_ | ⟨c,r⟩⟩⟩ <;> intro h <;> first | rfl | exact absurd rfl h
def OY {t a b:Str} (h:Txt.split t ":"= [a,b]):AU t=(match fu a,m6 ((Txt.split b ",").map fu) with | some n,some ps=>some (n,ps) | _,_=>none):=by unfold AU;rw[h];try rfl
def QY {t:Str} (h:(Txt.split t ":").length≠2):AU t=none:=by
 unfold AU
 revert h
 rcases Txt.split t ":" with _ | ⟨a,_ | ⟨b,_ | ⟨c,r⟩⟩⟩ <;> intro h <;> first | rfl | exact absurd rfl h
def C2:cE P w base 4 T.oW (Cv K):=by
 nomatch T.oW,["word","parts","top","bottom"]
 let⟨t,rfl,hl,kk⟩:=h;let sl:=yy;let sh:∀z∈Txt.split t "/",⇑z<=600:=λz hz=>zK (xK hz) hl;refine{_,(ah (bQ 1 qN (bW yC yG yF iX (pv 0) (af aL ag)))
  (ah (aJ (ptr iU (d6 aB T.bE (af (pv 1) ag)) aa)
  (ak (ar aV))
  aA)
  (ah (bQ 2 qN (bJ (mQ T) hr T.jr (af (eM (pv 1) aa) (af aa (af (bM (v:=.int (32)) (by rfl) T.vI {_,rfl}) ag)))))
  (ah (bQ 3 qN (bJ (cA T) hr T.cW (af (eM (pv 1) aa) ag)))
  (ah (aJ (PW.pt (dB (bC (cm (pv 2))) (cY (gr dQ (pv 3) (bM (v:=.ref T.d5) (by rfl) T.vH rfl) (by with_unfolding_all rfl)))))
  (ak (ar aV))
  aA)
  (ak (ar (aW (af (pv 2) (af (pv 3) ag)))))))))),?_}
 ac_rfl;exists by ext,?_
 generalize ew:Txt.split t "/"= ws at sh;intros p1 H1 s1 h1;exists p1,_,rfl,.inl (ao h1),?_;rw[za];left
 by_cases hw:⇑ws=2
 ·let⟨a,b,rfl⟩:=WN hw
  refine b7 rfl ?_;exists p1,_,0,_,rfl,rfl,ao h1,rfl,?_;refine{_,_,_,rfl,sh a (by simp),λH2 s2=>?_};exists p1,_,1,_,rfl,rfl,ao (s2 _ _ h1),rfl,?_;refine{_,rfl,sh b (by simp),λH3 s3=>?_};let s03:=(s1.trans s2).trans s3;rw[Kp ew] at kk;cases ea:lN a 1 32 with
  | none=>
   rw[ea] at kk;change kk _ _ s03 .bN
  | some m=>
   rw[ea] at kk;left;cases eb:fu b with
   | none=>
    rw[eb] at kk;refine{T.d5,_,rfl,.inr (T.lU H3),rfl,rfl,?_};change kk _ _ s03 .bN
   | some n=>
    rw[eb] at kk;refine{T.d5,Dv.map V.int,rfl,.inr (T.lU H3),rfl,rfl,?_};show∃k,V.bl (!FJ (.int n) (Dv.map V.int))=.bl k/\_;rw[qT]
    by_cases c:n∈Dv
    ·rw[ze c]
     simp only[yK c] at kk;left;refine{bK,laid λp4 H4 s4 h4=>kk _ _ (s03.trans s4) (.ref h4)}
    ·rw[zd c]
     simp only[yJ c] at kk;change kk _ _ s03 .bN
 ·refine bX (by rw[zd λz=>hw (by have:=V.int.inj z;ext)];rfl) ?_
  left;rw[MP (by rw[ew];exact hw)] at kk;exact kk _ _ s1 .bN
def Ie:cE P w base 4 T.AZ tQ:=by
 nomatch T.AZ,["word","parts","bar","passes"]
 let⟨t,rfl,hl,kk⟩:=h;let sl:=yy;let sh:∀z∈Txt.split t ":",⇑z<=600:=λz hz=>zK (xK hz) hl;refine{_,(ah (bQ 1 qN (bW yC yG yF iX (pv 0) (af aL ag)))
  (ah (aJ (ptr iU (d6 aB T.bE (af (pv 1) ag)) aa)
  (ak (ar aV))
  aA)
  (ah (bQ 2 qN (bJ (cA T) hr T.cW (af (eM (pv 1) aa) ag)))
  (ah (bQ 3 qN (bJ (d9 T) hr T.dq (af (mq (ts:=["part"]) (ys:=[]) (js:=[]) (te:=(fq jK [] E0 (bD (bc 0) d4))) (bH (bW yC yG yF iX (eM (pv 1) aa) (af aL ag))) (f9 0) bB (bJ (cA T) hr T.cW (af (pv 0) ag))) ag)))
  (ah (aJ (PW.pt (dB (bC (cm (pv 2))) (cY (bC (cm (pv 3))))))
  (ak (ar aV))
  aA)
  (ak (ar (aW (af (pv 2) (af (oA dz T.kQ (af (pv 3) ag)) ag)))))))))),?_}
 ac_rfl;exists by ext,?_
 generalize ew:Txt.split t ":"= ws at sh;intros p1 H1 s1 h1;exists p1,_,rfl,.inl (ao h1),?_;rw[za];left
 by_cases hw:⇑ws=2
 ·let⟨a,b,rfl⟩:=WN hw
  refine b7 rfl ?_;exists p1,_,0,_,rfl,rfl,ao h1,rfl,?_;refine{_,rfl,sh a (by simp),λH2 s2=>?_};exists p1,_,1,_,rfl,rfl,ao (s2 _ _ h1),rfl,?_;left;let lb:=sh b (by simp);let bl:=PyProof.Rows.split_le b ",";let bsh:∀z∈Txt.split b ",",⇑z<=600:=λz hz=>zK (xK hz) lb;refine{(),?_};let bl2:(Txt.split b ",").length<=sizeLine:=()
  let bl3:(Txt.split b ",").length<=1000000:=()
  rw[OY ew] at kk;generalize Txt.split b ","= bs at kk bl bsh bl2 bl3;intros p3 H3 s3 h3;exists{_,ao h3},?_;refine fF (enc:=V.str) (ws:=bs) (λz=>dO .int (fu z)) (λU=>∃v,U=[v]) bl2 (ao h3) {(none),rfl} ?_ ?_
  ·rintro z U H4 R hz s4 ⟨_,rfl⟩ r
   change{bsh z hz,λH5 s5=>r _ _ _ s5 (Bq _) {_,rfl}}
  ·intro D vs H4 s4 hD il
   let s04:=((s1.trans s2).trans s3).trans s4;refine{D,vs,rfl,ao hD,by rw[il.len,za];exact bl3,λH5 s5=>?_};let e1:bs.map (λz=>dO Dt.int (fu z))=(bs.map fu).map (dO Dt.int):=by rw[zz];rfl
   rw[e1] at il;rw[jE il];cases q:((bs.map fu).map (dO Dt.int)).any Dt.gc with
   | true=>
    rw[iO P2 q] at kk;let kn:=kk .bN H5 (s04.trans s5) (by cases fu a <;> (unfold dO Is;rfl));cases ea:fu a with
    | none=>change kn
    | some n=>change kn
   | false=>
    let⟨xs,e2,e3,e4⟩:=iM q;rw[e2] at kk;rw[e3] at il;let ev:=eD il;subst ev;cases ea:fu a with
    | none=>
     rw[ea] at kk;change kk .bN H5 (s04.trans s5) (by unfold dO Is;rfl)
    | some n=>
     rw[ea] at kk;left;refine{D,_,rfl,.inl {ao (s5 _ _ hD),?_}};intros p6 H6 s6 h6;left;refine{bK,laid λp7 H7 s7 h7=>kk _ _ (((s04.trans s5).trans s6).trans s7) ?_};show Is H7 (.tup [.int n,.tup (xs.map .int)]) _;unfold Is;refine{p7,_,rfl,h7,?_};unfold aC;refine{_,_,rfl,by unfold Is;rfl,?_};unfold aC;refine{_,_,rfl,?_,by unfold aC;rfl};unfold Is;exact{p6,_,rfl,s7 _ _ h6,qQ}
 ·refine bX (by rw[zd λz=>hw (by have:=V.int.inj z;ext)];rfl) ?_
  left;rw[QY (by rw[ew];exact hw)] at kk;exact kk _ _ s1 (by unfold dO Is;rfl)
def Po {α:Type} {f:Str->Option α} {ws:List Str} (h:⇑ws≠1):one f ws=none:=by
 match ws,h with
 | [],_=>rfl
 | [_],h=>exact absurd rfl h
 | _::_::_,_=>rfl
def Bf:cE P w base 2 T.jx (fM K (oC .str (one cI))):=by
 nomatch T.jx,["words"]
 let⟨p,ws,rfl,hp,hl,sh,kk⟩:=h;refine{_,(ah (aJ (ptr iU (d6 aB T.bE (af (pv 0) ag)) aa)
  (ak (ar aV))
  aA)
  (ak (ar (bJ (dS T) hr T.eN (af (eM (pv 0) aa) ag))))),?_}
 ac_rfl;exists p,_,rfl,.inl hp,?_;rw[za];left
 by_cases hw:⇑ws=1
 ·let⟨a,rfl⟩:=WO hw
  refine b7 rfl ?_;exists p,_,0,_,rfl,rfl,hp,rfl,?_;exact{_,rfl,sh a (by simp),λH1 s1=>kk _ _ s1 (Eb _)}
 ·refine bX (by rw[zd λz=>hw (by have:=V.int.inj z;ext)];rfl) ?_
  left;refine kk _ _ (aD _) ?_;unfold oC;rw[Po hw];exact dU
def Bd:cE P w base 5 T.jt (fM K (oC dL (one lr))):=by
 nomatch T.jt,["words"]
 let⟨p,ws,rfl,hp,hl,sh,kk⟩:=h;refine{_,(ah (aJ (ptr iU (d6 aB T.bE (af (pv 0) ag)) aa)
  (ak (ar aV))
  aA)
  (ak (ar (bJ (gG T) hr T.dH (af (eM (pv 0) aa) ag))))),?_}
 ac_rfl;exists p,_,rfl,.inl hp,?_;rw[za];left
 by_cases hw:⇑ws=1
 ·let⟨a,rfl⟩:=WO hw
  refine b7 rfl ?_;exists p,_,0,_,rfl,rfl,hp,rfl,?_;exact{_,rfl,sh a (by simp),λv H1 s1 h1=>kk _ _ s1 (Bp h1)}
 ·refine bX (by rw[zd λz=>hw (by have:=V.int.inj z;ext)];rfl) ?_
  left;refine kk _ _ (aD _) ?_;unfold oC;rw[Po hw];exact dU
def F7 {α:Type} (d:α->Dt) (o:Option α):dO d o=(o.map d).getD .bN:=by cases o <;> rfl
def Gm {H:Hp} {ds:List Dt} {us:List V} {a:vm} {d:Option Dt} (ha:H a=some (.tup us)) (il:aC H ds us) (h1:ds.any Dt.gc=true->d=none) (h2:ds.any Dt.gc=false->d=some (.tup ds)):Is H (d.getD .bN) (if us.any gc=true then .bN else .ref a):=by
 rw[jE il];cases q:ds.any Dt.gc with
 | true=>rw[h1 q];exact dU
 | false=>rw[h2 q];exact cO ha il
def o9:cE P w base 5 T.fh (fM K (oC eC mJ)):=by
 nomatch T.fh,["words"]
 let⟨p,ws,rfl,hp,hl,sh,kk⟩:=h;refine{_,(ah (aJ (ptr iU (d6 aB T.bE (af (pv 0) ag)) aa)
  (ak (ar aV))
  aA)
  (ak (ar (bJ (fb T) hr T.dq (af (aW (af (bJ (dS T) hr T.eN (af (eM (pv 0) aa) ag)) (af (bJ (Fq T) hr T.so (af (eM (pv 0) aa) (af (eM (pv 0) aa) ag))) (af (bJ (Fs T) hr T.sr (af (eM (pv 0) aa) ag)) ag)))) ag))))),?_}
 ac_rfl;exists p,_,rfl,.inl hp,?_;rw[za];left
 by_cases hw:⇑ws=4
 ·let⟨a,b,c,d,rfl⟩:=Xf hw
  refine b7 rfl ?_;exists p,_,0,_,rfl,rfl,hp,rfl,?_;refine{_,rfl,sh a (by simp),λH1 s1=>?_};exists p,_,1,_,rfl,rfl,s1.seq hp,rfl,?_;exists p,_,2,_,rfl,rfl,s1.seq hp,rfl,?_;refine{_,_,rfl,sh b (by simp),sh c (by simp),λv2 H2 s2 h2=>?_};exists p,_,3,_,rfl,rfl,(s1.trans s2).seq hp,rfl,?_;refine{_,rfl,sh d (by simp),λv3 H3 s3 h3=>?_};exists iP,?_;intros p4 H4 s4 h4;let s24:=s3.trans s4;refine{p4,_,rfl,h4,(by show 3<=1000000;decide),λH5 s5=>kk _ _ (((s1.trans s2).trans s24).trans s5) ?_};unfold oC;rw[F7];refine Gm (s5 _ _ h4) (aU (Eb _) (aU (Bp (h2.mono (s24.trans s5))) (mV (Bp (h3.mono (s4.trans s5)))))) ?_ ?_
  ·unfold mJ
   dsimp only;cases cI a <;> cases AR b c <;> cases QA d <;> first | (intro _;rfl) | (intro q;exact absurd q (by simp[dO,dL,Dt.gc]))
  ·unfold mJ
   dsimp only;cases cI a <;> cases AR b c <;> cases QA d <;> first | (intro _;rfl) | (intro q;exact absurd q (by simp[dO,dL,Dt.gc]))
 ·refine bX (by rw[zd λz=>hw (by have:=V.int.inj z;ext)];rfl) ?_
  left;refine kk _ _ (aD _) ?_;let e:mJ ws=none:=by
   rcases ws with _ | ⟨_,_ | ⟨_,_ | ⟨_,_ | ⟨_,_ | ⟨_,r⟩⟩⟩⟩⟩
   all_goals first | rfl | exact absurd rfl hw
  unfold oC;rw[e];exact dU
def Fu:cE P w base 3 T.nu (fM K (oC uj tX)):=by
 nomatch T.nu,["words"]
 let⟨p,ws,rfl,hp,hl,sh,kk⟩:=h;refine{_,(ah (aJ (ptr iU (d6 aB T.bE (af (pv 0) ag)) aa)
  (ak (ar aV))
  aA)
  (ak (ar (bJ (fb T) hr T.dq (af (aW (af (bJ (dS T) hr T.eN (af (eM (pv 0) aa) ag)) (af (bJ (cA T) hr T.cW (af (eM (pv 0) aa) ag)) (af (bJ (dS T) hr T.eN (af (eM (pv 0) aa) ag)) ag)))) ag))))),?_}
 ac_rfl;exists p,_,rfl,.inl hp,?_;rw[za];left
 by_cases hw:⇑ws=3
 ·let⟨a,b,c,rfl⟩:=Xg hw
  refine b7 rfl ?_;exists p,_,0,_,rfl,rfl,hp,rfl,?_;refine{_,rfl,sh a (by simp),λH1 s1=>?_};exists p,_,1,_,rfl,rfl,s1.seq hp,rfl,?_;refine{_,rfl,sh b (by simp),λH2 s2=>?_};exists p,_,2,_,rfl,rfl,(s1.trans s2).seq hp,rfl,?_;refine{_,rfl,sh c (by simp),λH3 s3=>?_};exists iP,?_;intros p4 H4 s4 h4;refine{p4,_,rfl,h4,(by show 3<=1000000;decide),λH5 s5=>kk _ _ (((s1.trans s2).trans (s3.trans s4)).trans s5) ?_};unfold oC;rw[F7];refine Gm (s5 _ _ h4) (aU (Eb _) (aU (Bq _) (mV (Eb _)))) ?_ ?_
  ·unfold tX
   dsimp only;cases cI a <;> cases fu b <;> cases cI c <;> first | (intro _;rfl) | (intro q;exact absurd q (by simp[dO,dL,Dt.gc]))
  ·unfold tX
   dsimp only;cases cI a <;> cases fu b <;> cases cI c <;> first | (intro _;rfl) | (intro q;exact absurd q (by simp[dO,dL,Dt.gc]))
 ·refine bX (by rw[zd λz=>hw (by have:=V.int.inj z;ext)];rfl) ?_
  left;refine kk _ _ (aD _) ?_;let e:tX ws=none:=by
   rcases ws with _ | ⟨_,_ | ⟨_,_ | ⟨_,_ | ⟨_,r⟩⟩⟩⟩
   all_goals first | rfl | exact absurd rfl hw
  unfold oC;rw[e];exact dU
def mT {H:Hp} {ws:List Str} {vs:List V} {α:Type} {d:α->Dt} {f:Str->Option α} (il:aC H (ws.map λz=>dO d (f z)) vs):aC H ((ws.map f).map (dO d)) vs:=by
 let e:ws.map (λz=>dO d (f z))=(ws.map f).map (dO d):=by rw[zz];rfl
 rw[<-e];exact il
def CZ:cE P w base 2 T.kG (fM K (oC kZ sC)):=by
 nomatch T.kG,["words","names"]
 let⟨p,ws,rfl,hp,hl,sh,kk⟩:=h;let sl:=yy;refine{_,(ah (aJ (ptr eI (d6 aB T.bE (af (pv 0) ag)) aa)
  (ak (ar aV))
  aA)
  (ah (bQ 1 qN (bJ (d9 T) hr T.dq (af (mq (ts:=["word"]) (ys:=[]) (js:=[]) (te:=(fq kA [] E0 (bD (bc 0) d4))) (bH (pv 0)) (f9 0) bB (bJ (dS T) hr T.eN (af (pv 0) ag))) ag)))
  (ah (aJ (bC (cm (pv 1)))
  (ak (ar aV))
  aA)
  (ak (ar (aW (af (eM (pv 1) aa) (af (oA dz T.kQ (af (dI kD (pv 1) (eO aa) eP) ag)) ag)))))))),?_}
 ac_rfl;exists p,_,rfl,.inl hp,?_;rw[za];left;refine vt (λc=>?_) (λc=>?_)
 ·left
  refine kk _ _ (aD _) ?_;let hw:=yb c;let e:sC ws=none:=by
   rcases ws with _ | ⟨_,_ | ⟨_,r⟩⟩
   all_goals first | rfl | (simp at hw;ext)
  unfold oC;rw[e];exact dU
 ·let hw:¬(⇑ws:Int)<2:=λz=>c (ze z)
  obtain⟨a,b,r,rfl⟩:∃a b r,ws=a::b::r:=by
   match ws,hw with
   | [],h=>exact absurd (by simp) h
   | [_],h=>exact absurd (by simp) h
   | a::b::r,_=>exact{(a),b,r,rfl}
  exists{_,hp},?_;refine fF (enc:=V.str) (ws:=a::b::r) (λz=>dO .str (cI z)) (λU=>∃v,U=[v]) () hp {(none),rfl} ?_ ?_
  ·rintro z U H4 R hz s4 ⟨_,rfl⟩ r
   change{sh z hz,λH5 s5=>r _ _ _ s5 (Eb _) {_,rfl}}
  ·intro D vs H4 s4 hD il
   refine{D,vs,rfl,ao hD,by rw[il.len,za];ext,λH5 s5=>?_};let il:=mT il;rw[jE il];cases q:(((a::b::r).map cI).map (dO Dt.str)).any Dt.gc with
   | true=>
    left;refine kk _ _ (s4.trans s5) ?_;unfold oC;rw[oX,iO IH q];exact dU
   | false=>
    let⟨xs,e2,e3,e4⟩:=iM q;rw[e3] at il;let ev:=dG il;subst ev;obtain⟨n,ps,rfl⟩:∃n ps,xs=n::ps:=by
     match xs,e4 with
     | n::ps,_=>exact{(n),ps,rfl}
    let hD5:=s5 _ _ hD;exists D,_,0,_,rfl,rfl,ao hD5,bq (j:=0) rfl,?_;exists D,_,rfl,ao hD5,?_;rw[show ko (List.map V.str (n::ps)) (some 1) none=ps.map V.str from(iK _ 1).trans rfl];intros p6 H6 s6 h6;left;refine{p6,_,rfl,.inl {ao h6,?_}};intros p7 H7 s7 h7;left;refine{bK,laid λp8 H8 s8 h8=>kk _ _ (((((s4.trans s5).trans s6).trans s7)).trans s8) ?_};unfold oC;rw[oX,e2];exact cO h8 (aU eW (mV (cO (s8 _ _ h7) EF)))
def Ig:cE P w base 5 T.qq (fM K (oC ji Fj)):=by
 nomatch T.qq,["words","marks"]
 let⟨p,ws,rfl,hp,hl,sh,kk⟩:=h;let sl:=yy;refine{_,(ah (aJ (ptr eI (d6 aB T.bE (af (pv 0) ag)) aa)
  (ak (ar aV))
  aA)
  (ah (bQ 1 qN (bJ (d9 T) hr T.dq (af (mq (ts:=["word"]) (ys:=[]) (js:=[]) (te:=(fq kA [] E0 (bD (bc 0) d4))) (bH (dI kD (pv 0) (eO aa) eP)) (f9 0) bB (bJ (dS T) hr T.eN (af (pv 0) ag))) ag)))
  (ah (aJ (bC (cm (pv 1)))
  (ak (ar aV))
  aA)
  (ak (ar (bJ (fb T) hr T.dq (af (aW (af (bJ (C2 T) hr T.oW (af (eM (pv 0) aa) ag)) (af (bJ (Ic T) hr T.AY (af (eM (pv 0) aa) ag)) (af (oA dz T.kQ (af (pv 1) ag)) ag)))) ag))))))),?_}
 ac_rfl;exists p,_,rfl,.inl hp,?_;rw[za];left;refine vt (λc=>?_) (λc=>?_)
 ·left
  refine kk _ _ (aD _) ?_;let hw:=yb c;let e:Fj ws=none:=by
   rcases ws with _ | ⟨_,_ | ⟨_,r⟩⟩
   all_goals first | rfl | (simp at hw;ext)
  unfold oC;rw[e];exact dU
 ·let hw:¬(⇑ws:Int)<2:=λz=>c (ze z)
  obtain⟨a,b,r,rfl⟩:∃a b r,ws=a::b::r:=by
   match ws,hw with
   | [],h=>exact absurd (by simp) h
   | [_],h=>exact absurd (by simp) h
   | a::b::r,_=>exact{(a),b,r,rfl}
  rw[zt,zt] at hl;exists p,_,rfl,hp,?_;rw[show ko (List.map V.str (a::b::r)) (some 2) none=r.map V.str from(iK _ 2).trans rfl];intros p1 H1 s1 h1;exists{_,ao h1},?_;refine fF (enc:=V.str) (ws:=r) (λz=>dO .str (cI z)) (λU=>∃v,U=[v]) () (ao h1) {(none),rfl} ?_ ?_
  ·rintro z U H4 R hz s4 ⟨_,rfl⟩ r
   change{sh z (by simp[hz]),λH5 s5=>r _ _ _ s5 (Eb _) {_,rfl}}
  ·intro D vs H4 s4 hD il
   refine{D,vs,rfl,ao hD,by rw[il.len,za];ext,λH5 s5=>?_};let il:=mT il;rw[jE il];let s05:=(s1.trans s4).trans s5;cases q:((r.map cI).map (dO Dt.str)).any Dt.gc with
   | true=>
    left;refine kk _ _ s05 ?_;unfold oC;unfold Fj;dsimp only;rw[iO IH q];exact dU
   | false=>
    let⟨xs,e2,e3,e4⟩:=iM q;rw[e3] at il;let ev:=dG il;subst ev;let hD5:=s5 _ _ hD;exists p,_,0,_,rfl,rfl,s05.seq hp,bq (j:=0) rfl,?_;refine{_,rfl,sh a (by simp),λv6 H6 s6 h6=>?_};exists p,_,1,_,rfl,rfl,(s05.trans s6).seq hp,bq (j:=1) rfl,?_;refine{_,rfl,sh b (by simp),λH7 s7=>?_};left;refine{D,_,rfl,.inl {ao (s7 _ _ (s6 _ _ hD5)),?_}};intros p8 H8 s8 h8;exists iP,?_;intros p9 H9 s9 h9;refine{p9,_,rfl,h9,(by show 3<=1000000;decide),λHx sx=>kk _ _ (((((s05.trans s6).trans s7).trans s8).trans s9).trans sx) ?_};unfold oC;rw[F7];refine Gm (ds:=[dO dL (iQ a),dO .int (HI b),lW xs]) (sx _ _ h9) (aU (Bp (h6.mono (((s7.trans s8).trans s9).trans sx))) (aU (Bq _) (mV (cO (sx _ _ (s9 _ _ h8)) EF)))) ?_ ?_
    ·unfold Fj
     dsimp only;rw[e2];cases iQ a <;> cases HI b <;> first | (intro _;rfl) | (intro q;exact absurd q (by simp[dO,dL,Dt.gc,lW]))
    ·unfold Fj
     dsimp only;rw[e2];cases iQ a <;> cases HI b <;> first | (intro _;rfl) | (intro q;exact absurd q (by simp[dO,dL,Dt.gc,lW]))
theorem kU {H:Hp} {α:Type} {d:α->Dt}:∀{xs:List α} {vs:List V},aC H (xs.map d) vs->∃ps:List (α×V),ps.map (·.1)=xs/\ps.map (·.2)=vs/\∀q∈ps,Is H (d q.1) q.2
 | [],_,h=>by unfold aC at h;exact{[],rfl,h.symm,λ_ z=>nomatch z}
 | x::xs,_,h=>by
  rw[zh] at h;unfold aC at h;let⟨u,r,rfl,h1,h2⟩:=h;let⟨ps,e1,e2,hh⟩:=kU h2;refine{(x,u)::ps,by simp[e1],by simp[e2],λq m=>?_};rcases zB.mp m with e | m
  ·subst e;exact h1
  ·exact hh q m
def item_at {H:Hp} {it:Item} {v:V} (h:Is H (dN it) v):∃a pv lv,v=.ref a/\H a=some (.tup [pv,lv])/\Is H (dO dL it.1) pv/\Is H (dL it.2) lv:=by
 unfold dN Is at h;let⟨a,vs,rfl,ha,hl⟩:=h;unfold aC at hl;let⟨pv,r,rfl,h1,hl⟩:=hl;unfold aC at hl;let⟨lv,r,rfl,h2,hl⟩:=hl;unfold aC at hl;subst hl;exact{(a),pv,lv,rfl,ha,h1,h2}
def Ve {H:Hp} {α:Type} {d:α->Dt} (f:LJ d) {o:Option α} {v:V} (h:Is H (dO d o) v):gc v=o.isNone:=by
 rw[PM h];cases o with
 | none=>rfl
 | some x=>exact f x
def C1:cE P w base 6 T.kI (fM K Vv):=by
 nomatch T.kI,["words","items"]
 let⟨p,ws,rfl,hp,hl,sh,kk⟩:=h;let sl:=yy;refine{_,(ah (aJ (ptr eI (d6 aB T.bE (af (pv 0) ag)) aa)
  (ak (ar aV))
  aA)
  (ah (bQ 1 qN (bJ (d9 T) hr T.dq (af (mq (ts:=["word"]) (ys:=[]) (js:=[]) (te:=(fq ou [] E0 (bD (bc 0) d4))) (bH (dI kD (pv 0) (eO aa) eP)) (f9 0) bB (bJ (CW T) hr T.su (af (pv 0) ag))) ag)))
  (ah (aJ (PW.pt (dB (bC (cm (pv 1))) (cY (cB (d6 (nS rfl) T.L0 (af (mq (ts:=["item"]) (ys:=[]) (js:=[]) (te:=(OA (fj (mI K) (bc 0) (tC (.int (0)))))) (bH (pv 1)) (f9 0) bB (oZ (cm (bG (pv 0) aa)))) ag))))))
  (ak (ar aV))
  aA)
  (ak (ar (bJ (fb T) hr T.dq (af (aW (af (bJ (cA T) hr T.cW (af (eM (pv 0) aa) ag)) (af (bJ (dS T) hr T.eN (af (eM (pv 0) aa) ag)) (af (pv 1) ag)))) ag))))))),?_}
 ac_rfl;exists p,_,rfl,.inl hp,?_;rw[za];left;refine vt (λc=>?_) (λc=>?_)
 ·left
  refine kk _ _ (aD _) ?_;let hw:=yb c;let e:kK ws=none:=by
   rcases ws with _ | ⟨_,_ | ⟨_,_ | ⟨_,r⟩⟩⟩
   all_goals first | rfl | (simp at hw;ext)
  unfold Vv;rw[e]
 ·let hw:¬(⇑ws:Int)<3:=λz=>c (ze z)
  obtain⟨a,b,i,r,rfl⟩:∃a b i r,ws=a::b::i::r:=by
   match ws,hw with
   | [],h=>exact absurd (by simp) h
   | [_],h=>exact absurd (by simp) h
   | [_,_],h=>exact absurd (by simp) h
   | a::b::i::r,_=>exact{(a),b,i,r,rfl}
  let en:kK (a::b::i::r)=(match m6 ((i::r).map ir) with | some l=>if l.all (λit=>it.1.isNone)=true then none else(match fu a,cI b with | some x,some y=>some (x,y,l) | _,_=>none) | none=>none):=rfl;unfold Vv at kk;rw[en] at kk;let sh':∀z∈i::r,⇑z<=600:=λz hz=>sh z (by simp at hz ⊢;rcases hz with h | h <;> simp[h]);let hl':⇑(i::r)<=1000000:=by simp at hl ⊢;ext
  exists p,_,rfl,hp,?_;rw[show ko (List.map V.str (a::b::i::r)) (some 2) none=(i::r).map V.str from(iK _ 2).trans rfl];clear en;generalize i::r=its at kk sh' hl';intros p1 H1 s1 h1;exists{_,ao h1},?_;refine dW (enc:=V.str) (ws:=its) (λz=>dO dN (ir z)) (λU=>∃v,U=[v]) () (ao h1) {(none),rfl} ?_ ?_
  ·rintro z U H4 R hz s4 ⟨_,rfl⟩ r
   change{sh' z hz,λv H5 s5 h5=>r _ _ _ s5 (Vd h5) {_,rfl}}
  ·intro D vs H4 s4 nD hD il
   refine{D,vs,rfl,ao hD,by rw[il.len,za];ext,λH5 s5=>?_};let il:=mT il;rw[jE il];let s05:=(s1.trans s4).trans s5;cases q:((its.map ir).map (dO dN)).any Dt.gc with
   | true=>
    left;refine kk _ _ s05 ?_;rw[iO Nc q]
   | false=>
    let⟨xs,e2,e3,e4⟩:=iM q;rw[e3] at il;rw[e2] at kk;let il5:=il.mono s5;let hD5:=s5 _ _ hD;let⟨ps,f1,f2,f3⟩:=kU il5;let pl:⇑ps<=1000000:=by
     have:⇑ps=⇑xs:=by rw[<-f1,za]
     rw[this,e4,za];exact hl'
    exists{_,ao hD5},?_;refine fF (enc:=λq:Item×V=>q.2) (ws:=ps) (λq=>.bl q.1.1.isNone) (λU=>∃v,U=[v]) () (by rw[f2];exact ao hD5) {(none),rfl} ?_ ?_
    ·rintro z U H6 R hz s6 ⟨_,rfl⟩ r
     let⟨a6,pv,lv,ev,h6,h7,h8⟩:=item_at (f3 z hz);rw[ev];let h66:=s6 _ _ h6;left;refine r _ _ _ (aD _) ?_ {_,rfl};rw[<-Ve T3 h7];unfold Is;rfl
    ·intro D2 vs2 H6 s6 hD2 il2
     let e5:ps.map (λq=>Dt.bl q.1.1.isNone)=(ps.map λq=>q.1.1.isNone).map Dt.bl:=by rw[zz];rfl
     rw[e5] at il2;rw[jN il2] at hD2;refine{D2,_,rfl,ao hD2,?_};let e6:(ps.map λq=>q.1.1.isNone).all id=xs.all λit=>it.1.isNone:=by rw[<-f1,x6,x6];rfl
     rw[e6];cases qa:xs.all λit=>it.1.isNone with
     | true=>
      dsimp only at kk;rw[qa] at kk;change kk _ _ (s05.trans s6) rfl
     | false=>
      dsimp only at kk;rw[qa] at kk;let s06:=s05.trans s6;exists p,_,0,_,rfl,rfl,s06.seq hp,bq (j:=0) rfl,?_;refine{_,rfl,sh a (by simp),λH7 s7=>?_};exists p,_,1,_,rfl,rfl,(s06.trans s7).seq hp,bq (j:=1) rfl,?_;refine{_,rfl,sh b (by simp),λH8 s8=>?_};exists iP,?_;intros p9 H9 s9 h9;let s59:=((s6.trans s7).trans s8).trans s9;refine{p9,_,rfl,h9,(by show 3<=1000000;decide),λHx sx=>kk _ _ ((s05.trans s59).trans sx) ?_};let s5x:=s59.trans sx;let h9x:=sx _ _ h9;clear h9
      revert h9x
      cases fu a <;> cases cI b <;> intro h9x <;> first | rfl | exact⟨p9,D,vs,rfl,h9x,s5x _ _ hD5,il5.mono s5x,s1.back nD⟩
def Be:cE P w base 5 T.jw (fM K (oC i6 kJ)):=by
 nomatch T.jw,["words","times","ends"]
 let⟨p,ws,rfl,hp,hl,sh,kk⟩:=h;let sl:=yy;refine{_,(ah (aJ (ptr eI (d6 aB T.bE (af (pv 0) ag)) aa)
  (ak (ar aV))
  aA)
  (ah (bQ 1 qN (bJ (mQ T) hr T.jr (af (eM (pv 0) aa) (af (bM (v:=.int (2)) (by rfl) T.B1 {_,rfl}) (af (bM (v:=.int (9)) (by rfl) T.Gd {_,rfl}) ag)))))
  (ah (bQ 2 qN (bJ (d9 T) hr T.dq (af (mq (ts:=["word"]) (ys:=[]) (js:=[]) (te:=(fq tQ [] E0 (bD (bc 0) d4))) (bH (dI kD (pv 0) (eO aa) eP)) (f9 0) bB (bJ (Ie T) hr T.AZ (af (pv 0) ag))) ag)))
  (ah (aJ (bC (cm (pv 2)))
  (ak (ar aV))
  aA)
  (ak (ar (bJ (fb T) hr T.dq (af (aW (af (bJ (cA T) hr T.cW (af (eM (pv 0) aa) ag)) (af (bJ (cA T) hr T.cW (af (eM (pv 0) aa) ag)) (af (pv 1) (af (oA dz T.kQ (af (pv 2) ag)) ag))))) ag)))))))),?_}
 ac_rfl;exists p,_,rfl,.inl hp,?_;rw[za];left;refine vt (λc=>?_) (λc=>?_)
 ·left
  refine kk _ _ (aD _) ?_;let hw:=yb c;let e:kJ ws=none:=by
   rcases ws with _ | ⟨_,_ | ⟨_,_ | ⟨_,r⟩⟩⟩
   all_goals first | rfl | (simp at hw;ext)
  unfold oC;rw[e];exact dU
 ·let hw:¬(⇑ws:Int)<3:=λz=>c (ze z)
  obtain⟨a,b,c',r,rfl⟩:∃a b i r,ws=a::b::i::r:=by
   match ws,hw with
   | [],h=>exact absurd (by simp) h
   | [_],h=>exact absurd (by simp) h
   | [_,_],h=>exact absurd (by simp) h
   | a::b::i::r,_=>exact{(a),b,i,r,rfl}
  let sh':∀z∈r,⇑z<=600:=λz hz=>sh z (by simp[hz]);let hl':⇑r<=1000000:=by simp at hl ⊢;ext
  let hs:⇑r<=sizeLine:=()
  let en:kJ (a::b::c'::r)=(match m6 (r.map AU) with | some l=>(match fu a,fu b,lN c' 2 9 with | some x,some y,some z=>some {(x),y,z,l} | _,_,_=>none) | none=>none):=rfl;unfold oC at kk;rw[en] at kk;exists p,_,2,_,rfl,rfl,hp,bq (j:=2) rfl,?_;refine{_,_,_,rfl,sh c' (by simp),λH0 s0=>?_};exists p,_,rfl,s0.seq hp,?_;rw[show ko (List.map V.str (a::b::c'::r)) (some 3) none=r.map V.str from(iK _ 3).trans rfl];intros p1 H1 s1 h1;exists{_,ao h1},?_;refine fF (enc:=V.str) (ws:=r) (λz=>dO mj (AU z)) (λU=>∃v,U=[v]) hs (ao h1) {(none),rfl} ?_ ?_
  ·rintro z U H4 R hz s4 ⟨_,rfl⟩ r
   change{sh' z hz,λv H5 s5 h5=>r _ _ _ s5 h5 {_,rfl}}
  ·intro D vs H4 s4 hD il
   refine{D,vs,rfl,ao hD,by rw[il.len,za];exact hl',λH5 s5=>?_};let il:=mT il;rw[jE il];let s05:=((s0.trans s1).trans s4).trans s5;cases q:((r.map AU).map (dO mj)).any Dt.gc with
   | true=>
    left;refine kk _ _ s05 ?_;rw[iO P4 q];exact dU
   | false=>
    let⟨xs,e2,e3,e4⟩:=iM q;rw[e3] at il;rw[e2] at kk;let il5:=il.mono s5;let hD5:=s5 _ _ hD;exists p,_,0,_,rfl,rfl,s05.seq hp,bq (j:=0) rfl,?_;refine{_,rfl,sh a (by simp),λH6 s6=>?_};exists p,_,1,_,rfl,rfl,(s05.trans s6).seq hp,bq (j:=1) rfl,?_;refine{_,rfl,sh b (by simp),λH7 s7=>?_};left;refine{D,_,rfl,.inl {ao (s7 _ _ (s6 _ _ hD5)),?_}};intros p8 H8 s8 h8;exists by show 4<=sizeLine;decide,?_
    intros p9 H9 s9 h9;let s59:=((s6.trans s7).trans s8).trans s9;refine{p9,_,rfl,h9,(by show 4<=1000000;decide),λHx sx=>kk _ _ ((s05.trans s59).trans sx) ?_};rw[F7];refine Gm (ds:=[dO .int (fu a),dO .int (fu b),dO .int (lN c' 2 9),.tup (xs.map mj)]) (sx _ _ h9) (aU (Bq _) (aU (Bq _) (aU (Bq _) (mV (cO (sx _ _ (s9 _ _ h8)) (il5.mono (s59.trans sx))))))) ?_ ?_
    ·cases fu a <;> cases fu b <;> cases lN c' 2 9 <;> first | (intro _;rfl) | (intro q;exact absurd q (by simp[dO,dL,Dt.gc]))
    ·cases fu a <;> cases fu b <;> cases lN c' 2 9 <;> first | (intro _;rfl) | (intro q;exact absurd q (by simp[dO,dL,Dt.gc]))
def Ft:cE P w base 3 T.nr (fM K (oC i7 A1)):=by
 nomatch T.nr,["words","stops","coda"]
 let⟨p,ws,rfl,hp,hl,sh,kk⟩:=h;let sl:=yy;refine{_,(ah (aJ (ptr iU (d6 aB T.bE (af (pv 0) ag)) aa)
  (ak (ar aV))
  aA)
  (ah (bQ 1 qN (bJ (d9 T) hr T.dq (af (mq (ts:=["word"]) (ys:=[]) (js:=[]) (te:=(fq jK [] E0 (bD (bc 0) d4))) (bH (dI kD (pv 0) eP (eO aa))) (f9 0) bB (bJ (cA T) hr T.cW (af (pv 0) ag))) ag)))
  (ah (bQ 2 qN (bJ (cA T) hr T.cW (af (eM (pv 0) aa) ag)))
  (ah (aJ (PW.pt (dB (bC (cm (pv 1))) (cY (PW.pt (cZ (bC (cm (pv 2))) (cS (ptr iU (eM (pv 0) aa) aL)))))))
  (ak (ar aV))
  aA)
  (ak (ar (aW (af (eM (pv 1) aa) (af (eM (pv 1) aa) (af (eM (pv 1) aa) (af (pv 2) ag))))))))))),?_}
 ac_rfl;exists p,_,rfl,.inl hp,?_;rw[za];left
 by_cases hw:⇑ws=4
 ·let⟨a,b,c,d,rfl⟩:=Xf hw
  let en:A1 [a,b,c,d]=(match fu a,fu b,fu c with | some x,some y,some z=>(match fu d with | some n=>some {x,y,z,some n} | none=>if d ="end" then some {(x),y,z,none} else none) | _,_,_=>none):=rfl;unfold oC at kk;rw[en] at kk;refine b7 rfl ?_;exists p,_,rfl,hp,?_;rw[show ko (List.map V.str [a,b,c,d]) none (some 3)=[a,b,c].map V.str from(RI _ 3).trans rfl];intros p1 H1 s1 h1;exists{_,ao h1},?_;refine fF (enc:=V.str) (ws:=[a,b,c]) (λz=>dO .int (fu z)) (λU=>∃v,U=[v]) (by show 3<=sizeLine;decide) (ao h1) {(none),rfl} ?_ ?_
  ·rintro z U H4 R hz s4 ⟨_,rfl⟩ r
   change{sh z (by simp at hz ⊢;rcases hz with h | h | h <;> simp[h]),λH5 s5=>r _ _ _ s5 (Bq _) {_,rfl}}
  ·intro D vs H4 s4 hD il
   refine{D,vs,rfl,ao hD,by rw[il.len];show 3<=1000000;decide,λH5 s5=>?_};let il:=mT il;rw[jE il];let s05:=(s1.trans s4).trans s5;cases q:(([a,b,c].map fu).map (dO Dt.int)).any Dt.gc with
   | true=>
    exists p,_,3,_,rfl,rfl,s05.seq hp,rfl,?_;refine{_,rfl,sh d (by simp),λH6 s6=>?_};left;refine kk _ _ (s05.trans s6) ?_;let q':([fu a,fu b,fu c].map (dO Dt.int)).any Dt.gc=true:=q;clear q en kk
    revert q'
    cases fu a <;> cases fu b <;> cases fu c <;> intro q' <;> first | exact dU | exact absurd q' (by simp[dO,Dt.gc])
   | false=>
    obtain⟨x,y,z,ea,eb,ec⟩:∃x y z,fu a=some x/\fu b=some y/\fu c=some z:=by
     let q':([fu a,fu b,fu c].map (dO Dt.int)).any Dt.gc=false:=q;clear q en kk il
     revert q'
     cases fu a <;> cases fu b <;> cases fu c <;> intro q' <;> first | exact⟨_,_,_,rfl,rfl,rfl⟩ | exact absurd q' (by simp[dO,Dt.gc])
    rw[ea,eb,ec] at kk;let il':aC H4 ([x,y,z].map Dt.int) vs:=by
     have:([a,b,c].map fu).map (dO Dt.int)=[x,y,z].map Dt.int:=by simp[ea,eb,ec,dO]
     rw[this] at il;exact il
    let ev:=eD il';subst ev;let hD5:=s5 _ _ hD;exists p,_,3,_,rfl,rfl,s05.seq hp,rfl,?_;refine{_,rfl,sh d (by simp),λH6 s6=>?_};let hD6:=s6 _ _ hD5;let s06:=s05.trans s6;let fin:∀(o:Option Int) (v:V),Is H6 (dO .int o) v->fu d=o->(o=none->d ="end")->∀p7 H7,aF H6 H7->H7 p7=some (.tup [.int x,.int y,.int z,v])->Q (.ref p7) H7:=λo v iv eo hend p7 H7 s7 h7=>by
     refine kk _ _ (s06.trans s7) ?_;rw[eo];cases o with
     | none=>
      simp only[hend rfl,yK];exact cO h7 (aU cH (aU cH (aU cH (mV (iv.mono s7)))))
     | some n=>exact cO h7 (aU cH (aU cH (aU cH (mV (iv.mono s7)))))
    cases ed:fu d with
    | none=>
     exists p,_,3,_,rfl,rfl,s06.seq hp,rfl,?_;left
     by_cases he:d ="end"
     ·refine b7 (by rw[he];rfl) ?_
      exists D,_,0,_,rfl,rfl,ao hD6,rfl,?_;exists D,_,1,_,rfl,rfl,ao hD6,rfl,?_;exists D,_,2,_,rfl,rfl,ao hD6,rfl,?_;left;refine{by show 4<=sizeLine;decide,laid ?_};exact fin none .bN dU ed λ_=>he
     ·refine bX (by rw[zd λz=>he (V.str.inj z)];rfl) ?_
      left;refine kk _ _ s06 ?_;rw[ed];simp only[yJ he];exact dU
    | some n=>
     exists D,_,0,_,rfl,rfl,ao hD6,rfl,?_;exists D,_,1,_,rfl,rfl,ao hD6,rfl,?_;exists D,_,2,_,rfl,rfl,ao hD6,rfl,?_;left;refine{by show 4<=sizeLine;decide,laid ?_};exact fin (some n) (.int n) cH ed λz=>nomatch z
 ·refine bX (by rw[zd λz=>hw (by have:=V.int.inj z;ext)];rfl) ?_
  left;refine kk _ _ (aD _) ?_;let e:A1 ws=none:=by
   rcases ws with _ | ⟨_,_ | ⟨_,_ | ⟨_,_ | ⟨_,_ | ⟨_,r⟩⟩⟩⟩⟩
   all_goals first | rfl | exact absurd rfl hw
  unfold oC;rw[e];exact dU
structure Dk (P:vh) (w:vi) (K:yx) {mg:Str->Option vf} (T:Txt K mg):Prop where
 LW:KD P w K T.iF [("player",.ref T.gA),("instrument",.ref T.eE),("staff",.ref T.iw),("bar",.ref T.lA),("upbeat",.ref T.gy),("holds",.ref T.jG),("notes",.ref T.iz),("repeat",.ref T.gz),("jump",.ref T.jF)]
 T5:KD P w K T.qt [("player",.ref T.fY),("instrument",.ref T.dX),("staff",.ref T.gx),("bar",.ref T.jH),("upbeat",.ref T.fW),("holds",.ref T.iB),("notes",.ref T.gB),("repeat",.ref T.fX),("jump",.ref T.iA)]
inductive N5 (K:yx) {mg:Str->Option vf} (T:Txt K mg):vm->Sp->Prop where
 | bO:N5 K T T.gA (fM K (oC .str (one cI)))
 | cJ:N5 K T T.eE (fM K (oC eC mJ))
 | cR:N5 K T T.iw (fM K (oC kZ sC))
 | bar:N5 K T T.lA (fM K (oC ji Fj))
 | aK:N5 K T T.gy (fM K (oC dL (one lr)))
 | holds:N5 K T T.jG (fM K (oC uj tX))
 | aI:N5 K T T.iz (fM K Vv)
 | rep:N5 K T T.gz (fM K (oC i6 kJ))
 | bU:N5 K T T.jF (fM K (oC i7 A1))
noncomputable def A0 {K:yx} {mg:Str->Option vf} (T:Txt K mg):List (Str×V):=[("player",V.ref T.gA),("instrument",.ref T.eE),("staff",.ref T.iw),("bar",.ref T.lA),("upbeat",.ref T.gy),("holds",.ref T.jG),("notes",.ref T.iz),("repeat",.ref T.gz),("jump",.ref T.jF)]
def OZ (K:yx) {mg:Str->Option vf} (T:Txt K mg) (x:Str):(rG (A0 T) x=none/\∀ws,nA (x::ws)=none)\/∃f D,rG (A0 T) x=some (.ref f)/\N5 K T f (fM K D)/\∀H0 H v ws,D H0 H v ws->gq H0 H v (nA (x::ws)):=by
 by_cases e0:x ="player"
 ·subst e0
  refine .inr {_,_,rfl,.bO,λH0 H v ws h=>?_};exact mw (g:=Told.bO) h λx z=>by unfold Is at z;exact z
 by_cases e1:x ="instrument"
 ·subst e1
  refine .inr {_,_,rfl,.cJ,λH0 H v ws h=>?_};exact mw (g:=λ(x:Str×(Int×Int)×(Int×Int))=>Told.cJ x.1 x.2.1 x.2.2) h λx z=>(show Is H (eC x) v from z)
 by_cases e2:x ="staff"
 ·subst e2
  refine .inr {_,_,rfl,.cR,λH0 H v ws h=>?_};exact mw (g:=λ(x:Str×List Str)=>Told.cR x.1 x.2) h λx z=>(show Is H (kZ x) v from z)
 by_cases e3:x ="bar"
 ·subst e3
  refine .inr {_,_,rfl,.bar,λH0 H v ws h=>?_};exact mw (g:=Told.bar) h λx z=>z
 by_cases e4:x ="upbeat"
 ·subst e4
  refine .inr {_,_,rfl,.aK,λH0 H v ws h=>?_};exact mw (g:=Told.aK) h λx z=>z
 by_cases e5:x ="holds"
 ·subst e5
  refine .inr {_,_,rfl,.holds,λH0 H v ws h=>?_};exact mw (g:=λ(x:Str×Int×Str)=>Told.holds x.1 x.2.1 x.2.2) h λx z=>(show Is H (uj x) v from z)
 by_cases e6:x ="notes"
 ·subst e6
  refine .inr {_,_,rfl,.aI,λH0 H v ws h=>?_};let e:nA ("notes":: ws)=(kK ws).map λx=>Told.aI x.1 x.2.1 x.2.2:=rfl;rw[e];unfold Vv at h;cases q:kK ws with
  | none=>rw[q] at h;exact h
  | some y=>rw[q] at h;exact h
 by_cases e7:x ="repeat"
 ·subst e7
  refine .inr {_,_,rfl,.rep,λH0 H v ws h=>?_};exact mw (g:=Told.rep) h λx z=>z
 by_cases e8:x ="jump"
 ·subst e8
  refine .inr {_,_,rfl,.bU,λH0 H v ws h=>?_};exact mw (g:=Told.bU) h λx z=>z
 refine .inl {?_,λws=>?_}
 ·let f0:∀(k:Str) (v:V) (r:List (Str×V)),x≠k->rG ((k,v)::r) x=rG r x:=λk v r h=>by
   unfold rG;rw[yO];rw[show decide ((k,v).1=x)=false from zd λz=>h z.symm]
  unfold A0;rw[f0 _ _ _ e0,f0 _ _ _ e1,f0 _ _ _ e2,f0 _ _ _ e3,f0 _ _ _ e4,f0 _ _ _ e5,f0 _ _ _ e6,f0 _ _ _ e7,f0 _ _ _ e8];rfl
 ·unfold nA
  dsimp only;rw[yJ e0,yJ e1,yJ e2,yJ e3,yJ e4,yJ e5,yJ e6,yJ e7,yJ e8]
def rL {K:yx} {mg:Str->Option vf} (T:Txt K mg):Sp:=λvs H Q _=>∃x:Str,vs=[.str x]/\Q (.bl (rG (A0 T) x).isSome) H
def sH (B:Dk P w K T):cE P w base 1 T.jO (rL T):=by
 nomatch T.jO,["word"]
 let⟨x,rfl,kk⟩:=h;refine{_,(ak (ar (oZ (Rc (pv 0) (bM (v:=.ref T.iF) (by rfl) T.Eo rfl))))),?_};ac_rfl;exists T.iF,A0 T,x,rfl,B.LW,rfl,?_;left;show Q (V.bl (false ^^ (rG (A0 T) x).isSome)) H;rw[Bool.false_xor];exact kk
def tT:fZ ["words","reader"] ["words"] (aX oN):=Vi
def Ib (B:Dk P w K T):cE P w base 7 T.AX (G4 K):=by
 refine T.AX.F.VO tT λcdv A' outer s H vs Q E hr h=>?_
 ·let⟨p,x,ws,rfl,hp,hl,sh,kk⟩:=h
  let sl:=yy;let hTbV:∀f sp,N5 K T f sp->Uq (jS JK P w K mg base ["words","reader"] "read_row" (aX oN) T.B9 cdv A' outer s H E).JL JK 6 f sp:=by
   intro f sp h;cases h with
   | bO=>exact{_,_,L2.dy.mono (Bf T) ∅,T.jx.F.kp,T.jx.b}
   | cJ=>exact{_,_,L2.dy.mono (o9 T) ∅,T.fh.F.kp,T.fh.b}
   | cR=>exact{_,_,L2.dy.mono (CZ T) ∅,T.kG.F.kp,T.kG.b}
   | bar=>exact{_,_,L2.dy.mono (Ig T) ∅,T.qq.F.kp,T.qq.b}
   | aK=>exact{_,_,L2.dy.mono (Bd T) ∅,T.jt.F.kp,T.jt.b}
   | holds=>exact{_,_,L2.dy.mono (Fu T) ∅,T.nu.F.kp,T.nu.b}
   | aI=>exact{_,_,L2.dy.mono (C1 T) ∅,T.kI.F.kp,T.kI.b}
   | rep=>exact{_,_,L2.dy.mono (Be T) ∅,T.jw.F.kp,T.jw.b}
   | bU=>exact{_,_,L2.dy.mono (Ft T) ∅,T.nr.F.kp,T.nr.b}
  refine{_,(ah (aJ (eA (cB (bJ (sH T B) hr T.jO (af (eM (pv 0) aa) ag))))
   (ak (ar aV))
   aA)
   (ah (bQ 1 tT.nd (HR (bM (v:=.ref T.iF) (by rfl) T.Eo rfl) (eM (pv 0) aa) (λ_ _=>rfl)))
   (ak (ar (HU (N5 K T) hTbV (hr.mono ∅) (pv 1) LZ (af (dI kD (pv 0) (eO aa) eP) ag)))))),?_}
  ac_rfl;exists p,_,0,_,rfl,rfl,hp,bq (j:=0) rfl,?_;refine{x,rfl,?_};rcases OZ K T x with⟨ev,er⟩ | ⟨f,D,ev,htb,hd⟩
  ·rw[ev]
   left;refine kk _ _ (aD _) ?_;rw[er];rfl
  ·rw[ev]
   exists p,_,0,_,rfl,rfl,hp,bq (j:=0) rfl,?_;refine{T.iF,A0 T,x,_,rfl,B.LW,rfl,ev,?_};exists f,_,rfl,htb,?_;exists p,_,rfl,hp,?_;rw[show ko (List.map V.str (x::ws)) (some 1) none=ws.map V.str from(iK _ 1).trans rfl];intros p1 H1 s1 h1;refine{p1,ws,rfl,ao h1,(),λy hy=>sh y (by simp[hy]),λv H2 s2 h2=>kk _ _ (s1.trans s2) ((hd _ _ _ _ h2).back s1)}
def lQ:cE P w base 1 T.gZ (ux K):=by
 nomatch T.gZ,["repeats","bar","repeat"]
 let⟨p,rs,b,rfl,⟨vs,hp,il⟩,kk⟩:=h;unfold dC at kk;refine{_,(ah (cj yL rfl (bH (pv 0)) (hX 2 qN)
  (ak (aJ (PW.pt (cZ (ptr gF (bG (pv 2) aa) (pv 1)) (cS (ptr gF (pv 1) (bG (pv 2) aa)))))
   (ak (ar (pv 2)))
   aA)))
  (ak (ar aV))),?_}
 ac_rfl;exists{_,hp},?_;refine dJ (K:=K) (a:=p) (xs:=vs) (λi U H'=>H'=H/\(rs.take i).find? (λr=>decide (r.first<=b)&&decide (b<=r.last))=none/\∃v,U=[some (.ref p),some (.int b),v]) {(rfl),rfl,none,rfl} (λi U H' _ h=>by rw[h.1];exact hp) ?_ ?_
 ·intro i x U H' hx hh
  refine cU λN kN0 kR0 _ _=>?_;let⟨rfl,hn,v,rfl⟩:=hh;let⟨r,hr',hi⟩:=cN il hx;let⟨a,e,rfl,ha,he⟩:=fk hi;left
  by_cases c1:r.first<=b
  ·refine bX (ze c1) ?_
   left
   by_cases c2:b<=r.last
   ·refine bX (ze c2) ?_
    left;refine kk _ ?_;rw[Mb hr' hn (by rw[ze c1,ze c2];rfl)];exact hi
   ·refine b7 (zd c2) ?_
    change{Eh hr' hn (by rw[zd c2,wB]),_,rfl}
  ·refine b7 (zd c1) ?_
   change{Eh hr' hn (by rw[zd c1,yP]),_,rfl}
 ·rintro U H' ⟨rfl,hn,v,rfl⟩
  rw[aQ il,zL] at hn;left;refine kk _ ?_;rw[hn];exact dU
def Fv:cE P w base 2 T.sS (EN K):=by
 nomatch T.sS,["repeats","bar","repeat"]
 let⟨p,rs,b,rfl,hp,kk⟩:=h;unfold gH at kk;refine{_,(ah (bQ 2 qN (bJ (lQ T) hr T.gZ (af (pv 0) (af (pv 1) ag))))
  (ak (ar (Pd (oZ (cm (pv 2))) (mK (dw dh (pv 1) (bG (pv 2) aa) (gQ _))))))),?_}
 ac_rfl;exists p,rs,b,rfl,hp,λv iv=>?_;cases q:dC rs b with
 | none=>
  rw[q] at iv kk;unfold dO Is at iv;subst iv;change kk
 | some r=>
  rw[q] at iv kk;let⟨a,e,rfl,ha,he⟩:=fk iv;left;let e1:decide (V.int b=V.int r.last)=decide (b=r.last):=by simp
  show Q (.bl (decide (V.int b=V.int r.last))) H;rw[e1];exact kk
def qE:cE P w base 2 T.nK (EO K):=by
 nomatch T.nK,["repeats","bar","repeat"]
 let⟨p,rs,b,rfl,hp,kk⟩:=h;unfold d8 at kk;refine{_,(ah (bQ 2 qN (bJ (lQ T) hr T.gZ (af (pv 0) (af (pv 1) ag))))
  (ak (ar (Pd (oZ (cm (pv 2))) (mK (dw dh (pv 1) (bG (pv 2) aa) (gQ _))))))),?_}
 ac_rfl;exists p,rs,b,rfl,hp,λv iv=>?_;cases q:dC rs b with
 | none=>
  rw[q] at iv kk;unfold dO Is at iv;subst iv;change kk
 | some r=>
  rw[q] at iv kk;let⟨a,e,rfl,ha,he⟩:=fk iv;left;let e1:decide (V.int b=V.int r.first)=decide (b=r.first):=by simp
  show Q (.bl (decide (V.int b=V.int r.first))) H;rw[e1];exact kk
def P8 (us:List V) (h:us≠[]):¬(HT.eZ ⇑us 0 (some 1)=0/\HT.eZ ⇑us ⇑us none=⇑us):=by
 rintro⟨h1,_⟩;let hp:0<⇑us:=yo.mpr h;let e:HT.eZ ⇑us 0 (some ((1:Nat):Int))=min 1 ⇑us:=by unfold HT.eZ;simp
 let e':HT.eZ ⇑us 0 (some (1:Int))=min 1 ⇑us:=e;rw[e'] at h1;ext
def MB {K:yx} {H:Hp} {e:vm} {us:List V} {Q:VK} (hu:H e=some (.tup us)) (k:∀q H1,aF H H1->H1 q=some (.tup (us.drop 1))->Q (.ref q) H1):O2 K (.ref e) (some 1) none H Q:=by
 by_cases h:us=[]
 ·subst h
  exact .inr {e,[],rfl,bu hu,{(rfl),rfl},k e H (aD H) hu}
 ·refine .inl {e,us,rfl,bu hu,P8 us h,?_}
  rw[show ko us (some 1) none=us.drop 1 from iK us 1];exact laid k
def Ky:cE P w base 1 T.FO J6:=by
 nomatch T.FO,["repeat","ends","behind"]
 let⟨v,r,rfl,iv,hl,kk⟩:=h;let sl:=yy;let⟨a,e,rfl,ha,he⟩:=fk iv;unfold Is at he;let⟨e',us,ee,hu,ilu⟩:=he;cases ee;refine{_,(ah (bQ 1 qN (bG (pv 0) aa))
  (ah (bQ 2 qN (au gw (mq (ts:=["end"]) (ys:=[]) (js:=[]) (te:=(fj (mI K) (bc 0) (tC (.int (0))))) (iT (dI EW (pv 1) (eO aa) eP)) (f9 0) bB (bG (pv 0) aa)) (bg (af (au aR (bG (pv 0) aa) aa) ag))))
  (ak (ar (mq (ts:=["end","after"]) (ys:=[]) (js:=[]) (g:=(KW K 2 (gJ (cz 0) (gJ (cz 1) KY)))) (te:=(Ao (bD (fj (mI K) (bc 0) (tC (.int (0)))) (bD (fj (tW λi j=>.int (i-j)) (bc 1) (tC (.int (1)))) (bD (fj (mI K) (bc 0) (tC (.int (1)))) d4))))) (Pb (by rfl) T.Sa (af (pv 1) (af (pv 2) ag))) (eB (n:=2) rfl (aO (f9 0) (aO (f9 1) dt))) bB (aW (af (bG (pv 0) aa) (af (au gN (pv 1) aa) (af (bG (pv 0) aa) ag))))))))),?_}
 ac_rfl;left;let main:∀(q:vm) (H1:Hp),aF H H1->H1 q=some (.tup (us.drop 1))->∀(R:VK),(∀D H2,aF H1 H2->H2 D=some (.lst ((r.ends.drop 1).map λx=>V.int x.1))->R (.ref D) H2)->
   dg [none] (cz 0) pT (fj (mI K) (bc 0) (tC (.int 0))) R (Ss K q) H1:=by
  intro q H1 s1 h1 R hR;let il1:aC H ((r.ends.drop 1).map mj) (us.drop 1):=by
   cases re:r.ends with
   | nil=>
    rw[re] at ilu;unfold aC at ilu;subst ilu;unfold aC;rfl
   | cons x xs=>
    rw[re,zh] at ilu;unfold aC at ilu;let⟨u,ur,rfl,_,h2⟩:=ilu;exact h2
  let⟨ps,f1,f2,f3⟩:=kU il1;let pl:⇑ps<=1000000:=by
   have:⇑ps=⇑(r.ends.drop 1):=by rw[<-f1,za]
   rw[this,xw];ext
  refine fm (enc:=λz:Sc.End×V=>z.2) (ws:=ps) (λz=>.int z.1.1) (λU=>∃v,U=[v]) () (by rw[f2];exact h1) {(none),rfl} ?_ ?_
  ·rintro z U H6 R' hz s6 ⟨_,rfl⟩ r'
   let⟨a6,q6,ev,h6,h7⟩:=pB (f3 z hz);rw[ev];let h66:=s6 _ _ (s1 _ _ h6);change r' _ _ _ (aD _) cH {_,rfl}
  ·intro D vs H6 s6 hD il
   let e5:ps.map (λz=>Dt.int z.1.1)=((r.ends.drop 1).map (·.1)).map Dt.int:=by rw[<-f1,zz,zz];rfl
   rw[e5] at il;rw[eD il,zz] at hD;exact hR D H6 s6 hD
 refine MB hu λq H1 s1 h1=>{q,rfl,{_,bu h1},main q H1 s1 h1 _ λD H2 s2 h2=>?_}
 let ha2:=s2 _ _ (s1 _ _ ha);exists by show 1<=sizeLine;decide,?_
 intros p3 H3 s3 h3;refine{D,p3,_,_,rfl,rfl,ao (s3 _ _ h2),ao h3,by rw[za,xw];show _+1<=_;ext,?_};intros p4 H4 s4 h4;let s04:=(s1.trans s2).trans (s3.trans s4);let hu4:=s04 _ _ hu;let eb:(List.map (λx=>V.int x.1) (r.ends.drop 1)++[V.int (r.last+1)])=((r.ends.drop 1).map (·.1)++[r.last+1]).map V.int:=by rw[zj,zz];rfl
 rw[eb] at h4;left;let ilu4:=ilu.mono s04;let ul:=aQ ilu;refine{true,false,e,p4,us,_,rfl,bu hu4,ao h4,?_};generalize hbs:(r.ends.drop 1).map (·.1)++[r.last+1]=bs at h4;let zl:⇑(r.ends.zip bs)=min ⇑r.ends ⇑bs:=xu;refine BS (ws:=r.ends.zip bs) (λz x H'=>∃p u,x=.ref p/\H' p=some (.tup [u,.int z.2])/\Is H' (mj z.1) u) (λz=>Ny (z.1.1,z.2-1,z.1.2)) (λU=>∃u v,U=[u,v]) () {(none),none,rfl} ?_ ?_ ?_ ?_ ?_
 ·intro i H5 hi s5
  let i1:i<⇑us:=()
  let i2:i<⇑(bs.map V.int):=by rw[za];ext
  exact{us,bs.map V.int,us[i],(bs.map V.int)[i],bu (s5 _ _ hu4),ao (s5 _ _ h4),zb i1,zb i2}
 ·intro H5 s5
  refine{us,bs.map V.int,bu (s5 _ _ hu4),ao (s5 _ _ h4),?_};rw[za];rcases Nat.le_total ⇑r.ends ⇑bs with h | h
  ·exact Or.inl ()
  ·right;ext
 ·rintro i x H5 H6 hi s5 ⟨p,u,v,hp,rfl,rfl,hu',hv'⟩
  let i1:i<⇑r.ends:=()
  let i2:i<⇑bs:=()
  let gu:=hu' us (bu (s5 _ _ hu4));let gv:=hv' (bs.map V.int) (ao (s5 _ _ h4));rw[zI,zb i2] at gv;cases gv;let⟨x0,hx0,ix0⟩:=cN (ilu4.mono s5) gu;rw[zb i1] at hx0;cases hx0;refine{bz hp,p,u,rfl,?_,?_}
  ·rw[aE,List.getElem_zip]
  ·rw[List.getElem_zip];exact ix0.mono (bz hp)
 ·rintro z x U H5 R hz s5 ⟨p,u,rfl,hp,iu⟩ ⟨_,_,rfl⟩ rr
  let⟨a6,q6,rfl,h6,h7⟩:=pB iu;refine{p,_,rfl,bu hp,rfl,?_};refine{_,_,rfl,_,_,rfl,rfl,?_};left;refine{iP,laid λp7 H7 s7 h7'=>rr _ _ _ s7 ?_ {_,_,rfl}};exact cO h7' (aU cH (aU cH (mV (cO (s7 _ _ h7) qQ))))
 ·intro D5 vs5 H5 s5 hD5 il5
  refine kk _ _ _ (s04.trans s5) hD5 ?_;let ee:(i4 r).map Ny=(r.ends.zip bs).map λz=>Ny (z.1.1,z.2-1,z.1.2):=by
   unfold i4;rw[hbs,zz];rfl
  rw[ee];exact il5
def SG {H:Hp} {e:Int×Int×List Int} {v:V} (h:Is H (Ny e) v):∃a q,v=.ref a/\H a=some (.tup [.int e.1,.int e.2.1,.ref q])/\H q=some (.tup (e.2.2.map V.int)):=by
 unfold Ny Is at h;let⟨a,vs,rfl,ha,hl⟩:=h;unfold aC at hl;let⟨v1,r1,rfl,h1,hl⟩:=hl;unfold aC at hl;let⟨v2,r2,rfl,h2,hl⟩:=hl;unfold aC at hl;let⟨v3,r3,rfl,h3,hl⟩:=hl;unfold aC at hl;subst hl;unfold Is at h1 h2;subst h1 h2;unfold ui Is at h3;let⟨q,us,rfl,hq,hle⟩:=h3;rw[eD hle] at hq;exact{(a),q,rfl,ha,hq}
noncomputable def BB (r:Rep) (b:Int) (e:Int×Int×List Int):Bool:=decide (e.1<=b)&&decide (b<=e.2.1)&&!decide (r.times∈e.2.2)
def M8 (rs:List Rep) (b:Int):kW rs b=rs.all λr=>(i4 r).all λe=>!BB r b e:=rfl
theorem nP:∀ns:List Int,(ns.map V.int).all lV=true
 | []=>rfl
 | n::ns=>by rw[zh,wL,nP ns];rfl
def lS:cE P w base 2 T.ik (uA K):=by
 nomatch T.ik,["repeats","bar","repeat","end"]
 let⟨p,rs,b,rfl,⟨vs,hp,il⟩,hl,kk⟩:=h;rw[M8] at kk;refine{_,(ah (cj yL rfl (bH (pv 0)) (hX 2 qN)
  (ak (cj yL rfl (bH (bJ (Ky T) hr T.FO (af (pv 2) ag))) (hX 3 qN)
   (ak (aJ (PW.pt (cZ (ptr gF (bG (pv 3) aa) (pv 1)) (cZ (ptr gF (pv 1) (bG (pv 3) aa)) (cS (gr dQ (bG (pv 2) aa) (bG (pv 3) aa) (by with_unfolding_all rfl))))))
    (ak (ar mM))
    aA)))))
  (ak (ar mM))),?_}
 ac_rfl;exists{_,hp},?_;refine dJ (K:=K) (a:=p) (xs:=vs) (λi U H'=>aF H H'/\(rs.take i).all (λr=>(i4 r).all λe=>!BB r b e)=true/\∃v u,U=[some (.ref p),some (.int b),v,u]) {aD H,rfl,none,none,rfl} (λi U H' _ h=>h.1.seq hp) ?_ ?_
 ·intro i x U H' hx hh
  refine cU λN kN0 kR0 _ _=>?_;let⟨s1,hn,v,u,rfl⟩:=hh;let⟨r,hr',hi⟩:=cN il hx;let hm:=zA hr';exists _,r,rfl,hi.mono s1,hl r hm,λD us H2 s2 hD ilD=>?_;refine{D,rfl,{_,ao hD},?_};let⟨a,e,rfl,ha,he⟩:=fk (hi.mono (s1.trans s2));refine dJ (K:=K) (a:=D) (xs:=us) (λj U H'=>H'=H2/\((i4 r).take j).all (λe=>!BB r b e)=true/\∃u,U=[some (.ref p),some (.int b),some (.ref a),u]) {rfl,rfl,_,rfl} (λj U H' _ h=>by rw[h.1];exact ao hD) ?_ ?_
  ·intro j y U H3 hy hh
   refine cU λN kN1 kR1 _ _=>?_;let⟨rfl,hnj,u',rfl⟩:=hh;let⟨t,ht,it⟩:=cN ilD hy;let⟨a6,q6,rfl,h6,h7⟩:=SG it;let good:BB r b t=false->((i4 r).take (j+1)).all (λe=>!BB r b e)=true:=λz=>by
    rw[dr ht,List.all_append,hnj,yR];simp[z]
   left
   by_cases c1:t.1<=b
   ·refine bX (ze c1) ?_
    left
    by_cases c2:b<=t.2.1
    ·refine bX (ze c2) ?_
     exists q6,t.2.2.map V.int,rfl,.inr (bu h7),rfl,nP _,?_;show∃k,V.bl (!FJ (.int r.times) (t.2.2.map V.int))=.bl k/\_;rw[qT]
     by_cases c3:r.times∈t.2.2
     ·rw[ze c3]
      change{good (by unfold BB;rw[ze c3];simp),_,rfl}
     ·rw[zd c3]
      left;let z:=kk H3 (s1.trans s2);let e0:(rs.all λr=>(i4 r).all λe=>!BB r b e)=false:=by
       rw[List.all_eq_false];refine{r,hm,?_};have:((i4 r).all λe=>!BB r b e)=false:=by
        rw[List.all_eq_false];exact{t,zA ht,by unfold BB;simp[c1,c2,c3]}
       rw[this];decide
      rw[e0] at z;exact z
    ·refine b7 (zd c2) ?_
     change{good (by unfold BB;rw[zd c2];simp),_,rfl}
   ·refine b7 (zd c1) ?_
    change{good (by unfold BB;rw[zd c1];simp),_,rfl}
  ·rintro U H3 ⟨rfl,hnj,u',rfl⟩
   rw[aQ ilD,zL] at hnj;left;refine{s1.trans s2,?_,_,_,rfl};rw[dr hr',List.all_append,hn,yR];simp[hnj]
 ·rintro U H' ⟨s1,hn,v,u,rfl⟩
  rw[aQ il,zL] at hn;left;let z:=kk H' s1;rw[hn] at z;exact z
inductive ET (K:yx) (vs:List V) (H:Hp) (Q:VK) (E:XK):Prop
 | mk (p:vm) (rs:List Rep) (a c:Int) (_:vs=[.ref p,.int a,.int c]) (_:DG K H p rs) (_:(∀r∈rs,⇑r.ends<=1000000)) (_:∀H',aF H H'->Q (.bl (decide (a<c)&&d8 rs c&&kW rs c)) H')
inductive ER (K:yx) (vs:List V) (H:Hp) (Q:VK) (E:XK):Prop
 | mk (p:vm) (rs:List Rep) (v:V) (j:Jump) (_:vs=[.ref p,v]) (_:DG K H p rs) (_:(∀r∈rs,⇑r.ends<=1000000)) (_:Is H (i7 j) v) (_:∀H',aF H H'->Q (.bl (gI rs j)) H')
def qM {H:Hp} {j:Jump} {v:V} (h:Is H (i7 j) v):∃a,v=.ref a/\H a=some (.tup [.int j.vq,.int j.Bm,.int j.dn,ov j.fJ]):=by
 unfold i7 Is at h;let⟨a,vs,rfl,ha,hl⟩:=h;unfold aC at hl;let⟨v1,r1,rfl,h1,hl⟩:=hl;unfold aC at hl;let⟨v2,r2,rfl,h2,hl⟩:=hl;unfold aC at hl;let⟨v3,r3,rfl,h3,hl⟩:=hl;unfold aC at hl;let⟨v4,r4,rfl,h4,hl⟩:=hl;unfold aC at hl;subst hl;unfold Is at h1 h2 h3;subst h1 h2 h3;refine{a,rfl,?_};cases q:j.fJ with
 | none=>rw[q] at h4;unfold dO Is at h4;subst h4;exact ha
 | some n=>rw[q] at h4;unfold dO Is at h4;subst h4;exact ha
def Fy:cE P w base 3 T.tE (ET K):=by
 nomatch T.tE,["repeats","at","coda"]
 let⟨p,rs,a,c,rfl,hp,hl,kk⟩:=h;refine{_,(ak (ar (o6 (dw eI (pv 1) (pv 2) (gQ _)) (o6 (bJ (qE T) hr T.nK (af (pv 0) (af (pv 2) ag))) (mK (bJ (lS T) hr T.ik (af (pv 0) (af (pv 2) ag)))))))),?_};ac_rfl;left
 by_cases c1:a<c
 ·rw[ze c1,yR] at kk
  refine bX (ze c1) ?_;exists p,rs,c,rfl,hp,?_;cases q:d8 rs c with
  | true=>
   rw[q,yR] at kk;change{(p),rs,c,rfl,hp,hl,kk}
  | false=>
   rw[q,yP] at kk;change kk _ (aD _)
 ·rw[zd c1,yP,yP] at kk
  refine b7 (zd c1) ?_;change kk _ (aD _)
def Fw:cE P w base 4 T.sX (ER K):=by
 nomatch T.sX,["repeats","jump","at","to","until","coda"]
 let⟨p,rs,v,j,rfl,hp,hl,iv,kk⟩:=h;let⟨a,rfl,ha⟩:=qM iv;unfold gI at kk;refine{_,(ah (bQ 2 qN (bG (pv 1) aa))
  (ah (bQ 3 qN (bG (pv 1) aa))
  (ah (bQ 4 qN (bG (pv 1) aa))
  (ah (bQ 5 qN (bG (pv 1) aa))
  (ah (aJ (PW.pt (dB (ptr eI (pv 4) (pv 3)) (cY (ptr eI (pv 2) (pv 4)))))
  (ak (ar mM))
  aA)
  (ah (aJ (PW.pt (cZ (bC (eQ (pv 5))) (cS (eA (cB (bJ (Fy T) hr T.tE (af (pv 0) (af (pv 2) (af (pv 5) ag)))))))))
  (ak (ar mM))
  aA)
  (ak (ar (o6 (bJ (Fv T) hr T.sS (af (pv 0) (af (pv 2) ag))) (o6 (bJ (qE T) hr T.nK (af (pv 0) (af (pv 3) ag))) (mK (bJ (lS T) hr T.ik (af (pv 0) (af (pv 4) ag)))))))))))))),?_}
 ac_rfl;left
 by_cases c1:j.dn<j.Bm
 ·refine bX (ze c1) ?_
  simp only[yK c1] at kk;change kk _ (aD _)
 ·refine b7 (zd c1) ?_
  simp only[yJ c1] at kk;left
  by_cases c2:j.vq<j.dn
  ·refine bX (ze c2) ?_
   simp only[yK c2] at kk;change kk _ (aD _)
  ·refine b7 (zd c2) ?_
   simp only[yJ c2] at kk;left;cases q:j.fJ with
   | none=>
    rw[q] at kk;exists p,rs,_,rfl,hp,?_;cases q1:gH rs j.vq with
    | false=>
     rw[q1] at kk;change kk _ (aD _)
    | true=>
     rw[q1] at kk;exists p,rs,_,rfl,hp,?_;cases q2:d8 rs j.Bm with
     | false=>
      rw[q2] at kk;change kk _ (aD _)
     | true=>
      rw[q2] at kk;change{p,rs,_,rfl,hp,hl,kk}
   | some n=>
    rw[q] at kk;exists p,rs,_,_,rfl,hp,hl,λH1 s1=>?_;cases q0:(decide (j.vq<n)&&d8 rs n&&kW rs n) with
    | false=>
     simp only[q0] at kk;change kk _ s1
    | true=>
     simp only[q0,yR] at kk;exists p,rs,_,rfl,hp.mono s1,?_;cases q1:gH rs j.vq with
     | false=>
      rw[q1] at kk;change kk _ s1
     | true=>
      rw[q1] at kk;exists p,rs,_,rfl,hp.mono s1,?_;cases q2:d8 rs j.Bm with
      | false=>
       rw[q2] at kk;change kk _ s1
      | true=>
       rw[q2] at kk;change{p,rs,_,rfl,hp.mono s1,hl,λH2 s2=>kk _ (s1.trans s2)}
def DP {l ns:List Int} (h1:ns.Perm l) (h2:ns.Pairwise (·<=·)):ns=sortI l:=by
 unfold sortI;refine List.Perm.eq_of_pairwise (le:=λa b:Int=>a<=b) (λa b _ _ x y=>Int.le_antisymm x y) h2 ?_ (h1.trans (List.mergeSort_perm _ _).symm);have:=List.pairwise_mergeSort (le:=λa b:Int=>decide (a<=b)) (λa b c x y=>by simp at x y ⊢;ext) (λa b=>by simp;ext) l;exact this.imp λh=>by simpa using h
noncomputable def JY:List Sc.End->Nat
 | []=>0
 | e::r=>⇑e.2+JY r
def SH {es:List Sc.End} {e:Sc.End} (h:e∈es):⇑e.2<=JY es:=by
 induction es with
 | nil=>cases h
 | cons x r ih=>
  rcases zB.mp h with rfl | h
  ·unfold JY;ext
  ·have:=ih h;unfold JY;ext
def Og {a b:List Int}:(decide (a.map V.int=b.map V.int))=decide (a=b):=by
 by_cases h:a=b
 ·subst h;simp
 ·rw[zd h,zd]
  intro z;have:∀{a b:List Int},a.map V.int=b.map V.int->a=b:=by
   intro a
   induction a with
   | nil=>intro b z;cases b with | nil=>rfl | cons _ _=>cases z
   | cons x r ih=>intro b z;cases b with | nil=>cases z | cons y s=>simp at z;rw[z.1,ih (by simpa using z.2)]
  exact h (this z)
theorem qA:∀ns:List Int,(ns.map V.int).all R8=true
 | []=>rfl
 | n::ns=>by rw[zh,wL,qA ns];rfl
def IP {e:Sc.End} {r:List Sc.End} {a:Int} {ps:List Int} (h1:¬e.1<=a) (h2:e.2=sortI e.2):fP (e::r) a ps=fP r e.1 (ps++e.2):=by
 show(if e.1<=a then none else if e.2≠sortI e.2 then none else fP r e.1 (ps++e.2))=_;rw[yJ h1,yJ (λz=>z h2)]
def Ej {e:Sc.End} {r:List Sc.End} {a:Int} {ps:List Int} (h:e.1<=a\/e.2≠sortI e.2):fP (e::r) a ps=none:=by
 show(if e.1<=a then none else if e.2≠sortI e.2 then none else fP r e.1 (ps++e.2))=_;rcases h with h | h
 ·rw[yK h]
 ·rw[yK h];split <;> rfl
def RA {α:Type} {l:List α} {i:Nat} {x:α} (h:l[i]?=some x):l.drop i=x::l.drop (i+1):=by
 let⟨hi,rfl⟩:=zw.mp h;exact List.drop_eq_getElem_cons hi
inductive tS (vs:List V) (H:Hp) (Q:VK) (E:XK):Prop
 | mk (v:V) (r:Rep) (_:vs=[v]) (_:Is H (i6 r) v) (_:JY r.ends<64) (_:-1000000<=r.times) (_:r.times<=1000000) (_:∀H',aF H H'->Q (.bl (fQ r)) H')
def Ii:cE P w base 1 T.Bz tS:=by
 nomatch T.Bz,["repeat","ends","ahead","passes","end"]
 let⟨v,r,rfl,iv,ht,t0,t1,kk⟩:=h;let sl:=yy;let⟨a,e,rfl,ha,he⟩:=fk iv;unfold Is at he;let⟨e',us,ee,hu,ilu⟩:=he;cases ee;let ul:=aQ ilu;refine{_,(ah (bQ 1 qN (bG (pv 0) aa))
  (ah (aJ (ptr dh (d6 aB T.bE (af (pv 1) ag)) aa)
  (ak (ar mM))
  aA)
  (ah (bQ 2 qN (au gN (bG (pv 0) aa) aa))
  (ah (bQ 3 qN (bg ag))
  (ah (cj yL rfl (iT (pv 1)) (hX 4 qN)
  (ah (aJ (PW.pt (dB (ptr gF (bG (pv 4) aa) (pv 2)) (cY (ptr (sG hr.units) (oA rj T.KH (af (bG (pv 4) aa) ag)) (d6 rg T.Iq (af (bG (pv 4) aa) ag))))))
   (ak (ar mM))
   aA)
   (ah (bQ 2 qN (bG (pv 4) aa))
   (ak (bA (bW yz yY yX pz (pv 3) (af (bG (pv 4) aa) ag)))))))
  (ak (ar (o6 (dw gF (pv 2) (bG (pv 0) aa) (gQ _)) (mK (dw (Fo hr.units) (d6 rg T.Iq (af (pv 3) ag)) (Pg rfl (by rfl) T.KH (by rfl) T.cK (af aa (af (au aR (bG (pv 0) aa) aa) ag))) (gQ _))))))))))),?_}
 ac_rfl;exists e,_,rfl,.inr (bu hu),?_;rw[ul];left
 by_cases h0:⇑r.ends=0
 ·refine bX (by rw[h0];rfl) ?_
  left;let e0:fQ r=true:=by
   unfold fQ;rw[yp.mp h0]
  rw[e0] at kk;exact kk _ (aD _)
 ·refine b7 (zd λz=>h0 (by have:=V.int.inj z;ext)) ?_
  let ef:fQ r=(match fP r.ends (r.first-1) [] with | none=>false | some (a,ps)=>decide (a<=r.last)&&decide (sortI ps=MO 1 (r.times+1-1).toNat)):=by
   unfold fQ;cases q:r.ends with
   | nil=>rw[q] at h0;exact absurd rfl h0
   | cons x xs=>rfl
  rw[ef] at kk;exists by show 0<=sizeLine;decide,?_
  intro pp hn;generalize hG:upd _ pp _=H1;let s1:=aF.Bh hG hn;let h1:=B3 hG;clear hG;exists{_,bu (s1 _ _ hu)},?_;refine L9 (K:=K) (a:=e) (xs:=us) (λi U H'=>aF H H'/\∃(z:Int) (ps:List Int) (u:Option V),U=[some (.ref a),some (.ref e),some (.int z),some (.ref pp),u]/\H' pp=some (.lst (ps.map V.int))/\⇑ps+JY (r.ends.drop i)=JY r.ends/\fP r.ends (r.first-1) []=fP (r.ends.drop i) z ps) {s1,_,[],none,rfl,h1,by simp,rfl} (λi U H' _ h=>bu (h.1 _ _ hu)) ?_ ?_
  ·intro i x U H2 hx hh
   refine cU λN kN0 kR0 _ _=>?_;let⟨s2,z,ps,u,rfl,h2,hc,hgo⟩:=hh;let⟨en,hen,ien⟩:=cN ilu hx;let⟨a6,q6,rfl,h6,h7⟩:=pB (ien.mono s2);let hle:=SH (zA hen);rw[RA hen] at hgo hc;rw[show JY (en::List.drop (i+1) r.ends)=⇑en.2+JY (List.drop (i+1) r.ends) from rfl] at hc;left
   by_cases c1:en.1<=z
   ·refine bX (ze c1) ?_
    rw[hgo,Ej (.inl c1)] at kk;change kk _ s2
   ·refine b7 (zd c1) ?_
    exists q6,_,rfl,.inr (bu h7),?_;intros p8 H8 s8 h8;let h68:=s8 _ _ h6;let h78:=s8 _ _ h7;exists q6,en.2,rfl,.inr (bu h78),(),λns np ns'=>?_;intros p9 H9 s9 h9;let h69:=s9 _ _ h68;let h79:=s9 _ _ h78;let h29:=s9 _ _ (s8 _ _ h2);rw[DP np ns'] at h9;refine{p8,p9,_,_,rfl,rfl,.inl {ao (s9 _ _ h8),ao h9},.inr (.inr {qA _,qA _}),?_};rw[Og]
    by_cases c2:en.2=sortI en.2
    ·rw[ze c2]
     rw[IP c1 c2] at hgo;exists .inl {rfl,_,ao h29},?_;left;refine .inr {pp,q6,_,_,rfl,rfl,h29,h79,by rw[za,za];ext,?_};left;let s29:=(s2.trans s8).trans s9;refine{λb o hb=>?_,en.1,ps++en.2,_,rfl,by rw[aE,zj],by rw[zg];ext,hgo};let ne:b≠pp:=λz=>by rw[z,hn] at hb;cases hb
     rw[aG ne];exact s29 b o hb
    ·rw[zd c2]
     rw[hgo,Ej (.inr c2)] at kk;change kk _ ((s2.trans s8).trans s9)
  ·rintro U H2 ⟨s2,z,ps,u,rfl,h2,hc,hgo⟩
   rw[ul,List.drop_length] at hgo hc;rw[hgo] at kk;let ha2:=s2 _ _ ha;unfold fP at kk;simp only at kk;rw[show JY []=0 from rfl] at hc;left
   by_cases c1:z<=r.last
   ·rw[ze c1,yR] at kk
    refine bX (ze c1) ?_;exists pp,ps,rfl,.inl (ao h2),(),λns np ns'=>?_;intros p9 H9 s9 h9;rw[DP np ns'] at h9;let ha9:=s9 _ _ ha2;exists 1,r.times+1,rfl,{∅,(by decide),(),()},(),?_;intros p10 H10 s10 h10;refine{p9,p10,_,_,rfl,rfl,.inl {ao (s10 _ _ h9),ao h10},.inr (.inr {qA _,qA _}),?_};rw[Og];exact kk _ ((s2.trans s9).trans s10)
   ·rw[zd c1,yP] at kk
    refine b7 (zd c1) ?_;exact kk _ s2
def Ml {xs:List V} {x:V} (h:xs[⇑xs-1]?=some x):vJ xs (-1)=some x:=by
 let hp:0<⇑xs:=by
  have:=(zw.mp h).1;ext
 let ne:xs≠[]:=yo.mp hp;let e:=xR ne;let e2:xs.getLast ne=x:=by
  have:=(zw.mp h).2;rw[List.getLast_eq_getElem];exact this
 rw[<-e,e2];exact L2.B4 _ _
inductive As (K:yx) (vs:List V) (H:Hp) (Q:VK) (E:XK):Prop
 | mk (p:vm) (rs:List Rep) (v:V) (r:Rep) (_:vs=[.ref p,v]) (_:DG K H p rs) (_:Is H (i6 r) v) (_:JY r.ends<64) (_:-1000000<=r.times) (_:r.times<=1000000) (_:∀H',aF H H'->Q (.bl (kE rs r)) H')
def Bc:cE P w base 2 T.mH (As K):=by
 nomatch T.mH,["repeats","repeat"]
 let⟨p,rs,v,r,rfl,⟨vs,hp,il⟩,iv,ht,t0,t1,kk⟩:=h;let⟨a,e,rfl,ha,he⟩:=fk iv;let vl:=aQ il;let tail:(∀H',aF H H'->Q (.bl (decide (r.first<=r.last)&&fQ r)) H')->(if decide (r.first<=r.last)=true then fq tS [] E0 (bD (bc 1) d4) [some (.ref p),some (.ref a)] H Q else Q (.bl false) H):=by
  intro k
  by_cases c:r.first<=r.last
  ·rw[ze c,yR] at k
   refine bX (ze c) ?_;exact{_,rfl,_,r,rfl,iv,ht,t0,t1,k}
  ·rw[zd c,yP] at k
   refine b7 (zd c) ?_;exact k _ (aD _)
 refine{_,(ah (aJ (PW.pt (cZ (ptr d7 (d6 aB T.bE (af (pv 0) ag)) aa) (cS (ptr gF (bG (pv 1) aa) (bG (eM (pv 0) (jy fL aa)) aa)))))
  (ak (ar mM))
  aA)
  (ak (ar (o6 (dw gF (bG (pv 1) aa) (bG (pv 1) aa) (gQ _)) (mK (bJ (Ii T) hr T.Bz (af (pv 1) ag))))))),?_}
 ac_rfl;exists p,_,rfl,.inl hp,?_;rw[vl];left
 by_cases h0:0<⇑rs
 ·refine bX (ze ()) ?_
  let hi:⇑rs-1<⇑vs:=()
  let⟨q,hq,iq⟩:=cN il (zb hi);let⟨b,eb,evb,hb,_⟩:=fk iq;let eg:rs.getLast?=some q:=by rw[wa];exact hq
  unfold kE at kk;rw[eg] at kk;left;refine{p,vs,-1,_,rfl,rfl,hp,Ml (by rw[vl];exact zb hi),?_};rw[evb];left
  by_cases c:r.first<=q.last
  ·refine bX (ze c) ?_
   simp only[yK c] at kk;change kk _ (aD _)
  ·refine b7 (zd c) ?_
   simp only[yJ c] at kk;change tail kk
 ·refine b7 (zd ()) ?_
  let e0:rs=[]:=yp.mp ();unfold kE at kk;rw[e0] at kk;change tail kk
def Ew (x:Sc.N2):Prop:=0<=x.aP.1/\x.aP.1<=1000/\0<x.aP.2/\x.aP.2<=1000
inductive W4 (C:vm) (H:Hp) (a:vm) (o:Ow):Prop
 | mk (ub jm:V) (_:H a=some (.ins C o.dx (QU o ub jm)))
structure VR (C:vm) (H:Hp) (a:vm) (S:cg) (o:Ow):Prop where
 obj:W4 C H a o
 ba:Qu H ji o.ba S.aN
def VR.of {C a:vm} {H:Hp} {S:cg} {o:Ow} (h:bP C H a S o):VR C H a S o:={by let⟨ub,jm,h1,_⟩:=h.obj;exact{(ub),jm,h1},h.ba}
inductive uy (C:vm) (vs:List V) (H:Hp) (Q:VK) (E:XK):Prop
 | mk (a:vm) (S:cg) (o:Ow) (b:Nat) (_:vs=[.ref a,.int b]) (_:VR C H a S o) (_:b<⇑S.aN) (_:(∀x∈S.aN,Ew x)) (_:∀p H',aF H H'->H' p=some (gp (S.aP b))->Q (.ref p) H')
def Ui {H:Hp} {b:Sc.N2} {v:V} (h:Is H (ji b) v):∃a m q,v=.ref a/\H a=some (.tup [.ref m,.int b.key,.ref q])/\H m=some (gp b.aP):=by
 unfold ji Is at h;let⟨a,vs,rfl,ha,hl⟩:=h;unfold aC at hl;let⟨v1,r1,rfl,h1,hl⟩:=hl;unfold aC at hl;let⟨v2,r2,rfl,h2,hl⟩:=hl;unfold aC at hl;let⟨v3,r3,rfl,h3,hl⟩:=hl;unfold aC at hl;subst hl;unfold Is at h2;subst h2;unfold lW Is at h3;let⟨q,us,rfl,hq,hle⟩:=h3;have:=dP (o:=some b.aP) h1;cases this with
 | ref hm=>exact{a,_,q,rfl,ha,hm}
def lR {C:vm} (F:Cf K C):cE P w base 3 T.ia (uy C):=by
 nomatch T.ia,["score","bar","metre"]
 let⟨a,S,o,b,rfl,sc,hb,cx,kk⟩:=h;let⟨ub,jm,ho⟩:=sc.obj;let⟨vs,hv,il⟩:=sc.ba;let hi:b<⇑vs:=by rw[aQ il];exact hb
 let⟨x,hx,ix⟩:=cN il (zb hi);let⟨a1,m,q,ev,h1,hm⟩:=Ui ix;let⟨k1,k2,k3,k4⟩:=cx x (zA hx);unfold cg.aP at kk;rw[hx] at kk;refine{_,(ah (bQ 2 qN (bG (eM (bj (pv 0) rfl) (pv 1)) aa))
  (ak (ar (bJ (iW T) hr T.eJ (af (bG (pv 2) aa) (af (bG (pv 2) aa) ag)))))),?_}
 ac_rfl;exists a,C,o.dx,_,_,rfl,ho,F.cls,F.aN,rfl,?_;left;refine{o.ba,vs,b,_,rfl,rfl,ao hv,bq (zb hi),?_};rw[ev];change{_,_,rfl,k1,k3,(dm (n:=10) () ()).mono ∅,λp H' s' h'=>kk p H' s' h'}
inductive Ar (C:vm) (vs:List V) (H:Hp) (Q:VK) (E:XK):Prop
 | mk (a:vm) (S:cg) (o:Ow) (b:Nat) (_:vs=[.ref a,.int b]) (_:bP C H a S o) (_:b<⇑S.aN) (_:(∀x∈S.aN,Ew x)) (_:∀p H',aF H H'->H' p=some (gp (S.len b))->Q (.ref p) H')
def iV {C:vm} (F:Cf K C):cE P w base 4 T.gC (Ar C):=by
 nomatch T.gC,["score","bar"]
 let⟨a,S,o,b,rfl,sc,hb,cx,kk⟩:=h;let⟨ub,jm,ho,hub,hjm⟩:=sc.obj;unfold cg.len at kk;refine{_,(ah (aJ (PW.pt (cZ (ptr dh (pv 1) aa) (cS (bC (eQ (bj (pv 0) rfl))))))
  (ak (ar (bj (pv 0) rfl)))
  aA)
  (ak (ar (bJ (lR T F) hr T.ia (af (pv 0) (af (pv 1) ag)))))),?_}
 ac_rfl;left
 by_cases c:b=0
 ·refine bX (by rw[c];rfl) ?_
  exists a,C,o.dx,_,_,rfl,ho,F.cls,F.aK,rfl,?_;cases q:S.aK with
  | none=>
   rw[q] at kk hub;unfold dO Is at hub;subst hub;change{a,S,o,b,rfl,.of sc,hb,cx,kk}
  | some u=>
   rw[q] at kk hub;cases dP (o:=some u) hub with
   | ref hu=>
    exists a,C,o.dx,_,_,rfl,ho,F.cls,F.aK,rfl,?_;refine kk _ _ (aD _) ?_;simp only[yK c];exact hu
 ·refine b7 (zd λz=>c (by have:=V.int.inj z;ext)) ?_
  left;refine{a,S,o,b,rfl,.of sc,hb,cx,λp H' s' h'=>kk p H' s' ?_};cases q:S.aK with
  | none=>exact h'
  | some u=>simp only[yJ c];exact h'
theorem iZ (n:Str):∀ns:List Str,FJ (.str n) (ns.map V.str)=decide (n∈ns)
 | []=>rfl
 | m::ns=>by
  let ih:=iZ n ns;unfold FJ at ih ⊢;rw[zh,xk,ih];show((m == n)||decide (n∈ns))=decide (n∈m::ns)
  by_cases e:n=m
  ·subst e
   simp
  ·let e':¬m=n:=λz=>e z.symm
   simp[e,e']
theorem gi:∀ns:List Str,(ns.map V.str).all lV=true
 | []=>rfl
 | n::ns=>by rw[zh,wL,gi ns];rfl
inductive e9 (C:vm) (D:Hp->V->cg->Option Str->Prop) (vs:List V) (H:Hp) (Q:VK) (E:XK):Prop
 | mk (a:vm) (S:cg) (o:Ow) (v:V) (f:Option Str) (_:vs=[.ref a,v]) (_:bP C H a S o) (_:D H v S f) (_:∀H',aF H H'->Q (os f) H')
def lM (C:vm):Sp:=e9 C λ_ v S f=>∃n,v=.str n/\f=bY S (.bO n)
def uV {C:vm} (F:Cf K C):cE P w base 1 T.hV (lM C):=by
 nomatch T.hV,["score","player"]
 let⟨a,S,o,v,f,rfl,sc,⟨n,rfl,rfl⟩,kk⟩:=h;let⟨ub,jm,ho,hub,hjm⟩:=sc.obj;let k:=kk H (aD H);unfold bY at k;dsimp only at k;refine{_,(ah (aJ (gr iG (pv 1) (bj (pv 0) rfl) (by with_unfolding_all rfl))
  (ak (ar aL))
  aA)
  (ah (aJ (ptr Ba (d6 aB T.bE (af (bj (pv 0) rfl) ag)) (bM (v:=.int (12)) (by rfl) T.BY {_,rfl}))
  (ak (ar aL))
  aA)
  (ak (ar aV)))),?_}
 ac_rfl;exists a,C,o.dx,_,_,rfl,ho,F.cls,F.az,rfl,?_;refine{o.pl,_,rfl,.inl (ao sc.pl),rfl,gi _,?_};show∃k,V.bl (FJ (.str n) (S.az.map V.str))=.bl k/\_;rw[iZ]
 by_cases c1:n∈S.az
 ·rw[ze c1]
  rw[yK c1] at k;change k
 ·rw[zd c1]
  rw[yJ c1] at k;exists a,C,o.dx,_,_,rfl,ho,F.cls,F.az,rfl,?_;exists o.pl,_,rfl,.inl (ao sc.pl),?_;rw[za];left
  by_cases c2:12<=⇑S.az
  ·refine bX (ze ()) ?_
   rw[yK c2] at k;change k
  ·refine b7 (zd ()) ?_
   rw[yJ c2] at k;change k
def pV (C:vm):Sp:=e9 C λ_ _ S f=>∃b,f=bY S (.bar b)
def FC {C:vm} (F:Cf K C):cE P w base 1 T.nT (pV C):=by
 nomatch T.nT,["score","told"]
 let⟨a,S,o,v,f,rfl,sc,⟨b,rfl⟩,kk⟩:=h;let⟨ub,jm,ho,hub,hjm⟩:=sc.obj;let⟨vs,hv,il⟩:=sc.ba;let vl:=aQ il;let k:=kk H (aD H);unfold bY at k;dsimp only at k;refine{_,(ah (aJ (ptr Ba (d6 aB T.bE (af (bj (pv 0) rfl) ag)) (bM (v:=.int (200)) (by rfl) T.Jo {_,rfl}))
  (ak (ar aL))
  aA)
  (ak (ar aV))),?_}
 ac_rfl;exists a,C,o.dx,_,_,rfl,ho,F.cls,F.aN,rfl,?_;exists o.ba,_,rfl,.inl (ao hv),?_;rw[vl];left
 by_cases c2:200<=⇑S.aN
 ·refine bX (ze ()) ?_
  rw[yK c2] at k;change k
 ·refine b7 (zd ()) ?_
  rw[yJ c2] at k;change k
theorem pS (n:Str):∀{ks:List Str} {vs:List V},⇑vs=⇑ks->(cV ((ks.map kS).zip vs) (kS n)).isSome=decide (n∈ks)
 | [],_,_=>by simp[cV]
 | k::ks,[],h=>by simp at h
 | k::ks,v::vs,h=>by
  let ih:=pS n (ks:=ks) (vs:=vs) (by simpa using h);rw[zh,yS];unfold cV at ih ⊢;rw[yO]
  by_cases e:k=n
  ·subst e
   simp
  ·let e1:¬kS k=kS n:=λz=>e (wM z)
   let e2:¬n=k:=λz=>e z.symm;simp only[e1,decide_false] at ih ⊢;rw[ih];simp[e2]
def gX (C:vm):Sp:=e9 C λH v S f=>∃x,Is H (eC x) v/\f=bY S (.cJ x.1 x.2.1 x.2.2)
def IB {H:Hp} {x:Str×(Int×Int)×(Int×Int)} {v:V} (h:Is H (eC x) v):∃a t l,v=.ref a/\H a=some (.tup [.str x.1,t,l])/\Is H (dL x.2.1) t/\Is H (dL x.2.2) l:=by
 unfold eC Is at h;let⟨a,vs,rfl,ha,hl⟩:=h;unfold aC at hl;let⟨v1,r1,rfl,h1,hl⟩:=hl;unfold aC at hl;let⟨v2,r2,rfl,h2,hl⟩:=hl;unfold aC at hl;let⟨v3,r3,rfl,h3,hl⟩:=hl;unfold aC at hl;subst hl;unfold Is at h1;subst h1;exact{(a),v2,v3,rfl,ha,h2,h3}
def oa {C:vm} (F:Cf K C):cE P w base 1 T.eT (gX C):=by
 nomatch T.eT,["score","told"]
 let⟨a,S,o,v,f,rfl,sc,⟨x,iv,rfl⟩,kk⟩:=h;let⟨ub,jm,ho,hub,hjm⟩:=sc.obj;let⟨vs,hv,il⟩:=sc.ins;let⟨a1,t,l,rfl,h1,_,_⟩:=IB iv;let vl:=aQ il;let em:(S.aq.map λx=>kS x.1)=(S.aq.map (·.1)).map kS:=by rw[zz];rfl
 let k:=kk H (aD H);unfold bY at k;dsimp only at k;refine{_,(ah (aJ (bC (Fm (fB hr) (bG (pv 1) aa) (bj (pv 0) rfl)))
  (ak (ar aL))
  aA)
  (ah (aJ (ptr Ba (d6 Ln T.bE (af (bj (pv 0) rfl) ag)) (bM (v:=.int (12)) (by rfl) T.pI {_,rfl}))
  (ak (ar aL))
  aA)
  (ak (ar aV)))),?_}
 ac_rfl;exists a,C,o.dx,_,_,rfl,ho,F.cls,F.aq,rfl,?_;refine{o.ins,_,rfl,.inl {_,kS x.1,.inl hv,rfl,rfl},?_};rw[em,pS x.1 (by rw[za];exact vl)];left
 by_cases c1:x.1∈S.aq.map (·.1)
 ·rw[ze c1]
  rw[yK c1] at k;change k
 ·rw[zd c1]
  rw[yJ c1] at k;exists a,C,o.dx,_,_,rfl,ho,F.cls,F.aq,rfl,?_;exists o.ins,_,rfl,hv,?_;rw[xu,za,vl,Nat.min_self];left
  by_cases c2:12<=⇑S.aq
  ·refine bX (ze ()) ?_
   rw[yK c2] at k;change k
  ·refine b7 (zd ()) ?_
   rw[yJ c2] at k;change k
inductive G6 (K:yx) (C:vm) (vs:List V) (H:Hp) (Q:VK) (E:XK):Prop
 | mk (a p:vm) (S:cg) (o:Ow) (bs:List Int) (_:vs=[.ref a,.ref p]) (_:bP C H a S o) (_:fi K H p (bs.map V.int)) (_:⇑bs<=1000000) (_:∀H',aF H H'->Q (.bl (S.has bs)) H')
def jz {C:vm} (F:Cf K C):cE P w base 1 T.kc (G6 K C):=by
 nomatch T.kc,["score","bars"]
 let⟨a,p,S,o,bs,rfl,sc,hp,hl,kk⟩:=h;let sl:=yy;refine{_,(ak (ar (d6 (nS rfl) T.L0 (af (mq (ts:=["bar"]) (ys:=["score"]) (js:=[0]) (te:=(fj (tW λi j=>.bl (decide (i<j))) (bc 0) (N3 (Wz K) (bD (QL K (bc 1) "bars") d4)))) (bH (pv 1)) (f9 0) bB (dw eI (pv 0) (d6 aB T.bE (af (bj (pv 1) rfl) ag)) (gQ _))) ag)))),?_};ac_rfl;exists{_,hp},?_;refine fF (enc:=V.int) (ws:=bs) (λz=>.bl (decide (z<(⇑S.aN:Int)))) (λU=>∃v,U=[v,some (.ref a)]) () hp {(none),rfl} ?_ ?_
 ·rintro z U H1 R hz s1 ⟨_,rfl⟩ r
  let sc1:=sc.mono s1;let⟨ub,jm,ho,hub,hjm⟩:=sc1.obj;let⟨vs,hv,il⟩:=sc1.ba;let vl:=aQ il;exists a,C,o.dx,_,_,rfl,ho,F.cls,F.aN,rfl,?_;exists o.ba,vs,rfl,.inl (ao hv),?_;rw[vl];change r _ _ _ (aD _) (by unfold Is;rfl) {_,rfl}
 ·intro D vs H1 s1 hD il
  let e:bs.map (λz=>Dt.bl (decide (z<(⇑S.aN:Int))))=(bs.map λz=>decide (z<(⇑S.aN:Int))).map Dt.bl:=by rw[zz];rfl
  rw[e] at il;rw[jN il] at hD;refine{D,_,rfl,ao hD,?_};let e2:(bs.map λz=>decide (z<(⇑S.aN:Int))).all id=S.has bs:=by rw[x6];rfl
  rw[e2];exact kk _ s1
inductive uz (K:yx) (vs:List V) (H:Hp) (Q:VK) (E:XK):Prop
 | mk (p:vm) (us:List V) (its:List Item) (_:vs=[.ref p]) (_:fi K H p us) (_:aC H (its.map dN) us) (_:⇑its<=500) (_:(∀it∈its,QD it.2)) (_:∀r H',aF H H'->H' r=some (gp (jJ its))->Q (.ref r) H')
def rK (l:List Item) (it:Item):jJ (l++[it])=add (jJ l) it.2:=by unfold jJ;rw[zW];rfl
def uW:cE P w base 4 T.kT (uz K):=by
 nomatch T.kT,["items","length","item"]
 let⟨p,us,its,rfl,hp,il,hl,cx,kk⟩:=h;let sl:=yy;let ul:=aQ il;refine{_,(ah (bQ 1 qN (aW (af aa (af aa ag))))
  (ah (cj yL rfl (bH (pv 0)) (hX 2 qN)
  (ak (bQ 1 qN (bJ (Pp T) hr T.added (af (pv 1) (af (bG (pv 2) aa) ag))))))
  (ak (ar (pv 1))))),?_}
 ac_rfl;exists bK,?_;intros p1 H1 s1 h1;exists{_,s1.seq hp},?_;refine dJ (K:=K) (a:=p) (xs:=us) (λi U H'=>aF H H'/\∃q v,U=[some (.ref p),some (.ref q),v]/\H' q=some (gp (jJ (its.take i)))/\Lm.Rd (jJ (its.take i))/\Cp (15*i+1) (jJ (its.take i))) {s1,p1,none,rfl,h1,?_,?_} (λi U H' _ h=>h.1.seq hp) ?_ ?_
 ·exact Lm.Rd.zero
 ·show Cp 1 (0,1)
  exact{dm ∅ ∅,dm ∅ ∅}
 ·rintro i x U H2 hx ⟨s2,q,v,rfl,hq,rq,zq⟩
  let⟨it,hit,iit⟩:=cN il hx;let⟨a6,pv,lv,rfl,h6,_,i8⟩:=item_at (iit.mono s2);let hi:i<⇑its:=(zw.mp hit).1;let⟨ok1,VO,Xc,ok4⟩:=cx it (zA hit);cases dP (o:=some it.2) i8 with
  | ref h8=>
   let zi:Cp 14 it.2:={dm () (),dm (by have:=ok1.pos;ext) ()}
   exists _,_,_,_,_,_,rfl,hq,h8,rq,ok1,zq,zi,(),λr H3 s3 h3=>?_;let e:=dr hit;refine{s2.trans s3,r,_,rfl,?_,?_,?_}
   ·rw[e,rK];exact h3
   ·rw[e,rK];exact rq.add ok1
   ·rw[e,rK];exact{(Cp.add rq ok1 zq zi).1.mono (),(Cp.add rq ok1 zq zi).2.mono ()}
 ·rintro U H2 ⟨s2,q,v,rfl,hq,_,_⟩
  rw[ul,zL] at hq;change kk _ _ s2 hq
def GB (S:cg):Prop:=∀r∈S.aH,⇑r.ends<=1000000
def ox (C:vm):Sp:=e9 C λH v S f=>∃j,Is H (i7 j) v/\GB S/\f=bY S (.bU j)
def II {l:List V} {i:Nat} {x:V} (h:l[i]?=some x):(l.take (i+1)).filter (λv=>!gc v)=(l.take i).filter (λv=>!gc v)++(if gc x=true then [] else [x]):=by
 rw[dr h,yT];cases q:gc x with
 | true=>simp[q]
 | false=>simp[q]
def C4 {C:vm} (F:Cf K C):cE P w base 5 T.kR (ox C):=by
 nomatch T.kR,["score","jump"]
 let⟨a,S,o,v,f,rfl,sc,⟨j,iv,rok,rfl⟩,kk⟩:=h;let sl:=yy;let⟨ub,jm,ho,hub,hjm⟩:=sc.obj;let⟨vs,hv,il⟩:=sc.re;let⟨a1,rfl,h1⟩:=qM iv;unfold bY at kk;dsimp only at kk;refine{_,(ah (aJ (bC (eQ (bj (pv 0) rfl)))
  (ak (ar aL))
  aA)
  (ah (aJ (eA (cB (bJ (jz T F) hr T.kc (af (pv 0) (af (mq (ts:=["bar"]) (ys:=[]) (js:=[]) (g:=(cz 0)) (tc:=(tB (Oy (bc 0)))) (te:=(bc 0)) (iT (pv 1)) (f9 0) (gs (bC (eQ (pv 0)))) (pv 0)) ag)))))
  (ak (ar aL))
  aA)
  (ah (aJ (eA (cB (bJ (Fw T) hr T.sX (af (bj (pv 0) rfl) (af (pv 1) ag)))))
  (ak (ar aL))
  aA)
  (ak (ar aV))))),?_}
 ac_rfl;exists a,C,o.dx,_,_,rfl,ho,F.cls,F.bU,rfl,?_;cases q:S.bU with
 | some j'=>
  rw[q] at hjm kk;let⟨a2,rfl,_⟩:=qM hjm;change kk _ (aD _)
 | none=>
  rw[q] at hjm kk;unfold dO Is at hjm;subst hjm;rw[yJ ∅] at kk;exists{_,bu h1},?_;generalize hw:[V.int j.vq,V.int j.Bm,V.int j.dn,ov j.fJ]=ws at h1;let wl:⇑ws=4:=by rw[<-hw];rfl
  refine ra ⇑ws (λi=>(ws.take i).filter λv=>!gc v) (λi U H'=>H'=H/\∃v,U=[v]) (λi hi=>zK (xa _ _) (by rw[zO];ext)) () rfl {(rfl),none,rfl} ?_ ?_ ?_ ?_
  ·rintro i U H' hi ⟨rfl,_⟩
   exact KS (bu h1) hi
  ·rintro U H' ⟨rfl,_⟩
   exact{_,bu h1,zk _}
  ·rintro i x U H' H2 hi ⟨rfl,v,rfl⟩ ⟨rfl,hy⟩
   let hx:=hy _ (bu h1);left
   by_cases e:x=.bN
   ·refine b7 (by rw[ze e];rfl) ?_
    refine NZ.skip hi ?_ {rfl,_,rfl};show List.filter _ (List.take (i+1) ws)=List.filter _ (List.take i ws);rw[II hx,yK (show gc x=true from ze e),zT]
   ·refine bX (by rw[zd e];rfl) ?_
    left;refine NZ.push hi ?_ {rfl,_,rfl};show List.filter _ (List.take (i+1) ws)=List.filter _ (List.take i ws)++[x];rw[II hx,yJ (by unfold gc;rw[zd e];decide)]
  ·rintro U H' ⟨rfl,_⟩
   rw[zL];let ef:(ws.filter λv=>!gc v)=([j.vq,j.Bm,j.dn]++j.fJ.toList).map V.int:=by
    rw[<-hw];cases j.fJ <;> rfl
   rw[ef];intros D H2 s2 h2;refine{a,D,S,o,_,rfl,sc.mono s2,ao h2,?_,λH3 s3=>?_}
   ·cases j.fJ <;> simp
   ·cases qb:S.has ([j.vq,j.Bm,j.dn]++j.fJ.toList) with
    | false=>
     rw[qb] at kk;change kk _ (s2.trans s3)
    | true=>
     rw[qb,yJ (by simp)] at kk;let s03:=s2.trans s3;let sc3:=sc.mono s03;exists a,C,o.dx,_,_,rfl,s03 _ _ ho,F.cls,F.aH,rfl,?_;exists o.re,S.aH,_,j,rfl,{vs,ao (s03 _ _ hv),il.mono s03},rok,iv.mono s03,λH4 s4=>?_;cases qj:gI S.aH j with
     | false=>
      rw[qj] at kk;change kk _ (s03.trans s4)
     | true=>
      rw[qj,yJ (by simp)] at kk;change kk _ (s03.trans s4)
def lL (C:vm):Sp:=e9 C λH v S f=>∃r:Rep,Is H (i6 r) v/\JY r.ends<64/\⇑r.ends<=1000/\-1000000<=r.times/\r.times<=1000000/\f=bY S (.rep r)
def uU {C:vm} (F:Cf K C):cE P w base 3 T.g9 (lL C):=by
 nomatch T.g9,["score","repeat"]
 let⟨a,S,o,v,f,rfl,sc,⟨r,iv,ht,hl,t0,t1,rfl⟩,kk⟩:=h;let sl:=yy;let⟨ub,jm,ho,hub,hjm⟩:=sc.obj;let⟨vs,hv,il⟩:=sc.re;let vl:=aQ il;let⟨a1,e,rfl,h1,he⟩:=fk iv;unfold Is at he;let⟨e',us,ee,hu,ilu⟩:=he;cases ee;unfold bY at kk;dsimp only at kk;refine{_,(ah (aJ (eA (cB (bJ (jz T F) hr T.kc (af (pv 0) (af (au gw (bg (af (bG (pv 1) aa) (af (bG (pv 1) aa) ag))) (mq (ts:=["end"]) (ys:=[]) (js:=[]) (te:=(fj (mI K) (bc 0) (tC (.int (0))))) (iT (bG (pv 1) aa)) (f9 0) bB (bG (pv 0) aa))) ag)))))
  (ak (ar aL))
  aA)
  (ah (aJ (PW.pt (dB (bC (eQ (bj (pv 0) rfl))) (cY (eA (cB (bJ (Bc T) hr T.mH (af (bj (pv 0) rfl) (af (pv 1) ag))))))))
  (ak (ar aL))
  aA)
  (ah (aJ (ptr Ba (d6 aB T.bE (af (bj (pv 0) rfl) ag)) (bM (v:=.int (20)) (by rfl) T.BX {_,rfl}))
  (ak (ar aL))
  aA)
  (ak (ar aV))))),?_}
 ac_rfl;exists bK,?_;intros p2 H2 s2 h2;let h12:=s2 _ _ h1;exists{_,bu (s2 _ _ hu)},?_;let⟨ps,f1,f2,f3⟩:=kU ilu;let pl:⇑ps<=1000:=by
  have:⇑ps=⇑r.ends:=by rw[<-f1,za]
  ext
 refine fm (enc:=λz:Sc.End×V=>z.2) (ws:=ps) (λz=>.int z.1.1) (λU=>∃v,U=[v]) () (by rw[f2];exact s2 _ _ hu) {(none),rfl} ?_ ?_
 ·rintro z U H6 R' hz s6 ⟨_,rfl⟩ r'
  let⟨a6,q6,ev,h6,h7⟩:=pB (f3 z hz);rw[ev];let h66:=s6 _ _ (s2 _ _ h6);change r' _ _ _ (aD _) cH {_,rfl}
 ·intro D vs5 H3 s3 hD il5
  let e5:ps.map (λz=>Dt.int z.1.1)=(r.ends.map (·.1)).map Dt.int:=by rw[<-f1,zz,zz];rfl
  rw[e5] at il5;rw[eD il5] at hD;refine{p2,D,_,_,rfl,rfl,ao (s3 _ _ h2),ao hD,by rw[za,za];show 2+_<=_;ext,?_};rw[show [V.int r.first,V.int r.last]++List.map V.int (r.ends.map (·.1))=([r.first,r.last]++r.ends.map (·.1)).map V.int from by rw[zj];rfl];intros p4 H4 s4 h4;let s04:=(s2.trans s3).trans s4;refine{a,p4,S,o,_,rfl,sc.mono s04,ao h4,by rw[zg,za];show 2+_<=_;ext,λH5 s5=>?_};let s05:=s04.trans s5;cases qb:S.has ([r.first,r.last]++r.ends.map (·.1)) with
  | false=>
   rw[qb] at kk;change kk _ s05
  | true=>
   rw[qb,yJ (by simp)] at kk;exists a,C,o.dx,_,_,rfl,s05 _ _ ho,F.cls,F.bU,rfl,?_;cases q:S.bU with
   | some j'=>
    rw[q] at hjm kk;let⟨a2,rfl,_⟩:=qM hjm;change kk _ s05
   | none=>
    rw[q] at hjm kk;unfold dO Is at hjm;subst hjm;rw[yJ ∅] at kk;exists a,C,o.dx,_,_,rfl,s05 _ _ ho,F.cls,F.aH,rfl,?_;exists o.re,S.aH,_,r,rfl,{vs,ao (s05 _ _ hv),il.mono s05},iv.mono s05,ht,t0,t1,λH6 s6=>?_;let s06:=s05.trans s6;cases qj:kE S.aH r with
    | false=>
     rw[qj] at kk;change kk _ s06
    | true=>
     rw[qj,yJ (by simp)] at kk;exists a,C,o.dx,_,_,rfl,s06 _ _ ho,F.cls,F.aH,rfl,?_;exists o.re,vs,rfl,.inl (ao (s06 _ _ hv)),?_;rw[vl];left
     by_cases c2:20<=⇑S.aH
     ·refine bX (ze ()) ?_
      rw[yK c2] at kk;change kk _ s06
     ·refine b7 (zd ()) ?_
      rw[yJ c2] at kk;change kk _ s06
theorem Af (n:Int×Str):∀{ks:List (Int×Str)} {vs:List V},⇑vs=⇑ks->(cV ((ks.map kN).zip vs) (kN n)).isSome=decide (n∈ks)
 | [],_,_=>by simp[cV]
 | k::ks,[],h=>by simp at h
 | k::ks,v::vs,h=>by
  let ih:=Af n (ks:=ks) (vs:=vs) (by simpa using h);rw[zh,yS];unfold cV at ih ⊢;rw[yO]
  by_cases e:k=n
  ·subst e
   simp
  ·let e1:¬kN k=kN n:=λz=>e (by
    unfold kN at z;simp at z;exact Prod.ext z.1 z.2)
   let e2:¬n=k:=λz=>e z.symm;simp only[e1,decide_false] at ih ⊢;rw[ih];simp[e2]
theorem iH {α:Type} {d:α->Dt} {H:Hp}:∀{ls:List (List α)} {as:List vm},b8 H d ls as->⇑as=⇑ls
 | [],_,h=>by unfold b8 at h;rw[h];rfl
 | l::r,_,⟨a,t,vs,e,_,_,h3⟩=>by rw[e,zt,zt,iH h3]
def Rf {x y:Int×Int}:decide ([V.int x.1,V.int x.2]=[V.int y.1,V.int y.2])=decide (x=y):=by
 by_cases h:x=y
 ·subst h;simp
 ·rw[zd h,zd]
  intro z;simp at z;exact h (Prod.ext z.1 z.2)
def mF (C:vm):Sp:=e9 C λH v S f=>∃x:Int×Str×List Item,Mo H v x/\0<=x.1/\⇑x.2.2<=500/\(∀it∈x.2.2,QD it.2)/\(∀b∈S.aN,Ew b)/\f=bY S (.aI x.1 x.2.1 x.2.2)
def Bg {C:vm} (F:Cf K C):cE P w base 5 T.jA (mF C):=by
 nomatch T.jA,["score","told","bar","player","items"]
 let⟨a,S,o,v,f,rfl,sc,⟨⟨b,pn,its⟩,⟨a1,q,us,rfl,h1,hq,ilq⟩,b0,il5,iok,bok,rfl⟩,kk⟩:=h;let sl:=yy;let⟨ub,jm,ho,hub,hjm⟩:=sc.obj;let nl:⇑(o.ns.map V.ref)=⇑(S.aI.map (·.1)):=by rw[za,za,iH sc.no.2,za]
 let em:(S.aI.map λx=>kN x.1)=(S.aI.map (·.1)).map kN:=by rw[zz];rfl
 unfold bY at kk;dsimp only at kk h1 b0 il5 iok ilq;refine{_,(ah (bQ 2 qN (bG (pv 1) aa))
  (ah (bQ 3 qN (bG (pv 1) aa))
  (ah (bQ 4 qN (bG (pv 1) aa))
  (ah (aJ (bC (Fm (fB hr) (aW (af (pv 2) (af (pv 3) ag))) (bj (pv 0) rfl)))
  (ak (ar aL))
  aA)
  (ah (aJ (gr dQ (pv 3) (bj (pv 0) rfl) (by with_unfolding_all rfl))
  (ak (ar aL))
  aA)
  (ah (aJ (eA (cB (bJ (jz T F) hr T.kc (af (pv 0) (af (bg (af (pv 2) ag)) ag)))))
  (ak (ar aL))
  aA)
  (ah (aJ (ptr (sG hr.units) (bJ (uW T) hr T.kT (af (pv 4) ag)) (bJ (iV T F) hr T.gC (af (pv 0) (af (pv 2) ag))))
  (ak (ar aL))
  aA)
  (ah (aJ (ptr d7 (d6 aB T.bE (af (pv 4) ag)) (bM (v:=.int (40)) (by rfl) T.Ge {_,rfl}))
  (ak (ar aL))
  aA)
  (ak (ar aV)))))))))),?_}
 ac_rfl;exists bK,?_;intros p2 H2 s2 h2;let h12:=s2 _ _ h1;exists a,C,o.dx,_,_,rfl,s2 _ _ ho,F.cls,F.aI,rfl,?_;refine{o.no,_,rfl,.inr {_,kN (b,pn),p2,.inl (s2 _ _ sc.no.1),rfl,h2,rfl},?_};rw[em,Af (b,pn) nl];left
 by_cases c1:(b,pn)∈S.aI.map (·.1)
 ·rw[ze c1]
  rw[yK c1] at kk;change kk _ s2
 ·rw[zd c1]
  rw[yJ c1] at kk;exists a,C,o.dx,_,_,rfl,s2 _ _ ho,F.cls,F.az,rfl,?_;refine{o.pl,_,rfl,.inl (ao (s2 _ _ sc.pl)),rfl,gi _,?_};show∃k,V.bl (!FJ (.str pn) (S.az.map V.str))=.bl k/\_;rw[iZ]
  by_cases c2:pn∈S.az
  ·rw[ze c2]
   rw[yJ (λz=>z c2)] at kk;exists by show 1<=sizeLine;decide,?_
   intros p3 H3 s3 h3;refine{a,p3,S,o,[b],rfl,sc.mono (s2.trans s3),ao h3,(by show 1<=1000000;decide),λH4 s4=>?_};let s04:=(s2.trans s3).trans s4;cases qb:S.has [b] with
   | false=>
    rw[qb] at kk;change kk _ s04
   | true=>
    rw[qb,yJ (by simp)] at kk;let hb:b<⇑S.aN:=by
     unfold cg.has at qb
     simpa using qb
    let⟨n,rfl⟩:=yH b0;exists q,us,its,rfl,ao (s04 _ _ hq),ilq.mono s04,il5,iok,λr5 H5 s5 h5=>?_;exists a,S,o,n,rfl,sc.mono (s04.trans s5),(),bok,λr6 H6 s6 h6=>?_;let s06:=(s04.trans s5).trans s6;refine{r5,r6,_,_,rfl,rfl,.inr {bu (s6 _ _ h5),bu h6},.inr (.inr {(rfl),rfl}),?_};rw[Rf]
    by_cases c3:jJ its=S.len n
    ·rw[ze c3]
     rw[yJ (λz=>z c3)] at kk;exists q,us,rfl,.inl (ao (s06 _ _ hq)),?_;rw[aQ ilq];left
     by_cases c4:40<⇑its
     ·refine bX (ze ()) ?_
      rw[yK c4] at kk;change kk _ s06
     ·refine b7 (zd ()) ?_
      rw[yJ c4] at kk;change kk _ s06
    ·rw[zd c3]
     rw[yK (show jJ its≠S.len ((n:Int)).toNat from c3)] at kk;change kk _ s06
  ·rw[zd c2]
   rw[yK c2] at kk;change kk _ s2
def both {c:Bool} {T:(Bool->Hp->Prop)->Prop} {Z:Bool->Hp->Prop} {H:Hp} (v:Bool) (h1:c=true->∀Z,Z v H->T Z) (h2:c=false->v=false) (hz:Z v H):if c=true then T Z else Z false H:=by
 cases c with
 | true=>rw[yK rfl];exact h1 rfl Z hz
 | false=>rw[yJ (by simp)];rw[<-h2 rfl];exact hz
theorem nO {H:Hp} {α:Type} {d:α->Dt} (p:Str):∀{hs:List (Str×List α)} {as:List vm},b8 H d (hs.map (·.2)) as->
  (hs.lookup p=none/\cV ((hs.map λx=>kS x.1).zip (as.map V.ref)) (kS p)=none)\/∃l h vs,hs.lookup p=some l/\cV ((hs.map λx=>kS x.1).zip (as.map V.ref)) (kS p)=some (.ref h)/\H h=some (.lst vs)/\aC H (l.map d) vs
 | [],_,h=>.inl {rfl,by simp[cV]}
 | (x,l)::r,as,h=>by
  rw[zh] at h;unfold b8 at h;let⟨a,t,vs,rfl,h1,h2,h3⟩:=h;rw[zh,zh,yS]
  by_cases e:x=p
  ·subst e
   refine .inr {l,a,vs,by rw[yn,x8],?_,h1,h2};unfold cV;rw[yO];simp
  ·let e1:¬kS x=kS p:=λz=>e (wM z)
   let e2:(p == x)=false:=by simp;exact λz=>e z.symm
   let ih:=nO p h3;unfold cV at ih ⊢;rw[yO,yn,e2];simp only[e1,decide_false];exact ih
def PV {H:Hp} {x:Int×Str} {v:V} (h:Is H (JM x) v):∃a,v=.ref a/\H a=some (.tup [.int x.1,.str x.2]):=by
 unfold JM Is at h;let⟨a,vs,rfl,ha,hl⟩:=h;unfold aC at hl;let⟨v1,r1,rfl,h1,hl⟩:=hl;unfold aC at hl;let⟨v2,r2,rfl,h2,hl⟩:=hl;unfold aC at hl;subst hl;unfold Is at h1 h2;subst h1 h2;exact{(a),rfl,ha}
def L8 {H:Hp} {x:Str×Int×Str} {v:V} (h:Is H (uj x) v):∃a,v=.ref a/\H a=some (.tup [.str x.1,.int x.2.1,.str x.2.2]):=by
 unfold uj Is at h;let⟨a,vs,rfl,ha,hl⟩:=h;unfold aC at hl;let⟨v1,r1,rfl,h1,hl⟩:=hl;unfold aC at hl;let⟨v2,r2,rfl,h2,hl⟩:=hl;unfold aC at hl;let⟨v3,r3,rfl,h3,hl⟩:=hl;unfold aC at hl;subst hl;unfold Is at h1 h2 h3;subst h1 h2 h3;exact{(a),rfl,ha}
def oy (C:vm):Sp:=e9 C λH v S f=>∃x:Str×Int×Str,Is H (uj x) v/\f=bY S (.holds x.1 x.2.1 x.2.2)
def C5 {C:vm} (F:Cf K C):cE P w base 3 T.kX (oy C):=by
 nomatch T.kX,["score","told","bar","holds"]
 let⟨a,S,o,v,f,rfl,sc,⟨⟨pn,b,iN⟩,hd,rfl⟩,kk⟩:=h;let⟨a1,rfl,h1⟩:=L8 hd;let sl:=yy;let⟨ub,jm,ho,hub,hjm⟩:=sc.obj;unfold bY at kk;dsimp only at kk h1;refine{_,(ah (bQ 2 qN (bG (pv 1) aa))
  (ah (bQ 3 qN (A6 (fB hr) (bj (pv 0) rfl) (bG (pv 1) aa) (bg ag) {(rfl),rfl,rfl,rfl}))
  (ah (aJ (PW.pt (cZ (ptr d7 (d6 aB T.bE (af (pv 3) ag)) aa) (cS (ptr gF (pv 2) (bG (eM (pv 3) (jy fL aa)) aa)))))
  (ak (ar aL))
  aA)
  (ah (aJ (PW.pt (dB (gr dQ (bG (pv 1) aa) (bj (pv 0) rfl) (by with_unfolding_all rfl)) (cY (bC (sF (fB hr) (bG (pv 1) aa) (bj (pv 0) rfl))))))
  (ak (ar aL))
  aA)
  (ah (aJ (eA (cB (bJ (jz T F) hr T.kc (af (pv 0) (af (bg (af (pv 2) ag)) ag)))))
  (ak (ar aL))
  aA)
  (ah (aJ (ptr Ba (d6 aB T.bE (af (pv 3) ag)) (bM (v:=.int (20)) (by rfl) T.Gf {_,rfl}))
  (ak (ar aL))
  aA)
  (ak (ar aV)))))))),?_}
 ac_rfl;exists a,C,o.dx,_,_,rfl,ho,F.cls,F.holds,rfl,?_;refine{o.ho,rfl,.inl {_,.inl sc.ho.1},?_};exists by show 0<=sizeLine;decide,?_
 intros p2 H2 s2 h2;let h12:=s2 _ _ h1;refine{_,.inl {_,kS pn,.inl (s2 _ _ sc.ho.1),rfl,rfl},?_};obtain⟨h,vs,l,eh,hh,ilh,el⟩:∃h vs l,(cV ((S.holds.map λx=>kS x.1).zip (o.hs.map V.ref)) (kS pn)).getD (.ref p2)=.ref h/\H2 h=some (.lst vs)/\aC H2 (l.map JM) vs/\(S.holds.lookup pn).getD []=l:=by
  rcases nO (H:=H) pn sc.ho.2 with⟨e1,e2⟩ | ⟨l,h,vs,e1,e2,hh,il⟩
  ·exact{p2,[],[],by rw[e2];rfl,h2,by unfold aC;rfl,by rw[e1];rfl}
  ·exact{h,vs,l,by rw[e2];rfl,s2 _ _ hh,il.mono s2,by rw[e1];rfl}
 rw[el] at kk;rw[eh];exists h,vs,rfl,.inl (ao hh),?_;rw[aQ ilh];left;obtain⟨c1,ec,kk⟩:∃c1:Bool,c1=(match l.getLast? with | some q=>decide (b<=q.1) | none=>false)/\∀H',aF H H'->Q (Sc.os (if c1=true then some "twice" else if pn∉S.az then some "name" else if iN∉S.aq.map (·.1) then some "name" else if¬S.has [b]=true then some "bar" else if 20<=⇑l then some "many" else none)) H':=by
  refine{_,rfl,?_};cases q:l.getLast? with
  | none=>rw[q] at kk;exact kk
  | some x=>rw[q] at kk;exact kk
 refine both c1 ?_ ?_ ?_
 ·intro c Z hz
  let lp:0<⇑l:=by have:=yb c;ext
  let vl:=aQ ilh;let⟨x,hx,ix⟩:=cN ilh (i:=⇑vs-1) (zb ());let⟨a3,ea,h3⟩:=PV ix;let eg:l.getLast?=some x:=by rw[wa,<-vl];exact hx
  rw[ec,eg] at hz;left;refine{h,vs,-1,_,rfl,rfl,ao hh,Ml (zb ()),?_};rw[ea];change hz
 ·intro c
  have:l=[]:=yp.mp (by have:=of_decide_eq_false c;ext);rw[ec,this];rfl
 ·clear ec
  cases c1 with
  | true=>
   change kk _ s2
  | false=>
   rw[yJ (by simp)] at kk;exists a,C,o.dx,_,_,rfl,s2 _ _ ho,F.cls,F.az,rfl,?_;refine{o.pl,_,rfl,.inl (ao (s2 _ _ sc.pl)),rfl,gi _,?_};show∃k,V.bl (!FJ (.str pn) (S.az.map V.str))=.bl k/\_;rw[iZ]
   by_cases c2:pn∈S.az
   ·rw[ze c2]
    rw[yJ (λz=>z c2)] at kk;let⟨us,hu,ilu⟩:=sc.ins;let em:(S.aq.map λx=>kS x.1)=(S.aq.map (·.1)).map kS:=by rw[zz];rfl
    exists a,C,o.dx,_,_,rfl,s2 _ _ ho,F.cls,F.aq,rfl,?_;refine{o.ins,_,rfl,.inl {_,kS iN,.inl (s2 _ _ hu),rfl,rfl},?_};rw[em,pS iN (by rw[za];exact aQ ilu)]
    by_cases c3:iN∈S.aq.map (·.1)
    ·rw[ze c3]
     rw[yJ (λz=>z c3)] at kk;exists by show 1<=sizeLine;decide,?_
     intros p3 H3 s3 h3;refine{a,p3,S,o,[b],rfl,sc.mono (s2.trans s3),ao h3,(by show 1<=1000000;decide),λH4 s4=>?_};let s04:=(s2.trans s3).trans s4;cases qb:S.has [b] with
     | false=>
      rw[qb] at kk;change kk _ s04
     | true=>
      rw[qb,yJ (by simp)] at kk;exists h,vs,rfl,.inl (ao ((s3.trans s4) _ _ hh)),?_;rw[aQ ilh];left
      by_cases c4:20<=⇑l
      ·refine bX (ze ()) ?_
       rw[yK c4] at kk;change kk _ s04
      ·refine b7 (zd ()) ?_
       rw[yJ c4] at kk;change kk _ s04
    ·rw[zd c3]
     rw[yK c3] at kk;change kk _ s2
   ·rw[zd c2]
    rw[yK c2] at kk;change kk _ s2
def G0 {H:Hp} {x:Str×List Str} {v:V} (h:Is H (kZ x) v):∃a q,v=.ref a/\H a=some (.tup [.str x.1,.ref q])/\H q=some (.tup (x.2.map V.str)):=by
 unfold kZ Is at h;let⟨a,vs,rfl,ha,hl⟩:=h;unfold aC at hl;let⟨v1,r1,rfl,h1,hl⟩:=hl;unfold aC at hl;let⟨v2,r2,rfl,h2,hl⟩:=hl;unfold aC at hl;subst hl;unfold Is at h1;subst h1;unfold lW Is at h2;let⟨q,us,rfl,hq,hl⟩:=h2;rw[dG hl] at hq;exact{(a),q,rfl,ha,hq}
def Tf {H:Hp} {x:Str×List Str} {v:V} (h:Is H (RG x) v):∃q,v=.ref q/\H q=some (.tup (x.2.map V.str)):=by
 unfold RG lW Is at h;let⟨q,us,rfl,hq,hl⟩:=h;rw[dG hl] at hq;exact{(q),rfl,hq}
inductive G3 (C:vm) (vs:List V) (H:Hp) (Q:VK) (E:XK):Prop
 | mk (a:vm) (S:cg) (o:Ow) (v ub jm:V) (x:Str×List Str) (ob:Obj) (us:List V) (_:vs=[.ref a,v]) (_:H a=some (.ins C o.dx (QU o ub jm))) (_:H o.pl=some (.lst (S.az.map V.str))) (_:LI H o.st ob ((S.aM.map λx=>kS x.1).zip us)) (_:aC H (S.aM.map RG) us) (_:Is H (kZ x) v) (_:⇑x.2<=1000) (_:∀H',aF H H'->Q (os (bY S (.cR x.1 x.2))) H')
theorem JO {α β:Type}:∀{l:List α} {m:List β} {i:Nat} {p:α×β},(l.zip m)[i]?=some p->l[i]?=some p.1/\m[i]?=some p.2
 | [],_,_,_,h=>by simp at h
 | _::_,[],_,_,h=>by simp at h
 | _::_,_::_,0,_,h=>by simp at h;subst h;exact{(rfl),rfl}
 | _::l,_::m,i+1,_,h=>by
  rw[yS] at h
  simpa using JO (l:=l) (m:=m) (i:=i) (by simpa using h)
def Qn {α:Type} {p:α->Bool} {l:List α} {i:Nat} {x:α} (h:l[i]?=some x) (hn:(l.take i).any p=false) (hx:p x=false):(l.take (i+1)).any p=false:=by
 rw[dr h,List.any_append,hn];simp[hx]
def Qo {α:Type} {p:α->Bool} {l:List α} {i:Nat} {x:α} (h:l[i]?=some x) (hx:p x=true):l.any p=true:=yk.mpr {x,zA h,hx}
def Ia {C:vm} (F:Cf K C):cE P w base 1 T.gD (G3 C):=by
 nomatch T.gD,["score","told","players","others"]
 let⟨a,S,o,v,ub,jm,x,ob,us,rfl,ho,hpl,fz,ilu,iv,x5,kk⟩:=h;let⟨a1,q,rfl,h1,hq⟩:=G0 iv;let sl:=yy;let ul:=aQ ilu;let em:(S.aM.map λx=>kS x.1)=(S.aM.map (·.1)).map kS:=by rw[zz];rfl
 unfold bY at kk;dsimp only at kk;refine{_,(ah (bQ 2 qN (bG (pv 1) aa))
  (ah (aJ (PW.pt (dB (bC (Fm (fB hr) (bG (pv 1) aa) (bj (pv 0) rfl))) (cY (ptr eI (d6 NF T.bE (af (oA (NC rfl) T.U7 (af (pv 2) ag)) ag)) (d6 aB T.bE (af (pv 2) ag))))))
  (ak (ar aL))
  aA)
  (ah (cj yL rfl (DU (bj (pv 0) rfl)) (hX 3 qN)
  (ak (aJ (cB (d6 (gm rfl) T.Bj (af (mq (ts:=["player"]) (ys:=["others"]) (js:=[3]) (te:=(fj (Td K false) (bc 0) (bc 1))) (iT (pv 2)) (f9 0) bB (dw iG (pv 0) (pv 1) (by with_unfolding_all rfl))) ag)))
   (ak (ar aL))
   aA)))
  (ah (aJ (cB (d6 (gm rfl) T.Bj (af (mq (ts:=["player"]) (ys:=["score"]) (js:=[0]) (te:=(fj (Td K true) (bc 0) (QL K (bc 1) "players"))) (iT (pv 2)) (f9 0) bB (dw dQ (pv 0) (bj (pv 1) rfl) (by with_unfolding_all rfl))) ag)))
  (ak (ar aL))
  aA)
  (ak (ar aV)))))),?_}
 ac_rfl;exists a,C,o.dx,_,_,rfl,ho,F.cls,F.aM,rfl,?_;refine{o.st,_,rfl,.inl {_,kS x.1,.inr {_,fz},rfl,rfl},?_};rw[em,pS x.1 (by rw[za];exact ul)]
 by_cases c1:x.1∈S.aM.map (·.1)
 ·rw[ze c1]
  rw[yK c1] at kk;change kk _ (aD _)
 ·rw[zd c1]
  rw[yJ c1] at kk;exists q,x.2,rfl,bu hq,x5,λp2 n2=>?_;let s2:aF H (upd H p2 (JG p2 ⇑(gj x.2))):=bz n2;let h2:upd H p2 (JG p2 ⇑(gj x.2)) p2=some (JG p2 ⇑(gj x.2)):=aE;generalize upd H p2 (JG p2 ⇑(gj x.2))=H2 at s2 h2 ⊢;let⟨d1,d2⟩:=IT x.2;refine{p2,_,rfl,h2,(),?_};exists q,_,rfl,.inr (bu (s2 _ _ hq)),?_;rw[za];left
  by_cases c2:x.2.Nodup
  ·refine b7 (zd (by have:=d2.mpr c2;ext)) ?_
   rw[yJ (λz=>z c2)] at kk;exists a,C,o.dx,_,_,rfl,s2 _ _ ho,F.cls,F.aM,rfl,?_;refine{o.st,ob,_,rfl,s2 _ _ fz,?_};refine Bw (λi U H'=>aF H H'/\(S.aM.take i).any (λq=>x.2.any λp=>decide (p∈q.2))=false/\∃u,U=[some (.ref a),some (.ref a1),some (.ref q),u]) {(s2),rfl,none,rfl} (λi U H' _ h=>h.1 _ _ fz) ?_ ?_
   ·intro i p U H3 hp hh
    refine cU λN kN0 kR0 _ _=>?_;let⟨s3,hn,u,rfl⟩:=hh;let⟨_,hp2⟩:=JO hp;let⟨st,hst,ist⟩:=cN ilu hp2;let⟨r,er,hr'⟩:=Tf ist;rw[er];exists{_,bu (s3 _ _ hq)},?_;refine fm (enc:=V.str) (ws:=x.2) (λz=>.bl (decide (z∈st.2))) (λU=>∃v,U=[v,some (.ref r)]) () (s3 _ _ hq) {(none),rfl} ?_ ?_
    ·rintro z U H4 R hz s4 ⟨_,rfl⟩ rr
     exists r,_,rfl,.inr (bu ((s3.trans s4) _ _ hr')),rfl,gi _,?_;refine rr _ _ _ (aD _) ?_ {_,rfl};rw[yJ (by simp),iZ];unfold Is;rfl
    ·intro D vs H4 s4 hD il
     let e:x.2.map (λz=>Dt.bl (decide (z∈st.2)))=(x.2.map λz=>decide (z∈st.2)).map Dt.bl:=by rw[zz];rfl
     rw[e] at il;rw[jN il] at hD;refine{D,_,rfl,ao hD,?_};let e2:(x.2.map λz=>decide (z∈st.2)).any id=x.2.any λp=>decide (p∈st.2):=by rw[wy];rfl
     rw[e2];cases qc:x.2.any λp=>decide (p∈st.2) with
     | true=>
      rw[yK (Qo hst (p:=λq:Str×List Str=>x.2.any λp=>decide (p∈q.2)) qc)] at kk;change kk _ (s3.trans s4)
     | false=>
      change{s3.trans s4,Qn hst hn qc,_,rfl}
   ·rintro U H3 ⟨s3,hn,u,rfl⟩
    rw[xu,za,ul,Nat.min_self,zL] at hn;rw[hn,yJ (by simp)] at kk;exists{_,bu (s3 _ _ hq)},?_;refine fm (enc:=V.str) (ws:=x.2) (λz=>.bl (!decide (z∈S.az))) (λU=>∃v,U=[v,some (.ref a)]) () (s3 _ _ hq) {(none),rfl} ?_ ?_
    ·rintro z U H4 R hz s4 ⟨_,rfl⟩ rr
     exists a,C,o.dx,_,_,rfl,(s3.trans s4) _ _ ho,F.cls,F.az,rfl,?_;refine{o.pl,_,rfl,.inl (ao ((s3.trans s4) _ _ hpl)),rfl,gi _,?_};refine rr _ _ _ (aD _) ?_ {_,rfl};show Is H4 _ (V.bl (!FJ (.str z) (S.az.map V.str)));rw[iZ];unfold Is;rfl
    ·intro D vs H4 s4 hD il
     let e:x.2.map (λz=>Dt.bl (!decide (z∈S.az)))=(x.2.map λz=>!decide (z∈S.az)).map Dt.bl:=by rw[zz];rfl
     rw[e] at il;rw[jN il] at hD;refine{D,_,rfl,ao hD,?_};let e2:(x.2.map λz=>!decide (z∈S.az)).any id=x.2.any λp=>!decide (p∈S.az):=by rw[wy];rfl
     rw[e2];cases qc:x.2.any λp=>!decide (p∈S.az) with
     | true=>
      rw[qc,yK rfl] at kk;change kk _ (s3.trans s4)
     | false=>
      rw[qc,yJ (by simp)] at kk;change kk _ (s3.trans s4)
  ·refine bX (ze (by have:⇑(gj x.2)≠⇑x.2:=λz=>c2 (d2.mp z);ext)) ?_
   rw[yK c2] at kk;change kk _ s2
def mE (C:vm):Sp:=e9 C λH v S f=>∃x,Is H (kZ x) v/\⇑x.2<=1000/\f=bY S (.cR x.1 x.2)
def P0 {H:Hp} {d:vm} {o:Obj} {u:HO} (hd:H d=some u) (nt:cT (some u)) {l:List Dt} {vs:List V} (h:aC H l vs):aC (upd H d (.iI o u)) l vs:=aC.upd (by rw[hd];exact nt) h
def Hm {H H':Hp} {d:vm} {o:Obj} {u:HO} (hd:H d=some u) (s:aF (upd H d (.iI o u)) H'):aF H (upd H' d u):=λb z hb=>by
 by_cases e:b=d
 ·subst e;rw[aE,<-hd,hb]
 ·rw[aG e];exact s b z (by rw[aG e];exact hb)
def Bb {C:vm} (F:Cf K C):cE P w base 1 T.gD (mE C):=by
 refine(Ia (P:=P) (w:=w) (base:=base) T F).R3 (λvs H Q E h=>?_) (λvs H Q E h=>?_)
 ·let⟨_,_,_,_,_,rfl,_⟩:=h;rfl
 ·let⟨a,S,o,v,f,rfl,sc,⟨x,iv,x5,rfl⟩,kk⟩:=h
  let⟨us,hu,ilu⟩:=sc.st;let⟨ub,jm,ho,hub,hjm⟩:=sc.obj;let nt:cT (some (HO.dK ((S.aM.map λx=>kS x.1).zip us))):=λvs z=>by cases z
  let na:a≠o.st:=λz=>by rw[z,hu] at ho;cases ho
  let np:o.pl≠o.st:=λz=>by have:=sc.pl;rw[z,hu] at this;cases this
  refine{o.st,_,hu,rfl,λob=>{a,S,o,v,ub,jm,x,ob,us,rfl,by rw[aG na];exact ho,by rw[aG np];exact sc.pl,aE,P0 hu nt ilu,Is.upd (by rw[hu];exact nt) iv,x5,λH' s'=>kk _ (Hm hu s')}}
def Sr (S:cg):Prop:=∀b∈S.aN,Ew b
inductive EK (C:vm) (vs:List V) (H:Hp) (Q:VK) (E:XK):Prop
 | mk (a:vm) (S:cg) (o:Ow) (v ub jm:V) (x:Int×Int) (ob:Obj) (us:List V) (_:vs=[.ref a,v]) (_:H a=some (.ins C o.dx (QU o ub jm))) (_:Is H (dO dL S.aK) ub) (_:VR C H a S o) (_:H o.no=some (.iI ob (.dT ((S.aI.map λx=>kN x.1).zip us)))) (_:⇑us=⇑S.aI) (_:⇑S.aI<=1000000) (_:Is H (dL x) v) (_:Cp 8999 x) (_:Sr S) (_:∀H',aF H H'->Q (os (bY S (.aK x))) H')
def Pt {S:cg} (h:Sr S) (b:Nat) (hb:b<⇑S.aN):Cp 8999 (S.aP b):=by
 unfold cg.aP;rw[zb hb];let⟨k1,k2,k3,k4⟩:=h _ (yi hb);let⟨g,g1,g2,g3,g4,g5⟩:=kF (t:=S.aN[b].aP.1) k3;let r0:=AV (t:=S.aN[b].aP.1) (b:=S.aN[b].aP.2) k1;let r1:=AW (t:=S.aN[b].aP.1) (b:=S.aN[b].aP.2) k1;dsimp only;exact{(dm (n:=10) r0 ()).mono ∅,(dm (n:=10) () ()).mono ∅}
def Fp {C:vm} (F:Cf K C):cE P w base 4 T.fK (EK C):=by
 nomatch T.fK,["score","length"]
 let⟨a,S,o,v,ub,jm,x,ob,us,rfl,ho,hub,sb,fz,ul,n6,iv,zx,bok,kk⟩:=h;let sl:=yy;unfold bY at kk;dsimp only at kk;refine{_,(ah (aJ (bC (eQ (bj (pv 0) rfl)))
  (ak (ar aL))
  aA)
  (ah (aJ (ptr dh (d6 aB T.bE (af (bj (pv 0) rfl) ag)) aa)
  (ak (ar aL))
  aA)
  (ah (aJ (eA (cB (bJ (Kv T) hr T.EX (af (pv 1) (af (bJ (lR T F) hr T.ia (af (pv 0) (af aa ag))) ag)))))
  (ak (ar aL))
  aA)
  (ah (aJ (cB (d6 (gm rfl) T.Bj (af (mq (ts:=["place"]) (ys:=[]) (js:=[]) (te:=(fj Wy (fj (mI K) (bc 0) (tC (.int (0)))) (tC (.int (0))))) (Q8 (bj (pv 0) rfl)) (f9 0) bB (dw dh (bG (pv 0) aa) aa (gQ _))) ag)))
  (ak (ar aL))
  aA)
  (ak (ar aV)))))),?_}
 ac_rfl;exists a,C,o.dx,_,_,rfl,ho,F.cls,F.aK,rfl,?_;cases q:S.aK with
 | some u=>
  rw[q,yK (show(some u).isSome=true from rfl)] at kk;rw[q] at hub;cases dP (o:=some u) hub with
  | ref hu=>
   change kk _ (aD _)
 | none=>
  rw[q,yJ (by simp)] at kk;rw[q] at hub;unfold dO Is at hub;subst hub;let⟨vs,hv,il⟩:=sb.ba;cases dP (o:=some x) iv with
  | ref hx=>
  rename_i a1;exists a,C,o.dx,_,_,rfl,ho,F.cls,F.aN,rfl,?_;exists o.ba,vs,rfl,.inl (ao hv),?_;rw[aQ il];left
  by_cases c1:⇑S.aN=0
  ·refine bX (by rw[c1];rfl) ?_
   rw[yK c1] at kk;change kk _ (aD _)
  ·refine b7 (zd λz=>c1 (by have:=V.int.inj z;ext)) ?_
   rw[yJ c1] at kk;exists a,S,o,0,rfl,sb,(),bok,λp H1 s1 h1=>?_;refine{_,_,_,_,rfl,s1 _ _ hx,h1,zx,Pt bok 0 (),?_}
   by_cases c2:x.1*(S.aP 0).2<(S.aP 0).1*x.2
   ·rw[ze c2]
    rw[yJ (λz=>z c2)] at kk;exists a,C,o.dx,_,_,rfl,s1 _ _ ho,F.cls,F.aI,rfl,?_;refine{o.no,ob,_,_,rfl,{_,s1 _ _ fz,.inr {_,rfl,rfl,rfl}},?_};let kl:⇑((S.aI.map λx=>kN x.1).zip us)=⇑S.aI:=by rw[xu,za,ul,Nat.min_self]
    refine BS (ws:=S.aI) (λp x H=>∃b,x=.ref b/\H b=some (.tup [.int p.1.1,.str p.1.2])) (λp=>.bl (decide (p.1.1=0))) (λU=>∃v,U=[v]) () {(none),rfl} (λi H2 hi s2=>{{_,s2 _ _ (s1 _ _ fz),.inr {_,rfl,rfl,rfl}},()}) (λH2 s2=>{{_,s2 _ _ (s1 _ _ fz),.inr {_,rfl,rfl,rfl}},()}) ?_ ?_ ?_
    ·rintro i y H2 H3 hi s2 ⟨rfl,p,b,hp,hb,rfl⟩
     refine{aD _,b,rfl,?_};let⟨z1,_⟩:=JO hp;rw[zI,zb hi] at z1;simp only[xh,xH] at z1;rw[<-z1] at hb;exact hb
    ·rintro p y U H2 R hp s2 ⟨b,rfl,hb⟩ ⟨_,rfl⟩ r
     left;refine r _ _ _ (aD _) ?_ {_,rfl};rw[show decide (V.int p.1.1=V.int 0)=decide (p.1.1=0) from by by_cases h:p.1.1=0 <;> simp[h]];unfold Is;rfl
    ·intro D vs H4 s4 hD il
     let e:S.aI.map (λp=>Dt.bl (decide (p.1.1=0)))=(S.aI.map λp=>decide (p.1.1=0)).map Dt.bl:=by rw[zz];rfl
     rw[e] at il;rw[jN il] at hD;refine{D,_,rfl,ao hD,?_};let e2:(S.aI.map λp=>decide (p.1.1=0)).any id=S.aI.any λp=>decide (p.1.1=0):=by rw[wy];rfl
     rw[e2];cases qc:S.aI.any λp=>decide (p.1.1=0) with
     | true=>
      rw[qc,yK rfl] at kk;change kk _ (s1.trans s4)
     | false=>
      rw[qc,yJ (by simp)] at kk;change kk _ (s1.trans s4)
   ·rw[zd c2]
    rw[yK c2] at kk;change kk _ s1
def lK (C:vm):Sp:=e9 C λH v S f=>∃x,Is H (dL x) v/\Cp 8999 x/\Sr S/\⇑S.aI<=1000000/\f=bY S (.aK x)
def uT {C:vm} (F:Cf K C):cE P w base 4 T.fK (lK C):=by
 refine(Fp (P:=P) (w:=w) (base:=base) T F).R3 (λvs H Q E h=>?_) (λvs H Q E h=>?_)
 ·let⟨_,_,_,_,_,rfl,_⟩:=h;rfl
 ·let⟨a,S,o,v,f,rfl,sc,⟨x,iv,zx,bok,n6,rfl⟩,kk⟩:=h
  let⟨hn,ln⟩:=sc.no;let⟨ub,jm,ho,hub,hjm⟩:=sc.obj;let⟨bs,hb,ilb⟩:=sc.ba;let nt:cT (some (HO.dT ((S.aI.map λx=>kN x.1).zip (o.ns.map V.ref)))):=λvs z=>by cases z
  let na:a≠o.no:=λz=>by rw[z,hn] at ho;cases ho
  let nb:o.ba≠o.no:=λz=>by rw[z,hn] at hb;cases hb
  let ho':∀ob,upd H o.no (.iI ob (.dT ((S.aI.map λx=>kN x.1).zip (o.ns.map V.ref)))) a=some (.ins C o.dx (QU o ub jm)):=λob=>by rw[aG na];exact ho
  refine{o.no,_,hn,rfl,λob=>{a,S,o,v,ub,jm,x,ob,o.ns.map V.ref,rfl,ho' ob,Is.upd (by rw[hn];exact nt) hub,{{ub,jm,ho' ob},bs,by rw[aG nb];exact hb,P0 hn nt ilb},aE,by rw[za,iH ln,za],n6,Is.upd (by rw[hn];exact nt) iv,zx,bok,λH' s'=>kk _ (Hm hn s')}}
noncomputable def oK:Told->Str
 | .bO _=> "player"
 | .cJ _ _ _=> "instrument"
 | .cR _ _=> "staff"
 | .bar _=> "bar"
 | .aK _=> "upbeat"
 | .holds _ _ _=> "holds"
 | .aI _ _ _=> "notes"
 | .rep _=> "repeat"
 | .bU _=> "jump"
def Uk (S:cg):Told->Prop
 | .cR _ ps=>⇑ps<=1000
 | .aK l=>Cp 8999 l/\Sr S/\⇑S.aI<=1000000
 | .aI b _ its=>0<=b/\⇑its<=500/\(∀it∈its,QD it.2)/\Sr S
 | .rep r=>JY r.ends<64/\⇑r.ends<=1000/\-1000000<=r.times/\r.times<=1000000
 | .bU _=>GB S
 | _=>True
inductive N6 (K:yx) {mg:Str->Option vf} (T:Txt K mg) (C:vm):vm->Sp->Prop where
 | bO:N6 K T C T.fY (lM C)
 | cJ:N6 K T C T.dX (gX C)
 | cR:N6 K T C T.gx (mE C)
 | bar:N6 K T C T.jH (pV C)
 | aK:N6 K T C T.fW (lK C)
 | holds:N6 K T C T.iB (oy C)
 | aI:N6 K T C T.gB (mF C)
 | rep:N6 K T C T.fX (lL C)
 | bU:N6 K T C T.iA (ox C)
noncomputable def Sh {K:yx} {mg:Str->Option vf} (T:Txt K mg):List (Str×V):=[("player",V.ref T.fY),("instrument",.ref T.dX),("staff",.ref T.gx),("bar",.ref T.jH),("upbeat",.ref T.fW),("holds",.ref T.iB),("notes",.ref T.gB),("repeat",.ref T.fX),("jump",.ref T.iA)]
def PZ (K:yx) {mg:Str->Option vf} (T:Txt K mg) (C:vm) (t:Told):∃f D,rG (Sh T) (oK t)=some (.ref f)/\N6 K T C f (e9 C D)/\∀H0 H v S,gq H0 H v (some t)->Uk S t->D H v S (bY S t):=by
 cases t with
 | bO n=>exact{_,_,rfl,.bO,λH0 H v S h1 h2=>{(n),h1,rfl}}
 | cJ n t l=>exact{_,_,rfl,.cJ,λH0 H v S h1 h2=>{(n,t,l),h1,rfl}}
 | cR n ps=>exact{_,_,rfl,.cR,λH0 H v S h1 h2=>{(n,ps),h1,h2,rfl}}
 | bar b=>exact{_,_,rfl,.bar,λH0 H v S h1 h2=>{(b),rfl}}
 | aK l=>exact{_,_,rfl,.aK,λH0 H v S h1 h2=>{(l),h1,h2.1,h2.2.1,h2.2.2,rfl}}
 | holds p b i=>exact{_,_,rfl,.holds,λH0 H v S h1 h2=>{(p,b,i),h1,rfl}}
 | aI b p its=>exact{_,_,rfl,.aI,λH0 H v S h1 h2=>{(b,p,its),iD.at h1,h2.1,h2.2.1,h2.2.2.1,h2.2.2.2,rfl}}
 | rep r=>exact{_,_,rfl,.rep,λH0 H v S h1 h2=>{(r),h1,h2.1,h2.2.1,h2.2.2.1,h2.2.2.2,rfl}}
 | bU j=>exact{_,_,rfl,.bU,λH0 H v S h1 h2=>{(j),h1,h2,rfl}}
def Oq {H0 H:Hp} {v:V} {t:Told} (h:gq H0 H v (some t)):v≠.bN:=by
 let tp:∀l,Is H (.tup l) v->v≠.bN:=λl z=>by
  unfold Is at z;let⟨a,vs,e,_⟩:=z;rw[e];simp
 cases t with
 | bO n=>let e:v=.str n:=h;rw[e];simp
 | cJ n t l=>exact tp _ h
 | cR n ps=>exact tp _ h
 | bar b=>exact tp _ h
 | aK l=>exact tp _ h
 | holds p b i=>exact tp _ h
 | aI b p its=>let⟨a,_,_,e,_⟩:=h;rw[e];simp
 | rep r=>exact tp _ h
 | bU j=>exact tp _ h
noncomputable def P5 (S:cg):Option Told->Option Str
 | none=>some "row"
 | some t=>bY S t
inductive G7 (C:vm) (vs:List V) (H:Hp) (Q:VK) (E:XK):Prop
 | mk (a:vm) (S:cg) (o:Ow) (x:Str) (v:V) (H0:Hp) (t:Option Told) (_:vs=[.ref a,.str x,v]) (_:bP C H a S o) (_:gq H0 H v t) (_:(∀t',t=some t'->x=oK t'/\Uk S t')) (_:∀H',aF H H'->Q (os (P5 S t)) H')
def tU:fZ ["score","sort","told","finder"] ["score","sort","told"] (aX oQ):=Vi
def Ih (B:Dk P w K T) {C:vm} (F:Cf K C):cE P w base 6 T.By (G7 C):=by
 refine T.By.F.VO tU λcdv A' outer s H vs Q E hr h=>?_
 ·let⟨a,S,o,x,v,H0,t,rfl,sc,tv,fit,kk⟩:=h
  let hTbV:∀f sp,N6 K T C f sp->Uq (jS JK P w K mg base ["score","sort","told","finder"] "fault_of" (aX oQ) T.Cd cdv A' outer s H E).JL JK 5 f sp:=by
   intro f sp h;cases h with
   | bO=>exact{_,_,L2.dy.mono (uV T F) ∅,T.hV.F.kp,T.hV.b}
   | cJ=>exact{_,_,L2.dy.mono (oa T F) ∅,T.eT.F.kp,T.eT.b}
   | cR=>exact{_,_,L2.dy.mono (Bb T F) ∅,T.gD.F.kp,T.gD.b}
   | bar=>exact{_,_,L2.dy.mono (FC T F) ∅,T.nT.F.kp,T.nT.b}
   | aK=>exact{_,_,L2.dy.mono (uT T F) ∅,T.fK.F.kp,T.fK.b}
   | holds=>exact{_,_,L2.dy.mono (C5 T F) ∅,T.kX.F.kp,T.kX.b}
   | aI=>exact{_,_,L2.dy.mono (Bg T F) ∅,T.jA.F.kp,T.jA.b}
   | rep=>exact{_,_,L2.dy.mono (uU T F) ∅,T.g9.F.kp,T.g9.b}
   | bU=>exact{_,_,L2.dy.mono (C4 T F) ∅,T.kR.F.kp,T.kR.b}
  refine{_,(ah (aJ (bC (cm (pv 2)))
   (ak (ar aL))
   aA)
   (ah (bQ 3 tU.nd (HR (bM (v:=.ref T.qt) (by rfl) T.Qi rfl) (pv 1) (λ_ _=>rfl)))
   (ak (ar (HU (N6 K T C) hTbV (hr.mono ∅) (pv 3) LZ (af (pv 0) (af (pv 2) ag))))))),?_}
  ac_rfl;left;cases t with
  | none=>
   let e:v=.bN:=tv;subst e;change kk _ (aD _)
  | some t=>
   let⟨ex,ft⟩:=fit t rfl;subst ex;let⟨f,D,ev,htb,hd⟩:=PZ K T C t;let ne:=Oq tv;rw[zd ne];exists T.qt,Sh T,oK t,_,rfl,B.T5,rfl,ev,?_;exists f,_,rfl,htb,?_;change{a,S,o,v,_,rfl,sc,hd H0 H v S tv ft,kk}
def Jt {hs:List (Str×List (Int×Str))} {p:Str} {h:Int×Str} (fr:p∉hs.map (·.1)):eU (hs++[(p,[])]) p h=eU hs p h:=by
 unfold eU;rw[yJ fr,yK (by rw[zj];exact zG _ (zy.mpr rfl)),zj];let e:(hs.map λq:Str×List (Int×Str)=>if q.1=p then(q.1,q.2++[h]) else q)=hs:=by
  conv=>rhs;rw[<-List.map_id hs]
  refine xq λq hq=>?_;rw[yJ (λz=>fr (by rw[<-z];exact zN (f:=λx:Str×List (Int×Str)=>x.1) hq))];rfl
 rw[e];simp
def pO (S:cg):Prop:=(S.holds.map (·.1)).Nodup/\⇑S.holds<=1000000/\∀q∈S.holds,⇑q.2<=1000000
inductive G9 (C:vm) (vs:List V) (H:Hp) (Q:VK) (E:XK):Prop
 | mk (a:vm) (S:cg) (o:Ow) (v:V) (pn:Str) (b:Int) (i:Str) (_:vs=[.ref a,v]) (_:bP C H a S o) (_:Is H (uj (pn,b,i)) v) (_:pO S) (_:∀H' o',bP C H' a (bS S (.holds pn b i)) o'->vU (own a o) H H'->(∀x∈own a o',x∈own a o\/H x=none)->Q .bN H')
def qK {o:Ow} {a x:vm} (h:x∈o.lists):x∈own a o:=by
 unfold Ow.lists at h;unfold own;rw[zE,zE] at h ⊢;rcases h with(h | h) | h
 ·refine .inl (.inl ?_)
  simp only[zB,zC,yQ] at h ⊢;rcases h with h | h | h <;> simp[h]
 ·exact .inl (.inr h)
 ·exact .inr h
def Pn {C a x:vm} {H:Hp} {S:cg} {o:Ow} (h:bP C H a S o) (hx:x∈own a o):∃u,H x=some u:=by
 let⟨_,_,ha,_⟩:=h.obj;let⟨_,hi,_⟩:=h.ins;let⟨_,hs,_⟩:=h.st;let⟨_,hb,_⟩:=h.ba;let⟨_,hr,_⟩:=h.re;unfold own at hx;rw[zE,zE] at hx;rcases hx with(hx | hx) | hx
 ·simp only[zB,zC,yQ] at hx
  rcases hx with rfl | rfl | rfl | rfl | rfl | rfl | rfl | rfl
  ·exact{_,ha}
  ·exact{_,h.pl}
  ·exact{_,hi}
  ·exact{_,hs}
  ·exact{_,hb}
  ·exact{_,h.ho.1}
  ·exact{_,h.no.1}
  ·exact{_,hr}
 ·let⟨vs,e⟩:=cG h.ho.2 hx
  exact{_,e}
 ·let⟨vs,e⟩:=cG h.no.2 hx
  exact{_,e}
def Fn {C a x:vm} {H:Hp} {S:cg} {o:Ow} (h:bP C H a S o) (hx:H x=none):x∉own a o:=λz=>by
 let⟨u,e⟩:=Pn h z;rw[hx] at e;cases e
def Iy {hs:List (Str×List (Int×Str))} {as:List vm} {H:Hp} {x:vm} {vs:List V} (hL:b8 H JM (hs.map (·.2)) as) (hx:x∈as) (hH:H x=some (.lst vs)) (hb:∀q∈hs,⇑q.2<=1000000):⇑vs<=1000000:=by
 induction hs generalizing as with
 | nil=>unfold b8 at hL;rw[hL] at hx;simp at hx
 | cons q r ih=>
  rw[zh] at hL;let⟨a,t,us,rfl,h1,h2,h3⟩:=hL;rcases zB.mp hx with rfl | hx
  ·rw[h1] at hH;cases hH
   have:=aQ h2;have:=hb q zp;ext
  ·exact ih h3 hx λq hq=>hb q (zm _ hq)
def Ik {C:vm} (F:Cf K C):cE P w base 1 T.B6 (G9 C):=by
 nomatch T.B6,["score","told"]
 let⟨a,S,o,v,pn,b,i,rfl,sc,iv,⟨nk,hl,hb⟩,kk⟩:=h;let⟨a1,rfl,h1⟩:=L8 iv;let sl:=yy;let⟨ub,jm,ho,hub,hjm⟩:=sc.obj;let em:(S.holds.map λx=>kS x.1)=(S.holds.map (·.1)).map kS:=by rw[zz];rfl
 let ll:⇑(o.hs.map V.ref)=⇑(S.holds.map (·.1)):=by rw[za,za,iH sc.ho.2,za]
 dsimp only at h1;refine{_,(ah (aJ (bC (sF (fB hr) (bG (pv 1) aa) (bj (pv 0) rfl)))
  (ak (nF (fB hr) (bj (pv 0) rfl) (bG (pv 1) aa) (bg ag) rfl))
  aA)
  (ak (bA (bW yz yB yA bw (vW (fB hr) (bj (pv 0) rfl) (bG (pv 1) aa) (λ_ _=>rfl)) (af (aW (af (bG (pv 1) aa) (af (bG (pv 1) aa) ag))) ag))))),?_}
 ac_rfl;exists a,C,o.dx,_,_,rfl,ho,F.cls,F.holds,rfl,?_;refine{o.ho,_,rfl,.inl {_,kS pn,.inl sc.ho.1,rfl,rfl},?_};rw[em,pS pn ll]
 by_cases c1:pn∈S.holds.map (·.1)
 ·rw[ze c1]
  let⟨x,us,e1,e2,e3,e4⟩:=sc.nJ nk c1;exists a,C,o.dx,_,_,rfl,ho,F.cls,F.holds,rfl,?_;exists o.ho,_,rfl,.inl {_,kS pn,.inl sc.ho.1,rfl,e1.symm},?_;refine{.inl {rfl,us,ao e3},?_};exists bK,?_;intros p2 H2 s2 h2;refine{x,us,_,rfl,rfl,s2 _ _ e3,?_,?_}
  ·have:=Iy sc.ho.2 e2 e3 hb
   ext
  ·let⟨x',us',f1,f2,f3,f4⟩:=(sc.mono s2).nJ nk c1
   let ex:x=x':=by rw[f1] at e1;cases e1;rfl
   subst ex;let eu:us=us':=by have:=s2 _ _ e3;rw[f3] at this;cases this;rfl
   subst eu;change kk _ o (f4 _ b i (cO h2 (aU cH (aU eW c9)))) ((vU.of s2).trans (vU.upd (qK (by unfold Ow.lists;simp[e2])))) λy hy=>.inl hy
 ·rw[zd c1]
  exists by show 0<=sizeLine;decide,?_
  intros p1 n1 s1 g1 H1
  let sc1:=sc.mono s1;let h11:=s1 _ _ h1;let nl:p1∉o.lists:=λz=>Fn sc n1 (qK z);exists a,C,o.dx,_,_,rfl,s1 _ _ ho,F.cls,F.holds,rfl,?_;left;refine{o.ho,_,rfl,.inl {_,kS pn,sc1.ho.1,rfl,?_,rfl},?_}
  ·rw[xu,za];ext
  let sc2:=sc1.Pq g1 nl c1;let nt1:cT (H1 o.ho):=by rw[sc1.ho.1];exact λ_ z=>by cases z
  let h12:upd H1 o.ho (.dK (putK ((S.holds.map λx=>kS x.1).zip (o.hs.map V.ref)) (kS pn) (.ref p1))) a1=some (.tup [V.str pn,V.int b,V.str i]):=by rw[aG (Sc.bx h11 sc1.ho.1 (fI rfl))];exact h11
  let el:vU (own a o) H (upd H1 o.ho (.dK (putK ((S.holds.map λx=>kS x.1).zip (o.hs.map V.ref)) (kS pn) (.ref p1)))):=(vU.of s1).trans (vU.upd (by unfold own;simp));generalize upd H1 o.ho (.dK (putK ((S.holds.map λx=>kS x.1).zip (o.hs.map V.ref)) (kS pn) (.ref p1)))=H3 at sc2 h12 el ⊢;let⟨ub2,jm2,ho2,_,_⟩:=sc2.obj;let nk2:(({S with holds:=S.holds++[(pn,[])]}:cg).holds.map (·.1)).Nodup:=by
   show((S.holds++[(pn,[])]).map λx:Str×List (Int×Str)=>x.1).Nodup;rw[zj,zQ];exact{nk,by simp,λx hx y hy e=>by simp at hy;subst hy;subst e;exact c1 hx}
  let c2:pn∈({S with holds:=S.holds++[(pn,[])]}:cg).holds.map (·.1):=by
   show pn∈(S.holds++[(pn,[])]).map λx:Str×List (Int×Str)=>x.1;rw[zj];exact zG _ (zy.mpr rfl)
  let⟨x,us,e1,e2,e3,e4⟩:=sc2.nJ nk2 c2;let hb2:∀q∈S.holds++[((pn,[]):Str×List (Int×Str))],⇑q.2<=1000000:=λq hq=>by
   rcases zE.mp hq with z | z
   ·exact hb q z
   ·rw[zy.mp z];exact yd _
  exists a,C,_,_,_,rfl,ho2,F.cls,F.holds,rfl,?_;exists o.ho,_,rfl,.inl {_,kS pn,.inl sc2.ho.1,rfl,e1.symm},?_;refine{.inl {rfl,us,ao e3},?_};exists bK,?_;intros p2 H4 s4 h4;refine{x,us,_,rfl,rfl,s4 _ _ e3,?_,?_}
  ·have:=Iy sc2.ho.2 e2 e3 hb2
   ext
  ·let⟨x',us',f1,f2,f3,f4⟩:=(sc2.mono s4).nJ nk2 c2
   let ex:x=x':=by rw[f1] at e1;cases e1;rfl
   subst ex;let eu:us=us':=by have:=s4 _ _ e3;rw[f3] at this;cases this;rfl
   subst eu;left;let ea:bS {S with holds:=S.holds++[(pn,[])]} (.holds pn b i)=bS S (.holds pn b i):=by
    show({S with holds:=eU (S.holds++[(pn,[])]) pn (b,i)}:cg)={S with holds:=eU S.holds pn (b,i)};rw[Jt c1]
   let sf:=f4 _ b i (cO h4 (aU cH (aU eW c9)));rw[ea] at sf;let xin:x∈o.hs\/x=p1:=by
    have:x∈o.hs++[p1]:=e2;rw[zE,zy] at this;exact this
   refine kk _ _ sf (λy u ny hy=>?_) λy hy=>?_
   ·let hy4:=s4 _ _ (el y u ny hy)
    rw[aG]
    ·exact hy4
    ·intro z
     subst z;rcases xin with z | z
     ·exact ny (qK (by unfold Ow.lists;simp[z]))
     ·subst z;rw[n1] at hy;cases hy
   ·have:y∈own a o\/y=p1:=by
     unfold own at hy ⊢;simp only[zE,zB,zC,yQ] at hy ⊢;rcases hy with(hy | hy | hy) | hy
     ·exact .inl (.inl (.inl hy))
     ·exact .inl (.inl (.inr hy))
     ·exact .inr hy
     ·exact .inl (.inr hy)
    rcases this with z | z
    ·exact .inl z
    ·subst z;exact .inr n1
def tN (S:cg):Prop:=⇑S.az<=1000000/\⇑S.aq<=1000000/\⇑S.aM<=1000000/\⇑S.aN<=1000000/\⇑S.aI<=1000000/\⇑S.aH<=1000000
inductive J7 (C:vm) (vs:List V) (H:Hp) (Q:VK) (E:XK):Prop
 | mk (a:vm) (S:cg) (o:Ow) (v:V) (H0:Hp) (t:Told) (_:vs=[.ref a,.str (oK t),v]) (_:bP C H0 a S o) (_:aF H0 H) (_:gq H0 H v (some t)) (_:bY S t=none) (_:pO S) (_:tN S) (_:∀H' o',bP C H' a (bS S t) o'->vU (own a o) H H'->(∀x∈own a o',x∈own a o\/H0 x=none)->Q .bN H')
def FK {c:Prop} [Decidable c] {x:Str} {y:Option Str} (h:(if c then some x else y)=none):¬c/\y=none:=by
 by_cases e:c
 ·rw[yK e] at h;cases h
 ·rw[yJ e] at h;exact{(e),h}
theorem uf {H:Hp}:∀l:List Str,aC H (l.map Dt.str) (l.map V.str)
 | []=>c9
 | x::r=>aU eW (uf r)
def Kz {C:vm} (F:Cf K C):cE P w base 2 T.Gn (J7 C):=by
 nomatch T.Gn,["score","sort","told"]
 let⟨a,S,o,v,H0,t,rfl,sc0,s0,tv,fn,cx,⟨z1,z2,z3,z4,z5,z6⟩,kk⟩:=h;let sl:=yy;let sc:=sc0.mono s0;let⟨ub,jm,ho,hub,hjm⟩:=sc.obj;let me:∀x∈own a o,x∈own a o\/H0 x=none:=λx hx=>.inl hx;refine{_,(ak (aJ (ptr dh (pv 1) aL)
  (ak (bA (bW yz yB yA bw (bj (pv 0) rfl) (af (pv 2) ag))))
  (ak (aJ (ptr dh (pv 1) aL)
   (ak (nF (fB hr) (bj (pv 0) rfl) (bG (pv 2) aa) (aW (af (bG (pv 2) aa) (af (bG (pv 2) aa) ag))) rfl))
   (ak (aJ (ptr dh (pv 1) aL)
    (ak (nF (fB hr) (bj (pv 0) rfl) (bG (pv 2) aa) (bG (pv 2) aa) rfl))
    (ak (aJ (ptr dh (pv 1) aL)
     (ak (bA (bW yz yB yA bw (bj (pv 0) rfl) (af (pv 2) ag))))
     (ak (aJ (ptr dh (pv 1) aL)
      (ak (iS (pv 0) (pv 2) rfl))
      (ak (aJ (ptr dh (pv 1) aL)
       (ak (bA (bJ (Ik T F) hr T.B6 (af (pv 0) (af (pv 2) ag)))))
       (ak (aJ (ptr dh (pv 1) aL)
        (ak (nF (fB hr) (bj (pv 0) rfl) (aW (af (bG (pv 2) aa) (af (bG (pv 2) aa) ag))) (bG (pv 2) aa) rfl))
        (ak (aJ (ptr dh (pv 1) aL)
         (ak (bA (bW yz yB yA bw (bj (pv 0) rfl) (af (pv 2) ag))))
         (ak (iS (pv 0) (pv 2) rfl)))))))))))))))))),?_}
 ac_rfl;cases t with
 | bO n=>
  let e:v=.str n:=tv;subst e;exists a,C,o.dx,_,_,rfl,ho,F.cls,F.az,rfl,?_;refine{.inl {rfl,_,ao sc.pl},?_};exists o.pl,_,_,rfl,rfl,sc.pl,by rw[za];ext,?_
  change kk _ o (sc.Ls n) (vU.upd (by unfold own;simp)) me
 | cJ n t l=>
  let⟨a1,t1,l1,rfl,h1,it,il⟩:=IB (x:=(n,t,l)) tv;let fr:=(FK fn).1;exists bK,?_;intros p2 H2 s2 h2;let sc2:=sc.mono s2;let h12:=s2 _ _ h1;let⟨vs,hv,ilv⟩:=sc2.ins;exists a,C,o.dx,_,_,rfl,s2 _ _ ho,F.cls,F.aq,rfl,?_;left;refine{o.ins,_,rfl,.inl {_,kS n,hv,rfl,?_,rfl},?_}
  ·rw[xu,za];ext
  exact kk _ o (sc2.NK hv ilv (cO h2 (aU (it.mono s2) (aU (il.mono s2) c9))) fr) ((vU.of s2).trans (vU.upd (by unfold own;simp))) me
 | cR n ps=>
  let⟨a1,q,rfl,h1,hq⟩:=G0 (x:=(n,ps)) tv;let fr:=(FK fn).1;let⟨vs,hv,ilv⟩:=sc.st;exists a,C,o.dx,_,_,rfl,ho,F.cls,F.aM,rfl,?_;left;refine{o.st,_,rfl,.inl {_,kS n,hv,rfl,?_,rfl},?_}
  ·rw[xu,za];ext
  exact kk _ o (sc.NI hv ilv (by unfold RG lW;exact cO hq (uf ps)) fr) (vU.upd (by unfold own;simp)) me
 | bar b=>
  let⟨vs,hv,ilv⟩:=sc.ba;let vl:=aQ ilv;exists a,C,o.dx,_,_,rfl,ho,F.cls,F.aN,rfl,?_;refine{.inl {rfl,_,ao hv},?_};exists o.ba,_,_,rfl,rfl,hv,(),?_;change kk _ o (sc.RN hv ilv tv) (vU.upd (by unfold own;simp)) me
 | aK l=>
  exists a,C,o.dx,_,rfl,ho,F.cls,F.aK,(by show 9<1000;decide),?_;exact kk _ o (sc.Lr ho hjm tv) (vU.upd (by unfold own;simp)) me
 | holds p b i=>
  change{a,S,o,v,p,b,i,rfl,sc,tv,cx,λH' o' s' e' n'=>kk H' o' s' e' λx hx=>(n' x hx).imp id λz=>s0.back z}
 | aI b p its=>
  let⟨a1,q,us,rfl,h1,hq,ilq,nq⟩:=tv;let fr:=(FK fn).1;let nl:q∉o.lists:=λz=>Fn sc0 nq (qK z);exists a,C,o.dx,_,_,rfl,ho,F.cls,F.aI,rfl,?_;exists bK,?_;intros p2 H2 s2 h2;let sc2:=sc.mono s2;refine{o.no,_,rfl,.inr {_,kN (b,p),p2,sc2.no.1,rfl,h2,?_,rfl},?_}
  ·rw[xu,za];ext
  refine kk _ _ (sc2.NJ (s2 _ _ hq) (ilq.mono s2) nl fr) ((vU.of s2).trans (vU.upd (by unfold own;simp))) λx hx=>?_;have:x∈own a o\/x=q:=by
   unfold own at hx ⊢;simp only[zE,zB,zC,yQ] at hx ⊢;rcases hx with hx | hx | hx
   ·exact .inl (.inl hx)
   ·exact .inl (.inr hx)
   ·exact .inr hx
  rcases this with z | z
  ·exact .inl z
  ·subst z;exact .inr nq
 | rep r=>
  let⟨vs,hv,ilv⟩:=sc.re;let vl:=aQ ilv;exists a,C,o.dx,_,_,rfl,ho,F.cls,F.aH,rfl,?_;refine{.inl {rfl,_,ao hv},?_};exists o.re,_,_,rfl,rfl,hv,(),?_;change kk _ o (sc.RK hv ilv tv) (vU.upd (by unfold own;simp)) me
 | bU j=>
  exists a,C,o.dx,_,rfl,ho,F.cls,F.bU,(by show 9<1000;decide),?_;exact kk _ o (sc.Qq ho hub tv) (vU.upd (by unfold own;simp)) me
def gh {H:Hp} {a C dx p:vm} {fs fs':List (Str×V)} {u:HO} (ha:H a=some (.ins C dx fs)) (np:H p=none) :
  upd (upd H p u) a (.ins C dx fs') a=some (.ins C dx fs')/\upd (upd H p u) a (.ins C dx fs') p=some u/\∀b v,H b=some v->b≠a->upd (upd H p u) a (.ins C dx fs') b=some v:=by
 let na:p≠a:=λz=>by rw[z,ha] at np;cases np
 refine{aE,by rw[aG na,aE],λb v hb ne=>?_};rw[aG ne,aG (λz=>by rw[z,np] at hb;cases hb)];exact hb
def Ed {H:Hp} {a C dx:vm} {fs':List (Str×V)}:upd H a (.ins C dx fs') a=some (.ins C dx fs')/\∀b v,H b=some v->b≠a->upd H a (.ins C dx fs') b=some v:=
 {aE,λb v hb ne=>by rw[aG ne];exact hb}
inductive CD (C:vm) (vs:List V) (H:Hp) (Q:VK) (E:XK):Prop
 | mk (a dx:vm) (_:vs=[.ref a]) (_:H a=some (.ins C dx [])) (_:∀H' o,bP C H' a {} o->(∀b u,H b=some u->b≠a->H' b=some u)->(∀x∈own a o,x=a\/H x=none)->Q .bN H')
def CH:fZ ["self"] ["self"] (aX qh):=Vi
def C8 {C:vm} (F:Cf K C):dy P w K mg base JK 1 T.lB T.q9 ["self"] (CD C):=by
 refine T.Co.F.VO CH λ_ _ _ _ H vs Q E hr h=>?_
 ·let⟨a,dx,rfl,ha,kk⟩:=h
  let sl:=yy;refine{_,ah (iS (pv 0) (bg ag) rfl) (ah (iS (pv 0) mL rfl) (ah (iS (pv 0) mL rfl) (ah (iS (pv 0) (bg ag) rfl) (ah (iS (pv 0) aV rfl) (ah (iS (pv 0) mL rfl) (ah (iS (pv 0) Pj rfl) (ah (iS (pv 0) (bg ag) rfl) (ak (iS (pv 0) aV rfl))))))))),?_};refine{by show 0<=sizeLine;decide,λp1 n1=>?_};refine{_,rfl,a,C,dx,[],rfl,(by rw[aG (λz=>by rw[<-z,ha] at n1;cases n1)];exact ha),F.cls,F.az,(by show 0<1000;decide),?_};let⟨a1,q1,k1⟩:=gh (u:=.lst []) (fs':=bf "players" (.ref p1) []) ha n1;generalize upd (upd H p1 (.lst [])) a (.ins C dx (bf "players" (.ref p1) []))=H1 at a1 q1 k1 ⊢;refine λp2 n2=>{_,rfl,a,C,dx,_,rfl,(by rw[aG (λz=>by rw[<-z,a1] at n2;cases n2)];exact a1),F.cls,F.aq,(by show 1<1000;decide),?_}
  let⟨a2,q2,k2⟩:=gh (u:=.dK []) (fs':=(bf "instruments" (.ref p2) (bf "players" (.ref p1) []))) a1 n2;generalize upd (upd H1 p2 (.dK [])) a (.ins C dx (bf "instruments" (.ref p2) (bf "players" (.ref p1) [])))=H2 at a2 q2 k2 ⊢;refine λp3 n3=>{_,rfl,a,C,dx,_,rfl,(by rw[aG (λz=>by rw[<-z,a2] at n3;cases n3)];exact a2),F.cls,F.aM,(by show 2<1000;decide),?_}
  let⟨a3,q3,k3⟩:=gh (u:=.dK []) (fs':=(bf "staffs" (.ref p3) (bf "instruments" (.ref p2) (bf "players" (.ref p1) [])))) a2 n3;generalize upd (upd H2 p3 (.dK [])) a (.ins C dx (bf "staffs" (.ref p3) (bf "instruments" (.ref p2) (bf "players" (.ref p1) []))))=H3 at a3 q3 k3 ⊢;refine{by show 0<=sizeLine;decide,λp4 n4=>{_,rfl,a,C,dx,_,rfl,(by rw[aG (λz=>by rw[<-z,a3] at n4;cases n4)];exact a3),F.cls,F.aN,(by show 3<1000;decide),?_}};let⟨a4,q4,k4⟩:=gh (u:=.lst []) (fs':=(bf "bars" (.ref p4) (bf "staffs" (.ref p3) (bf "instruments" (.ref p2) (bf "players" (.ref p1) []))))) a3 n4;generalize upd (upd H3 p4 (.lst [])) a (.ins C dx (bf "bars" (.ref p4) (bf "staffs" (.ref p3) (bf "instruments" (.ref p2) (bf "players" (.ref p1) [])))))=H4 at a4 q4 k4 ⊢;refine{_,rfl,a,C,dx,_,rfl,a4,F.cls,F.aK,(by show 4<1000;decide),?_};let⟨a5,k5⟩:=Ed (H:=H4) (a:=a) (C:=C) (dx:=dx) (fs':=(bf "upbeat" .bN (bf "bars" (.ref p4) (bf "staffs" (.ref p3) (bf "instruments" (.ref p2) (bf "players" (.ref p1) []))))));generalize upd H4 a (.ins C dx (bf "upbeat" .bN (bf "bars" (.ref p4) (bf "staffs" (.ref p3) (bf "instruments" (.ref p2) (bf "players" (.ref p1) []))))))=H5 at a5 k5 ⊢;refine λp6 n6=>{_,rfl,a,C,dx,_,rfl,(by rw[aG (λz=>by rw[<-z,a5] at n6;cases n6)];exact a5),F.cls,F.holds,(by show 5<1000;decide),?_}
  let⟨a6,q6,k6⟩:=gh (u:=.dK []) (fs':=(bf "holds" (.ref p6) (bf "upbeat" .bN (bf "bars" (.ref p4) (bf "staffs" (.ref p3) (bf "instruments" (.ref p2) (bf "players" (.ref p1) []))))))) a5 n6;generalize upd (upd H5 p6 (.dK [])) a (.ins C dx (bf "holds" (.ref p6) (bf "upbeat" .bN (bf "bars" (.ref p4) (bf "staffs" (.ref p3) (bf "instruments" (.ref p2) (bf "players" (.ref p1) [])))))))=H6 at a6 q6 k6 ⊢;refine λp7 n7=>{_,rfl,a,C,dx,_,rfl,(by rw[aG (λz=>by rw[<-z,a6] at n7;cases n7)];exact a6),F.cls,F.aI,(by show 6<1000;decide),?_}
  let⟨a7,q7,k7⟩:=gh (u:=.dT []) (fs':=(bf "notes" (.ref p7) (bf "holds" (.ref p6) (bf "upbeat" .bN (bf "bars" (.ref p4) (bf "staffs" (.ref p3) (bf "instruments" (.ref p2) (bf "players" (.ref p1) [])))))))) a6 n7;generalize upd (upd H6 p7 (.dT [])) a (.ins C dx (bf "notes" (.ref p7) (bf "holds" (.ref p6) (bf "upbeat" .bN (bf "bars" (.ref p4) (bf "staffs" (.ref p3) (bf "instruments" (.ref p2) (bf "players" (.ref p1) []))))))))=H7 at a7 q7 k7 ⊢;refine{by show 0<=sizeLine;decide,λp8 n8=>{_,rfl,a,C,dx,_,rfl,(by rw[aG (λz=>by rw[<-z,a7] at n8;cases n8)];exact a7),F.cls,F.aH,(by show 7<1000;decide),?_}};let⟨a8,q8,k8⟩:=gh (u:=.lst []) (fs':=(bf "repeats" (.ref p8) (bf "notes" (.ref p7) (bf "holds" (.ref p6) (bf "upbeat" .bN (bf "bars" (.ref p4) (bf "staffs" (.ref p3) (bf "instruments" (.ref p2) (bf "players" (.ref p1) []))))))))) a7 n8;generalize upd (upd H7 p8 (.lst [])) a (.ins C dx (bf "repeats" (.ref p8) (bf "notes" (.ref p7) (bf "holds" (.ref p6) (bf "upbeat" .bN (bf "bars" (.ref p4) (bf "staffs" (.ref p3) (bf "instruments" (.ref p2) (bf "players" (.ref p1) [])))))))))=H8 at a8 q8 k8 ⊢;refine{_,rfl,a,C,dx,_,rfl,a8,F.cls,F.bU,(by show 8<1000;decide),?_};let⟨a9,k9⟩:=Ed (H:=H8) (a:=a) (C:=C) (dx:=dx) (fs':=(bf "jump" .bN (bf "repeats" (.ref p8) (bf "notes" (.ref p7) (bf "holds" (.ref p6) (bf "upbeat" .bN (bf "bars" (.ref p4) (bf "staffs" (.ref p3) (bf "instruments" (.ref p2) (bf "players" (.ref p1) []))))))))));generalize upd H8 a (.ins C dx (bf "jump" .bN (bf "repeats" (.ref p8) (bf "notes" (.ref p7) (bf "holds" (.ref p6) (bf "upbeat" .bN (bf "bars" (.ref p4) (bf "staffs" (.ref p3) (bf "instruments" (.ref p2) (bf "players" (.ref p1) []))))))))))=H9 at a9 k9 ⊢;let e1:p1≠a:=λz=>by rw[z,ha] at n1;cases n1
  let g1:=k9 _ _ (k8 _ _ (k7 _ _ (k6 _ _ (k5 _ _ (k4 _ _ (k3 _ _ (k2 _ _ (q1) e1) e1) e1) e1) e1) e1) e1) e1;let e2:p2≠a:=λz=>by rw[z,a1] at n2;cases n2
  let g2:=k9 _ _ (k8 _ _ (k7 _ _ (k6 _ _ (k5 _ _ (k4 _ _ (k3 _ _ (q2) e2) e2) e2) e2) e2) e2) e2;let e3:p3≠a:=λz=>by rw[z,a2] at n3;cases n3
  let g3:=k9 _ _ (k8 _ _ (k7 _ _ (k6 _ _ (k5 _ _ (k4 _ _ (q3) e3) e3) e3) e3) e3) e3;let e4:p4≠a:=λz=>by rw[z,a3] at n4;cases n4
  let g4:=k9 _ _ (k8 _ _ (k7 _ _ (k6 _ _ (k5 _ _ (q4) e4) e4) e4) e4) e4;let e6:p6≠a:=λz=>by rw[z,a5] at n6;cases n6
  let g6:=k9 _ _ (k8 _ _ (k7 _ _ (q6) e6) e6) e6;let e7:p7≠a:=λz=>by rw[z,a6] at n7;cases n7
  let g7:=k9 _ _ (k8 _ _ (q7) e7) e7;let e8:p8≠a:=λz=>by rw[z,a7] at n8;cases n8
  let g8:=k9 _ _ (q8) e8;let kH:∀b v,H b=some v->b≠a->H9 b=some v:=λb v hb ne=>k9 _ _ (k8 _ _ (k7 _ _ (k6 _ _ (k5 _ _ (k4 _ _ (k3 _ _ (k2 _ _ (k1 _ _ hb ne) ne) ne) ne) ne) ne) ne) ne) ne;let f1:H p1=none:=n1;let f2:H p2=none:=by
   cases q:H p2 with
   | none=>rfl
   | some v=>let z:=q;rw[show H1 p2=some v from k1 _ _ z e2] at n2;cases n2
  let f3:H p3=none:=by
   cases q:H p3 with
   | none=>rfl
   | some v=>let z:=q;rw[show H2 p3=some v from k2 _ _ (k1 _ _ z e3) e3] at n3;cases n3
  let f4:H p4=none:=by
   cases q:H p4 with
   | none=>rfl
   | some v=>let z:=q;rw[show H3 p4=some v from k3 _ _ (k2 _ _ (k1 _ _ z e4) e4) e4] at n4;cases n4
  let f6:H p6=none:=by
   cases q:H p6 with
   | none=>rfl
   | some v=>let z:=q;rw[show H5 p6=some v from k5 _ _ (k4 _ _ (k3 _ _ (k2 _ _ (k1 _ _ z e6) e6) e6) e6) e6] at n6;cases n6
  let f7:H p7=none:=by
   cases q:H p7 with
   | none=>rfl
   | some v=>let z:=q;rw[show H6 p7=some v from k6 _ _ (k5 _ _ (k4 _ _ (k3 _ _ (k2 _ _ (k1 _ _ z e7) e7) e7) e7) e7) e7] at n7;cases n7
  let f8:H p8=none:=by
   cases q:H p8 with
   | none=>rfl
   | some v=>let z:=q;rw[show H7 p8=some v from k7 _ _ (k6 _ _ (k5 _ _ (k4 _ _ (k3 _ _ (k2 _ _ (k1 _ _ z e8) e8) e8) e8) e8) e8) e8] at n8;cases n8
  let d14:p1≠p4:=λz=>by let h:=k3 _ _ (k2 _ _ (q1) e1) e1;rw[z,n4] at h;cases h
  let d18:p1≠p8:=λz=>by let h:=k7 _ _ (k6 _ _ (k5 _ _ (k4 _ _ (k3 _ _ (k2 _ _ (q1) e1) e1) e1) e1) e1) e1;rw[z,n8] at h;cases h
  let d48:p4≠p8:=λz=>by let h:=k7 _ _ (k6 _ _ (k5 _ _ (q4) e4) e4) e4;rw[z,n8] at h;cases h
  let d23:p2≠p3:=λz=>by let h:=q2;rw[z,n3] at h;cases h
  let d26:p2≠p6:=λz=>by let h:=k5 _ _ (k4 _ _ (k3 _ _ (q2) e2) e2) e2;rw[z,n6] at h;cases h
  let d36:p3≠p6:=λz=>by let h:=k5 _ _ (k4 _ _ (q3) e3) e3;rw[z,n6] at h;cases h
  refine kk H9 {dx,p1,p2,p3,p4,p6,p7,p8,[],[]} {{.bN,.bN,a9,dU,dU},g1,{[],g2,c9},{[],g3,c9},{[],g4,c9},{(g6),rfl},{(g7),rfl},{[],g8,c9},?_,?_} kH λx hx=>?_
  ·show [p1,p4,p8].Nodup
   simp[d14,d18,d48]
  ·show [p2,p3,p6].Nodup
   simp[d23,d26,d36]
  ·let hx':x∈[a,p1,p2,p3,p4,p6,p7,p8]:=by simpa[own] using hx
   simp only[zB,zC,yQ] at hx';rcases hx' with rfl | rfl | rfl | rfl | rfl | rfl | rfl | rfl
   ·exact .inl rfl
   ·exact .inr f1
   ·exact .inr f2
   ·exact .inr f3
   ·exact .inr f4
   ·exact .inr f6
   ·exact .inr f7
   ·exact .inr f8
inductive RT:List Str->List Told->Prop where
 | nil:RT [] []
 | blank {r:Str} {rs:List Str} {ts:List Told}:⇑r<=1000000->words r=[]->RT rs ts->RT (r::rs) ts
 | row {r:Str} {t:Told} {rs:List Str} {ts:List Told}:⇑r<=1000000->words r=aT t->Sl t->⇑(aT t)<=1000000->(∀y∈aT t,⇑y<=600)->RT rs ts->RT (r::rs) (t::ts)
def Runs:cg->List Told->cg->Prop
 | S,[],S'=>S=S'
 | S,t::r,S'=>bY S t=none/\Uk S t/\pO S/\tN S/\Runs (bS S t) r S'
def MA (t:Told):∃ws,aT t=oK t::ws:=by cases t <;> exact{_,rfl}
inductive Cu (C:vm) (vs:List V) (H:Hp) (Q:VK) (E:XK):Prop
 | mk (t:Str) (ts:List Told) (S:cg) (_:vs=[.str t]) (_:⇑t+2<=sizeLine) (_:RT (Txt.split t "\n") ts) (_:Runs {} ts S) (_:∀a o H',bP C H' a S o->aF H H'->(∀x∈own a o,H x=none)->Q (.ref a) H')
theorem Mw {H0 H H':Hp} {v:V} (s:aF H H'):∀{t:Option Told},gq H0 H v t->gq H0 H' v t
 | none,h=>h
 | some (.bO _),h=>h
 | some (.cJ _ _ _),h=>Is.mono s h
 | some (.cR _ _),h=>Is.mono s h
 | some (.bar _),h=>Is.mono s h
 | some (.aK _),h=>Is.mono s h
 | some (.holds _ _ _),h=>Is.mono s h
 | some (.aI _ _ _),⟨a,q,vs,h1,h2,h3,h4,h5⟩=>{a,q,vs,h1,s _ _ h2,s _ _ h3,h4.mono s,h5}
 | some (.rep _),h=>Is.mono s h
 | some (.bU _),h=>Is.mono s h
def C0 (B:Dk P w K T) (F:Cf K T.lz):cE P w base 8 T.oV (Cu T.lz):=by
 nomatch T.oV,["text","score","place","row","words","told","word"]
 let⟨t,ts,S,rfl,tl,rt,run,kk⟩:=h;let sl:=yy;refine{_,(ah (bQ 1 qN (Pf T.RS (C8 T F) (hr.mono ∅) rfl T.QI T.Co.b .nil LZ))
  (ah (cj yL rfl (nI (by rfl) T.fA (af (bW yC yG yF iX (pv 0) (af aL ag)) ag)) (eB (n:=2) rfl (aO (hX 2 qN) (aO (hX 3 qN) dt)))
  (ah (bQ 4 qN (bJ (HY T) hr T.words_of (af (pv 3) ag)))
   (ak (aJ (ptr d7 (d6 aB T.bE (af (pv 4) ag)) aa)
   (ah (bQ 5 qN (bJ (Ib T B) hr T.AX (af (pv 4) ag)))
    (ah (bQ 6 qN (bJ (Ih T B F) hr T.By (af (pv 1) (af (eM (pv 4) aa) (af (pv 5) ag)))))
    (ah (aJ (bC (eQ (pv 6)))
    (ak A3)
    aA)
    (ak (bA (bJ (Kz T F) hr T.Gn (af (pv 1) (af (eM (pv 4) aa) (af (pv 5) ag)))))))))
   aA))))
  (ak (ar (pv 1))))),?_}
 ac_rfl;intro a dx na ndx ne;refine{a,dx,rfl,aE,λH1 o sc1 k1 fr1=>{rfl,?_}};let s1:aF H H1:=λb u hb=>k1 b u (by rw[aG (λz=>by rw[z,na] at hb;cases hb),aG (λz=>by rw[z,ndx] at hb;cases hb)];exact hb) (λz=>by rw[z,na] at hb;cases hb);let f1:∀x∈own a o,H x=none:=λx hx=>by
  rcases fr1 x hx with z | z
  ·rw[z];exact na
  ·cases q:H x with
   | none=>rfl
   | some u=>
    rw[aG (λy=>by rw[y,na] at q;cases q),aG (λy=>by rw[y,ndx] at q;cases q),q] at z;cases z
 exists tl,λl nl=>?_;let s2:aF H1 (upd H1 l (.lst ((Txt.split t "\n").map V.str))):=bz nl;let h2:upd H1 l (.lst ((Txt.split t "\n").map V.str)) l=some (.lst ((Txt.split t "\n").map V.str)):=aE;generalize upd H1 l (.lst ((Txt.split t "\n").map V.str))=H2 at s2 h2 ⊢;generalize hrows:Txt.split t "\n"= rows at rt h2;exists l,_,rfl,ao h2,?_;refine kf (K:=K) (a:=l) (xs:=rows.map V.str) (λi U H'=>∃ts' S' o',RT (rows.drop i) ts'/\Runs S' ts' S/\bP T.lz H' a S' o'/\H' l=some (.lst (rows.map V.str))/\l∉own a o'/\aF H H'/\(∀x∈own a o',H x=none)/\∃u2 u3 u4 u5 u6,U=[some (.str t),some (.ref a),u2,u3,u4,u5,u6])
  {ts,{},o,rt,run,sc1.mono s2,h2,Fn sc1 nl,s1.trans s2,f1,none,none,none,none,none,rfl} (λi U H' _ h=>by let⟨_,_,_,_,_,_,h,_⟩:=h;exact ao h) ?_ ?_
 ·intro i x U H3 p H4 hx hh s34 hp4
  refine cU λN kN0 kR0 _ _=>?_;let⟨ts',S',o',rt',run',sc3,hl3,nl3,s3,f3,u2,u3,u4,u5,u6,rfl⟩:=hh;rw[zI] at hx;cases qr:rows[i]? with
  | none=>rw[qr] at hx;cases hx
  | some r=>
  rw[qr] at hx;simp only[xh,xH] at hx;subst hx;let ed:rows.drop i=r::rows.drop (i+1):=by
   let hi:=(zw.mp qr).1;rw[List.drop_eq_getElem_cons hi];have:=(zw.mp qr).2;rw[this]
  rw[ed] at rt';let s4:=s3.trans s34;let sc4:=sc3.mono s34;cases rt' with
  | blank rl rw0 rt''=>
   refine{p,_,rfl,bu hp4,rfl,?_};refine{_,_,rfl,{_,_,rfl,{rfl,?_}}};exists rl,λp5 H5 s5 h5=>?_;rw[rw0] at h5;exists p5,_,rfl,.inl (ao h5),?_;left;let s05:=s4.trans s5;exact{ts',S',o',rt'',run',sc4.mono s5,s5 _ _ (s34 _ _ hl3),nl3,s05,f3,_,_,_,_,_,rfl}
  | row rl rw0 tok wl ws6 rt''=>
   rename_i t' ts'';let⟨fn,fit,hd,sz,run''⟩:=run';let⟨ws,ew⟩:=MA t';refine{p,_,rfl,bu hp4,rfl,?_};refine{_,_,rfl,{_,_,rfl,{rfl,?_}}};exists rl,λp5 H5 s5 h5=>?_;rw[rw0] at h5;let h5':=h5;rw[ew] at h5;let sc5:=sc4.mono s5;let hl5:=s5 _ _ (s34 _ _ hl3);exists p5,_,rfl,.inl (ao h5),?_;rw[za,zt];left;refine bX (ze ()) ?_;left;let wl':⇑ws<=999999:=by rw[ew,zt] at wl;ext
   refine{p5,oK t',ws,rfl,ao h5,wl',by rw[<-ew];exact ws6,λv H6 s6 tv=>?_};rw[<-ew,Kq tok] at tv;let sc6:=sc5.mono s6;exists p5,_,0,_,rfl,rfl,ao (s6 _ _ h5),bq (j:=0) rfl,?_;exists a,S',o',oK t',v,H5,some t',rfl,sc6,tv,λt2 e2=>by cases e2;exact{(rfl),fit},λH7 s7=>?_
   rw[show P5 S' (some t')=bY S' t' from rfl,fn];exists p5,_,0,_,rfl,rfl,ao (s7 _ _ (s6 _ _ h5)),bq (j:=0) rfl,?_;exists a,S',o',v,H5,t',rfl,sc5,s6.trans s7,Mw s7 tv,fn,hd,sz,λH8 o8 sc8 el8 fr8=>?_;let s07:=((s4.trans s5).trans s6).trans s7;left;refine{ts'',bS S' t',o8,rt'',run'',sc8,el8 _ _ nl3 (s7 _ _ (s6 _ _ hl5)),λz=>?_,λb u hb=>el8 _ _ (λz=>by rw[f3 b z] at hb;cases hb) (s07 _ _ hb),λx hx=>?_,_,_,_,_,_,rfl}
   ·rcases fr8 l z with y | y
    ·exact nl3 y
    ·rw[hl5] at y;cases y
   ·rcases fr8 x hx with y | y
    ·exact f3 x y
    ·exact(s4.trans s5).back y
 ·rintro U H3 ⟨ts',S',o',rt',run',sc3,hl3,nl3,s3,f3,u2,u3,u4,u5,u6,rfl⟩
  rw[za,List.drop_length] at rt';cases rt';let es:S'=S:=run';subst es;change kk a o' H3 sc3 s3 f3
def W8 (S:cg) (b:Int):Prop:=0<=b/\b<⇑S.aN
inductive uC (C:vm) (vs:List V) (H:Hp) (Q:VK) (E:XK):Prop
 | mk (a:vm) (S:cg) (o:Ow) (n:Str) (_:vs=[.ref a,.str n]) (_:bP C H a S o) (_:n∈S.az) (_:Q .bN H)
def gP {C:vm} (F:Cf K C):cE P w base 1 T.fT (uC C):=by
 nomatch T.fT,["score","player"]
 let⟨a,S,o,n,rfl,sc,hn,kk⟩:=h;let⟨ub,jm,ho,hub,hjm⟩:=sc.obj;refine{_,(ak (aJ (gr dQ (pv 1) (bj (pv 0) rfl) (by with_unfolding_all rfl))
  (ak A3)
  aA)),?_}
 ac_rfl;exists a,C,o.dx,_,_,rfl,ho,F.cls,F.az,rfl,?_;refine{o.pl,_,rfl,.inl (ao sc.pl),rfl,gi _,?_};show∃k,V.bl (!FJ (.str n) (S.az.map V.str))=.bl k/\_;rw[iZ,ze hn];change kk
inductive EU (C:vm) (vs:List V) (H:Hp) (Q:VK) (E:XK):Prop
 | mk (a:vm) (S:cg) (o:Ow) (b:Int) (_:vs=[.ref a,.int b]) (_:bP C H a S o) (_:0<=b) (_:b<⇑S.aN) (_:Q .bN H)
def Fz {C:vm} (F:Cf K C):cE P w base 1 T.tF (EU C):=by
 nomatch T.tF,["score","bar"]
 let⟨a,S,o,b,rfl,sc,b0,b1,kk⟩:=h;let⟨ub,jm,ho,hub,hjm⟩:=sc.obj;let⟨vs,hv,il⟩:=sc.ba;refine{_,(ak (aJ (PW.pt (dB (ptr eI (pv 1) aa) (cY (ptr Ba (pv 1) (d6 aB T.bE (af (bj (pv 0) rfl) ag))))))
  (ak A3)
  aA)),?_}
 ac_rfl;left;refine b7 (zd ()) ?_;exists a,C,o.dx,_,_,rfl,ho,F.cls,F.aN,rfl,?_;exists o.ba,vs,rfl,.inl (ao hv),?_;rw[aQ il];left;refine b7 (zd ()) ?_;change kk
def kb (b:Int) (r:Option Str) (h:Int×Str):Option Str:=if h.1<=b then some h.2 else r
def Br (S:cg) (n:Str) (b:Int):Option Str:=((S.holds.lookup n).getD []).foldl (kb b) none
inductive rM (C:vm) (vs:List V) (H:Hp) (Q:VK) (E:XK):Prop
 | mk (a:vm) (S:cg) (o:Ow) (n:Str) (b:Int) (_:vs=[.ref a,.str n,.int b]) (_:bP C H a S o) (_:n∈S.az) (_:0<=b) (_:b<⇑S.aN) (_:∀H',aF H H'->Q (os (Br S n b)) H')
def sI {C:vm} (F:Cf K C):cE P w base 2 T.jP (rM C):=by
 nomatch T.jP,["score","player","bar","instrument","hold"]
 let⟨a,S,o,n,b,rfl,sc,hn,b0,b1,kk⟩:=h;let sl:=yy;let⟨ub,jm,ho,hub,hjm⟩:=sc.obj;refine{_,(ah (bA (bJ (gP T F) hr T.fT (af (pv 0) (af (pv 1) ag))))
  (ah (bA (bJ (Fz T F) hr T.tF (af (pv 0) (af (pv 2) ag))))
  (ah (bQ 3 qN aV)
  (ah (cj yL rfl (bH (A6 (fB hr) (bj (pv 0) rfl) (pv 1) (bg ag) {(rfl),rfl,rfl,rfl})) (hX 4 qN)
  (ak (aJ (ptr gF (bG (pv 4) aa) (pv 2))
   (ak (bQ 3 qN (bG (pv 4) aa)))
   aA)))
  (ak (ar (pv 3))))))),?_}
 ac_rfl;exists a,S,o,n,rfl,sc,hn,?_;exists a,S,o,b,rfl,sc,b0,b1,?_;exists a,C,o.dx,_,_,rfl,ho,F.cls,F.holds,rfl,?_;refine{o.ho,rfl,.inl {_,.inl sc.ho.1},?_};exists by show 0<=sizeLine;decide,?_
 intros p2 H2 s2 h2;refine{_,.inl {_,kS n,.inl (s2 _ _ sc.ho.1),rfl,rfl},?_};obtain⟨h,vs,l,eh,hh,ilh,el⟩:∃h vs l,(cV ((S.holds.map λx=>kS x.1).zip (o.hs.map V.ref)) (kS n)).getD (.ref p2)=.ref h/\H2 h=some (.lst vs)/\aC H2 (l.map JM) vs/\(S.holds.lookup n).getD []=l:=by
  rcases nO (H:=H) n sc.ho.2 with⟨e1,e2⟩ | ⟨l,h,vs,e1,e2,hh,il⟩
  ·exact{p2,[],[],by rw[e2];rfl,h2,by unfold aC;rfl,by rw[e1];rfl}
  ·exact{h,vs,l,by rw[e2];rfl,s2 _ _ hh,il.mono s2,by rw[e1];rfl}
 unfold Br at kk;rw[el] at kk;rw[eh];exists{_,ao hh},?_;refine dJ (K:=K) (a:=h) (xs:=vs) (λi U H'=>H'=H2/\∃v,U=[some (.ref a),some (.str n),some (.int b),some (Sc.os ((l.take i).foldl (kb b) none)),v]) {(rfl),none,rfl} (λi U H' _ h=>by rw[h.1];exact ao hh) ?_ ?_
 ·rintro i x U H3 hx ⟨rfl,v,rfl⟩
  let⟨d,hd,id⟩:=cN ilh hx;let⟨a3,rfl,h3⟩:=PV id;let e:(l.take (i+1)).foldl (kb b) none=kb b ((l.take i).foldl (kb b) none) d:=by rw[dr hd,zW];rfl
  rw[e];left
  by_cases c:d.1<=b
  ·refine bX (ze c) ?_
   rw[show kb b ((l.take i).foldl (kb b) none) d=some d.2 from yK c];change{_,rfl}
  ·refine b7 (zd c) ?_
   rw[show kb b ((l.take i).foldl (kb b) none) d=(l.take i).foldl (kb b) none from yJ c];change{_,rfl}
 ·rintro U H3 ⟨rfl,v,rfl⟩
  rw[aQ ilh,zL];change kk _ s2
inductive tR (C:vm) (vs:List V) (H:Hp) (Q:VK) (E:XK):Prop
 | mk (a:vm) (S:cg) (o:Ow) (n:Str) (b:Int) (_:vs=[.ref a,.str n,.int b]) (_:bP C H a S o) (_:∀H',aF H H'->Q (.bl (!decide ((b,n)∈S.aI.map (·.1)))) H')
def mR {C:vm} (F:Cf K C):cE P w base 1 T.mW (tR C):=by
 nomatch T.mW,["score","player","bar"]
 let⟨a,S,o,n,b,rfl,sc,kk⟩:=h;let⟨ub,jm,ho,hub,hjm⟩:=sc.obj;let nl:⇑(o.ns.map V.ref)=⇑(S.aI.map (·.1)):=by rw[za,za,iH sc.no.2,za]
 let em:(S.aI.map λx=>kN x.1)=(S.aI.map (·.1)).map kN:=by rw[zz];rfl
 refine{_,(ak (ar (oZ (sF (fB hr) (aW (af (pv 2) (af (pv 1) ag))) (bj (pv 0) rfl))))),?_};ac_rfl;exists bK,?_;intros p2 H2 s2 h2;exists a,C,o.dx,_,_,rfl,s2 _ _ ho,F.cls,F.aI,rfl,?_;refine{o.no,_,rfl,.inr {_,kN (b,n),p2,.inl (s2 _ _ sc.no.1),rfl,h2,rfl},?_};rw[em,Af (b,n) nl];exact kk _ s2
inductive Cw (C:vm) (vs:List V) (H:Hp) (Q:VK) (E:XK):Prop
 | mk (a:vm) (S:cg) (o:Ow) (b:Int) (_:vs=[.ref a,.int b]) (_:bP C H a S o) (_:⇑S.az<=1000) (_:∀D H',aF H H'->H' D=some (.lst ((S.az.filter λn=>decide ((b,n)∈S.aI.map (·.1))).map V.str))->Q (.ref D) H')
def C3 {C:vm} (F:Cf K C):cE P w base 2 T.oY (Cw C):=by
 nomatch T.oY,["score","bar"]
 let⟨a,S,o,b,rfl,sc,pl,kk⟩:=h;let sl:=yy;let⟨ub,jm,ho,hub,hjm⟩:=sc.obj;refine{_,(ak (ar (mq (ts:=["player"]) (ys:=["score","bar"]) (js:=[0,1]) (g:=(cz 0)) (tc:=(Oz (tB (fq (tR C) [] E0 (bD (bc 1) (bD (bc 0) (bD (bc 2) d4))))))) (te:=(bc 0)) (bH (bj (pv 0) rfl)) (f9 0) (gs (eA (cB (bJ (mR T F) hr T.mW (af (pv 1) (af (pv 0) (af (pv 2) ag))))))) (pv 0)))),?_};ac_rfl;exists a,C,o.dx,_,_,rfl,ho,F.cls,F.az,rfl,?_;exists{_,ao sc.pl},?_;refine Li (rest:=[some (.ref a),some (.int b)]) (λn=>decide ((b,n)∈S.aI.map (·.1))) () (ao sc.pl) {(none),rfl} ?_ ?_
 ·intro n H1 R hn s1 hR
  exists a,S,o,n,b,rfl,sc.mono s1,λH2 s2=>?_;refine{_,rfl,?_};show R (!!_) H2;rw[Bool.not_not];exact hR _ s2
 ·intro D H1 s1 _ h1
  exact kk D H1 s1 h1
def Qz (S:cg) (H:Hp) (v:V):Prop:=v=.bN\/∃(p:vm) (b:Int) (m:Str),v=.ref p/\H p=some (.tup [.int b,.str m])/\(b,m)∈S.aI.map (·.1)
inductive ES (C:vm) (vs:List V) (H:Hp) (Q:VK) (E:XK):Prop
 | mk (a q:vm) (S:cg) (o:Ow) (bs:List Int) (_:vs=[.ref a,.ref q]) (_:bP C H a S o) (_:H q=some (.lst (bs.map V.int))) (_:⇑S.az<=1000) (_:∀v H',aF H H'->Qz S H' v->Q v H')
def Fx {C:vm} (F:Cf K C):cE P w base 3 T.tD (ES C):=by
 nomatch T.tD,["score","silent","bar","others"]
 let⟨a,q,S,o,bs,rfl,sc,hq,pl,kk⟩:=h;refine{_,(ah (cj yL rfl (Ti (by rfl) T.KG (af (pv 1) ag)) (hX 2 qN)
  (ah (bQ 3 qN (bJ (C3 T F) hr T.oY (af (pv 0) (af (pv 2) ag))))
   (ak (aJ (ptr d7 (d6 aB T.bE (af (pv 3) ag)) aa)
   (ak (ar (aW (af (pv 2) (af (eM (pv 3) aa) ag)))))
   aA))))
  (ak (ar aV))),?_}
 ac_rfl;exists q,_,rfl,ao hq,?_;refine Rv (K:=K) (a:=q) (xs:=bs.map V.int) (λi U H'=>aF H H'/\∃(w2 w3:Option V),U=[some (.ref a),some (.ref q),w2,w3]) {aD _,none,none,rfl} (λi U H' _ h=>ao (h.1 _ _ hq)) ?_ ?_
 ·intro i x U H1 hi hx hh
  refine cU λN kN0 kR0 _ _=>?_;let⟨s1,w2,w3,rfl⟩:=hh;rw[zI] at hx;cases qr:bs[⇑(bs.map V.int)-1-i]? with
  | none=>rw[qr] at hx;cases hx
  | some b=>
  rw[qr] at hx;simp only[xh,xH] at hx;subst hx;exists a,S,o,b,rfl,sc.mono s1,pl,λD H2 s2 h2=>?_;exists D,_,rfl,.inl (ao h2),?_;rw[za];let fl:∀y∈S.az.filter (λn=>decide ((b,n)∈S.aI.map (·.1))),(b,y)∈S.aI.map (·.1):=λy hy=>yb (wo.mp hy).2;generalize S.az.filter _=l at h2 fl;left;cases l with
  | nil=>
   refine b7 (zd (by simp)) ?_;change{s1.trans s2,_,_,rfl}
  | cons y l=>
   refine bX (ze (by rw[zt];ext)) ?_;exists D,_,_,_,rfl,rfl,ao h2,bq (j:=0) rfl,?_;exists bK,?_;intros p3 H3 s3 h3;change kk _ _ ((s1.trans s2).trans s3) (.inr {p3,b,y,rfl,h3,fl y zp})
 ·rintro U H1 ⟨s1,w2,w3,rfl⟩
  change kk _ _ s1 (.inl rfl)
def Tu (H H':Hp):Prop:=∀b xs,H b=some (.tup xs)->H' b=some (.tup xs)
def Tu.of {H H':Hp} (s:aF H H'):Tu H H':=λb xs h=>s _ _ h
def Tu.then {H H' H2:Hp} (h:Tu H H') (k:Tu H' H2):Tu H H2:=λb xs e=>k _ _ (h _ _ e)
def Tu.put {H:Hp} {N:vm} {xs ys:List V} (h:H N=some (.lst xs)):Tu H (L2.upd H N (.lst ys)):=λb zs e=>by
 rw[aG]
 ·exact e
 ·rintro rfl
  rw[h] at e;cases e
def Qz.mono {S:cg} {H H':Hp} {v:V} (t:Tu H H') (h:Qz S H v):Qz S H' v:=by
 rcases h with h | ⟨p,b,m,h1,h2,h3⟩
 ·exact .inl h
 ·exact .inr {p,b,m,h1,t _ _ h2,h3}
def Uz (S:cg) (H:Hp) (u:V):Prop:=∃(a:vm) (b:Int) (c:V),u=.ref a/\H a=some (.tup [.int b,c])/\Qz S H c
theorem Uz.mono {S:cg} {H H':Hp} {u:V} (t:Tu H H') (h:Uz S H u):Uz S H' u:=by
 let⟨a,b,c,e,h1,h2⟩:=h;exact{a,b,c,e,t _ _ h1,h2.mono t}
inductive J5 (C:vm) (vs:List V) (H:Hp) (Q:VK) (E:XK):Prop
 | mk (a:vm) (S:cg) (o:Ow) (n:Str) (q:Int) (_:vs=[.ref a,.str n,.int q]) (_:bP C H a S o) (_:⇑S.az<=1000) (_:⇑S.aN<=1000) (_:n∈S.az) (_:∀D us H',aF H H'->H' D=some (.lst us)->⇑us<=1000->(∀u∈us,Uz S H' u)->Q (.ref D) H')
def Kx {C:vm} (F:Cf K C):cE P w base 4 T.entries (J5 C):=by
 nomatch T.entries,["score","player","quiet","found","silent","bar"]
 let⟨a,S,o,n,q,rfl,sc,pl,bl,hn,kk⟩:=h;let sl:=yy;let⟨ub,jm,ho,hub,hjm⟩:=sc.obj;let⟨bv,hbv,ilb⟩:=sc.ba;refine{_,(ah (bA (bJ (gP T F) hr T.fT (af (pv 0) (af (pv 1) ag))))
  (ah (bQ 3 qN (bg ag))
  (ah (bQ 4 qN (bg ag))
  (ah (cj yL rfl (cy (by rfl) T.cK (af (d6 aB T.bE (af (bj (pv 0) rfl) ag)) ag)) (hX 5 qN)
  (ak (aJ (cB (bJ (mR T F) hr T.mW (af (pv 0) (af (pv 1) (af (pv 5) ag)))))
   (ak (bA (bW yz yB yA bw (pv 4) (af (pv 5) ag))))
   (ah (aJ (ptr Ba (d6 aB T.bE (af (pv 4) ag)) (pv 2))
    (ak (bA (bW yz yB yA bw (pv 3) (af (aW (af (pv 5) (af (bJ (Fx T F) hr T.tD (af (pv 0) (af (pv 4) ag))) ag))) ag))))
    aA)
    (ak (bQ 4 qN (bg ag)))))))
  (ak (ar (pv 3))))))),?_}
 ac_rfl;exists a,S,o,n,rfl,sc,hn,?_;exists by show 0<=sizeLine;decide,?_
 intros D nD s1 h1 H1
 exists by show 0<=sizeLine;decide,?_
 intros E2 nE s2 h2 H2
 let s02:=s1.trans s2;exists a,C,o.dx,_,_,rfl,s02 _ _ ho,F.cls,F.aN,rfl,?_;exists o.ba,bv,rfl,.inl (ao (s02 _ _ hbv)),?_;rw[aQ ilb];exists by ext,(),?_
 rw[show((⇑S.aN:Int)).toNat=⇑S.aN from by ext];refine fC (λi U H'=>∃(us:List V) (bs:List Int) (e:vm) (w5:Option V),U=[some (.ref a),some (.str n),some (.int q),some (.ref D),some (.ref e),w5]/\aF H H'/\H' D=some (.lst us)/\H' e=some (.lst (bs.map V.int))/\H e=none/\D≠e/\⇑bs<=i/\⇑us<=i/\∀u∈us,Uz S H' u)
  {[],[],E2,none,rfl,s02,s2 _ _ h1,h2,s1.back nE,(λz=>by rw[<-z,h1] at nE;cases nE),yd _,yd _,λu hu=>by cases hu} ?_ ?_
 ·intro i U H3 hi hh
  refine cU λN kN0 kR0 _ _=>?_;let⟨us,bs,e,w5,rfl,s3,h3,he,ne,de,bl3,ul,uo⟩:=hh;exists a,S,o,n,_,rfl,sc.mono s3,λH4 s4=>?_;let s04:=s3.trans s4;let h34:=s4 _ _ h3;let he4:=s4 _ _ he;rw[Int.zero_add];cases c1:decide (((i:Int),n)∈S.aI.map (·.1)) with
  | false=>
   exists .inl {rfl,_,ao he4},?_;exists e,_,_,rfl,rfl,he4,by rw[za];ext,?_
   change{us,bs++[(i:Int)],e,_,rfl,bF ne s04,by rw[aG de];exact h34,by rw[aE,zj];rfl,ne,de,by rw[zg];show ⇑bs+1<=_;ext,(),λu hu=>(uo u hu).mono ((Tu.of s4).then (Tu.put he4))}
  | true=>
   exists e,_,rfl,.inl (ao he4),?_;rw[za];left;refine join (λU H'=>∃(us:List V) (w5:Option V),U=[some (.ref a),some (.str n),some (.int q),some (.ref D),some (.ref e),w5]/\aF H H'/\H' D=some (.lst us)/\⇑us<=i+1/\∀u∈us,Uz S H' u) ?_ ?_ ?_
   ·intro Nz hN c2
    exists .inl {rfl,_,ao h34},?_;exists a,e,S,o,bs,rfl,sc.mono s04,he4,pl,λv H5 s5 cv=>?_;exists bK,?_;intros p6 H6 s6 h6;let s46:=s5.trans s6;let h36:=s46 _ _ h34;refine{D,us,_,rfl,rfl,h36,(),?_};let tu:Tu H6 (upd H6 D (.lst (us++[.ref p6]))):=Tu.put h36;left;refine hN _ _ {_,_,rfl,bF nD (s04.trans s46),aE,by rw[zg];show ⇑us+1<=_;ext,λu hu=>?_};rcases zE.mp hu with z | z
    ·exact(uo u z).mono ((Tu.of (s4.trans s46)).then tu)
    ·rw[zy.mp z]
     exact{p6,_,v,rfl,tu _ _ h6,cv.mono ((Tu.of s6).then tu)}
   ·intro Nz hN c2
    change hN _ _ {us,_,rfl,s04,h34,(),λu hu=>(uo u hu).mono (Tu.of s4)}
   ·rintro U H5 ⟨us,w5,rfl,s5,h5,ul5,uo5⟩
    exists by show 0<=sizeLine;decide,?_
    intros E6 nE6 s6 h6 H6
    change{us,[],E6,_,rfl,s5.trans s6,s6 _ _ h5,h6,s5.back nE6,(λz=>by rw[<-z,h5] at nE6;cases nE6),yd _,(),λu hu=>(uo5 u hu).mono (Tu.of s6)}
 ·rintro U H3 ⟨us,bs,e,w5,rfl,s3,h3,he,ne,de,bl3,ul,uo⟩
  change kk D us _ s3 h3 () uo
def Gh {H:Hp} {b:Sc.N2} {v:V} (h:Is H (ji b) v):∃a m q,v=.ref a/\H a=some (.tup [.ref m,.int b.key,.ref q])/\H m=some (gp b.aP)/\H q=some (.tup (b.marks.map V.str)):=by
 unfold ji Is at h;let⟨a,vs,rfl,ha,hl⟩:=h;unfold aC at hl;let⟨v1,r1,rfl,h1,hl⟩:=hl;unfold aC at hl;let⟨v2,r2,rfl,h2,hl⟩:=hl;unfold aC at hl;let⟨v3,r3,rfl,h3,hl⟩:=hl;unfold aC at hl;subst hl;unfold Is at h2;subst h2;unfold lW Is at h3;let⟨q,us,rfl,hq,hle⟩:=h3;have:=dP (o:=some b.aP) h1;cases this with
 | ref hm=>exact{a,_,q,rfl,ha,hm,by rw[dG hle] at hq;exact hq}
noncomputable def Ah (S:cg) (b:Nat):Bool:=match S.aN[b]?,S.aN[b-1]? with
 | some x,some y=>(!decide (x.aP=y.aP))||(!decide (x.key=y.key))||(!decide (x.marks=[]))||!decide (S.len b=S.len (b-1))
 | _,_=>false
inductive pU (C:vm) (vs:List V) (H:Hp) (Q:VK) (E:XK):Prop
 | mk (a:vm) (S:cg) (o:Ow) (b:Nat) (_:vs=[.ref a,.int b]) (_:bP C H a S o) (_:1<=b) (_:b<⇑S.aN) (_:(∀x∈S.aN,Ew x)) (_:∀H',aF H H'->Q (.bl (Ah S b)) H')
def FA {C:vm} (F:Cf K C):cE P w base 5 T.tG (pU C):=by
 nomatch T.tG,["score","bar","here","ahead"]
 let⟨a,S,o,b,rfl,sc,b0,b1,bo,kk⟩:=h;let⟨ub,jm,ho,hub,hjm⟩:=sc.obj;let⟨bv,hba,ilb⟩:=sc.ba;let bl:=aQ ilb;let g1:bv[b]?=some (bv[b]'()):=zb ();let g2:bv[b-1]?=some (bv[b-1]'()):=zb ();let⟨x,hx,ix⟩:=cN ilb g1;let⟨y,hy,iy⟩:=cN ilb g2;let⟨ax,mx,qx,ex,hax,hmx,hqx⟩:=Gh ix;let⟨ay,my,qy,ey,hay,hmy,hqy⟩:=Gh iy;rw[ex] at g1;rw[ey] at g2;let et:Ah S b=((!decide (x.aP=y.aP))||(!decide (x.key=y.key))||(!decide (x.marks=[]))||!decide (S.len b=S.len (b-1))):=by unfold Ah;rw[hx,hy]
 refine{_,(ah (bQ 2 qN (eM (bj (pv 0) rfl) (pv 1)))
  (ah (bQ 3 qN (eM (bj (pv 0) rfl) (au gN (pv 1) aa)))
  (ah (aJ (PW.pt (dB (ptr (sG hr.units) (bG (pv 2) aa) (bG (pv 3) aa)) (dB (ptr iU (bG (pv 2) aa) (bG (pv 3) aa)) (cY (ptr d7 (d6 aB T.bE (af (bG (pv 2) aa) ag)) aa)))))
  (ak (ar mM))
  aA)
  (ak (ar (dw (sG hr.units) (bJ (iV T F) hr T.gC (af (pv 0) (af (pv 1) ag))) (bJ (iV T F) hr T.gC (af (pv 0) (af (au gN (pv 1) aa) ag))) (gQ _))))))),?_}
 ac_rfl;exists a,C,o.dx,_,_,rfl,ho,F.cls,F.aN,rfl,?_;exists o.ba,bv,_,_,rfl,rfl,ao hba,bq g1,?_;exists a,C,o.dx,_,_,rfl,ho,F.cls,F.aN,rfl,?_;exists o.ba,bv,_,_,rfl,rfl,ao hba,(by rw[show(b:Int)-1=((b-1:Nat):Int) from by ext];exact bq g2),?_;exists mx,my,_,_,rfl,rfl,.inr {bu hmx,bu hmy},.inr (.inr {(rfl),rfl}),?_;rw[R7];refine{_,rfl,?_};refine vX ((!decide (x.aP=y.aP))||(!decide (x.key=y.key))||(!decide (x.marks=[]))) ?_ ?_ ?_
 ·intro c1 Z hz
  rw[c1,Bool.false_or] at hz;left;rw[TX];refine vX ((!decide (x.key=y.key))||(!decide (x.marks=[]))) ?_ ?_ hz
  ·intro c2 Z hz
   rw[c2,Bool.false_or] at hz;exists qx,_,rfl,.inr (bu hqx),?_;rw[za];left;rw[show decide ((0:Int)<(⇑x.marks:Nat))=!decide (x.marks=[]) from by cases x.marks <;> simp];exact hz
  ·intro c2;rw[c2];rfl
 ·intro c1;rw[c1];rfl
 ·cases c:((!decide (x.aP=y.aP))||(!decide (x.key=y.key))||(!decide (x.marks=[]))) with
  | true=>
   refine bX rfl ?_;left;rw[et,c,Bool.true_or] at kk;exact kk _ (aD _)
  | false=>
   rw[et,c,Bool.false_or] at kk;refine b7 rfl ?_;exists a,S,o,b,rfl,sc,b1,bo,λp1 H1 s1 h1=>?_;exists a,S,o,b-1,(by rw[show(b:Int)-1=((b-1:Nat):Int) from by ext];rfl),sc.mono s1,(),bo,λp2 H2 s2 h2=>?_;refine{p1,p2,_,_,rfl,rfl,.inr {bu (s2 _ _ h1),bu h2},.inr (.inr {(rfl),rfl}),?_};rw[R7];exact kk _ (s1.trans s2)
noncomputable def vo (jo:Option Jump):List Int:=match jo with
 | none=>[]
 | some j=>[j.Bm,j.vq+1,j.dn+1]++j.fJ.toList
noncomputable def AS (r:Rep):List Int:=[r.first,r.last+1]++r.ends.map (·.1)
inductive kB (vs:List V) (H:Hp) (Q:VK) (E:XK):Prop
 | mk (v:V) (r:Rep) (_:vs=[v]) (_:Is H (i6 r) v) (_:⇑r.ends<=1000) (_:∀D H',aF H H'->H D=none->H' D=some (.lst ((AS r).map V.int))->Q (.ref D) H')
def kO:cE P w base 1 T.eX kB:=by
 nomatch T.eX,["repeat"]
 let⟨v,r,rfl,iv,hl,kk⟩:=h;let sl:=yy;let⟨a,e,rfl,ha,he⟩:=fk iv;unfold Is at he;let⟨e',us,ee,hu,ilu⟩:=he;cases ee;refine{_,(ak (ar (au gw (bg (af (bG (pv 0) aa) (af (au aR (bG (pv 0) aa) aa) ag))) (mq (ts:=["end"]) (ys:=[]) (js:=[]) (te:=(fj (mI K) (bc 0) (tC (.int (0))))) (iT (bG (pv 0) aa)) (f9 0) bB (bG (pv 0) aa))))),?_};ac_rfl;exists bK,?_;intros p1 H1 s1 h1;let ha1:=s1 _ _ ha;exists{_,bu (s1 _ _ hu)},?_;let⟨ps,f1,f2,f3⟩:=kU ilu;let pl:⇑ps<=1000:=by rw[<-f1,za] at hl;exact hl
 refine fm (enc:=λz:Sc.End×V=>z.2) (ws:=ps) (λz=>.int z.1.1) (λU=>∃v,U=[v]) () (by rw[f2];exact s1 _ _ hu) {(none),rfl} ?_ ?_
 ·rintro z U H6 R' hz s6 ⟨_,rfl⟩ r'
  let⟨a6,q6,ev,h6,h7⟩:=pB (f3 z hz);rw[ev];let h66:=s6 _ _ (s1 _ _ h6);change r' _ _ _ (aD _) cH {_,rfl}
 ·intro D vs H6 s6 hD il
  let e5:ps.map (λz=>Dt.int z.1.1)=(r.ends.map (·.1)).map Dt.int:=by rw[<-f1,zz,zz];rfl
  rw[e5] at il;rw[eD il] at hD;refine{p1,D,_,_,rfl,rfl,ao (s6 _ _ h1),ao hD,by rw[za,za];show 2+_<=_;ext,?_};intro G nG;exact kk G _ ((s1.trans s6).trans (bz nG)) ((s1.trans s6).back nG) (by rw[aE];unfold AS;rw[zj];rfl)
inductive mG (vs:List V) (H:Hp) (Q:VK) (E:XK):Prop
 | mk (v:V) (jo:Option Jump) (_:vs=[v]) (_:Is H (dO i7 jo) v) (_:∀D H',aF H H'->H' D=some (.lst ((vo jo).map V.int))->Q (.ref D) H')
def mS:cE P w base 1 T.fV mG:=by
 nomatch T.fV,["jump","told"]
 let⟨v,jo,rfl,iv,kk⟩:=h;let sl:=yy;refine{_,(ah (aJ (bC (cm (pv 0)))
  (ak (ar (bg ag)))
  aA)
  (ah (bQ 1 qN (bg (af (bG (pv 0) aa) (af (au aR (bG (pv 0) aa) aa) (af (au aR (bG (pv 0) aa) aa) ag)))))
  (ah (aJ (bC (eQ (bG (pv 0) aa)))
  (ak (bA (bW yz yB yA bw (pv 1) (af (bG (pv 0) aa) ag))))
  aA)
  (ak (ar (pv 1)))))),?_}
 ac_rfl;left;cases jo with
 | none=>
  unfold dO Is at iv;subst iv;refine bX rfl ?_;exists by show 0<=sizeLine;decide,?_
  intros p1 H1 s1 h1;exact kk p1 _ s1 h1
 | some j=>
  let⟨aj,rfl,haj⟩:=qM iv;refine b7 rfl ?_;exists by show 3<=sizeLine;decide,?_
  intros D nD s1 h1 H1
  let haj1:=s1 _ _ haj;left;cases ec:j.fJ with
  | none=>
   refine b7 rfl ?_;change kk D _ s1 (by rw[h1];unfold vo;dsimp only;rw[ec];rfl)
  | some c=>
   rw[ec] at haj1;refine bX rfl ?_;exists .inl {rfl,_,ao h1},?_;exists D,_,_,rfl,rfl,h1,(by show 3<sizeLine;decide),?_;change kk D _ (bF nD s1) (by rw[aE];unfold vo;dsimp only;rw[ec];rfl)
noncomputable def Bs (S:cg) (n:Str):List Int:=((S.holds.lookup n).getD []).map (·.1)
noncomputable def GU (S:cg) (n:Str):List Int:=Bs S n++vo S.bU++(S.aH.map AS).flatten
noncomputable def WV (S:cg) (n:Str):List Int:=kg (λb=>decide (b∈GU S n)||Ah S b.toNat) 1 (⇑S.aN-1)
def VG (S:cg):Prop:=(∀x∈S.aN,Ew x)/\⇑S.aN<=200/\⇑S.aH<=1000/\(∀r∈S.aH,⇑r.ends<=9)/\∀x∈S.holds,⇑x.2<=1000
inductive Mz (C:vm) (vs:List V) (H:Hp) (Q:VK) (E:XK):Prop
 | mk (a:vm) (S:cg) (o:Ow) (n:Str) (_:vs=[.ref a,.str n]) (_:bP C H a S o) (_:VG S) (_:n∈S.az) (_:∀D H',aF H H'->H' D=some (.lst ((WV S n).map V.int))->Q (.ref D) H')
def MV {C:vm} (F:Cf K C):cE P w base 6 T.breaks (Mz C):=by
 nomatch T.breaks,["score","player","told","repeat"]
 let⟨a,S,o,n,rfl,sc,⟨bo,b2,rl,re,hl⟩,hn,kk⟩:=h;let sl:=yy;let⟨ub,jm,ho,hub,hjm⟩:=sc.obj;let⟨bv,hba,ilb⟩:=sc.ba;let⟨rv,hre,ilr⟩:=sc.re;refine{_,(ah (bA (bJ (gP T F) hr T.fT (af (pv 0) (af (pv 1) ag))))
  (ah (bQ 2 qN (mq (ts:=["hold"]) (ys:=[]) (js:=[]) (te:=(fj (mI K) (bc 0) (tC (.int (0))))) (bH (A6 (fB hr) (bj (pv 0) rfl) (pv 1) (bg ag) {(rfl),rfl,rfl,rfl})) (f9 0) bB (bG (pv 0) aa)))
  (ah (bA (bW yz yY yX pz (pv 2) (af (bJ (mS T) hr T.fV (af (bj (pv 0) rfl) ag)) ag)))
  (ah (cj yL rfl (bH (bj (pv 0) rfl)) (hX 3 qN)
  (ak (bA (bW yz yY yX pz (pv 2) (af (bJ (kO T) hr T.eX (af (pv 3) ag)) ag)))))
  (ak (ar (mq (ts:=["bar"]) (ys:=["score","told"]) (js:=[0,2]) (g:=(cz 0)) (tc:=(VN (oq (fj (Td K false) (bc 0) (bc 2))) (tB (fq (pU C) [] E0 (bD (bc 1) (bD (bc 0) d4)))))) (te:=(bc 0)) (sE (by rfl) T.cK (af aa (af (d6 aB T.bE (af (bj (pv 0) rfl) ag)) ag))) (f9 0) (gs (PW.pt (dB (gr iG (pv 0) (pv 2) (by with_unfolding_all rfl)) (cY (cB (bJ (FA T F) hr T.tG (af (pv 1) (af (pv 0) ag)))))))) (pv 0)))))))),?_}
 ac_rfl;exists a,S,o,n,rfl,sc,hn,?_;exists a,C,o.dx,_,_,rfl,ho,F.cls,F.holds,rfl,?_;refine{o.ho,rfl,.inl {_,.inl sc.ho.1},?_};exists by show 0<=sizeLine;decide,?_
 intros p2 H2 s2 h2;refine{_,.inl {_,kS n,.inl (s2 _ _ sc.ho.1),rfl,rfl},?_};obtain⟨h,vs,l,eh,hh,ilh,el⟩:∃h vs l,(cV ((S.holds.map λx=>kS x.1).zip (o.hs.map V.ref)) (kS n)).getD (.ref p2)=.ref h/\H2 h=some (.lst vs)/\aC H2 (l.map JM) vs/\(S.holds.lookup n).getD []=l:=by
  rcases nO (H:=H) n sc.ho.2 with⟨e1,e2⟩ | ⟨l,h,vs,e1,e2,hh,il⟩
  ·exact{p2,[],[],by rw[e2];rfl,h2,by unfold aC;rfl,by rw[e1];rfl}
  ·exact{h,vs,l,by rw[e2];rfl,s2 _ _ hh,il.mono s2,by rw[e1];rfl}
 rw[eh];let ll:⇑l<=1000:=by
  rw[<-el];cases q:S.holds.lookup n with
  | none=>exact yd _
  | some r=>exact hl (n,r) (mem_of_lookup q)
 refine{h,rfl,{_,ao hh},?_};let⟨ps,f1,f2,f3⟩:=kU ilh;let pl:⇑ps<=1000:=by rw[<-f1,za] at ll;exact ll
 refine dW (enc:=λz:(Int×Str)×V=>z.2) (ws:=ps) (λz=>.int z.1.1) (λU=>∃v,U=[v]) () (by rw[f2];exact ao hh) {(none),rfl} ?_ ?_
 ·rintro z U H6 R' hz s6 ⟨_,rfl⟩ r'
  let⟨a6,ev,h6⟩:=PV (f3 z hz);rw[ev];let h66:=s6 _ _ h6;change r' _ _ _ (aD _) cH {_,rfl}
 intro D us H3 s3 nD hD il;let e5:ps.map (λz=>Dt.int z.1.1)=(Bs S n).map Dt.int:=by unfold Bs;rw[el,<-f1,zz,zz];rfl
 rw[e5] at il;rw[eD il] at hD;let s03:=s2.trans s3;let nD0:=s2.back nD;let lh:⇑(Bs S n)<=1000:=by unfold Bs;rw[za,el];exact ll
 exists .inl {rfl,_,ao hD},?_;exists a,C,o.dx,_,_,rfl,s03 _ _ ho,F.cls,F.bU,rfl,?_;exists _,S.bU,rfl,hjm.mono s03,λJ H4 s4 hJ=>?_;let lj:⇑(vo S.bU)<=4:=by
  unfold vo;cases S.bU with
  | none=>exact yd _
  | some j=>cases q:j.fJ <;> simp[q]
 refine .inl {D,J,_,_,rfl,rfl,s4 _ _ hD,hJ,by rw[za,za];ext,?_};rw[<-zj];let s5:aF H (upd H4 D (.lst ((Bs S n++vo S.bU).map V.int))):=bF nD0 (s03.trans s4);let h5:upd H4 D (.lst ((Bs S n++vo S.bU).map V.int)) D=some (.lst ((Bs S n++vo S.bU).map V.int)):=aE;generalize upd H4 D _=H5 at s5 h5 ⊢;let lt:⇑(Bs S n++vo S.bU)<=1004:=by rw[zg];ext
 let etl:GU S n=Bs S n++vo S.bU++(S.aH.map AS).flatten:=rfl;generalize Bs S n++vo S.bU=l0 at h5 lt etl;exists a,C,o.dx,_,_,rfl,s5 _ _ ho,F.cls,F.aH,rfl,?_;exists{_,ao (s5 _ _ hre)},?_;let rvl:=aQ ilr;refine Nb (K:=K) (a:=o.re) (xs:=rv) (λi U H'=>∃(w3:Option V),aF H H'/\H' D=some (.lst ((l0++((S.aH.take i).map AS).flatten).map V.int))/\⇑(l0++((S.aH.take i).map AS).flatten)<=1004+11*i/\U=[some (.ref a),some (.str n),some (.ref D),w3]) {none,s5,by rw[h5];simp,by simpa using lt,rfl} (λi U H' _ h=>by let⟨_,s,_⟩:=h;exact ao (s _ _ hre)) ?_ ?_
 ·rintro Nx i x U H6 hN hx ⟨w3,s6,h6,l6,rfl⟩
  let⟨r,hr',ir⟩:=cN ilr hx;let hi:=(zw.mp hx).1;let rm:=re r (zA hr');let lr:⇑(AS r)<=11:=by unfold AS;rw[zg,za];show 2+_<=11;ext
  let e2:l0++((S.aH.take (i+1)).map AS).flatten=l0++((S.aH.take i).map AS).flatten++AS r:=by rw[dr hr',zj,y8,zD];simp
  exists .inl {rfl,_,ao h6},?_;exists x,r,rfl,ir.mono s6,(),λG H7 s7 nG hG=>?_;refine .inl {D,G,_,_,rfl,rfl,s7 _ _ h6,hG,by rw[za,za];ext,?_};rw[<-zj,<-e2];change hN _ _ {_,bF nD0 (s6.trans s7),aE,by rw[e2,zg];ext,rfl}
 ·rintro U H6 ⟨w3,s6,h6,l6,rfl⟩
  rw[rvl,zL,<-etl] at h6 l6;exists a,C,o.dx,_,_,rfl,s6 _ _ ho,F.cls,F.aN,rfl,?_;exists o.ba,bv,rfl,.inl (ao (s6 _ _ hba)),?_;rw[aQ ilb];exists _,_,rfl,{(()),(),(),()},?_;rw[show((⇑S.aN:Int)-1).toNat=⇑S.aN-1 from by ext];refine gk (rest:=[some (.ref a),some (.ref D)]) (λb=>decide (b∈GU S n)||Ah S b.toNat) () ⟨none,rfl⟩ ?_ λD7 H7 s7 nD7 h7=>kk D7 _ (s6.trans s7) h7;intro b H7 R hb0 hb1 s7 hR;exists D,_,rfl,.inl (ao (s7 _ _ h6)),rfl,nP _,?_;show∃k,V.bl (FJ (.int b) ((GU S n).map V.int))=.bl k/\_;rw[qT];refine{_,rfl,?_};cases c:decide (b∈GU S n) with
  | true=>
   rw[c,Bool.true_or] at hR;exact bX rfl (hR _ (aD _))
  | false=>
   rw[c,Bool.false_or] at hR;refine b7 rfl ?_;exists a,S,o,b.toNat,by rw[show((b.toNat:Nat):Int)=b from by ext];rfl,sc.mono (s6.trans s7),(),(),bo,λH8 s8=>?_
   exact{_,rfl,hR _ s8}
theorem Runs.app:∀{a b:List Told} {S S1 S2:cg},Runs S a S1->Runs S1 b S2->Runs S (a++b) S2
 | [],_,_,_,_,h,k=>by
  let e:_=_:=h;subst e;exact k
 | _::_,_,_,_,_,⟨h1,h2,h3,h4,h5⟩,k=>{h1,h2,h3,h4,Runs.app h5 k}
theorem qk:∀{l:List Str} {S:cg},(S.az++l).Nodup->⇑(S.az++l)<=12->pO S->tN S->Runs S (l.map .bO) {S with az:=S.az++l}
 | [],S,_,_,_,_=>by
  show S=_;rw[zT]
 | n::r,S,nd,hl,hd,sz=>by
  let nd':=nd;rw[zQ] at nd';rw[zg,zt] at hl;refine{?_,trivial,hd,sz,?_}
  ·unfold bY
   dsimp only;rw[yJ (λz=>nd'.2.2 n z n zp rfl),yJ ()]
  ·let ih:=qk (l:=r) (S:=bS S (.bO n)) (by show(S.az++[n]++r).Nodup;rw[zD];exact nd) (by show(S.az++[n]++r).length<=12;simp only[zg,zt,xi];ext) hd {by show(S.az++[n]).length<=1000000;rw[zg];simp;ext,sz.2}
   let e:({bS S (.bO n) with az:=(bS S (.bO n)).az++r}:cg)={S with az:=S.az++n::r}:=by
    show({S with az:=S.az++[n]++r}:cg)=_;rw[zD];rfl
   rw[e] at ih;exact ih
theorem AO:∀{l:List (Str×(Int×Int)×(Int×Int))} {S:cg},((S.aq++l).map (·.1)).Nodup->⇑(S.aq++l)<=12->pO S->tN S->Runs S (l.map λx=>.cJ x.1 x.2.1 x.2.2) {S with aq:=S.aq++l}
 | [],S,_,_,_,_=>by
  show S=_;rw[zT]
 | n::r,S,nd,hl,hd,sz=>by
  let nd':=nd;rw[zj,zQ] at nd';rw[zg,zt] at hl;refine{?_,trivial,hd,sz,?_}
  ·unfold bY
   dsimp only;rw[yJ (λz=>nd'.2.2 n.1 z n.1 (by rw[zh];exact zp) rfl),yJ ()]
  ·let ih:=AO (l:=r) (S:=bS S (.cJ n.1 n.2.1 n.2.2)) (by show((S.aq++[n]++r).map _).Nodup;rw[zD];exact nd) (by show(S.aq++[n]++r).length<=12;simp only[zg,zt,xi];ext) hd {sz.1,by show(S.aq++[n]).length<=1000000;rw[zg];simp;ext,sz.2.2}
   let e:({bS S (.cJ n.1 n.2.1 n.2.2) with aq:=(bS S (.cJ n.1 n.2.1 n.2.2)).aq++r}:cg)={S with aq:=S.aq++n::r}:=by
    show({S with aq:=S.aq++[n]++r}:cg)=_;rw[zD];rfl
   rw[e] at ih;exact ih
theorem DT:∀{l:List Sc.N2} {S:cg},⇑(S.aN++l)<=200->pO S->tN S->Runs S (l.map .bar) {S with aN:=S.aN++l}
 | [],S,_,_,_=>by
  show S=_;rw[zT]
 | n::r,S,hl,hd,sz=>by
  rw[zg,zt] at hl;refine{?_,trivial,hd,sz,?_}
  ·unfold bY
   dsimp only;rw[yJ ()]
  ·let ih:=DT (l:=r) (S:=bS S (.bar n)) (by show(S.aN++[n]++r).length<=200;simp only[zg,zt,xi];ext) hd {sz.1,sz.2.1,sz.2.2.1,by show(S.aN++[n]).length<=1000000;rw[zg];simp;ext,sz.2.2.2.2}
   let e:({bS S (.bar n) with aN:=(bS S (.bar n)).aN++r}:cg)={S with aN:=S.aN++n::r}:=by
    show({S with aN:=S.aN++[n]++r}:cg)=_;rw[zD];rfl
   rw[e] at ih;exact ih
theorem AN:∀{l:List ((Int×Str)×List Item)} {S:cg},((S.aI++l).map (·.1)).Nodup->⇑(S.aI++l)<=1000000->Sr S->(∀x∈l,0<=x.1.1/\x.1.1<⇑S.aN/\x.1.2∈S.az/\⇑x.2<=40/\(∀it∈x.2,QD it.2)/\jJ x.2=S.len x.1.1.toNat)->pO S->tN S->Runs S (l.map λx=>.aI x.1.1 x.1.2 x.2) {S with aI:=S.aI++l}
 | [],S,_,_,_,_,_,_=>by
  show S=_;rw[zT]
 | n::r,S,nd,hl,lu,hx,hd,sz=>by
  let nd':=nd;rw[zj,zQ] at nd';rw[zg,zt] at hl;let⟨b0,b1,pin,il,iok,isum⟩:=hx n zp;refine{?_,{(b0),(),iok,lu},hd,sz,?_}
  ·unfold bY
   dsimp only;rw[yJ (λz=>nd'.2.2 n.1 z n.1 (by rw[zh];exact zp) rfl),yJ (λz=>z pin),yJ,yJ (λz=>z isum),yJ ()];intro z;apply z;unfold cg.has;simp[b1]
  ·let ih:=AN (l:=r) (S:=bS S (.aI n.1.1 n.1.2 n.2)) (by show((S.aI++[n]++r).map _).Nodup;rw[zD];exact nd) (by show(S.aI++[n]++r).length<=1000000;simp only[zg,zt,xi];ext) lu (λx h=>hx x (zm _ h)) hd {sz.1,sz.2.1,sz.2.2.1,sz.2.2.2.1,by show(S.aI++[n]).length<=1000000;rw[zg];simp;ext,sz.2.2.2.2.2}
   let e:({bS S (.aI n.1.1 n.1.2 n.2) with aI:=(bS S (.aI n.1.1 n.1.2 n.2)).aI++r}:cg)={S with aI:=S.aI++n::r}:=by
    show({S with aI:=S.aI++[n]++r}:cg)=_;rw[zD];rfl
   rw[e] at ih;exact ih
def HF {S:cg} {u:Int×Int} (hn:S.aK=none) (hb:⇑S.aN≠0) (hs:u.1*(S.aP 0).2<(S.aP 0).1*u.2) (no:S.aI=[]) (zu:Cp 8999 u) (lu:Sr S) (hd:pO S) (sz:tN S):Runs S [.aK u] {S with aK:=some u}:=by
 refine{?_,{zu,lu,by rw[no];exact yd _},hd,sz,rfl};unfold bY;dsimp only;rw[yJ (by rw[hn];simp),yJ hb,yJ (λz=>z hs),yJ (by rw[no];simp)]
theorem tV:∀{l:List (Str×List Str)} {S:cg},((S.aM++l).map (·.1)).Nodup->((S.aM++l).map (·.2)).flatten.Nodup->(∀x∈l,∀p∈x.2,p∈S.az)->(∀x∈l,⇑x.2<=1000)->⇑(S.aM++l)<=1000000->pO S->tN S->Runs S (l.map λx=>.cR x.1 x.2) {S with aM:=S.aM++l}
 | [],S,_,_,_,_,_,_,_=>by
  show S=_;rw[zT]
 | n::r,S,nd,fd,pin,pl,hl,hd,sz=>by
  let nd':=nd;let fd':=fd;rw[zj,zQ] at nd';rw[zj,y8,zh,zY,zQ] at fd';rw[zg,zt] at hl;refine{?_,pl n zp,hd,sz,?_}
  ·unfold bY
   dsimp only;let pn:n.2.Nodup:=(zQ.mp fd'.2.1).1;let p2:¬(S.aM.any λq=>n.2.any λp=>decide (p∈q.2))=true:=λz=>by
    let⟨q,hq,z⟩:=yk.mp z;let⟨p,hp,z⟩:=yk.mp z;exact fd'.2.2 p (x9.mpr {q.2,zN (f:=λx:Str×List Str=>x.2) hq,yb z}) p (zH _ hp) rfl
   let p3:¬(n.2.any λp=>!decide (p∈S.az))=true:=λz=>by
    let⟨p,hp,z⟩:=yk.mp z;rw[ze (pin n zp p hp)] at z;cases z
   rw[yJ (λz=>nd'.2.2 n.1 z n.1 (by rw[zh];exact zp) rfl),yJ (λz=>z pn),yJ p2,yJ p3]
  ·let ih:=tV (l:=r) (S:=bS S (.cR n.1 n.2)) (by show((S.aM++[n]++r).map _).Nodup;rw[zD];exact nd) (by show((S.aM++[n]++r).map _).flatten.Nodup;rw[zD];exact fd) (λx h=>pin x (zm _ h)) (λx h=>pl x (zm _ h)) (by show(S.aM++[n]++r).length<=1000000;simp only[zg,zt,xi];ext) hd {sz.1,sz.2.1,by show(S.aM++[n]).length<=1000000;rw[zg];simp;ext,sz.2.2.2}
   let e:({bS S (.cR n.1 n.2) with aM:=(bS S (.cR n.1 n.2)).aM++r}:cg)={S with aM:=S.aM++n::r}:=by
    show({S with aM:=S.aM++[n]++r}:cg)=_;rw[zD];rfl
   rw[e] at ih;exact ih
def Py {base:List (Str×List (Int×Str))} {p:Str} (h:p∉base.map (·.1)):base.lookup p=none:=by
 induction base with
 | nil=>rfl
 | cons x r ih=>
  rw[zh,zB,not_or] at h;rw[yn,show(p == x.1)=false from by simp;exact h.1];exact ih h.2
def MZ {base:List (Str×List (Int×Str))} {p:Str} {acc:List (Int×Str)} (h:p∉base.map (·.1)):(base++[(p,acc)]).lookup p=some acc:=by
 induction base with
 | nil=>rw[List.nil_append,yn,x8]
 | cons x r ih=>
  rw[zh,zB,not_or] at h;rw[wI,yn,show(p == x.1)=false from by simp;exact h.1];exact ih h.2
def Qp {base:List (Str×List (Int×Str))} {p:Str} {acc:List (Int×Str)} {e:Int×Str} (h:p∉base.map (·.1)):eU (base++[(p,acc)]) p e=base++[(p,acc++[e])]:=by
 unfold eU;rw[yK (by rw[zj];exact zG _ (zy.mpr rfl)),zj];let er:(base.map λq:Str×List (Int×Str)=>if q.1=p then(q.1,q.2++[e]) else q)=base:=by
  conv=>rhs;rw[<-List.map_id base]
  refine xq λq hq=>?_;rw[yJ (λz=>h (by rw[<-z];exact zN (f:=λx:Str×List (Int×Str)=>x.1) hq))];rfl
 rw[er];simp
def Ef {S:cg} {p:Str} {acc:List (Int×Str)} {h:Int×Str} (hl:(S.holds.lookup p).getD []=acc) (asc:∀a∈acc,a.1<h.1) (al:⇑acc<20) (hp:p∈S.az) (hb:h.1<⇑S.aN) (hi:h.2∈S.aq.map (·.1)):bY S (.holds p h.1 h.2)=none:=by
 unfold bY;dsimp only;rw[hl];let c1:¬(match acc.getLast? with | some q=>decide (h.1<=q.1) | none=>false)=true:=by
  cases q:acc.getLast? with
  | none=>simp
  | some x=>
   have:=asc x (wN q);simp;exact this
 rw[yJ (by
  cases q:acc.getLast? with
  | none=>simp
  | some x=>
   have:=asc x (wN q);simp;exact this),yJ (λz=>z hp),yJ (λz=>z hi),yJ (λz=>z (by unfold cg.has;simp[hb])),yJ ()]
theorem HG {p:Str} {base:List (Str×List (Int×Str))} (nb:p∉base.map (·.1)) (nd:(base.map (·.1)).Nodup) (bl:⇑base<=999999) (bb:∀q∈base,⇑q.2<=1000000):∀{row acc:List (Int×Str)} {S:cg},S.holds=base++[(p,acc)]->((acc++row).map (·.1)).Pairwise (·<·)->⇑(acc++row)<=20->p∈S.az->
  (∀h∈row,h.1<⇑S.aN/\h.2∈S.aq.map (·.1))->tN S->Runs S (row.map λh=>.holds p h.1 h.2) {S with holds:=base++[(p,acc++row)]}
 | [],acc,S,eS,_,_,_,_,_=>by
  show S=_;rw[zT,<-eS]
 | h::r,acc,S,eS,asc,al,hp,hx,sz=>by
  let⟨hb,hi⟩:=hx h zp;let asc':=asc;rw[zj,zR] at asc';rw[zg,zt] at al;let hd:pO S:=by
   refine{?_,?_,?_}
   ·rw[eS,zj,zQ]
    exact{nd,by simp,λx hx y hy e=>by simp at hy;subst hy;subst e;exact nb hx}
   ·rw[eS,zg];simp;ext
   ·intro q hq
    rw[eS] at hq;rcases zE.mp hq with z | z
    ·exact bb q z
    ·rw[zy.mp z];show ⇑acc<=1000000;ext
  refine{Ef (acc:=acc) (by rw[eS,MZ nb];rfl) (λa ha=>asc'.2.2 a.1 (zN (f:=λx:Int×Str=>x.1) ha) h.1 (by rw[zh];exact zp)) () hp hb hi,trivial,hd,sz,?_};let ih:=HG nb nd bl bb (row:=r) (acc:=acc++[h]) (S:=bS S (.holds p h.1 h.2)) (by show eU S.holds p (h.1,h.2)=_;rw[eS,Qp nb]) (by rw[zD];exact asc) (by simp only[zg,zt,xi];ext) hp (λx hx'=>hx x (zm _ hx')) sz;let e:({bS S (.holds p h.1 h.2) with holds:=base++[(p,acc++[h]++r)]}:cg)={S with holds:=base++[(p,acc++h::r)]}:=by
   show({S with holds:=base++[(p,acc++[h]++r)]}:cg)=_;rw[zD];rfl
  rw[e] at ih;exact ih
theorem AQ:∀{l:List (Str×List (Int×Str))} {S:cg},((S.holds++l).map (·.1)).Nodup->⇑(S.holds++l)<=999999->(∀x∈l,x.2≠[]/\⇑x.2<=20/\(x.2.map (·.1)).Pairwise (·<·)/\x.1∈S.az/\∀h∈x.2,h.1<⇑S.aN/\h.2∈S.aq.map (·.1))->pO S->tN S->
  Runs S (l.map λx=>x.2.map λh=>Told.holds x.1 h.1 h.2).flatten {S with holds:=S.holds++l}
 | [],S,_,_,_,_,_=>by
  show S=_;rw[zT]
 | x::r,S,nd,hl,hx,hd,sz=>by
  let⟨ne,xl,asc,hp,hh⟩:=hx x zp;let⟨h,t,et⟩:=List.exists_cons_of_ne_nil ne;let nd':=nd;rw[zj,zQ] at nd';let nb:x.1∉S.holds.map (·.1):=λz=>nd'.2.2 x.1 z x.1 (by rw[zh];exact zp) rfl;rw[zg,zt] at hl;rw[zh,zY];refine Runs.app (S1:={S with holds:=S.holds++[x]}) ?_ ?_
  ·rw[et] at xl asc hh ⊢
   let⟨hb,hi⟩:=hh h zp;refine{Ef (acc:=[]) (by rw[Py nb];rfl) (by simp) (by simp) hp hb hi,trivial,hd,sz,?_};let ea:bS S (.holds x.1 h.1 h.2)={S with holds:=S.holds++[(x.1,[h])]}:=by
    show({S with holds:=eU S.holds x.1 (h.1,h.2)}:cg)=_;unfold eU;rw[yJ nb]
   rw[ea];let rr:=HG (p:=x.1) nb hd.1 () hd.2.2 (row:=t) (acc:=[h]) (S:={S with holds:=S.holds++[(x.1,[h])]}) rfl asc xl hp (λy hy=>hh y (zm _ hy)) sz;let ex:x=(x.1,[h]++t):=by rw[List.singleton_append,<-et]
   let e2:({({S with holds:=S.holds++[(x.1,[h])]}:cg) with holds:=S.holds++[(x.1,[h]++t)]}:cg)={S with holds:=S.holds++[x]}:=by rw[<-ex]
   rw[e2] at rr;exact rr
  ·let ih:=AQ (l:=r) (S:={S with holds:=S.holds++[x]}) (by show((S.holds++[x]++r).map _).Nodup;rw[zD];exact nd) (by show(S.holds++[x]++r).length<=999999;simp only[zg,zt,xi];ext) (λy hy=>hx y (zm _ hy)) ?_ sz
   ·let e:({({S with holds:=S.holds++[x]}:cg) with holds:=S.holds++[x]++r}:cg)={S with holds:=S.holds++x::r}:=by rw[zD];rfl
    exact e▸ih
   ·refine{?_,?_,?_}
    ·show((S.holds++[x]).map _).Nodup
     have:=List.Nodup.sublist (List.Sublist.map (λx:Str×List (Int×Str)=>x.1) (List.Sublist.append (List.Sublist.refl S.holds) (List.singleton_sublist.mpr zp))) nd;exact this
    ·show(S.holds++[x]).length<=1000000
     rw[zg];simp;ext
    ·intro q hq
     let hq':q∈S.holds++[x]:=hq;rcases zE.mp hq' with z | z
     ·exact hd.2.2 q z
     ·rw[zy.mp z];ext
def Ac (n:Nat):List Rep->List Rep->Prop
 | _,[]=>True
 | rs,r::l=>(∀b∈[r.first,r.last]++r.ends.map (·.1),b<(n:Int))/\kE rs r=true/\(JY r.ends<64/\⇑r.ends<=1000/\-1000000<=r.times/\r.times<=1000000)/\Ac n (rs++[r]) l
def PX {S:cg} {bs:List Int} (h:∀b∈bs,b<(⇑S.aN:Int)):S.has bs=true:=ym.mpr λb hb=>ze (h b hb)
theorem DS:∀{l:List Rep} {S:cg},S.bU=none->Ac ⇑S.aN S.aH l->⇑(S.aH++l)<=20->pO S->tN S->Runs S (l.map .rep) {S with aH:=S.aH++l}
 | [],S,_,_,_,_,_=>by
  show S=_;rw[zT]
 | r::l,S,nj,⟨h1,h2,h3,h4⟩,hl,hd,sz=>by
  rw[zg,zt] at hl;refine{?_,h3,hd,sz,?_}
  ·unfold bY
   dsimp only;rw[yJ (λz=>z (PX h1)),yJ (by rw[nj];simp),yJ (λz=>z h2),yJ ()]
  ·let ih:=DS (l:=l) (S:=bS S (.rep r)) nj h4 (by show(S.aH++[r]++l).length<=20;simp only[zg,zt,xi];ext) hd {sz.1,sz.2.1,sz.2.2.1,sz.2.2.2.1,sz.2.2.2.2.1,by show(S.aH++[r]).length<=1000000;rw[zg];simp;ext}
   let e:({bS S (.rep r) with aH:=(bS S (.rep r)).aH++l}:cg)={S with aH:=S.aH++r::l}:=by
    show({S with aH:=S.aH++[r]++l}:cg)=_;rw[zD];rfl
   rw[e] at ih;exact ih
def MK {S:cg} {j:Jump} (nj:S.bU=none) (hb:∀b∈[j.vq,j.Bm,j.dn]++j.fJ.toList,b<(⇑S.aN:Int)) (hf:gI S.aH j=true) (ro:GB S) (hd:pO S) (sz:tN S):Runs S [.bU j] {S with bU:=some j}:=by
 refine{?_,ro,hd,sz,rfl};unfold bY;dsimp only;rw[yJ (by rw[nj];simp),yJ (λz=>z (PX hb)),yJ (λz=>z hf)]
structure WX (S:cg):Prop where
 pn:S.az.Nodup
 pl:⇑S.az<=12
 Xx:(S.aq.map (·.1)).Nodup
 il:⇑S.aq<=12
 sn:(S.aM.map (·.1)).Nodup
 sf:(S.aM.map (·.2)).flatten.Nodup
 sp:∀x∈S.aM,∀p∈x.2,p∈S.az
 sl:∀x∈S.aM,⇑x.2<=1000
 sc:⇑S.aM<=1000000
 bl:⇑S.aN<=200
 lu:Sr S
 up:∀u,S.aK=some u->⇑S.aN≠0/\u.1*(S.aP 0).2<(S.aP 0).1*u.2/\Cp 8999 u
 hn:(S.holds.map (·.1)).Nodup
 hl:⇑S.holds<=999999
 hx:∀x∈S.holds,x.2≠[]/\⇑x.2<=20/\(x.2.map (·.1)).Pairwise (·<·)/\x.1∈S.az/\∀h∈x.2,h.1<⇑S.aN/\h.2∈S.aq.map (·.1)
 nn:(S.aI.map (·.1)).Nodup
 nl:⇑S.aI<=1000000
 nx:∀x∈S.aI,0<=x.1.1/\x.1.1<⇑S.aN/\x.1.2∈S.az/\⇑x.2<=40/\(∀it∈x.2,QD it.2)/\jJ x.2=S.len x.1.1.toNat
 rf:Ac ⇑S.aN [] S.aH
 rl:⇑S.aH<=20
 ro:GB S
 ju:∀j,S.bU=some j->(∀b∈[j.vq,j.Bm,j.dn]++j.fJ.toList,b<(⇑S.aN:Int))/\gI S.aH j=true
def OP {S:cg} (V:WX S):Runs {} (eV S) S:=by
 let hd0:∀T:cg,T.holds=[]->pO T:=λT e=>by
  refine{by rw[e];exact xW,by rw[e];exact yd _,λq hq=>by rw[e] at hq;cases hq}
 let hdS:∀T:cg,T.holds=S.holds->pO T:=λT e=>by
  refine{by rw[e];exact V.hn,by rw[e];have:=V.hl;ext,λq hq=>?_};rw[e] at hq;have:=(V.hx q hq).2.1;ext
 let b1:=V.pl;let b2:=V.il;let b3:=V.sc;let b4:=V.bl;let b5:=V.nl;let b6:=V.rl;let szP:∀T:cg,(T.az=[]\/T.az=S.az)->(T.aq=[]\/T.aq=S.aq)->(T.aM=[]\/T.aM=S.aM)->(T.aN=[]\/T.aN=S.aN)->(T.aI=[]\/T.aI=S.aI)->(T.aH=[]\/T.aH=S.aH)->tN T:=λT q1 q2 q3 q4 q5 q6=>by
  refine{?_,?_,?_,?_,?_,?_}
  ·rcases q1 with e | e <;> rw[e] <;> first | exact yd _ | ext
  ·rcases q2 with e | e <;> rw[e] <;> first | exact yd _ | ext
  ·rcases q3 with e | e <;> rw[e] <;> first | exact yd _ | ext
  ·rcases q4 with e | e <;> rw[e] <;> first | exact yd _ | ext
  ·rcases q5 with e | e <;> rw[e] <;> first | exact yd _ | ext
  ·rcases q6 with e | e <;> rw[e] <;> first | exact yd _ | ext
 let r1:=qk (l:=S.az) (S:={}) V.pn b1 (hd0 _ rfl) (szP _ (.inl rfl) (.inl rfl) (.inl rfl) (.inl rfl) (.inl rfl) (.inl rfl));let r2:=AO (l:=S.aq) (S:={az:=S.az}) V.Xx b2 (hd0 _ rfl) (szP _ (.inr rfl) (.inl rfl) (.inl rfl) (.inl rfl) (.inl rfl) (.inl rfl));let r3:=tV (l:=S.aM) (S:={az:=S.az,aq:=S.aq}) V.sn V.sf V.sp V.sl b3 (hd0 _ rfl) (szP _ (.inr rfl) (.inr rfl) (.inl rfl) (.inl rfl) (.inl rfl) (.inl rfl));let r4:=DT (l:=S.aN) (S:={az:=S.az,aq:=S.aq,aM:=S.aM}) b4 (hd0 _ rfl) (szP _ (.inr rfl) (.inr rfl) (.inr rfl) (.inl rfl) (.inl rfl) (.inl rfl));let r5:Runs {az:=S.az,aq:=S.aq,aM:=S.aM,aN:=S.aN} (S.aK.toList.map .aK) {az:=S.az,aq:=S.aq,aM:=S.aM,aN:=S.aN,aK:=S.aK}:=by
  cases q:S.aK with
  | none=>exact rfl
  | some u=>
   let⟨u1,u2,u3⟩:=V.up u q;exact HF (S:={az:=S.az,aq:=S.aq,aM:=S.aM,aN:=S.aN}) rfl u1 u2 rfl u3 V.lu (hd0 _ rfl) (szP _ (.inr rfl) (.inr rfl) (.inr rfl) (.inr rfl) (.inl rfl) (.inl rfl))
 let r6:=AQ (l:=S.holds) (S:={az:=S.az,aq:=S.aq,aM:=S.aM,aN:=S.aN,aK:=S.aK}) V.hn V.hl V.hx (hd0 _ rfl) (szP _ (.inr rfl) (.inr rfl) (.inr rfl) (.inr rfl) (.inl rfl) (.inl rfl));let r7:=AN (l:=S.aI) (S:={az:=S.az,aq:=S.aq,aM:=S.aM,aN:=S.aN,aK:=S.aK,holds:=S.holds}) V.nn b5 V.lu V.nx (hdS _ rfl) (szP _ (.inr rfl) (.inr rfl) (.inr rfl) (.inr rfl) (.inl rfl) (.inl rfl));let r8:=DS (l:=S.aH) (S:={az:=S.az,aq:=S.aq,aM:=S.aM,aN:=S.aN,aK:=S.aK,holds:=S.holds,aI:=S.aI}) rfl V.rf b6 (hdS _ rfl) (szP _ (.inr rfl) (.inr rfl) (.inr rfl) (.inr rfl) (.inr rfl) (.inl rfl));let r9:Runs {az:=S.az,aq:=S.aq,aM:=S.aM,aN:=S.aN,aK:=S.aK,holds:=S.holds,aI:=S.aI,aH:=S.aH} (S.bU.toList.map .bU) S:=by
  let⟨s1,s2,s3,s4,s5,s6,s7,s8,s9⟩:=S;cases s9 with
  | none=>exact rfl
  | some j=>
   let⟨j1,j2⟩:=V.ju j rfl;exact MK (S:={az:=s1,aq:=s2,aM:=s3,aN:=s4,aK:=s5,holds:=s6,aI:=s7,aH:=s8}) rfl j1 j2 V.ro (hdS _ rfl) (szP _ (.inr rfl) (.inr rfl) (.inr rfl) (.inr rfl) (.inr rfl) (.inr rfl))
 exact Runs.app (Runs.app (Runs.app (Runs.app (Runs.app (Runs.app (Runs.app r1 r2) r3) r4) r5) r6) r7) (Runs.app r8 r9)
inductive uF (K:yx) (vs:List V) (H:Hp) (Q:VK) (E:XK):Prop
 | mk (a:vm) (ns:List Int) (k:Int) (_:vs=[.ref a,.int k]) (_:fi K H a (ns.map V.int)) (_:0<=k) (_:⇑ns<=1000) (_:∀c:Int,Q (.int c) H)
def bZ:cE P w base 1 T.ck (uF K):=by
 nomatch T.ck,["_law_script","_law_k"]
 let⟨a,ns,k,rfl,hS,h0,hl,kk⟩:=h;refine{_,(ah (aJ (ptr eI (pv 1) (d6 aB T.bE (af (pv 0) ag)))
  (ak (ar (eM (pv 0) (pv 1))))
  aA)
  (ak (ar aa))),?_}
 exists a,_,rfl,.inl hS,?_;left;refine vt (λc1=>?_) (λc1=>?_)
 ·let c2:=yb c1
  rw[za] at c2;change{a,_,_,_,rfl,rfl,hS,Ql h0 c2,kk _}
 ·left
  exact kk _
inductive rS (vs:List V) (H:Hp) (Q:VK) (E:XK):Prop
 | mk (c m:Int) (_:vs=[.int c,.int m]) (_:0<=c) (_:c<1099511627776) (_:0<=m) (_:m<=12) (_:∀(ns:List Str) p H',⇑ns=m.toNat->JI ns->aF H H'->H' p=some (.lst (ns.map V.str))->Q (.ref p) H')
def gf:cE P w base 1 T.fe rS:=by
 nomatch T.fe,["_law_cell","_law_many","_law_letters","_law_first","_law_size","_law_place","_law_stem"]
 let⟨c,m,rfl,c0,c1,m0,m1,kk⟩:=h;let sl:=yy;refine{_,(ah (bQ 2 qN aL)
  (ah (bQ 3 qN (au aS (au aY (pv 0) aa) aa))
  (ah (aJ (PW.pt (cZ (ptr dh (au aS (pv 0) aa) aa) (cS (ptr eI (pv 1) aa))))
  (ak (ar (mq (ts:=["_law_k"]) (ys:=["_law_many","_law_letters","_law_first"]) (js:=[1,2,3]) (te:=(fj R6 (fj Q2 (bc 2) (bc 3)) (fj (tW λi j=>.int (i-j)) (bc 1) (bc 0)))) (cy (by rfl) T.cK (ae (pv 1) ag)) (f9 0) bB (au Rh (A4 FH (pv 2) (pv 3) (λ_ _=>rfl)) (au gN (pv 1) (pv 0))))))
  aA)
  (ah (bQ 4 qN (au aS (au aY (pv 0) aa) aa))
  (ah (bQ 5 qN (au aS (au aY (pv 0) aa) (au aR (pv 4) aa)))
  (ah (bQ 6 qN (bW yC yE yD hZ aL (ae (mq (ts:=["_law_k"]) (ys:=["_law_cell","_law_letters"]) (js:=[0,2]) (te:=(fj Q2 (fj (λx y H Q=>∃i j,x=.str i/\y=.str j/\⇑i+⇑j<=sizeLine/\Q (.str (i++j)) H) (bc 2) (tC (.str "0123456789"))) (fj (rI (λ_ j=>0<j) λi j=>.int (i%j)) (fj (tW λi j=>.int (i+j)) (fj (rI Us λi j=>.int (i/j)) (bc 1) (tC (.int (16224)))) (fj (rI N0 λi j=>.int (i*j)) (tC (.int (7))) (bc 0))) (tC (.int (36)))))) (cy (by rfl) T.cK (ae (pv 4) ag)) (f9 0) bB (A4 FH (au b9 (pv 2) aL) (au aS (au aR (au aY (pv 1) aa) (au dR aa (pv 0))) aa) (λ_ _=>rfl))) ag)))
  (ak (ar (mq (ts:=["_law_k"]) (ys:=["_law_letters","_law_first","_law_place","_law_stem"]) (js:=[2,3,5,6]) (te:=(fj (λx y H Q=>∃i j,x=.str i/\y=.str j/\⇑i+⇑j<=sizeLine/\Q (.str (i++j)) H) (fj (λx y H Q=>∃i j,x=.str i/\y=.str j/\⇑i+⇑j<=sizeLine/\Q (.str (i++j)) H) (Wk Tc (bc 4) EE (Ox (bc 3))) (fj Q2 (bc 1) (fj (rI (λ_ j=>0<j) λi j=>.int (i%j)) (fj (tW λi j=>.int (i+j)) (bc 2) (fj (rI N0 λi j=>.int (i*j)) (tC (.int (5))) (bc 0))) (tC (.int (26)))))) (Wk Tc (bc 4) (Ox (bc 3)) EE))) (cy (by rfl) T.cK (ae (pv 1) ag)) (f9 0) bB (au b9 (au b9 (dI J9 (pv 4) eP (eO (pv 3))) (A4 FH (pv 1) (au aS (au aR (pv 2) (au dR aa (pv 0))) aa) (λ_ _=>rfl))) (dI J9 (pv 4) (eO (pv 3)) eP))))))))))),?_}
 ac_rfl;left
 by_cases q:c%4=0
 ·refine bX (by show decide (V.int (c%4)=V.int 0)=true;rw[q];rfl) ?_
  left;refine bX (ze ()) ?_;exists by ext,(),?_
  let f0:0<=c/4%26:=zv _ ∅;let f1:c/4%26<26:=zr _ ∅;refine lq (λk=>.str (oU {#[97+(c/4%26).toNat]} (m.toNat-k))) (λU=>∃v,U=[v,some (.int m),some (.str lets),some (.int (c/4%26))]) () {(none),rfl} ?_ ?_
  ·rintro k U H4 R hk s4 ⟨_,rfl⟩ r
   exists lets,_,_,rfl,rfl,(by show 26<=sizeLine;decide),L3 f0 f1,?_;exists by ext,(),(by show 1<=1000;decide),?_
   refine r _ _ _ (aD _) ?_ {_,rfl};rw[show(m-(0+(k:Int))).toNat=m.toNat-k from by ext];exact eW
  ·intro D vs H4 s4 _ hD il
   let e:(List.range m.toNat).map (λk=>Dt.str (oU {#[97+(c/4%26).toNat]} (m.toNat-k)))=((List.range m.toNat).map λk=>oU {#[97+(c/4%26).toNat]} (m.toNat-k)).map Dt.str:=by rw[zz];rfl
   rw[e] at il;rw[dG il] at hD;exact kk _ D H4 (by rw[za,zP]) (MX () (PF f0 f1)) s4 hD
 ·refine b7 (by show decide (V.int (c%4)=V.int 0)=false;exact zd λz=>q (V.int.inj z)) ?_
  let f0:0<=c/4%26:=zv _ ∅;let f1:c/4%26<26:=zr _ ∅;let z0:0<=c/104%12:=zv _ ∅;let z1:c/104%12<12:=zr _ ∅;let y0:0<=c/1248%(c/104%12+1):=zv _ ();let y1:c/1248%(c/104%12+1)<c/104%12+1:=zr _ ();let x0:0<=c/16224:=zU c0 ∅;let x1:c/16224<=c:=zV _ c0;exists by show 0<c/104%12+1;ext,?_
  exists by ext,(),?_
  refine lq (λk=>.str {#[QR ((c/16224+7*(0+(k:Nat)))%36)]}) (λU=>∃v,U=[v,some (.int c),some (.str lets)]) () {(none),rfl} ?_ ?_
  ·rintro k U H4 R hk s4 ⟨_,rfl⟩ r
   exists by show 26+10<=sizeLine;ext,?_
   left;let w0:0<=(c/16224+7*(0+(k:Int)))%36:=zv _ ∅;let w1:(c/16224+7*(0+(k:Int)))%36<36:=zr _ ∅;refine{lets ++"0123456789",_,_,rfl,rfl,by show 36<=sizeLine;decide,(OL w0 w1).1,?_};exact r _ _ _ (aD _) eW {_,rfl}
  ·intro D vs H4 s4 _ hD il
   let e:(List.range (c/104%12).toNat).map (λk:Nat=>Dt.str {#[QR ((c/16224+7*(0+(k:Nat)))%36)]})=(mC c (c/104%12).toNat).map Dt.str:=by unfold mC;rw[zz];rfl
   rw[e] at il;rw[dG il] at hD;refine{"",D,mC c (c/104%12).toNat,rfl,rfl,ao hD,by rw[OF];ext,?_};exists by ext,(),?_
   let sln:=OH c (c/104%12).toNat;let ssg:=OG (c:=c) (n:=(c/104%12).toNat);generalize hst:Str.join "" (mC c (c/104%12).toNat)=stem at sln ssg;obtain⟨pn,hpn⟩:∃n:Nat,c/1248%(c/104%12+1)=(n:Int):={(c/1248%(c/104%12+1)).toNat,()}
   obtain⟨fn,hfn⟩:∃n:Nat,c/4%26=(n:Int):={(c/4%26).toNat,()}
   let pb:pn<=⇑stem:=()
   let l1:⇑(Txt.slice stem none (some (pn:Int)))<=11:=by
    rw[<-show _=⇑(Txt.slice stem none (some (pn:Int))) from yM,Hl stem pb,zO];ext
   let l2:⇑(Txt.slice stem (some (pn:Int)) none)<=11:=by
    rw[<-show _=⇑(Txt.slice stem (some (pn:Int)) none) from yM,oM stem pb,xw,show ⇑stem.cps.toList=⇑stem from yM];ext
   refine lq (λk=>.str (Txt.slice stem none (some (pn:Int))++{#[97+(fn+5*k)%26]}++Txt.slice stem (some (pn:Int)) none)) (λU=>∃v,U=[v,some (.str lets),some (.int (fn:Int)),some (.int (pn:Int)),some (.str stem)]) () {none,by rw[<-hpn,<-hfn];rfl} ?_ ?_
   ·rintro k U H5 R hk s5 ⟨_,rfl⟩ r
    exists by ext,?_
    left;let w0:0<=((fn:Int)+5*(0+(k:Int)))%26:=zv _ ∅;let w1:((fn:Int)+5*(0+(k:Int)))%26<26:=zr _ ∅;let we:(((fn:Int)+5*(0+(k:Int)))%26).toNat=(fn+5*k)%26:=()
    refine{lets,_,_,rfl,rfl,by show 26<=sizeLine;decide,L3 w0 w1,?_};rw[we];let l3:⇑({#[97+(fn+5*k)%26]}:Str)=1:=rfl;refine{_,_,rfl,rfl,(),?_};exists by ext,?_
    refine{_,_,rfl,rfl,by rw[bT];ext,?_};exact r _ _ _ (aD _) eW {_,rfl}
   ·intro D2 vs2 H5 s5 _ hD2 il2
    let e:(List.range m.toNat).map (λk=>Dt.str (Txt.slice stem none (some (pn:Int))++{#[97+(fn+5*k)%26]}++Txt.slice stem (some (pn:Int)) none))=((List.range m.toNat).map λk=>Txt.slice stem none (some (pn:Int))++{#[97+(fn+5*k)%26]}++Txt.slice stem (some (pn:Int)) none).map Dt.str:=by rw[zz];rfl
    rw[e] at il2;rw[dG il2] at hD2;exact kk _ D2 H5 (by rw[za,zP]) (KC () pb ssg ()) (s4.trans s5) hD2
def rP:Sp:=λvs H Q _=>∃(m:Int),vs=[.int m]/\0<=m/\∀q p H',Qt q->aF H H'->H' p=some (gp q)->Q (.ref p) H'
def sM:cE P w base 1 T.jX rP:=by
 nomatch T.jX,["_law_m","_law_f","_law_high"]
 let⟨m,rfl,m0,kk⟩:=h;let a:=zv m (b:=41) ∅;let b:=zr m (b:=41) ∅;let c:=zv (m/41) (b:=14) ∅;let d:=zr (m/41) (b:=14) ∅;refine{_,(ah (bQ 1 qN (au gN (au aS (pv 0) aa) aa))
  (ah (bQ 2 qN (au dR (au gN (au aS (au aY (pv 0) aa) aa) aa) aa))
  (ak (ar (aW (ae (pv 1) (ae (au aR (au aS (au dR aa (pv 1)) aa) (pv 2)) ag))))))),?_}
 ac_rfl;exists bK,?_;intros p1 H1 s1 h1;change kk _ _ _ (MS m) s1 h1
inductive rT (vs:List V) (H:Hp) (Q:VK) (E:XK):Prop
 | mk (m:Int) (x:Int×Int) (q:vm) (_:vs=[.int m,.ref q]) (_:H q=some (gp x)) (_:0<=m) (_:m<1099511627776) (_:NW x) (_:∀(its:List Item) p us H',GF its x->aF H H'->H p=none->H' p=some (.lst us)->aC H' (its.map dN) us->Q (.ref p) H')
def sP:cE P w base 2 T.j0 rT:=by
 nomatch T.j0,["_law_m","_law_span","_law_many","_law_weights","_law_items","_law_j","_law_each"]
 let⟨m,x,q,rfl,hq,m0,m1,xok,kk⟩:=h;let sl:=yy;let a:=zv m (b:=6) ∅;let b:=zr m (b:=6) ∅;obtain⟨n,hn⟩:∃n:Nat,1+m%6=(n:Int):={(1+m%6).toNat,()}
 refine{_,(ah (bQ 2 qN (au aR aa (au aS (pv 0) aa)))
  (ah (Pl (i:=3) (ts:=["_law_j"]) (ys:=["_law_m"]) (js:=[0]) (te:=(fj (tW λi j=>.int (i+j)) (tC (.int (1))) (fj (rI (λ_ j=>0<j) λi j=>.int (i%j)) (fj (rI Us λi j=>.int (i/j)) (bc 1) (fj (tW λi j=>.int (i+j)) (tC (.int (7))) (fj (rI N0 λi j=>.int (i*j)) (tC (.int (5))) (bc 0)))) (tC (.int (4)))))) (cy (by rfl) T.cK (ae (pv 2) ag)) (f9 0) bB (au aR aa (au aS (au aY (pv 1) (au aR aa (au dR aa (pv 0)))) aa)) qN)
  (ah (bQ 4 qN (bg ag))
  (ah (cj yL rfl (cy (by rfl) T.cK (ae (pv 2) ag)) (hX 5 qN)
  (ah (bQ 6 qN (bJ (fO T) hr T.fG (ae (au dR (bG (pv 1) aa) (eM (pv 3) (pv 5))) (ae (au dR (bG (pv 1) aa) (d6 (NA rfl) T.U6 (ae (pv 3) ag))) ag))))
   (ak (aJ (PW.pt (cZ (ptr iU (pv 5) (au aS (au aY (pv 0) aa) (pv 2))) (cS (ptr dh (au Tv (au Tt (au aY (pv 0) aa) (pv 5)) aa) aa))))
   (ak (bA (bW yz yB yA bw (pv 4) (ae (aW (ae aV (ae (pv 6) ag))) ag))))
   (ak (bA (bW yz yB yA bw (pv 4) (ae (aW (ae (bJ (sM T) hr T.jX (ae (au aY (pv 0) (au aR aa (au dR aa (pv 5)))) ag)) (ae (pv 6) ag))) ag))))))))
  (ak (ar (pv 4))))))),?_}
 ac_rfl;exists by ext,(),?_
 rw[show(1+m%6).toNat=n from by ext];refine lq (λj=>.int (1+m/(7+5*(0+(j:Nat)))%4)) (λU=>∃v,U=[v,some (.int m)]) () {(none),rfl} ?_ ?_
 ·rintro j U H1 R hj s1 ⟨_,rfl⟩ r
  exists{(()),()},?_;change r _ _ _ (aD _) cH {_,rfl}
 ·intro D0 vs0 H1 s1 _ hD0 il0
  let e:(List.range n).map (λj:Nat=>Dt.int (1+m/(7+5*(0+(j:Nat)))%4))=(rF m n).map Dt.int:=by unfold rF;rw[zz];rfl
  rw[e] at il0;rw[eD il0] at hD0;exists by show 0<=sizeLine;decide,?_
  intros D nD s2 h2 H2
  let nDH:H D=none:=s1.back nD;exists by ext,(),?_
  rw[show(1+m%6).toNat=n from by ext];let⟨xr,x1,x2,x3⟩:=id xok;let⟨_,xp,_⟩:=xr.pos;let wl:=QG m n;let wb:=OD (l:=rF m n) λw hw=>JQ hw;let W0:0<(rF m n).sum:=()
  let W2:(rF m n).sum<=24:=()
  let j0a:0<=m/4%(n:Int):=zv _ ();let j0b:m/4%(n:Int)<n:=zr _ ();refine fC (λi U H'=>∃(its:List Item) (us:List V) (v5 v6:Option V),U=[some (.int m),some (.ref q),some (.int (1+m%6)),some (.ref D0),some (.ref D),v5,v6]/\aF H1 H'/\H' D=some (.lst us)/\aC H' (its.map dN) us/\⇑its=i/\(∀it∈its,NX it)/\
   jJ its=red (x.1*((rF m n).take i).sum) (x.2*(rF m n).sum)/\(m/4%(n:Int)<i->its.all (λit=>it.1.isNone)=false)) {[],[],none,none,rfl,s2,h2,c9,rfl,by simp,OC xp W0,λz=>by exfalso;simp at z;ext} ?_ ?_
  ·intro i U H3 hi hh
   refine cU λN kN0 kR0 _ _=>?_;let⟨its,us,v5,v6,rfl,s3,h3,il3,il,iok,isum,ino⟩:=hh;let hq3:=s3 _ _ (s1 _ _ hq);let hD3:=s3 _ _ hD0;let hwi:(rF m n)[i]?=some ((rF m n)[i]'()):=zb ();let⟨w1,w2⟩:=JQ (zA hwi);generalize (rF m n)[i]'()=wi at hwi w1 w2;left;refine{D0,_,_,_,rfl,rfl,ao hD3,(by rw[Int.zero_add];exact bq (by rw[zI,hwi];rfl)),?_};exists .inl {(()),()},?_;exists D0,_,rfl,ao hD3,λw hw=>by have:=JQ hw;ext,(),?_
   exists .inl {(()),()},?_;let lk:=Pz xok w1 w2 W0 W2;let b1:0<x.2*(rF m n).sum:=xt xp W0;let b2:x.2*(rF m n).sum<=160*24:=xY x3 W2 () ∅;let t0:0<=x.1*wi:=xX () ();refine{_,_,rfl,t0,b1,(dm (n:=12) () ()).mono ∅,λp6 H6 s6 h6=>?_};exists by show 0<1+m%6;ext,?_
   left;let nD6:H6 D=some (.lst us):=s6 _ _ h3;let il6:=il3.mono s6;let e6:(rF m n).take (i+1)=(rF m n).take i++[wi]:=dr hwi;let ps:∀it:Item,it.2=red (x.1*wi) (x.2*(rF m n).sum)->jJ (its++[it])=red (x.1*((rF m n).take (i+1)).sum) (x.2*(rF m n).sum):=λit e=>by
    rw[e6,List.sum_append];have:[wi].sum=wi:=by simp
    rw[this];exact OB xp W0 isum e
   refine dM ((!decide (V.int (0+(i:Int))=V.int (m/4%(1+m%6))))&&decide (V.int (Builtin.bitAnd (m/16/2^(0+(i:Int)).toNat) 1)=V.int 1)) ?_ ?_ ?_
   ·intro c Z hz
    rw[c,yR] at hz;exists by show 0<=0+(i:Int);ext,?_
    change hz
   ·intro c;rw[c,yP]
   ·cases qv:((!decide (V.int (0+(i:Int))=V.int (m/4%(1+m%6))))&&decide (V.int (Builtin.bitAnd (m/16/2^(0+(i:Int)).toNat) 1)=V.int 1)) with
    | true=>
     let ne:(i:Int)≠m/4%(n:Int):=λz=>by
      rw[Int.zero_add,z,hn] at qv;simp at qv
     exists .inl {rfl,_,ao nD6},?_;exists bK,?_;intros p7 H7 s7 h7;refine{D,us,_,rfl,rfl,s7 _ _ nD6,(by have:=aQ il3;ext),?_};left;let nt:cT (H7 D):=by rw[s7 _ _ nD6];exact λ_ z=>by cases z
     let it7:Is H7 (dN (none,red (x.1*wi) (x.2*(rF m n).sum))) (.ref p7):=cO h7 (aU dU (aU (ig (s7 _ _ h6)) c9));refine{its++[(none,red (x.1*wi) (x.2*(rF m n).sum))],_,_,_,rfl,bF nD ((s3.trans s6).trans s7),aE,?_,by rw[zg,il];rfl,λit hit=>?_,ps _ rfl,λz=>?_}
     ·rw[zj]
      exact cX (Is.upd nt it7) (aC.upd nt (il6.mono s7))
     ·rcases zE.mp hit with y | y
      ·exact iok it y
      ·rw[zy.mp y];exact{lk,λq z=>by cases z}
     ·rw[List.all_append,ino (),yP]
    | false=>
     exists .inl {rfl,_,ao nD6},?_;exists{(()),()},?_;exists zU m0 (),λpq p8 H8 pok s8 h8=>?_;exists bK,?_;intros p7 H7 s7 h7;let s67:=s8.trans s7;refine{D,us,_,rfl,rfl,s67 _ _ nD6,by have:=aQ il3;ext,?_};left;let nt:cT (H7 D):=by rw[s67 _ _ nD6];exact λ_ z=>by cases z
     let it7:Is H7 (dN (some pq,red (x.1*wi) (x.2*(rF m n).sum))) (.ref p7):=cO h7 (aU (ig (s7 _ _ h8)) (aU (ig (s67 _ _ h6)) c9));refine{its++[(some pq,red (x.1*wi) (x.2*(rF m n).sum))],_,_,_,rfl,bF nD ((s3.trans s6).trans s67),aE,?_,by rw[zg,il];rfl,λit hit=>?_,ps _ rfl,λz=>?_}
     ·rw[zj]
      exact cX (Is.upd nt it7) (aC.upd nt (il6.mono s67))
     ·rcases zE.mp hit with y | y
      ·exact iok it y
      ·rw[zy.mp y];exact{lk,λq z=>by cases z;exact pok}
     ·rw[List.all_append];simp
  ·rintro U H3 ⟨its,us,v5,v6,rfl,s3,h3,il3,il,iok,isum,ino⟩
   left;refine kk its D us H3 {(),iok,?_,ino j0b} (s1.trans s3) nDH h3 il3;rw[isum,show(rF m n).take n=rF m n from xo (),My xr W0]
def U4 {l:List Int} {p:Int->Prop} (hp:∀z∈l,p z) {j:Nat} (h:j<⇑l):∃z,(l.map V.int)[j]?=some (.int z)/\p z:={l[j],by rw[zI,zb h];rfl,hp _ (yi h)}
noncomputable def KL:List (Int×Int):=[(4,4),(3,4),(6,8),(2,2),(5,16),(7,8),(1,32),(12,1)]
def N1 (b:Sc.N2):Prop:=b.aP∈KL/\-7<=b.key/\b.key<=7/\(∀n∈b.marks,gb n)/\⇑b.marks<=2
inductive uG (vs:List V) (H:Hp) (Q:VK) (E:XK):Prop
 | mk (c n:Int) (_:vs=[.int c,.int n]) (_:0<=n) (_:n<=200) (_:∀(bs:List Sc.N2) p us H',⇑bs=n.toNat->(∀b∈bs,N1 b)->aF H H'->H p=none->H' p=some (.lst us)->aC H' (bs.map ji) us->Q (.ref p) H')
def u7:cE P w base 2 T.lF uG:=by
 nomatch T.lF,["_law_cell","_law_many","_law_bars","_law_k","_law_m","_law_metre","_law_key","_law_marks"]
 let⟨c,n,rfl,n0,n1,kk⟩:=h;let sl:=yy;refine{_,(ah (bQ 2 qN (bg ag))
  (ah (cj yL rfl (cy (by rfl) T.cK (ae (pv 1) ag)) (hX 3 qN)
  (zf (zc (zS (bQ 4 qN (bJ (bR T) hr T.cw (ae (pv 0) (ae (au aR (pv 3) aa) ag)))))
   (zc (WB 5 qN (Q9 KL (au aS (pv 4) aa) (λ_ _=>rfl)))
   (zc (zS (bQ 6 qN (au gN (au aS (au aY (pv 4) aa) aa) aa)))
   (zc (zS (aJ (PW.pt (cZ (ptr d7 (pv 3) aa) (cS (ptr d7 (au aS (au aY (pv 4) aa) aa) aa))))
   (ak (bQ 5 qN (bG (eM (pv 2) (jy fL aa)) aa)))
   aA))
   (zc (zS (aJ (PW.pt (cZ (ptr d7 (pv 3) aa) (cS (ptr d7 (au aS (au aY (pv 4) aa) aa) aa))))
   (ak (bQ 6 qN (bG (eM (pv 2) (jy fL aa)) aa)))
   aA))
   (zc (zS (bQ 7 qN (oA dz T.kQ (ae (bJ (gf T) hr T.fe (ae (au aY (pv 4) aa) (ae (eM (bg (ae aa (ae aa (ae aa (ae aa (ae aa (ae aa (ae aa ag)))))))) (au aS (au aY (pv 4) aa) aa)) ag))) ag))))
   (zo (zS (bA (bW yz yB yA bw (pv 2) (ae (aW (ae (pv 5) (ae (pv 6) (ae (pv 7) ag)))) ag)))))))))))))
  (ak (ar (pv 2))))),?_}
 ac_rfl;exists by show 0<=sizeLine;decide,?_
 intros D nD s2 h2 H2
 exists by ext,(),?_
 refine fC (λi U H'=>∃(bs:List Sc.N2) (us:List V),Lo [some (.int c),some (.int n),some (.ref D)] 5 U/\aF H H'/\H' D=some (.lst us)/\aC H' (bs.map ji) us/\⇑bs=i/\∀b∈bs,N1 b)
  {[],[],Lo.of rfl rfl,s2,h2,c9,rfl,by simp} ?_ ?_
 ·intro i U H3 hi hh
  refine cU λN kN0 kR0 _ _=>?_;let⟨bs,us,⟨e,rfl⟩,s3,h3,il3,bl,bok⟩:=hh;exists c,_,rfl,(),(),?_;let m0:0<=mixed c (0+(i:Int)+20):=zv _ ∅;let m1:mixed c (0+(i:Int)+20)<2147483399:=zr _ ∅;generalize mixed c (0+(i:Int)+20)=m at m0 m1;let a0:0<=m%8:=zv _ ∅;let a1:m%8<8:=zr _ ∅;let b0:0<=m/8%15:=zv _ ∅;let b1:m/8%15<15:=zr _ ∅;left;intro D4 vs4 H4 s4 h4 il4;left;obtain⟨j,hj⟩:∃j:Nat,m%8=(j:Int):={(m%8).toNat,()}
  let vl4:=aQ il4;let jl:j<⇑vs4:=by rw[vl4];show j<8;ext
  let⟨mx,hmx,imx⟩:=cN (d:=dL) il4 (i:=j) (zb jl);generalize hmv:vs4[j]=mv at imx;let h3':=s4 _ _ h3;let il3':=il3.mono s4;refine{D4,vs4,m%8,mv,rfl,rfl,ao h4,(by rw[hj];exact bq (by rw[<-hmv];exact zb jl)),?_};left;let lastB:0<(i:Int)->∃b a mt q,us[⇑us-1]?=some (.ref a)/\H4 a=some (.tup [mt,.int b.key,.ref q])/\Is H4 (dL b.aP) mt/\b∈bs:=λip=>by
   let ul:=aQ il3';let⟨b,hb,ib⟩:=cN il3' (i:=⇑us-1) (zb ());let⟨a,mt,q,ea,ha,hm,_⟩:=vY ib;exact{b,a,mt,q,by rw[<-ea];exact zb (),ha,hm,zA hb}
  refine dM (decide (0<0+(i:Int))&&decide (0<m/120%4)) ?_ ?_ ?_
  ·intro c1 Z hz
   rw[c1,yR] at hz;change hz
  ·intro c1;rw[c1,yP]
  refine join (λU H'=>H'=H4/\∃mv x,U=[some (.int c),some (.int n),some (.ref D),some (.int (0+(i:Int))),some (.int m),some mv,some (.int (m/8%15-7)),e 4]/\Is H4 (dL x) mv/\x∈KL) (λN hN c1=>?_) (λN hN c1=>?_) ?_
  ·let ip:0<(i:Int):=by simp at c1;ext
   let⟨b,a,mt,q,hl,ha,hm,hb⟩:=lastB ip;exists D,us,-1,_,rfl,rfl,ao h3',nU hl,?_;change hN _ _ {rfl,mt,b.aP,rfl,hm,(bok b hb).1}
  ·left
   exact hN _ _ {rfl,mv,mx,rfl,imx,zA hmx}
  clear imx hmv;rintro σ5 H5 ⟨e5,mv,x,rfl,imv,hx⟩;rw[e5];clear e5 H5;left;refine dM (decide (0<0+(i:Int))&&decide (0<m/480%5)) ?_ ?_ ?_
  ·intro c1 Z hz
   rw[c1,yR] at hz;change hz
  ·intro c1;rw[c1,yP]
  refine join (λU H'=>H'=H4/\∃k:Int,U=[some (.int c),some (.int n),some (.ref D),some (.int (0+(i:Int))),some (.int m),some mv,some (.int k),e 4]/\-7<=k/\k<=7) (λN hN c1=>?_) (λN hN c1=>?_) ?_
  ·let ip:0<(i:Int):=by simp at c1;ext
   let⟨b,a,mt,q,hl,ha,hm,hb⟩:=lastB ip;exists D,us,-1,_,rfl,rfl,ao h3',nU hl,?_;change hN _ _ {rfl,b.key,rfl,(bok b hb).2.1,(bok b hb).2.2.1}
  ·left
   exact hN _ _ {rfl,m/8%15-7,rfl,(),()}
  rintro σ5 H5 ⟨e5,k,rfl,k0,k1⟩;rw[e5];clear e5 H5;exists by show 7<=sizeLine;decide,?_
  intros p6 H6 s6 h6;let g0:0<=m/33600%7:=zv _ ∅;let g1:m/33600%7<7:=zr _ ∅;obtain⟨jj,hjj⟩:∃j:Nat,m/33600%7=(j:Int):={(m/33600%7).toNat,()}
  let⟨z,hz,z0,z1⟩:=U4 (l:=[0,0,0,0,0,1,2]) (p:=λz=>0<=z/\z<=2) ∅ (show jj<7 by ext);exists p6,_,m/33600%7,.int z,rfl,rfl,ao h6,(by rw[hjj];exact bq hz),?_;left;refine{_,z,rfl,zU m0 ∅,?_,z0,(),λns p7 H7 nl nok s7 h7=>?_}
  ·have:=zV (a:=m) 2400 m0;ext
  left;refine{p7,_,rfl,.inl {ao h7,?_}};intros p8 H8 s8 h8;let s48:=(s6.trans s7).trans s8;let h38:=s48 _ _ h3';exists .inl {rfl,_,ao h38},?_;exists iP,?_;intros p9 H9 s9 h9;refine{D,us,_,rfl,rfl,s9 _ _ h38,(by have:=aQ il3;ext),?_};left;let s49:=s48.trans s9;let nt:cT (H9 D):=by rw[s9 _ _ h38];exact λ_ z=>by cases z
  let ib:Is H9 (ji {(x),k,ns}) (.ref p9):=cO h9 (aU (imv.mono s49) (aU cH (aU (cO (s9 _ _ h8) (IA ns)) c9)));refine{bs++[{(x),k,ns}],_,Lo.of rfl rfl,bF nD ((s3.trans s4).trans s49),aE,?_,by rw[zg,bl];rfl,λb hb=>?_}
  ·rw[zj]
   exact cX (Is.upd nt ib) (aC.upd nt (il3'.mono s49))
  ·rcases zE.mp hb with y | y
   ·exact bok b y
   ·rw[zy.mp y]
    exact{hx,k0,k1,nok.1,by show ⇑ns<=2;ext}
 ·rintro U H3 ⟨bs,us,⟨e,rfl⟩,s3,h3,il3,bl,bok⟩
  change kk bs D us H3 bl bok s3 nD h3 il3
inductive pW (vs:List V) (H:Hp) (Q:VK) (E:XK):Prop
 | mk (bl:vm) (us:List V) (S:cg) (ub:V) (b:Nat) (_:vs=[.ref bl,ub,.int b]) (_:H bl=some (.lst us)) (_:aC H (S.aN.map ji) us) (_:Is H (dO dL S.aK) ub) (_:b<⇑S.aN) (_:(∀x∈S.aN,N1 x)) (_:∀p H',aF H H'->H' p=some (gp (S.len b))->Q (.ref p) H')
def jB {x:Int×Int} (h:x∈KL):1<=x.1/\x.1<=12/\x.2∈Dv/\1<=x.2/\x.2<=32:=by
 unfold KL at h;simp only[zB,zC,yQ] at h;rcases h with rfl | rfl | rfl | rfl | rfl | rfl | rfl | rfl <;> decide
def qG:cE P w base 2 T.jd pW:=by
 nomatch T.jd,["_law_bars","_law_upbeat","_law_bar"]
 let⟨bl,us,S,ub,b,rfl,hbl,il,iu,hb,bok,kk⟩:=h;let ul:=aQ il;let⟨x,hx,ix⟩:=cN il (i:=b) (zb ());let⟨a1,mv,q,ev,h1,im,_⟩:=vY ix;let⟨m1,m2,m3,m4,m5⟩:=jB (bok x (zA hx)).1;let em:S.aP b=red x.aP.1 x.aP.2:=by unfold cg.aP;rw[hx]
 cases dP (o:=some x.aP) im with
 | ref hm=>
 rename_i am;refine{_,(ah (aJ (PW.pt (cZ (ptr dh (pv 2) aa) (cS (bC (eQ (pv 1))))))
  (ak (ar (pv 1)))
  aA)
  (ak (ar (bJ (fO T) hr T.fG (ae (bG (bG (eM (pv 0) (pv 2)) aa) aa) (ae (bG (bG (eM (pv 0) (pv 2)) aa) aa) ag)))))),?_}
 ac_rfl;left;let nz:∀H1,Is H1 (dO dL S.aK) ub->(!decide (ub=V.bN))=S.aK.isSome:=λH1 z=>by
  cases q:S.aK with
  | none=>rw[q] at z;unfold dO Is at z;rw[z];rfl
  | some u=>
   rw[q] at z;cases dP (o:=some u) z with
   | ref hu=>rfl
 refine dM (decide (V.int (b:Int)=V.int 0)&&S.aK.isSome) ?_ ?_ ?_
 ·intro c Z hz
  rw[c,yR,<-nz H iu] at hz;change hz
 ·intro c;rw[c,yP]
 ·cases qv:(decide (V.int (b:Int)=V.int 0)&&S.aK.isSome) with
  | true=>
   rw[zM] at qv;let b0:b=0:=by have:=V.int.inj (yb qv.1);ext
   cases q:S.aK with
   | none=>rw[q] at qv;cases qv.2
   | some u=>
    rw[q] at iu;cases dP (o:=some u) iu with
    | ref hu=>
     left;refine kk _ _ (aD _) ?_;unfold cg.len;rw[q];simp only[b0,wV];exact hu
  | false=>
   let el:S.len b=S.aP b:=by
    unfold cg.len;cases q:S.aK with
    | none=>rfl
    | some u=>
     rw[q] at qv;have:b≠0:=λz=>by rw[z] at qv;simp at qv
     simp only[yJ this]
   rw[el,em] at kk;left;refine{bl,us,b,_,rfl,rfl,ao hbl,bq (zb ()),?_};rw[ev];left;refine{bl,us,b,_,rfl,rfl,ao hbl,bq (zb ()),?_};rw[ev];change{_,_,rfl,(),(),(dm (n:=10) () ()).mono ∅,kk}
inductive rV (vs:List V) (H:Hp) (Q:VK) (E:XK):Prop
 | mk (c many:Int) (pp ip:vm) (ps:List Str) (ins:List (Str×(Int×Int)×(Int×Int))) (iv:List V) (_:vs=[.int c,.ref pp,.ref ip,.int many]) (_:H pp=some (.lst (ps.map V.str))) (_:H ip=some (.lst iv)) (_:aC H (ins.map eC) iv) (_:⇑ps<=100) (_:⇑ins<=100) (_:many<=200) (_:∀(hs:List (Str×List (Int×Str))) D us H',List.Sublist (hs.map (·.1)) ps->(∀x∈hs,Mn (ins.map (·.1)) many x.2)->aF H H'->H' D=some (.lst us)->RL (jg D H') hs us->Q (.ref D) H')
def M3 {H:Hp} {x:Str×(Int×Int)×(Int×Int)} {v:V} (h:Is H (eC x) v):∃a t l,v=.ref a/\H a=some (.tup [.str x.1,t,l]):=by
 unfold eC Is at h;let⟨a,vs,rfl,ha,hl⟩:=h;unfold aC at hl;let⟨v1,r1,rfl,h1,hl⟩:=hl;unfold aC at hl;let⟨v2,r2,rfl,h2,hl⟩:=hl;unfold aC at hl;let⟨v3,r3,rfl,h3,hl⟩:=hl;unfold aC at hl;subst hl;unfold Is at h1;subst h1;exact{(a),v2,v3,rfl,ha}
def sQ:cE P w base 2 T.j6 rV:=by
 nomatch T.j6,["_law_cell","_law_players","_law_instruments","_law_many","_law_holds","_law_k","_law_player","_law_row","_law_bar","_law_j","_law_m"]
 let⟨c,many,pp,ip,ps,ins,iv,rfl,hpp,hip,ili,pl,il0,my,kk⟩:=h;let sl:=yy;let ivl:=aQ ili;refine{_,(ah (bQ 4 qN (bg ag))
  (ah (cj yL rfl (nI (by rfl) T.fA (ae (pv 1) ag)) (eB (n:=2) rfl (aO (hX 5 qN) (aO (hX 6 qN) dt)))
  (ah (bQ 7 qN (bg ag))
   (ah (bQ 8 qN aa)
   (ah (cj yL rfl (cy (by rfl) T.cK (ae aa ag)) (hX 9 qN)
   (ah (bQ 10 qN (bJ (bR T) hr T.cw (ae (pv 0) (ae (au aR (au aR (au dR aa (pv 5)) (pv 9)) aa) ag))))
    (ah (bQ 8 qN (au aR (pv 8) (au aS (pv 10) aa)))
    (ah (aJ (PW.pt (cZ (ptr eI (pv 8) (pv 3)) (cZ (ptr d7 (d6 aB T.bE (ae (pv 2) ag)) aa) (cS (ptr d7 (au aS (au aY (pv 10) aa) aa) aa)))))
    (ak (bA (bW yz yB yA bw (pv 7) (ae (aW (ae (pv 8) (ae (bG (eM (pv 2) (au aS (au aY (pv 10) aa) (d6 aB T.bE (ae (pv 2) ag)))) aa) ag))) ag))))
    aA)
    (ak (bQ 8 qN (au aR (pv 8) aa)))))))
   (ak (aJ (ptr (sG hr.units) (pv 7) (bg ag))
   (ak (bA (bW yz yB yA bw (pv 4) (ae (aW (ae (pv 6) (ae (pv 7) ag))) ag))))
   aA))))))
  (ak (ar (pv 4))))),?_}
 ac_rfl;exists by show 0<=sizeLine;decide,?_
 intros D nD s2 h2 H2
 exists pp,_,rfl,ao (s2 _ _ hpp),?_;refine kf (K:=K) (a:=pp) (xs:=ps.map V.str) (λi U H'=>∃(hs:List (Str×List (Int×Str))) (us:List V),Lo [some (.int c),some (.ref pp),some (.ref ip),some (.int many),some (.ref D)] 6 U/\aF H H'/\H' D=some (.lst us)/\RL (jg D H') hs us/\List.Sublist (hs.map (·.1)) (ps.take i)/\(∀x∈hs,Mn (ins.map (·.1)) many x.2)/\⇑hs<=i)
  {[],[],Lo.of rfl rfl,s2,h2,rfl,List.nil_sublist _,by simp,zk _} (λi U H' _ h=>by let⟨_,_,_,z,_⟩:=h;exact ao (z _ _ hpp)) ?_ ?_
 ·intro i x U H3 p H4 hx hh s34 hp4
  refine cU λN kN0 kR0 _ _=>?_;let⟨hs,us,⟨e,rfl⟩,s3,h3,rl3,sub,rok,hl⟩:=hh;rw[zI] at hx;cases qr:ps[i]? with
  | none=>rw[qr] at hx;cases hx
  | some pn=>
  rw[qr] at hx;simp only[xh,xH] at hx;subst hx;refine{p,_,rfl,bu hp4,rfl,?_};refine{_,_,rfl,{_,_,rfl,{rfl,?_}}};exists by show 0<=sizeLine;decide,?_
  intros R nR s5 h5 H5
  exists by decide,(by decide),?_
  refine fC (λj U H'=>∃(row:List (Int×Str)) (ws:List V) (bar:Int) (v9 va:Option V),U=[some (.int c),some (.ref pp),some (.ref ip),some (.int many),some (.ref D),some (.int (i:Int)),some (.str pn),some (.ref R),some (.int bar),v9,va]/\aF H4 H'/\H' R=some (.lst ws)/\aC H' (row.map JM) ws/\0<=bar/\⇑row<=j/\(row.map (·.1)).Pairwise (·<·)/\
   ∀h∈row,0<=h.1/\h.1<many/\h.2∈ins.map (·.1)/\h.1<bar) {[],[],0,e 4,e 5,rfl,s5,h5,c9,∅,by simp,by simp,by simp} ?_ ?_
  ·intro j U H6 hj hh
   refine cU λN kN1 kR1 _ _=>?_;let⟨row,ws,bar,v9,va,rfl,s6,h6,il6,b0,rl,asc,rin⟩:=hh;let s06:=(s3.trans s34).trans s6;left;let ib:i<⇑ps:=(zw.mp qr).1;refine{c,_,rfl,(),(),?_};let m0:0<=mixed c (7*(i:Int)+(0+(j:Int))+60):=zv _ ∅;let m1:mixed c (7*(i:Int)+(0+(j:Int))+60)<2147483399:=zr _ ∅;generalize mixed c (7*(i:Int)+(0+(j:Int))+60)=m at m0 m1;let a0:0<=m%5:=zv _ ∅;left;let hip6:=s06 _ _ hip;refine dM (decide (bar+m%5<many)&&(decide (0<(⇑ins:Int))&&decide (0<m/5%3))) ?_ ?_ ?_
   ·intro c1 Z hz
    rw[c1,yR] at hz;exists ip,iv,rfl,.inl (ao hip6),?_;rw[ivl];left;refine dM (decide (0<(⇑ins:Int))&&decide (0<m/5%3)) ?_ ?_ hz
    ·intro c2 Z hz
     rw[c2,yR] at hz;change hz
    ·intro c2;rw[c2,yP]
   ·intro c1;rw[c1,yP]
   refine join (λU H'=>∃(row:List (Int×Str)) (ws:List V),U=[some (.int c),some (.ref pp),some (.ref ip),some (.int many),some (.ref D),some (.int (i:Int)),some (.str pn),some (.ref R),some (.int (bar+m%5)),some (.int (0+(j:Int))),some (.int m)]/\aF H4 H'/\H' R=some (.lst ws)/\aC H' (row.map JM) ws/\⇑row<=j+1/\(row.map (·.1)).Pairwise (·<·)/\
    ∀h∈row,0<=h.1/\h.1<many/\h.2∈ins.map (·.1)/\h.1<bar+m%5+1) (λN hN c1=>?_) (λN hN c1=>?_) ?_
   ·simp only[zM,xy] at c1
    let⟨c1,c2,c3⟩:=c1;let d0:0<=m/15%(⇑ins:Int):=zv _ ();let d1:m/15%(⇑ins:Int)<⇑ins:=zr _ ();obtain⟨jj,hjj⟩:∃jj:Nat,m/15%(⇑ins:Int)=(jj:Int):={(m/15%(⇑ins:Int)).toNat,()}
    let⟨nx,hnx,inx⟩:=cN (d:=eC) (ili.mono s06) (i:=jj) (zb ());let⟨ai,ti,li,ea,hai⟩:=M3 inx;exists .inl {rfl,_,ao h6},?_;exists ip,iv,rfl,.inl (ao hip6),?_;rw[ivl];exists by show 0<(⇑ins:Int);ext,?_
    refine{ip,iv,_,_,rfl,rfl,ao hip6,(by rw[hjj];exact bq (zb ())),?_};rw[ea];exists bK,?_;intros p7 H7 s7 h7;refine{R,ws,_,rfl,rfl,s7 _ _ h6,(by have:=aQ il6;ext),?_};left;let nt:cT (H7 R):=by rw[s7 _ _ h6];exact λ_ z=>by cases z
    refine hN _ _ {row++[(bar+m%5,nx.1)],_,rfl,bF nR (s6.trans s7),aE,?_,by rw[zg];simp;ext,?_,λh hh=>?_}
    ·rw[zj]
     exact cX (Is.upd nt (cO h7 (aU cH (aU eW c9)))) (aC.upd nt (il6.mono s7))
    ·rw[zj,zR]
     refine{asc,by simp,λx hx y hy=>?_};let⟨h',hh',rfl⟩:=zF.mp hx;let ey:y=bar+m%5:=by simpa using hy
     have:=(rin h' hh').2.2.2;ext
    ·rcases zE.mp hh with z | z
     ·have:=rin h z
      exact{(this.1),this.2.1,this.2.2.1,()}
     ·rw[zy.mp z]
      exact{by show 0<=bar+m%5;ext,c1,zN (f:=λx:Str×(Int×Int)×(Int×Int)=>x.1) (zA hnx),by show bar+m%5<bar+m%5+1;ext}
   ·left
    refine hN _ _ {row,ws,rfl,s6,h6,il6,(),asc,λh hh=>?_};have:=rin h hh;exact{(this.1),this.2.1,this.2.2.1,()}
   rintro σ7 H7 ⟨row,ws,rfl,s7,h7,il7,rl7,asc7,rin7⟩;change{row,ws,bar+m%5+1,_,_,rfl,s7,h7,il7,(),rl7,asc7,rin7}
  ·rintro U H6 ⟨row,ws,bar,v9,va,rfl,s6,h6,il6,b0,rl,asc,rin⟩
   let s06:=(s3.trans s34).trans s6;let h36:=s6 _ _ (s34 _ _ h3);let rl6:RL (jg D H6) hs us:=rl3.imp λx v z=>(z.mono s34).mono s6;let ne:R≠D:=λz=>by rw[z,s34 _ _ h3] at nR;cases nR
   let ib:i<⇑ps:=(zw.mp qr).1;let tk:ps.take (i+1)=ps.take i++[pn]:=dr qr;exists by show 0<=sizeLine;decide,?_
   intros p7 H7 s7 h7;refine{R,p7,ws,[],rfl,rfl,.inl {ao (s7 _ _ h6),ao h7},.inr (.inl rfl),?_};let wr:=aQ il6;let s07:=s06.trans s7
   by_cases e:ws=[]
   ·rw[ze e]
    left;refine{hs,us,Lo.of rfl rfl,s07,s7 _ _ h36,rl6.imp λx v z=>z.mono s7,?_,rok,()};rw[tk];exact sub.trans (List.sublist_append_left _ _)
   ·rw[zd e]
    let rne:row≠[]:=λz=>e (by rw[z] at wr;exact yp.mp wr);exists .inl {rfl,_,ao (s7 _ _ h36)},?_;exists bK,?_;intros p8 H8 s8 h8;let s78:=s7.trans s8;let h38:=s78 _ _ h36;refine{D,us,_,rfl,rfl,h38,by have:=rl3.len;ext,?_};left;refine{hs++[(pn,row)],_,Lo.of rfl rfl,bF nD (s06.trans s78),aE,?_,?_,λx hx=>?_,by rw[zg];simp;ext}
    ·refine RL.snoc ?_ (rl6.imp λx v z=>(z.mono s78).upd h38)
     exact jg.upd h38 {p8,R,ws,rfl,h8,s78 _ _ h6,il6.mono s78,ne}
    ·rw[zj,tk]
     exact sub.append (List.Sublist.refl _)
    ·rcases zE.mp hx with z | z
     ·exact rok x z
     ·rw[zy.mp z]
      exact{rne,rl,asc,λh hh=>{(rin h hh).1,(rin h hh).2.1,(rin h hh).2.2.1}}
 ·rintro U H3 ⟨hs,us,⟨e,rfl⟩,s3,h3,rl3,sub,rok,hl⟩
  rw[za,zL] at sub;change kk hs D us H3 sub rok s3 h3 rl3
def GD (S:cg) (ns:List ((Int×Str)×List Item)):Prop:=(ns.map (·.1)).Nodup/\∀x∈ns,0<=x.1.1/\x.1.1<⇑S.aN/\x.1.2∈S.az/\GF x.2 (S.len x.1.1.toNat)
inductive rR (vs:List V) (H:Hp) (Q:VK) (E:XK):Prop
 | mk (c:Int) (pp bl:vm) (S:cg) (bv:List V) (ub:V) (_:vs=[.int c,.ref pp,.ref bl,ub]) (_:H pp=some (.lst (S.az.map V.str))) (_:H bl=some (.lst bv)) (_:aC H (S.aN.map ji) bv) (_:Is H (dO dL S.aK) ub) (_:⇑S.az<=9) (_:S.az.Nodup) (_:⇑S.aN<=200) (_:(∀x∈S.aN,N1 x)) (_:(∀b:Nat,b<⇑S.aN->NW (S.len b))) (_:∀(ns:List ((Int×Str)×List Item)) D us H',GD S ns->⇑ns<=9*⇑S.aN->aF H H'->H' D=some (.lst us)->RL (gW D H') ns us->Q (.ref D) H')
def sO:cE P w base 3 T.jZ rR:=by
 nomatch T.jZ,["_law_cell","_law_players","_law_bars","_law_upbeat","_law_notes","_law_bar","_law_k","_law_player","_law_m","_law_often","_law_run"]
 let⟨c,pp,bl,S,bv,ub,rfl,hpp,hbl,ilb,iub,pl,pnd,bl2,bok,lok,kk⟩:=h;let sl:=yy;let bvl:=aQ ilb;refine{_,(ah (bQ 4 qN (bg ag))
  (ah (cj yL rfl (cy (by rfl) T.cK (ae (d6 aB T.bE (ae (pv 2) ag)) ag)) (hX 5 qN)
  (ak (cj yL rfl (nI (by rfl) T.fA (ae (pv 1) ag)) (eB (n:=2) rfl (aO (hX 6 qN) (aO (hX 7 qN) dt)))
   (ah (bQ 8 qN (bJ (bR T) hr T.cw (ae (pv 0) (ae (au aR (au aR (au dR aa (pv 6)) (pv 5)) aa) ag))))
    (ah (bQ 9 qN (au aS (bJ (bR T) hr T.cw (ae (pv 0) (ae (au aR (pv 6) aa) ag))) aa))
    (ah (bQ 10 qN (au aS (bJ (bR T) hr T.cw (ae (pv 0) (ae (au aR (au aR (au dR aa (pv 6)) (au aY (pv 5) aa)) aa) ag))) aa))
    (ak (aJ (PW.pt (cZ (ptr gF (au aS (pv 8) aa) (pv 9)) (cS (ptr d7 (pv 10) aa))))
    (ak (bA (bW yz yB yA bw (pv 4) (ae (aW (ae (pv 5) (ae (pv 7) (ae (bJ (sP T) hr T.j0 (ae (au aY (pv 8) aa) (ae (bJ (qG T) hr T.jd (ae (pv 2) (ae (pv 3) (ae (pv 5) ag)))) ag))) ag)))) ag))))
    aA))))))))
  (ak (ar (pv 4))))),?_}
 ac_rfl;exists by show 0<=sizeLine;decide,?_
 intros D nD s2 h2 H2
 exists bl,bv,rfl,.inl (ao (s2 _ _ hbl)),?_;rw[bvl];exists by ext,(),?_
 rw[show((⇑S.aN:Int)).toNat=⇑S.aN from by ext];refine fC (λi U H'=>∃(ns:List ((Int×Str)×List Item)) (us:List V),Lo [some (.int c),some (.ref pp),some (.ref bl),some ub,some (.ref D)] 6 U/\aF H H'/\H' D=some (.lst us)/\RL (gW D H') ns us/\GD S ns/\(∀x∈ns,x.1.1<i)/\⇑ns<=9*i)
  {[],[],Lo.of rfl rfl,s2,h2,rfl,{by simp,by simp},by simp,by simp} ?_ ?_
 ·intro i U H3 hi hh
  refine cU λN kN0 kR0 _ _=>?_;let⟨ns,us,⟨e,rfl⟩,s3,h3,rl3,nok,nlt,nl⟩:=hh;exists pp,_,rfl,ao (s3 _ _ hpp),?_;refine kf (K:=K) (a:=pp) (xs:=S.az.map V.str) (λj U H'=>∃(ns:List ((Int×Str)×List Item)) (us:List V),Lo [some (.int c),some (.ref pp),some (.ref bl),some ub,some (.ref D),some (.int (0+(i:Int)))] 5 U/\aF H H'/\H' D=some (.lst us)/\RL (gW D H') ns us/\GD S ns/\(∀x∈ns,x.1.1<i\/(x.1.1=i/\x.1.2∈S.az.take j))/\⇑ns<=9*i+j)
   {ns,us,Lo.of rfl rfl,s3,h3,rl3,nok,λx hx=>.inl (nlt x hx),()} (λi U H' _ h=>by let⟨_,_,_,z,_⟩:=h;exact ao (z _ _ hpp)) ?_ ?_
  ·intro j x U H4 p H5 hx hh s45 hp5
   refine cU λN kN1 kR1 _ _=>?_;let⟨ns,us,⟨e,rfl⟩,s4,h4,rl4,nok,nlt,nl⟩:=hh;rw[zI] at hx;cases qr:S.az[j]? with
   | none=>rw[qr] at hx;cases hx
   | some pn=>
   rw[qr] at hx;simp only[xh,xH] at hx;subst hx;let jb:j<⇑S.az:=(zw.mp qr).1;let s05:=s4.trans s45;let h45:=s45 _ _ h4;let rl5:RL (gW D H5) ns us:=rl4.imp λx v z=>z.mono s45;let tk:S.az.take (j+1)=S.az.take j++[pn]:=dr qr;refine{p,_,rfl,bu hp5,rfl,?_};refine{_,_,rfl,{_,_,rfl,{rfl,?_}}};exists c,_,rfl,(),(),?_;let m0:0<=mixed c (97*(j:Int)+(0+(i:Int))+100):=zv _ ∅;let m1:mixed c (97*(j:Int)+(0+(i:Int))+100)<2147483399:=zr _ ∅;generalize mixed c (97*(j:Int)+(0+(i:Int))+100)=m at m0 m1;exists c,_,rfl,(),(),?_;left;refine{c,_,rfl,?_,?_,?_}
   ·have:=zU (a:=0+(i:Int)) (b:=4) () ∅;ext
   ·have:=zV (a:=0+(i:Int)) 4 ();ext
   generalize mixed c (31*(j:Int)+(0+(i:Int))/4+400)=m3;generalize mixed c ((j:Int)+90)=m2;left;refine dM (decide (m%6<=m2%5)&&decide (0<m3%3)) ?_ ?_ ?_
   ·intro c1 Z hz
    rw[c1,yR] at hz;change hz
   ·intro c1;rw[c1,yP]
   cases qv:(decide (m%6<=m2%5)&&decide (0<m3%3)) with
   | true=>
    exists .inl {rfl,_,ao h45},?_;exists bl,bv,S,ub,i,(by simp),s05 _ _ hbl,ilb.mono s05,iub.mono s05,hi,bok,λp6 H6 s6 h6=>?_;refine{_,_,p6,rfl,h6,zU m0 ∅,?_,lok i hi,λits p7 ws H7 iok s7 n7 h7 il7=>?_}
    ·have:=zV (a:=m) 6 m0;ext
    let s57:=s6.trans s7;let ne:p7≠D:=λz=>by rw[z,s6 _ _ h45] at n7;cases n7
    exists iP,?_;intros p8 H8 s8 h8;let s58:=s57.trans s8;let h48:=s58 _ _ h45;refine{D,us,_,rfl,rfl,h48,by have:=rl4.len;ext,?_};left;let fr:((0+(i:Int),pn):Int×Str)∉ns.map (·.1):=λz=>by
     let⟨y,hy,ey⟩:=zF.mp z;rcases nlt y hy with q | ⟨_,q2⟩
     ·rw[ey] at q;dsimp only at q;ext
     ·rw[ey] at q2
      dsimp only at q2;let nd:=List.Nodup.sublist (List.take_sublist (j+1) S.az) pnd;rw[tk,zQ] at nd;exact nd.2.2 pn q2 pn (zy.mpr rfl) rfl
    refine{ns++[((0+(i:Int),pn),its)],_,Lo.of rfl rfl,bF nD (s05.trans s58),aE,?_,{?_,λx hx=>?_},λx hx=>?_,by rw[zg];simp;ext}
    ·refine RL.snoc ?_ (rl5.imp λx v z=>(z.mono s58).upd h48)
     exact gW.upd h48 {p8,p7,ws,rfl,h8,s8 _ _ h7,il7.mono s8,ne}
    ·rw[zj,zQ]
     exact{nok.1,by simp,λx hx y hy e=>by
      have:y=(0+(i:Int),pn):=by simpa using hy
      rw[<-e] at this;exact fr (this▸hx)}
    ·rcases zE.mp hx with z | z
     ·exact nok.2 x z
     ·rw[zy.mp z]
      refine{by show 0<=0+(i:Int);ext,by show 0+(i:Int)<⇑S.aN;ext,zA qr,?_};show GF its (S.len (0+(i:Int)).toNat);rw[show(0+(i:Int)).toNat=i from by ext];exact iok
    ·rcases zE.mp hx with z | z
     ·rcases nlt x z with q | ⟨q1,q2⟩
      ·exact .inl q
      ·exact .inr {q1,by rw[tk];exact zH _ q2}
     ·rw[zy.mp z]
      exact .inr {by show 0+(i:Int)=i;ext,by rw[tk];exact zG _ (zy.mpr rfl)}
   | false=>
    left;refine{ns,us,Lo.of rfl rfl,s05,h45,rl5,nok,λx hx=>?_,()};rcases nlt x hx with z | ⟨z1,z2⟩
    ·exact .inl z
    ·exact .inr {z1,by rw[tk];exact zH _ z2}
  ·rintro U H4 ⟨ns,us,⟨e,rfl⟩,s4,h4,rl4,nok,nlt,nl⟩
   rw[za] at nlt nl;left;refine{ns,us,Lo.of rfl rfl,s4,h4,rl4,nok,λx hx=>?_,()};rcases nlt x hx with z | ⟨z1,z2⟩
   ·ext
   ·ext
 ·rintro U H3 ⟨ns,us,⟨e,rfl⟩,s3,h3,rl3,nok,nlt,nl⟩
  change kk ns D us H3 nok () s3 h3 rl3
def VA (ins:List (Str×(Int×Int)×(Int×Int))):Prop:=⇑ins<=3/\JI (ins.map (·.1))/\∀x∈ins,Qt x.2.1/\-12<=x.2.1.1/\x.2.1.1<=12/\Lm.Rd x.2.2/\x.2.2.1<10000/\x.2.2.2<10000
def JX (n:Int):Qt (n%25-12,7*(n%25-12)%12+12*(n/25%5-2))/\-12<=n%25-12/\n%25-12<=12:=by
 let a:=zv n (b:=25) ∅;let b:=zr n (b:=25) ∅;let c:=zv (n/25) (b:=5) ∅;let d:=zr (n/25) (b:=5) ∅;unfold Qt;dsimp only;ext
def kC:Sp:=λvs H Q _=>∃(c:Int),vs=[.int c]/\∀(ins:List (Str×(Int×Int)×(Int×Int))) D us H',VA ins->aF H H'->H' D=some (.lst us)->aC H' (ins.map eC) us->Q (.ref D) H'
def kP:cE P w base 2 T.eY kC:=by
 nomatch T.eY,["_law_cell","_law_m","_law_instruments","_law_k","_law_name","_law_n","_law_df","_law_turn"]
 let⟨c,rfl,kk⟩:=h;let sl:=yy;refine{_,(ah (bQ 1 qN (bJ (bR T) hr T.cw (ae (pv 0) (ae aa ag))))
  (ah (bQ 2 qN (bg ag))
  (ah (cj yL rfl (nI (by rfl) T.fA (ae (bJ (gf T) hr T.fe (ae (au aY (pv 1) aa) (ae (au aS (pv 1) aa) ag))) ag)) (eB (n:=2) rfl (aO (hX 3 qN) (aO (hX 4 qN) dt)))
  (ah (bQ 5 qN (bJ (bR T) hr T.cw (ae (pv 0) (ae (au aR (pv 3) aa) ag))))
   (ah (bQ 6 qN (au gN (au aS (pv 5) aa) aa))
   (ah (bQ 7 qN (aW (ae (pv 6) (ae (au aR (au aS (au dR aa (pv 6)) aa) (au dR aa (au gN (au aS (au aY (pv 5) aa) aa) aa))) ag))))
   (ak (bA (bW yz yB yA bw (pv 2) (ae (aW (ae (pv 4) (ae (pv 7) (ae (bJ (fO T) hr T.fG (ae (au aS (au aY (pv 5) aa) aa) (ae (eM (bg (ae aa (ae aa (ae aa (ae aa (ae aa ag)))))) (au aS (au aY (pv 5) aa) aa)) ag))) ag)))) ag))))))))
  (ak (ar (pv 2)))))),?_}
 ac_rfl;exists c,8,rfl,(),(),?_;let m0:0<=mixed c 8:=zv _ ∅;let m1:mixed c 8<2147483399:=zr _ ∅;generalize mixed c 8=m at m0 m1;let a0:0<=m%4:=zv _ ∅;let a1:m%4<4:=zr _ ∅;exists by show 0<=sizeLine;decide,?_
 intros D nD s2 h2 H2
 left;refine{_,_,rfl,zU m0 ∅,?_,a0,(),λnms pn H3 nl nok s3 h3=>?_}
 ·have:=zV (a:=m) 4 m0;ext
 exists pn,_,rfl,ao h3,?_;let nl3:⇑nms<=3:=()
 refine kf (K:=K) (a:=pn) (xs:=nms.map V.str) (λi U H'=>∃(ins:List (Str×(Int×Int)×(Int×Int))) (us:List V),Lo [some (.int c),some (.int m),some (.ref D)] 5 U/\aF H H'/\H' pn=some (.lst (nms.map V.str))/\H' D=some (.lst us)/\aC H' (ins.map eC) us/\ins.map (·.1)=nms.take i/\
  ∀x∈ins,Qt x.2.1/\-12<=x.2.1.1/\x.2.1.1<=12/\Lm.Rd x.2.2/\x.2.2.1<10000/\x.2.2.2<10000)
  {[],[],Lo.of rfl rfl,s2.trans s3,h3,s3 _ _ h2,c9,rfl,by simp} (λi U H' _ h=>by let⟨_,_,_,_,z,_⟩:=h;exact ao z) ?_ ?_
 ·intro i x U H4 p H5 hx hh s45 hp5
  refine cU λN kN0 kR0 _ _=>?_;let⟨ins,us,⟨e,rfl⟩,s4,hpn4,h4,il4,ek,iok⟩:=hh;rw[zI] at hx;cases qr:nms[i]? with
  | none=>rw[qr] at hx;cases hx
  | some nm=>
  rw[qr] at hx;simp only[xh,xH] at hx;subst hx;let ib:i<⇑nms:=(zw.mp qr).1;let h45:=s45 _ _ h4;let tk:nms.take (i+1)=nms.take i++[nm]:=dr qr;let nepn:pn≠D:=λz=>by
   let q:=h3;rw[z,s3 _ _ h2] at q;let e:([]:List V)=nms.map V.str:=HO.lst.inj (yh q);have:⇑nms=0:=by rw[<-za (f:=V.str),<-e];rfl
   ext
  refine{p,_,rfl,bu hp5,rfl,?_};refine{_,_,rfl,{_,_,rfl,{rfl,?_}}};exists c,_,rfl,(),(),?_;let n0:0<=mixed c ((i:Int)+530):=zv _ ∅;let n1:mixed c ((i:Int)+530)<2147483399:=zr _ ∅;generalize mixed c ((i:Int)+530)=n at n0 n1;exists bK,?_;intros p6 H6 s6 h6;let h46:=s6 _ _ h45;exists .inl {rfl,_,ao h46},?_;exists by show 5<=sizeLine;decide,?_
  intros p7 H7 s7 h7;let g0:0<=n/1125%5:=zv _ ∅;let g1:n/1125%5<5:=zr _ ∅;let t0:0<=n/125%9:=zv _ ∅;let t1:n/125%9<9:=zr _ ∅;obtain⟨jj,hjj⟩:∃j:Nat,n/1125%5=(j:Int):={(n/1125%5).toNat,()}
  let⟨z,hz,z0,z1⟩:=U4 (l:=[1,2,4,8,3]) (p:=λz=>0<z/\z<=8) ∅ (show jj<5 by ext);exists p7,_,n/1125%5,.int z,rfl,rfl,ao h7,(by rw[hjj];exact bq hz),?_;exists _,_,rfl,t0,z0,(dm (n:=10) () ()).mono ∅,λp8 H8 s8 h8=>?_;exists iP,?_;intros p9 H9 s9 h9;let s59:=((s6.trans s7).trans s8).trans s9;let h49:=s59 _ _ h45;refine{D,us,_,rfl,rfl,h49,?_,?_}
  ·let e1:=aQ il4
   let e2:⇑ins=⇑(nms.take i):=by rw[<-ek,za]
   rw[zO] at e2;ext
  left;let nt:cT (H9 D):=by rw[h49];exact λ_ z=>by cases z
  let rb:=kF (t:=n/125%9) z0;let rle:=AW (t:=n/125%9) (b:=z) t0;let⟨td1,td2,td3⟩:=JX n;let ix:Is H9 (eC (nm,(n%25-12,7*(n%25-12)%12+12*(n/25%5-2)),red (n/125%9) z)) (.ref p9):=cO h9 (aU eW (aU (ig (((s7.trans s8).trans s9) _ _ h6)) (aU (ig (s9 _ _ h8)) c9)));refine{ins++[(nm,(n%25-12,7*(n%25-12)%12+12*(n/25%5-2)),red (n/125%9) z)],_,Lo.of rfl rfl,bF nD ((s4.trans s45).trans s59),by rw[aG nepn];exact s59 _ _ (s45 _ _ hpn4),aE,?_,?_,λx hx=>?_}
  ·rw[zj]
   exact cX (Is.upd nt ix) (aC.upd nt ((il4.mono s45).mono s59))
  ·rw[zj,ek,tk];rfl
  ·rcases zE.mp hx with y | y
   ·exact iok x y
   ·rw[zy.mp y]
    let⟨_,_,_,_,_,r5⟩:=rb;exact{td1,td2,td3,Lm.Rd.of t0 z0,by show(red (n/125%9) z).1<10000;ext,by show(red (n/125%9) z).2<10000;ext}
 ·rintro U H4 ⟨ins,us,⟨e,rfl⟩,s4,hpn4,h4,il4,ek,iok⟩
  rw[za,zL] at ek;change kk ins D us H4 {by rw[<-za (f:=λx:Str×(Int×Int)×(Int×Int)=>x.1),ek];exact nl3,by rw[ek];exact nok,iok} s4 h4 il4
inductive nZ (vs:List V) (H:Hp) (Q:VK) (E:XK):Prop
 | mk (q:vm) (x:Int×Int) (_:vs=[.ref q]) (_:H q=some (gp x)) (_:0<=x.1) (_:x.1<10000) (_:0<x.2) (_:x.2<10000) (_:Q (.str (ic x)) H)
def dE:cE P w base 1 T.dk nZ:=by
 nomatch T.dk,["_law_span"]
 let⟨q,x,rfl,hq,x1,x2,x3,x4,kk⟩:=h;let sl:=yy;let a:=bI (n:=x.1) () x2;let b:=bI (n:=x.2) () x4;let na:=bV (n:=x.1) () x2;let nb:=bV (n:=x.2) () x4;let l1:("/": Str).length=1:=rfl;refine{_,(ah (aJ (ptr dh (bG (pv 0) aa) aa)
  (ak (ar (oA aZ T.fc (ae (bG (pv 0) aa) ag))))
  aA)
  (ak (ar (au b9 (au b9 (oA aZ T.fc (ae (bG (pv 0) aa) ag)) aL) (oA aZ T.fc (ae (bG (pv 0) aa) ag)))))),?_}
 ac_rfl;left
 by_cases c:x.2=1
 ·refine bX (by rw[c];rfl) ?_
  exists na,?_;left;unfold ic at kk;rw[yK c] at kk;exact kk
 ·refine b7 (zd λz=>c (V.int.inj z)) ?_
  unfold ic at kk;rw[yJ c] at kk;exists na,?_;exists by show(dec x.1).length+_<=_;ext,?_
  exists nb,?_;exists by show(dec x.1 ++"/").length+⇑(dec x.2)<=_;rw[bT];ext,?_
  exact kk
inductive jq (vs:List V) (H:Hp) (Q:VK) (E:XK):Prop
 | mk (v:V) (it:Item) (_:vs=[v]) (_:Is H (dN it) v) (_:NX it) (_:Q (.str (pA it)) H)
def PB {H:Hp} {it:Item} {v:V} (h:Is H (dN it) v):∃a q b,v=.ref a/\H a=some (.tup [q,.ref b])/\Is H (dO dL it.1) q/\H b=some (gp it.2):=by
 unfold dN Is at h;let⟨a,vs,rfl,ha,hl⟩:=h;unfold aC at hl;let⟨v1,r1,rfl,h1,hl⟩:=hl;unfold aC at hl;let⟨v2,r2,rfl,h2,hl⟩:=hl;unfold aC at hl;subst hl;cases dP (o:=some it.2) h2 with
 | ref hb=>exact{a,v1,_,rfl,ha,h1,hb}
def qH:cE P w base 2 T.je jq:=by
 nomatch T.je,["_law_item"]
 let⟨v,⟨o,x⟩,rfl,iv,iok,kk⟩:=h;let sl:=yy;let⟨a,q,b,rfl,ha,iq,hb⟩:=PB iv;let⟨⟨hr',h1,h2,h3⟩,hq⟩:=id iok;let⟨_,p2,_⟩:=hr'.pos;let lx:=j9 (x:=x) (by have:=h1;dsimp only at this;ext) h2 (by have:=p2;dsimp only at this;ext) h3;dsimp only at h1 h2 h3 p2 hq hb iq;refine{_,(ah (aJ (bC (cm (bG (pv 0) aa)))
  (ak (ar (au b9 aL (bJ (dE T) hr T.dk (ae (bG (pv 0) aa) ag)))))
  aA)
  (ak (ar (au b9 (au b9 (au b9 (au b9 (oA aZ T.fc (ae (bG (bG (pv 0) aa) aa) ag)) aL) (oA aZ T.fc (ae (bG (bG (pv 0) aa) aa) ag))) aL) (bJ (dE T) hr T.dk (ae (bG (pv 0) aa) ag)))))),?_}
 ac_rfl;left;cases o with
 | none=>
  unfold dO Is at iq;subst iq;exists b,x,rfl,hb,(),h2,p2,h3,?_;let l2:("r:": Str).length=2:=rfl;refine{_,_,rfl,rfl,(),?_};exact kk
 | some pq=>
  let⟨q1,q2,q3,q4,_⟩:=hq pq rfl;let la:=bI (n:=pq.1) () ();let lb:=bI (n:=pq.2) () ();let na:=bV (n:=pq.1) () ();let nb:=bV (n:=pq.2) () ();cases dP (o:=some pq) iq with
  | ref hpq=>
   let l1:(":": Str).length=1:=rfl;exists na,?_;exists by show(dec pq.1).length+_<=_;ext,?_
   exists nb,?_;exists by show(dec pq.1 ++":").length+⇑(dec pq.2)<=_;rw[bT];ext,?_
   exists by show(dec pq.1 ++":" ++ dec pq.2).length+_<=_;rw[bT,bT];ext,?_
   exists b,x,rfl,hb,(),h2,p2,h3,?_;refine{_,_,rfl,rfl,by show(dec pq.1 ++":" ++ dec pq.2 ++":").length+_<=_;rw[bT,bT,bT];ext,?_};exact kk
inductive gY (vs:List V) (H:Hp) (Q:VK) (E:XK):Prop
 | mk (v:V) (r:Rep) (_:vs=[v]) (_:Is H (i6 r) v) (_:NT r) (_:∀H',aF H H'->Q (.str (cL (.rep r))) H')
noncomputable def w4 (r:Rep):List Str:=["repeat",dec r.first,dec r.last,dec r.times]
def og:cE P w base 1 T.gn gY:=by
 nomatch T.gn,["_law_repeat","_law_words","_law_begin","_law_passes"]
 let⟨v,r,rfl,iv,⟨⟨f1,f2,f3,f4,f5⟩,el,pl⟩,kk⟩:=h;let sl:=yy;let⟨a,ep,rfl,ha,ie⟩:=fk iv;obtain⟨ep',evs,e0,hep,ile⟩:∃ep' evs,V.ref ep=.ref ep'/\H ep'=some (.tup evs)/\aC H (r.ends.map mj) evs:=by unfold Is at ie;exact ie
 cases e0;let evl:=aQ ile;let n1:=bV (n:=r.first) (by have:=f1.1;ext) (by have:=f1.2;ext);let n2:=bV (n:=r.last) (by have:=f2.1;ext) (by have:=f2.2;ext);let n3:=bV (n:=r.times) () ();refine{_,(ah (bQ 1 qN (bg (ae aL (ae (oA aZ T.fc (ae (bG (pv 0) aa) ag)) (ae (oA aZ T.fc (ae (bG (pv 0) aa) ag)) (ae (oA aZ T.fc (ae (bG (pv 0) aa) ag)) ag))))))
  (ah (cj yL rfl (iT (bG (pv 0) aa)) (eB (n:=2) rfl (aO (hX 2 qN) (aO (hX 3 qN) dt)))
  (ak (bA (bW yz yB yA bw (pv 1) (ae (au b9 (au b9 (oA aZ T.fc (ae (pv 2) ag)) aL) (bW yC yE yD hZ aL (ae (mq (ts:=["_law_one"]) (ys:=[]) (js:=[]) (te:=(N3 U2 (bD (bc 0) d4))) (iT (pv 3)) (f9 0) bB (oA aZ T.fc (ae (pv 0) ag))) ag))) ag)))))
  (ak (ar (bW yC yE yD hZ aL (ae (pv 1) ag)))))),?_}
 ac_rfl;exists n1,?_;exists n2,?_;exists n3,?_;exists by show 4<=sizeLine;decide,?_
 intro W nW;generalize hU:upd H W _=H2;let s2:aF H H2:=by rw[<-hU];exact bz nW
 let h2:H2 W=some (.lst ((w4 r).map V.str)):=by rw[<-hU];exact aE
 clear hU;let ha2:=s2 _ _ ha;exists{_,bu (s2 _ _ hep)},?_;refine L9 (K:=K) (a:=ep) (xs:=evs) (λi U H'=>∃(v2 v3:Option V),U=[some (.ref a),some (.ref W),v2,v3]/\aF H H'/\H' W=some (.lst ((w4 r++(r.ends.take i).map oj).map V.str))) {none,none,rfl,s2,by rw[wA,yj,zT];exact h2} (λi U H' _ h=>by let⟨_,_,_,z,_⟩:=h;exact bu (z _ _ hep)) ?_ ?_
 ·intro i x U H3 hx hh
  refine cU λN kN0 kR0 _ _=>?_;let⟨v2,v3,rfl,s3,h3⟩:=hh;let⟨e,he,ie⟩:=cN ile hx;let⟨b,q,rfl,hb,hq⟩:=pB ie;let eo:=f5 e (zA he);let pe:=pl e (zA he);let hb3:=s3 _ _ hb;let tk:r.ends.take (i+1)=r.ends.take i++[e]:=dr he;let ib:i<⇑r.ends:=(zw.mp he).1;let nb:=bV (n:=e.1) (by have:=eo.1;ext) (by have:=eo.2.1;ext);let lb:=bI (n:=e.1) (by have:=eo.1;ext) (by have:=eo.2.1;ext);refine{b,_,rfl,bu hb3,rfl,?_};refine{_,_,rfl,{_,_,rfl,{rfl,?_}}};exists .inl {rfl,_,ao h3},?_;exists nb,?_;exists by show(dec e.1).length+(":": Str).length<=_;have:(":": Str).length=1:=rfl;ext,?_
  exists{_,bu (s3 _ _ hq)},?_;refine fm (enc:=V.int) (ws:=e.2) (λz=>.str (dec z)) (λU=>∃v,U=[v]) () (s3 _ _ hq) {(none),rfl} ?_ ?_
  ·rintro z U H4 R hz s4 ⟨_,rfl⟩ rr
   have:=eo.2.2.2 z hz;exists bV () (),?_;exact rr _ _ _ (aD _) eW {_,rfl}
  ·intro D vs H4 s4 hD il
   let e1:e.2.map (λz=>Dt.str (dec z))=(e.2.map dec).map Dt.str:=by rw[zz];rfl
   rw[e1] at il;rw[dG il] at hD;let l5:∀z∈e.2.map dec,⇑z<=5:=λz hz=>by
    let⟨p,hp,rfl⟩:=zF.mp hz;have:=eo.2.2.2 p hp;exact bI () ()
   let l9:⇑(e.2.map dec)<=9:=by rw[za];exact pe
   let sb:=oG (sep:=",") l5;let jb:=Bo (sep:=",") l5;let mb:⇑(e.2.map dec)*(5+(",": Str).length)<=9*(5+1):=wz l9 (zk _);refine{",",D,_,rfl,rfl,ao hD,zK sb (zK mb ()),?_};refine{_,_,rfl,rfl,?_,?_}
   ·show(dec e.1 ++":").length+(Str.join "," (e.2.map dec)).length<=sizeLine
    rw[bT];have:(":": Str).length=1:=rfl;ext
   let h34:=s4 _ _ h3;let s04:=s3.trans s4;left;refine{W,_,_,rfl,rfl,h34,?_,?_}
   ·rw[za,zg,za,zO]
    show 4+_<_;ext
   exists _,_,rfl,bF nW s04,?_;let ew:(w4 r++(r.ends.take (i+1)).map oj).map V.str=(w4 r++(r.ends.take i).map oj).map V.str++[V.str (oj e)]:=by
    rw[tk,zj (f:=oj),<-zD,zj (f:=V.str)];rfl
   rw[aE,ew];rfl
 ·rintro U H3 ⟨v2,v3,rfl,s3,h3⟩
  rw[evl,zL] at h3;left;let ll:∀z∈w4 r++r.ends.map oj,⇑z<=60:=λz hz=>by
   rcases zE.mp hz with y | y
   ·unfold w4 at y
    simp only[zB,zC,yQ] at y;rcases y with rfl | rfl | rfl | rfl
    ·decide
    ·have:=bI (n:=r.first) (by have:=f1.1;ext) (by have:=f1.2;ext);ext
    ·have:=bI (n:=r.last) (by have:=f2.1;ext) (by have:=f2.2;ext);ext
    ·have:=bI (n:=r.times) () ();ext
   ·let⟨e,he,rfl⟩:=zF.mp y
    exact IL (f5 e he) (pl e he)
  let sb:=oG (sep:=" ") ll;refine{" ",W,_,rfl,rfl,ao h3,?_,?_}
  ·let l4:⇑(w4 r++r.ends.map oj)<=13:=by rw[zg,za];show 4+_<=13;ext
   exact zK sb (zK (wz l4 (zk _)) (by show 13*(60+1)<=sizeLine;ext))
  exact kk _ s3
def Xe {c:Bool} {T1 T2:VK->Prop} {Z:VK} {H:Hp} (v:V) (h1:c=true->∀Z:VK,Z v H->T1 Z) (h2:c=false->∀Z:VK,Z v H->T2 Z) (hz:Z v H):if c=true then T1 Z else T2 Z:=by
 cases c with
 | true=>rw[yK rfl];exact h1 rfl Z hz
 | false=>rw[yJ (by simp)];exact h2 rfl Z hz
def Vy (j:Jump):Prop:=Sl (.bU j)
noncomputable def Bv (S:cg):List Told:=S.aH.map .rep++S.bU.toList.map .bU
inductive pX (vs:List V) (H:Hp) (Q:VK) (E:XK):Prop
 | mk (p:vm) (S:cg) (_:vs=[.ref p]) (_:m7 H p S) (_:(∀r∈S.aH,NT r)) (_:⇑S.aH<=1000) (_:(∀j,S.bU=some j->Vy j)) (_:∀D H',aF H H'->H D=none->H' D=some (.lst (((Bv S).map cL).map V.str))->Q (.ref D) H')
def PL {H:Hp} {j:Jump} {v:V} (h:Is H (i7 j) v):∃a c,v=.ref a/\H a=some (.tup [.int j.vq,.int j.Bm,.int j.dn,c])/\Is H (dO .int j.fJ) c:=by
 unfold i7 Is at h;let⟨a,vs,rfl,ha,hl⟩:=h;unfold aC at hl;let⟨v1,r1,rfl,h1,hl⟩:=hl;unfold aC at hl;let⟨v2,r2,rfl,h2,hl⟩:=hl;unfold aC at hl;let⟨v3,r3,rfl,h3,hl⟩:=hl;unfold aC at hl;let⟨v4,r4,rfl,h4,hl⟩:=hl;unfold aC at hl;subst hl;unfold Is at h1 h2 h3;subst h1 h2 h3;exact{(a),v4,rfl,ha,h4}
theorem iY {H:Hp} {α:Type} {d:α->Dt}:∀{xs:List α} {vs:List V},aC H (xs.map d) vs->∃ps:List (α×V),ps.map (·.1)=xs/\ps.map (·.2)=vs/\∀z∈ps,Is H (d z.1) z.2
 | [],_,h=>{[],rfl,by unfold aC at h;rw[h];rfl,by simp}
 | x::xs,_,h=>by
  rw[zh] at h;unfold aC at h;let⟨v,r,rfl,h1,h2⟩:=h;let⟨ps,e1,e2,e3⟩:=iY h2;refine{(x,v)::ps,by rw[zh,e1],by rw[zh,e2],λz hz=>?_};rcases zB.mp hz with rfl | hz
  ·exact h1
  ·exact e3 z hz
def qI:cE P w base 2 T.jf pX:=by
 nomatch T.jf,["_law_s","_law_rows","_law_coda"]
 let⟨p,S,rfl,la,rok,rl3,jok,kk⟩:=h;let sl:=yy;let⟨pl,il,sl',bl,hl,nl,rl,ub,jm,iv,sv,bv,hv,nv,rv,h1,h2,h3,h4,h5,h6,h7,h8,⟨h9,ilr⟩,hj⟩:=la.at';let⟨ps,e1,e2,e3⟩:=iY ilr;let pln:⇑ps=⇑S.aH:=by rw[<-e1,za]
 refine{_,(ah (Pl (i:=1) (ts:=["_law_repeat"]) (ys:=[]) (js:=[]) (te:=(fq gY [] E0 (bD (bc 0) d4))) (bH (bG (pv 0) aa)) (f9 0) bB (bJ (og T) hr T.gn (ae (pv 0) ag)) qN)
  (ah (aJ (bC (eQ (bG (pv 0) aa)))
  (ah (bQ 2 qN (A5 (bC (cm (bG (bG (pv 0) aa) aa))) aL (oA aZ T.fc (ae (bG (bG (pv 0) aa) aa) ag))))
   (ak (bA (bW yz yB yA bw (pv 1) (ae (bW yC yE yD hZ aL (ae (bg (ae aL (ae (oA aZ T.fc (ae (bG (bG (pv 0) aa) aa) ag)) (ae (oA aZ T.fc (ae (bG (bG (pv 0) aa) aa) ag)) (ae (oA aZ T.fc (ae (bG (bG (pv 0) aa) aa) ag)) (ae (pv 2) ag)))))) ag)) ag)))))
  aA)
  (ak (ar (pv 1))))),?_}
 ac_rfl;exists{_,ao h9},?_;refine dW (enc:=λq:Rep×V=>q.2) (ws:=ps) (λq=>.str (cL (.rep q.1))) (λU=>∃v,U=[v]) () (by rw[e2];exact ao h9) {(none),rfl} ?_ ?_
 ·rintro z U H1 R hz s1 ⟨_,rfl⟩ rr
  let zin:z.1∈S.aH:=by rw[<-e1];exact zN hz
  change{z.2,z.1,rfl,(e3 z hz).mono s1,rok _ zin,λH2 s2=>rr _ _ _ s2 eW {_,rfl}}
 ·intro D vs H1 s1 nD hD ilD
  let ee:ps.map (λq:Rep×V=>Dt.str (cL (.rep q.1)))=((S.aH.map Told.rep).map cL).map Dt.str:=by rw[<-e1,zz,zz,zz];rfl
  rw[ee] at ilD;rw[dG ilD] at hD;let h11:=s1 _ _ h1;left;cases q:S.bU with
  | none=>
   rw[q] at hj;unfold dO Is at hj;subst hj;left;refine kk D H1 s1 nD ?_;unfold Bv;rw[q,hD];simp
  | some j=>
   rw[q] at hj;let⟨ja,jc,rfl,hja,ijc⟩:=PL hj;let⟨j1,j2,j3,j4⟩:=jok j q;let hja1:=s1 _ _ hja;let n1:=bV (n:=j.vq) (by have:=j1.1;ext) (by have:=j1.2;ext);let n2:=bV (n:=j.Bm) (by have:=j2.1;ext) (by have:=j2.2;ext);let n3:=bV (n:=j.dn) (by have:=j3.1;ext) (by have:=j3.2;ext);let cl:⇑(ctxt j.fJ)<=5:=by
    unfold ctxt;cases qc:j.fJ with
    | none=>decide
    | some m=>have:=j4 m qc;exact bI (by have:=this.1;ext) (by have:=this.2;ext)
   left;refine Xe (H:=H1) (.str (ctxt j.fJ)) ?_ ?_ ?_
   ·intro c Z hz
    let e:jc=.bN:=yb c;cases qc:j.fJ with
    | none=>rw[qc] at hz;change hz
    | some m=>rw[qc] at ijc;unfold dO Is at ijc;rw[ijc] at e;cases e
   ·intro c Z hz
    cases qc:j.fJ with
    | none=>rw[qc] at ijc;unfold dO Is at ijc;rw[ijc] at c;simp at c
    | some m=>
     rw[qc] at ijc hz;unfold dO Is at ijc;subst ijc;change{bV (by have:=(j4 m qc).1;ext) (by have:=(j4 m qc).2;ext),hz}
   exists .inl {rfl,_,ao hD},?_;exists n1,?_;exists n2,?_;exists n3,?_;exists by show 5<=sizeLine;decide,?_
   intros p5 H5 s5 h5;let ll:∀z∈Sc.aT (.bU j),⇑z<=5:=λz hz=>by
    simp only[Sc.aT,zB,zC,yQ] at hz;rcases hz with rfl | rfl | rfl | rfl | rfl
    ·decide
    ·exact bI (by have:=j1.1;ext) (by have:=j1.2;ext)
    ·exact bI (by have:=j2.1;ext) (by have:=j2.2;ext)
    ·exact bI (by have:=j3.1;ext) (by have:=j3.2;ext)
    ·exact cl
   let sb:=oG (sep:=" ") ll;refine{" ",p5,Sc.aT (.bU j),rfl,rfl,ao h5,zK sb (by show 5*(5+1)<=sizeLine;ext),?_};exists D,_,_,rfl,rfl,s5 _ _ hD,by rw[za,za,za];ext,?_
   left;refine kk D _ (bF nD (s1.trans s5)) nD ?_;unfold Bv;rw[aE,q,zj,zj];rfl
def Rn {H:Hp} {x:Str×(Int×Int)×(Int×Int)} {v:V} (h:Is H (eC x) v):∃a t l,v=.ref a/\H a=some (.tup [.str x.1,t,l])/\Is H (dL x.2.1) t/\Is H (dL x.2.2) l:=by
 unfold eC Is at h;let⟨a,vs,rfl,ha,hl⟩:=h;unfold aC at hl;let⟨v1,r1,rfl,h1,hl⟩:=hl;unfold aC at hl;let⟨v2,r2,rfl,h2,hl⟩:=hl;unfold aC at hl;let⟨v3,r3,rfl,h3,hl⟩:=hl;unfold aC at hl;subst hl;unfold Is at h1;subst h1;exact{(a),v2,v3,rfl,ha,h2,h3}
def TH {H:Hp} {x:Int×Str} {v:V} (h:Is H (JM x) v):∃a,v=.ref a/\H a=some (.tup [.int x.1,.str x.2]):=by
 unfold JM Is at h;let⟨a,vs,rfl,ha,hl⟩:=h;unfold aC at hl;let⟨v1,r1,rfl,h1,hl⟩:=hl;unfold aC at hl;let⟨v2,r2,rfl,h2,hl⟩:=hl;unfold aC at hl;subst hl;unfold Is at h1 h2;subst h1 h2;exact{(a),rfl,ha}
def TD (t:Told):Prop:=Sl t/\⇑(Sc.aT t)<=100/\∀w∈Sc.aT t,⇑w<=100
def Ey {t:Told} (h:TD t):((Sc.aT t).map (λz:Str=>⇑z+(" ": Str).length)).sum<=sizeLine:=by
 let sl:=yy;let a:=oG (sep:=" ") h.2.2;let b:⇑(Sc.aT t)*(100+(" ": Str).length)<=100*(100+(" ": Str).length):=wz h.2.1 (zk _);exact zK a (zK b (by show 100*(100+1)<=sizeLine;ext))
def Kr (n:Str):("player ": Str)++n=cL (.bO n):=rfl
noncomputable def rws (ts:List Told):List V:=(ts.map cL).map V.str
def ng (a b:List Told):rws (a++b)=rws a++rws b:=by unfold rws;rw[zj,zj]
def m9 (a:List Told):⇑(rws a)=⇑a:=by unfold rws;rw[za,za]
inductive oI (vs:List V) (H:Hp) (Q:VK) (E:XK):Prop
 | mk (p:vm) (S:cg) (_:vs=[.ref p]) (_:m7 H p S) (_:S.aM=[]) (_:(∀t∈eV S,TD t)) (_:⇑(eV S)<=1000000) (_:(∀r∈S.aH,NT r)) (_:⇑S.aH<=1000) (_:∀D H',aF H H'->H D=none->H' D=some (.lst (rws (eV S)))->Q (.ref D) H')
def pj:cE P w base 3 T.gS oI:=by
 nomatch T.gS,["_law_s","_law_rows","_law_name","_law_turn","_law_time","_law_metre","_law_key","_law_marks","_law_player","_law_row","_law_bar","_law_items"]
 let⟨p,S,rfl,la,hst,tok,tl,rok,rln3,kk⟩:=h;let sl:=yy;let⟨pl,il,st,bl,hl,nl,rl,ub,jm,iv,sv,bv,hv,nv,rv,h1,h2,⟨h3,ili⟩,⟨h4,ils⟩,⟨h5,ilb⟩,h6,⟨h7,rlh⟩,⟨h8,rln⟩,_,_⟩:=la.at';let mem:∀a b c:List Told,eV S=a++b++c->∀t∈b,TD t:=λa b c e t ht=>tok t (by rw[e];simp[ht]);let tlen:∀a b:List Told,eV S=a++b->⇑a<=1000000:=λa b e=>by rw[e,zg] at tl;ext
 obtain⟨fl,fli,fls,flb,fln⟩:⇑S.az<=1000000/\⇑S.az+⇑S.aq<=1000000/\⇑S.az+⇑S.aq+⇑S.aM<=1000000/\⇑S.az+⇑S.aq+⇑S.aM+⇑S.aN<=1000000/\⇑S.aI<=1000000:=by
  unfold eV at tl;simp only[zg,za] at tl;ext
 refine{_,(ah (Pl (i:=1) (ts:=["_law_name"]) (ys:=[]) (js:=[]) (te:=(fj (λx y H Q=>∃i j,x=.str i/\y=.str j/\⇑i+⇑j<=sizeLine/\Q (.str (i++j)) H) (tC (.str "player ")) (bc 0))) (bH (bG (pv 0) aa)) (f9 0) bB (au b9 aL (pv 0)) qN)
  (ah (cj yL rfl (bH (bG (pv 0) aa)) (eB (n:=3) rfl (aO (hX 2 qN) (aO (hX 3 qN) (aO (hX 4 qN) dt))))
  (ak (bA (bW yz yB yA bw (pv 1) (ae (bW yC yE yD hZ aL (ae (bg (ae aL (ae (pv 2) (ae (oA aZ T.fc (ae (bG (pv 3) aa) ag)) (ae (oA aZ T.fc (ae (bG (pv 3) aa) ag)) (ae (bJ (dE T) hr T.dk (ae (pv 4) ag)) ag)))))) ag)) ag)))))
  (ah (cj yL rfl (bH (bG (pv 0) aa)) (eB (n:=3) rfl (aO (hX 5 qN) (aO (hX 6 qN) (aO (hX 7 qN) dt))))
  (ak (bA (bW yz yB yA bw (pv 1) (ae (bW yC yE yD hZ aL (ae (au gw (bg (ae aL (ae (au b9 (au b9 (oA aZ T.fc (ae (bG (pv 5) aa) ag)) aL) (oA aZ T.fc (ae (bG (pv 5) aa) ag))) (ae (oA aZ T.fc (ae (pv 6) ag)) ag)))) (oA rj T.KH (ae (pv 7) ag))) ag)) ag)))))
  (ah (aJ (bC (eQ (bG (pv 0) aa)))
  (ak (bA (bW yz yB yA bw (pv 1) (ae (au b9 aL (bJ (dE T) hr T.dk (ae (bG (pv 0) aa) ag))) ag))))
  aA)
  (ah (cj yL rfl (bH (bG (pv 0) aa)) (eB (n:=2) rfl (aO (hX 8 qN) (aO (hX 9 qN) dt)))
  (ak (bQ 1 qN (au gw (pv 1) (mq (ts:=["_law_bar","_law_name"]) (ys:=["_law_player"]) (js:=[8]) (g:=(KW K 2 (gJ (cz 0) (gJ (cz 1) KY)))) (te:=(Wo K "str" (rJoin K) (tC (.str " ")) (bD (JZ (bD (tC (.str "holds")) (bD (bc 2) (bD (N3 U2 (bD (bc 0) d4)) (bD (bc 1) d4))))) d4))) (bH (pv 9)) (eB (n:=2) rfl (aO (f9 0) (aO (f9 1) dt))) bB (bW yC yE yD hZ aL (ae (bg (ae aL (ae (pv 2) (ae (oA aZ T.fc (ae (pv 0) ag)) (ae (pv 1) ag))))) ag)))))))
  (ah (cj yL rfl (bH (bG (pv 0) aa)) (eB (n:=3) rfl (aO (hX 10 qN) (aO (hX 8 qN) (aO (hX 11 qN) dt))))
  (ak (bA (bW yz yB yA bw (pv 1) (ae (bW yC yE yD hZ aL (ae (au gw (bg (ae aL (ae (oA aZ T.fc (ae (pv 10) ag)) (ae (pv 8) ag)))) (mq (ts:=["_law_item"]) (ys:=[]) (js:=[]) (te:=(fq jq [] E0 (bD (bc 0) d4))) (bH (pv 11)) (f9 0) bB (bJ (qH T) hr T.je (ae (pv 0) ag)))) ag)) ag)))))
  (ak (ar (au gw (pv 1) (bJ (qI T) hr T.jf (ae (pv 0) ag))))))))))),?_}
 ac_rfl;exists{_,ao h2},?_;refine dW (enc:=V.str) (ws:=S.az) (λn=>.str (cL (.bO n))) (λU=>∃v,U=[v]) () (ao h2) {(none),rfl} ?_ ?_
 ·rintro z U H1 R hz s1 ⟨_,rfl⟩ rr
  let tz:TD (.bO z):=tok _ (by unfold eV;simp[hz]);left;refine{?_,?_}
  ·let l7:("player ": Str).length=7:=rfl
   have:=tz.2.2 z (by simp[Sc.aT]);ext
  exact rr _ _ _ (aD _) (by rw[Kr];exact eW) {_,rfl}
 ·intro D vs H1 s1 nD hD ilD
  let ee:S.az.map (λn=>Dt.str (cL (.bO n)))=((S.az.map Told.bO).map cL).map Dt.str:=by rw[zz,zz];rfl
  rw[ee] at ilD;rw[dG ilD] at hD;let h11:=s1 _ _ h1;exists{_,ao (s1 _ _ h3)},?_;refine dJ (K:=K) (a:=il) (xs:=iv) (λi U H'=>Lo [some (.ref p),some (.ref D)] 10 U/\aF H H'/\H' D=some (.lst (rws (S.az.map .bO++(S.aq.take i).map λx=>.cJ x.1 x.2.1 x.2.2)))) {Lo.of rfl rfl,s1,by rw[wA,yj,zT];exact hD} (λi U H' _ h=>by let⟨_,z,_⟩:=h;exact ao (z _ _ h3)) ?_ ?_
  ·intro i x U H2 hx hh
   refine cU λN kN0 kR0 _ _=>?_;let⟨⟨e,rfl⟩,s2,hD2⟩:=hh;let⟨n,hn,ix⟩:=cN (d:=eC) ili hx;let⟨a1,t1,l1,rfl,ha1,it,iL⟩:=Rn ix;cases dP (o:=some n.2.1) it with
   | ref ht=>
   cases dP (o:=some n.2.2) iL with
   | ref hL=>
   let tn:TD (.cJ n.1 n.2.1 n.2.2):=tok _ (by unfold eV;simp only[zE,zF];exact .inl (.inl (.inl (.inl (.inl (.inl (.inr {n,zA hn,rfl})))))));refine{a1,_,rfl,bu (s2 _ _ ha1),rfl,?_};refine{_,_,rfl,{_,_,rfl,{_,_,rfl,{rfl,?_}}}};rename_i bt bL;let ht2:=s2 _ _ ht;let hL2:=s2 _ _ hL;let⟨t1,t2,t3,t4,t5,t6,t7⟩:=tn.1;let⟨c1,c2,c3,c4,_⟩:=t2;let⟨r1,r2,_⟩:=t5.pos;exists .inl {rfl,_,ao hD2},?_;exists bV () (),?_;exists bV () (),?_;exists _,n.2.2,rfl,hL2,r1,t6,r2,t7,?_;exists by show 5<=sizeLine;decide,?_
   intros p5 H5 s5 h5;refine{" ",p5,Sc.aT (.cJ n.1 n.2.1 n.2.2),rfl,rfl,ao h5,Ey tn,?_};left;refine{D,_,_,rfl,rfl,s5 _ _ hD2,?_,?_}
   ·rw[m9,zg,za,za,zO];ext
   exists Lo.of rfl rfl,bF nD (s2.trans s5),?_;rw[aE,dr hn,zj,<-zD];exact yV (λl=>some (HO.lst l)) (ng _ [Told.cJ n.1 n.2.1 n.2.2]).symm
  ·rintro U H2 ⟨⟨e,rfl⟩,s2,hD2⟩
   rw[aQ ili,zL] at hD2;let hD4:H2 D=some (.lst (rws (S.az.map .bO++(S.aq.map λx=>.cJ x.1 x.2.1 x.2.2)++S.aM.map λx=>.cR x.1 x.2))):=by
    rw[hst,yj,zT];exact hD2
   clear hD2 hD ilD;let h14:=s2 _ _ h1;exists{_,ao (s2 _ _ h5)},?_;refine dJ (K:=K) (a:=bl) (xs:=bv) (λi U H'=>Lo [some (.ref p),some (.ref D)] 10 U/\aF H H'/\H' D=some (.lst (rws (S.az.map .bO++(S.aq.map λx=>.cJ x.1 x.2.1 x.2.2)++(S.aM.map λx=>.cR x.1 x.2)++(S.aN.take i).map .bar)))) {{(e),rfl},s2,by rw[wA,yj,zT];exact hD4} (λi U H' _ h=>by let⟨_,z,_⟩:=h;exact ao (z _ _ h5)) ?_ ?_
   ·intro i x U H5 hx hh
    refine cU λN kN1 kR1 _ _=>?_;let⟨⟨e,rfl⟩,s5,hD5⟩:=hh;let⟨b,hb,ib⟩:=cN (d:=ji) ilb hx;let⟨a1,mv,q1,rfl,ha1,im,hq1⟩:=vY ib;cases dP (o:=some b.aP) im with
    | ref hm=>
    rename_i am;let tb:TD (.bar b):=tok _ (by unfold eV;simp only[zE,zF];exact .inl (.inl (.inl (.inl (.inr {b,zA hb,rfl})))));let hm5:=s5 _ _ hm;refine{a1,_,rfl,bu (s5 _ _ ha1),rfl,?_};refine{_,_,rfl,{_,_,rfl,{_,_,rfl,{rfl,?_}}}};let⟨t1,t2,t3,t4,t5,t6⟩:=tb.1;let bb:0<=b.aP.2/\b.aP.2<1000:=by unfold Dv at t3;simp at t3;ext
    let la1:=bI (n:=b.aP.1) () ();let la2:=bI (n:=b.aP.2) () ();let l1:("/": Str).length=1:=rfl;exists .inl {rfl,_,ao hD5},?_;exists bV () (),?_;exists by show(dec b.aP.1).length+_<=_;ext,?_
    exists bV () (),?_;exists by show(dec b.aP.1 ++"/").length+⇑(dec b.aP.2)<=_;rw[bT];ext,?_
    exists bV () (),?_;exists by show 3<=sizeLine;decide,?_
    intros p6 H6 s6 h6;exists q1,_,rfl,.inr (bu (s6 _ _ (s5 _ _ hq1))),?_;intros p7 H7 s7 h7;let ml:⇑b.marks<=97:=by have:=tb.2.1;simp only[Sc.aT,zt] at this;ext
    refine{p6,p7,_,_,rfl,rfl,ao (s7 _ _ h6),ao h7,by rw[za];show 3+_<=_;ext,?_};intros p8 H8 s8 h8;refine{" ",p8,Sc.aT (.bar b),rfl,rfl,ao h8,Ey tb,?_};let s58:=(s6.trans s7).trans s8;left;refine{D,_,_,rfl,rfl,s58 _ _ hD5,?_,?_}
    ·rw[m9];simp only[zg,za,zO];ext
    exists Lo.of rfl rfl,bF nD (s5.trans s58),?_;rw[aE,dr hb,zj,<-zD];exact yV (λl=>some (HO.lst l)) (ng _ [Told.bar b]).symm
   ·rintro U H5 ⟨⟨e,rfl⟩,s5,hD5⟩
    rw[aQ ilb,zL] at hD5;obtain⟨B,hB⟩:∃B,B=S.az.map Told.bO++(S.aq.map λx=>Told.cJ x.1 x.2.1 x.2.2)++(S.aM.map λx=>Told.cR x.1 x.2)++S.aN.map Told.bar:={_,rfl}
    let tB:eV S=B++S.aK.toList.map .aK++(S.holds.map λx=>x.2.map λh=>Told.holds x.1 h.1 h.2).flatten++(S.aI.map λx=>.aI x.1.1 x.1.2 x.2)++Bv S:=by rw[hB];rfl
    rw[<-hB] at hD5;let h15:=s5 _ _ h1;left;refine join (λU H'=>Lo [some (.ref p),some (.ref D)] 10 U/\aF H H'/\H' D=some (.lst (rws (B++S.aK.toList.map .aK)))) (λN hN c1=>?_) (λN hN c1=>?_) ?_
    ·cases qu:S.aK with
     | none=>
      rw[qu] at h6;unfold dO Is at h6;rw[h6] at c1;simp at c1
     | some u=>
      rw[qu] at h6;cases dP (o:=some u) h6 with
      | ref hu=>
      let tu:TD (.aK u):=tok _ (by rw[tB,qu];simp);let⟨u1,u2,u3,u4⟩:=tu.1;let⟨_,r2,_⟩:=u1.pos;let lu:=j9 (x:=u) () u3 () u4;let bl5:B.length<=1000000:=tlen B _ (by rw[tB,zD,zD,zD]);exists .inl {rfl,_,ao hD5},?_;exists _,u,rfl,s5 _ _ hu,(),u3,r2,u4,?_;let l7:("upbeat ": Str).length=7:=rfl;refine{_,_,rfl,rfl,(),?_};exists D,_,_,rfl,rfl,hD5,by rw[m9];ext,?_
      left;refine hN _ _ {Lo.of rfl rfl,bF nD s5,?_};rw[aE,qu];exact yV (λl=>some (HO.lst l)) (ng B [Told.aK u]).symm
    ·let qu:S.aK=none:=by
      cases qu:S.aK with
      | none=>rfl
      | some u=>
       rw[qu] at h6;cases dP (o:=some u) h6 with
       | ref hu=>simp at c1
     left;refine hN _ _ {Lo.of rfl rfl,s5,?_};rw[qu];show H5 D=some (.lst (rws (B++[])));rw[zT];exact hD5
    rintro σ6 H6 ⟨⟨e,rfl⟩,s6,hD6⟩;let h16:=s6 _ _ h1;exists{_,ao (s6 _ _ h7)},?_;refine dJ (K:=K) (a:=hl) (xs:=hv) (λi U H'=>∃(D:vm),Lo [some (.ref p),some (.ref D)] 10 U/\aF H H'/\H D=none/\H' D=some (.lst (rws (B++S.aK.toList.map .aK++((S.holds.take i).map λx=>x.2.map λh=>Told.holds x.1 h.1 h.2).flatten)))) {D,{(e),rfl},s6,nD,by rw[wA,yj,List.flatten_nil,zT];exact hD6} (λi U H' _ h=>by let⟨_,_,z,_⟩:=h;exact ao (z _ _ h7)) ?_ ?_
    ·intro i x U H7 hx hh
     refine cU λN kN2 kR2 _ _=>?_;let⟨D7,⟨e,rfl⟩,s7,nD7,hD7⟩:=hh;let⟨y,hy,a7,r7,us7,rfl,ha7,hr7,il7,_⟩:=rlh.at hx;let⟨qs,f1,f2,f3⟩:=iY il7;let ty:∀h∈y.2,TD (.holds y.1 h.1 h.2):=λh hh=>tok _ (by
      rw[tB];refine zH _ (zH _ (zG _ ?_));exact x9.mpr {_,zN (zA hy),zN hh})
     let tke:((S.holds.take (i+1)).map λx=>x.2.map λh=>Told.holds x.1 h.1 h.2).flatten=((S.holds.take i).map λx=>x.2.map λh=>Told.holds x.1 h.1 h.2).flatten++y.2.map λh=>Told.holds y.1 h.1 h.2:=by
      rw[dr hy,zj,y8];simp
     let lenB:⇑(B++S.aK.toList.map Told.aK++((S.holds.take (i+1)).map λx=>x.2.map λh=>Told.holds x.1 h.1 h.2).flatten)<=1000000:=by
      refine tlen _ (((S.holds.drop (i+1)).map λx=>x.2.map λh=>Told.holds x.1 h.1 h.2).flatten++(S.aI.map λx=>.aI x.1.1 x.1.2 x.2)++Bv S) ?_;rw[tB]
      conv=>lhs;rw[<-List.take_append_drop (i+1) S.holds,zj,y8]
      simp only[zD]
     rw[tke] at lenB;simp only[zg,za] at lenB;refine{a7,_,rfl,bu (s7 _ _ ha7),rfl,?_};refine{_,_,rfl,{_,_,rfl,{rfl,?_}}};exists{_,ao (s7 _ _ hr7)},?_;let ql:⇑qs=⇑y.2:=by rw[<-f1,za]
     refine dW (enc:=λq:(Int×Str)×V=>q.2) (ws:=qs) (λq=>.str (cL (.holds y.1 q.1.1 q.1.2))) (λU=>∃v u,U=[v,u,some (.str y.1)]) () (by rw[f2];exact ao (s7 _ _ hr7)) {(none),none,rfl} ?_ ?_
     ·rintro z U H8 R hz s8 ⟨_,_,rfl⟩ rr
      let zin:z.1∈y.2:=by rw[<-f1];exact zN hz
      let tz:=ty z.1 zin;let⟨a8,ea,ha8⟩:=TH (f3 z hz);let s08:=s7.trans s8;let⟨b1,b2⟩:=tz.1.2.1;rw[ea];refine{a8,_,rfl,bu (s08 _ _ ha8),rfl,?_};refine{_,_,rfl,{_,_,rfl,{rfl,?_}}};exists bV () (),?_;exists by show 4<=sizeLine;decide,?_
      intros p9 H9 s9 h9;refine{" ",p9,Sc.aT (.holds y.1 z.1.1 z.1.2),rfl,rfl,ao h9,Ey tz,?_};exact rr _ _ _ s9 eW {_,_,rfl}
     ·intro D8 vs8 H8 s8 _ hD8 il8
      let ee8:qs.map (λq:(Int×Str)×V=>Dt.str (cL (.holds y.1 q.1.1 q.1.2)))=((y.2.map λh=>Told.holds y.1 h.1 h.2).map cL).map Dt.str:=by rw[<-f1,zz,zz,zz];rfl
      rw[ee8] at il8;rw[dG il8] at hD8;refine{D7,D8,_,_,rfl,rfl,ao (s8 _ _ hD7),ao hD8,?_,?_}
      ·rw[m9];simp only[zg,za];ext
      intro D9 n9;generalize hU:upd H8 D9 _=H9;let s9:aF H8 H9:=by rw[<-hU];exact bz n9
      exists D9,Lo.of rfl rfl,(s7.trans s8).trans s9,(s7.trans s8).back n9,?_;rw[<-hU,aE,tke,<-zD];exact yV (λl=>some (HO.lst l)) (ng _ _).symm
    ·rintro U H7 ⟨D7,⟨e,rfl⟩,s7,nD7,hD7⟩
     rw[rlh.len,zL] at hD7;obtain⟨B2,hB2⟩:∃B2,B2=B++S.aK.toList.map Told.aK++(S.holds.map λx=>x.2.map λh=>Told.holds x.1 h.1 h.2).flatten:={_,rfl}
     rw[<-hB2] at hD7 tB;let h17:=s7 _ _ h1;exists{_,ao (s7 _ _ h8)},?_;refine dJ (K:=K) (a:=nl) (xs:=nv) (λi U H'=>Lo [some (.ref p),some (.ref D7)] 10 U/\aF H H'/\H' D7=some (.lst (rws (B2++(S.aI.take i).map λx=>.aI x.1.1 x.1.2 x.2)))) {{(e),rfl},s7,by rw[wA,yj,zT];exact hD7} (λi U H' _ h=>by let⟨_,z,_⟩:=h;exact ao (z _ _ h8)) ?_ ?_
     ·intro i x U H8 hx hh
      refine cU λN kN3 kR3 _ _=>?_;let⟨⟨e,rfl⟩,s8,hD8⟩:=hh;let⟨y,hy,a7,r7,us7,rfl,ha7,hr7,il7,_⟩:=rln.at hx;let⟨qs,f1,f2,f3⟩:=iY il7;let tz:TD (.aI y.1.1 y.1.2 y.2):=tok _ (by rw[tB];simp only[zE,zF];exact .inl (.inr {y,zA hy,rfl}));let⟨⟨b1,b2⟩,b3,b4,_⟩:=tz.1;let yl:⇑y.2<=97:=by have:=tz.2.1;simp only[Sc.aT,zt,za] at this;ext
      let ql:⇑qs=⇑y.2:=by rw[<-f1,za]
      let ib:i<⇑S.aI:=(zw.mp hy).1;let lenB:B2.length+⇑S.aI<=1000000:=by
       have:=tlen (B2++S.aI.map λx=>.aI x.1.1 x.1.2 x.2) (Bv S) tB
       simpa[zg,za] using this
      refine{a7,_,rfl,bu (s8 _ _ ha7),rfl,?_};refine{_,_,rfl,{_,_,rfl,{_,_,rfl,{rfl,?_}}}};exists .inl {rfl,_,ao hD8},?_;exists bV () (),?_;exists by show 3<=sizeLine;decide,?_
      intros p9 H9 s9 h9;let s09:=s8.trans s9;exists{_,ao (s09 _ _ hr7)},?_;refine dW (enc:=λq:Item×V=>q.2) (ws:=qs) (λq=>.str (pA q.1)) (λU=>∃v,U=[v]) () (by rw[f2];exact ao (s09 _ _ hr7)) {(none),rfl} ?_ ?_
      ·rintro z U Ha R hz sa ⟨_,rfl⟩ rr
       let zin:z.1∈y.2:=by rw[<-f1];exact zN hz
       change{z.2,z.1,rfl,((f3 z hz).mono s09).mono sa,b4 _ zin,rr _ _ _ (aD _) eW {_,rfl}}
      ·intro Da vsa Ha sa _ hDa ila
       let eea:qs.map (λq:Item×V=>Dt.str (pA q.1))=(y.2.map pA).map Dt.str:=by rw[<-f1,zz,zz];rfl
       rw[eea] at ila;rw[dG ila] at hDa;refine{p9,Da,_,_,rfl,rfl,ao (sa _ _ h9),ao hDa,by rw[za,za];show 3+_<=_;ext,?_};intros pb Hb sb hb;refine{" ",pb,Sc.aT (.aI y.1.1 y.1.2 y.2),rfl,rfl,ao hb,Ey tz,?_};let s8b:=(s9.trans sa).trans sb;left;refine{D7,_,_,rfl,rfl,s8b _ _ hD8,?_,?_}
       ·rw[m9];simp only[zg,za,zO];ext
       exists Lo.of rfl rfl,bF nD7 (s8.trans s8b),?_;rw[aE,dr hy,zj,<-zD];exact yV (λl=>some (HO.lst l)) (ng _ [Told.aI y.1.1 y.1.2 y.2]).symm
     ·rintro U H8 ⟨⟨e,rfl⟩,s8,hD8⟩
      rw[rln.len,zL] at hD8;exists p,S,rfl,la.mono s8,rok,rln3,λj hj=>(tok (.bU j) (by rw[tB];unfold Bv;rw[hj];simp)).1,λD9 H9 s9 _ h9=>?_;refine{D7,D9,_,_,rfl,rfl,ao (s9 _ _ hD8),ao h9,?_,?_}
      ·have:=tl
       rw[tB] at this;simp only[zg,za] at this;rw[m9];simp only[zg,za];ext
      intro Dx nx;generalize hU:upd H9 Dx _=Hx;let sx:aF H9 Hx:=by rw[<-hU];exact bz nx
      refine kk Dx Hx ((s8.trans s9).trans sx) ((s8.trans s9).back nx) ?_;rw[<-hU,aE,tB];exact yV (λl=>some (HO.lst l)) (ng _ _).symm
def Ot {t:Told} (h:TD t):⇑(cL t)<=10100:=by
 let a:=Bo (sep:=" ") h.2.2;let b:⇑(Sc.aT t)*(100+(" ": Str).length)<=100*(100+(" ": Str).length):=wz h.2.1 (zk _);exact zK a (zK b (by show 100*(100+1)<=10100;decide))
inductive oH (vs:List V) (H:Hp) (Q:VK) (E:XK):Prop
 | mk (p:vm) (S:cg) (_:vs=[.ref p]) (_:m7 H p S) (_:S.aM=[]) (_:(∀t∈eV S,TD t)) (_:⇑(eV S)<=1000) (_:(∀r∈S.aH,NT r)) (_:⇑S.aH<=1000) (_:∀H',aF H H'->Q (.str (Str.join "\n" ((eV S).map cL))) H')
def GV {ts:List Told} (h:∀t∈ts,TD t) (hl:⇑ts<=1000):((ts.map cL).map (λz:Str=>⇑z+("\n": Str).length)).sum<=1000*10101:=by
 let a:=oG (sep:="\n") (k:=10100) (zs:=ts.map cL) λz hz=>by
  let⟨t,ht,rfl⟩:=zF.mp hz;exact Ot (h t ht)
 rw[za] at a;let b:⇑ts*(10100+("\n": Str).length)<=1000*(10100+("\n": Str).length):=wz hl (zk _);exact zK a (zK b (by show 1000*(10100+1)<=1000*10101;decide))
def pf:cE P w base 4 T.gR oH:=by
 nomatch T.gR,["_law_s"]
 let⟨p,S,rfl,la,hst,tok,tl,rok,rl,kk⟩:=h;let sl:=yy;refine{_,(ak (ar (bW yC yE yD hZ aL (ae (bJ (pj T) hr T.gS (ae (pv 0) ag)) ag)))),?_};ac_rfl;exists p,S,rfl,la,hst,tok,(),rok,rl,λD H1 s1 _ h1=>?_;refine{"\n",D,(eV S).map cL,rfl,rfl,ao h1,zK (GV tok tl) (),?_};exact kk _ s1
theorem LV:∀{ts:List Told},(∀t∈ts,TD t)->RT (ts.map cL) ts
 | [],_=>.nil
 | t::r,h=>by
  let ht:=h t zp;exact .row (zK (Ot ht) ∅) (MM ht.1) ht.1 (zK ht.2.1 ∅) (λy hy=>zK (ht.2.2 y hy) ∅) (LV λx hx=>h x (zm _ hx))
def QW {ts:List Told} (ne:ts≠[]) (h:∀t∈ts,TD t):RT (Txt.split (Str.join "\n" (ts.map cL)) "\n") ts:=by
 rw[show Txt.split (Str.join "\n" (ts.map cL)) "\n"= ts.map cL from gd (c:=10) (by simpa using ne) λz hz=>by
  let⟨t,ht,rfl⟩:=zF.mp hz;exact OT (h t ht).1]
 exact LV h
def text_len {ts:List Told} (h:∀t∈ts,TD t) (hl:⇑ts<=1000):(Str.join "\n" (ts.map cL)).length+2<=sizeLine:=by
 let sl:=yy;let a:=join_le "\n" (ts.map cL);let b:=GV h hl;ext
inductive uE (vs:List V) (H:Hp) (Q:VK) (E:XK):Prop
 | mk (m first last times:Int) (_:vs=[.int m,.int first,.int last,.int times]) (_:0<=m) (_:m<1099511627776) (_:0<=first) (_:first<=last) (_:last<=200) (_:2<=times) (_:times<=9) (_:∀(es:List Sc.End) v H',Mp first last times es->aF H H'->Is H' (.tup (es.map mj)) v->Q v H')
def LK (first last:Int) (bs:List Int):Prop:=bs≠[]/\bs.Pairwise (·<·)/\∀b∈bs,first<=b/\b<=last
def Qk {first last:Int} {bs:List Int} (h:LK first last bs):∃b,(bs.map V.int)[⇑(bs.map V.int)-1]?=some (.int b)/\first<=b/\b<=last/\∀x∈bs,x<=b:=by
 let⟨ne,asc,hin⟩:=h;let e:=xR ne;let hm:=List.getLast_mem ne;refine{bs.getLast ne,?_,(hin _ hm).1,(hin _ hm).2,λx hx=>?_}
 ·rw[za,zI,List.getLast_eq_getElem,zb (by have:=yo.mpr ne;ext)];rfl
 ·rw[<-e] at hx asc
  rw[zR] at asc;rcases zE.mp hx with z | z
  ·exact yZ (asc.2.2 x z _ (zy.mpr rfl))
  ·rw[zy.mp z];exact Int.le_refl _
def Qj {first last b c:Int} {bs:List Int} (h:LK first last bs) (hb:∀x∈bs,x<=b) (h1:first<=b) (h2:b<c) (h3:c<=last):LK first last (bs++[c]):=by
 let⟨ne,asc,hin⟩:=h;refine{by simp,?_,λx hx=>?_}
 ·rw[zR]
  refine{asc,by simp,λx hx y hy=>?_};let ey:y=c:=by simpa using hy
  have:=hb x hx;ext
 ·rcases zE.mp hx with z | z
  ·exact hin x z
  ·let ey:x=c:=by simpa using z
   ext
noncomputable def l8 (m:Int) (n k:Nat):Nat:=if k<n then(k+(m/90).toNat)%n else(m/((k:Int)+7)%(n:Int)).toNat
def uZ:cE P w base 1 T.lE uE:=by
 nomatch T.lE,["_law_m","_law_first","_law_last","_law_times","_law_begins","_law_passes","_law_k","_law_spot"]
 let⟨m,first,last,times,rfl,m0,m1,f0,fl,l1,t0,t1,kk⟩:=h;let sl:=yy;refine{_,(ah (aJ (PW.pt (dB (ptr dh (pv 2) (pv 1)) (cY (ptr dh (au aS (pv 0) aa) aa))))
  (ak (ar (aW ag)))
  aA)
  (ah (bQ 4 qN (bg (ae (au aR (pv 1) (au aS (au aY (pv 0) aa) (au aR (au gN (pv 2) (pv 1)) aa))) ag)))
  (ah (A2 yL (PW.pt (cZ (ptr eI (d6 aB T.bE (ae (pv 4) ag)) (pv 3)) (cZ (ptr eI (eM (pv 4) (jy fL aa)) (pv 2)) (cS (ptr d7 (au aS (au aY (pv 0) (au aR (au dR aa (d6 aB T.bE (ae (pv 4) ag))) aa)) aa) aa)))))
  (ak (bA (bW yz yB yA bw (pv 4) (ae (d6 (ND rfl) T.U8 (ae (pv 2) (ae (au aR (au aR (eM (pv 4) (jy fL aa)) aa) (au aS (au aY (pv 0) (au aR (d6 aB T.bE (ae (pv 4) ag)) aa)) aa)) ag))) ag)))))
  (ah (Pl (i:=5) (ts:=["_law_begin"]) (ys:=[]) (js:=[]) (te:=(JZ d4)) (bH (pv 4)) (f9 0) bB (bg ag) qN)
  (ah (cj yL rfl (cy (by rfl) T.cK (ae (pv 3) ag)) (hX 6 qN)
  (ah (bQ 7 qN (A5 (ptr eI (pv 6) (d6 aB T.bE (ae (pv 4) ag))) (au aS (au aR (pv 6) (au aY (pv 0) aa)) (d6 aB T.bE (ae (pv 4) ag))) (au aS (au aY (pv 0) (au aR (pv 6) aa)) (d6 aB T.bE (ae (pv 4) ag)))))
   (ak (bA (bW yz yB yA bw (eM (pv 5) (pv 7)) (ae (au aR (pv 6) aa) ag))))))
  (ak (ar (oA dz T.kQ (ae (mq (ts:=["_law_begin","_law_some"]) (ys:=[]) (js:=[]) (g:=(KW K 2 (gJ (cz 0) (gJ (cz 1) KY)))) (te:=(Ao (bD (bc 0) (bD (N3 (Te K) (bD (bc 1) d4)) d4)))) (Pb (by rfl) T.Sa (ae (pv 4) (ae (pv 5) ag))) (eB (n:=2) rfl (aO (f9 0) (aO (f9 1) dt))) bB (aW (ae (pv 0) (ae (oA dz T.kQ (ae (pv 1) ag)) ag)))) ag))))))))),?_}
 ac_rfl;left;let none_:∀(Hq:Hp),aF H Hq->(∀p,Hq p=none->Q (.ref p) (upd Hq p (.tup []))):=λHq sq p n=>kk [] (.ref p) _ Ng (sq.trans (bz n)) (cO aE c9);refine vX (decide (V.int last=V.int first)||decide (V.int (m%3)=V.int 0)) ?_ ?_ ?_
 ·intro c1 Z hz
  rw[c1,Bool.false_or] at hz;change hz
 ·intro c1;rw[c1,Bool.true_or]
 cases qv:(decide (V.int last=V.int first)||decide (V.int (m%3)=V.int 0)) with
 | true=>
  change{by show 0<=sizeLine;decide,none_ H (aD _)}
 | false=>
 exists by show 0<last-first+1;ext,?_
 let a0:0<=m/3%(last-first+1):=zv _ ();let a1:m/3%(last-first+1)<last-first+1:=zr _ ();exists by show 1<=sizeLine;decide,λB nB=>?_
 generalize hU1:upd H B _=H1;let s1:aF H H1:=aF.Bh hU1 nB;let h1:H1 B=some (.lst ([first+m/3%(last-first+1)].map V.int)):=B3 hU1;let b1:LK first last [first+m/3%(last-first+1)]:=by
  refine{by simp,by simp,λb hb=>?_};have:b=first+m/3%(last-first+1):=by simpa using hb
  ext
 clear hU1;left;refine Mr (λn U H'=>∃bs:List Int,n=9-⇑bs/\U=[some (.int m),some (.int first),some (.int last),some (.int times),some (.ref B),none,none,none]/\aF H H'/\H' B=some (.lst (bs.map V.int))/\LK first last bs/\(⇑bs:Int)<=times)
  (λU H'=>∃bs:List Int,U=[some (.int m),some (.int first),some (.int last),some (.int times),some (.ref B),none,none,none]/\aF H H'/\H' B=some (.lst (bs.map V.int))/\LK first last bs/\(⇑bs:Int)<=times)
  {_,_,rfl,rfl,s1,h1,b1,by show(1:Int)<=times;ext} ?_ ?_
 ·rintro n U H2 ⟨bs,rfl,rfl,s2,h2,b2,bl⟩ N hN
  let⟨lb,hlb,lb0,lb1,lbx⟩:=Qk b2;let out:=hN _ _ {(bs),rfl,s2,h2,b2,bl};exists B,_,rfl,.inl (ao h2),?_;rw[za];left;let q0:0<=m/(7*(⇑bs:Int)+5)%4:=zv _ ∅;refine dM (decide ((⇑bs:Int)<times)&&(decide (lb<last)&&decide (0<m/(7*(⇑bs:Int)+5)%4))) ?_ ?_ ?_
  ·intro c1 Z hz
   rw[c1,yR] at hz;exists B,_,-1,_,rfl,rfl,ao h2,nU hlb,?_;left;refine dM (decide (lb<last)&&decide (0<m/(7*(⇑bs:Int)+5)%4)) ?_ ?_ hz
   ·intro c2 Z hz
    rw[c2,yR] at hz;exists B,_,rfl,.inl (ao h2),?_;rw[za];exists{by show 0<7*(⇑bs:Int)+5;ext,by show 7*(⇑bs:Int)+5<1073741824;ext},?_;change hz
   ·intro c2;rw[c2,yP]
  ·intro c1;rw[c1,yP]
  cases qw:(decide ((⇑bs:Int)<times)&&(decide (lb<last)&&decide (0<m/(7*(⇑bs:Int)+5)%4))) with
  | false=>exact b7 rfl out
  | true=>
   simp only[zM,xy] at qw;let⟨c1,c2,c3⟩:=qw;refine bX rfl {λU H'=>∃bs':List Int,⇑bs'=⇑bs+1/\U=[some (.int m),some (.int first),some (.int last),some (.int times),some (.ref B),none,none,none]/\aF H H'/\H' B=some (.lst (bs'.map V.int))/\LK first last bs'/\(⇑bs':Int)<=times,?_,?_}
   ·rintro U' H' ⟨bs',e1,e2,e3,e4,e5,e6⟩
    exact{9-⇑bs',(),bs',rfl,e2,e3,e4,e5,e6}
   exists .inl {rfl,_,ao h2},?_;exists B,_,-1,_,rfl,rfl,ao h2,nU hlb,?_;exists B,_,rfl,.inl (ao h2),?_;rw[za];exists{by show 0<(⇑bs:Int)+11;ext,by show(⇑bs:Int)+11<1073741824;ext},?_;left;let r0:0<=m/((⇑bs:Int)+11)%3:=zv _ ∅;refine{_,_,rfl,?_};exists B,_,_,rfl,rfl,h2,by rw[za];ext,?_
   left;refine{bs++[if lb+1+m/((⇑bs:Int)+11)%3<last then lb+1+m/((⇑bs:Int)+11)%3 else last],by rw[zg];rfl,rfl,bF nB s2,by rw[aE,zj];rfl,Qj b2 lbx lb0 ?_ ?_,by rw[zg];show((⇑bs+1:Nat):Int)<=times;ext}
   ·split <;> ext
   ·split <;> ext
 ·clear s1 h1 b1
  rintro σ1 H1 ⟨bs,rfl,s1,h1,b1,bl⟩;let bp:0<⇑bs:=yo.mpr b1.1;exists{_,ao h1},?_;refine F8 (by rw[za];ext) (ao h1) {(none),rfl} λD qs H2 s2 nD h2 nd nDq ql hq=>?_;rw[za] at ql;exists by ext,(),?_
  let neB:∀q∈qs,q≠B:=λq hq' e=>by
   have:=(hq q hq').1;rw[e,h1] at this;cases this
  let tn:((times.toNat:Nat):Int)=times:=()
  refine fC (λk U H'=>∃(v6 v7:Option V),U=[some (.int m),some (.int first),some (.int last),some (.int times),some (.ref B),some (.ref D),v6,v7]/\aF H H'/\H' B=some (.lst (bs.map V.int))/\H' D=some (.lst (qs.map V.ref))/\∀(i:Nat) (q:vm),qs[i]?=some q->H' q=some (.lst ((cM (l8 m ⇑bs) k i).map V.int)))
   {none,none,rfl,s1.trans s2,s2 _ _ h1,h2,λi q e=>(hq q (zA e)).2} ?_ ?_
  ·intro k U H3 hk hh
   refine cU λN kN0 kR0 _ _=>?_;let⟨v6,v7,rfl,s3,hB3,hD3,hq3⟩:=hh;left;let m90:0<=m/90:=zU m0 ∅;let sl0:l8 m ⇑bs k<⇑bs:=by
    unfold l8;split
    ·exact wY _ bp
    ·have:=zr (m/((k:Int)+7)) (b:=(⇑bs:Int)) ()
     have:=zv (m/((k:Int)+7)) (b:=(⇑bs:Int)) ();ext
   refine{B,_,rfl,.inl (ao hB3),?_};rw[za];left;refine Xe (H:=H3) (.int ((l8 m ⇑bs k:Nat):Int)) ?_ ?_ ?_
   ·intro c1 Z hz
    let c1':k<⇑bs:=by have:=yb c1;ext
    let e:((l8 m ⇑bs k:Nat):Int)=(0+(k:Int)+m/90)%(⇑bs:Int):=by
     unfold l8;rw[yK c1',Int.natCast_emod,Int.natCast_add,Int.toNat_of_nonneg m90,Int.zero_add]
    rw[e] at hz;exists B,_,rfl,.inl (ao hB3),?_;rw[za];change{by show 0<(⇑bs:Int);ext,hz}
   ·intro c1 Z hz
    let c1':¬k<⇑bs:=by have:=of_decide_eq_false c1;ext
    let e:((l8 m ⇑bs k:Nat):Int)=m/(0+(k:Int)+7)%(⇑bs:Int):=by
     unfold l8;rw[yJ c1',Int.zero_add,Int.toNat_of_nonneg (zv _ ())]
    rw[e] at hz;exists{by show 0<0+(k:Int)+7;ext,by show 0+(k:Int)+7<1073741824;ext},?_;exists B,_,rfl,.inl (ao hB3),?_;rw[za];change{by show 0<(⇑bs:Int);ext,hz}
   left;let qe:qs[l8 m ⇑bs k]?=some (qs[l8 m ⇑bs k]'()):=zb ();generalize qs[l8 m ⇑bs k]'()=q at qe;let qm:=zA qe;refine{D,_,_,.ref q,rfl,rfl,ao hD3,bq (by rw[zI,qe];rfl),?_};let hq3':=hq3 _ _ qe;refine{.inl {rfl,_,ao hq3'},?_};exists q,_,_,rfl,rfl,hq3',by rw[za];have:=A7 (sp:=l8 m ⇑bs) (i:=l8 m ⇑bs k) (k:=k);ext,?_
   exists _,_,rfl,bF (s1.back (hq q qm).1) s3,by rw[aG (neB q qm).symm];exact hB3,by rw[aG (λz=>nDq (by rw[z];exact qm))];exact hD3,λi q' e=>?_
   by_cases ei:i=l8 m ⇑bs k
   ·have:q'=q:=by rw[ei,qe] at e;exact(yh e).symm
    rw[this,aE,cM,yK ei,zj,Int.zero_add,ei];rfl
   ·let nq:q'≠q:=λz=>by
     rw[z] at e;exact ei (Ip nd e qe)
    rw[aG nq,cM,yJ ei];exact hq3 i q' e
  ·rintro U H3 ⟨v6,v7,rfl,s3,hB3,hD3,hq3⟩
   left;let eb:=sA V.int 0 bs;let eq:=sA V.ref 0 qs;rw[ql] at eq;refine{false,false,B,D,_,_,rfl,ao hB3,ao hD3,?_};refine Lj (ws:=List.range ⇑bs) (e1:=λi=>.int (bs.getD i 0)) (e2:=λi=>.ref (qs.getD i 0)) (λi=>mj (bs.getD i 0,cM (l8 m ⇑bs) times.toNat i)) (λU=>∃v w,U=[v,w]) (by rw[zP];ext) (by rw[eb];exact ao hB3) (by rw[eq];exact ao hD3) {(none),none,rfl} ?_ ?_
   ·rintro i U H4 p R hi s4 hp ⟨v,w',rfl⟩ rr
    let il:=yN.mp hi;let qe:qs[i]?=some (qs.getD i 0):=by rw[List.getD_eq_getElem?_getD,zb ()];rfl
    let h5:=s4 _ _ (hq3 i _ qe);refine{p,_,rfl,bu hp,rfl,?_};refine{_,_,rfl,{_,_,rfl,{rfl,?_}}};left;refine{_,_,rfl,.inl {ao h5,?_}};intros p6 H6 s6 h6;exists bK,?_;intros p7 H7 s7 h7;exact rr _ _ _ (s6.trans s7) (cO h7 (aU cH (aU (cO (s7 _ _ h6) qQ) c9))) {_,_,rfl}
   ·intro D5 vs5 H5 s5 _ h5 il5
    rw[Nh] at il5;left;refine{D5,_,rfl,.inl {ao h5,?_}};intros p6 H6 s6 h6;refine kk _ _ _ ?_ ((s3.trans s5).trans s6) (cO h6 (il5.mono s6));have:=K2 (first:=first) (last:=last) (t:=times.toNat) (bs:=bs) (sp:=l8 m ⇑bs) () b1.1 b1.2.1 b1.2.2 ?_ ?_ ()
    ·rw[tn] at this;exact this
    ·intro j hj
     unfold l8;split
     ·exact wY _ bp
     ·have:=zr (m/((j:Int)+7)) (b:=(⇑bs:Int)) ()
      have:=zv (m/((j:Int)+7)) (b:=(⇑bs:Int)) ();ext
    ·intro i hi
     let⟨j,hj,ej⟩:=QO (c:=(m/90).toNat) hi;exact{j,(),by unfold l8;rw[yK hj];exact ej}
def GC (many:Int) (r:Rep):Prop:=0<=r.first/\r.first<=r.last/\r.last<many/\2<=r.times/\r.times<=9/\Mp r.first r.last r.times r.ends
def Eu (many:Int) (rs:List Rep):Prop:=⇑rs<=4/\(∀r∈rs,GC many r)/\rs.Pairwise λa b=>a.last<b.first
inductive oJ (vs:List V) (H:Hp) (Q:VK) (E:XK):Prop
 | mk (c many:Int) (_:vs=[.int c,.int many]) (_:many<=200) (_:∀(rs:List Rep) D us H',Eu many rs->aF H H'->H' D=some (.lst us)->aC H' (rs.map i6) us->Q (.ref D) H')
def pw:cE P w base 2 T.gU oJ:=by
 nomatch T.gU,["_law_cell","_law_many","_law_repeats","_law_bar","_law_k","_law_m","_law_first","_law_last","_law_times"]
 let⟨c,many,rfl,my,kk⟩:=h;let sl:=yy;refine{_,(ah (bQ 2 qN (bg ag))
  (ah (bQ 3 qN aa)
  (ah (cj yL rfl (cy (by rfl) T.cK (ae aa ag)) (hX 4 qN)
  (ah (bQ 5 qN (bJ (bR T) hr T.cw (ae (pv 0) (ae (au aR (pv 4) aa) ag))))
   (ah (bQ 6 qN (au aR (pv 3) (au aS (pv 5) aa)))
   (ah (bQ 7 qN (au aR (pv 6) (au aS (au aY (pv 5) aa) aa)))
   (ak (aJ (PW.pt (cZ (ptr eI (pv 7) (pv 1)) (cS (ptr d7 (au aS (au aY (pv 5) aa) aa) aa))))
   (ah (bQ 8 qN (au aR aa (au aS (au aY (pv 5) aa) (eM (bg (ae aa (ae aa (ae aa ag)))) (au aS (au aY (pv 5) aa) aa)))))
    (ah (bA (bW yz yB yA bw (pv 2) (ae (aW (ae (pv 6) (ae (pv 7) (ae (pv 8) (ae (bJ (uZ T) hr T.lE (ae (au aY (pv 5) aa) (ae (pv 6) (ae (pv 7) (ae (pv 8) ag))))) ag))))) ag)))
    (ak (bQ 3 qN (au aR (pv 7) aa)))))
   aA))))))
  (ak (ar (pv 2)))))),?_}
 ac_rfl;exists by show 0<=sizeLine;decide,?_
 intros D nD s2 h2 H2
 exists by decide,(by decide),?_
 refine fC (λi U H'=>∃(rs:List Rep) (us:List V) (bar:Int),Lo [some (.int c),some (.int many),some (.ref D),some (.int bar)] 5 U/\aF H H'/\H' D=some (.lst us)/\aC H' (rs.map i6) us/\⇑rs<=i/\0<=bar/\(∀r∈rs,GC many r/\r.last<bar)/\rs.Pairwise λa b=>a.last<b.first)
  {[],[],0,Lo.of rfl rfl,s2,h2,c9,zk _,∅,by simp,by simp} ?_ ?_
 ·intro i U H3 hi hh
  refine cU λN kN0 kR0 _ _=>?_;let⟨rs,us,bar,⟨e,rfl⟩,s3,h3,il3,rl,b0,rok,asc⟩:=hh;exists c,_,rfl,(),(),?_;let m0:0<=mixed c (0+(i:Int)+500):=zv _ ∅;let m1:mixed c (0+(i:Int)+500)<2147483399:=zr _ ∅;generalize mixed c (0+(i:Int)+500)=m at m0 m1;let a0:0<=m%4:=zv _ ∅;let e0:0<=m/4%8:=zv _ ∅;left;refine dM (decide (bar+m%4+m/4%8<many)&&decide (0<m/32%4)) ?_ ?_ ?_
  ·intro c1 Z hz
   rw[c1,yR] at hz;change hz
  ·intro c1;rw[c1,yP]
  cases qw:(decide (bar+m%4+m/4%8<many)&&decide (0<m/32%4)) with
  | false=>
   change{rs,us,bar,Lo.of rfl rfl,s3,h3,il3,(),b0,rok,asc}
  | true=>
   simp only[zM,xy] at qw;let⟨c1,c2⟩:=qw;exists by show 3<=sizeLine;decide,?_
   intros p4 H4 s4 h4;let g0:0<=m/1024%3:=zv _ ∅;let g1:m/1024%3<3:=zr _ ∅;obtain⟨jj,hjj⟩:∃j:Nat,m/1024%3=(j:Int):={(m/1024%3).toNat,()}
   let⟨z,hz,z0,z1⟩:=U4 (l:=[2,3,8]) (p:=λz=>2<=z/\z<=8) ∅ (show jj<3 by ext);exists p4,_,m/1024%3,.int z,rfl,rfl,ao h4,(by rw[hjj];exact bq hz),?_;exists by show 0<z;ext,?_
   let t0:0<=m/128%z:=zv _ ();let t1:m/128%z<z:=zr _ ();exists .inl {rfl,_,ao (s4 _ _ h3)},?_;left;refine{_,_,_,_,rfl,zU m0 ∅,?_,(),(),(),(),(),λes v H5 eok s5 h5=>?_}
   ·have:=zV (a:=m) 7 m0;ext
   exists by show 4<=sizeLine;decide,?_
   intros p6 H6 s6 h6;let s36:=s4.trans (s5.trans s6);let h36:=s36 _ _ h3;refine{D,us,_,rfl,rfl,h36,by have:=aQ il3;ext,?_};let nt:cT (H6 D):=by rw[h36];exact λ_ z=>by cases z
   let ix:Is H6 (i6 {bar+m%4,bar+m%4+m/4%8,2+m/128%z,es}) (.ref p6):=cO h6 (aU cH (aU cH (aU cH (aU (h5.mono s6) c9))));left;refine{rs++[{bar+m%4,bar+m%4+m/4%8,2+m/128%z,es}],_,_,Lo.of rfl rfl,bF nD (s3.trans s36),aE,?_,by rw[zg];show ⇑rs+1<=i+1;ext,(),λr hr=>?_,?_}
   ·rw[zj]
    exact cX (Is.upd nt ix) (aC.upd nt (il3.mono s36))
   ·rcases zE.mp hr with y | y
    ·have:=rok r y
     exact{(this.1),()}
    ·rw[zy.mp y]
     exact{{by show 0<=bar+m%4;ext,by show bar+m%4<=bar+m%4+m/4%8;ext,c1,by show 2<=2+m/128%z;ext,by show 2+m/128%z<=9;ext,eok},by show bar+m%4+m/4%8<bar+m%4+m/4%8+1;ext}
   ·rw[zR]
    refine{asc,by simp,λa ha b hb=>?_};let eb:b=⟨bar+m%4,bar+m%4+m/4%8,2+m/128%z,es⟩:=by simpa using hb
    rw[eb];have:=(rok a ha).2;show a.last<bar+m%4;ext
 ·rintro U H3 ⟨rs,us,bar,⟨e,rfl⟩,s3,h3,il3,rl,b0,rok,asc⟩
  change kk rs D us H3 {rl,λr hr=>(rok r hr).1,asc} s3 h3 il3
def Sm (H:Hp) (p:vm) (rs:List Rep):Prop:=⇑rs<=1000/\(∀r∈rs,⇑r.ends<=1000)/\∃rv,H p=some (.lst rv)/\aC H (rs.map i6) rv
theorem Sm.mono {H H':Hp} (s:aF H H') {p:vm} {rs:List Rep} (h:Sm H p rs):Sm H' p rs:=by
 let⟨h1,h2,rv,h3,h4⟩:=h;exact{h1,h2,rv,s _ _ h3,h4.mono s}
inductive gM (vs:List V) (H:Hp) (Q:VK) (E:XK):Prop
 | mk (p:vm) (rs:List Rep) (b:Int) (_:vs=[.ref p,.int b]) (_:Sm H p rs) (_:∀H',aF H H'->Q (.bl (jD rs b)) H')
inductive jL (vs:List V) (H:Hp) (Q:VK) (E:XK):Prop
 | mk (p:vm) (rs:List Rep) (b:Int) (_:vs=[.ref p,.int b]) (_:Sm H p rs) (_:∀H',aF H H'->Q (.bl (eK rs b)) H')
def oB:cE P w base 1 T.lD jL:=by
 nomatch T.lD,["_law_repeats","_law_bar"]
 let⟨p,rs,b,rfl,⟨rl,el,rv,hp,il⟩,kk⟩:=h;let sl:=yy;let⟨ps,e1,e2,e3⟩:=iY il;let pln:⇑ps=⇑rs:=by rw[<-e1,za]
 refine{_,(ak (ar (d6 (gm rfl) T.Bj (ae (mq (ts:=["_law_first","_law_last","_law_times","_law_ends"]) (ys:=["_law_bar"]) (js:=[1]) (g:=(KW K 4 (gJ (cz 0) (gJ (cz 1) (gJ (cz 2) (gJ (cz 3) KY)))))) (te:=(Ap (tW λi j=>.bl (decide (i<j))) (tW λi j=>.bl (decide (i<=j))) (bc 0) (bc 4) (bc 1))) (bH (pv 0)) (eB (n:=4) rfl (aO (f9 0) (aO (f9 1) (aO (f9 2) (aO (f9 3) dt))))) bB (HS eI gF (pv 0) (pv 4) (pv 1))) ag)))),?_};ac_rfl;exists{_,ao hp},?_;refine dW (enc:=λq:Rep×V=>q.2) (ws:=ps) (λq=>.bl (decide (q.1.first<b)&&decide (b<=q.1.last))) (λU=>∃v1 v2 v3 v4,U=[v1,v2,v3,v4,some (.int b)]) () (by rw[e2];exact ao hp) {_,_,_,_,rfl} ?_ ?_
 ·rintro z U H1 R hz s1 ⟨v1,v2,v3,v4,rfl⟩ rr
  let⟨a,e,ev,ha,_⟩:=fk ((e3 z hz).mono s1);rw[ev];refine{a,_,rfl,bu ha,rfl,?_};refine{_,_,rfl,{_,_,rfl,{_,_,rfl,{_,_,rfl,{rfl,?_}}}}};left
  by_cases c:z.1.first<b
  ·refine bX (ze c) ?_
   change rr _ _ _ (aD _) (by rw[ze c,yR];unfold Is;rfl) {_,_,_,_,rfl}
  ·refine b7 (zd c) ?_
   exact rr _ _ _ (aD _) (by rw[zd c,yP];unfold Is;rfl) {_,_,_,_,rfl}
 ·intro D vs H1 s1 nD hD ilD
  let ee:ps.map (λq:Rep×V=>Dt.bl (decide (q.1.first<b)&&decide (b<=q.1.last)))=(rs.map λr=>decide (r.first<b)&&decide (b<=r.last)).map Dt.bl:=by rw[<-e1,zz,zz];rfl
  rw[ee] at ilD;rw[jN ilD] at hD;exists D,_,rfl,ao hD,?_;have:=kk _ s1;unfold eK at this;rw[wy];exact this
def lT:cE P w base 1 T.iC gM:=by
 nomatch T.iC,["_law_repeats","_law_bar","_law_first","_law_last","_law_times","_law_ends","_law_mine"]
 let⟨p,rs,b,rfl,⟨rl,el,rv,hp,il⟩,kk⟩:=h;let sl:=yy;let rvl:=aQ il;refine{_,(ah (cj yL rfl (bH (pv 0)) (eB (n:=4) rfl (aO (hX 2 qN) (aO (hX 3 qN) (aO (hX 4 qN) (aO (hX 5 qN) dt)))))
  (ak (aJ (O5 gF gF (pv 2) (pv 1) (pv 3))
   (ah (Pl (i:=6) (ts:=["_law_begin","_law_passes"]) (ys:=["_law_bar"]) (js:=[1]) (g:=(KW K 2 (gJ (cz 0) (gJ (cz 1) KY)))) (tc:=(oq (fj (tW λi j=>.bl (decide (i<=j))) (bc 0) (bc 2)))) (te:=(bc 1)) (iT (pv 5)) (eB (n:=2) rfl (aO (f9 0) (aO (f9 1) dt))) (gs (ptr gF (pv 0) (pv 2))) (pv 1) qN)
    (ak (ar (Pd (dw (Fo hr.units) (pv 6) (bg ag) (gQ _)) (mK (dw iG (pv 4) (eM (pv 6) (jy fL aa)) (by with_unfolding_all rfl)))))))
   aA)))
  (ak (ar mM))),?_}
 ac_rfl;exists{_,ao hp},?_;refine dJ (K:=K) (a:=p) (xs:=rv) (λi U H'=>H'=H/\(∀r∈rs.take i,GJ r b=false)/\∃(v2 v3 v4 v5 v6:Option V),U=[some (.ref p),some (.int b),v2,v3,v4,v5,v6]) {rfl,by simp,none,none,none,none,none,rfl} (λi U H' _ h=>by rw[h.1];exact ao hp) ?_ ?_
 ·rintro i x U H1 hx ⟨rfl,no,v2,v3,v4,v5,v6,rfl⟩
  let⟨r,hr',ir⟩:=cN il hx;let⟨a,ep,rfl,ha,ie⟩:=fk ir;let rin:=zA hr';let nxt:GJ r b=false->∀y∈rs.take (i+1),GJ y b=false:=λe y hy=>by
   rw[dr hr'] at hy;rcases zE.mp hy with z | z
   ·exact no y z
   ·rw[zy.mp z];exact e
  refine{a,_,rfl,bu ha,rfl,?_};refine{_,_,rfl,{_,_,rfl,{_,_,rfl,{_,_,rfl,{rfl,?_}}}}};left
  by_cases c1:r.first<=b
  ·refine bX (ze c1) ?_
   left
   by_cases c2:b<=r.last
   ·refine bX (ze c2) ?_
    left;obtain⟨ep',evs,e0,hep,ile⟩:∃ep' evs,V.ref ep=.ref ep'/\H1 ep'=some (.tup evs)/\aC H1 (r.ends.map mj) evs:=by unfold Is at ie;exact ie
    cases e0;let⟨ps,e1,e2,e3⟩:=iY ile;let pln:⇑ps=⇑r.ends:=by rw[<-e1,za]
    let elr:=el r rin;refine{{_,bu hep},?_};let hro:dC rs b=some r:=Bx hr' (by rw[ze c1,ze c2];rfl) λy hy=>no y hy;refine pH (ws:=ps) (enc:=λq:Sc.End×V=>q.2) (λq=>decide (q.1.1<=b)) (λq=>ui q.1.2) (λU=>∃v w',U=[v,w',some (.int b)]) () {_,_,rfl} (λi H hi sm=>KS (iE sm hep) (by rw[<-e2,za];exact hi)) (λH sm=>{_,iE sm hep,by rw[<-e2,za];exact zk _}) ?_ ?_ ?_
    ·rintro i x H H2 hi sm ⟨rfl,hy⟩
     let hx':=hy _ (iE sm hep);rw[<-e2,zI,zb hi] at hx';cases hx';exact{(rfl),rfl}
    ·rintro z U H2 R N hz s2 ⟨v,w',rfl⟩ rr nn
     let⟨a2,q2,ev,ha2,hq2⟩:=pB ((e3 z hz).mono s2);rw[ev];refine{a2,_,rfl,bu ha2,rfl,?_};refine{_,_,rfl,{_,_,rfl,{rfl,?_}}};left
     by_cases c3:z.1.1<=b
     ·refine bX (ze c3) ?_
      change rr (ze c3) _ _ _ (aD _) (cO hq2 qQ) {_,_,rfl}
     ·refine b7 (zd c3) ?_
      exact nn (zd c3) _ _ (aD _) {_,_,rfl}
    ·intro D vs H2 s2 nD hD ilD
     let ee:(ps.filter λq:Sc.End×V=>decide (q.1.1<=b)).map (λq=>ui q.1.2)=((r.ends.filter λe=>decide (e.1<=b)).map (·.2)).map ui:=by
      rw[<-e1,List.filter_map,zz,zz];rfl
     rw[ee] at ilD;let vl:=aQ ilD;rw[za] at vl;exists by show 0<=sizeLine;decide,?_
     intros p3 H3 s3 h3;refine{D,p3,_,_,rfl,rfl,.inl {ao (s3 _ _ hD),ao h3},.inr (.inl rfl),?_};let hlp:jD rs b=(match (r.ends.filter λe=>decide (e.1<=b)).getLast? with | none=>true | some e=>decide (r.times∈e.2)):=by unfold jD;rw[hro];try rfl
     rw[hlp] at kk;clear hlp ee;generalize (r.ends.filter λe=>decide (e.1<=b))=fs at kk ilD vl;let s13:=s2.trans s3
     by_cases e:vs=[]
     ·refine{_,rfl,bX (ze e) ?_}
      have:fs=[]:=by
       rw[e] at vl;exact yp.mp vl.symm
      rw[this] at kk;exact kk _ s13
     ·refine{_,rfl,b7 (zd e) ?_}
      let vp:0<⇑vs:=yo.mpr e;let⟨ps5,hps5,i5⟩:=cN ilD (i:=⇑vs-1) (zb ());rw[zI] at hps5;cases qf:fs[⇑vs-1]? with
      | none=>rw[qf] at hps5;cases hps5
      | some en=>
       rw[qf] at hps5;let e5:en.2=ps5:=yh hps5;subst e5;let gl:fs.getLast?=some en:=by rw[wa,<-vl];exact qf
       rw[gl] at kk;unfold ui Is at i5;let⟨a5,us5,ev5,ha5,il5⟩:=i5;rw[eD il5] at ha5;left;refine{D,vs,-1,_,rfl,rfl,ao (s3 _ _ hD),nU (zb ()),?_};rw[ev5];refine{a5,_,rfl,.inr (bu (s3 _ _ ha5)),rfl,by rw[x6];exact ym.mpr λx _=>rfl,?_};show Q (.bl (FJ (.int r.times) (en.2.map V.int))) _;rw[vZ];exact kk _ s13
   ·refine b7 (zd c2) ?_
    change{nxt (by unfold GJ;rw[zd c2,wB]),_,_,_,_,_,rfl}
  ·refine b7 (zd c1) ?_
   change{nxt (by unfold GJ;rw[zd c1,yP]),_,_,_,_,_,rfl}
 ·rintro U H1 ⟨rfl,no,v2,v3,v4,v5,v6,rfl⟩
  left;let e:jD rs b=true:=by
   unfold jD;rw[show dC rs b=none from xO.mpr λy hy=>by
    have:=no y (by rw[rvl,zL];exact hy);unfold GJ at this;rw[this];simp]
  rw[e] at kk;exact kk _ (aD _)
def Eu.apart {many:Int} {rs:List Rep} (h:Eu many rs):Apart rs:=by
 refine{λr hr=>?_,h.2.2};let⟨h1,h2,h3,h4,h5,e1,e2,e3,e4,e5⟩:=h.2.1 r hr;exact{h2,e5,λe he=>{(e3 e he).1,(e3 e he).2.1}}
inductive uD (vs:List V) (H:Hp) (Q:VK) (E:XK):Prop
 | mk (c many:Int) (p:vm) (rs:List Rep) (_:vs=[.int c,.int many,.ref p]) (_:Sm H p rs) (_:Eu many rs) (_:1<=many) (_:many<=200) (_:∀(jo:Option Jump) v H',(∀j,jo=some j->RU many rs j)->aF H H'->Is H' (dO i7 jo) v->Q v H')
def Mj {l:List Int} {j:Nat} (h:j<⇑l):∃x,(l.map V.int)[j]?=some (.int x)/\x∈l:={l[j],by rw[zI,zb h];rfl,yi h}
def KJ {m:Int} {l:List Int} (h:l≠[]):∃x,vJ (l.map V.int) (m%(⇑l:Int))=some (.int x)/\x∈l:=by
 let hp:0<⇑l:=yo.mpr h;let a0:=zv m (b:=(⇑l:Int)) ();let a1:=zr m (b:=(⇑l:Int)) ();obtain⟨j,hj⟩:∃j:Nat,m%(⇑l:Int)=(j:Int):={(m%(⇑l:Int)).toNat,()}
 let⟨x,e1,e2⟩:=Mj (l:=l) (j:=j) ();exact{x,by rw[hj];exact bq e1,e2}
def Js (l:List Int):(l.map V.int).all lV=true:=by rw[x6];exact ym.mpr λ_ _=>rfl
def uY:cE P w base 2 T.lC uD:=by
 nomatch T.lC,["_law_cell","_law_many","_law_repeats","_law_m","_law_lasts","_law_inside","_law_ats","_law_at","_law_tos","_law_to","_law_untils","_law_codas"]
 let⟨c,many,p,rs,rfl,rsl,rd,mn1,mn2,kk⟩:=h;let sl:=yy;let ap:=rd.apart;let⟨rl,el,rv,hp,il⟩:=id rsl;let⟨ps,e1,e2,e3⟩:=iY il;let pln:⇑ps=⇑rs:=by rw[<-e1,za]
 refine{_,(ah (bQ 3 qN (bJ (bR T) hr T.cw (ae (pv 0) (ae aa ag))))
  (ah (bQ 4 qN (mq (ts:=["_law_first","_law_last","_law_times","_law_ends"]) (ys:=[]) (js:=[]) (g:=(KW K 4 (gJ (cz 0) (gJ (cz 1) (gJ (cz 2) (gJ (cz 3) KY)))))) (te:=(bc 1)) (bH (pv 2)) (eB (n:=4) rfl (aO (f9 0) (aO (f9 1) (aO (f9 2) (aO (f9 3) dt))))) bB (pv 1)))
  (ah (bQ 5 qN (mq (ts:=["_law_bar"]) (ys:=["_law_repeats"]) (js:=[2]) (g:=(cz 0)) (tc:=(tB (N3 (WA K) (bD (mz [none,some 0] (L7 K (bc 1)) (cz 0) pT (Ap (tW λi j=>.bl (decide (i<=j))) (tW λi j=>.bl (decide (i<=j))) (fj (mI K) (bc 0) (tC (.int (0)))) (bc 1) (fj (mI K) (bc 0) (tC (.int (1)))))) d4)))) (te:=(bc 0)) (cy (by rfl) T.cK (ae (pv 1) ag)) (f9 0) (gs (cB (d6 (gm rfl) T.Bj (ae (mq (ts:=["_law_one"]) (ys:=["_law_bar"]) (js:=[0]) (te:=(Ap (tW λi j=>.bl (decide (i<=j))) (tW λi j=>.bl (decide (i<=j))) (fj (mI K) (bc 0) (tC (.int (0)))) (bc 1) (fj (mI K) (bc 0) (tC (.int (1)))))) (bH (pv 1)) (f9 0) bB (HS gF gF (bG (pv 0) aa) (pv 1) (bG (pv 0) aa))) ag)))) (pv 0)))
  (ah (Pl (i:=6) (ts:=["_law_bar"]) (ys:=["_law_lasts","_law_inside"]) (js:=[4,5]) (g:=(cz 0)) (tc:=(VN (oq (fj (Td K false) (bc 0) (bc 1))) (oq (fj (Td K true) (bc 0) (bc 2))))) (te:=(bc 0)) (cy (by rfl) T.cK (ae (pv 1) ag)) (f9 0) (gs (PW.pt (dB (gr iG (pv 0) (pv 1) (by with_unfolding_all rfl)) (cY (gr dQ (pv 0) (pv 2) (by with_unfolding_all rfl)))))) (pv 0) qN)
  (ah (aJ (PW.pt (dB (ptr dh (au aS (au aY (pv 3) aa) aa) aa) (cY (ptr (Fo hr.units) (pv 6) (bg ag)))))
  (ak (ar aV))
  aA)
  (ah (bQ 7 qN (eM (pv 6) (au aS (au aY (pv 3) aa) (d6 aB T.bE (ae (pv 6) ag)))))
  (ah (Pl (i:=8) (ts:=["_law_bar"]) (ys:=["_law_repeats"]) (js:=[2]) (g:=(cz 0)) (tc:=(Oz (tB (fq jL [] E0 (bD (bc 1) (bD (bc 0) d4)))))) (te:=(bc 0)) (cy (by rfl) T.cK (ae (au aR (pv 7) aa) ag)) (f9 0) (gs (eA (cB (bJ (oB T) hr T.lD (ae (pv 1) (ae (pv 0) ag)))))) (pv 0) qN)
  (ah (bQ 9 qN (eM (pv 8) (au aS (au aY (pv 3) aa) (d6 aB T.bE (ae (pv 8) ag)))))
  (ah (Pl (i:=10) (ts:=["_law_bar"]) (ys:=["_law_repeats"]) (js:=[2]) (g:=(cz 0)) (tc:=(tB (fq gM [] E0 (bD (bc 1) (bD (bc 0) d4))))) (te:=(bc 0)) (sE (by rfl) T.cK (ae (pv 9) (ae (au aR (pv 7) aa) ag))) (f9 0) (gs (cB (bJ (lT T) hr T.iC (ae (pv 1) (ae (pv 0) ag))))) (pv 0) qN)
  (ah (Pl (i:=11) (ts:=["_law_bar"]) (ys:=["_law_repeats"]) (js:=[2]) (g:=(cz 0)) (tc:=(SY (Oz (tB (fq jL [] E0 (bD (bc 1) (bD (bc 0) d4))))) (tB (fq gM [] E0 (bD (bc 1) (bD (bc 0) d4)))))) (te:=(bc 0)) (sE (by rfl) T.cK (ae (au aR (pv 7) aa) (ae (pv 1) ag))) (f9 0) (gs (PW.pt (cZ (eA (cB (bJ (oB T) hr T.lD (ae (pv 1) (ae (pv 0) ag))))) (cS (cB (bJ (lT T) hr T.iC (ae (pv 1) (ae (pv 0) ag)))))))) (pv 0) qN)
  (ah (aJ (ptr (Fo hr.units) (pv 10) (bg ag))
  (ak (ar aV))
  aA)
  (ak (ar (aW (ae (pv 7) (ae (pv 9) (ae (eM (pv 10) (au aS (au aY (pv 3) aa) (d6 aB T.bE (ae (pv 10) ag)))) (ae (eM (au gw (bg (ae aV ag)) (pv 11)) (au aS (au aY (pv 3) aa) (au aR aa (d6 aB T.bE (ae (pv 11) ag))))) ag)))))))))))))))))),?_}
 ac_rfl;exists c,520,rfl,(),(),?_;let m0:0<=mixed c 520:=zv _ ∅;generalize mixed c 520=m at m0;exists{_,ao hp},?_;refine dW (enc:=λq:Rep×V=>q.2) (ws:=ps) (λq=>.int q.1.last) (λU=>∃v1 v2 v3 v4,U=[v1,v2,v3,v4]) () (by rw[e2];exact ao hp) {_,_,_,_,rfl} ?_ ?_
 ·rintro z U H1 R hz s1 ⟨v1,v2,v3,v4,rfl⟩ rr
  let⟨a,e,ev,ha,_⟩:=fk ((e3 z hz).mono s1);rw[ev];refine{a,_,rfl,bu ha,rfl,?_};refine{_,_,rfl,{_,_,rfl,{_,_,rfl,{_,_,rfl,{rfl,?_}}}}};change rr _ _ _ (aD _) cH {_,_,_,_,rfl}
 intro D4 vs4 H4 s4 _ hD4 il4;let ee:ps.map (λq:Rep×V=>Dt.int q.1.last)=(rs.map (·.last)).map Dt.int:=by rw[<-e1,zz,zz];rfl
 rw[ee] at il4;rw[eD il4] at hD4;clear ee il4;exists by ext,(),?_
 let mt:((many.toNat:Nat):Int)=many:=()
 refine gk (rest:=[some (.ref p)]) (λb=>rs.any λr=>GJ r b) () {(none),rfl} ?_ ?_
 ·intro i H5 R i0 i1 s5 hR
  let s05:=s4.trans s5;exists{_,ao (s05 _ _ hp)},?_;refine dW (enc:=λq:Rep×V=>q.2) (ws:=ps) (λq=>.bl (GJ q.1 i)) (λU=>∃v1,U=[v1,some (.int i)]) () (by rw[e2];exact ao (s05 _ _ hp)) {_,rfl} ?_ ?_
  ·rintro z U H6 R hz s6 ⟨v1,rfl⟩ rr
   let⟨a,e,ev,ha,_⟩:=fk ((e3 z hz).mono (s05.trans s6));rw[ev];left
   by_cases c1:z.1.first<=i
   ·refine bX (ze c1) ?_
    change rr _ _ _ (aD _) (by unfold GJ;rw[ze c1,yR];unfold Is;rfl) {_,rfl}
   ·refine b7 (zd c1) ?_
    exact rr _ _ _ (aD _) (by unfold GJ;rw[zd c1,yP];unfold Is;rfl) {_,rfl}
  ·intro D vs H6 s6 nD hD ilD
   let ee:ps.map (λq:Rep×V=>Dt.bl (GJ q.1 i))=(rs.map λr=>GJ r i).map Dt.bl:=by rw[<-e1,zz,zz];rfl
   rw[ee] at ilD;rw[jN ilD] at hD;exists D,_,rfl,ao hD,?_;rw[wy];exact{_,rfl,hR _ s6}
 intro D5 H5 s5 _ hD5;let hD45:=s5 _ _ hD4;generalize hins:kg (λb=>rs.any λr=>GJ r b) 0 many.toNat=ins at hD5;exists by ext,(),?_
 refine gk (rest:=[some (.ref D4),some (.ref D5)]) (λb=>decide (b∈rs.map (·.last))||!decide (b∈ins)) () ⟨none,rfl⟩ ?_ ?_
 ·intro i H6 R i0 i1 s6 hR
  exists D4,_,rfl,.inl (ao (s6 _ _ hD45)),rfl,Js _,?_;show∃k,V.bl (FJ (.int i) ((rs.map (·.last)).map V.int))=.bl k/\_;rw[vZ];refine{_,rfl,?_};refine vX (decide (i∈rs.map (·.last))||!decide (i∈ins)) ?_ ?_ (hR _ (aD _))
  ·intro c1 Z hz
   rw[c1,Bool.false_or] at hz;exists D5,_,rfl,.inl (ao (s6 _ _ hD5)),rfl,Js _,?_;show∃k,V.bl (!FJ (.int i) (ins.map V.int))=.bl k/\_;rw[vZ];exact{_,rfl,hz}
  ·intro c1;rw[c1,Bool.true_or]
 intro D6 H6 s6 _ hD6;let s06:=(s4.trans s5).trans s6;generalize hats:kg (λb=>decide (b∈rs.map (·.last))||!decide (b∈ins)) 0 many.toNat=ats at hD6;left;let out:∀H',aF H H'->Q .bN H':=λH' s'=>kk none .bN H' (λj z=>by cases z) s' (by unfold dO Is;rfl)
 by_cases c0:m/7%3=0
 ·refine bX (ze (yV V.int c0)) ?_
  change out _ s06
 refine b7 (zd λz=>c0 (V.int.inj z)) ?_;exists by show 0<=sizeLine;decide,?_
 intros p7 H7 s7 h7;refine{D6,p7,_,_,rfl,rfl,.inl {ao (s7 _ _ hD6),ao h7},.inr (.inl rfl),?_}
 by_cases cn:ats=[]
 ·rw[cn]
  change out _ (s06.trans s7)
 let hn:decide (ats.map V.int=[])=false:=zd (by simpa using cn);rw[hn];let s07:=s06.trans s7;let hD67:=s7 _ _ hD6;left;let⟨at_,hat,atin⟩:=KJ (m:=m/3) cn;let anp:0<⇑ats:=yo.mpr cn;refine{D6,_,rfl,.inl (ao hD67),?_};rw[za];exists by show 0<(⇑ats:Int);ext,?_
 refine{D6,_,_,_,rfl,rfl,ao hD67,hat,?_};rw[<-hats] at atin;let⟨a0,a1,a2⟩:=nQ atin;let a1':at_<many:=()
 let aleave:(∃r∈rs,r.last=at_)\/(rs.any λr=>GJ r at_)=false:=by
  rw[Bool.or_eq_true,xy] at a2;rcases a2 with z | z
  ·let⟨r,hr1,hr2⟩:=zF.mp z
   exact .inl {(r),hr1,hr2}
  ·right
   cases q:rs.any λr=>GJ r at_ with
   | false=>rfl
   | true=>
    have:at_∈ins:=by rw[<-hins];exact IJ a0 () q
    rw[ze this] at z;cases z
 clear hats atin hat;exists by show -2^62<=at_+1;ext,(by show at_+1<2^62;ext),?_
 let pt:∀H',aF H7 H'->Sm H' p rs:=λH' s'=>(rsl.mono s07).mono s';refine gk (rest:=[some (.ref p)]) (λb=>!eK rs b) (by show(at_+1).toNat<=sizeLine;ext) {(none),rfl} ?_ ?_
 ·intro i H8 R i0 i1 s8 hR
  change{p,rs,i,rfl,pt _ s8,λH' s'=>{_,rfl,hR _ s'}}
 intro D8 H8 s8 _ hD8;generalize htos:kg (λb=>!eK rs b) 0 (at_+1).toNat=tos at hD8;let tn:tos≠[]:=by
  rw[<-htos];refine List.ne_nil_of_mem (IJ (x:=0) () () ?_);have:eK rs 0=false:=by
   unfold eK;rw[vc];intro r hr';have:=(rd.2.1 r hr').1;rw[zd (show¬r.first<0 by ext)];simp
  rw[this];rfl
 let⟨to_,hto,toin⟩:=KJ (m:=m/50) tn;let tnp:0<⇑tos:=yo.mpr tn;exists D8,_,rfl,.inl (ao hD8),?_;rw[za];exists by show 0<(⇑tos:Int);ext,?_
 refine{D8,_,_,_,rfl,rfl,ao hD8,hto,?_};rw[<-htos] at toin;let⟨b0,b1,b2⟩:=nQ toin;let b2':eK rs to_=false:=by cases q:eK rs to_ with
  | false=>rfl
  | true=>rw[q] at b2;cases b2
 clear htos toin hto tnp tn;exists _,_,rfl,{(),(),(by show -2^62<=at_+1;ext),by show at_+1<2^62;ext},?_;refine gk (rest:=[some (.ref p)]) (λb=>jD rs b) (by show(at_+1-to_).toNat<=sizeLine;ext) {(none),rfl} ?_ ?_
 ·intro i H9 R i0 i1 s9 hR
  change{p,rs,i,rfl,pt _ (s8.trans s9),λH' s'=>{_,rfl,hR _ s'}}
 intro D9 H9 s9 _ hD9;generalize hunt:kg (λb=>jD rs b) to_ (at_+1-to_).toNat=unt at hD9;exists _,_,rfl,{by show -2^62<=at_+1;ext,(by show at_+1<2^62;ext),(),()},?_;refine gk (rest:=[some (.ref p)]) (λb=>!eK rs b&&jD rs b) (by show(many-(at_+1)).toNat<=sizeLine;ext) {(none),rfl} ?_ ?_
 ·intro i Ha R i0 i1 sa hR
  left;refine{p,rs,i,rfl,pt _ ((s8.trans s9).trans sa),λH' s'=>{_,rfl,?_}};cases q:eK rs i with
  | true=>
   rw[q] at hR;exact b7 rfl (hR _ s')
  | false=>
   rw[q] at hR;refine bX rfl ?_;change{p,rs,i,rfl,(pt _ ((s8.trans s9).trans sa)).mono s',λH'' s''=>{_,rfl,hR _ (s'.trans s'')}}
 intro Da Ha sa _ hDa;generalize hcod:kg (λb=>!eK rs b&&jD rs b) (at_+1) (many-(at_+1)).toNat=cod at hDa;let cl:⇑cod<=200:=by
  have:=Nf (f:=λb=>!eK rs b&&jD rs b) (lo:=at_+1) (n:=(many-(at_+1)).toNat);rw[hcod] at this;ext
 let s0a:=((s07.trans s8).trans s9).trans sa;exists by show 0<=sizeLine;decide,?_
 intros pb Hb sb hb;let hD9b:=sb _ _ (sa _ _ hD9);refine{D9,pb,_,_,rfl,rfl,.inl {ao hD9b,ao hb},.inr (.inl rfl),?_}
 by_cases un:unt=[]
 ·rw[un]
  change out _ (s0a.trans sb)
 let hn2:decide (unt.map V.int=[])=false:=zd (by simpa using un);rw[hn2];let⟨u_,hu,uin⟩:=KJ (m:=m/500) un;let unp:0<⇑unt:=yo.mpr un;rw[<-hunt] at uin;let⟨u0,u1,u2⟩:=nQ uin;exists D9,_,rfl,.inl (ao hD9b),?_;rw[za];exists by show 0<(⇑unt:Int);ext,?_
 refine{D9,_,_,_,rfl,rfl,ao hD9b,hu,?_};exists by show 1<=sizeLine;decide,?_
 intros pc Hc sc hc;let hDac:=sc _ _ (sb _ _ hDa);exists pc,Da,_,_,rfl,rfl,ao hc,ao hDac,by rw[za];show 1+⇑cod<=sizeLine;ext,?_
 intros pd Hd sd hd;exists Da,_,rfl,.inl (ao (sd _ _ hDac)),?_;rw[za];exists by show 0<1+(⇑cod:Int);ext,?_
 let k0:0<=m/7%(1+(⇑cod:Int)):=zv _ ();let k1:m/7%(1+(⇑cod:Int))<1+(⇑cod:Int):=zr _ ();obtain⟨kj,hkj⟩:∃j:Nat,m/7%(1+(⇑cod:Int))=(j:Int):={(m/7%(1+(⇑cod:Int))).toNat,()}
 obtain⟨co,cv,hcv,icv,cok⟩:∃(co:Option Int) (cv:V),(V.bN::cod.map V.int)[kj]?=some cv/\(∀H',Is H' (dO Dt.int co) cv)/\∀x,co=some x->x∈cod:=by
  cases kj with
  | zero=>exact{none,.bN,rfl,λH'=>by unfold dO Is;rfl,λx z=>by cases z}
  | succ k=>
   let⟨x,f1,f2⟩:=Mj (l:=cod) (j:=k) ();exact{some x,.int x,by simpa using f1,λH'=>by unfold dO Is;rfl,λy z=>by cases z;exact f2}
 refine{pd,_,_,_,rfl,rfl,ao hd,(by rw[hkj];exact bq hcv),?_};exists by show 4<=sizeLine;decide,?_
 intros pe He se he;refine kk (some {(at_),to_,u_,co}) _ _ (λj z=>?_) ((((s0a.trans sb).trans sc).trans sd).trans se) (cO he (aU cH (aU cH (aU cH (aU (icv _) c9)))));cases z;refine TQ ap a0 a1' aleave b0 () b2' u0 () u2 λx hx=>?_;let xin:=cok x hx;rw[<-hcod] at xin;let⟨x0,x1,x2⟩:=nQ xin;rw[zM] at x2;refine{(),(),?_,x2.2};cases q:eK rs x with
 | false=>rfl
 | true=>rw[q] at x2;cases x2.1
def Oj:∀x∈KL,∀z∈([2,3,5]:List Int),(red x.1 (x.2*z)).1*(red x.1 x.2).2<(red x.1 x.2).1*(red x.1 (x.2*z)).2:=by decide +kernel
structure tO (most:Int) (S:cg):Prop where
 Th:1<=⇑S.az
 pl:⇑S.az<=4
 pn:JI S.az
 ins:VA S.aq
 st:S.aM=[]
 b1:1<=⇑S.aN
 bl:(⇑S.aN:Int)<=most
 bd:∀b∈S.aN,N1 b
 up:∀u,S.aK=some u->∃x z,S.aN[0]?=some x/\z∈([2,3,5]:List Int)/\u=red x.aP.1 (x.aP.2*z)
 hs:List.Sublist (S.holds.map (·.1)) S.az
 hr:∀x∈S.holds,Mn (S.aq.map (·.1)) ⇑S.aN x.2
 no:GD S S.aI
 nl:⇑S.aI<=9*⇑S.aN
 rp:Eu ⇑S.aN S.aH
 ju:∀j,S.bU=some j->RU ⇑S.aN S.aH j
def IQ {aN:List Sc.N2} {upb:Option (Int×Int)} {S:cg} (eb:S.aN=aN) (eu:S.aK=upb) (bd:∀b∈aN,N1 b) (up:∀u,upb=some u->∃x z,aN[0]?=some x/\z∈([2,3,5]:List Int)/\u=red x.aP.1 (x.aP.2*z)) (b:Nat) (hb:b<⇑aN):NW (S.len b):=by
 let hm:NW (S.aP b):=by
  unfold cg.aP;rw[eb,zb hb];let⟨m1,m2,m3,m4,m5⟩:=jB (bd _ (yi hb)).1;exact KP () () () ()
 unfold cg.len;rw[eu];cases q:upb with
 | none=>exact hm
 | some u=>
  dsimp only;split
  ·let⟨x,z,e1,e2,e3⟩:=up u q
   let⟨m1,m2,m3,m4,m5⟩:=jB (bd _ (zA e1)).1;rw[e3];let z1:2<=z/\z<=5:=by
    simp only[zB,zC,yQ] at e2;ext
   let p1:0<x.aP.2*z:=xt () ();let p2:x.aP.2*z<=32*5:=xY m5 z1.2 () ∅;exact KP () () p1 ()
  ·exact hm
inductive rO (K:yx) (vs:List V) (H:Hp) (Q:VK) (E:XK):Prop
 | mk (a:vm) (ns:List Int) (most:Int) (_:vs=[.ref a,.int most]) (_:fi K H a (ns.map V.int)) (_:⇑ns<=1000) (_:1<=most) (_:most<=40) (_:∀S p H',tO most S->aF H H'->m7 H' p S->Q (.ref p) H')
theorem Tz:∀jj:Nat,jj<3->∃z:Int,[V.int 2,V.int 3,V.int 5][jj]?=some (.int z)/\z∈([2,3,5]:List Int)
 | 0,_=>{2,rfl,∅}
 | 1,_=>{3,rfl,∅}
 | 2,_=>{5,rfl,∅}
def sL:cE P w base 4 T.jW (rO K):=by
 nomatch T.jW,["_law_script","_law_most","_law_m","_law_players","_law_instruments","_law_many","_law_bars","_law_upbeat","_law_holds","_law_notes","_law_repeats","_law_jump"]
 let⟨a,ns,most,rfl,hS,nl,mo1,mo2,kk⟩:=h;let sl:=yy;refine{_,(ah (bQ 2 qN (bJ (bR T) hr T.cw (ae (bJ (bZ T) hr T.ck (ae (pv 0) (ae aa ag))) (ae aa ag))))
  (ah (bQ 3 qN (bJ (gf T) hr T.fe (ae (au aY (pv 2) aa) (ae (au aR aa (au aS (pv 2) aa)) ag))))
  (ah (bQ 4 qN (bJ (kP T) hr T.eY (ae (bJ (bZ T) hr T.ck (ae (pv 0) (ae aa ag))) ag)))
  (ah (bQ 5 qN (au aR aa (au aS (bJ (bR T) hr T.cw (ae (bJ (bZ T) hr T.ck (ae (pv 0) (ae aa ag))) (ae aa ag))) (pv 1))))
  (ah (bQ 6 qN (bJ (u7 T) hr T.lF (ae (bJ (bZ T) hr T.ck (ae (pv 0) (ae aa ag))) (ae (pv 5) ag))))
  (ah (bQ 7 qN aV)
  (ah (aJ (ptr dh (au aS (au aY (pv 2) aa) aa) aa)
  (ak (bQ 7 qN (bJ (fO T) hr T.fG (ae (bG (bG (eM (pv 6) aa) aa) aa) (ae (au dR (bG (bG (eM (pv 6) aa) aa) aa) (eM (bg (ae aa (ae aa (ae aa ag)))) (au aS (au aY (pv 2) aa) aa))) ag)))))
  aA)
  (ah (bQ 8 qN (bJ (sQ T) hr T.j6 (ae (bJ (bZ T) hr T.ck (ae (pv 0) (ae aa ag))) (ae (pv 3) (ae (pv 4) (ae (pv 5) ag))))))
  (ah (bQ 9 qN (bJ (sO T) hr T.jZ (ae (bJ (bZ T) hr T.ck (ae (pv 0) (ae aa ag))) (ae (pv 3) (ae (pv 6) (ae (pv 7) ag))))))
  (ah (bQ 10 qN (bJ (pw T) hr T.gU (ae (bJ (bZ T) hr T.ck (ae (pv 0) (ae aa ag))) (ae (pv 5) ag))))
  (ah (bQ 11 qN (bJ (uY T) hr T.lC (ae (bJ (bZ T) hr T.ck (ae (pv 0) (ae aa ag))) (ae (pv 5) (ae (pv 10) ag)))))
  (ak (ar (aW (ae (pv 3) (ae (pv 4) (ae (bg ag) (ae (pv 6) (ae (pv 7) (ae (pv 8) (ae (pv 9) (ae (pv 10) (ae (pv 11) ag))))))))))))))))))))))),?_}
 ac_rfl;exists a,ns,0,rfl,hS,(by decide),nl,λc0=>?_;exists c0,1,rfl,(by decide),(by decide),?_;let m0:0<=mixed c0 1:=zv _ ∅;let m1:mixed c0 1<2147483399:=zr _ ∅;generalize mixed c0 1=m at m0 m1;let a0:0<=m%4:=zv _ ∅;let a1:m%4<4:=zr _ ∅;left;refine{_,_,rfl,zU m0 ∅,?_,(),(),λps pp H1 pl pok s1 hpp=>?_}
 ·have:=zV (a:=m) 4 m0;ext
 let Th:1<=⇑ps/\⇑ps<=4:=()
 exists a,ns,1,rfl,s1.seq hS,(by decide),nl,λc1=>?_;left;intro ins ip iv H2 iok s2 hip ili;exists a,ns,2,rfl,(s1.trans s2).seq hS,(by decide),nl,λc2=>?_;exists c2,2,rfl,(by decide),(by decide),?_;let n0:0<=mixed c2 2:=zv _ ∅;generalize mixed c2 2=n at n0;exists by show 0<most;ext,?_
 let d0:0<=n%most:=zv _ ();let d1:n%most<most:=zr _ ();exists a,ns,2,rfl,(s1.trans s2).seq hS,(by decide),nl,λc3=>?_;exists c3,_,rfl,(),(),λaN bp bv H3 bl bok s3 nb hbp ilb=>?_;let bl2:((⇑aN:Nat):Int)=1+n%most:=()
 let bvl:=aQ ilb;let s03:=(s1.trans s2).trans s3;let x0:aN[0]?=some (aN[0]'()):=zb ();generalize aN[0]'()=x at x0;let⟨y,hy,iy⟩:=cN ilb (i:=0) (zb ());let ey:y=x:=by rw[x0] at hy;exact(yh hy).symm
 subst ey;let⟨ab,mv,qb,ev,hab,imv,_⟩:=vY iy;let xin:y.aP∈KL:=(bok y (zA x0)).1;let⟨e1,e2,e3,e4,e5⟩:=jB xin;let av:bv[0]?=some (.ref ab):=by rw[<-ev];exact zb ()
 cases dP (o:=some y.aP) imv with
 | ref hmv=>
 rename_i am;left;refine join (λU H'=>aF H3 H'/\∃(upb:Option (Int×Int)) (uv:V),U=[some (.ref a),some (.int most),some (.int m),some (.ref pp),some (.ref ip),some (.int (1+n%most)),some (.ref bp),some uv,none,none,none,none]/\Is H' (dO dL upb) uv/\∀u,upb=some u->∃x z,aN[0]?=some x/\z∈([2,3,5]:List Int)/\u=red x.aP.1 (x.aP.2*z)) (λN hN cc=>?_) (λN hN cc=>?_) ?_
 ·left
  refine{bp,bv,0,_,rfl,rfl,ao hbp,bq av,?_};exists bp,bv,0,_,rfl,rfl,ao hbp,bq av,?_;exists by show 3<=sizeLine;decide,?_
  intros p4 H4 s4 h4;let g0:0<=m/64%3:=zv _ ∅;let g1:m/64%3<3:=zr _ ∅;obtain⟨jj,hjj⟩:∃j:Nat,m/64%3=(j:Int):={(m/64%3).toNat,()}
  let⟨z,hz,zi⟩:=Tz jj ();let z1:2<=z/\z<=5:=by
   simp only[zB,zC,yQ] at zi;ext
  exists p4,_,m/64%3,.int z,rfl,rfl,ao h4,(by rw[hjj];exact bq hz),?_;exists .inl {(()),()},?_;let p1:0<y.aP.2*z:=xt () ();let p2:y.aP.2*z<=32*5:=xY e5 z1.2 () ∅;refine{_,_,rfl,(),p1,(dm (n:=10) () ()).mono ∅,λp5 H5 s5 h5=>?_};change hN _ _ {s4.trans s5,some (red y.aP.1 (y.aP.2*z)),.ref p5,rfl,ig h5,λu q=>by cases q;exact{(y),z,x0,zi,rfl}}
 ·left
  exact hN _ _ {aD _,none,.bN,rfl,by unfold dO Is;rfl,λu z=>by cases z}
 rintro σ4 H4 ⟨s4,upb,uv,rfl,iuv,uok⟩;let s04:=s03.trans s4;exists a,ns,1,rfl,s04.seq hS,(by decide),nl,λc5=>?_;left;let s14:=(s2.trans s3).trans s4;let s24:=s3.trans s4;refine{c5,_,pp,ip,ps,ins,iv,rfl,s14 _ _ hpp,s24 _ _ hip,ili.mono s24,(),by have:=iok.1;ext,(),λhs hp hv H5 hsub hrow s5 hhp rlh=>?_};let s05:=s04.trans s5;exists a,ns,3,rfl,s05.seq hS,(by decide),nl,λc6=>?_;left;let s15:=s14.trans s5;let s25:=s24.trans s5;let s35:=s4.trans s5;refine{c6,pp,bp,{az:=ps,aN:=aN,aK:=upb},bv,uv,rfl,s15 _ _ hpp,s35 _ _ hbp,ilb.mono s35,iuv.mono s5,by show ⇑ps<=9;ext,pok.2,by show ⇑aN<=200;ext,bok,IQ rfl rfl bok uok,λnts np nv H6 nok nlen s6 hnp rln=>?_};let s06:=s05.trans s6;exists a,ns,4,rfl,s06.seq hS,(by decide),nl,λc7=>?_;exists c7,_,rfl,(),λrs rp rv H7 rok s7 hrp ilr=>?_;let s07:=s06.trans s7;exists a,ns,4,rfl,s07.seq hS,(by decide),nl,λc8=>?_;left;let rsl:Sm H7 rp rs:={by have:=rok.1;ext,λr hr'=>by have:=(rok.2.1 r hr').2.2.2.2.2.2.1;ext,rv,hrp,ilr}
 refine{c8,_,rp,rs,rfl,rsl,rok,(),(),λjo jv H8 jok s8 ij=>?_};let s08:=s07.trans s8;exists by show 0<=sizeLine;decide,?_
 intros sp H9 s9 hsp;exists by show 9<=sizeLine;decide,?_
 intros pa Ha sa ha;let s9a:=sa;let s8a:=s9.trans sa;let s7a:=s8.trans s8a;let s6a:=s7.trans s7a;let s5a:=s6.trans s6a;let s4a:=s5.trans s5a;let s3a:=s4.trans s4a;let s2a:=s3.trans s3a;let s1a:=s2.trans s2a;refine kk {ps,ins,[],aN,upb,hs,nts,rs,jo} pa Ha ?_ (s08.trans s8a) ?_
 ·exact{Th.1,Th.2,pok,iok,rfl,by show 1<=⇑aN;ext,by show(⇑aN:Int)<=most;ext,bok,uok,hsub,λx hx=>by show Mn (ins.map (·.1)) ⇑aN x.2;rw[bl2];exact hrow x hx,nok,nlen,by show Eu ⇑aN rs;rw[bl2];exact rok,λj hj=>by show RU ⇑aN rs j;rw[bl2];exact jok j hj}
 ·exact{pp,ip,sp,bp,hp,np,rp,uv,jv,iv,[],bv,hv,nv,rv,ha,s1a _ _ hpp,{s2a _ _ hip,ili.mono s2a},{s9a _ _ hsp,by unfold aC;rfl},{s3a _ _ hbp,ilb.mono s3a},iuv.mono s4a,{s5a _ _ hhp,rlh.imp λx v z=>z.mono s5a},{s6a _ _ hnp,rln.imp λx v z=>z.mono s6a},{s7a _ _ hrp,ilr.mono s7a},ij.mono s8a}
def sR {n:Str} (h:gb n):⇑n<=12:=by
 unfold gb cI at h;split at h
 ·cases h
 ·split at h
  ·cases h
  ·ext
def IX {n:Int} (h:NB n):⇑(dec n)<=5:=bI (by have:=h.1;ext) (by have:=h.2;ext)
theorem GS:∀es:List Sc.End,JY es=⇑((es.map (·.2)).flatten)
 | []=>rfl
 | e::r=>by rw[zh,zY,zg,<-GS r];rfl
theorem HJ {n:Nat} (hn:n<=999):∀{l rs:List Rep},(rs++l).Pairwise (λa b=>a.last<b.first)->(∀r∈l,GC n r)->Ac n rs l
 | [],_,_,_=>trivial
 | r::l,rs,asc,ok=>by
  let⟨h1,h2,h3,h4,h5,e1,e2,e3,e4,e5⟩:=ok r zp;refine{λb hb=>?_,?_,{by rw[GS];ext,(),(),()},HJ hn (by rw[zD];exact asc) λx hx=>ok x (zm _ hx)}
  ·rcases zE.mp hb with z | z
   ·simp only[zB,zC,yQ] at z
    rcases z with z | z <;> ext
   ·let⟨e,he,rfl⟩:=zF.mp z
    have:=(e3 e he).2.1;ext
  ·let fin:(decide (r.first<=r.last)&&fQ r)=true:=by rw[ze h2];exact e1
   unfold kE;cases q:rs.getLast? with
   | none=>exact fin
   | some p=>
    have:=(zR.mp asc).2.2 p (wN q) r zp;dsimp only;rw[yJ ()];exact fin
def RB {most:Int} {S:cg} (hm:most<=40) (D:tO most S):WX S:=by
 let bl:=D.bl;let b1:=D.b1;let pl:=D.pl;let⟨i1,i2,i3⟩:=D.ins;let st:=D.st;let nl:=D.nl;let⟨r1,r2,r3⟩:=D.rp;let hl:=D.hs.length_le;rw[za] at hl;refine{D.pn.2,(),i2.2,(),by rw[st];exact xW,by rw[st];exact xW,(λx hx=>by rw[st] at hx;cases hx),(λx hx=>by rw[st] at hx;cases hx),by rw[st];exact yd _,(),λb hb=>?_,λu hu=>?_,D.hs.nodup D.pn.2,(),λx hx=>?_,D.no.1,(),λx hx=>?_,HJ () (by rw[List.nil_append];exact r3) r2,(),λr hr=>?_,λj hj=>?_}
 ·let⟨m1,m2,m3,m4,m5⟩:=jB (D.bd b hb).1
  exact{(()),(),(),()}
 ·let⟨x,z,e1,e2,e3⟩:=D.up u hu
  let xin:=(D.bd x (zA e1)).1;let⟨m1,m2,m3,m4,m5⟩:=jB xin;refine{(),?_,?_}
  ·unfold cg.aP
   rw[e1,e3];exact Oj x.aP xin z e2
  ·let z1:2<=z/\z<=5:=by
    simp only[zB,zC,yQ] at e2;ext
   let p1:0<x.aP.2*z:=xt () ();let p2:x.aP.2*z<=32*5:=xY m5 z1.2 () ∅;let⟨q1,q2,q3,q4⟩:=KP (t:=x.aP.1) (b:=x.aP.2*z) () () p1 ();let⟨_,q5,_⟩:=q1.pos;rw[e3];exact{(dm (n:=10) () ()).mono ∅,(dm (n:=10) () ()).mono ∅}
 ·let⟨h1,h2,h3,h4⟩:=D.hr x hx
  exact{h1,(),h3,D.hs.subset (zN (f:=λy:Str×List (Int×Str)=>y.1) hx),λh hh=>{(h4 h hh).2.1,(h4 h hh).2.2}}
 ·let⟨h1,h2,h3,h4,h5,h6,h7⟩:=D.no.2 x hx
  exact{h1,h2,h3,h4,λit hit=>(h5 it hit).1,h6}
 ·have:=(r2 r hr).2.2.2.2.2.2.1
  ext
 ·let⟨j1,j2,j3,j4,j5⟩:=D.ju j hj
  refine{λb hb=>?_,j1};rcases zE.mp hb with z | z
  ·simp only[zB,zC,yQ] at z
   rcases z with z | z | z <;> ext
  ·cases q:j.fJ with
   | none=>rw[q] at z;cases z
   | some c=>
    rw[q] at z;have:b=c:=by simpa using z
    have:=(j5 c q).2;ext
def Ek {many:Int} {r:Rep} (hm:many<=200) (h:GC many r):NT r:=by
 let⟨h1,h2,h3,h4,h5,e1,e2,e3,e4,e5⟩:=h;exact{{{(h1),()},{(()),()},h4,h5,λe he=>{by have:=(e3 e he).1;ext,by have:=(e3 e he).2.1;ext,(e3 e he).2.2.1,(e3 e he).2.2.2.2}},e2,λe he=>(e3 e he).2.2.2.1}
def Qa {most:Int} {S:cg} (hm:most<=40) (D:tO most S):∀t∈eV S,TD t:=by
 let bl:=D.bl;let b1:=D.b1;let pl:=D.pl;let⟨i1,i2,i3⟩:=D.ins;let st:=D.st;let⟨r1,r2,r3⟩:=D.rp;let pnm:∀p∈S.az,gb p:=D.pn.1;let inm:∀p∈S.aq.map (·.1),gb p:=i2.1;intro t ht;unfold eV at ht;simp only[zE] at ht;rcases ht with((((((ht | ht) | ht) | ht) | ht) | ht) | ht) | (ht | ht)
 ·let⟨n,hn,rfl⟩:=zF.mp ht
  refine{pnm n hn,by show 2<=100;decide,λw hw=>?_};simp only[Sc.aT,zB,zC,yQ] at hw;rcases hw with rfl | rfl
  ·decide
  ·have:=sR (pnm _ hn);ext
 ·let⟨x,hx,rfl⟩:=zF.mp ht
  let⟨q1,q2,q3,q4,q5,q6⟩:=i3 x hx;let nx:=inm x.1 (zN (f:=λy:Str×(Int×Int)×(Int×Int)=>y.1) hx);let⟨p1,p2,_⟩:=q4.pos;refine{{(nx),q1,q2,q3,q4,q5,q6},by show 5<=100;decide,λw hw=>?_};simp only[Sc.aT,zB,zC,yQ] at hw;let⟨o1,o2,o3,o4,_⟩:=q1;rcases hw with rfl | rfl | rfl | rfl | rfl
  ·decide
  ·have:=sR nx;ext
  ·have:=bI (n:=x.2.1.1) () ();ext
  ·have:=bI (n:=x.2.1.2) () ();ext
  ·have:=j9 (x:=x.2.2) () q5 () q6;ext
 ·let⟨x,hx,rfl⟩:=zF.mp ht
  rw[st] at hx;cases hx
 ·let⟨b,hb,rfl⟩:=zF.mp ht
  let⟨q1,q2,q3,q4,q5⟩:=D.bd b hb;let⟨m1,m2,m3,m4,m5⟩:=jB q1;refine{{(m1),(),m3,q2,q3,q4},by show ⇑b.marks+1+1+1<=100;ext,λw hw=>?_};simp only[Sc.aT,zB] at hw;rcases hw with rfl | rfl | rfl | hw
  ·decide
  ·let l1:=bI (n:=b.aP.1) () ()
   let l2:=bI (n:=b.aP.2) () ();rw[bT,bT];have:("/": Str).length=1:=rfl;ext
  ·have:=bI (n:=b.key) () ();ext
  ·have:=sR (q4 w hw);ext
 ·let⟨u,hu,rfl⟩:=zF.mp ht
  let hu':S.aK=some u:=by
   cases q:S.aK with
   | none=>rw[q] at hu;cases hu
   | some v=>
    rw[q] at hu;have:u=v:=by simpa using hu
    rw[this]
  let ln:=IQ (S:=S) rfl rfl D.bd D.up 0 ();let el:S.len 0=u:=by unfold cg.len;rw[hu'];rfl
  rw[el] at ln;let⟨l1,l2,l3,l4⟩:=ln;let⟨p1,p2,_⟩:=l1.pos;refine{{(l1),l2,(),()},by show 2<=100;decide,λw hw=>?_};simp only[Sc.aT,zB,zC,yQ] at hw;rcases hw with rfl | rfl
  ·decide
  ·have:=j9 (x:=u) () () () ();ext
 ·let⟨l,hl,ht⟩:=x9.mp ht
  let⟨x,hx,rfl⟩:=zF.mp hl;let⟨h,hh,rfl⟩:=zF.mp ht;let⟨h1,h2,h3,h4⟩:=D.hr x hx;let np:=pnm x.1 (D.hs.subset (zN (f:=λy:Str×List (Int×Str)=>y.1) hx));let nb:NB h.1:={(h4 h hh).1,by have:=(h4 h hh).2.1;ext}
  let ni:=inm h.2 (h4 h hh).2.2;refine{{(np),nb,ni},by show 4<=100;decide,λw hw=>?_};simp only[Sc.aT,zB,zC,yQ] at hw;rcases hw with rfl | rfl | rfl | rfl
  ·decide
  ·have:=sR np;ext
  ·have:=IX nb;ext
  ·have:=sR ni;ext
 ·let⟨x,hx,rfl⟩:=zF.mp ht
  let⟨h1,h2,h3,h4,h5,h6,h7⟩:=D.no.2 x hx;let nb:NB x.1.1:={(h1),()}
  refine{{nb,pnm _ h3,h5,h7},by show(x.2.map pA).length+1+1+1<=100;rw[za];ext,λw hw=>?_};simp only[Sc.aT,zB] at hw;rcases hw with rfl | rfl | rfl | hw
  ·decide
  ·have:=IX nb;ext
  ·have:=sR (pnm _ h3);ext
  ·let⟨it,hit,rfl⟩:=zF.mp hw
   have:=M5 (h5 it hit);ext
 ·let⟨r,hr,rfl⟩:=zF.mp ht
  let⟨⟨q1,q2,q3,q4,q5⟩,q6,q7⟩:=Ek () (r2 r hr);refine{{(q1),q2,q3,q4,q5},by show(r.ends.map oj).length+1+1+1+1<=100;rw[za];ext,λw hw=>?_};simp only[Sc.aT,zB] at hw;rcases hw with rfl | rfl | rfl | rfl | hw
  ·decide
  ·have:=IX q1;ext
  ·have:=IX q2;ext
  ·have:=bI (n:=r.times) () ();ext
  ·let⟨e,he,rfl⟩:=zF.mp hw
   have:=IL (q5 e he) (q7 e he);ext
 ·let⟨j,hj,rfl⟩:=zF.mp ht
  let hj':S.bU=some j:=by
   cases q:S.bU with
   | none=>rw[q] at hj;cases hj
   | some v=>
    rw[q] at hj;have:j=v:=by simpa using hj
    rw[this]
  let⟨j1,j2,j3,j4,j5⟩:=D.ju j hj';let n1:NB j.vq:={(j2.1),()}
  let n2:NB j.Bm:={(j3.1),()}
  let n3:NB j.dn:={(j4.1),()}
  let n4:∀c,j.fJ=some c->NB c:=λc hc=>{(j5 c hc).1,by have:=(j5 c hc).2;ext}
  refine{{(n1),n2,n3,n4},by show 5<=100;decide,λw hw=>?_};simp only[Sc.aT,zB,zC,yQ] at hw;rcases hw with rfl | rfl | rfl | rfl | rfl
  ·decide
  ·have:=IX n1;ext
  ·have:=IX n2;ext
  ·have:=IX n3;ext
  ·unfold ctxt
   cases q:j.fJ with
   | none=>decide
   | some c=>have:=IX (n4 c q);dsimp only;ext
theorem Ma {α:Type} {k:Nat}:∀{l:List (List α)},(∀x∈l,⇑x<=k)->⇑l.flatten<=k*⇑l
 | [],_=>by simp
 | x::r,h=>by
  let ih:=Ma (l:=r) λy hy=>h y (zm _ hy);have:=h x zp;rw[zY,zg,zt,Nat.mul_succ];ext
def Nj {most:Int} {S:cg} (hm:most<=40) (D:tO most S):⇑(eV S)<=1000/\eV S≠[]:=by
 let bl:=D.bl;let b1:=D.b1;let pl:=D.pl;let Th:=D.Th;let i1:=D.ins.1;let t1:⇑S.aM<=1:=by rw[D.st];exact yd _
 let r1:=D.rp.1;let nl:=D.nl;let hl:=D.hs.length_le;rw[za] at hl;let f:=Ma (k:=4) (l:=S.holds.map λx=>x.2.map λh=>Told.holds x.1 h.1 h.2) λy hy=>by
  let⟨x,hx,rfl⟩:=zF.mp hy;rw[za];exact(D.hr x hx).2.1
 rw[za] at f;let u:⇑S.aK.toList<=1:=by cases S.aK <;> simp
 let j:⇑S.bU.toList<=1:=by cases S.bU <;> simp
 refine{?_,λz=>?_}
 ·unfold eV
  simp only[zg,za];ext
 ·have:=yV List.length z
  unfold eV at this;simp only[zg,za,xi] at this;ext
inductive Ct (vs:List V) (H:Hp) (Q:VK) (E:XK):Prop
 | mk (k:Int) (p:vm) (d:Int×Int) (_:vs=[.int k,.ref p]) (_:H p=some (gp d)) (_:∀q z H',aF H H'->H' q=some (gp z)->Q (.ref q) H')
def CY:cE P w base 1 T.oE Ct:=by
 nomatch T.oE,["key","turn","turned","shift"]
 let⟨k,p,d,rfl,hp,kk⟩:=h;refine{_,(ah (bQ 2 qN (au aR (pv 0) (bG (pv 1) aa)))
  (ah (bQ 3 qN aa)
  (ah (aJ (ptr d7 (pv 2) (bM (v:=.int (7)) (by rfl) T.jT {_,rfl}))
  (ak (bQ 3 qN (jy fL (bM (v:=.int (12)) (by rfl) T.lY {_,rfl}))))
  (ak (aJ (ptr eI (pv 2) (jy fL (bM (v:=.int (7)) (by rfl) T.jT {_,rfl})))
   (ak (bQ 3 qN (bM (v:=.int (12)) (by rfl) T.lY {_,rfl})))
   aA)))
  (ak (ar (aW (af (au aR (pv 2) (pv 3)) (af (pv 3) ag)))))))),?_}
 ac_rfl;left;refine join (λU H'=>H'=H/\∃z:Int,U=[some (.int k),some (.ref p),some (.int (k+d.1)),some (.int z)]) (λNz hN c1=>?_) (λNz hN c1=>?_) ?_
 ·left
  exact hN _ _ {rfl,_,rfl}
 ·left
  by_cases c2:k+d.1 < -7
  ·refine bX (ze c2) ?_
   change hN _ _ {rfl,_,rfl}
  ·refine b7 (zd c2) ?_
   change hN _ _ {rfl,_,rfl}
 rintro U H1 ⟨rfl,z,rfl⟩;change{bK,laid λq H' s' hq=>kk q (_,_) H' s' hq}
inductive J1 (vs:List V) (H:Hp) (Q:VK) (E:XK):Prop
 | mk (p q:vm) (k:Int) (m d:Int×Int) (_:vs=[.ref p,.int k,.ref q]) (_:H p=some (gp m)) (_:H q=some (gp d)) (_:∀r z H',aF H H'->H' r=some (gp z)->Q (.ref r) H')
def Kt:cE P w base 2 T.written J1:=by
 nomatch T.written,["pitch","key","turn","shift"]
 let⟨p,q,k,m,d,rfl,hp,hq,kk⟩:=h;refine{_,(ah (bQ 3 qN (bG (bJ (CY T) hr T.oE (af (pv 1) (af (pv 2) ag))) aa))
  (ak (ar (aW (af (au aR (au aR (bG (pv 0) aa) (bG (pv 2) aa)) (pv 3)) (af (au aR (bG (pv 0) aa) (bG (pv 2) aa)) ag)))))),?_}
 ac_rfl;exists k,q,d,rfl,hq,λr z H1 s1 hr1=>?_;let hp1:=s1 _ _ hp;let hq1:=s1 _ _ hq;change{bK,laid λr H' s' hr'=>kk r (_,_) H' (s1.trans s') hr'}
inductive lJ (vs:List V) (H:Hp) (Q:VK) (E:XK):Prop
 | mk (v:V) (it:Item) (k:Int) (q:vm) (d:Int×Int) (_:vs=[v,.int k,.ref q]) (_:Is H (dN it) v) (_:H q=some (gp d)) (_:∀u H',aF H H'->Q u H')
def uS:cE P w base 3 T.ky lJ:=by
 nomatch T.ky,["item","key","turn"]
 let⟨v,it,k,q,d,rfl,iv,hq,kk⟩:=h;let⟨a,vp,vl,rfl,ha,ip,il⟩:=item_at iv;refine{_,(ah (aJ (bC (cm (bG (pv 0) aa)))
  (ak (ar (pv 0)))
  aA)
  (ak (ar (aW (af (bJ (Kt T) hr T.written (af (bG (pv 0) aa) (af (pv 1) (af (pv 2) ag)))) (af (bG (pv 0) aa) ag)))))),?_}
 ac_rfl;left;generalize it.1=ot at ip;cases dP (o:=ot) ip with
 | bN=>
  refine bX rfl ?_;change kk _ _ (aD _)
 | ref hp=>
  refine b7 rfl ?_;exists _,q,k,_,d,rfl,hp,hq,λr z H1 s1 hr1=>?_;let ha1:=s1 _ _ ha;change{bK,laid λr H' s' hr'=>kk _ H' (s1.trans s')}
structure NU (S:cg):Prop where
 hi:∀x∈S.holds,∀h∈x.2,h.2∈S.aq.map (·.1)
 ni:∀x∈S.aI,⇑x.2<=40
 nb:∀x∈S.aI,W8 S x.1.1
 pl:⇑S.az<=1000
 bk:VG S
theorem Iv {α:Type} {n:Str} {v:α}:∀{l:List (Str×α)},l.lookup n=some v->∃x∈l,x.2=v
 | [],h=>by cases h
 | (k,u)::r,h=>by
  rw[yn] at h;cases q:(n == k) with
  | true=>rw[q] at h;cases h;exact{_,zp,rfl}
  | false=>
   rw[q] at h;let⟨x,m,e⟩:=Iv h;exact{x,zm _ m,e}
theorem Ec {b:Int} {I:List Str} {i:Str}:∀{l:List (Int×Str)} {r:Option Str},(∀h∈l,h.2∈I)->(∀i,r=some i->i∈I)->l.foldl (kb b) r=some i->i∈I
 | [],_,_,hr,e=>hr _ e
 | h::l,r,hl,hr,e=>by
  rw[List.foldl_cons] at e;refine Ec (l:=l) (λx hx=>hl x (zm _ hx)) (λj hj=>?_) e
  by_cases c:h.1<=b
  ·rw[show kb b r h=some h.2 from yK c] at hj
   cases hj;exact hl h zp
  ·rw[show kb b r h=r from yJ c] at hj
   exact hr j hj
def Rt {S:cg} {n i:Str} {b:Int} (P:NU S) (e:Br S n b=some i):i∈S.aq.map (·.1):=by
 unfold Br at e;refine Ec (λh hh=>?_) (λj z=>by cases z) e;cases q:S.holds.lookup n with
 | none=>rw[q] at hh;cases hh
 | some l=>
  rw[q] at hh;let⟨x,hx,rfl⟩:=Iv q;exact P.hi x hx h hh
theorem JT {κ:Type} [DecidableEq κ] {k:κ}:∀{ks:List κ} {vs:List V},⇑ks=⇑vs->cV (ks.zip vs) k=none\/∃(i:Nat) (v:V),ks[i]?=some k/\vs[i]?=some v/\cV (ks.zip vs) k=some v
 | [],_,_=>.inl rfl
 | a::r,v::t,h=>by
  rw[yS]
  by_cases e:a=k
  ·exact .inr {0,v,by rw[e];rfl,rfl,dY e}
  ·rw[dZ e]
   rcases JT (k:=k) (ks:=r) (vs:=t) (Nat.succ.inj h) with z | ⟨i,u,z1,z2,z3⟩
   ·exact .inl z
   ·exact .inr {i+1,u,z1,z2,z3}
theorem Iw {H:Hp} {α:Type} {d:α->Dt}:∀{ls:List (List α)} {as:List vm} {i:Nat} {a:vm},b8 H d ls as->as[i]?=some a->∃l vs,ls[i]?=some l/\H a=some (.lst vs)/\aC H (l.map d) vs
 | [],_,_,_,h,e=>by unfold b8 at h;subst h;cases e
 | l::r,_,i,a,h,e=>by
  unfold b8 at h;let⟨b,t,vs,rfl,h1,h2,h3⟩:=h;cases i with
  | zero=>cases e;exact{(l),vs,rfl,h1,h2}
  | succ i=>
   let⟨m,us,e1,e2,e3⟩:=Iw (ls:=r) (as:=t) (i:=i) h3 e;exact{(m),us,e1,e2,e3}
def KA {H:Hp} {ns:List ((Int×Str)×List Item)} {as:List vm} {k:Int×Str} (h:b8 H dN (ns.map (·.2)) as) (hk:k∈ns.map (·.1)) :
  ∃x∈ns,∃h vs,cV ((ns.map λx=>kN x.1).zip (as.map V.ref)) (kN k)=some (.ref h)/\H h=some (.lst vs)/\aC H (x.2.map dN) vs:=by
 let el:⇑(ns.map λx=>kN x.1)=⇑(as.map V.ref):=by rw[za,za,iH h,za]
 rcases JT (k:=kN k) el with z | ⟨i,v,z1,z2,z3⟩
 ·refine absurd ?_ (GO z)
  rw[List.map_fst_zip ()];let⟨x,hx,rfl⟩:=zF.mp hk;exact zF.mpr {(x),hx,rfl}
 ·rw[zI] at z2
  cases q:as[i]? with
  | none=>rw[q] at z2;cases z2
  | some a=>
   rw[q] at z2;cases z2;let⟨l,vs,e1,e2,e3⟩:=Iw h q;rw[zI] at e1;cases q2:ns[i]? with
   | none=>rw[q2] at e1;cases e1
   | some x=>
    rw[q2] at e1;cases e1;exact{x,zA q2,a,vs,z3,e2,e3}
def PN {H:Hp} {i:Str} {l:List (Str×(Int×Int)×(Int×Int))} {vs:List V} (h:aC H (l.map Jl) vs) (hi:i∈l.map (·.1)):∃x∈l,∃v,cV ((l.map λx=>kS x.1).zip vs) (kS i)=some v/\Is H (Jl x) v:=by
 let hl:=aQ h;rcases JT (k:=kS i) (ks:=l.map λx=>kS x.1) (vs:=vs) (by rw[za];exact hl.symm) with z | ⟨j,v,z1,z2,z3⟩
 ·refine absurd ?_ (GO z)
  rw[List.map_fst_zip (by rw[za];ext)];let⟨x,hx,rfl⟩:=zF.mp hi;exact zF.mpr {(x),hx,rfl}
 ·let⟨x,e1,e2⟩:=cN h z2
  exact{x,zA e1,v,z3,e2}
inductive J2 (C:vm) (vs:List V) (H:Hp) (Q:VK) (E:XK):Prop
 | mk (a:vm) (S:cg) (o:Ow) (n:Str) (b:Int) (_:vs=[.ref a,.str n,.int b]) (_:bP C H a S o) (_:NU S) (_:n∈S.az) (_:W8 S b) (_:∀p z H',aF H H'->H' p=some (gp z)->Q (.ref p) H')
def Ku {C:vm} (F:Cf K C):cE P w base 3 T.Ex (J2 C):=by
 nomatch T.Ex,["score","player","bar","instrument"]
 let⟨a,S,o,n,b,rfl,sc,pk,hn,hb,kk⟩:=h;let⟨ub,jm,ho,hub,hjm⟩:=sc.obj;refine{_,(ah (bQ 3 qN (bJ (sI T F) hr T.jP (af (pv 0) (af (pv 1) (af (pv 2) ag)))))
  (ah (aJ (bC (cm (pv 3)))
  (ak (ar (aW (af aa (af aa ag)))))
  aA)
  (ak (ar (bG (vW (fB hr) (bj (pv 0) rfl) (pv 3) (λ_ _=>rfl)) aa))))),?_}
 ac_rfl;exists a,S,o,n,b,rfl,sc,hn,hb.1,hb.2,λH1 s1=>?_;let ho1:=s1 _ _ ho;left;cases qi:Br S n b with
 | none=>
  refine bX rfl ?_;change{bK,laid λq H' s' hq=>kk q (_,_) H' (s1.trans s') hq}
 | some i=>
  refine b7 rfl ?_;exists a,C,o.dx,_,_,rfl,ho1,F.cls,F.aq,rfl,?_;let⟨vs,hv,il⟩:=sc.ins;let⟨w,hw,v,e1,e2⟩:=PN il (Rt pk qi);unfold Jl Is at e2;let⟨ai,vs',rfl,ha,hl⟩:=e2;simp only[aC] at hl;let⟨va,r1,rfl,i1,vb,r2,rfl,i2,rfl⟩:=hl;cases dP (o:=some w.2.1) i1 with
  | ref hb'=>
  let ha1:=s1 _ _ ha;exists o.ins,_,rfl,.inl {_,kS i,.inl (s1 _ _ hv),rfl,e1.symm},?_;change kk _ _ _ s1 (s1 _ _ hb')
inductive Aq (C:vm) (vs:List V) (H:Hp) (Q:VK) (E:XK):Prop
 | mk (a:vm) (S:cg) (o:Ow) (n m:Str) (b:Int) (_:vs=[.ref a,.str n,.int b,.str m]) (_:bP C H a S o) (_:NU S) (_:n∈S.az) (_:(b,m)∈S.aI.map (·.1)) (_:∀p us H',aF H H'->H p=none->H' p=some (.lst us)->Q (.ref p) H')
def mP {C:vm} (F:Cf K C):cE P w base 4 T.jk (Aq C):=by
 nomatch T.jk,["score","player","bar","source","key","turn"]
 let⟨a,S,o,n,m,b,rfl,sc,pk,hn,hm,kk⟩:=h;let sl:=yy;let⟨ub,jm,ho,hub,hjm⟩:=sc.obj;let⟨bv,hba,ilb⟩:=sc.ba;let hb:W8 S b:=by
  let⟨x,hx,e⟩:=zF.mp hm;have:=pk.nb x hx;rw[e] at this;exact this
 let⟨j,hj⟩:=yH hb.1;let jl:j<⇑bv:=by have:=aQ ilb;have:=hb.2;ext
 let⟨x,hx,ix⟩:=cN ilb (zb jl);let⟨ax,mx,qx,ev,hax,_,_⟩:=Gh ix;refine{_,(ah (bQ 4 qN (bG (eM (bj (pv 0) rfl) (pv 2)) aa))
  (ah (bQ 5 qN (bJ (Ku T F) hr T.Ex (af (pv 0) (af (pv 1) (af (pv 2) ag)))))
  (ak (ar (mq (ts:=["item"]) (ys:=["key","turn"]) (js:=[4,5]) (te:=(fq lJ [] E0 (bD (bc 0) (bD (bc 1) (bD (bc 2) d4))))) (bH (vW (fB hr) (bj (pv 0) rfl) (aW (af (pv 2) (af (pv 3) ag))) (λ_ _=>rfl))) (f9 0) bB (bJ (uS T) hr T.ky (af (pv 0) (af (pv 1) (af (pv 2) ag))))))))),?_}
 ac_rfl;exists a,C,o.dx,_,_,rfl,ho,F.cls,F.aN,rfl,?_;left;refine{o.ba,bv,b,.ref ax,rfl,rfl,ao hba,by rw[hj];exact bq (by rw[<-ev];exact zb jl),?_};exists a,S,o,n,b,rfl,sc,pk,hn,hb,λq z H1 s1 hq=>?_;exists a,C,o.dx,_,_,rfl,s1 _ _ ho,F.cls,F.aI,rfl,?_;exists bK,?_;intros p2 H2 s2 h2;let s02:=s1.trans s2;let⟨y,hy,h,vs,e1,hh,il⟩:=KA sc.no.2 hm;refine{o.no,_,rfl,.inr {_,kN (b,m),p2,.inl (s02 _ _ sc.no.1),rfl,h2,e1.symm},?_};refine{h,rfl,{_,ao (s02 _ _ hh)},?_};let⟨ps,f1,f2,f3⟩:=kU il;let pl:⇑ps<=40:=by have:=pk.ni y hy;rw[<-f1,za] at this;exact this
 refine Qh (enc:=λz:Item×V=>z.2) (ws:=ps) (λU=>∃v,U=[v,some (.int x.key),some (.ref q)]) () (by rw[f2];exact ao (s02 _ _ hh)) {(none),rfl} ?_ ?_
 ·rintro z U H3 R hz s3 ⟨v,rfl⟩ hR
  change{z.2,z.1,_,q,_,rfl,(f3 z hz).mono (s02.trans s3),s3 _ _ (s2 _ _ hq),λu H4 s4=>hR _ _ _ s4 {_,rfl}}
 ·intro D us H3 s3 nD hD
  exact kk D us _ (s02.trans s3) (s02.back nD) hD
def VD (S:cg) (kvs:List (Key×V)):Prop:=∀(k:Int) v,cV kvs (.inl k)=some v->∃m,v=.str m/\(k,m)∈S.aI.map (·.1)
def VD.put {S:cg} {kvs:List (Key×V)} {b:Int} {m:Str} (h:VD S kvs) (hm:(b,m)∈S.aI.map (·.1)):VD S (putK kvs (.inl b) (.str m)):=by
 intro k u hu;rw[Oh] at hu;split at hu
 ·rename_i e
  cases hu;cases Sum.inl.inj e;exact{(m),rfl,hm}
 ·exact h k u hu
def Tu.putD {H H':Hp} {N:vm} {kvs l:List (Key×V)} (t:Tu H H') (h:H' N=some (.dK kvs)):Tu H (L2.upd H' N (.dK l)):=λb zs e=>by
 let e:=t _ _ e;rw[aG]
 ·exact e
 ·rintro rfl
  rw[h] at e;cases e
inductive uB (C:vm) (vs:List V) (H:Hp) (Q:VK) (E:XK):Prop
 | mk (a:vm) (S:cg) (o:Ow) (n:Str) (q:Int) (_:vs=[.ref a,.str n,.int q]) (_:bP C H a S o) (_:⇑S.az<=1000) (_:⇑S.aN<=1000) (_:n∈S.az) (_:∀d kvs H',aF H H'->H' d=some (.dK kvs)->VD S kvs->Q (.ref d) H')
def uX {C:vm} (F:Cf K C):cE P w base 5 T.lg (uB C):=by
 nomatch T.lg,["score","player","quiet","cued","entry","cue"]
 let⟨a,S,o,n,q,rfl,sc,pl,bl,hn,kk⟩:=h;let sl:=yy;refine{_,(ah (bQ 3 qN mL)
  (ah (cj yL rfl (bH (bJ (Kx T F) hr T.entries (af (pv 0) (af (pv 1) (af (pv 2) ag))))) (hX 4 qN)
  (ah (bQ 5 qN (bG (pv 4) aa))
   (ak (aJ (bC (eQ (pv 5)))
   (ak (nF (fB hr) (pv 3) (bG (pv 5) aa) (bG (pv 5) aa) rfl))
   aA))))
  (ak (ar (pv 3))))),?_}
 ac_rfl;left
 intros d nd s1 hd H1
 exists a,S,o,n,q,rfl,sc.mono s1,pl,bl,hn,λD us H2 s2 h2 ul uo=>?_;exists{_,ao h2},?_;let dD:D≠d:=Sc.bx h2 (s2 _ _ hd) (by simp[kindOf]);refine dJ (K:=K) (a:=D) (xs:=us) (λi U H'=>∃(kvs:List (Key×V)) (w4 w5:Option V),U=[some (.ref a),some (.str n),some (.int q),some (.ref d),w4,w5]/\aF H H'/\Tu H2 H'/\H' D=some (.lst us)/\H' d=some (.dK kvs)/\⇑kvs<=i/\VD S kvs) {[],none,none,rfl,s1.trans s2,λb xs e=>e,h2,s2 _ _ hd,zk _,λ_ _ z=>by rw[Oi] at z;cases z} (λi U H' _ h=>by let⟨_,_,_,_,_,_,z,_⟩:=h;exact ao z) ?_ ?_
 ·intro i x U H3 hx hh
  refine cU λN kN0 kR0 _ _=>?_;let⟨kvs,w4,w5,rfl,s3,t3,hD3,hd3,kl,cu⟩:=hh;let hi:=(zw.mp hx).1;let⟨ax,b,c,rfl,hax,cv⟩:=(uo x (zA hx)).mono t3;left;rcases cv with rfl | ⟨p,b',m,rfl,hp,hm⟩
  ·refine b7 rfl ?_
   change{kvs,_,_,rfl,s3,t3,hD3,hd3,(),cu}
  ·refine bX rfl ?_
   left;let pkl:=jC kvs (.inl b') (.str m);refine{d,_,rfl,.inl {_,.inl b',hd3,rfl,(),rfl},?_};change{_,_,_,rfl,bF nd s3,t3.putD hd3,by rw[aG dD];exact hD3,aE,(),cu.put hm}
 ·rintro U H3 ⟨kvs,w4,w5,rfl,s3,t3,hD3,hd3,kl,cu⟩
  change kk d kvs _ s3 hd3 cu
def Tl (R:vm) (H H':Hp):Prop:=Tu H H'/\∀b xs,b≠R->H b=some (.lst xs)->H' b=some (.lst xs)
theorem Tl.of {R:vm} {H H':Hp} (s:aF H H'):Tl R H H':={Tu.of s,λb xs _ h=>s _ _ h}
theorem Tl.put {R:vm} {H H':Hp} {xs ys:List V} (t:Tl R H H') (h:H' R=some (.lst xs)):Tl R H (L2.upd H' R (.lst ys)):=
 {t.1.then (Tu.put h),λb zs n e=>by rw[aG n];exact t.2 _ _ n e}
def N7 (R:vm) (H:Hp) (v:V) (n:Int):Prop:=∃(l:vm) (xs:List V),v=.ref l/\l≠R/\H l=some (.lst xs)/\n=⇑xs
def N7.mono {R:vm} {H H':Hp} {v:V} {n:Int} (t:Tl R H H') (h:N7 R H v n):N7 R H' v n:=by
 let⟨l,xs,e,ne,h1,e2⟩:=h;exact{l,xs,e,ne,t.2 _ _ ne h1,e2}
def N7.new {R D:vm} {H:Hp} {v:V} {n:Int} (nD:H D=none) (h:N7 R H v n):N7 D H v n:=by
 let⟨l,xs,e,ne,h1,e2⟩:=h;exact{l,xs,e,(λz=>by rw[z,nD] at h1;cases h1),h1,e2}
inductive JH (R:vm) (H:Hp):V->Int->Prop
 | rest (a:vm) (b c:Int) (_:H a=some (.tup [.str "rest",.int b,.int c])):JH R H (.ref a) 2
 | bar (a:vm) (b:Int) (x:V) (n:Int) (_:H a=some (.tup [.str "bar",.int b,x,.bN])) (_:N7 R H x n):JH R H (.ref a) (1+n)
 | QB (a t:vm) (b:Int) (x y:V) (m:Str) (n k:Int) (_:H a=some (.tup [.str "bar",.int b,x,.ref t])) (_:H t=some (.tup [.str m,y])) (_:N7 R H x n) (_:N7 R H y k):JH R H (.ref a) (1+n+k)
theorem JH.mono {R:vm} {H H':Hp} {u:V} {n:Int} (t:Tl R H H') (h:JH R H u n):JH R H' u n:=by
 cases h with
 | rest a b c h1=>exact .rest a b c (t.1 _ _ h1)
 | bar a b x n h1 h2=>exact .bar a b x n (t.1 _ _ h1) (h2.mono t)
 | QB a t' b x y m n k h1 h2 h3 h4=>exact .QB a t' b x y m n k (t.1 _ _ h1) (t.1 _ _ h2) (h3.mono t) (h4.mono t)
theorem JH.new {R D:vm} {H:Hp} {u:V} {n:Int} (nD:H D=none) (h:JH R H u n):JH D H u n:=by
 cases h with
 | rest a b c h1=>exact .rest a b c h1
 | bar a b x n h1 h2=>exact .bar a b x n h1 (h2.new nD)
 | QB a t' b x y m n k h1 h2 h3 h4=>exact .QB a t' b x y m n k h1 h2 (h3.new nD) (h4.new nD)
def Cq (R:vm) (H:Hp) (us:List V):Prop:=∀u∈us,∃n,JH R H u n
theorem Cq.mono {R:vm} {H H':Hp} {us:List V} (t:Tl R H H') (h:Cq R H us):Cq R H' us:=λu hu=>by
 let⟨n,k⟩:=h u hu;exact{n,k.mono t}
theorem Cq.new {R D:vm} {H:Hp} {us:List V} (nD:H D=none) (h:Cq R H us):Cq D H us:=λu hu=>by
 let⟨n,k⟩:=h u hu;exact{n,k.new nD}
def Cq.snoc {R:vm} {H:Hp} {us:List V} {u:V} {n:Int} (h:Cq R H us) (k:JH R H u n):Cq R H (us++[u]):=λv hv=>by
 rcases zE.mp hv with z | z
 ·exact h v z
 ·rw[zy.mp z];exact{(n),k}
def Cq.app {R:vm} {H:Hp} {us vs:List V} (h:Cq R H us) (k:Cq R H vs):Cq R H (us++vs):=λv hv=>(zE.mp hv).elim (h v) (k v)
def Qm {us:List V} (h:us≠[]):vJ us (-1)=some (us.getLast h):=by
 have:0<⇑us:=yo.mpr h;exact nU (by rw[List.getLast_eq_getElem];exact zb ())
inductive G8 (vs:List V) (H:Hp) (Q:VK) (E:XK):Prop
 | mk (r:vm) (us:List V) (b:Int) (k:Bool) (_:vs=[.ref r,.int b,.bl k]) (_:H r=some (.lst us)) (_:⇑us<1000) (_:Cq r H us) (_:∀us' H1,aF H H1->⇑us'<=⇑us+1->Cq r (upd H1 r (.lst us')) us'->Q .bN (upd H1 r (.lst us')))
def Ij:cE P w base 1 T.B5 G8:=by
 nomatch T.B5,["rows","bar","broken","rest"]
 let⟨r,us,b,k,rfl,hr',ul,uo,kk⟩:=h;let sl:=yy;obtain⟨v,v0,v1,v2⟩:∃v:Bool,(k=true->v=false)/\(v=true->us≠[]/\∃a b' c,vJ us (-1)=some (.ref a)/\H a=some (.tup [.str "rest",.int b',.int c]))/\(k=false->(us=[]/\v=false)\/(us≠[]/\∃a t rs,vJ us (-1)=some (.ref a)/\H a=some (.tup (.str t::rs))/\v=decide (t ="rest"))):=by
  by_cases e:us=[]
  ·exact{false,λ_=>rfl,(λz=>by cases z),λ_=>.inl {(e),rfl}}
  ·obtain⟨u,hu,hm⟩:∃u,vJ us (-1)=some u/\u∈us:={_,Qm e,List.getLast_mem e}
   let⟨_,ru⟩:=uo u hm;cases ru with
   | rest a b' c h1=>
    cases k with
    | true=>exact{false,λ_=>rfl,(λz=>by cases z),(λz=>by cases z)}
    | false=>exact{true,(λz=>by cases z),λ_=>{(e),a,b',c,hu,h1},λ_=>.inr {e,a,_,_,hu,h1,rfl}}
   | bar a b' x n h1=>exact{false,λ_=>rfl,(λz=>by cases z),λ_=>.inr {e,a,_,_,hu,h1,rfl}}
   | QB a t' b' x y m n k' h1=>exact{false,λ_=>rfl,(λz=>by cases z),λ_=>.inr {e,a,_,_,hu,h1,rfl}}
 refine{_,(ak (aJ (PW.pt (cZ (eA (cB (pv 2))) (cZ (ptr d7 (d6 aB T.bE (af (pv 0) ag)) aa) (cS (ptr dh (bG (eM (pv 0) (jy fL aa)) aa) aL)))))
  (ah (bQ 3 qN (eM (pv 0) (jy fL aa)))
   (ak (Q7 (pv 0) (jy fL aa) (aW (af aL (af (bG (pv 3) aa) (af (au aR (bG (pv 3) aa) aa) ag)))))))
  (ak (bA (bW yz yB yA bw (pv 0) (af (aW (af aL (af (pv 1) (af aa ag)))) ag)))))),?_}
 ac_rfl;left;refine dM (c:=!k) v (λc1 Z hz=>?_) (λc1=>v0 (by cases k with | true=>rfl | false=>cases c1)) ?_
 ·left
  refine{r,us,rfl,.inl (ao hr'),?_};left;rcases v2 (by cases k with | true=>cases c1 | false=>rfl) with⟨e,rfl⟩ | ⟨e,a,t,rs,hu,h1,rfl⟩
  ·subst e
   refine b7 rfl ?_;exact hz
  ·refine bX (ze (by have:0<⇑us:=yo.mpr e;ext)) ?_
   exists r,us,-1,.ref a,rfl,rfl,ao hr',hu,?_;exists a,_,0,.str t,rfl,rfl,bu h1,bq (j:=0) rfl,?_;left;rw[show decide (V.str t=V.str "rest")=decide (t=("rest": Str)) from decide_eq_decide.mpr {V.str.inj,λz=>by rw[z]}];exact hz
 cases v with
 | true=>
  let⟨e,a,b',c,hu,h1⟩:=v1 rfl;exists r,us,-1,.ref a,rfl,rfl,ao hr',hu,?_;exists iP,?_;right;rename_i p1 H1 s1 h1';let hr1:=s1 _ _ hr';left;let tu:Tl r H (upd H1 r (.lst (us.set (⇑us-1) (.ref p1)))):=(Tl.of s1).put hr1;refine{r,us,rfl,hr1,e,?_};left;refine kk _ H1 s1 (by rw[List.length_set];ext) λu hu=>?_;rcases List.mem_or_eq_of_mem_set hu with z | z
  ·exact uo.mono tu u z
  ·rw[z]
   exact{_,.rest p1 _ _ (Tu.put hr1 _ _ h1')}
 | false=>
  exists .inl {rfl,_,ao hr'},?_;exists iP,?_;intros p1 H1 s1 h1;let hr1:=s1 _ _ hr';refine{r,us,_,rfl,rfl,hr1,(),?_};change kk _ H1 s1 (by rw[zg];exact zk _) ((uo.mono ((Tl.of s1).put hr1)).snoc (.rest p1 _ _ (Tu.put hr1 _ _ h1)))
inductive J4 (C:vm) (vs:List V) (H:Hp) (Q:VK) (E:XK):Prop
 | mk (a:vm) (S:cg) (o:Ow) (n:Str) (q:Int) (_:vs=[.ref a,.str n,.int q]) (_:bP C H a S o) (_:NU S) (_:n∈S.az) (_:∀p us H',aF H H'->H p=none->H' p=some (.lst us)->⇑us<=⇑S.aN->Cq p H' us->Q (.ref p) H')
def Kw {C:vm} (F:Cf K C):cE P w base 7 T.part_of (J4 C):=by
 nomatch T.part_of,["score","player","quiet","broken","cued","rows","bar","other"]
 let⟨a,S,o,n,q,rfl,sc,pk,hn,kk⟩:=h;let sl:=yy;let⟨ub,jm,ho,hub,hjm⟩:=sc.obj;let⟨bv,hba,ilb⟩:=sc.ba;let bl:⇑S.aN<=200:=pk.bk.2.1;refine{_,(ah (bQ 3 qN (bJ (MV T F) hr T.breaks (af (pv 0) (af (pv 1) ag))))
  (ah (bQ 4 qN (bJ (uX T F) hr T.lg (af (pv 0) (af (pv 1) (af (pv 2) ag)))))
  (ah (bQ 5 qN (bg ag))
  (ah (cj yL rfl (cy (by rfl) T.cK (af (d6 aB T.bE (af (bj (pv 0) rfl) ag)) ag)) (hX 6 qN)
  (ak (aJ (eA (cB (bJ (mR T F) hr T.mW (af (pv 0) (af (pv 1) (af (pv 6) ag))))))
   (ak (bA (bW yz yB yA bw (pv 5) (af (aW (af aL (af (pv 6) (af (bJ (mP T F) hr T.jk (af (pv 0) (af (pv 1) (af (pv 6) (af (pv 1) ag))))) (af aV ag))))) ag))))
   (ak (aJ (bC (Fm (fB hr) (pv 6) (pv 4)))
    (ah (bQ 7 qN (vW (fB hr) (pv 4) (pv 6) (λ_ _=>rfl)))
     (ak (bA (bW yz yB yA bw (pv 5) (af (aW (af aL (af (pv 6) (af (bg ag) (af (aW (af (pv 7) (af (bJ (mP T F) hr T.jk (af (pv 0) (af (pv 1) (af (pv 6) (af (pv 7) ag))))) ag))) ag))))) ag)))))
    (ak (bA (bJ (Ij T) hr T.B5 (af (pv 5) (af (pv 6) (af (dw iG (pv 6) (pv 3) (by with_unfolding_all rfl)) ag)))))))))))
  (ak (ar (pv 5))))))),?_}
 ac_rfl;exists a,S,o,n,rfl,sc,pk.bk,hn,λB H1 s1 hB=>?_;exists a,S,o,n,q,rfl,sc.mono s1,pk.pl,(),hn,λd kvs H2 s2 hd cu=>?_;let s02:=s1.trans s2;exists by show 0<=sizeLine;decide,?_
 intros R nR s3 h3 H3
 let s03:=s02.trans s3;exists a,C,o.dx,_,_,rfl,s03 _ _ ho,F.cls,F.aN,rfl,?_;exists o.ba,bv,rfl,.inl (ao (s03 _ _ hba)),?_;rw[aQ ilb];exists by ext,(),?_
 rw[show((⇑S.aN:Int)).toNat=⇑S.aN from by ext];refine fC (λi U H'=>∃(us:List V),Lo [some (.ref a),some (.str n),some (.int q),some (.ref B),some (.ref d),some (.ref R)] 2 U/\aF H2 H'/\H' R=some (.lst us)/\⇑us<=i/\Cq R H' us)
  {[],Lo.of rfl rfl,s3,h3,yd _,λu hu=>by cases hu} ?_ ?_
 ·intro i U H4 hi hh
  refine cU λN kN0 kR0 _ _=>?_;let⟨us,⟨e,rfl⟩,s4,h4,ul,uo⟩:=hh;rw[Int.zero_add];let s04:=s02.trans s4;exists a,S,o,n,(i:Int),rfl,sc.mono s04,λH5 s5=>?_;let s25:=s4.trans s5;let s05:=s02.trans s25;let h5:=s5 _ _ h4;let uo5:Cq R H5 us:=uo.mono (Tl.of s5);refine{_,rfl,?_};cases c1:decide (((i:Int),n)∈S.aI.map (·.1)) with
  | true=>
   refine bX rfl ?_;exists .inl {rfl,_,ao h5},?_;exists a,S,o,n,n,(i:Int),rfl,sc.mono s05,pk,hn,yb c1,λp6 vs H6 s6 n6 h6=>?_;exists by show 4<=sizeLine;decide,?_
   intros p7 H7 s7 h7;let s57:=s6.trans s7;let hr7:=s57 _ _ h5;refine{R,us,_,rfl,rfl,hr7,(),?_};let li:N7 R H7 (.ref p6) ⇑vs:={p6,vs,rfl,(λz=>by rw[z,h5] at n6;cases n6),s7 _ _ h6,rfl}
   change{_,Lo.of rfl rfl,bF nR (s25.trans s57),aE,by rw[zg];show ⇑us+1<=_;ext,(uo5.mono ((Tl.of s57).put hr7)).snoc (.bar p7 _ _ _ (Tu.put hr7 _ _ h7) (li.mono ((Tl.of (aD _)).put hr7)))}
  | false=>
   refine b7 rfl ?_;left;let hd5:=s25 _ _ hd;refine{d,_,rfl,.inl {kvs,.inl (i:Int),.inl hd5,rfl,rfl},?_};refine{_,rfl,?_};cases gv:cV kvs (.inl (i:Int)) with
   | some v=>
    let⟨m,rfl,hm⟩:=cu _ _ gv;refine bX rfl ?_;exists d,.str m,rfl,.inl {kvs,.inl (i:Int),.inl hd5,rfl,gv.symm},?_;exists .inl {rfl,_,ao h5},?_;exists by show 0<=sizeLine;decide,?_
    intro p6 q6;let n6:p6≠R:=λz=>by rw[z,h5] at q6;cases q6
    let s6:aF H5 (upd H5 p6 (.lst [])):=bz q6;let h6:upd H5 p6 (.lst []) p6=some (.lst []):=aE;generalize upd H5 p6 (.lst [])=H6 at s6 h6 ⊢;exists a,S,o,n,m,(i:Int),rfl,sc.mono (s05.trans s6),pk,hn,hm,λp7 vs H7 s7 n7 h7=>?_;exists bK,?_;intros p8 H8 s8 h8;exists by show 4<=sizeLine;decide,?_
    intros p9 H9 s9 h9;let s59:=((s6.trans s7).trans s8).trans s9;let hr9:=s59 _ _ h5;refine{R,us,_,rfl,rfl,hr9,(),?_};let s79:=s8.trans s9;let lx:N7 R H9 (.ref p6) (0:Nat):={p6,[],rfl,n6,s79 _ _ (s7 _ _ h6),rfl}
    let ly:N7 R H9 (.ref p7) ⇑vs:={p7,vs,rfl,(λz=>by rw[z,s6 _ _ h5] at n7;cases n7),s79 _ _ h7,rfl}
    change{_,Lo.of rfl rfl,bF nR (s25.trans s59),aE,by rw[zg];show ⇑us+1<=_;ext,(uo5.mono ((Tl.of s59).put hr9)).snoc (.QB p9 p8 _ _ _ _ _ _ (Tu.put hr9 _ _ h9) (Tu.put hr9 _ _ (s9 _ _ h8)) (lx.mono ((Tl.of (aD _)).put hr9)) (ly.mono ((Tl.of (aD _)).put hr9)))}
   | none=>
    refine b7 rfl ?_;let hB5:=(s2.trans s25) _ _ hB;exists B,_,rfl,.inl (ao hB5),rfl,nP _,?_;exists R,us,(i:Int),_,rfl,h5,(),uo5,λus' H6 s6 ul' uo'=>?_;change{us',Lo.of rfl rfl,bF nR (s25.trans s6),aE,(),uo'}
 ·rintro U H4 ⟨us,⟨e,rfl⟩,s4,h4,ul,uo⟩
  change kk R us _ (s02.trans s4) (s02.back nR) h4 ul uo
inductive tP (vs:List V) (H:Hp) (Q:VK) (E:XK):Prop
 | mk (R:vm) (u:V) (n:Int) (_:vs=[u]) (_:JH R H u n) (_:Q (.int n) H)
def HZ:cE P w base 1 T.Ad tP:=by
 nomatch T.Ad,["row","width"]
 let⟨R,u,n,rfl,ru,kk⟩:=h;refine{_,(ah (aJ (ptr dh (bG (pv 0) aa) aL)
  (ak (ar (bM (v:=.int (2)) (by rfl) T.Ga {_,rfl})))
  aA)
  (ah (bQ 1 qN (au aR aa (d6 aB T.bE (af (bG (pv 0) aa) ag))))
  (ah (aJ (bC (eQ (bG (pv 0) aa)))
  (ak (bQ 1 qN (au aR (pv 1) (d6 aB T.bE (af (bG (bG (pv 0) aa) aa) ag)))))
  aA)
  (ak (ar (pv 1)))))),?_}
 ac_rfl;cases ru with
 | rest a b c h1=>
  change kk
 | bar a b x n h1 hx=>
  let⟨l,xs,rfl,_,hl,rfl⟩:=hx;exists l,xs,rfl,.inl (ao hl),?_;change kk
 | QB a t b x y m n k h1 h2 hx hy=>
  let⟨l,xs,rfl,_,hl,rfl⟩:=hx;let⟨l2,ys,rfl,_,hl2,rfl⟩:=hy;exists l,xs,rfl,.inl (ao hl),?_;exists l2,ys,rfl,.inl (ao hl2),?_;change kk
def CA:Sp:=tP
def C6:cE P w base 1 T.pM CA:=by
 nomatch T.pM,["_law_row","_law_more"]
 let⟨R,u,n,rfl,ru,kk⟩:=h;refine{_,(ah (aJ (ptr dh (bG (pv 0) aa) aL)
  (ak (ar aa))
  aA)
  (ah (bQ 1 qN (A5 (bC (cm (bG (pv 0) aa))) aa (d6 aB T.bE (ae (bG (bG (pv 0) aa) aa) ag))))
  (ak (ar (au aR (au aR aa (d6 aB T.bE (ae (bG (pv 0) aa) ag))) (pv 1)))))),?_}
 ac_rfl;cases ru with
 | rest a b c h1=>
  change kk
 | bar a b x n h1 hx=>
  let⟨l,xs,rfl,_,hl,rfl⟩:=hx;exists l,xs,rfl,.inl (ao hl),?_;left;rw[Int.add_zero];exact kk
 | QB a t b x y m n k h1 h2 hx hy=>
  let⟨l,xs,rfl,_,hl,rfl⟩:=hx;let⟨l2,ys,rfl,_,hl2,rfl⟩:=hy;exists l2,ys,rfl,.inl (ao hl2),?_;exists l,xs,rfl,.inl (ao hl),?_;change kk
inductive rN (K:yx) (vs:List V) (H:Hp) (Q:VK) (E:XK):Prop
 | mk (a:vm) (ns:List Int) (_:vs=[.ref a]) (_:fi K H a (ns.map V.int)) (_:⇑ns<=1000) (_:∀most S p H',most<=40->tO most S->aF H H'->m7 H' p S->Q (.ref p) H')
def sJ:cE P w base 5 T.jV (rN K):=by
 nomatch T.jV,["_law_script"]
 let⟨a,ns,rfl,hS,nl,kk⟩:=h;refine{_,(ak (ar (bJ (sL T) hr T.jW (ae (pv 0) (ae (eM (bg (ae aa (ae aa (ae aa (ae aa ag))))) (au aS (bJ (bZ T) hr T.ck (ae (pv 0) (ae aa ag))) aa)) ag))))),?_};ac_rfl;exists by show 4<=sizeLine;decide,?_
 intros p1 H1 s1 h1;exists a,ns,5,rfl,s1.seq hS,(by decide),nl,λc=>?_;let g0:0<=c%4:=zv _ ∅;let g1:c%4<4:=zr _ ∅;obtain⟨jj,hjj⟩:∃j:Nat,c%4=(j:Int):={(c%4).toNat,()}
 let⟨z,hz,z1,z2⟩:=U4 (l:=[6,12,24,40]) (p:=λz=>1<=z/\z<=40) ∅ (show jj<4 by ext);exists p1,_,c%4,.int z,rfl,rfl,ao h1,(by rw[hjj];exact bq hz),?_;change{a,ns,z,rfl,s1.seq hS,nl,z1,z2,λS p H' D s' la=>kk z S p H' z2 D (s1.trans s') la}
def Ta (H H':Hp):Prop:=Tu H H'/\∀b xs,H b=some (.lst xs)->H' b=some (.lst xs)
theorem Ta.of {H H':Hp} (s:aF H H'):Ta H H':={Tu.of s,λb xs h=>s _ _ h}
def Ta.tl {R:vm} {H H':Hp} (t:Ta H H'):Tl R H H':={t.1,λb xs _ h=>t.2 _ _ h}
def Ta.putD {H:Hp} {N:vm} {kvs:List (Key×V)} {u:HO} (h:H N=some (.dK kvs)):Ta H (L2.upd H N u):=
 {λb zs e=>by rw[aG (λz=>by rw[z,h] at e;cases e)];exact e,λb zs e=>by rw[aG (λz=>by rw[z,h] at e;cases e)];exact e}
def RP (H:Hp) (kvs:List (Key×V)):Prop:=∀p∈kvs,∃l us,p.2=.ref l/\H l=some (.lst us)/\⇑us<=200/\Cq l H us
theorem RP.mono {H H':Hp} {kvs:List (Key×V)} (t:Ta H H') (h:RP H kvs):RP H' kvs:=λp hp=>by
 let⟨l,us,e,h1,h2,h3⟩:=h p hp;exact{l,us,e,t.2 _ _ h1,h2,h3.mono t.tl}
def RP.put {H:Hp} {kvs:List (Key×V)} {k:Key} {l:vm} {us:List V} (h:RP H kvs) (h1:H l=some (.lst us)) (h2:⇑us<=200) (h3:Cq l H us):RP H (putK kvs k (.ref l)):=λp hp=>by
 rcases Pu hp with z | z
 ·exact h p z
 ·exact{(l),us,z,h1,h2,h3}
inductive rQ (K:yx) (C:vm) (vs:List V) (H:Hp) (Q:VK) (E:XK):Prop
 | mk (r a:vm) (ns:List Int) (S:cg) (o:Ow) (_:vs=[.ref r,.ref a]) (_:fi K H r (ns.map V.int)) (_:⇑ns<=1000) (_:bP C H a S o) (_:NU S) (_:⇑S.az<=4) (_:∀d kvs H',aF H H'->H d=none->H' d=some (.dK kvs)->⇑kvs<=4->RP H' kvs->Q (.ref d) H')
def sN {C:vm} (F:Cf K C):cE P w base 8 T.jY (rQ K C):=by
 nomatch T.jY,["_law_script","_law_score","_law_parts","_law_k","_law_player","_law_m"]
 let⟨r,a,ns,S,o,rfl,hS,nl,sc,pk,pl,kk⟩:=h;let⟨ub,jm,ho,hub,hjm⟩:=sc.obj;refine{_,(ah (bQ 2 qN mL)
  (ah (cj yL rfl (nI (by rfl) T.fA (ae (bj (pv 1) rfl) ag)) (eB (n:=2) rfl (aO (hX 3 qN) (aO (hX 4 qN) dt)))
  (ah (bQ 5 qN (bJ (bR T) hr T.cw (ae (bJ (bZ T) hr T.ck (ae (pv 0) (ae aa ag))) (ae (au aR (pv 3) aa) ag))))
   (ak (nF (fB hr) (pv 2) (pv 4) (bJ (Kw T F) hr T.part_of (ae (pv 1) (ae (pv 4) (ae (eM (bg (ae aa (ae aa (ae aa (ae (au aR aa (au aS (au aY (pv 5) aa) aa)) ag))))) (au aS (pv 5) aa)) ag)))) rfl))))
  (ak (ar (pv 2))))),?_}
 ac_rfl;left
 intros d nd s1 hd H1
 exists a,C,o.dx,_,_,rfl,s1 _ _ ho,F.cls,F.az,rfl,?_;exists o.pl,_,rfl,ao (s1 _ _ sc.pl),?_;refine kf (K:=K) (a:=o.pl) (xs:=S.az.map V.str) (λi U H'=>∃(kvs:List (Key×V)),Lo [some (.ref r),some (.ref a),some (.ref d)] 3 U/\aF H H'/\H' d=some (.dK kvs)/\⇑kvs<=i/\RP H' kvs)
  {[],Lo.of rfl rfl,s1,hd,yd _,λp hp=>by cases hp} (λi U H' _ h=>by let⟨_,_,z,_⟩:=h;exact ao (z _ _ sc.pl)) ?_ ?_
 ·intro i x U H2 p H3 hx hh s23 hp3
  refine cU λN kN0 kR0 _ _=>?_;let⟨kvs,⟨e,rfl⟩,s2,hd2,kl,pt⟩:=hh;let il:i<4:=by have:=(zw.mp hx).1;rw[za] at this;ext
  obtain⟨n,hn,rfl⟩:∃n,n∈S.az/\V.str n=x:=zF.mp (zA hx);let s03:=s2.trans s23;refine{p,_,rfl,bu hp3,rfl,?_};refine{_,_,rfl,{_,_,rfl,{rfl,?_}}};exists r,ns,6,rfl,s03.seq hS,(by decide),nl,λc=>?_;exists c,(i:Int)+600,rfl,(),(),?_;generalize mixed c ((i:Int)+600)=m;exists by show 4<=sizeLine;decide,?_
  intros p4 H4 s4 h4;let s04:=s03.trans s4;let g0:0<=m%4:=zv _ ∅;let g1:m%4<4:=zr _ ∅;obtain⟨jj,hjj⟩:∃j:Nat,m%4=(j:Int):={(m%4).toNat,()}
  let⟨z,hz,_⟩:=U4 (l:=[1,2,3,1+m/4%40]) (p:=λ_=>True) (λ_ _=>trivial) (show jj<4 by ext);exists p4,_,m%4,.int z,rfl,rfl,ao h4,(by rw[hjj];exact bq hz),?_;exists a,S,o,n,z,rfl,sc.mono s04,pk,hn,λl us H5 s5 _ h5 ul ru=>?_;let hd5:=s5 _ _ (s4 _ _ (s23 _ _ hd2));let bl:=pk.bk.2.1;let sl:=yy;let pkl:=jC kvs (kS n) (.ref l);exists d,_,rfl,.inl {_,kS n,hd5,rfl,(),rfl},?_;change{_,Lo.of rfl rfl,bF nd (s04.trans s5),aE,(),((pt.mono (Ta.of ((s23.trans s4).trans s5))).put h5 () ru).mono (Ta.putD hd5)}
 ·rintro U H2 ⟨kvs,⟨e,rfl⟩,s2,hd2,kl,pt⟩
  change kk d kvs _ s2 nd hd2 (by rw[za] at kl;ext) pt
def CB:Sp:=λvs H Q _=>∃(i:Int),vs=[.int i]/\Q (.bl true) H
def C7:cE P w base 1 T.pN CB:=by
 nomatch T.pN,["_law_found"]
 let⟨i,rfl,kk⟩:=h;refine{_,(ak (ar (o6 (Ph .int (by decide +kernel) (pv 0) T.qJ T.Sb) (mK (To (Ph .bl (by decide +kernel) (pv 0) T.qJ T.TC)))))),?_};ac_rfl;change kk
def JH.hd {R:vm} {H:Hp} {u:V} {n:Int} (h:JH R H u n):∃a t b x r,u=.ref a/\H a=some (.tup (.str t::.int b::x::r))/\(r=[]\/∃y,r=[y]):=by
 cases h with
 | rest a b c h1=>exact{a,_,b,_,_,rfl,h1,.inl rfl}
 | bar a b x n h1 h2=>exact{a,_,b,_,_,rfl,h1,.inr {_,rfl}}
 | QB a t' b x y m n k h1 h2 h3 h4=>exact{a,_,b,_,_,rfl,h1,.inr {_,rfl}}
def Vs {K:yx} {H:Hp} {a:vm} {t:Str} {b:Int} {x:V} {r:List V} {Q:VK} (h:H a=some (.tup (.str t::.int b::x::r))) (hr:r=[]\/∃y,r=[y]) (q:∀p H',aF H H'->H' p=some (.tup [.str t,.int b])->Q (.ref p) H'):O2 K (.ref a) none (some 2) H Q:=by
 refine .inl {a,_,rfl,bu h,?_,λp hp=>q p _ (bz hp) ?_}
 ·rcases hr with rfl | ⟨y,rfl⟩
  ·exact yb rfl
  ·exact yb rfl
 ·rw[aE]
  rcases hr with rfl | ⟨y,rfl⟩ <;> rfl
def RH {xs:List V} {lo hi:Option Int} {x:V} (h:x∈ko xs lo hi):x∈xs:=by
 unfold ko at h;exact List.mem_of_mem_drop (List.mem_of_mem_take h)
def Qb {S:cg} {most:Int} (hm:most<=40) (D:tO most S) (V:WX S):NU S:=by
 let b24:=D.bl;let hl:=V.hx;refine{λx hx h hh=>((V.hx x hx).2.2.2.2 h hh).2,λx hx=>(V.nx x hx).2.2.2.1,λx hx=>{(V.nx x hx).1,(V.nx x hx).2.1},by have:=D.pl;ext,λx hx=>?_,(),by have:=D.rp.1;ext,λr hr=>?_,λx hx=>?_}
 ·let⟨m1,m2,m3,m4,m5⟩:=jB (D.bd x hx).1
  exact{(()),(),(),()}
 ·let⟨h1,h2,h3,h4,h5,_,e2,e3,_⟩:=D.rp.2.1 r hr
  exact e2
 ·have:=(V.hx x hx).2.1
  ext
inductive OJ (K:yx) (vs:List V) (H:Hp) (Q:VK) (E:XK):Prop
 | mk (a:vm) (ns:List Int) (_:vs=[.ref a]) (_:fi K H a (ns.map V.int)) (_:⇑ns<=63) (_:∀H':Hp,Q (.bl true) H')
def Tx (B:Dk P w K T) (F:Cf K T.lz):cE P w base 9 T.WD (OJ K):=by
 nomatch T.WD,["_law_script","_law_s","_law_rows","_law_part","_law_k","_law_cell","_law_m","_law_items","_law_more","_law_some","_law_row","_law_kept","_law_found"]
 let⟨a,ns,rfl,hS,nl,kk⟩:=h;let sl:=yy;refine{_,(ah (bQ 1 qN (bJ (sJ T) hr T.jV (ae (pv 0) ag)))
  (ah (bQ 2 qN (bg ag))
  (ah (cj yL rfl (DU (Tq (bJ (sN T F) hr T.jY (ae (pv 0) (ae (bJ (C0 T B F) hr T.oV (ae (bJ (pf T) hr T.gR (ae (pv 1) ag)) ag)) ag))))) (hX 3 qN)
  (ak (bQ 2 qN (au gw (pv 2) (pv 3)))))
  (ah (cj yL rfl (nI (by rfl) T.fA (ae (dI kD (pv 0) (eO aa) eP) ag)) (eB (n:=2) rfl (aO (hX 4 qN) (aO (hX 5 qN) dt)))
  (ah (bQ 6 qN (bJ (bR T) hr T.cw (ae (pv 5) (ae (au aR (pv 4) aa) ag))))
   (ah (Pl (i:=7) (ts:=["_law_j"]) (ys:=[]) (js:=[]) (te:=(Ao (bD (Ao (bD (tC (.int (0))) (bD (tC (.int (0))) d4))) (bD (Ao (bD (tC (.int (1))) (bD (fj (tW λi j=>.int (i+j)) (tC (.int (8))) (bc 0)) d4))) d4)))) (cy (by rfl) T.cK (ae (au aR aa (au aS (pv 6) aa)) ag)) (f9 0) bB (aW (ae (aW (ae aa (ae aa ag))) (ae (aW (ae aa (ae (au aR aa (pv 0)) ag))) ag))) qN)
   (ah (Pl (i:=8) (ts:=["_law_j"]) (ys:=[]) (js:=[]) (te:=(Ao (bD (tC .bN) (bD (Ao (bD (tC (.int (1))) (bD (tC (.int (4))) d4))) d4)))) (cy (by rfl) T.cK (ae (au aR aa (au aS (au aY (pv 6) aa) aa)) ag)) (f9 0) bB (aW (ae aV (ae (aW (ae aa (ae aa ag))) ag))) qN)
   (ah (bQ 9 qN (bg (ae (aW (ae aL (ae (au aS (pv 6) aa) (ae (pv 7) (ae aV ag))))) (ae (aW (ae aL (ae (au aS (pv 6) aa) (ae (bg ag) (ae (aW (ae (eM (bG (pv 1) aa) aa) (ae (pv 8) ag))) ag))))) ag))))
   (ak (bA (bW yz yB yA bw (pv 2) (ae (eM (au gw (pv 9) (bg (ae (aW (ae aL (ae (au aS (pv 6) aa) (ae (au aR aa (au aS (au aY (pv 6) aa) aa)) ag)))) ag))) (au aS (au aY (pv 6) aa) aa)) ag)))))))))
  (ah (cj yL rfl (bH (pv 2)) (hX 10 qN)
  (ah (bQ 11 qN (dI EW (pv 10) eP (eO aa)))
   (ah (bQ 12 qN (bJ (HZ T) hr T.Ad (ae (pv 10) ag)))
   (ak (aJ (PW.pt (dB (eA (cB (bJ (C7 T) hr T.pN (ae (pv 12) ag)))) (dB (ptr iU (pv 12) (bJ (C6 T) hr T.pM (ae (pv 10) ag))) (cY (ptr (sG hr.units) (dI EW (pv 10) eP (eO aa)) (pv 11))))))
   (ak (ar mM))
   aA)))))
  (ak (ar mM))))))),?_}
 ac_rfl;refine QN λZ1 kZ1 _=>?_;exists a,ns,rfl,hS,(),λmost S p H1 hm D s1 la=>?_;let vok:=RB hm D;let td:=Qa hm D;let⟨tl,tne⟩:=Nj hm D;let rok:∀r∈S.aH,NT r:=λr hr'=>Ek (by have:=D.bl;ext) (D.rp.2.1 r hr');let rl5:⇑S.aH<=1000:=by have:=D.rp.1;ext
 let pk:=Qb hm D vok;let pl4:=D.pl;let Th:=D.Th;let hst:=D.st;clear D;left;refine kZ1 _ _ ?_;refine QN λZ2 kZ2 _=>?_;exists yd _,?_
 intros R nR s2 h2 H2
 left;refine kZ2 _ _ ?_;refine QN λZ3 kZ3 _=>?_;exists p,S,rfl,la.mono s2,hst,td,tl,rok,rl5,λH3 s3=>?_;exists _,eV S,S,rfl,text_len td tl,QW tne td,OP vok,λsa o H4 sc s4 ow=>?_;let s14:=(s2.trans s3).trans s4;exists a,sa,ns,S,o,rfl,(s1.trans s14).seq hS,(),sc,pk,pl4,λd kvs H5 s5 nd hd kl pt=>?_;exists d,kvs,rfl,hd,λob=>?_;let s16:aF H1 (upd H5 d (.iI ob (.dK kvs))):=s14.trans (bF nd s5);let h6:upd H5 d (.iI ob (.dK kvs)) d=some (.iI ob (.dK kvs)):=aE;let hR6:upd H5 d (.iI ob (.dK kvs)) R=some (.lst []):=bF nd s5 _ _ (s4 _ _ (s3 _ _ h2));let pt6:RP (upd H5 d (.iI ob (.dK kvs))) kvs:=pt.mono (Ta.putD hd);generalize upd H5 d (.iI ob (.dK kvs))=H6 at s16 h6 hR6 pt6 ⊢;clear pt hd s5 nd sc s4 s3 h2;refine{d,ob,kvs,rfl,h6,?_};refine Bw (λi U H'=>∃(R:vm) (us:List V),Lo [some (.ref a),some (.ref p),some (.ref R)] 10 U/\aF H6 H'/\H1 R=none/\H' R=some (.lst us)/\⇑us<=200*i/\Cq R H' us)
  {R,[],Lo.of rfl rfl,aD _,nR,hR6,yd _,λu hu=>by cases hu} (λi U H' _ h=>by let⟨_,_,_,z,_⟩:=h;exact z _ _ h6) ?_ ?_
 ·rintro i x U H7 hx ⟨R,us,⟨e,rfl⟩,s7,nR,h7,ul,ru⟩
  let il:=(zw.mp hx).1;let⟨l,vs,ev,hl,vl,rv⟩:=pt6.mono (Ta.of s7) x (zA hx);rw[ev];exists R,l,us,vs,rfl,rfl,ao h7,ao hl,(),λR' n'=>?_;let s8:=bz (o:=HO.lst (us++vs)) n';change{R',us++vs,Lo.of rfl rfl,s7.trans s8,(s16.trans s7).back n',aE,by rw[zg];ext,((ru.new n').app (rv.new n')).mono (Tl.of s8)}
 rintro U H7 ⟨R,us,⟨e,rfl⟩,s7,nR,h7,ul,ru⟩;refine kZ3 _ _ ?_;refine QN λZ4 kZ4 _=>?_;let s17:=s16.trans s7;clear s16 s7 pt6 h6 hR6;exists a,_,rfl,(s1.trans s17).seq hS,λq nq=>?_;obtain⟨ws,hws⟩:∃ws,ws=ko (ns.map V.int) (some 7) none:={_,rfl}
 let wl:⇑ws<=63:=by rw[hws];have:=mX (ns.map V.int) (some 7) none;rw[za] at this;ext
 let wi:∀x∈ws,∃c,x=V.int c:=λx hx=>by
  rw[hws] at hx;let⟨c,_,e⟩:=zF.mp (RH hx);exact{(c),e.symm}
 rw[<-hws];let qR:q≠R:=λz=>by rw[z,h7] at nq;cases nq
 let s8:=bz (o:=HO.lst ws) nq;let h8:upd H7 q (.lst ws) q=some (.lst ws):=aE;generalize upd H7 q (.lst ws)=H8 at s8 h8 ⊢;clear hws;exists q,ws,rfl,ao h8,?_;refine kf (K:=K) (a:=q) (xs:=ws) (λi U H'=>∃(us:List V),Lo [some (.ref a),some (.ref p),some (.ref R)] 10 U/\aF H1 H'/\H' q=some (.lst ws)/\H' R=some (.lst us)/\⇑us<=800+i/\Cq R H' us)
  {us,Lo.of rfl rfl,s17.trans s8,h8,s8 _ _ h7,(),ru.mono (Tl.of s8)} (λi U H' _ h=>by let⟨_,_,_,z,_⟩:=h;exact ao z) ?_ ?_
 ·clear h8 s8 h7 ul ru
  rintro i x U H9 pt Ha hx ⟨us,⟨e,rfl⟩,s9,hq9,hR9,ul,ru⟩ sa hpt;let il:=(zw.mp hx).1;let⟨c,rfl⟩:=wi x (zA hx);let sa1:=s9.trans sa;let hqa:=sa _ _ hq9;let hRa:=sa _ _ hR9;let rua:=ru.mono (Tl.of sa);clear sa s9 hq9 hR9 ru;refine{pt,_,rfl,bu hpt,rfl,?_};refine{_,_,rfl,{_,_,rfl,{rfl,?_}}};refine QN λZ5 kZ5 _=>?_;exists c,(i:Int)+900,rfl,(),(),?_;generalize mixed c ((i:Int)+900)=m;left;refine kZ5 _ _ ?_;refine QN λZ6 kZ6 _=>?_;left;let g0:0<=m%40:=zv _ ∅;let g1:m%40<40:=zr _ ∅;refine{(),(),?_};refine En (λU=>∃v,U=[v]) () {(none),rfl} ?_ ?_
  ·rintro j U Hb R' hj sb ⟨v,rfl⟩ hR'
   exists bK,?_;intros t1 Hc sc1 ht1;exists bK,?_;intros t2 Hd sd ht2;change{bK,λt3 n3=>hR' _ _ _ ((sc1.trans sd).trans (bz n3)) {_,rfl}}
  intro I7 vs7 Hb sb n7 h7;let i7R:I7≠R:=λz=>by rw[z,hRa] at n7;cases n7
  left;refine kZ6 _ _ ?_;refine QN λZ7 kZ7 _=>?_;left;let g2:0<=m/41%40:=zv _ ∅;let g3:m/41%40<40:=zr _ ∅;refine{(),(),?_};refine En (λU=>∃v,U=[v]) () {(none),rfl} ?_ ?_
  ·rintro j U Hc R' hj sc1 ⟨v,rfl⟩ hR'
   exists bK,?_;intros t1 Hd sd ht1;change{bK,λt3 n3=>hR' _ _ _ (sd.trans (bz n3)) {_,rfl}}
  intro I8 vs8 Hc sc8 n8 h8;let hRb:=sb _ _ hRa;let i8R:I8≠R:=λz=>by rw[z,hRb] at n8;cases n8
  left;refine kZ7 _ _ ?_;let sac:=sb.trans sc8;let h7c:=sc8 _ _ h7;clear n7 n8 h7 hRb sb sc8 g0 g1 g2 g3;refine QN λZ8 kZ8 _=>?_;exists by show 4<=sizeLine;decide,?_
  intros t1 Hd sd ht1;exists yd _,?_;intro I9 n9;let i9R:I9≠R:=λz=>by rw[z,sd _ _ (sac _ _ hRa)] at n9;cases n9
  let se:=bz (o:=HO.lst []) n9;let h9:upd Hd I9 (.lst []) I9=some (.lst []):=aE;generalize upd Hd I9 (.lst [])=He at se h9 ⊢;let⟨pl,_,_,_,_,_,_,_,_,_,_,_,_,_,_,hl1,hl2,_⟩:=(la.mono ((sa1.trans sac).trans (sd.trans se))).at';left;refine{pl,_,0,.str (S.az[0]'()),rfl,rfl,ao hl2,bq (j:=0) (by rw[zI,zb ()];rfl),?_};exists bK,?_;intros t2 Hf sf ht2;exists by show 4<=sizeLine;decide,?_
  intros t3 Hg sg ht3;exists bK,?_;intros t4 Hh sh ht4;left;refine kZ8 _ _ ?_;let scf:=(sd.trans se).trans sf;let sch:=(scf.trans sg).trans sh;let r1:JH R Hh (.ref t1) (1+(⇑vs7:Int)):=.bar t1 _ _ _ (sh _ _ (sg _ _ (sf _ _ (se _ _ ht1)))) {I7,vs7,rfl,i7R,sch _ _ h7c,rfl};let r2:JH R Hh (.ref t3) (1+((0:Nat):Int)+(⇑vs8:Int)):=.QB t3 t2 _ _ _ _ _ _ (sh _ _ ht3) (sh _ _ (sg _ _ ht2)) {I9,[],rfl,i9R,sh _ _ (sg _ _ (sf _ _ h9)),rfl} {I8,vs8,rfl,i8R,sch _ _ h8,rfl};let sah:=sac.trans sch;let hRh:=sah _ _ hRa;let hqh:=sah _ _ hqa;let ruh:=rua.mono (Tl.of sah);let s1h:=sa1.trans sah;clear hl1 hl2 ht1 ht2 ht3 h9 h8 h7c sd se sf sg sh sch scf sac sah rua hRa hqa sa1;exists .inl {rfl,_,ao hRh},?_;exists iP,?_;intros t5 Hi si ht5;exists by show 1<=sizeLine;decide,?_
  intros t6 Hj sj ht6;let shj:=si.trans sj;exists t4,t6,_,_,rfl,rfl,ao (shj _ _ ht4),ao ht6,(by show 2+1<=sizeLine;ext),?_;intros t7 Hk sk ht7;let shk:=shj.trans sk;let g0:0<=m/1681%3:=zv _ ∅;let g1:m/1681%3<3:=zr _ ∅;obtain⟨v,n,hv,rv⟩:∃v n,vJ [.ref t1,.ref t3,.ref t5] (m/1681%3)=some v/\JH R Hk v n:=by
   generalize m/1681%3=z at g0 g1;obtain rfl | rfl | rfl:z=0\/z=1\/z=2:=()
   ·exact{_,_,rfl,r1.mono (Tl.of shk)}
   ·exact{_,_,rfl,r2.mono (Tl.of shk)}
   ·exact{_,_,rfl,.rest t5 _ _ (sk _ _ (sj _ _ ht5))}
  let hRk:=shk _ _ hRh;exists t7,_,m/1681%3,v,rfl,rfl,ao ht7,hv,?_;exists R,us,v,rfl,rfl,hRk,(),?_;change{_,Lo.of rfl rfl,bF nR (s1h.trans shk),by rw[aG qR];exact shk _ _ hqh,aE,by rw[zg];show ⇑us+1<=_;ext,(ruh.mono ((Tl.of shk).put hRk)).snoc (rv.mono ((Tl.of (aD _)).put hRk))}
 ·rintro U H9 ⟨us,⟨e,rfl⟩,s9,hq9,hR9,ul,ru⟩
  refine kZ4 _ _ ?_;clear hq9 h8 s8 h7 wi;refine QN λZ5 kZ5 _=>?_;exists{_,ao hR9},?_;refine dJ (K:=K) (a:=R) (xs:=us) (λi U H'=>Lo [some (.ref a),some (.ref p),some (.ref R)] 10 U/\aF H9 H') {Lo.of rfl rfl,aD _} (λi U H' _ h=>ao (h.2 _ _ hR9)) ?_ ?_
  ·rintro i x U Ha hx ⟨⟨e,rfl⟩,sa⟩
   let⟨n,rx⟩:=ru.mono (Tl.of sa) x (zA hx);let⟨ax,t,b,x2,r,rfl,hax,hr'⟩:=rx.hd;left;refine Vs hax hr' λk1 Hb sb hk1=>?_;exists R,_,n,rfl,rx.mono (Tl.of sb),?_;exists R,_,n,rfl,rx.mono (Tl.of sb),?_;left;refine b7 (by rw[ze rfl];rfl) ?_;left;refine Vs (sb _ _ hax) hr' λk2 Hc sc2 hk2=>?_;exists k2,k1,_,_,rfl,rfl,.inr {bu hk2,bu (sc2 _ _ hk1)},.inr (.inr {(rfl),rfl}),?_;refine{_,rfl,b7 (by rw[ze rfl];rfl) ?_};change{Lo.of rfl rfl,(sa.trans sb).trans sc2}
  ·rintro U Ha ⟨⟨e,rfl⟩,sa⟩
   refine kZ5 _ _ ?_;change kk _
end
def l1 {α:Type} {n:Nat} {P:List α->Prop} {us:List α} (h:⇑us=n+1) (k:∀u r,⇑r=n->P (u::r)):P us:=match us,h with
 | u::r,h=>k u r (Nat.succ.inj h)
def l0 {α:Type} {P:List α->Prop} {us:List α} (h:⇑us=0) (k:P []):P us:=match us,h with
 | [],_=>k
def ki {K:yx} {h:vn} {mg:Str->Option vf} {x:Str} {st:Stmt} {f:vm} {od an:Option vm} {sl:Array (Option vf)} {oc kV dc pm cd ct:vf} {p0:Str} (X:K.In h) (G:h.Ns mainGlobals mg) (a:PySem.W.nsIn K mainGlobals x=some (some (.ref f))<|>qn_) (l:K.lookup f=some {oc,od,.func (PySem.W.fnOf x x (df st) (cC st) (aX st) .none kV dc pm an cd ct),sl}<|>qn_) (c:PySem.W.codeIn K cd x=true<|>qn_) (k:PySem.W.keepIn K (.ref f)=true<|>qn_)
  (hb:(∀(kV dc pm:vf) (an:Option vm) (cd ct u0:vf),bindArgs (PySem.W.fnOf x x (df st) (cC st) (aX st) .none kV dc pm an cd ct) {[u0],[]}=pure [(p0,u0)])<|>qo_) :
  Df K mg x st f (PySem.W.fnOf x x (df st) (cC st) (aX st) .none kV dc pm an cd ct) [p0]:=
 {jQ l c k,ve X G a,(jQ l c k).binds (ps:=[p0]) λkV dc pm an cd ct us hl=>by
  apply l1 hl;intro u0 r h;apply l0 h;exact hb kV dc pm an cd ct u0}
def jh {K:yx} {h:vn} {mg:Str->Option vf} {x:Str} {st:Stmt} {f:vm} {od an:Option vm} {sl:Array (Option vf)} {oc kV dc pm cd ct:vf} {p0 p1:Str} (X:K.In h) (G:h.Ns mainGlobals mg) (a:PySem.W.nsIn K mainGlobals x=some (some (.ref f))<|>qn_) (l:K.lookup f=some {oc,od,.func (PySem.W.fnOf x x (df st) (cC st) (aX st) .none kV dc pm an cd ct),sl}<|>qn_) (c:PySem.W.codeIn K cd x=true<|>qn_) (k:PySem.W.keepIn K (.ref f)=true<|>qn_)
  (hb:(∀(kV dc pm:vf) (an:Option vm) (cd ct u0 u1:vf),bindArgs (PySem.W.fnOf x x (df st) (cC st) (aX st) .none kV dc pm an cd ct) {[u0,u1],[]}=pure [(p0,u0),(p1,u1)])<|>qo_) :
  Df K mg x st f (PySem.W.fnOf x x (df st) (cC st) (aX st) .none kV dc pm an cd ct) [p0,p1]:=
 {jQ l c k,ve X G a,(jQ l c k).binds (ps:=[p0,p1]) λkV dc pm an cd ct us hl=>by
  apply l1 hl;intro u0 r h;apply l1 h;intro u1 r h;apply l0 h;exact hb kV dc pm an cd ct u0 u1}
def K3 {K:yx} {h:vn} {mg:Str->Option vf} {x:Str} {st:Stmt} {f:vm} {od an:Option vm} {sl:Array (Option vf)} {oc kV dc pm cd ct:vf} {p0 p1 p2:Str} (X:K.In h) (G:h.Ns mainGlobals mg) (a:PySem.W.nsIn K mainGlobals x=some (some (.ref f))<|>qn_) (l:K.lookup f=some {oc,od,.func (PySem.W.fnOf x x (df st) (cC st) (aX st) .none kV dc pm an cd ct),sl}<|>qn_) (c:PySem.W.codeIn K cd x=true<|>qn_) (k:PySem.W.keepIn K (.ref f)=true<|>qn_)
  (hb:(∀(kV dc pm:vf) (an:Option vm) (cd ct u0 u1 u2:vf),bindArgs (PySem.W.fnOf x x (df st) (cC st) (aX st) .none kV dc pm an cd ct) {[u0,u1,u2],[]}=pure [(p0,u0),(p1,u1),(p2,u2)])<|>qo_) :
  Df K mg x st f (PySem.W.fnOf x x (df st) (cC st) (aX st) .none kV dc pm an cd ct) [p0,p1,p2]:=
 {jQ l c k,ve X G a,(jQ l c k).binds (ps:=[p0,p1,p2]) λkV dc pm an cd ct us hl=>by
  apply l1 hl;intro u0 r h;apply l1 h;intro u1 r h;apply l1 h;intro u2 r h;apply l0 h;exact hb kV dc pm an cd ct u0 u1 u2}
def VQ {K:yx} {h:vn} {mg:Str->Option vf} {x:Str} {st:Stmt} {f:vm} {od an:Option vm} {sl:Array (Option vf)} {oc kV dc pm cd ct:vf} {p0 p1 p2 p3:Str} (X:K.In h) (G:h.Ns mainGlobals mg) (a:PySem.W.nsIn K mainGlobals x=some (some (.ref f))<|>qn_) (l:K.lookup f=some {oc,od,.func (PySem.W.fnOf x x (df st) (cC st) (aX st) .none kV dc pm an cd ct),sl}<|>qn_) (c:PySem.W.codeIn K cd x=true<|>qn_) (k:PySem.W.keepIn K (.ref f)=true<|>qn_)
  (hb:(∀(kV dc pm:vf) (an:Option vm) (cd ct u0 u1 u2 u3:vf),bindArgs (PySem.W.fnOf x x (df st) (cC st) (aX st) .none kV dc pm an cd ct) {[u0,u1,u2,u3],[]}=pure [(p0,u0),(p1,u1),(p2,u2),(p3,u3)])<|>qo_) :
  Df K mg x st f (PySem.W.fnOf x x (df st) (cC st) (aX st) .none kV dc pm an cd ct) [p0,p1,p2,p3]:=
 {jQ l c k,ve X G a,(jQ l c k).binds (ps:=[p0,p1,p2,p3]) λkV dc pm an cd ct us hl=>by
  apply l1 hl;intro u0 r h;apply l1 h;intro u1 r h;apply l1 h;intro u2 r h;apply l1 h;intro u3 r h;apply l0 h;exact hb kV dc pm an cd ct u0 u1 u2 u3}
def walk {l:PySem.W.OpenLaw} {q:vh} {loose:List Str} {XP:(Str->Option vf)->vn->Prop} {YP:vi->vn->Prop} {d:DefRec} {K:Params->yx} (hn:l.most=some 63) (hdf:d.params.defaults=[]) (hdn:d.name ="law")
  (hY:∀(w:vi) (h:vn),YP w h->(K w.params).In h)
  (F:∀(w:vi) (mg:Str->Option vf) (h:vn),(K w.params).In h->h.Ns mainGlobals mg->
   ∃T:Txt (K w.params) mg,Dk l.prog w (K w.params) T/\∀(s:vg) (v:vf),BindsTo s T.Qf {[v],[]} [("_law_script",v)]) :
  PySem.W.WalkO q loose XP YP l.row.toRowW d [] (λf vs=>PySem.call f vs):=
 L2.QH (n:=63) (k:=9) (x:="_law_script") (CX:=λ_=>JK) (sp:=λw=>OJ (K w.params)) hn ∅ hdf {rfl,∅,∅} hY
  (λw mg fa h kx hns hm=>by
   let⟨T,B,hb⟩:=F w mg h kx hns;rw[hdn] at hm;let e:=hm.symm.trans T.WD.g;cases e;exact{T.Qf,hb,λbase _ _=>Tx T B T.cf}) (λ_ _ a ns hl _ hS=>{a,ns,rfl,hS,hl,λ_=>rfl}) λ_ _ _ _ _ z=>z
def Xd {P:vh} {w:vi} {K:yx} {a:vm} {n:Nat} {t0 t1 t2 t3 t4 t5 t6 t7 t8:Tok} {f0 f1 f2 f3 f4 f5 f6 f7 f8:vm} {s0 s1 s2 s3 s4 s5 s6 s7 s8:Str} (r:K.lookup a=some {cls:=.type "dict",data:=.dict #[{PyData.keyHash w.params s0,.str s0 t0,.ref f0},{PyData.keyHash w.params s1,.str s1 t1,.ref f1},{PyData.keyHash w.params s2,.str s2 t2,.ref f2},{PyData.keyHash w.params s3,.str s3 t3,.ref f3},{PyData.keyHash w.params s4,.str s4 t4,.ref f4},{PyData.keyHash w.params s5,.str s5 t5,.ref f5},{PyData.keyHash w.params s6,.str s6 t6,.ref f6},{PyData.keyHash w.params s7,.str s7 t7,.ref f7},{PyData.keyHash w.params s8,.str s8 t8,.ref f8}] n}) (y:(a == sysModules)=false) (nd:List.Nodup [s0,s1,s2,s3,s4,s5,s6,s7,s8]) :
  KD P w K a [(s0,.ref f0),(s1,.ref f1),(s2,.ref f2),(s3,.ref f3),(s4,.ref f4),(s5,.ref f5),(s6,.ref f6),(s7,.ref f7),(s8,.ref f8)]:=Vb (l:=[(s0,t0,f0),(s1,t1,f1),(s2,t2,f2),(s3,t3,f3),(s4,t4,f4),(s5,t5,f5),(s6,t6,f6),(s7,t7,f7),(s8,t8,f8)]) r y nd
def Xw {K:yx} {a:vm} {rd:Option vm} {rs:Array (Option vf)} {rn:Nat} {t0 t1 t2 t3 t4 t5:Tok} {x0 x1 x2 x3 x4 x5:Int} (r:K.lookup a=some {.type "tuple",rd,.seq #[.int x0 t0,.int x1 t1,.int x2 t2,.int x3 t3,.int x4 t4,.int x5 t5] rn,rs}) (H:Hp):pQ K H a [.int x0,.int x1,.int x2,.int x3,.int x4,.int x5]:=
 .inr {_,_,_,r,rfl,rfl,by show 6<=sizeLine;decide,.cons {_,rfl} (.cons {_,rfl} (.cons {_,rfl} (.cons {_,rfl} (.cons {_,rfl} (.cons {_,rfl} (.nil))))))}
def Xz {K:yx} {x y:Str} {st:Stmt} {f:vm} {od an:Option vm} {sl:Array (Option vf)} {oc kV dc pm cd ct:vf} {p:Str} (l:K.lookup f=some {oc,od,.func (PySem.W.fnOf x y (df st) (cC st) (aX st) .none kV dc pm an cd ct),sl}<|>qn_) (c:PySem.W.codeIn K cd y=true<|>qn_) (k:PySem.W.keepIn K (.ref f)=true<|>qn_)
  (hb:(∀(kV dc pm:vf) (an:Option vm) (cd ct u:vf),bindArgs (PySem.W.fnOf x y (df st) (cC st) (aX st) .none kV dc pm an cd ct) {[u],[]}=pure [(p,u)])<|>qo_):Xo K x y st f (PySem.W.fnOf x y (df st) (cC st) (aX st) .none kV dc pm an cd ct) [p]:=
 {jQ l c k,(jQ l c k).binds (ps:=[p]) λkV dc pm an cd ct us hl=>by
  apply l1 hl;intro u0 r h;apply l0 h;exact hb kV dc pm an cd ct u0}
def Rk {K:yx} {C:vm} {f:Str} (e:PySem.W.findIn K (.ref C) f=some none<|>qn_):eL K C f:=e
def ua {K:yx} {h:vn} {mg:Str->Option vf} {x:Str} {v:vf} (X:K.In h) (G:h.Ns mainGlobals mg) (e:PySem.W.nsIn K mainGlobals x=some (some v)<|>qn_):mg x=some v:=ve X G e
def GI {K:yx} {h:vn} {mg:Str->Option vf} {x:Str} (X:K.In h) (G:h.Ns mainGlobals mg) (e:PySem.W.nsIn K mainGlobals x=some none<|>qn_):mg x=none:=PySem.W.mg_none_of X G e
end K22
local macro_rules|`(command|#check $i:ident $s:str)=>return Lean.mkNullNode (←s.getString.toList.toArray.mapM λc=>`(command|def $(Lean.mkIdent (.mkSimple ("tw"++toString (Lean.Name.str `PySem.Challenge.cw_partsmith_k43_widths_holds (i.getId.toString++toString (c.toNat-256))).hash))) :=Prop))
namespace PySem.W.Fast
#check env_ "ĩ"
#check heap_ "ħĮј"
#check o_ "ĭĮıĳĵĸĹĻļĽľĿŀłŅňŉŋŌōŎŏőŔŗŘśŝŞşŠšŢţŤťŧũŪŭŮŰűŲųŴŶŸŹżŽſƀƁƂƅƆƇƊƌƍƎƑƓƔƕƘƚƛƜƟơƢƣƤƨƪƫƬƯƱƲƳƶƸƹƺƽƿǀǁǄǆǇǈǋǍǎǏǒǔǕǖǗǚǛǜǝǡǢǣǦǧǨǫǭǮǯǲǴǵǶǹǻǼǽȀȂȃȄȇȉȊȋȎȐȑȒȕȖȗȚȜȝȞȡȣȤȥȨȩȪȭȮȯȲȴȵȶȷȻȽȾȿɂɃɄɇɈɉɌɍɎɏɒɔɕɖəɛɜɝɠɡɢɥɧɨɩɬɰɲɳɴɷɹɺɻɾʀʁʂʅʇʈʉʌʎʏʐʓʕʖʗʚʜʝʞʟʣʦʧʪʬʭʮʯʰʱʲʳʴʵʸʺʻʼʿˁ˂˃ˆˈˉˊˍˎˏ˒˔˕˖˗˛˝˞˟ˢˣˤ˧˩˪˫ˮ˯˰˳˵˶˷˺˼˽˾̵̶̷̡̢̧̨̛̗̙̞̟̠̥̩̬̮̯̰̳̺̼͈́̂̃̆̇̈̉̌̐̒̓̔̽̾́̓̈́͊͋͌̚ͅ͏͓͖͙͑͒͗ͤͦͧͨͫͭͮͯ͘͟͝͠͡Ͳͳʹͷ͹ͺͻ;Ϳ΀΃΅Ά·Ί΋ΌΏΑΒΓΖΘΙΚΝΟΠΡΤΦΧΨΩέίΰαδεζιλμνπςστχψωόώϏϐϓϕϖϗϚϜϝϞϡϣϤϥϨϩϪϭϯϰϱϴϵ϶ϷϻϼϽЀЁЂЅЇЈЉЌЎЏАГЕЖЗКМНОСТУЦЧШЫЬЭавгдзйклорстхчшщъюѐёђѕії"
#check sts_ "ıŀŏťŴƤǝȷɬʟ˗͙̌ΩϷъ"
#check tree_ "įĿŎŤųƣǜȶɩʞ˖̉͘Ψ϶щї"
#check view_ "ħ"
def tw12625606260486175876:=Prop
def tw13978679468157657108:=Prop
end PySem.W.Fast
open PySem PySem.W PyProof.Rows L2 Sc K22
set_option maxRecDepth 100000 in
set_option maxHeartbeats 0 in
theorem PySem.Challenge.cw_partsmith_k43_widths_holds : PySem.Challenge.rw_partsmith_k43_widths.Holds := by
  w_on; o_law; k_head; (case hw => w_witness2)
  k_fill
  refine K22.walk (l := PySem.Challenge.rw_partsmith_k43_widths) rfl rfl rfl (fun w h Y => PySem.W.kIn_of Y) ?F
  case F =>
    intro w mg h X G
    exact ⟨⟨_,_,_,_,_,_,_,_,_,_,_,_,_,_,_,_,_,_,_,_,_,_,_,_,_,_,_,_,_,_,_,_,_,_,_,_,_,_,_,_,_,_,_,_,_,_,_,_,_,_,_,_,_,_,_,_,_,_,_,_,_,_,_,_,_,_,_,_,_,_,_,_,_,_,_,_,_,_,_,_,_,_,_,_,_,_,_,_,_,_,_,_,_,_,_,_,_,_,_,_,_,_,_,_,_,_,_,_,_,_,_,_,_,_,_,_,_,_,_,_,_,_,_,_,_,_,_,_,_,_,_,_,_,_,_,_,_,_,_,_,_,_,_,_,_,_,_,_,_,_,_,_,_,_,_,_,_,_,_,_,_,_,_,_,_,_,_,_,_,_,_,_,_,_,_,_,_,_,_,_,_,_,_,_,_,_,_,_,_,_,_,_,_,_,_,_,_,_,_,_,_,_,_,_,_,_,_,_,_,_,_,_,_,_,_,_,_,_,_,_,_,_,_,_,_,_,_,_,_,_,_,_,_,_,_,_,_,_, jh X G, jh X G, jh X G, jh X G, jh X G, jh X G, ki X G, jh X G, K3 X G, jh X G, ki X G, ki X G, ki X G, ki X G, ki X G, ki X G, K3 X G, ki X G, jh X G, ki X G, ki X G, ki X G, ki X G, ki X G, ki X G, ki X G, ki X G, ki X G, ki X G, ki X G, ki X G, ki X G, ki X G, ki X G, ki X G, jh X G, jh X G, jh X G, jh X G, jh X G, K3 X G, jh X G, jh X G, jh X G, ki X G, jh X G, jh X G, jh X G, jh X G, jh X G, jh X G, jh X G, jh X G, jh X G, jh X G, K3 X G, jh X G, K3 X G, ki X G, jh X G, jh X G, K3 X G, K3 X G, ki X G, K3 X G, jh X G, jh X G, K3 X G, jh X G, ki X G, ki X G, jh X G, K3 X G, VQ X G, K3 X G, K3 X G, K3 X G, jh X G, jh X G, jh X G, jh X G, ki X G, jh X G, jh X G, K3 X G, VQ X G, VQ X G, VQ X G, jh X G, jh X G, jh X G, K3 X G, ki X G, jh X G, ki X G, ki X G, ki X G, ki X G, ki X G, ki X G, ki X G, ki X G, jh X G, ki X G, ki X G, ua X G, ⟨by k_is,by k_is,by k_is,by k_is⟩, Xz, ua X G, ua X G, ua X G, ua X G, ua X G, ua X G, ua X G, ua X G, ua X G, ua X G, ua X G, ua X G, ua X G, Xw (by k_is), ua X G, ua X G, ua X G, ua X G, ua X G, ua X G, ua X G, ua X G, ua X G, ua X G, ua X G, GI X G, GI X G, GI X G, GI X G, GI X G, GI X G, GI X G, GI X G, GI X G, GI X G, GI X G, GI X G, GI X G, GI X G, GI X G, GI X G, GI X G, GI X G,by k_is, by k_exc, ua X G, ⟨⟨by k_is,by k_is,by k_is,by k_is⟩, Rk, Rk, Rk, Rk, Rk, Rk, Rk, Rk, Rk⟩⟩, ⟨Xd (by k_is) (by rfl) (show List.Nodup [("player" : Str), ("instrument" : Str), ("staff" : Str), ("bar" : Str), ("upbeat" : Str), ("holds" : Str), ("notes" : Str), ("repeat" : Str), ("jump" : Str)] by decide +kernel), Xd (by k_is) (by rfl) (show List.Nodup [("player" : Str), ("instrument" : Str), ("staff" : Str), ("bar" : Str), ("upbeat" : Str), ("holds" : Str), ("notes" : Str), ("repeat" : Str), ("jump" : Str)] by decide +kernel)⟩, fun s v => .of_eq rfl⟩
