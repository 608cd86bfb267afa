import PyProof.Rows.All
import KE.KNestM
import Wide.FinOn
import KE.KItem
import PyProof.EqAt
import PyProof.EqKinds
import PyProof.TupleCall
import PyProof.ZipIter
import PyProof.WalksMore
import PyProof.CompFree
import PyProof.NeKinds
import KE.KRevIter
import PyProof.Rows.Range3
import KE.KIntText
import OpenK.KOwn
import PyProof.NsDelKeeps
import KE.KIsAll
import PyProof.CompMap
import PyProof.Cells
import PyProof.ConsumeWalk
import PyProof.SumWalk
import PyProof.Rows.SortShell
import PyProof.MeetsStr
import PyProof.StrOps2
import PyProof.DictWalks
import PyProof.Rows.SetFrom
import PyProof.SetRoads
import PyProof.ListRange
import PyProof.ListNew
import PyProof.ExcInit
import PyProof.InstStoreFacts
import PyProof.LayNew
import PyProof.MeetsSeq
import PyProof.Draws
import PyProof.EnumMake
import PyProof.ListMulRoad
import PySem.Challenge.RW_partsmith_k14_repeats_and_jumps
local macro_rules|`(tactic|omega)=>`(tactic|lia)
local macro_rules|`(tactic|ext)=>`(tactic|omega)
local macro_rules|`(())=>`(by omega)
local macro_rules|`(∅)=>`(by decide)
local macro_rules|`(↑$s)=>`(($s).heap.objs.size)
local macro_rules|`($a <|> $b)=>`(autoParam $a $b)
local macro_rules (kind:=«term{_}»)|`({$xs,*})=>`(⟨$xs,*⟩)
local macro_rules|`(⇑$x)=>`(($x).length)
def tpt:Nat->Lean.Term->Lean.MacroM (Lean.TSyntax `rcasesPat)
|0,_=>Lean.Macro.throwUnsupported
|n+1,p=>match p with
 |`(⟨$ps,*⟩)=>do let qs<-ps.getElems.mapM (tpt n);`(rcasesPat|⟨$[$qs],*⟩)
 |`($i:ident)=>`(rcasesPat|$i:ident)
 |_=>`(rcasesPat|_)
local macro_rules|`(tactic|let $d:letDecl)=>`(tactic|have $d:letDecl)
local macro_rules|`(tactic|let $p:term:=$v:term)=>do let q<-tpt 9 p;`(tactic|obtain $q:rcasesPat:=$v)
set_option compiler.extract_closed false
set_option Elab.async false
set_option linter.all false
set_option maxRecDepth 100000
set_option maxHeartbeats 8000000
def qa_1(h:True:=by first | exact .inl rfl | exact .inr rfl | assumption):=h
def qa_:=qa_1._auto_1
def qb_1(h:True:=by decide):=h
def qb_:=qb_1._auto_1
def qc_1(h:True:=by first | exact Du _ (by decide) (by decide) | rfl):=h
def qc_:=qc_1._auto_1
def qd_1(h:True:=by intro _;rfl):=h
def qd_:=qd_1._auto_1
def qe_1(h:True:=by rfl):=h
def qe_:=qe_1._auto_1
def qf_1(h:True:=by with_unfolding_all rfl):=h
def qf_:=qf_1._auto_1
def qg_1(h:True:=by first | exact Or.inl rfl | exact Or.inr (Or.inl rfl) | exact Or.inr (Or.inr rfl)):=h
def qg_:=qg_1._auto_1
def qh_1(h:True:=by exact fun _ _=>rfl):=h
def qh_:=qh_1._auto_1
def qi_1(h:True:=by intro vs H Q E h;first | (obtain⟨_,rfl,_⟩:=h;rfl) | (cases h;subst_vars;rfl)):=h
def qi_:=qi_1._auto_1
def qj_1(h:True:=by decide +kernel):=h
def qj_:=qj_1._auto_1
def qk_1(h:True:=by first | exact Or.inl rfl | exact Or.inr rfl):=h
def qk_:=qk_1._auto_1
def ql_1(h:True:=by repeat' (first | exact trivial | exact .inl rfl | exact rfl | constructor)):=h
def ql_:=ql_1._auto_1
def qm_1(h:True:=by k_is):=h
def qm_:=qm_1._auto_1
def qn_1(h:True:=by intros;rfl):=h
def qn_:=qn_1._auto_1
def qo_1(h:True:=by k_exc):=h
def qo_:=qo_1._auto_1
def za:=@List.length_map
def zb:=@List.getElem?_eq_getElem
def zc:=@decide_eq_false
def zd:=@decide_eq_true
def ze:=@List.length_append
def zf:=@List.map_cons
def zg:=@List.map_append
def zh:=@Nat.le_refl
def zj:=@List.mem_cons_of_mem
def zk:=@List.mem_cons_self
def zm:=@Int.emod_lt_of_pos
def zo:=@List.length_cons
def zp:=@Int.emod_nonneg
def zt:=@List.getElem?_eq_some_iff
def zu:=@List.mem_singleton
def zv:=@List.map_map
def zw:=@List.mem_of_getElem?
def zy:=@List.mem_cons
def zz:=@List.not_mem_nil
def zA:=@List.append_assoc
def zB:=@List.mem_append
def zC:=@List.mem_map
def zD:=@List.mem_append_right
def zE:=@List.mem_append_left
def zF:=@List.getElem?_map
def zG:=@Bool.false_ne_true
def zH:=@Nat.le_trans
def zI:=@List.take_length
def zJ:=@Bool.and_eq_true
def zK:=@List.mem_map_of_mem
def zL:=@List.length_take
def zM:=@List.length_range
def zN:=@List.nodup_append
def zO:=@List.pairwise_append
def zP:=@List.append_nil
def zQ:=@List.foldl_append
def zR:=@List.getElem?_append_right
def zS:=@List.size_toArray
def zT:=@Nat.lt_of_lt_of_le
def zU:=@List.nodup_cons
def zV:=@of_decide_eq_true
def zW:=@Nat.lt_irrefl
def zX:=@Nat.zero_le
def zY:=@Nat.le_of_lt
def zZ:=@Nat.ne_of_gt
def z9:=@Nat.ne_of_lt
def ya:=@Option.some.inj
def yb:=@List.getElem_mem
def yc:=@List.map_nil
def yd:=@List.any_eq_true
def ye:=@List.all_eq_true
def yf:=@List.lookup_cons
def yg:=@List.length_pos_iff
def yh:=@List.length_eq_zero_iff
def yi:=@PySem.wpAny_bind
def yj:=@PySem.Heap.get?_push_of_some
def yk:=@PySem.wpAny_pure
def ym:=@PySem.Heap.get?_push_size
def yn:=@PySem.Heap.lt_size
def yo:=@PySem.Heap.get?_update_other
def yp:=@PySem.Heap.get?_update_self
abbrev yq:=PySem.W.Frag
def yr:=@PySem.sizeLine_eq
def yt:=@PySem.F.plainAttrs_list
def yu:=@PySem.F.type_list_append
def yv:=@PySem.F.slot_list_append
def yw:=@PySem.F.plainAttrs_str
def yx:=@PySem.F.type_str_join
def yy:=@PySem.F.slot_str_join
def yz:=@PySem.F.type_str_split
def yA:=@PySem.F.slot_str_split
def yB:=@Int.eq_ofNat_of_zero_le
def yC:=@PyProof.Rows.callWith_type1
def yD:=@if_neg
def yE:=@if_pos
def yF:=@PySem.PassesOwn.never
def yG:=@Array.length_toList
def yH:=@List.mem_range
def yI:=@List.find?_cons
def yJ:=@Bool.false_and
def yK:=@or_false
def yL:=@Bool.true_and
def yM:=@List.zip_cons_cons
def yN:=@List.filter_append
def yO:=@PySem.wpAny_callSpecial?_slot
def yP:=@congrArg
def yQ:=@PySem.wpAny_field
def yR:=@Int.le_of_lt
def yS:=@PySem.wpAny_call_entry
def yT:=@List.pairwise_cons
def yU:=@PySem.wpAny_newObj_type
def yV:=@PySem.wpAny_mono
def yW:=@PySem.wpAny_truthy_bool
def yX:=@List.length_filter_le
def yY:=@Array.getElem?_toList
def yZ:=@PySem.Heap.size_push
def y3:=@PySem.W.kia_one
def y4:=@Option.map_some
def y6:=@List.length_nil
def y7:=@PySem.wpAny_Call_Name_kw
def y8:=@List.any_cons
def y9:=@PySem.wpAny_seqItems
def xa:=@List.take_add_one
def xb:=@List.take_of_length_le
def xc:=@List.map_congr_left
def xg:=@Int.mul_pos
def xh:=@List.length_zip
def xi:=@List.length_drop
def xj:=@beq_eq_false_iff_ne
def xk:=@Nat.lt_trans
def xl:=@Nat.lt_or_ge
def xm:=@PySem.wpAny_holding
def xn:=@PySem.wpAny_setField_rec
def xo:=@PySem.F.slot_zip_next
def xp:=@Bool.eq_iff_iff
def xq:=@Option.some.injEq
def xr:=@PyProof.Rows.slot_tuple_getitem
def xt:=@Nat.lt_succ_self
def xu:=@PyProof.Rows.part_short
def xw:=@PySem.wpAny_typeNameOfWhole_keyiter
def xx:=@PySem.codeAny_mono
def xy:=@List.find?_eq_none
def xA:=@PySem.wpAny_passesOwn
def xB:=@PySem.codeAny_builtin
def xC:=@List.dropLast_concat_getLast
def xD:=@PySem.F.slot_dict_keyiterator_next
def xE:=@PySem.Paired.length
def xF:=@Int.toNat_natCast
def xG:=@Nat.le_succ
def xH:=@List.nodup_nil
def xI:=@Int.mul_nonneg
def xJ:=@PySem.F.slot_tuple_iterator_next
def xK:=@List.all_map
def xM:=@beq_self_eq_true
def xN:=@List.getLast?_eq_getElem?
def xO:=@List.getElem?_append_left
def xP:=@PySem.mem_of_lookup
def xQ:=@if_false
def xR:=@PySem.wpAny_typeNameOf_keyiter
def xS:=@PySem.wpAny_execs_nil
def xT:=@List.of_mem_zip
def xU:=@List.mem_filter
def xV:=@PySem.call_meets
def xW:=@PySem.tupleKind_room_in1
def xX:=@List.lookup_append
def xY:=@PySem.Calls.spliced_cons
def xZ:=@List.any_map
def x6:=@Nat.mul_le_mul
def x8:=@Bool.and_false
def x9:=@PySem.wpAny_pyIter_list
def wa:=@Nat.lt_succ_of_lt
def wb:=@PySem.Calls.callWith_builtin
def wc:=@List.getElem?_eq_none
def wd:=@PySem.typeIs_str
def we:=@List.cons_append
def wg:=@PySem.wpAny_attempt
def wj:=@List.sum_cons
def wk:=@List.all_cons
def wm:=@Sum.inr.inj
def wo:=@PySem.W.hideAll_get
def wq:=@List.filterMap_cons
def wt:=@PySem.Heap.SameBut.update
def wu:=@if_true
def wx:=@PySem.wpAny_typeOf
def wy:=@beq_iff_eq
def wz:=@PySem.W.callWith_K
def wA:=@PySem.Obj.data_mapFields
def wB:=@List.mem_filterMap
def wC:=@Int.fdiv_eq_ediv_of_nonneg
def wD:=@PySem.Calls.spliced_nil
def wF:=@PySem.W.mg_of
abbrev wG:=PySem.Value
abbrev wH:=PySem.Shared
abbrev wI:=PySem.Program
abbrev wJ:=PySem.World
abbrev wK:=PySem.Around
abbrev wL:=PySem.FuncData
abbrev wM:=PySem.Addr
abbrev wN:=PySem.Heap
namespace L2
open PySem PySem.Spec PyProof.Rows
abbrev Key:=Sum Int Str
noncomputable def wW:Key->wG->Bool
 | .inl k,v=>Value.isInt k v
 | .inr x,v=>Value.isStrOf x v
noncomputable def Rk (w:wJ):Key->Int
 | .inl k=>hashInt k
 | .inr x=>hashStr w x
def cj:∀{k:Key} {v:wG},wW k v=true->(∃i t,k=Sum.inl i/\v=Value.int i t)\/(∃x t,k=Sum.inr x/\v=Value.str x t)
 | .inl i,v,h=>by
  let⟨t,e⟩:=Value.isInt_shape (k:=i) (v:=v) h;exact .inl {(i),t,rfl,e}
 | .inr x,v,h=>by
  let⟨t,e⟩:=Value.isStrOf_shape (x:=x) (v:=v) h;exact .inr {(x),t,rfl,e}
def HL (i:Int) (t:Tok):wW (.inl i) (.int i t)=true:=by simp[wW,Value.isInt]
def lK (x:Str) (t:Tok):wW (.inr x) (.str x t)=true:=by simp[wW,Value.isStrOf]
def NV (a b:Int):decide ((Sum.inl a:Key)=Sum.inl b)=(a == b):=by
 by_cases e:a=b
 ·subst e;simp
 ·let h:¬(Sum.inl a:Key)=Sum.inl b:=λq=>e (Sum.inl.inj q)
  rw[zc h];exact(xj.mpr e).symm
def NS (a b:Str):decide ((Sum.inr a:Key)=Sum.inr b)=decide (a=b):=by
 by_cases e:a=b
 ·subst e;simp
 ·let h:¬(Sum.inr a:Key)=Sum.inr b:=λq=>e (wm q)
  rw[zc h,zc e]
def NU (a:Int) (b:Str):decide ((Sum.inl a:Key)=Sum.inr b)=false:=zc (λq=>nomatch q)
def NT (a:Str) (b:Int):decide ((Sum.inr a:Key)=Sum.inl b)=false:=zc (λq=>nomatch q)
noncomputable def b9 (prog:wI) (w:wJ):PySem.KeyKind prog w Key where
 is:=wW
 hash:=Rk w
 inj:=λv a b ha hb=>by
  rcases cj ha with⟨i,t,rfl,rfl⟩ | ⟨x,t,rfl,rfl⟩
  ·rcases cj hb with⟨j,u,rfl,e⟩ | ⟨y,u,rfl,e⟩
   ·injection e with e1 _;rw[e1]
   ·exact nomatch e
  ·rcases cj hb with⟨j,u,rfl,e⟩ | ⟨y,u,rfl,e⟩
   ·exact nomatch e
   ·injection e with e1 _;rw[e1]
 byValue:=λk v h=>by
  rcases cj h with⟨i,t,rfl,rfl⟩ | ⟨x,t,rfl,rfl⟩ <;> rfl
 pyHash:=λhv h=>by
  rcases cj hv with⟨i,t,rfl,rfl⟩ | ⟨x,t,rfl,rfl⟩
  ·exact wpAny_pyHash_int h
  ·exact wpAny_pyHash_str h
 eqBool:=λhu hv h=>by
  rcases cj hu with⟨i,t,rfl,rfl⟩ | ⟨x,t,rfl,rfl⟩
  ·rcases cj hv with⟨j,u,rfl,rfl⟩ | ⟨y,u,rfl,rfl⟩
   ·rw[NV] at h;exact wpAny_eqBool_int h
   ·rw[NU] at h;exact SeqAt.EqAt.int_str i t y u _ _ _ _ h
  ·rcases cj hv with⟨j,u,rfl,rfl⟩ | ⟨y,u,rfl,rfl⟩
   ·rw[NT] at h;exact SeqAt.EqAt.str_int x t j u _ _ _ _ h
   ·rw[NS] at h;exact wpAny_eqBool_str h
 «strs»:=λk x t v h=>by
  rcases cj h with⟨i,u,rfl,e⟩ | ⟨y,u,rfl,e⟩
  ·exact nomatch e
  ·injection e with e1 _
   subst e1;cases v <;> rfl
def DC (prog:wI) (w:wJ) (i:Int) (t:Tok):(b9 prog w).is (.inl i) (.int i t)=true:=HL i t
def pW (prog:wI) (w:wJ) (x:Str) (t:Tok):(b9 prog w).is (.inr x) (.str x t)=true:=lK x t
end L2
namespace L2
open PySem PySem.Spec PyProof.Rows
inductive V where
 | aX | bl (b:Bool) | int (i:Int) | str (x:Str) | G0 (b:Array UInt8) | L6 (b:UInt64) | ref (a:wM) | ty (n:String)
 deriving DecidableEq
def RelV:V->wG->Prop
 | .aX,u=>u=Value.none
 | .bl b,u=>u=Value.bool b
 | .int i,u=>∃t,u=Value.int i t
 | .str x,u=>∃t,u=Value.str x t
 | .G0 b,u=>∃t,u=Value.bytes b t
 | .L6 b,u=>∃t,u=Value.float b t
 | .ref a,u=>u=Value.ref a
 | .ty n,u=>u=Value.type n
abbrev Vals:List V->List wG->Prop:=Paired RelV
theorem Vals.length (r:Vals xs us):⇑xs=⇑us:=xE r
theorem Vals.get:∀{xs:List V} {us:List wG} {i:Nat} {x:V},Vals xs us->xs[i]?=some x->∃u,us[i]?=some u/\RelV x u
 | _,_,_,_,.nil,e=>by simp at e
 | _,_,0,_,.cons r _,e=>by simp at e;subst e;exact{_,rfl,r}
 | _,_,i+1,x,.cons _ t,e=>by
  let⟨u,h1,h2⟩:=Vals.get (i:=i) (x:=x) t (by simpa using e);exact{u,by simpa using h1,h2}
theorem Vals.set {x:V} {u:wG} (r:RelV x u):∀{xs:List V} {us:List wG} (i:Nat),Vals xs us->Vals (xs.set i x) (us.set i u)
 | _,_,_,.nil=>.nil
 | _,_,0,.cons _ t=>.cons r t
 | _,_,i+1,.cons q t=>.cons q (Vals.set r i t)
theorem Vals.append:∀{xs ys:List V} {us ws:List wG},Vals xs us->Vals ys ws->Vals (xs++ys) (us++ws)
 | _,_,_,_,.nil,s=>s
 | _,_,_,_,.cons r t,s=>.cons r (Vals.append t s)
theorem Vals.take:∀{xs:List V} {us:List wG} (n:Nat),Vals xs us->Vals (xs.take n) (us.take n)
 | _,_,0,_=>.nil
 | _,_,_+1,.nil=>.nil
 | _,_,n+1,.cons r t=>.cons r (Vals.take n t)
theorem Vals.drop:∀{xs:List V} {us:List wG} (n:Nat),Vals xs us->Vals (xs.drop n) (us.drop n)
 | _,_,0,r=>r
 | _,_,_+1,.nil=>.nil
 | _,_,n+1,.cons _ t=>Vals.drop n t
def eN:Option V->Option wG->Prop
 | some v,some u=>RelV v u
 | none,none=>True
 | _,_=>False
def KV:List (κ×V)->List (κ×wG)->Prop:=Paired λ(p:κ×V) (q:κ×wG)=>p.1=q.1/\RelV p.2 q.2
noncomputable def kV:Key->V
 | .inl i=>.int i
 | .inr x=>.str x
inductive HO where
 | lst (xs:List V)
 | tup (xs:List V)
 | dK (kvs:List (Key×V)) | dT (kvs:List (List Key×V))
 | set (S:Int->Bool) (n:Nat)
 | ins (C dx:wM) (fs:List (Str×V))
 | own (x:wM)
 | xd (fs:List (Str×V))
 | met (f x:wM)
 | Co (lo hi:Int)
 | kz (o:Obj) (u:HO)
 | IY (ps:Array wG)
 | ext (φ:wN->Prop)
abbrev Hp:=wM->Option HO
noncomputable def upd (H:Hp) (a:wM) (o:HO):Hp:=λb=>if b=a then some o else H b
def aA:upd H a o a=some o:=by unfold upd;rw[yE rfl]
def ar (h:b≠a):upd H a o b=H b:=by unfold upd;rw[yD h]
def aO {H:Hp} {a b:wM} {o u:HO} (h:H a=some o) (h':H b=some u) (d:o≠u):a≠b:=by
 intro e;subst e;rw[h] at h';exact d (ya h')
def aS {H:Hp} {a b:wM} {o:HO} (h:H a=some o) (h':H b=none):a≠b:=by
 intro e;subst e;rw[h] at h';cases h'
section
variable (P:wI) (w:wJ)
def bu (H:Hp) (h:wN) (a:wM):HO->Prop
 | .lst xs=>⇑xs<=sizeLine/\∃(its:List wG) (n:Nat),Vals xs its/\h.get? a=some {cls:=.type "list",data:=.seq its.toArray n}
 | .tup xs=>⇑xs<=sizeLine/\∃its:List wG,Vals xs its/\IsTup h a its.toArray
 | .dK kvs=>⇑kvs<=sizeLine/\(a == sysModules)=false/\∃vs,KV kvs vs/\h.DictOf (b9 P w) a vs
 | .dT kvs=>⇑kvs<=sizeLine/\(a == sysModules)=false/\∃xs:List (List Key×wM×wG),
   Paired (λ(p:List Key×V) (q:List Key×wM×wG)=>p.1=q.1/\H q.2.1=some (.tup (p.1.map kV))/\RelV p.2 q.2.2) kvs xs/\
   ∃o es ep,h.get? a=some o/\o.ExactDict/\o.data=.dict es ep/\es.toList=xs.map (entryOfKey (tupleKind (b9 P w)))/\(xs.map (·.1)).Nodup
 | .set S n=>h.SetOf (intKind P w) a S n
 | .ins C dx fs=>H dx=some (.own a)/\⇑fs<=1000/\dx≠a/\h.get? a=some (PySem.W.instObj C dx)/\
   ∃mA,h.Ns1 dx mA/\(∀f,eN (fs.lookup f) (mA f))/\PySem.Within mA (fs.map (·.1))
 | .own _=>∃o,h.get? a=some o
 | .xd fs=>∃mA,h.Ns1 a mA/\∀f,eN (fs.lookup f) (mA f)
 | .Co lo hi=>∃t u v,h.get? a=some {cls:=.type "range",data:=.fields #[.int lo t,.int hi u,.int 1 v]}
 | .kz o u=>h.get? a=some o/\bu H h a u
 | .IY ps=>h.get? a=some {cls:=.none,data:=.fields ps}
 | .met f x=>h.get? a=some (PySem.W.methodObj (.ref f) (.ref x))
 | .ext φ=>φ h/\(∃o,h.get? a=some o)/\∀h1 h2:wN,φ h1->(∀o,h1.get? a=some o->h2.get? a=some o)->φ h2
def lQ (H:Hp) (h:wN):Prop:=∀a o,H a=some o->bu P w H h a o
end
section
variable {P:wI} {w:wJ} {H H':Hp} {h h':wN} {a:wM} {o:HO}
theorem bu.lt (x:bu P w H h a o):a<h.objs.size:=by
 cases o with
 | lst xs=>let⟨_,_,_,_,e⟩:=x;exact yn e
 | tup xs=>let⟨_,_,_,p⟩:=x;exact p.lt
 | dK kvs=>let⟨_,_,_,_,o,_,_,e,_⟩:=x;exact yn e
 | dT kvs=>let⟨_,_,_,_,o,_,_,e,_⟩:=x;exact yn e
 | set S n=>let⟨o,_,_,_,e,_⟩:=x;exact yn e
 | ins C dx fs=>let⟨_,_,_,e,_⟩:=x;exact yn e
 | own y=>let⟨_,e⟩:=x;exact yn e
 | xd fs=>let⟨_,⟨_,_,_,e,_⟩,_⟩:=x;exact yn e
 | Co lo hi=>let⟨_,_,_,e⟩:=x;exact yn e
 | kz ob u=>let⟨e,_⟩:=x;exact yn e
 | IY ps=>exact yn (show h.get? a=some _ from x)
 | met f y=>exact yn (show h.get? a=some _ from x)
 | ext φ=>let⟨_,⟨_,e⟩,_⟩:=x;exact yn e
theorem Paired.NN:∀{l₁:List α} {l₂:List β},Paired F l₁ l₂->(∀a b,F a b->G a b)->Paired G l₁ l₂
 | _,_,.nil,_=>.nil
 | _,_,.cons r t,f=>.cons (f _ _ r) (Paired.NN t f)
def bu.ik (x:bu P w H h a o) (k:∀b u,(b=a\/H b=some (.own a))->h.get? b=some u->h'.get? b=some u)
  (ho:∀b,H b=some (.own a)->H' b=some (.own a)) (ht:∀b xs,H b=some (.tup xs)->H' b=some (.tup xs)):bu P w H' h' a o:=by
 induction o with
 | lst xs=>let⟨z,its,n,r,e⟩:=x;exact{z,its,n,r,k _ _ (.inl rfl) e}
 | tup xs=>let⟨z,its,r,ob,e,c⟩:=x;exact{z,its,r,ob,k _ _ (.inl rfl) e,c}
 | dK kvs=>let⟨z,y,vs,r,ob,es,ep,e,c⟩:=x;exact{z,y,vs,r,ob,es,ep,k _ _ (.inl rfl) e,c}
 | dT kvs=>
  let⟨z,y,xs,r,ob,es,ep,e,c⟩:=x;exact{z,y,xs,Paired.NN r λp q z=>{z.1,ht _ _ z.2.1,z.2.2},ob,es,ep,k _ _ (.inl rfl) e,c}
 | set S n=>let⟨ob,es,ep,t,e,c⟩:=x;exact{ob,es,ep,t,k _ _ (.inl rfl) e,c}
 | ins C dx fs=>
  let⟨d,z,ne,e,mA,⟨od,es,ep,e2,c⟩,r⟩:=x;exact{ho _ d,z,ne,k _ _ (.inl rfl) e,mA,{od,es,ep,k _ _ (.inr d) e2,c},r}
 | own y=>let⟨ob,e⟩:=x;exact{ob,k _ _ (.inl rfl) e}
 | xd fs=>let⟨mA,⟨od,es,ep,e,c⟩,r⟩:=x;exact{mA,{od,es,ep,k _ _ (.inl rfl) e,c},r}
 | Co lo hi=>let⟨t,u,v,e⟩:=x;exact{t,u,v,k _ _ (.inl rfl) e}
 | kz ob u ih=>let⟨e,q⟩:=x;exact{k _ _ (.inl rfl) e,ih q}
 | IY ps=>
  let e:h.get? a=some {cls:=.none,data:=.fields ps}:=x;show h'.get? a=some {cls:=.none,data:=.fields ps};exact k a _ (.inl rfl) e
 | met f y=>
  let e:h.get? a=some (PySem.W.methodObj (.ref f) (.ref y)):=x;show h'.get? a=some (PySem.W.methodObj (.ref f) (.ref y));exact k a _ (.inl rfl) e
 | ext φ=>let⟨p,⟨o,e⟩,st⟩:=x;exact{st _ _ p λo q=>k _ _ (.inl rfl) q,{o,k _ _ (.inl rfl) e},st}
theorem lQ.lt (x:lQ P w H h) (e:H a=some o):a<h.objs.size:=(x a o e).lt
def lQ.fresh (x:lQ P w H h) (e:h.objs.size<=a):H a=none:=by
 cases q:H a with
 | none=>rfl
 | some u=>exact absurd (zT (x.lt q) e) (zW _)
def lQ.kept (x:lQ P w H h) (k:∀b u,h.get? b=some u->h'.get? b=some u):lQ P w H h':=λa o e=>
 (x a o e).ik (λb u _ q=>k b u q) (λ_ q=>q) λ_ _ q=>q
def lQ.laid (x:lQ P w H h) (k:∀b u,h.get? b=some u->h'.get? b=some u) (hp:h.objs.size<=a) (new:bu P w (upd H a o) h' a o):lQ P w (upd H a o) h':=λb u e=>by
 let hn:=x.fresh hp
 by_cases hb:b=a
 ·subst hb;rw[aA] at e;cases e;exact new
 ·rw[ar hb] at e
  exact(x b u e).ik (λc v _ q=>k c v q) (λc q=>by rw[ar (aS q hn)];exact q) λc xs q=>by rw[ar (aS q hn)];exact q
end
def Rd (H:Hp) (a:wM) (u:HO):Prop:=H a=some u\/∃o,H a=some (.kz o u)
def Rd.ok (r:Rd H a u) (x:lQ P w H h):bu P w H h a u:=by
 rcases r with r | ⟨o,r⟩
 ·exact x a u r
 ·let⟨_,q⟩:=x a _ r
  exact q
def P5:Option HO->Prop
 | some (.lst _)=>True
 | some (.dK _)=>True
 | some (.dT _)=>True
 | some (.set _ _)=>True
 | some (.ins _ _ _)=>True
 | some (.ext _)=>True
 | _=>False
section
variable {P:wI} {w:wJ} {H:Hp} {h h':wN} {x e:wM} {o':HO}
def lQ.write (ok:lQ P w H h) (mu:P5 (H x)) (he:e=x\/H e=some (.own x)) (k:∀b u,b≠e->h.get? b=some u->h'.get? b=some u) (heo:∃u,h'.get? e=some u)
  (new:bu P w (upd H x o') h' x o'):lQ P w (upd H x o') h':=λb u q=>by
 let nown:∀c y,H c=some (.own y)->c≠x:=λc y r z=>by subst z;rw[r] at mu;exact mu
 let ntup:∀c xs,H c=some (.tup xs)->c≠x:=λc xs r z=>by subst z;rw[r] at mu;exact mu
 by_cases hb:b=x
 ·subst hb;rw[aA] at q;cases q;exact new
 ·rw[ar hb] at q
  by_cases hbe:b=e
  ·let q':H b=some (.own x):=by
    rcases he with z | z
    ·exact absurd (hbe.trans z) hb
    ·rw[hbe];exact z
   rw[q] at q';cases q';let⟨v,hv⟩:=heo;exact{v,by rw[hbe];exact hv}
  ·refine(ok b u q).ik (λc v hc r=>k c v ?_ r) (λc r=>by rw[ar (nown c b r)];exact r) λc xs r=>by rw[ar (ntup c xs r)];exact r
   rcases hc with rfl | hc
   ·exact hbe
   ·rintro rfl
    rcases he with z | z
    ·exact nown c b hc z
    ·rw[hc] at z;cases z;exact hb rfl
end
structure Un (fs ex:List wM) (H H':Hp) (h h':wN):Prop where
 keep:∀b o,h.get? b=some o->H b=none->b∉fs->b∉ex->h'.get? b=some o
 slot:∀b o,h.get? b=some o->H b=none->b∈fs->b∉ex->∃sl,h'.get? b=some {o with slots:=sl}
 free:∀b o,h.get? b=some o->H b=none->b∉ex->H' b=none
 there:∀b o,h.get? b=some o->b∉ex->∃o',h'.get? b=some o'
 ko:∀b xs,H b=some (.tup xs)->H' b=some (.tup xs)
 ji:∀b o u,H b=some (.kz o u)->H' b=some (.kz o u)
 kr:∀b ps,H b=some (.IY ps)->∃more,H' b=some (.IY (ps++more))
section
variable {fs fs' ex ex':List wM} {H H1 H2:Hp} {h h1 h2 h':wN} {a x e:wM} {o:HO}
def Un.any (u:Un fs ex H H1 h h1) (q:h.get? b=some ob) (n:H b=none) (hx:b∉ex):∃sl,h1.get? b=some {ob with slots:=sl}:=by
 by_cases hb:b∈fs
 ·exact u.slot b ob q n hb hx
 ·exact{ob.slots,u.keep b ob q n hb hx}
def Un.kept (k:∀b u,h.get? b=some u->h'.get? b=some u):Un fs ex H H h h':=
 {λb ob q _ _ _=>k b ob q,λb ob q _ _ _=>{ob.slots,k b ob q},λ_ _ _ n _=>n,λb ob q _=>{ob,k b ob q},λ_ _ q=>q,λ_ _ _ q=>q,λ_ ps q=>{#[],by rw[q];simp}}
def Un.refl:Un fs ex H H h h:=Un.kept λ_ _ q=>q
def Un.laid (k:∀b u,h.get? b=some u->h'.get? b=some u) (hp:h.objs.size<=a) (hn:H a=none):Un fs ex H (upd H a o) h h' where
 keep:=λb u q _ _ _=>k b u q
 slot:=λb u q _ _ _=>{u.slots,k b u q}
 free:=λb u q n _=>by rw[ar (z9 (zT (yn q) hp))];exact n
 there:=λb u q _=>{u,k b u q}
 ko:=λb xs q=>by rw[ar (aS q hn)];exact q
 ji:=λb u xs q=>by rw[ar (aS q hn)];exact q
 kr:=λb ps q=>{#[],by rw[ar (aS q hn),q];simp}
def Un.write (mu:P5 (H x)) (he:e=x\/H e=some (.own x)) (k:∀b u,b≠e->h.get? b=some u->h'.get? b=some u) (heo:∃u,h'.get? e=some u):Un fs ex H (upd H x o) h h':=by
 let hx:∀b,H b=none->b≠x:=λb n z=>by subst z;rw[n] at mu;exact mu
 let hb:∀b,H b=none->b≠e:=λb n z=>by
  subst z;rcases he with r | r
  ·exact hx b n r
  ·rw[n] at r;cases r
 let hm:∀b u,H b=some u->¬P5 (some u)->b≠x:=λb u q nm z=>by subst z;rw[q] at mu;exact nm mu
 refine{λb u q n _ _=>k b u (hb b n) q,λb u q n _ _=>{u.slots,k b u (hb b n) q},λb u q n _=>by rw[ar (hx b n)];exact n,λb u q _=>?_,
  λb xs q=>by rw[ar (hm b _ q λz=>z)];exact q,λb u xs q=>by rw[ar (hm b _ q λz=>z)];exact q,λb ps q=>{#[],by rw[ar (hm b _ q λz=>z),q];simp}}
 by_cases hbe:b=e
 ·subst hbe;exact heo
 ·exact{u,k b u hbe q}
end
noncomputable def Qg (h:wN) (H:Hp):List wM:=(List.range h.objs.size).filter λa=>(H a).isSome
noncomputable def BA (h:wN) (H:Hp):wN:=PySem.W.hideAll h (Qg h H)
def HQ (h:wN) (H:Hp):(BA h H).objs.size=h.objs.size:=PySem.W.hideAll_size _ _
def J9 (e:h.get? b=some o) (n:H b=none):(BA h H).get? b=some o:=
 wo _ e λhm=>by
  let q:(H b).isSome=true:=(xU.mp hm).2;rw[n] at q;simp at q
def LN (e:(BA h H).get? b=some o):h.get? b=some o/\H b=none:=by
 let e':h.get? b=some o:=PySem.W.of_hideAll (Qg h H) e;refine{e',?_};cases q:H b with
 | none=>rfl
 | some x=>
  let hm:b∈Qg h H:=xU.mpr {yH.mpr (yn e'),by simp[q]};let z:(BA h H).get? b=none:=PySem.W.hideAll_none (Qg h H) hm;rw[z] at e;cases e
end L2
namespace L2
open PySem PySem.Spec PyProof.Rows
structure Mod (K:yq) (mg:Str->Option wG) (base:wN):Prop where
 LW:K.In base
 glob:base.Ns mainGlobals mg
 blt:∃mb,base.Ns builtinsNs mb/\∀x:Str,x≠ "__name__"->mb x=bootBuiltins x
 nolimit:base.NoLimit
set_option genInjectivity false in
structure Cx where
 prog:wI
 w:wJ
 K:yq
 mg:Str->Option wG
 base:wN
 A:wK
 N:List Str
 s₀:wH
 H₀:Hp
 env:Env
 outer:List Env
 stack:List Env
 ex:List wM
 fn:Str->Bool
 calm:Bool
 pn:List (wM×Obj)
 xe:wG->wH->Prop
noncomputable def ic (l:List Env):List wM:=l.filterMap (·.frame)
noncomputable abbrev Cx.fs (X:Cx):List wM:=ic X.outer
def MV (sc:Scope) (x:Str):Prop:=sc.names.lookup x=some .local\/sc.names.lookup x=some .cell\/sc.names.lookup x=some .free
def Loc (sc:Scope) (x:Str):Prop:=sc.names.lookup x=some .local\/sc.names.lookup x=some .cell
def Look (env:Env) (h:wN) (m:Str->Option wG) (x:Str) (u:wG):Prop:=
 (env.kindOf x=some .local/\m x=some u)\/((env.kindOf x=some .cell\/env.kindOf x=some .free)/\∃c,env.cells.lookup x=some c/\h.IsCell c (some u))
structure Cx.Ok (X:Cx):Prop where
 mod:Mod X.K X.mg X.base
 kind:X.env.scope.kind=.function
 glob:X.env.globals=mainGlobals
 blt:X.env.builtins=builtinsNs
 above:X.s₀.heap.objs.size<=X.env.locals
 inj:∀x y c,X.env.cells.lookup x=some c->X.env.cells.lookup y=some c->x=y
 has:∀x,(X.env.kindOf x=some .cell\/X.env.kindOf x=some .free)->∃c,X.env.cells.lookup x=some c
 Ol:∀x c,X.fn x=true->X.env.cells.lookup x=some c->X.s₀.heap.objs.size<=c
 hd:X.calm=true->X.A.handled=none
 frames:X.A.frames=some X.stack
 OH:X.stack=X.outer\/(X.stack=X.env::X.outer/\X.env.frame=some X.env.locals)
 Qj:∀b∈X.ex,b≠X.env.locals/\∀x c,X.env.cells.lookup x=some c->c≠b
 bs:∀b o,X.base.get? b=some o->X.s₀.heap.get? b=some o/\X.H₀ b=none
 IE:X.base.objs.size<=X.s₀.heap.objs.size
 ku:∀b o,X.base.get? b=some o->b∉X.ex
 Fy:∀b∈X.ex,b∉X.fs
 kZ:X.s₀.heap.FunFrames X.base X.outer
 BD:∀b∈X.fs,X.H₀ b=none
structure Inv (X:Cx) (pins:List (wM×Obj)) (σ:List (Option V)) (H:Hp) (s:wH):Prop where
 ok:X.Ok
 os:s.os=X.s₀.os
 bare:AllBare s.gens
 base:Un X.fs X.ex X.H₀ H X.s₀.heap s.heap
 loc:∃m,s.heap.Ns X.env.locals m/\∀(i:Nat) (x:Str) (v:V),X.N[i]?=some x->σ[i]?=some (some v)->MV X.env.scope x->∃u,RelV v u/\Look X.env s.heap m x u
 cell:∀x c,X.env.cells.lookup x=some c->∃v,s.heap.IsCell c v
 free:H X.env.locals=none
 g9:∀x c,X.env.cells.lookup x=some c->H c=none
 pin:∀p∈X.pn++pins,s.heap.get? p.1=some p.2/\H p.1=none/\p.1≠X.env.locals/\p.1∉X.fs/\∀v,p.2.data≠.cell v
 bf:lQ X.prog X.w H s.heap
 len:⇑σ=⇑X.N
section
variable {X:Cx} {pins:List (wM×Obj)} {σ:List (Option V)} {H H':Hp} {s:wH} {h':wN}
def Cx.Ok.Q7 (ok:X.Ok) (e:X.base.get? b=some o):b∉X.fs:=λhb=>by
 have:=(ok.kZ.mem hb).1;rw[e] at this;cases this
theorem Inv.bs (I:Inv X pins σ H s):∀b o,X.base.get? b=some o->s.heap.get? b=some o/\H b=none:=λb o e=>
 {I.base.keep b o (I.ok.bs b o e).1 (I.ok.bs b o e).2 (I.ok.Q7 e) (I.ok.ku b o e),I.base.free b o (I.ok.bs b o e).1 (I.ok.bs b o e).2 (I.ok.ku b o e)}
def Inv.bk (I:Inv X pins σ H s):∀b o,X.base.get? b=some o->s.heap.get? b=some o:=λb o e=>(I.bs b o e).1
theorem Inv.mod (I:Inv X pins σ H s):Mod X.K X.mg X.base:=I.ok.mod
def Inv.iY (I:Inv X pins σ H s):X.K.In s.heap:=I.ok.mod.LW.keeps I.bk
theorem Inv.lt (I:Inv X pins σ H s):X.env.locals<↑s:=let ⟨_,hn,_⟩:=I.loc;hn.lt
def Inv.sz (I:Inv X pins σ H s):X.s₀.heap.objs.size<=↑s:=zH I.ok.above (zY I.lt)
def Inv.Po (I:Inv X pins σ H s) (h:↑s<=a):a∉X.fs:=λhb=>by
 let⟨_,o,ho,_⟩:=I.ok.kZ.mem hb;exact absurd (zT (yn ho) (zH I.sz h)) (zW _)
def Inv.GX (I:Inv X pins σ H s):∀x c,X.env.cells.lookup x=some c->c≠X.env.locals:=λx c e z=>by
 let⟨v,o,ho,hd⟩:=I.cell x c e;let⟨m,⟨o',es,ep,ho',hd',_⟩,_⟩:=I.loc;rw[z,ho'] at ho;cases ho;rw[hd'] at hd;cases hd
theorem Inv.kZ (I:Inv X pins σ H s):s.heap.FunFrames X.base X.outer:=by
 let all:∀(l:List Env),(∀b∈ic l,b∈X.fs)->X.s₀.heap.FunFrames X.base l->s.heap.FunFrames X.base l:=by
  intro l
  induction l with
  | nil=>intro _ _;trivial
  | cons env r ih=>
   intro hs hl;let⟨hk,⟨L,o,hf,hn,ho,hd⟩,hr⟩:=hl;let hL:L∈X.fs:=hs L (by unfold ic;rw[wq,hf];exact zk);let⟨sl,e⟩:=I.base.slot L o ho (I.ok.BD L hL) hL λz=>I.ok.Fy L z hL;exact{hk,{L,_,hf,hn,e,hd},ih (λb hb=>hs b (by unfold ic;rw[wq,hf];exact zj _ hb)) hr}
 exact all X.outer (λ_ hb=>hb) I.ok.kZ
theorem Inv.stack (I:Inv X pins σ H s):s.heap.FunFrames X.base X.stack:=by
 rcases I.ok.OH with e | ⟨e,hf⟩
 ·rw[e];exact I.kZ
 ·rw[e]
  let⟨m,hn,_⟩:=I.loc;refine .cons (by rw[I.ok.kind];decide) hf hn ?_ I.kZ;exact Heap.get?_none_of_le (zH I.ok.IE I.ok.above)
def Inv.AA (I:Inv X pins σ H s):∀b∈ic X.stack,b∈X.env.locals::X.fs:=λb hb=>by
 rcases I.ok.OH with e | ⟨e,hf⟩
 ·rw[e] at hb;exact zj _ hb
 ·rw[e] at hb
  unfold ic at hb;rw[wq,hf] at hb;exact hb
def Inv.jz (I:Inv X pins σ H s):∀b∈ic X.stack,H b=none:=λb hb=>by
 rcases zy.mp (I.AA b hb) with e | hb
 ·rw[e];exact I.free
 ·let⟨_,o,ho,_⟩:=I.ok.kZ.mem hb
  exact I.base.free b o ho (I.ok.BD b hb) λz=>I.ok.Fy b z hb
def Inv.step {g':Array GenState} {t':Nat} {d':Drawn} {ch:List wM} (I:Inv X pins σ H s)
  (hch:∀b∈ch,(b∈X.ex\/X.s₀.heap.objs.size<=b)/\b≠X.env.locals/\(∀x c,X.env.cells.lookup x=some c->c≠b)/\∀p∈X.pn++pins,p.1≠b)
  (keep:∀b o,b≠X.env.locals->b∉X.fs->b∉ch->s.heap.get? b=some o->H b=none->h'.get? b=some o)
  (slot:∀b o,b≠X.env.locals->b∈X.fs->b∉ch->s.heap.get? b=some o->H b=none->∃sl,h'.get? b=some {o with slots:=sl}) (free:∀b o,b∉ch->s.heap.get? b=some o->H b=none->H' b=none)
  (there:∀b o,b∉ch->s.heap.get? b=some o->∃o',h'.get? b=some o')
  (ko:∀b xs,H b=some (.tup xs)->H' b=some (.tup xs)) (ji:∀b o u,H b=some (.kz o u)->H' b=some (.kz o u)) (kr:∀b ps,H b=some (.IY ps)->∃more,H' b=some (.IY (ps++more)))
  (ns:∀m,s.heap.Ns X.env.locals m->h'.Ns X.env.locals m) (bf:lQ X.prog X.w H' h') (hg:AllBare g') :
  Inv X pins σ H' {s with heap:=h',gens:=g',drawn:=d',toks:=t'}:=by
 let neL:∀b o,X.s₀.heap.get? b=some o->b≠X.env.locals:=λb o e=>z9 (zT (yn e) I.ok.above);let neC:∀b o,X.s₀.heap.get? b=some o->b∉X.ex->b∉ch:=λb o e hx hb=>by
  rcases(hch b hb).1 with z | z
  ·exact hx z
  ·exact absurd (zT (yn e) z) (zW _)
 let cellK:∀x c,X.env.cells.lookup x=some c->∀v,s.heap.IsCell c v->h'.IsCell c v:=λx c e v ⟨o,ho,hd⟩=>by
  let nch:c∉ch:=λz=>(hch c z).2.2.1 x c e rfl
  by_cases hc:c∈X.fs
  ·let⟨sl,q⟩:=slot c o (I.GX x c e) hc nch ho (I.g9 x c e)
   exact{_,q,hd}
  ·exact{o,keep c o (I.GX x c e) hc nch ho (I.g9 x c e),hd}
 refine{I.ok,I.os,hg,{λb o e n hb hx=>?_,λb o e n hb hx=>?_,λb o e n hx=>?_,λb o e hx=>?_,λb xs e=>ko b xs (I.base.ko b xs e),λb o xs e=>ji b o xs (I.base.ji b o xs e),λb ps e=>?_},?_,λx c e=>?_,?_,λx c e=>?_,λp hp=>?_,bf,I.len}
 ·exact keep b o (neL b o e) hb (neC b o e hx) (I.base.keep b o e n hb hx) (I.base.free b o e n hx)
 ·let⟨sl,e1⟩:=I.base.slot b o e n hb hx
  let⟨sl',e2⟩:=slot b _ (neL b o e) hb (neC b o e hx) e1 (I.base.free b o e n hx);exact{(sl'),e2}
 ·let⟨o',e1⟩:=I.base.there b o e hx
  exact free b o' (neC b o e hx) e1 (I.base.free b o e n hx)
 ·let⟨o',e1⟩:=I.base.there b o e hx
  exact there b o' (neC b o e hx) e1
 ·let⟨m1,e1⟩:=I.base.kr b ps e
  let⟨m2,e2⟩:=kr b _ e1;exact{m1++m2,by rw[e2,Array.append_assoc]}
 ·let⟨m,hn,hl⟩:=I.loc
  refine{m,ns m hn,λi x v e1 e2 e3=>?_};let⟨u,r,l⟩:=hl i x v e1 e2 e3;refine{u,r,?_};rcases l with l | ⟨k,c,e,z⟩
  ·exact .inl l
  ·exact .inr {k,c,e,cellK x c e _ z}
 ·let⟨v,z⟩:=I.cell x c e
  exact{v,cellK x c e v z}
 ·let⟨m,⟨o,_,_,ho,_⟩,_⟩:=I.loc
  exact free _ o (λz=>(hch _ z).2.1 rfl) ho I.free
 ·let⟨v,o,ho,hd⟩:=I.cell x c e
  exact free c o (λz=>(hch c z).2.2.1 x c e rfl) ho (I.g9 x c e)
 ·let⟨e,n,ne,nf,d⟩:=I.pin p hp
  let nch:p.1∉ch:=λz=>(hch p.1 z).2.2.2 p hp rfl;exact{keep p.1 p.2 ne nf nch e n,free p.1 p.2 nch e n,ne,nf,d}
def Inv.un {t':Nat} (I:Inv X pins σ H s) (u:Un X.fs [] H H' s.heap h') (bf:lQ X.prog X.w H' h'):Inv X pins σ H' {s with heap:=h',toks:=t'}:=by
 let⟨m,⟨o,es,ep,ho,r⟩,_⟩:=id I.loc;let⟨sl,hL⟩:=u.any ho I.free (by simp);exact I.step (g':=s.gens) (d':=s.drawn) (ch:=[]) (λ_ z=>nomatch z) (λb o _ hb _ e n=>u.keep b o e n hb (by simp)) (λb o _ hb _ e n=>u.slot b o e n hb (by simp)) (λb o _ e n=>u.free b o e n (by simp)) (λb o _ e=>u.there b o e (by simp)) u.ko u.ji u.kr (λm' hm=>by
  let⟨o',es',ep',ho',r'⟩:=hm;rw[ho] at ho';cases ho';exact{_,es',ep',hL,r'}) bf I.bare
def Inv.call {g':Array GenState} {t':Nat} {d':Drawn} {ch:List wM} (I:Inv X pins σ H s) (u:Un (ic X.stack) ch H H' s.heap h') (bf:lQ X.prog X.w H' h') (hg:AllBare g')
  (hch:∀b∈ch,(b∈X.ex\/X.s₀.heap.objs.size<=b)/\b≠X.env.locals/\(∀x c,X.env.cells.lookup x=some c->c≠b)/\∀p∈X.pn++pins,p.1≠b) :
  Inv X pins σ H' {s with heap:=h',gens:=g',drawn:=d',toks:=t'}:=by
 let⟨m,⟨o,es,ep,ho,r⟩,_⟩:=id I.loc;let⟨sl,hL⟩:=u.any ho I.free λz=>(hch _ z).2.1 rfl;exact I.step (ch:=ch) hch (λb o hL hb hc e n=>u.keep b o e n (λz=>(zy.mp (I.AA b z)).elim hL hb) hc) (λb o _ _ hc e n=>u.any e n hc) (λb o hc e n=>u.free b o e n hc) (λb o hc e=>u.there b o e hc) u.ko u.ji u.kr (λm' hm=>by
  let⟨o',es',ep',ho',r'⟩:=hm;rw[ho] at ho';cases ho';exact{_,es',ep',hL,r'}) bf hg
def Inv.turned {t':Nat} {it:wM} (I:Inv X pins σ H s) (k:∀b o,b≠it->s.heap.get? b=some o->h'.get? b=some o) (hn:H it=none) (hL:it≠X.env.locals)
  (h1:it∈X.ex\/X.s₀.heap.objs.size<=it) (h2:∀x c,X.env.cells.lookup x=some c->c≠it) (h3:∀p∈X.pn++pins,p.1≠it):Inv X pins σ H {s with heap:=h',toks:=t'}:=by
 let nit:∀b u,H b=some u->b≠it:=λb u e z=>by rw[z,hn] at e;cases e
 refine I.step (g':=s.gens) (d':=s.drawn) (ch:=[it]) (λb hb=>?_) (λb o _ _ hc e _=>k b o (λz=>hc (by simp[z])) e) (λb o _ _ hc e _=>{o.slots,k b o (λz=>hc (by simp[z])) e}) (λ_ _ _ _ n=>n)
  (λb o hc e=>{o,k b o (λz=>hc (by simp[z])) e}) (λ_ _ e=>e) (λ_ _ _ e=>e) (λb ps e=>{#[],by rw[e];simp}) (λm hm=>?_) (λb u e=>?_) I.bare
 ·let e:b=it:=by simpa using hb
  subst e;exact{(h1),hL,h2,h3}
 ·let⟨o,es,ep,ho,r⟩:=hm
  exact{o,es,ep,k _ o (Ne.symm hL) ho,r}
 ·refine(I.bf b u e).ik (λc v hc q=>k c v ?_ q) (λ_ q=>q) λ_ _ q=>q
  rcases hc with z | z
  ·rw[z];exact nit b u e
  ·exact nit c _ z
def Inv.tok (I:Inv X pins σ H s) (t:Nat):Inv X pins σ H {s with toks:=t}:=I.un (h':=s.heap) (t':=t) Un.refl I.bf
theorem Inv.kept (I:Inv X pins σ H s) (k:∀b u,s.heap.get? b=some u->h'.get? b=some u):Inv X pins σ H {s with heap:=h',toks:=t'}:=I.un (Un.kept k) (I.bf.kept k)
theorem Inv.laid (I:Inv X pins σ H s) (k:∀b u,s.heap.get? b=some u->h'.get? b=some u) (hp:↑s<=a) (new:bu X.prog X.w (upd H a o) h' a o) :
  Inv X pins σ (upd H a o) {s with heap:=h',toks:=t'}:=I.un (Un.laid k hp (I.bf.fresh hp)) (I.bf.laid k hp new)
theorem Inv.write (I:Inv X pins σ H s) (mu:P5 (H x)) (he:e=x\/H e=some (.own x)) (k:∀b u,b≠e->s.heap.get? b=some u->h'.get? b=some u) (heo:∃u,h'.get? e=some u)
  (new:bu X.prog X.w (upd H x o) h' x o):Inv X pins σ (upd H x o) {s with heap:=h',toks:=t'}:=I.un (Un.write mu he k heo) (I.bf.write mu he k heo new)
def Inv.lE (I:Inv X pins σ H s) (h:∀p∈pins',s.heap.get? p.1=some p.2/\H p.1=none/\p.1≠X.env.locals/\p.1∉X.fs/\∀v,p.2.data≠.cell v):Inv X pins' σ H s:=
 {I.ok,I.os,I.bare,I.base,I.loc,I.cell,I.free,I.g9,λp hp=>(zB.mp hp).elim (λz=>I.pin p (zE _ z)) (h p),I.bf,I.len}
def sW {N:List Str} (hN:N.Nodup) {i j:Nat} {x:Str} (a:N[i]?=some x) (b:N[j]?=some x):i=j:=by
 let⟨h1,e1⟩:=zt.mp a;let⟨h2,e2⟩:=zt.mp b;exact(List.getElem_inj hN).mp (e1.trans e2.symm)
def vT {M:Model} {A:wK} {E:wG->wH->Prop} {i:Nat} {x:Str} {v:V} {u:wG} {Q:Unit->wH->Prop} (I:Inv X pins σ H s) (hN:X.N.Nodup) (hi:X.N[i]?=some x) (hx:Loc X.env.scope x) (r:RelV v u)
  (h:∀s',Inv X pins (σ.set i (some v)) H s'->(∃a,Heap.SameBut a s.heap s'.heap/\(a=X.env.locals\/X.env.cells.lookup x=some a))->Q .unit s') (hf:X.fn x=true\/X.env.scope.names.lookup x=some .local<|>qa_):wpAny M A (storeName X.env x u) Q E s:=by
 let⟨m,hn,hl⟩:=id I.loc;let hcls:(X.env.scope.kind == .class||(X.env.scope.kind == .module&&X.env.locals != X.env.globals))=false:=by rw[I.ok.kind];rfl
 let hiσ:i<⇑σ:=by rw[I.len];exact(zt.mp hi).1
 let GX:=I.GX;let tracked:∀{a:wM} {h':wN},(∃o,s.heap.get? a=some o/\H a=none)->Heap.SameBut a s.heap h'->lQ X.prog X.w H h':=λ{a h'} ha hs b ob e=>by
  let⟨_,_,hfree⟩:=ha;refine(I.bf b ob e).ik (λc w' hc q=>(hs.2 c ?_).trans q) (λ_ q=>q) λ_ _ q=>q;rintro rfl;rcases hc with rfl | hc
  ·rw[hfree] at e;cases e
  ·rw[hfree] at hc;cases hc
 rcases hx with hk | hk
 ·refine wpAny_storeName_local hk hn (λh' hn' hs=>?_) hcls
  let⟨oL,_,_,hoL,_⟩:=id hn;refine h _ {I.ok,I.os,I.bare,{λb o e n hb hx=>?_,λb o e n hb hx=>?_,I.base.free,λb o e hx=>?_,I.base.ko,I.base.ji,I.base.kr},{_,hn',λj y v' e1 e2 e3=>?_},λy c e=>?_,I.free,I.g9,λp hp=>?_,tracked {(oL),hoL,I.free} hs,by simpa using I.len} {_,hs,.inl rfl}
  ·exact(hs.2 b (z9 (zT (yn e) I.ok.above))).trans (I.base.keep b o e n hb hx)
  ·let⟨sl,e1⟩:=I.base.slot b o e n hb hx
   exact{sl,(hs.2 b (z9 (zT (yn e) I.ok.above))).trans e1}
  ·let⟨o',e1⟩:=I.base.there b o e hx
   exact{o',(hs.2 b (z9 (zT (yn e) I.ok.above))).trans e1}
  ·by_cases hj:j=i
   ·subst hj
    rw[hi] at e1;cases e1;rw[List.getElem?_set_self hiσ] at e2;cases e2;exact{u,r,.inl {hk,by simp}}
   ·rw[List.getElem?_set_ne (Ne.symm hj)] at e2
    let⟨u',r',q⟩:=hl j y v' e1 e2 e3;refine{u',r',?_};rcases q with⟨k,e⟩ | ⟨k,c,e,z⟩
    ·refine .inl {k,?_}
     have:y≠x:=λe=>hj (sW hN e1 (e▸hi));simp[this,e]
    ·exact .inr {k,c,e,z.sameBut hs (GX y c e)}
  ·let⟨w',z⟩:=I.cell y c e
   exact{w',z.sameBut hs (GX y c e)}
  ·let⟨e,n,ne,nf,d⟩:=I.pin p hp
   exact{(hs.2 p.1 ne).trans e,n,ne,nf,d}
 ·let hfn:X.fn x=true:=by
   rcases hf with z | z
   ·exact z
   ·rw[z] at hk;cases hk
  let⟨c,hc⟩:=I.ok.has x (.inl hk);let⟨w',z⟩:=I.cell x c hc;refine wpAny_storeName_cell I.ok.kind hk hc z (λh' hc' hs=>?_);let⟨oc,hoc,hocd⟩:=id z;refine h {s with heap:=h'} {I.ok,I.os,I.bare,{λb o e n hb hx=>?_,λb o e n hb hx=>?_,I.base.free,λb o e hx=>?_,I.base.ko,I.base.ji,I.base.kr},{m,hn.sameBut hs (Ne.symm (GX x c hc)),λj y v' e1 e2 e3=>?_},λy c' e=>?_,I.free,I.g9,λp hp=>?_,tracked {oc,hoc,I.g9 x c hc} hs,by simpa using I.len} {c,hs,.inr hc}
  ·exact(hs.2 b (z9 (zT (yn e) (I.ok.Ol x c hfn hc)))).trans (I.base.keep b o e n hb hx)
  ·let⟨sl,e1⟩:=I.base.slot b o e n hb hx
   exact{sl,(hs.2 b (z9 (zT (yn e) (I.ok.Ol x c hfn hc)))).trans e1}
  ·let⟨o',e1⟩:=I.base.there b o e hx
   exact{o',(hs.2 b (z9 (zT (yn e) (I.ok.Ol x c hfn hc)))).trans e1}
  ·by_cases hj:j=i
   ·subst hj
    rw[hi] at e1;cases e1;rw[List.getElem?_set_self hiσ] at e2;cases e2;exact{u,r,.inr {.inl hk,c,hc,hc'}}
   ·rw[List.getElem?_set_ne (Ne.symm hj)] at e2
    let⟨u',r',q⟩:=hl j y v' e1 e2 e3;refine{u',r',?_};rcases q with q | ⟨k,c',e,z'⟩
    ·exact .inl q
    ·refine .inr {k,c',e,z'.sameBut hs ?_}
     rintro rfl;exact hj (sW hN e1 (I.ok.inj _ _ _ e hc▸hi))
  ·by_cases hcc:c'=c
   ·subst hcc;exact{_,hc'}
   ·let⟨w2,z2⟩:=I.cell y c' e
    exact{w2,z2.sameBut hs hcc}
  ·let⟨e,n,ne,nf,d⟩:=I.pin p hp
   refine{(hs.2 p.1 ?_).trans e,n,ne,nf,d};intro q;rw[q,hoc] at e;let q':oc=p.2:=ya e;exact d w' (by rw[<-q'];exact hocd)
def m7 (I:Inv X pins σ H s) (hN:X.N.Nodup) (hi:X.N[i]?=some x) (hx:Loc X.env.scope x) (r:RelV v u)
  (h:∀s',Inv X pins (σ.set i (some v)) H s'->Q .unit s') (hf:X.fn x=true\/X.env.scope.names.lookup x=some .local<|>qa_):wpAny M A (storeName X.env x u) Q E s:=
 vT I hN hi hx r (λs' I' _=>h s' I') hf
def Inv.GZ (I:Inv X pins σ H s) (ho:s'.os=s.os) (u:Un (ic X.stack) ch H H' s.heap s'.heap) (bf:lQ X.prog X.w H' s'.heap) (hg:AllBare s'.gens)
  (hch:∀b∈ch,(b∈X.ex\/X.s₀.heap.objs.size<=b)/\b≠X.env.locals/\(∀x c,X.env.cells.lookup x=some c->c≠b)/\∀p∈X.pn++pins,p.1≠b):Inv X pins σ H' s':=by
 let⟨h',g',d',t',o'⟩:=s';let e:o'=s.os:=ho;subst e;exact I.call (g':=g') (t':=t') (d':=d') u bf hg hch
end
abbrev XK:=wG->Option wM->Hp->Prop
abbrev St:=List (Option V)
abbrev VK:=V->Hp->Prop
abbrev TE:=St->Hp->VK->Prop
abbrev TT:=St->Hp->(Bool->Hp->Prop)->Prop
abbrev TA:=St->Hp->(List V->Hp->Prop)->Prop
structure Ends where
 nx:St->Hp->Prop
 rt:VK
 bk:St->Hp->Prop:=λ_ _=>False
 ct:St->Hp->Prop:=λ_ _=>False
abbrev TS:=Ends->St->Hp->Prop
def EP (X:Cx) (pins:List (wM×Obj)) (σ:St) (Q:VK) (u:wG) (s':wH):Prop:=∃v H',Inv X pins σ H' s'/\RelV v u/\Q v H'
def TP (X:Cx) (pins:List (wM×Obj)) (σ:St) (Q:Bool->Hp->Prop) (b:Bool) (s':wH):Prop:=∃H',Inv X pins σ H' s'/\Q b H'
def AP (X:Cx) (pins:List (wM×Obj)) (σ:St) (Q:List V->Hp->Prop) (us:List wG) (s':wH):Prop:=∃vs H',Inv X pins σ H' s'/\Vals vs us/\Q vs H'
def SP (X:Cx) (pins:List (wM×Obj)) (D:Ends) (f:Flow) (s':wH):Prop:=
 match f with
 | .next=>∃σ' H',Inv X pins σ' H' s'/\D.nx σ' H'
 | .brk=>∃σ' H',Inv X pins σ' H' s'/\D.bk σ' H'
 | .cont=>∃σ' H',Inv X pins σ' H' s'/\D.ct σ' H'
 | .ret u=>∃v σ' H',Inv X pins σ' H' s'/\RelV v u/\D.rt v H'
def PE (X:Cx) (e:Expr) (t:TE):Prop:=
 ∀(pins:List (wM×Obj)) (s:wH) (σ:St) (H:Hp) (Q:VK),Inv X pins σ H s->t σ H Q->wpAny (model X.prog X.w) X.A (eval e X.env) (EP X pins σ Q) X.xe s
def PT (X:Cx) (e:Expr) (t:TT):Prop:=
 ∀(pins:List (wM×Obj)) (s:wH) (σ:St) (H:Hp) (Q:Bool->Hp->Prop),Inv X pins σ H s->t σ H Q->wpAny (model X.prog X.w) X.A (isTrue e X.env (eval e X.env)) (TP X pins σ Q) X.xe s
def PW (X:Cx) (e:Expr) (t:TT):Prop:=
 ∀(whole:Sem wG) (pins:List (wM×Obj)) (s:wH) (σ:St) (H:Hp) (Q:Bool->Hp->Prop),Inv X pins σ H s->t σ H Q->wpAny (model X.prog X.w) X.A (isTrue e X.env whole) (TP X pins σ Q) X.xe s
def PW.pt (h:PW X e t):PT X e t:=h _
def PA (X:Cx) (es:List Expr) (t:TA):Prop:=
 ∀(pos:Pos) (pins:List (wM×Obj)) (s:wH) (σ:St) (H:Hp) (Q:List V->Hp->Prop),Inv X pins σ H s->t σ H Q->wpAny (model X.prog X.w) X.A (spliced (backTo pos (starEach es X.env))) (AP X pins σ Q) X.xe s
def PS (X:Cx) (st:Stmt) (t:TS):Prop:=
 ∀(pins:List (wM×Obj)) (s:wH) (σ:St) (H:Hp) (D:Ends),Inv X pins σ H s->t D σ H->wpAny (model X.prog X.w) X.A (exec st X.env) (SP X pins D) X.xe s
def vM (X:Cx) (st:List Stmt) (t:TS):Prop:=
 ∀(pins:List (wM×Obj)) (s:wH) (σ:St) (H:Hp) (D:Ends),Inv X pins σ H s->t D σ H->wpAny (model X.prog X.w) X.A (execs st X.env) (SP X pins D) X.xe s
def bR (h:wpAny M A t Q E s) (hQ:∀a s,Q a s->Q' a s):wpAny M A t Q' E s:=yV h hQ λ_ _ x=>x
end L2
namespace L2
open PySem PySem.Spec PyProof.Rows
section
variable {X:Cx}
def aB (i:Nat):TE:=λσ H Q=>∃v,σ[i]?=some (some v)/\Q v H
def tC (v:V):TE:=λ_ H Q=>Q v H
def NK (hN:X.N[i]?=some x) (hv:MV X.env.scope x) (hd:(x == ("__debug__": Str))=false<|>qb_) (hcd:(x == ("__classdict__": Str))=false<|>qb_):PE X (.Name x pos) (aB i):=by
 intro pins s σ H Q I h;let⟨v,e,h⟩:=h;let⟨m,hn,hl⟩:=I.loc;let⟨u,r,l⟩:=hl i x v hN e hv;let fin:EP X pins σ Q u s:={(v),H,I,r,h}
 rcases l with⟨hk,hm⟩ | ⟨hk,c,hc,hcell⟩
 ·exact wpAny_Name (wpAny_loadName_local I.ok.kind hk hn hm fin) hd
 ·rcases hk with hk | hk
  ·exact wpAny_Name (wpAny_loadName_cell I.ok.kind hk hc hcell fin) hd
  ·exact wpAny_Name (wpAny_loadName_free I.ok.kind hk hc hcell fin hcd) hd
def ah:PE X (.Constant (.int i) j pos) (tC (.int i)):=λ_ _ _ H _ I h=>wpAny_Constant_int {.int i,H,I.tok _,{_,rfl},h}
def cP:PE X (.Constant (.bool b) j pos) (tC (.bl b)):=λ_ _ _ H _ I h=>Constant_bool {.bl b,H,I,rfl,h}
def aH:PE X (.Constant .none j pos) (tC .aX):=λ_ _ _ H _ I h=>Constant_none {.aX,H,I,rfl,h}
def aG:PE X (.Constant (.str x) j pos) (tC (.str x)):=λ_ _ _ H _ I h=>Calls.Constant_str {.str x,H,I.tok _,{_,rfl},h}
def Gl (X:Cx) (x:Str):Prop:=X.env.kindOf x=some .globalImplicit
def eD (I:Inv X pins σ H s) (hg:Gl X x) (hm:X.mg x=some u) (h:Q u s)
  (hd:(x == ("__debug__": Str))=false<|>qb_):wpAny (model X.prog X.w) X.A (eval (.Name x pos) X.env) Q E s:=
 Calls.Name_function_global I.ok.kind hg (Calls.loadGlobal_global (by rw[I.ok.glob];exact I.mod.glob.keeps I.bk) hm h) hd
def jK (I:Inv X pins σ H s) (hg:Gl X x) (hm:X.mg x=none) (hv:bootBuiltins x=some u) (h:Q u s)
  (hn:x≠ "__name__"<|>qb_) (hd:(x == ("__debug__": Str))=false<|>qb_):wpAny (model X.prog X.w) X.A (eval (.Name x pos) X.env) Q E s:=by
 let⟨mb,h1,h2⟩:=I.mod.blt;exact Calls.Name_function_global I.ok.kind hg (Calls.loadGlobal_builtin (by rw[I.ok.glob];exact I.mod.glob.keeps I.bk) hm (by rw[I.ok.blt];exact h1.keeps I.bk) ((h2 x hn).trans hv) h) hd
def aU (hg:Gl X x) (hm:X.mg x=some u) (r:RelV v u) (hd:(x == ("__debug__": Str))=false<|>qb_):PE X (.Name x pos) (tC v):=
 λ_ _ _ H _ I h=>eD I hg hm {(v),H,I,r,h} hd
def GB (hg:Gl X x) (hm:X.mg x=none) (hv:bootBuiltins x=some u) (r:RelV v u) (hn:x≠ "__name__"<|>qb_) (hd:(x == ("__debug__": Str))=false<|>qb_):PE X (.Name x pos) (tC v):=
 λ_ _ _ H _ I h=>jK I hg hm hv {(v),H,I,r,h} hn hd
variable {a b:Expr} {ta tb:TE} {pos:Pos}
def PC (X:Cx) (op:CmpOp) (a b:Expr) (t:TE):Prop:=
 ∀(pins:List (wM×Obj)) (s:wH) (σ:St) (H:Hp) (Q:VK),Inv X pins σ H s->t σ H Q->
  wpAny (model X.prog X.w) X.A (eval a X.env) (λv s₁=>wpAny (model X.prog X.w) X.A (eval b X.env) (λu s₂=>wpAny (model X.prog X.w) X.A (compareOp op v u) (EP X pins σ Q) X.xe s₂) X.xe s₁) X.xe s
def Du (b:Expr) (h:op≠.In) (h2:op≠.NotIn):behindInMarks op b=false:=by
 let e1:(op == CmpOp.In)=false:=by cases op <;> first | rfl | exact absurd rfl h
 let e2:(op == CmpOp.NotIn)=false:=by cases op <;> first | rfl | exact absurd rfl h2
 cases b <;> simp[behindInMarks,e1,e2]
def uD (ta:TE):TE:=λσ H Q=>ta σ H λx H1=>Q (.bl (decide (x=.aX))) H1
def IZ (ta:TE):TE:=λσ H Q=>ta σ H λx H1=>Q (.bl (!decide (x=.aX))) H1
def RelV.Ds (r:RelV x v):(v == Value.none)=decide (x=.aX):=by
 cases x with
 | aX=>cases r;rfl
 | bl _=>cases r;rfl
 | int _=>let⟨t,rfl⟩:=r;rfl
 | str _=>let⟨t,rfl⟩:=r;rfl
 | G0 _=>let⟨t,rfl⟩:=r;rfl
 | L6 _=>let⟨t,rfl⟩:=r;rfl
 | ref _=>cases r;rfl
 | ty _=>cases r;rfl
def bx (ha:PE X a ta):PC X .Is a (.Constant .none j pos') (uD ta):=by
 intro pins s σ H Q I h;refine bR (ha pins s σ H _ I h) λv s1 z0=>?_;let⟨x,H1,I1,r1,q1⟩:=z0;exact Constant_none (is_none_gen {.bl _,H1,I1,by rw[r1.Ds];rfl,q1})
def iF (ha:PE X a ta):PC X .IsNot a (.Constant .none j pos') (IZ ta):=by
 intro pins s σ H Q I h;refine bR (ha pins s σ H _ I h) λv s1 z0=>?_;let⟨x,H1,I1,r1,q1⟩:=z0;exact Constant_none (isnot_none_gen {.bl _,H1,I1,by rw[r1.Ds];rfl,q1})
def tB (t:TE):TT:=λσ H Q=>t σ H λx H1=>∃c,x=.bl c/\Q c H1
def iV (h:PC X op a b t) (h1:behindInMarks op b=false<|>qc_):PE X (.Compare a [op] [b] pos) t:=λpins s σ H Q I hw=>wpAny_Compare1 (h pins s σ H Q I hw) h1
def bb (h:PC X op a b t) (h1:behindInMarks op b=false<|>qc_):PT X (.Compare a [op] [b] pos) (tB t):=by
 intro pins s σ H Q I hw;refine wpAny_isTrue_Compare1 (bR (h pins s σ H _ I hw) λv s1 h1=>bR h1 λu s2 h2=>bR h2 λc s3 z0=>?_) h1;let⟨x,H1,I1,r1,q1⟩:=z0;let⟨d,rfl,q⟩:=q1;cases r1;exact yW {(H1),I1,q}
def bt (h:PE X e t) (he:(∀whole,isTrue e X.env whole=(do let v <-whole;standAt e.pos;holding [v] (truthy v)))<|>qd_):PT X e (tB t):=by
 intro pins s σ H Q I hw;refine isTrue_plain (bR (h pins s σ H _ I hw) λv s1 z0=>?_) (he _);let⟨x,H1,I1,r1,q1⟩:=z0;let⟨d,rfl,q⟩:=q1;cases r1;exact yW {(H1),I1,q}
variable {tA tB':TT} {rest:List Expr}
def m5 (t u:TT):TT:=λσ H Q=>t σ H λc H1=>if c=true then u σ H1 Q else Q false H1
def O1 (t u:TT):TT:=λσ H Q=>t σ H λc H1=>if c=true then Q true H1 else u σ H1 Q
def mY (t:TT):TT:=λσ H Q=>t σ H λc H1=>Q (!c) H1
def cz (ha:PT X a tA):PW X (.BoolOp .And [a] pos) tA:=by
 intro wh pins s σ H Q I h;refine isTrue_and (bR (ha pins s σ H Q I h) λc s1 e=>?_);cases c with
 | true=>exact isTrue_and_nil e
 | false=>exact e
def bS (ha:PT X a tA):PW X (.BoolOp .Or [a] pos) tA:=by
 intro wh pins s σ H Q I h;refine isTrue_or (bR (ha pins s σ H Q I h) λc s1 e=>?_);cases c with
 | false=>exact isTrue_or_nil e
 | true=>exact e
def dg (ha:PT X a tA) (hb:PW X (.BoolOp .And (b::rest) pos) tB'):PW X (.BoolOp .And (a::b::rest) pos) (m5 tA tB'):=by
 intro wh pins s σ H Q I h;refine isTrue_and (bR (ha pins s σ H _ I h) λc s1 z0=>?_);let⟨H1,I1,q1⟩:=z0;cases c with
 | true=>exact hb wh pins s1 σ H1 Q I1 q1
 | false=>exact{(H1),I1,q1}
def cy (ha:PT X a tA) (hb:PW X (.BoolOp .Or (b::rest) pos) tB'):PW X (.BoolOp .Or (a::b::rest) pos) (O1 tA tB'):=by
 intro wh pins s σ H Q I h;refine isTrue_or (bR (ha pins s σ H _ I h) λc s1 z0=>?_);let⟨H1,I1,q1⟩:=z0;cases c with
 | true=>exact{(H1),I1,q1}
 | false=>exact hb wh pins s1 σ H1 Q I1 q1
def cp (ha:PT X a tA):PT X (.UnaryOp .Not a pos) (mY tA):=by
 intro pins s σ H Q I h;exact isTrue_not (ha pins s σ H (λc H1=>Q (!c) H1) I h)
def vS (ta tb:TE):TE:=λσ H Q=>ta σ H λx H1=>∃c,x=.bl c/\if c=true then tb σ H1 Q else Q (.bl false) H1
def O0 (ta tb:TE):TE:=λσ H Q=>ta σ H λx H1=>∃c,x=.bl c/\if c=true then Q (.bl true) H1 else tb σ H1 Q
def Mx (ta:TE):TE:=λσ H Q=>ta σ H λx H1=>∃c,x=.bl c/\Q (.bl (!c)) H1
def dB (h:PE X a t):PE X (.BoolOp op [a] pos) t:=λpins s σ H Q I hw=>BoolOp_one (h pins s σ H Q I hw)
def dY (ha:PE X a ta) (hb:PE X (.BoolOp .And (b::rest) pos) tb):PE X (.BoolOp .And (a::b::rest) pos) (vS ta tb):=by
 intro pins s σ H Q I h;refine BoolOp_and (bR (ha pins s σ H _ I h) λv s1 z0=>?_);let⟨x,H1,I1,r1,q1⟩:=z0;let⟨c,rfl,q1⟩:=q1;cases r1;refine yW ?_;cases c with
 | true=>exact hb pins s1 σ H1 Q I1 q1
 | false=>exact{.bl false,H1,I1,rfl,q1}
def C6 (ha:PE X a ta) (hb:PE X (.BoolOp .Or (b::rest) pos) tb):PE X (.BoolOp .Or (a::b::rest) pos) (O0 ta tb):=by
 intro pins s σ H Q I h;refine BoolOp_or (bR (ha pins s σ H _ I h) λv s1 z0=>?_);let⟨x,H1,I1,r1,q1⟩:=z0;let⟨c,rfl,q1⟩:=q1;cases r1;refine yW ?_;cases c with
 | false=>exact hb pins s1 σ H1 Q I1 q1
 | true=>exact{.bl true,H1,I1,rfl,q1}
def JF (ha:PE X a ta):PE X (.UnaryOp .Not a pos) (Mx ta):=by
 intro pins s σ H Q I h;refine UnaryOp_ (bR (ha pins s σ H _ I h) λv s1 z0=>?_);let⟨x,H1,I1,r1,q1⟩:=z0;let⟨c,rfl,q1⟩:=q1;cases r1;exact not_of (yW {.bl (!c),H1,I1,rfl,q1})
def QS (t:TT) (ta tb:TE):TE:=λσ H Q=>t σ H λc H1=>if c=true then ta σ H1 Q else tb σ H1 Q
def C8 (hc:PT X c tA) (ha:PE X a ta) (hb:PE X b tb):PE X (.IfExp c a b pos) (QS tA ta tb):=by
 intro pins s σ H Q I h;refine wpAny_IfExp (bR (hc pins s σ H _ I h) λd s1 z0=>?_);let⟨H1,I1,q1⟩:=z0;cases d with
 | true=>exact ha pins s1 σ H1 Q I1 q1
 | false=>exact hb pins s1 σ H1 Q I1 q1
end
end L2
namespace L2
open PySem PySem.Spec PyProof.Rows
def aE (K:yq) (H:Hp) (a:wM) (xs:List V):Prop:=
 Rd H a (.lst xs)\/
  ∃(o:Obj) (its:Array wG) (n:Nat),K.lookup a=some o/\o.cls=.type "list"/\o.dict=none/\o.data=.seq its n/\its.size<=sizeLine/\Vals xs its.toList
def bK (K:yq) (H:Hp) (a:wM) (xs:List V):Prop:=
 Rd H a (.tup xs)\/
  ∃(o:Obj) (its:Array wG) (n:Nat),K.lookup a=some o/\o.cls=.type "tuple"/\o.data=.seq its n/\its.size<=sizeLine/\Vals xs its.toList
noncomputable def RD:wG->Option V
 | .none=>some .aX
 | .bool b=>some (.bl b)
 | .int i _=>some (.int i)
 | .str x _=>some (.str x)
 | .bytes b _=>some (.G0 b)
 | .float b _=>some (.L6 b)
 | .ref a=>some (.ref a)
 | .type n=>some (.ty n)
 | _=>none
def RelV.abs (r:RelV x u):RD u=some x:=by
 cases x with
 | aX=>cases r;rfl
 | bl _=>cases r;rfl
 | int _=>let⟨t,rfl⟩:=r;rfl
 | str _=>let⟨t,rfl⟩:=r;rfl
 | G0 _=>let⟨t,rfl⟩:=r;rfl
 | L6 _=>let⟨t,rfl⟩:=r;rfl
 | ref _=>cases r;rfl
 | ty _=>cases r;rfl
def RelV.inj (r:RelV x u) (q:RelV y u):x=y:=ya (r.abs.symm.trans q.abs)
theorem Vals.inj:∀{xs ys:List V} {us:List wG},Vals xs us->Vals ys us->xs=ys
 | _,_,_,.nil,k=>by cases k;rfl
 | _,_,_,.cons r t,k=>by
  cases k with
  | cons r' t'=>rw[r.inj r',Vals.inj t t']
section
variable {X:Cx} {pins:List (wM×Obj)} {σ:St} {H:Hp} {s:wH} {a:wM} {xs ys:List V}
def aE.of {K:yq} (h:H a=some (.lst xs)):aE K H a xs:=.inl (.inl h)
def bK.of {K:yq} (h:H a=some (.tup xs)):bK K H a xs:=.inl (.inl h)
def Inv.list (I:Inv X pins σ H s) (h:aE X.K H a xs):∃its:List wG,Vals xs its/\PlainL s.heap a its.toArray/\⇑xs<=sizeLine:=by
 rcases h with h | ⟨o,its,n,hk,hc,hd,hs,hz,r⟩
 ·let⟨z,its,n,r,e⟩:=h.ok I.bf
  exact{its,r,{_,n,e,rfl,rfl,rfl},z}
 ·refine{its.toList,r,{o,n,I.iY a o hk,hc,hd,by simpa using hs},?_}
  let e:=⇑r;simp only[yG] at e;ext
def Inv.tuple (I:Inv X pins σ H s) (h:bK X.K H a xs):∃its:List wG,Vals xs its/\IsTup s.heap a its.toArray/\⇑xs<=sizeLine:=by
 rcases h with h | ⟨o,its,n,hk,hc,hs,hz,r⟩
 ·let⟨z,its,r,p⟩:=h.ok I.bf
  exact{(its),r,p,z}
 ·refine{its.toList,r,{o,I.iY a o hk,hc,n,by simpa using hs},?_}
  let e:=⇑r;simp only[yG] at e;ext
def Inv.sZ (I:Inv X pins σ H s) (h:aE X.K H a xs) (h':aE X.K H a ys):xs=ys:=by
 let⟨its,r,⟨o,n,e,_,_,d⟩,_⟩:=I.list h;let⟨its',r',⟨o',n',e',_,_,d'⟩,_⟩:=I.list h';rw[e] at e';cases e';rw[d] at d';injection d' with d1 _;have:its=its':=by simpa using yP Array.toList d1
 subst this;exact r.inj r'
def Inv.oB (I:Inv X pins σ H s) (h:bK X.K H a xs) (h':bK X.K H a ys):xs=ys:=by
 let⟨its,r,⟨o,e,_,n,d⟩,_⟩:=I.tuple h;let⟨its',r',⟨o',e',_,n',d'⟩,_⟩:=I.tuple h';rw[e] at e';cases e';rw[d] at d';injection d' with d1 _;have:its=its':=by simpa using yP Array.toList d1
 subst this;exact r.inj r'
end
abbrev Cx.lR (X:Cx) (E:wG->wH->Prop):Cx:={X with xe:=E}
abbrev Cx.Cp (X:Cx):Cx:=X.lR λ_ _=>False
theorem Cx.Ok.lR {X:Cx} (ok:X.Ok) (E:wG->wH->Prop):(X.lR E).Ok:=
 {(ok.mod),ok.kind,ok.glob,ok.blt,ok.above,ok.inj,ok.has,ok.Ol,ok.hd,ok.frames,ok.OH,ok.Qj,ok.bs,ok.IE,ok.ku,ok.Fy,ok.kZ,ok.BD}
def Cx.Ok.eP {X:Cx} {E:wG->wH->Prop} (ok:(X.lR E).Ok):X.Ok:=
 {(ok.mod),ok.kind,ok.glob,ok.blt,ok.above,ok.inj,ok.has,ok.Ol,ok.hd,ok.frames,ok.OH,ok.Qj,ok.bs,ok.IE,ok.ku,ok.Fy,ok.kZ,ok.BD}
section
variable {X:Cx} {pins:List (wM×Obj)} {σ:St} {H:Hp} {s:wH} {E:wG->wH->Prop}
theorem Inv.lR (I:Inv X pins σ H s) (E:wG->wH->Prop):Inv (X.lR E) pins σ H s:={I.ok.lR E,I.os,I.bare,I.base,I.loc,I.cell,I.free,I.g9,I.pin,I.bf,I.len}
theorem Inv.eP (I:Inv (X.lR E) pins σ H s):Inv X pins σ H s:={(I.ok.eP),I.os,I.bare,I.base,I.loc,I.cell,I.free,I.g9,I.pin,I.bf,I.len}
theorem SP.eP (h:SP (X.lR E) pins D f s'):SP X pins D f s':=by
 cases f with
 | next=>let⟨σ',H',I,q⟩:=h;exact{σ',H',I.eP,q}
 | brk=>let⟨σ',H',I,q⟩:=h;exact{σ',H',I.eP,q}
 | cont=>let⟨σ',H',I,q⟩:=h;exact{σ',H',I.eP,q}
 | ret u=>let⟨v,σ',H',I,r,q⟩:=h;exact{v,σ',H',I.eP,r,q}
theorem vM.Cp {st:List Stmt} {t:TS} (h:vM X.Cp st t):vM X st t:=λpins s σ H D I hw=>
 yV (h pins s σ H D (I.lR _) hw) (λ_ _ q=>q.eP) λ_ _ z=>False.elim z
end
section
variable {X:Cx} {st:Stmt} {rest:List Stmt} {t u:TS} {e:Expr} {te:TE} {pos:Pos}
def gP:TS:=λD σ H=>D.nx σ H
def dy (t u:TS):TS:=λD σ H=>t {D with nx:=u D} σ H
def ak:vM X [] gP:=λ_ _ σ H _ I h=>xS {σ,H,I,h}
def aa (h1:PS X st t) (h2:vM X rest u):vM X (st::rest) (dy t u):=by
 intro pins s σ H D I h;refine wpAny_execs_cons (bR (h1 pins s σ H {D with nx:=u D} I h) λf s1 q=>?_);cases f with
 | next=>
  let⟨σ',H',I',q⟩:=q;exact h2 pins s1 σ' H' D I' q
 | ret v=>exact q
 | brk=>exact q
 | cont=>exact q
def ai (h1:PS X st t):vM X [st] t:=by
 intro pins s σ H D I h;refine wpAny_execs_cons (bR (h1 pins s σ H D I h) λf s1 q=>?_);cases f with
 | next=>exact xS q
 | ret v=>exact q
 | brk=>exact q
 | cont=>exact q
def Gp:TS:=λD σ H=>D.ct σ H
def C4:PS X (.Continue pos) Gp:=λ_ _ σ H _ I h=>wpAny_Continue {σ,H,I,h}
def Inv.quiet (I:Inv X pins σ H s):interactive X.env=false:=by simp[interactive,I.ok.kind]
def mZ (te:TE):TS:=λD σ H=>te σ H λ_ H1=>D.nx σ H1
def cT (he:PE X e te) (hs:swapsWith e none pos.line X.env=pure false<|>qe_):PS X (.Expr e pos) (mZ te):=by
 intro pins s σ H D I h;refine wpAny_Expr_any (bR (he pins s σ H _ I h) λv s1 z0=>?_) I.quiet hs;let⟨x,H1,I1,r1,q1⟩:=z0;exact{σ,H1,I1,q1}
def Ay (te:TE):TS:=λD σ H=>te σ H D.rt
def aj (he:PE X e te):PS X (.Return (some e) pos) (Ay te):=by
 intro pins s σ H D I h;refine wpAny_Return_some (bR (he pins s σ H _ I h) λv s1 z0=>?_);let⟨x,H1,I1,r1,q1⟩:=z0;exact{x,σ,H1,I1,r1,q1}
def ig (c:TT) (t u:TS):TS:=λD σ H=>c σ H λb H1=>if b=true then t D σ H1 else u D σ H1
def az (hc:PT X c tc) (ha:vM X a t) (hb:vM X b u):PS X (.If c a b pos) (ig tc t u):=by
 intro pins s σ H D I h;refine wpAny_If (bR (hc pins s σ H _ I h) λd s1 z0=>?_);let⟨H1,I1,q1⟩:=z0;cases d with
 | true=>exact ha pins s1 σ H1 D I1 q1
 | false=>exact hb pins s1 σ H1 D I1 q1
end
abbrev TG:=V->St->Hp->(St->Hp->Prop)->Prop
abbrev P1:=List V->St->Hp->(St->Hp->Prop)->Prop
def PG (X:Cx) (target:Expr) (t:TG):Prop:=
 ∀(pins:List (wM×Obj)) (s:wH) (σ:St) (H:Hp) (v:V) (u:wG) (Q:St->Hp->Prop),Inv X pins σ H s->RelV v u->t v σ H Q->
  wpAny (model X.prog X.w) X.A (assign target X.env u) (λ_ s'=>∃σ' H',Inv X pins σ' H' s'/\Q σ' H') X.xe s
def Qn (X:Cx) (ts:List Expr) (t:P1):Prop:=
 ∀(pins:List (wM×Obj)) (s:wH) (σ:St) (H:Hp) (vs:List V) (us:List wG) (Q:St->Hp->Prop),Inv X pins σ H s->Vals vs us->t vs σ H Q->
  wpAny (model X.prog X.w) X.A (assignInOrder ((assignEach ts X.env).map (·.2)) us) (λ_ s'=>∃σ' H',Inv X pins σ' H' s'/\Q σ' H') X.xe s
abbrev Oy:=V->V->V->Hp->(Hp->Prop)->Prop
def P4 (X:Cx) (t:Oy):Prop:=
 ∀(pins:List (wM×Obj)) (s:wH) (σ:St) (H:Hp) (o i v:V) (ov iv u:wG) (Q:Hp->Prop),Inv X pins σ H s->RelV o ov->RelV i iv->RelV v u->t o i v H Q->
  wpAny (model X.prog X.w) X.A (setItem ov iv u) (λ_ s'=>∃H',Inv X pins σ H' s'/\Q H') X.xe s
section
variable {X:Cx} {pos:Pos}
def bj (i:Nat):TG:=λv σ H Q=>Q (σ.set i (some v)) H
def GA (hN:X.N.Nodup) (hi:X.N[i]?=some x) (hx:Loc X.env.scope x) (hf:X.fn x=true\/X.env.scope.names.lookup x=some .local<|>qa_):PG X (.Name x pos) (bj i):=by
 intro pins s σ H v u Q I r h;exact wpAny_assign_Name (m7 I hN hi hx r (λs' I'=>{_,H,I',h}) hf)
def L5:P1:=λvs σ H Q=>vs=[]/\Q σ H
def tq (t:TG) (u:P1):P1:=λvs σ H Q=>∃v r,vs=v::r/\t v σ H λσ' H'=>u r σ' H' Q
def dN:Qn X [] L5:=by
 intro pins s σ H vs us Q I r h;let⟨e,h⟩:=h;subst e;cases r;exact assignInOrder_nil {σ,H,I,h}
def aK (h1:PG X e t) (h2:Qn X es u)
  (hs:(assignEach (e::es) X.env).map (·.2)=assign e X.env::(assignEach es X.env).map (·.2)<|>qe_):Qn X (e::es) (tq t u):=by
 intro pins s σ H vs us Q I r h;let⟨v,vr,e1,h⟩:=h;subst e1;cases r with
 | cons r rr=>
  rw[hs];refine assignInOrder_cons (bR (h1 pins s σ H _ _ _ I r h) λ_ s1 z0=>?_);let⟨σ1,H1,I1,q1⟩:=z0;exact h2 pins s1 σ1 H1 _ _ Q I1 rr q1
def L4 (K:yq) (n:Nat) (t:P1):TG:=λv σ H Q=>∃a xs,v=.ref a/\bK K H a xs/\⇑xs=n/\t xs σ H Q
def fB (hc:X.calm=true) (h:Qn X es t)
  (hn:⇑(assignEach es X.env)=n<|>qe_) (hst:(assignEach es X.env).findIdx? (·.1)=none<|>qe_):PG X (.Tuple es k pos) (L4 X.K n t):=by
 intro pins s σ H v u Q I r hw;let⟨a,xs,e1,hq,hl,hw⟩:=hw;subst e1;cases r;let⟨its,rv,ht,hz⟩:=I.tuple hq;refine assign_Tuple_tuple (I.ok.hd hc) ht (by simp[hn,<-hl,⇑rv]) hst λh' hx=>?_;let I1:Inv X pins σ H {s with heap:=h'}:=I.kept (t':=s.toks) λb o e=>hx b o (z9 (yn e)) e;exact h pins _ σ H xs _ Q I1 (by simpa using rv) hw
def Ke (to ti:TE) (t:Oy):TG:=λv σ H Q=>to σ H λo H1=>ti σ H1 λi H2=>t o i v H2 λH3=>Q σ H3
def NJ {o i:Expr} {to ti:TE} {t:Oy} (ho:PE X o to) (hi:PE X i ti) (hs:P4 X t)
  (ha:(∀v,assign (.Subscript o i pos) X.env v=(do
   let ov <-holding [v] (eval o X.env)
   let iv <-holding [v,ov] (eval i X.env)
   standAt pos
   holding [v,ov,iv] (setItem ov iv v)
   release [v,ov,iv] []))<|>qd_):PG X (.Subscript o i pos) (Ke to ti t):=by
 intro pins s σ H v u Q I r h;rw[ha];refine yi (xm (bR (ho pins s σ H _ I h) λov s1 z0=>?_));let⟨x,H1,I1,r1,q1⟩:=z0;refine yi (xm (bR (hi pins s1 σ H1 _ I1 q1) λiv s2 z0=>?_));let⟨y,H2,I2,r2,q2⟩:=z0;refine yi (wpAny_standAt (yi (xm (bR (hs pins s2 σ H2 x y v ov iv u _ I2 r1 r2 r q2) λ_ s3 z0=>?_))));let⟨H3,I3,q3⟩:=z0;exact wpAny_release {σ,H3,I3,q3}
def cR (te:TE) (g:TG):TS:=λD σ H=>te σ H λx H1=>g x σ H1 D.nx
def A9 {tg e:Expr} {te:TE} {g:TG} (he:PE X e te) (hg:PG X tg g) (hs:swapsWithSole [tg] e pos.line X.env=pure false<|>qe_) (hw:swappedStores [tg] e X.env=pure none<|>qe_)
  (h1:(assignEach [tg] X.env).map (·.2)=[assign tg X.env]<|>qe_):PS X (.Assign [tg] e pos) (cR te g):=by
 intro pins s σ H D I h;refine wpAny_Assign_stores (bR (he pins s σ H _ I h) λv s1 z0=>?_) hs hw;let⟨x,H1,I1,r1,q1⟩:=z0;rw[h1];exact bR (hg pins s1 σ H1 x v _ I1 r1 q1) λ_ s2 q=>q
def NG (hN:X.N.Nodup) (hi:X.N[i]?=some x) (hx:Loc X.env.scope x) (he:PE X e te) (hs:swapsWith e (some (.Name x pos')) pos.line X.env=pure false<|>qe_) (hf:X.fn x=true\/X.env.scope.names.lookup x=some .local<|>qa_) :
  PS X (.Assign [.Name x pos'] e pos) (cR te (bj i)):=by
 intro pins s σ H D I h;refine wpAny_Assign_Name (bR (he pins s σ H _ I h) λv s1 z0=>?_) hs;let⟨y,H1,I1,r1,q1⟩:=z0;exact m7 I1 hN hi hx r1 (λs2 I2=>{_,H1,I2,q1}) hf
end
section
variable {X:Cx} {pos:Pos}
def Nc (c:TT) (tb:TS):TS:=λD σ H=>∃W:Nat->St->Hp->Prop,(∃m,W m σ H)/\∀m σ H,W m σ H->
 c σ H λb H1=>if b=true then∃N:St->Hp->Prop,(∀σ' H',N σ' H'->∃m',m'<m/\W m' σ' H')/\tb {D with nx:=N,ct:=N,bk:=D.nx} σ H1 else D.nx σ H1
def Jz (hp:PassesOwn (model X.prog X.w) X.A X.env X.xe) (hc:PT X c tc) (hb:vM X body tb):PS X (.While c body [] pos) (Nc tc tb):=by
 intro pins s σ H D I h;let⟨W,⟨m0,w0⟩,turn⟩:=h;refine wpAny_While (codeAny_whileLoop (λn s'=>∃σ' H',Inv X pins σ' H' s'/\W n σ' H') ?_ m0 {σ,H,I,w0});rintro n s1 ⟨σ1,H1,I1,w1⟩;refine xA hp (bR (hc pins s1 σ1 H1 _ I1 (turn n σ1 H1 w1)) λb s2 z0=>?_);let⟨H2,I2,q2⟩:=z0;cases b with
 | true=>
  let⟨N,hN,q2⟩:=q2;rw[yE rfl];refine xA hp (bR (hb pins s2 σ1 H2 _ I2 q2) λf s3 q3=>?_);cases f with
  | next=>
   let⟨σ3,H3,I3,n3⟩:=q3;let⟨m',hm,w3⟩:=hN σ3 H3 n3;exact{m',hm,σ3,H3,I3,w3}
  | cont=>
   let⟨σ3,H3,I3,n3⟩:=q3;let⟨m',hm,w3⟩:=hN σ3 H3 n3;exact{m',hm,σ3,H3,I3,w3}
  | brk=>exact q3
  | ret v=>exact q3
 | false=>
  rw[yD zG];exact xS {σ1,H2,I2,q2}
end
structure It where
 go:Nat->Hp->Prop
 Gg:Nat->Hp->V->Hp->Prop
 stop:Nat->Hp->Prop
def vN (X:Cx) (pins:List (wM×Obj)) (H:Hp) (b:wM):Prop:=
 H b=none/\b≠X.env.locals/\b∉X.fs/\(b∈X.ex\/X.s₀.heap.objs.size<=b)/\(∀x c,X.env.cells.lookup x=some c->c≠b)/\∀p∈X.pn++pins,p.1≠b
def Inv.tw (I:Inv X pins σ H s) (hb:↑s<=b) (hn:H' b=none):vN X pins H' b:=by
 refine{hn,zZ (zT I.lt hb),I.Po hb,.inr (zH I.sz hb),λx c e z=>?_,λp hp z=>?_}
 ·let⟨v,q⟩:=I.cell x c e
  exact absurd (zT q.lt (by rw[z];exact hb)) (zW _)
 ·exact absurd (zT (yn (I.pin p hp).1) (by rw[z];exact hb)) (zW _)
structure Turn (P:wI) (w:wJ) (K:yq) (tg:Expr) (J:It) (fp:List wM) (it:wM) (tn:Nat->wN->Prop):Prop where
 mem:it∈fp
 obj:∀i h,tn i h->∀b∈fp,∃o,h.get? b=some o/\∀v,o.data≠.cell v
 keep:∀i h h',tn i h->(∀b∈fp,∀o,h.get? b=some o->h'.get? b=some o)->tn i h'
 item:∀(X:Cx),X.prog=P->X.w=w->X.K=K->X.calm=true->∀(i:Nat) (pins:List (wM×Obj)) (s:wH) (σ:St) (H:Hp) (E:wG->wH->Prop),Inv X pins σ H s->(∀b∈fp,vN X pins H b)->tn i s.heap->J.go i H->
  wpAny (model P w) X.A (pyNext (.ref it)) (λr s1=>∃u,r=some u/\
   wpAny (model P w) X.A (letOwnedTupleGo tg (.ref it) u) (λ_ s2=>∃x H',Inv X pins σ H' s2/\RelV x u/\J.Gg i H x H'/\tn (i+1) s2.heap/\∀b∈fp,H' b=none) E s1) E s
 done:∀(X:Cx),X.prog=P->X.w=w->X.K=K->X.calm=true->∀(i:Nat) (pins:List (wM×Obj)) (s:wH) (σ:St) (H:Hp) (E:wG->wH->Prop),Inv X pins σ H s->(∀b∈fp,vN X pins H b)->tn i s.heap->J.stop i H->
  wpAny (model P w) X.A (pyNext (.ref it)) (λr s1=>r=none/\Inv X pins σ H s1) E s
 self:∀(A:wK) (i:Nat) (s:wH) (Q:wG->wH->Prop) (E:wG->wH->Prop),tn i s.heap->Q (.ref it) s->wpAny (model P w) A (pyIter (.ref it)) Q E s
abbrev TI:=St->Hp->(It->Hp->Prop)->Prop
def RS (X:Cx) (pins:List (wM×Obj)) (σ:St) (tg:Expr) (R:It->Hp->Prop) (itv:wG) (s2:wH):Prop:=
 ∃(it:wM) (fp:List wM) (tn:Nat->wN->Prop) (J:It) (H':Hp),itv=.ref it/\Inv X pins σ H' s2/\Turn X.prog X.w X.K tg J fp it tn/\tn 0 s2.heap/\(∀b∈fp,vN X pins H' b)/\R J H'
def PI (X:Cx) (tg iter:Expr) (wi:TI):Prop:=
 ∀(pins:List (wM×Obj)) (s:wH) (σ:St) (H:Hp) (R:It->Hp->Prop),Inv X pins σ H s->wi σ H R->
  wpAny (model X.prog X.w) X.A (eval iter X.env) (λv s1=>wpAny (model X.prog X.w) X.A (pyIter v) (RS X pins σ tg R) X.xe s1) X.xe s
def Aa (ho:s.heap.get? it=some o) (hc:o.cls=.type n) (hd:o.data=.fields vs)
    (hn:["enumerate","zip","dict_itemiterator","dict_reverseitemiterator","odict_iterator","itertools.zip_longest","itertools.pairwise"].contains n=false) (hQ:Q .unit s):wpAny M A (letOwnedTupleGo tg (.ref it) u) Q E s:=by
  unfold letOwnedTupleGo;cases tg <;> first
    | exact yk hQ
    | (cases u <;> first
        | exact yk hQ
        | (refine yi (wpAny_load ho ?_)
           rw[hc,hd];show wpAny M A (if(["enumerate","zip","dict_itemiterator","dict_reverseitemiterator","odict_iterator","itertools.zip_longest","itertools.pairwise"].contains n&&vs[0]? == some (rawInt _))=true then _ else _) Q E s;rw[yD (by intro h;rw[hn,yJ] at h;cases h)];exact yk hQ))
noncomputable def K0 (K:yq) (a:wM):It:=
 {λi H=>∃xs x,aE K H a xs/\xs[i]?=some x,λi H x H'=>H'=H/\∀xs,aE K H a xs->xs[i]?=some x,λi H=>∃xs,aE K H a xs/\⇑xs<=i}
noncomputable def MX (K:yq) (a:wM):It:=
 {λi H=>∃xs x,bK K H a xs/\xs[i]?=some x,λi H x H'=>H'=H/\∀xs,bK K H a xs->xs[i]?=some x,λi H=>∃xs,bK K H a xs/\⇑xs<=i}
noncomputable def KZ (lo:Int) (n:Nat):It:={λi _=>i<n,λi H x H'=>H'=H/\x=.int (lo+i),λi _=>n<=i}
def Hg {P:wI} {w:wJ} {K:yq} {tg:Expr} (a it:wM):Turn P w K tg (K0 K a) [it] it (λi h=>h.IsListIter it a i) where
 mem:=by simp
 obj:=λi h st b hb=>by
  let e:b=it:=by simpa using hb
  subst e;let⟨o,e,c,d⟩:=st;exact{o,e,λv z=>by rw[d] at z;cases z}
 keep:=λi h h' st k=>st.at λo e=>k it (by simp) o e
 item:=by
  intro X hP hw hK hc i pins s σ H E I hf st hg;subst hP hw hK;let⟨xs,x,hq,hx⟩:=hg;let⟨its,rv,p,hz⟩:=I.list hq;let⟨u,hu,ru⟩:=rv.get hx;let⟨f0,f1,f2,f3,f4,f5⟩:=hf it (by simp);refine wpAny_pyNext_list_item st p.isList (x:=u) (by simpa using hu) λh' st' sb=>?_;let I1:Inv X pins σ H {s with heap:=h'}:=I.turned (t':=s.toks) (λb o hb e=>(sb.2 b hb).trans e) f0 f1 f3 f4 f5;let⟨o,e,c,d⟩:=id st';exact{u,rfl,Aa (s:={s with heap:=h'}) e c d ∅ {x,H,I1,ru,{rfl,λys hy=>by rw[I.sZ hy hq];exact hx},st',λb hb=>(hf b hb).1}}
 done:=by
  intro X hP hw hK hc i pins s σ H E I hf st hg;subst hP hw hK;let⟨xs,hq,hx⟩:=hg;let⟨its,rv,p,hz⟩:=I.list hq;let⟨f0,f1,f2,f3,f4,f5⟩:=hf it (by simp);let hl:=⇑rv;exact wpAny_pyNext_list_end (I.ok.hd hc) st p.isList (by simp;ext) λh' eb=>{rfl,I.turned (t':=s.toks) (λb o hb e=>eb b o hb e) f0 f1 f3 f4 f5}
 self:=λ_ _ _ _ _ st h=>wpAny_pyIter_listiter st h
def EG {P:wI} {w:wJ} {K:yq} {tg:Expr} (a it:wM):Turn P w K tg (MX K a) [it] it (λi h=>h.IsTupleIter it a i) where
 mem:=by simp
 obj:=λi h st b hb=>by
  let e:b=it:=by simpa using hb
  subst e;let⟨o,e,c,d⟩:=st;exact{o,e,λv z=>by rw[d] at z;cases z}
 keep:=λi h h' st k=>st.at λo e=>k it (by simp) o e
 item:=by
  intro X hP hw hK hc i pins s σ H E I hf st hg;subst hP hw hK;let⟨xs,x,hq,hx⟩:=hg;let⟨its,rv,p,hz⟩:=I.tuple hq;let⟨u,hu,ru⟩:=rv.get hx;let⟨f0,f1,f2,f3,f4,f5⟩:=hf it (by simp);refine wpAny_pyNext_tuple_item st (show s.heap.IsTuple a its.toArray from p) (x:=u) (by simpa using hu) λh' st' sb=>?_;let I1:Inv X pins σ H {s with heap:=h'}:=I.turned (t':=s.toks) (λb o hb e=>(sb.2 b hb).trans e) f0 f1 f3 f4 f5;let⟨o,e,c,d⟩:=id st';exact{u,rfl,Aa (s:={s with heap:=h'}) e c d ∅ {x,H,I1,ru,{rfl,λys hy=>by rw[I.oB hy hq];exact hx},st',λb hb=>(hf b hb).1}}
 done:=by
  intro X hP hw hK hc i pins s σ H E I hf st hg;subst hP hw hK;let⟨xs,hq,hx⟩:=hg;let⟨its,rv,p,hz⟩:=I.tuple hq;let⟨f0,f1,f2,f3,f4,f5⟩:=hf it (by simp);let hl:=⇑rv;exact wpAny_pyNext_tuple_end (I.ok.hd hc) st (show s.heap.IsTuple a its.toArray from p) (by simp;ext) λh' eb=>{rfl,I.turned (t':=s.toks) (λb o hb e=>eb b o hb e) f0 f1 f3 f4 f5}
 self:=λ_ _ _ _ _ st h=>wpAny_pyIter_tupleiter st h
def EH {P:wI} {w:wJ} {K:yq} {tg:Expr} (it:wM) (lo:Int) (n:Nat):Turn P w K tg (KZ lo n) [it] it (λi h=>IsRangeIter h it (lo+(i:Nat)*1) ((n:Int)-(i:Nat)) 1) where
 mem:=by simp
 obj:=λi h st b hb=>by
  let e:b=it:=by simpa using hb
  subst e;exact{_,st,λv z=>by
   let z':Data.fields _=Data.cell v:=z;cases z'}
 keep:=λi h h' st k=>k it (by simp) _ st
 item:=by
  intro X hP hw hK hc i pins s σ H E I hf st hg;subst hP hw hK;let⟨f0,f1,f2,f3,f4,f5⟩:=hf it (by simp);let W:=Walks.range (prog:=X.prog) (w:=X.w) (I.ok.hd hc) it lo 1 n;refine W.item i s _ _ hg st λv h' tk hv st' kk=>?_;let⟨t,rfl⟩:=hv;let I1:Inv X pins σ H {s with heap:=h',toks:=tk}:=I.turned (λb o hb e=>kk b o (by simpa using hb) e) f0 f1 f3 f4 f5;refine{_,rfl,Aa (s:={s with heap:=h',toks:=tk}) (n:="range_iterator") st' rfl rfl ∅ {.int (lo+i),H,I1,{t,?_},{(rfl),rfl},st',λb hb=>(hf b hb).1}};rw[Int.mul_one]
 done:=by
  intro X hP hw hK hc i pins s σ H E I hf st hg;subst hP hw hK;let⟨f0,f1,f2,f3,f4,f5⟩:=hf it (by simp);exact wpAny_pyNext_range_end (I.ok.hd hc) st (by have:n<=i:=hg;ext) λh' eb=>{rfl,I.turned (t':=s.toks) (λb o hb e=>eb b o hb e) f0 f1 f3 f4 f5}
 self:=λ_ _ _ _ _ st h=>wpAny_pyIter_rangeiter st h
end L2
namespace L2
open PySem PySem.Spec PyProof.Rows
section
variable {X:Cx} {tg:Expr}
def J8 (K:yq) (tl:TE):TI:=λσ H R=>tl σ H λx H1=>∃a,x=.ref a/\(∃xs,aE K H1 a xs)/\R (K0 K a) H1
def Ro (K:yq) (tl:TE):TI:=λσ H R=>tl σ H λx H1=>∃a,x=.ref a/\(∃xs,bK K H1 a xs)/\R (MX K a) H1
def b7 {l:Expr} {tl:TE} (hl:PE X l tl):PI X tg l (J8 X.K tl):=by
 intro pins s σ H R I h;refine bR (hl pins s σ H _ I h) λv s1 z0=>?_;let⟨x,H1,I1,r1,q1⟩:=z0;let⟨a,e,⟨xs,hq⟩,q⟩:=q1;subst e;cases r1;let⟨its,rv,p,hz⟩:=I1.list hq;refine x9 p.isList ?_;refine{↑s1,[↑s1],_,_,H1,rfl,I1.kept (t':=s1.toks) λb o e=>yj _ e,Hg a _,{_,ym _ rfl,rfl,rfl},λb hb=>?_,q};let e:b=↑s1:=by simpa using hb
 subst e;exact I1.tw (zh _) (I1.bf.fresh (zh _))
def eY {l:Expr} {tl:TE} (hl:PE X l tl):PI X tg l (Ro X.K tl):=by
 intro pins s σ H R I h;refine bR (hl pins s σ H _ I h) λv s1 z0=>?_;let⟨x,H1,I1,r1,q1⟩:=z0;let⟨a,e,⟨xs,hq⟩,q⟩:=q1;subst e;cases r1;let⟨its,rv,p,hz⟩:=I1.tuple hq;refine wpAny_pyIter_tuple (show s1.heap.IsTuple a its.toArray from p) ?_;refine{↑s1,[↑s1],_,_,H1,rfl,I1.kept (t':=s1.toks) λb o e=>yj _ e,EG a _,{_,ym _ rfl,rfl,rfl},λb hb=>?_,q};let e:b=↑s1:=by simpa using hb
 subst e;exact I1.tw (zh _) (I1.bf.fresh (zh _))
def Jv {pins:List (wM×Obj)} {σ:St} {H:Hp} {s:wH} {R:It->Hp->Prop} {E:wG->wH->Prop} {lo hi:Int} {t u v:Tok} {tk:Nat} (I:Inv X pins σ H s) (h1:-(2^62)<=lo) (h2:lo<2^62) (h3:-(2^62)<=hi) (h4:hi<2^62)
  (q:R (KZ lo (hi-lo).toNat) H):wpAny (model X.prog X.w) X.A (pyIter (.ref ↑s)) (RS X pins σ tg R) E {s with heap:=s.heap.push {cls:=.type "range",data:=.fields #[.int lo t,.int hi u,.int 1 v]},toks:=tk}:=by
 refine wpAny_pyIter_range (IsRange.new ..) (small_one h1 h2 h3 h4) ?_;let I1:Inv X pins σ H {s with heap:=s.heap.push {cls:=.type "range",data:=.fields #[.int lo t,.int hi u,.int 1 v]},toks:=tk}:=I.kept λb o e=>yj _ e;refine{(s.heap.push {cls:=.type "range",data:=.fields #[.int lo t,.int hi u,.int 1 v]}).objs.size,[(s.heap.push {cls:=.type "range",data:=.fields #[.int lo t,.int hi u,.int 1 v]}).objs.size],_,_,H,rfl,
  I1.kept (t':=tk) λb o e=>yj _ e,EH _ lo (hi-lo).toNat,?_,λb hb=>?_,q}
 ·let e1:lo+((0:Nat):Int)*1=lo:=by simp
  let e2:(((hi-lo).toNat:Nat):Int)-((0:Nat):Int)=Builtin.Range.rangeSize lo hi 1:=by rw[rangeSize_one];split <;> ext
  show IsRangeIter _ _ (lo+((0:Nat):Int)*1) ((((hi-lo).toNat:Nat):Int)-((0:Nat):Int)) 1;rw[e1,e2];exact ym _ rfl
 ·let e:b=(s.heap.push {cls:=.type "range",data:=.fields #[.int lo t,.int hi u,.int 1 v]}).objs.size:=by simpa using hb
  subst e;exact I1.tw (zh _) (I1.bf.fresh (zh _))
def J7 (ta:TA):TI:=λσ H R=>ta σ H λvs H1=>∃j:Int,vs=[.int j]/\-(2^62)<=j/\j<2^62/\R (KZ 0 j.toNat) H1
def jc {a:Expr} {ta:TA} {p pos:Pos} (hg:Gl X "range") (hm:X.mg "range"= none) (ha:PA X [a] ta) (hs:starEach [a] X.env=[(false,eval a X.env)]<|>qe_):PI X tg (.Call (.Name "range" p) [a] [] pos) (J7 ta):=by
 intro pins s σ H R I h;refine Call_ (jK I hg hm boot_range (yC (bR (ha pos pins s σ H _ I h) λus s1 z0=>?_) hs rfl));let⟨vs,H1,I1,r1,q1⟩:=z0;let⟨j,e,q1,q2,q⟩:=q1;subst e;cases r1 with
 | cons r rr=>
  cases rr;let⟨t,rfl⟩:=r;exact call_range_1 (Jv I1 () () q1 q2 (by simpa using q))
def Ni (wi:TI) (g:TG) (tb:TS):TS:=λD σ H=>wi σ H λJ H1=>∃W:Nat->Nat->St->Hp->Prop,(∃m,W 0 m σ H1)/\∀i m σ H,W i m σ H->
 (J.stop i H/\D.nx σ H)\/(J.go i H/\∃N:St->Hp->Prop,(∀σ' H',N σ' H'->∃m',m'<m/\W (i+1) m' σ' H')/\∀x H',J.Gg i H x H'->g x σ H' λσ2 H2=>tb {D with nx:=N,ct:=N,bk:=D.nx} σ2 H2)
noncomputable def o6 (fp:List wM) (h:wN):List (wM×Obj):=fp.filterMap λb=>(h.get? b).map λo=>(b,o)
def fF (hb:b∈fp) (e:h.get? b=some o):(b,o)∈o6 fp h:=wB.mpr {b,hb,by rw[e];rfl}
def HG (hp:p∈o6 fp h):p.1∈fp/\h.get? p.1=some p.2:=by
 let⟨b,hb,e⟩:=wB.mp hp;cases q:h.get? b with
 | none=>rw[q] at e;cases e
 | some o=>
  rw[q] at e;let e':(b,o)=p:=ya e;subst e';exact{(hb),q}
def Inv.pinned (I:Inv X pins σ H s) (hf:∀b∈fp,vN X pins H b) (ho:∀b∈fp,∃o,s.heap.get? b=some o/\∀v,o.data≠.cell v):Inv X (pins++o6 fp s.heap) σ H s:=
 I.lE λp hp=>(zB.mp hp).elim (λz=>I.pin p (zD _ z)) λz=>by
  let⟨hb,e⟩:=HG z;let⟨f0,f1,f2,_⟩:=hf p.1 hb;let⟨o,e',d⟩:=ho p.1 hb;rw[e] at e';cases e';exact{(e),f0,f1,f2,d}
def Inv.rD (I:Inv X (pins++pl) σ H s):Inv X pins σ H s:=I.lE λp hp=>I.pin p (zD _ (zE _ hp))
def dX (hp:PassesOwn (model X.prog X.w) X.A X.env X.xe) (hc:X.calm=true) (hi:PI X tg iter wi) (hg:PG X tg g) (hb:vM X body tb)
  (hs:(∀x,foldedSetIterable iter X.env x=pure x)<|>qd_):PS X (.For tg iter body [] pos) (Ni wi g tb):=by
 intro pins s σ H D I h;refine wpAny_For (bR (hi pins s σ H _ I h) λv s1 h1=>bR h1 λitv s2 h2=>?_) hs;let⟨it,fp,tn,J,H2,e,I2,T,st2,f2,W,⟨m0,w0⟩,turn⟩:=h2;subst e;let stat:∀{H':Hp},(∀b∈fp,H' b=none)->∀b∈fp,vN X pins H' b:=λhn b hb=>{hn b hb,(f2 b hb).2}
 refine codeAny_forLoop_any (λn s'=>∃i σ' H',Inv X pins σ' H' s'/\tn i s'.heap/\(∀b∈fp,H' b=none)/\W i n σ' H') ?_ m0 {0,σ,H2,I2,st2,λb hb=>(f2 b hb).1,w0};rintro n s3 ⟨i,σ3,H3,I3,st3,fr3,w3⟩;rcases turn i n σ3 H3 w3 with⟨stop,qn⟩ | ⟨go,N,hN,step⟩
 ·refine xA hp (bR (T.done X rfl rfl rfl hc i pins s3 σ3 H3 X.xe I3 (stat fr3) st3 stop) λr s4 ⟨hr,I4⟩=>?_)
  subst hr;exact xS {σ3,H3,I4,qn}
 ·refine xA hp (bR (T.item X rfl rfl rfl hc i pins s3 σ3 H3 X.xe I3 (stat fr3) st3 go) λr s4 ⟨u,hr,h4⟩=>?_)
  subst hr;refine xA hp (bR h4 λ_ s5 z0=>?_);let⟨x,H5,I5,r5,y5,st5,fr5⟩:=z0;let I5':=I5.pinned (stat fr5) (T.obj _ _ st5);refine xA hp (bR (hg _ s5 σ3 H5 x u _ I5' r5 (step x H5 y5)) λ_ s6 z0=>?_);let⟨σ6,H6,I6,q6⟩:=z0;refine xA hp (bR (hb _ s6 σ6 H6 _ I6 q6) λf s7 q7=>?_);let again:∀{σ7:St} {H7:Hp},Inv X (pins++o6 fp s5.heap) σ7 H7 s7->N σ7 H7->∃m,m<n/\∃i σ' H',Inv X pins σ' H' s7/\tn i s7.heap/\(∀b∈fp,H' b=none)/\W i m σ' H':=λ{σ7 H7} I7 n7=>by
   let⟨m',hm,w7⟩:=hN σ7 H7 n7;refine{m',hm,i+1,σ7,H7,I7.rD,T.keep _ _ _ st5 λb hb o e=>(I7.pin (b,o) (zD _ (zD _ (fF hb e)))).1,λb hb=>?_,w7};let⟨o,e,d⟩:=T.obj _ _ st5 b hb;exact(I7.pin (b,o) (zD _ (zD _ (fF hb e)))).2.1
  cases f with
  | next=>let⟨σ7,H7,I7,n7⟩:=q7;exact again I7 n7
  | cont=>let⟨σ7,H7,I7,n7⟩:=q7;exact again I7 n7
  | brk=>let⟨σ7,H7,I7,q7⟩:=q7;exact{σ7,H7,I7.rD,q7}
  | ret v=>let⟨x7,σ7,H7,I7,r7,q7⟩:=q7;exact{x7,σ7,H7,I7.rD,r7,q7}
end
def jk {K:yq} {a:wM} {xs:List V} {g:TG} {tb:TS} {D:Ends} {σ:St} {H:Hp} (Pv:Nat->St->Hp->Prop) (h0:Pv 0 σ H) (hl:∀i σ H,i<=⇑xs->Pv i σ H->aE K H a xs)
  (hs:∀i x σ H,xs[i]?=some x->Pv i σ H->g x σ H λσ2 H2=>tb {D with nx:=Pv (i+1),ct:=Pv (i+1),bk:=D.nx} σ2 H2) (hd:∀σ H,Pv ⇑xs σ H->D.nx σ H) :
  ∃W:Nat->Nat->St->Hp->Prop,(∃m,W 0 m σ H)/\∀i m σ H,W i m σ H->
   ((K0 K a).stop i H/\D.nx σ H)\/((K0 K a).go i H/\∃N:St->Hp->Prop,(∀σ' H',N σ' H'->∃m',m'<m/\W (i+1) m' σ' H')/\∀x H',(K0 K a).Gg i H x H'->g x σ H' λσ2 H2=>tb {D with nx:=N,ct:=N,bk:=D.nx} σ2 H2):=by
 refine{λi m σ H=>m=⇑xs-i/\i<=⇑xs/\Pv i σ H,{⇑xs,by simp,zX _,h0},?_};rintro i m σ H ⟨rfl,hi,p⟩;let q:=hl i σ H hi p
 by_cases hlt:i<⇑xs
 ·refine .inr {{xs,xs[i],q,by simp[hlt]},Pv (i+1),λσ' H' p'=>{⇑xs-(i+1),(),rfl,hlt,p'},λx H' y=>?_}
  let⟨e,y⟩:=y;subst e;exact hs i x σ _ (y xs q) p
 ·let e:i=⇑xs:=()
  subst e;exact .inl {{xs,q,zh _},hd σ H p}
def qZ {K:yq} {a:wM} {xs:List V} {g:TG} {tb:TS} {D:Ends} {σ:St} {H:Hp} (Pv:Nat->St->Hp->Prop) (h0:Pv 0 σ H) (hl:∀i σ H,i<=⇑xs->Pv i σ H->bK K H a xs)
  (hs:∀i x σ H,xs[i]?=some x->Pv i σ H->g x σ H λσ2 H2=>tb {D with nx:=Pv (i+1),ct:=Pv (i+1),bk:=D.nx} σ2 H2) (hd:∀σ H,Pv ⇑xs σ H->D.nx σ H) :
  ∃W:Nat->Nat->St->Hp->Prop,(∃m,W 0 m σ H)/\∀i m σ H,W i m σ H->
   ((MX K a).stop i H/\D.nx σ H)\/((MX K a).go i H/\∃N:St->Hp->Prop,(∀σ' H',N σ' H'->∃m',m'<m/\W (i+1) m' σ' H')/\∀x H',(MX K a).Gg i H x H'->g x σ H' λσ2 H2=>tb {D with nx:=N,ct:=N,bk:=D.nx} σ2 H2):=by
 refine{λi m σ H=>m=⇑xs-i/\i<=⇑xs/\Pv i σ H,{⇑xs,by simp,zX _,h0},?_};rintro i m σ H ⟨rfl,hi,p⟩;let q:=hl i σ H hi p
 by_cases hlt:i<⇑xs
 ·refine .inr {{xs,xs[i],q,by simp[hlt]},Pv (i+1),λσ' H' p'=>{⇑xs-(i+1),(),rfl,hlt,p'},λx H' y=>?_}
  let⟨e,y⟩:=y;subst e;exact hs i x σ _ (y xs q) p
 ·let e:i=⇑xs:=()
  subst e;exact .inl {{xs,q,zh _},hd σ H p}
def Ab {lo:Int} {n:Nat} {g:TG} {tb:TS} {D:Ends} {σ:St} {H:Hp} (Pv:Nat->St->Hp->Prop) (h0:Pv 0 σ H)
  (hs:∀i σ H,i<n->Pv i σ H->g (.int (lo+i)) σ H λσ2 H2=>tb {D with nx:=Pv (i+1),ct:=Pv (i+1),bk:=D.nx} σ2 H2) (hd:∀σ H,Pv n σ H->D.nx σ H) :
  ∃W:Nat->Nat->St->Hp->Prop,(∃m,W 0 m σ H)/\∀i m σ H,W i m σ H->
   ((KZ lo n).stop i H/\D.nx σ H)\/((KZ lo n).go i H/\∃N:St->Hp->Prop,(∀σ' H',N σ' H'->∃m',m'<m/\W (i+1) m' σ' H')/\∀x H',(KZ lo n).Gg i H x H'->g x σ H' λσ2 H2=>tb {D with nx:=N,ct:=N,bk:=D.nx} σ2 H2):=by
 refine{λi m σ H=>m=n-i/\i<=n/\Pv i σ H,{n,by simp,zX _,h0},?_};rintro i m σ H ⟨rfl,hi,p⟩
 by_cases hlt:i<n
 ·refine .inr {hlt,Pv (i+1),λσ' H' p'=>{n-(i+1),(),rfl,hlt,p'},λx H' y=>?_}
  let⟨e,y⟩:=y;subst e y;exact hs i σ _ hlt p
 ·let e:i=n:=()
  subst e;exact .inl {zh _,hd σ H p}
end L2
namespace L2
open PySem PySem.Spec PyProof.Rows
abbrev R2:=V->V->Hp->VK->Prop
def mV (X:Cx) (f:wG->wG->Sem wG) (r:R2):Prop:=
 ∀(pins:List (wM×Obj)) (s:wH) (σ:St) (H:Hp) (x y:V) (v u:wG) (Q:VK),Inv X pins σ H s->RelV x v->RelV y u->r x y H Q->
  wpAny (model X.prog X.w) X.A (f v u) (EP X pins σ Q) X.xe s
def RE (X:Cx) (f:wG->Sem wG) (r:V->Hp->VK->Prop):Prop:=
 ∀(pins:List (wM×Obj)) (s:wH) (σ:St) (H:Hp) (x:V) (v:wG) (Q:VK),Inv X pins σ H s->RelV x v->r x H Q->
  wpAny (model X.prog X.w) X.A (f v) (EP X pins σ Q) X.xe s
def dI (X:Cx) (f:wG) (r:List V->Hp->VK->Prop):Prop:=
 ∀(pins:List (wM×Obj)) (s:wH) (σ:St) (H:Hp) (xs:List V) (us:List wG) (Q:VK),Inv X pins σ H s->Vals xs us->r xs H Q->
  wpAny (model X.prog X.w) X.A (call f us) (EP X pins σ Q) X.xe s
def cI (r:R2) (ta tb:TE):TE:=λσ H Q=>ta σ H λx H1=>tb σ H1 λy H2=>r x y H2 Q
def OW (r:V->Hp->VK->Prop) (ta:TE):TE:=λσ H Q=>ta σ H λx H1=>r x H1 Q
def rI (C:Int->Int->Prop) (g:Int->Int->V):R2:=λx y H Q=>∃i j,x=.int i/\y=.int j/\C i j/\Q (g i j) H
def mU (g:Int->Int->V):R2:=λx y H Q=>∃i j,x=.int i/\y=.int j/\Q (g i j) H
def rU (g:Int->V):V->Hp->VK->Prop:=λx H Q=>∃i,x=.int i/\Q (g i) H
section
variable {X:Cx} {a b c:Expr} {ta tb tc:TE} {pos:Pos}
def Oo (ha:PE X a ta) (hb:PE X b tb) {pins:List (wM×Obj)} {s:wH} {σ:St} {H:Hp} {R:V->V->Hp->Prop} (I:Inv X pins σ H s)
  (h:ta σ H λx H1=>tb σ H1 λy H2=>R x y H2) {Q:wG->wH->Prop} {f:wG->wG->Sem wG}
  (hf:∀v u s2 x y H2,Inv X pins σ H2 s2->RelV x v->RelV y u->R x y H2->wpAny (model X.prog X.w) X.A (f v u) Q X.xe s2) :
  wpAny (model X.prog X.w) X.A (eval a X.env) (λv s₁=>wpAny (model X.prog X.w) X.A (eval b X.env) (λu s₂=>wpAny (model X.prog X.w) X.A (f v u) Q X.xe s₂) X.xe s₁) X.xe s:=by
 refine bR (ha pins s σ H _ I h) λv s1 z0=>?_;let⟨x,H1,I1,r1,q1⟩:=z0;refine bR (hb pins s1 σ H1 _ I1 q1) λu s2 z0=>?_;let⟨y,H2,I2,r2,q2⟩:=z0;exact hf v u s2 x y H2 I2 r1 r2 q2
def aC {op:Operator} {r:R2} (ho:mV X (binaryOp op) r) (ha:PE X a ta) (hb:PE X b tb):PE X (.BinOp a op b pos) (cI r ta tb):=by
 intro pins s σ H Q I h;exact wpAny_BinOp (Oo ha hb I h λv u s2 x y H2 I2 rx ry q=>ho pins s2 σ H2 x y v u Q I2 rx ry q)
def j8 (ho:RE X (unaryOp op) r) (ha:PE X a ta):PE X (.UnaryOp op a pos) (OW r ta):=by
 intro pins s σ H Q I h;refine UnaryOp_ (bR (ha pins s σ H _ I h) λv s1 z0=>?_);let⟨x,H1,I1,r1,q1⟩:=z0;exact ho pins s1 σ H1 x v Q I1 r1 q1
def Pl {f:wG->wG->Sem wG} {C:Int->Int->Prop} {g:Int->Int->Int}
  (rule:∀(i j:Int) (t u:Tok) (s:wH) (Q:wG->wH->Prop) (E:wG->wH->Prop),C i j->Q (.int (g i j) s.toks) {s with toks:=s.toks+1}->wpAny (model X.prog X.w) X.A (f (.int i t) (.int j u)) Q E s) :
  mV X f (rI C λi j=>.int (g i j)):=by
 intro pins s σ H x y v u Q I rx ry h;let⟨i,j,rfl,rfl,hc,q⟩:=h;let⟨t,rfl⟩:=rx;let⟨t',rfl⟩:=ry;exact rule i j t t' s _ _ hc {.int (g i j),H,I.tok _,{_,rfl},q}
def Pk {f:wG->wG->Sem wG} {g:Int->Int->Int}
  (rule:∀(i j:Int) (t u:Tok) (s:wH) (Q:wG->wH->Prop) (E:wG->wH->Prop),Q (.int (g i j) s.toks) {s with toks:=s.toks+1}->wpAny (model X.prog X.w) X.A (f (.int i t) (.int j u)) Q E s) :
  mV X f (mU λi j=>.int (g i j)):=by
 intro pins s σ H x y v u Q I rx ry h;let⟨i,j,rfl,rfl,q⟩:=h;let⟨t,rfl⟩:=rx;let⟨t',rfl⟩:=ry;exact rule i j t t' s _ _ {.int (g i j),H,I.tok _,{_,rfl},q}
def LM {f:wG->wG->Sem wG} {g:Int->Int->Bool}
  (rule:∀(i j:Int) (t u:Tok) (s:wH) (Q:wG->wH->Prop) (E:wG->wH->Prop),Q (.bool (g i j)) s->wpAny (model X.prog X.w) X.A (f (.int i t) (.int j u)) Q E s) :
  mV X f (mU λi j=>.bl (g i j)):=by
 intro pins s σ H x y v u Q I rx ry h;let⟨i,j,rfl,rfl,q⟩:=h;let⟨t,rfl⟩:=rx;let⟨t',rfl⟩:=ry;exact rule i j t t' s _ _ {.bl (g i j),H,I,rfl,q}
def KU (i j:Int):Prop:=0<j/\j<1073741824
def OF (i j:Int):Prop:=(-(2^64)<i/\i<2^64)\/(-(2^64)<j/\j<2^64)
def OF.ok (h:OF i j):IntMulOk i j:=by
 rcases h with⟨h1,h2⟩ | ⟨h1,h2⟩
 ·exact .of_left (intBits_le_64 h1 h2)
 ·exact .of_right (intBits_le_64 h1 h2)
def dh:mV X (binaryOp .Add) (mU λi j=>.int (i+j)):=Pk λ_ _ _ _ _ _ _ q=>add_int q
def fE:mV X (binaryOp .Sub) (mU λi j=>.int (i-j)):=Pk λ_ _ _ _ _ _ _ q=>sub_int q
def sM:mV X (binaryOp .Mult) (rI OF λi j=>.int (i*j)):=Pl λ_ _ _ _ _ _ _ hc q=>mul_int q hc.ok
def b8:mV X (binaryOp .FloorDiv) (rI KU λi j=>.int (i/j)):=Pl λi j _ _ _ _ _ hc q=>by
 let h1:(0:Int)<j:=hc.1;let h2:j<1073741824:=hc.2;exact floordiv_int () (by rw[wC i ()];exact q) (.inl (PyProof.noPylong_small ()))
def bM:mV X (binaryOp .Mod) (rI (λ_ j=>0<j) λi j=>.int (i%j)):=Pl λi j _ _ _ _ _ hc q=>by
 let h1:(0:Int)<j:=hc;exact mod_int' () (by rw[Int.fmod_eq_emod_of_nonneg i ()];exact q)
def R0 {f:wG->Sem wG} {g:Int->Int}
  (rule:∀(i:Int) (t:Tok) (s:wH) (Q:wG->wH->Prop) (E:wG->wH->Prop),Q (.int (g i) s.toks) {s with toks:=s.toks+1}->wpAny (model X.prog X.w) X.A (f (.int i t)) Q E s) :
  RE X f (rU λi=>.int (g i)):=by
 intro pins s σ H x v Q I rx h;let⟨i,rfl,q⟩:=h;let⟨t,rfl⟩:=rx;exact rule i t s _ _ {.int (g i),H,I.tok _,{_,rfl},q}
def gg:RE X (unaryOp .USub) (rU λi=>.int (-i)):=R0 λ_ _ _ _ _ q=>neg_int q
end
noncomputable def Ln:V->V->Bool
 | .aX,.aX=>true | .aX,.int _=>true | .int _,.aX=>true | .aX,.bl _=>true | .bl _,.aX=>true | .aX,.str _=>true | .str _,.aX=>true
 | .int _,.int _=>true | .bl _,.bl _=>true | .str _,.str _=>true | .G0 _,.G0 _=>true
 | .int _,.str _=>true | .str _,.int _=>true | .bl _,.str _=>true | .str _,.bl _=>true
 | _,_=>false
def KW:R2:=λx y H Q=>Ln x y=true/\Q (.bl (decide (x=y))) H
def Q1:R2:=λx y H Q=>Ln x y=true/\Q (.bl (!decide (x=y))) H
def BK:decide (V.int i=V.int j)=(i == j):=by
 rw[xp];simp
def Kw:decide (V.bl i=V.bl j)=(i == j):=by
 rw[xp];simp
def BI:decide (V.str i=V.str j)=(i == j):=by
 rw[xp];simp
def GR:decide (V.G0 i=V.G0 j)=(i.toList == j.toList):=by
 rw[xp];cases i;cases j;simp
section
variable {X:Cx} {a b c:Expr} {ta tb tc:TE} {pos:Pos}
def bE (I:Inv X pins σ H s) (q:Q (.bl k) H) (e:k=k'):EP X pins σ Q (.bool k') s:=by
 subst e;exact{.bl k,H,I,rfl,q}
def cb:mV X (compareOp .Eq) KW:=by
 intro pins s σ H x y v u Q I rx ry h;let⟨hs,q⟩:=h;cases x with
 | aX=>
  cases rx;cases y with
  | aX=>cases ry;exact PySem.EqNone.eq_none_none (bE I q (by simp))
  | bl j=>cases ry;exact PySem.EqNone.eq_none_bool (bE I q (by simp))
  | int j=>let⟨t',rfl⟩:=ry;exact PySem.EqNone.eq_none_int (bE I q (by simp))
  | str j=>let⟨t',rfl⟩:=ry;exact PySem.EqNone.eq_none_str (bE I q (by simp))
  | _=>exact absurd (show false=true from hs) zG
 | bl i=>
  cases rx;cases y with
  | aX=>cases ry;exact PySem.EqNone.eq_bool_none (bE I q (by simp))
  | bl j=>cases ry;exact eq_bool (bE I q Kw)
  | str j=>let⟨t',rfl⟩:=ry;exact PySem.EqMixed.eq_bool_str (bE I q (by simp))
  | _=>exact absurd (show false=true from hs) zG
 | int i=>
  let⟨t,rfl⟩:=rx;cases y with
  | aX=>cases ry;exact PySem.EqNone.eq_int_none (bE I q (by simp))
  | int j=>let⟨t',rfl⟩:=ry;exact eq_int (bE I q BK)
  | str j=>let⟨t',rfl⟩:=ry;exact PySem.EqMixed.eq_int_str (bE I q (by simp))
  | _=>exact absurd (show false=true from hs) zG
 | str i=>
  let⟨t,rfl⟩:=rx;cases y with
  | aX=>cases ry;exact PySem.EqNone.eq_str_none (bE I q (by simp))
  | bl j=>cases ry;exact PySem.EqMixed.eq_str_bool (bE I q (by simp))
  | int j=>let⟨t',rfl⟩:=ry;exact PySem.EqMixed.eq_str_int (bE I q (by simp))
  | str j=>let⟨t',rfl⟩:=ry;exact eq_str (bE I q BI)
  | _=>exact absurd (show false=true from hs) zG
 | G0 i=>
  let⟨t,rfl⟩:=rx;cases y with
  | G0 j=>let⟨t',rfl⟩:=ry;exact PySem.W.eq_bytes (bE I q GR)
  | _=>exact absurd (show false=true from hs) zG
 | _=>cases y <;> exact absurd (show false=true from hs) zG
def iG:mV X (compareOp .NotEq) Q1:=by
 intro pins s σ H x y v u Q I rx ry h;let⟨hs,q⟩:=h;cases x with
 | aX=>
  cases rx;cases y with
  | aX=>cases ry;exact PySem.EqNone.ne_none_none (bE I q (by simp))
  | bl j=>cases ry;exact PySem.EqNone.ne_none_bool (bE I q (by simp))
  | int j=>let⟨t',rfl⟩:=ry;exact PySem.EqNone.ne_none_int (bE I q (by simp))
  | str j=>let⟨t',rfl⟩:=ry;exact PySem.EqNone.ne_none_str (bE I q (by simp))
  | _=>exact absurd (show false=true from hs) zG
 | bl i=>
  cases rx;cases y with
  | aX=>cases ry;exact PySem.EqNone.ne_bool_none (bE I q (by simp))
  | bl j=>cases ry;exact ne_bool (bE I q (yP not Kw))
  | str j=>let⟨t',rfl⟩:=ry;exact PySem.EqMixed.ne_bool_str (bE I q (by simp))
  | _=>exact absurd (show false=true from hs) zG
 | int i=>
  let⟨t,rfl⟩:=rx;cases y with
  | aX=>cases ry;exact PySem.EqNone.ne_int_none (bE I q (by simp))
  | int j=>let⟨t',rfl⟩:=ry;exact ne_int (bE I q (yP not BK))
  | str j=>let⟨t',rfl⟩:=ry;exact PySem.EqMixed.ne_int_str (bE I q (by simp))
  | _=>exact absurd (show false=true from hs) zG
 | str i=>
  let⟨t,rfl⟩:=rx;cases y with
  | aX=>cases ry;exact PySem.EqNone.ne_str_none (bE I q (by simp))
  | bl j=>cases ry;exact PySem.EqMixed.ne_str_bool (bE I q (by simp))
  | int j=>let⟨t',rfl⟩:=ry;exact PySem.EqMixed.ne_str_int (bE I q (by simp))
  | str j=>let⟨t',rfl⟩:=ry;exact ne_str (bE I q (yP not BI))
  | _=>exact absurd (show false=true from hs) zG
 | G0 i=>
  let⟨t,rfl⟩:=rx;cases y with
  | G0 j=>let⟨t',rfl⟩:=ry;exact PySem.W.ne_bytes (bE I q (yP not GR))
  | _=>exact absurd (show false=true from hs) zG
 | _=>cases y <;> exact absurd (show false=true from hs) zG
def eZ:mV X (compareOp .Lt) (mU λi j=>.bl (decide (i<j))):=LM λ_ _ _ _ _ _ _ q=>lt_int q
def gc:mV X (compareOp .LtE) (mU λi j=>.bl (decide (i<=j))):=LM λ_ _ _ _ _ _ _ q=>le_int q
def eG:mV X (compareOp .Gt) (mU λi j=>.bl (decide (j<i))):=LM λ_ _ _ _ _ _ _ q=>gt_int q
def De:mV X (compareOp .GtE) (mU λi j=>.bl (decide (j<=i))):=LM λ_ _ _ _ _ _ _ q=>ge_int q
def wQ:mV X (compareOp .In) (λx y H Q=>∃i j,x=.str i/\y=.str j/\Q (.bl (!(Builtin.Str.occurrences j i 0 ⇑j 1).isEmpty)) H):=by
 intro pins s σ H x y v u Q I rx ry h;let⟨i,j,rfl,rfl,q⟩:=h;let⟨t,rfl⟩:=rx;let⟨t',rfl⟩:=ry;exact in_str (bE I q rfl)
def cL (b:Expr) (h:op≠.In<|>qb_) (h2:op≠.NotIn<|>qb_):behindInMarks op b=false:=by
 let e1:(op == CmpOp.In)=false:=by cases op <;> first | rfl | exact absurd rfl h
 let e2:(op == CmpOp.NotIn)=false:=by cases op <;> first | rfl | exact absurd rfl h2
 cases b <;> simp[behindInMarks,e1,e2]
def bH (ho:mV X (compareOp op) r) (ha:PE X a ta) (hb:PE X b tb) (hm:behindInMarks op b=false):PE X (.Compare a [op] [b] pos) (cI r ta tb):=by
 intro pins s σ H Q I h;exact wpAny_Compare1 (Oo ha hb I h λv u s2 x y H2 I2 rx ry q=>ho pins s2 σ H2 x y v u Q I2 rx ry q) hm
def c7 (t:TE):TT:=λσ H Q=>t σ H λx H'=>∃k,x=.bl k/\Q k H'
def jG (ho:mV X (compareOp op) r) (ha:PE X a ta) (hb:PE X b tb) (hm:behindInMarks op b=false):PT X (.Compare a [op] [b] pos) (c7 (cI r ta tb)):=by
 intro pins s σ H Q I h;refine wpAny_isTrue_Compare1 (bR (ha pins s σ H _ I h) λv s1 z0=>?_) hm;let⟨x,H1,I1,r1,q1⟩:=z0;refine bR (hb pins s1 σ H1 _ I1 q1) λu s2 z1=>?_;let⟨y,H2,I2,r2,q2⟩:=z1;refine bR (ho pins s2 σ H2 x y v u _ I2 r1 r2 q2) λc s3 z2=>?_;let⟨z,H3,I3,r3,k,e,q3⟩:=z2;subst e;cases r3;exact yW {(H3),I3,q3}
def Np (r r':R2) (ta tb tc:TE):TE:=λσ H Q=>ta σ H λx H1=>tb σ H1 λy H2=>r x y H2 λz H3=>∃k,z=.bl k/\
 (if k=true then tc σ H3 λw' H4=>r' y w' H4 Q else Q (.bl false) H3)
def C2 (ho:mV X (compareOp op) r) (ho':mV X (compareOp op') r') (ha:PE X a ta) (hb:PE X b tb) (hc:PE X c tc)
  (hm:lastMarks [op,op'] [b,c]=false<|>qf_):PT X (.Compare a [op,op'] [b,c] pos) (c7 (Np r r' ta tb tc)):=by
 intro pins s σ H Q I h;refine isTrue_chain (bR (ha pins s σ H _ I h) λv s1 z0=>?_) hm;let⟨x,H1,I1,r1,q1⟩:=z0;refine test_link (bR (hb pins s1 σ H1 _ I1 q1) λu s2 z1=>?_);let⟨y,H2,I2,r2,q2⟩:=z1;refine bR (ho pins s2 σ H2 x y v u _ I2 r1 r2 q2) λd s3 z2=>?_;let⟨z,H3,I3,r3,k,e,q3⟩:=z2;subst e;cases r3;refine yW ?_;cases k with
 | false=>
  let⟨k',e',q'⟩:=q3;cases e';exact ite_ff {(H3),I3,q'}
 | true=>
  refine ite_tt (test_last (bR (hc pins s3 σ H3 _ I3 q3) λw' s4 z0=>?_));let⟨z',H4,I4,r4,q4⟩:=z0;refine bR (ho' pins s4 σ H4 y z' u w' _ I4 r2 r4 q4) λd' s5 z1=>?_;let⟨z2,H5,I5,r5,k2,e2,q5⟩:=z1;subst e2;cases r5;exact yW {(H5),I5,q5}
def pk:(sizeLine:Nat)<2^63:=by rw[yr];decide
def sN:mV X (binaryOp .Add) (λx y H Q=>∃i j,x=.str i/\y=.str j/\⇑i+⇑j<=sizeLine/\Q (.str (i++j)) H):=by
 intro pins s σ H x y v u Q I rx ry h;let⟨i,j,rfl,rfl,hz,q⟩:=h;let⟨t,rfl⟩:=rx;let⟨t',rfl⟩:=ry;exact add_str (λt' tk=>{.str (i++j),H,I.tok _,{_,rfl},q}) hz
def vals1 (r:Vals [x] us):∃u,us=[u]/\RelV x u:=by
 cases r with
 | cons r1 r2=>cases r2;exact{_,rfl,r1}
def vals2 (r:Vals [x,y] us):∃u w',us=[u,w']/\RelV x u/\RelV y w':=by
 cases r with
 | cons r1 r2=>
  cases r2 with
  | cons r3 r4=>cases r4;exact{_,_,rfl,r1,r3}
def Ec:dI X (.builtin "abs") (λxs H Q=>∃i,xs=[.int i]/\Q (.int (if i<0 then -i else i)) H):=by
 intro pins s σ H xs us Q I r h;let⟨i,rfl,q⟩:=h;let⟨u,rfl,t,rfl⟩:=vals1 r;exact call_abs_int λu tk=>{.int (if i<0 then -i else i),H,I.tok _,{_,rfl},q}
def pI (hc:X.calm=true):dI X (.builtin "max") (λxs H Q=>∃i j,xs=[.int i,.int j]/\Q (.int (if j>i then j else i)) H):=by
 intro pins s σ H xs us Q I r h;let⟨i,j,rfl,q⟩:=h;let⟨u,w',rfl,⟨t,rfl⟩,⟨t',rfl⟩⟩:=vals2 r;refine max_two_ints (I.ok.hd hc) λh' tk k=>{_,H,I.kept k,?_,q}
 by_cases hj:j>i
 ·rw[yE hj,yE hj];exact{_,rfl}
 ·rw[yD hj,yD hj];exact{_,rfl}
def jr (hc:X.calm=true):dI X (.builtin "min") (λxs H Q=>∃i j,xs=[.int i,.int j]/\Q (.int (if j<i then j else i)) H):=by
 intro pins s σ H xs us Q I r h;let⟨i,j,rfl,q⟩:=h;let⟨u,w',rfl,⟨t,rfl⟩,⟨t',rfl⟩⟩:=vals2 r;refine min_two_ints (I.ok.hd hc) λh' tk k=>{_,H,I.kept k,?_,q}
 by_cases hj:j<i
 ·rw[yE hj,yE hj];exact{_,rfl}
 ·rw[yD hj,yD hj];exact{_,rfl}
def Ij:dI X (.type "int") (λxs H Q=>(∃i,xs=[.int i]/\Q (.int i) H)\/∃k,xs=[.bl k]/\Q (.int (if k then 1 else 0)) H):=by
 intro pins s σ H xs us Q I r h;rcases h with⟨i,rfl,q⟩ | ⟨k,rfl,q⟩
 ·let⟨u,rfl,t,rfl⟩:=vals1 r
  exact call_int_int {.int i,H,I,{_,rfl},q}
 ·let⟨u,rfl,r1⟩:=vals1 r
  cases r1;exact call_int_bool {.int (if k then 1 else 0),H,I.tok _,{_,rfl},q}
def gC:dI X (.type "str") (λxs H Q=>∃i,xs=[.int i]/\i.natAbs.log2<1920/\Q (.str (toString i)) H):=by
 intro pins s σ H xs us Q I r h;let⟨i,rfl,hz,q⟩:=h;let⟨u,rfl,t,rfl⟩:=vals1 r;exact PySem.P.str_of_int hz {.str _,H,I.tok _,{_,rfl},q}
end
end L2
namespace L2
open PySem PySem.Spec PyProof.Rows
structure Iw (h:wN) (x dx C:wM) (mA:Str->Option wG):Prop where
 obj:h.get? x=some (PySem.W.instObj C dx)
 ns:h.Ns1 dx mA
 ne:dx≠x
def pj {h:wN} {dx:wM} {mA:Str->Option wG} (n:h.Ns1 dx mA):∃od,h.get? dx=some od/\∀name,PySem.W.lookIn name od=some (mA name):=by
 let⟨o,es,ep,ho,hd,hk,_,hm⟩:=n;refine{o,ho,λname=>?_};let e:=hm name;unfold nsFind findBy at e;rw[<-Array.find?_toList] at e;unfold PySem.W.lookIn;rw[hd];dsimp only;split
 ·rename_i y q
  rw[q] at e;exact yP some e
 ·rename_i q
  rw[q] at e;let a:es.toList.any (·.refKey)=false:=by
   rw[List.any_eq_false];intro y hy;let⟨z,t,hkey⟩:=hk y (Array.mem_toList_iff.mp hy);simp[DictEntry.refKey,hkey]
  let a':¬es.toList.any (·.refKey)=true:=by rw[a];exact zG
  rw[yD a'];exact yP some e
def Iw.look (I:Iw h x dx C mA):∃od,PySem.W.InstAt h x (PySem.W.instObj C dx) C (some od)/\∀name,PySem.W.lookIn name od=some (mA name):=
 let ⟨od,ho,hl⟩:=pj I.ns
 {od,{(I.obj),rfl,rfl,ho},hl}
section
variable {prog:wI} {w:wJ} {A:wK} {E:wG->wH->Prop} {s:wH} {K:yq} {x dx C f:wM} {mA:Str->Option wG} {name:Str} {v:wG}
def get_map (X:K.In s.heap) (I:Iw s.heap x dx C mA) (hg:PySem.W.plainGet K C name=true) (hh:PySem.W.hasDictIn K C=true)
  (ha:PySem.W.findIn K (.ref C) name=some none) (hv:mA name=some v) (hv':PySem.W.handedIn v=true) (h:Q v {s with toks:=s.toks+1}) :
  wpAny (model prog w) A (getAttr (.ref x) name expr) Q E s:=by
 let⟨od,J,hl⟩:=I.look;exact PySem.W.get_value X J (PySem.W.plainGet_of hg).1 (PySem.W.findObj_own hh ha rfl (by rw[hl,hv])) hv' h
def Ll (X:K.In s.heap) (I:Iw s.heap x dx C mA)
  (hs:PySem.W.findIn K (.ref C) "__setattr__"= some (some (.builtin "object.__setattr__"))) (hp:PySem.W.plainOver K C=true) (ht:PySem.W.takerIn K C name=some none) (hh:PySem.W.hasDictIn K C=true)
  (hw:PySem.Within mA ns) (hsz:⇑ns<=sizeLine)
  (h:∀h',Iw h' x dx C (λy=>if y=name then some v else mA y)->Heap.SameBut dx s.heap h'->Q .unit {s with heap:=h',toks:=s.toks+2}) :
  wpAny (model prog w) A (setAttr (.ref x) name v) Q E s:=by
 let⟨od,J,hl⟩:=I.look;refine PySem.W.set_plain X J hs (PySem.W.osa_open (s:={s with toks:=s.toks+1}) (r:=none) X J hp ht λb=>?_);let⟨cd,hc,hd'⟩:=PySem.W.any_some hh;let hx:s.heap.get? x=some ⟨.ref C,some dx,.plain,#[]⟩:=I.obj;refine yi (yk (yi (yi (wpAny_loadPart hx (yi (PySem.W.Looks.here (s:={s with toks:=s.toks+1}) (PySem.W.looks_clsIn X hc) ?_))))));rw[hd'];refine yk (a:=some dx) (yi (yk (yi ?_)));refine wpAny_nsSet1 (s:={s with toks:=s.toks+1}) I.ns λh' hn2 hs2=>?_;let⟨oD,esD,epD,hoD,hdD,hcD⟩:=hn2.count (PySem.Within.cons name v hw);refine yi (wpAny_lookBehind hoD (by rw[hdD];exact pastItsLine_dict (zH hcD (by rw[zo];ext))) ?_);exact yk (h _ {(hs2.2 _ (Ne.symm I.ne)).trans I.obj,hn2,I.ne} hs2)
def JX (X:K.In s.heap) (hm:PySem.W.makesIn K C=true)
  (hi:PySem.W.findIn K (.ref C) "__init__"= some (some (.ref f))) (hf:PySem.W.typeIn K (.ref f)=some (.type "function"))
  (h:codeAny (model prog w) (A.under (.builtin "type.__call__" {.ref C::vs,kw})) (.call (.ref f) {.ref (↑s+1)::vs,kw}) (PySem.W.InitBack (↑s+1) R)
   {s with heap:=(s.heap.push PySem.W.emptyDict).push (PySem.W.instObj C ↑s)}) :
  codeAny (model prog w) A (.call (.ref C) {(vs),kw}) R s:=by
 let⟨hh,g,d,t,os⟩:=s;exact PySem.W.make_core (PySem.W.makes_of X hm) (PySem.W.looks_findIn X hi) (λself=>PySem.W.bind_fn X self hf) (.inl rfl) h
end
noncomputable def aI (f:Str) (v:V):List (Str×V)->List (Str×V)
 | []=>[(f,v)]
 | (g,x)::r=>if g=f then(g,v)::r else(g,x)::aI f v r
theorem kU (f g:Str) (v:V):∀fs:List (Str×V),(aI f v fs).lookup g=if g=f then some v else fs.lookup g
 | []=>by
  show List.lookup g [(f,v)]=_
  by_cases h:g=f
  ·let hb:(g == f)=true:=wy.mpr h
   simp only[List.lookup,hb,yE h]
  ·let hb:(g == f)=false:=xj.mpr h
   simp only[List.lookup,hb,yD h]
 | (k,x)::r=>by
  let ih:=kU f g v r;rw[show aI f v ((k,x)::r)=(if k=f then(k,v)::r else(k,x)::aI f v r) from rfl]
  by_cases hk:k=f
  ·rw[yE hk]
   by_cases h:g=k
   ·let hb:(g == k)=true:=wy.mpr h
    simp only[List.lookup,hb,yE (h.trans hk)]
   ·let hb:(g == k)=false:=xj.mpr h
    simp only[List.lookup,hb,yD (λe:g=f=>h (e.trans hk.symm))]
  ·rw[yD hk]
   by_cases h:g=k
   ·let hb:(g == k)=true:=wy.mpr h
    simp only[List.lookup,hb,yD (λe:g=f=>hk (h.symm.trans e))]
   ·let hb:(g == k)=false:=xj.mpr h
    simp only[List.lookup,hb];exact ih
theorem pq (f:Str) (v:V):∀fs:List (Str×V),f∈(aI f v fs).map (·.1)/\∀g,g∈fs.map (·.1)->g∈(aI f v fs).map (·.1)
 | []=>{by simp[aI],λg h=>by simp at h}
 | (k,x)::r=>by
  let⟨i1,i2⟩:=pq f v r;rw[show aI f v ((k,x)::r)=(if k=f then(k,v)::r else(k,x)::aI f v r) from rfl]
  by_cases hk:k=f
  ·rw[yE hk]
   subst hk;exact{by simp,λg h=>by simpa using h}
  ·rw[yD hk]
   refine{?_,λg h=>?_}
   ·rw[zf]
    exact zj _ i1
   ·rw[zf] at h ⊢
    rcases zy.mp h with e | e
    ·exact zy.mpr (.inl e)
    ·exact zj _ (i2 g e)
theorem pZ (f:Str) (v:V):∀fs:List (Str×V),⇑(aI f v fs)<=⇑fs+1
 | []=>by simp[aI]
 | (k,x)::r=>by
  let ih:=pZ f v r;rw[show aI f v ((k,x)::r)=(if k=f then(k,v)::r else(k,x)::aI f v r) from rfl]
  by_cases hk:k=f
  ·rw[yE hk,zo,zo];ext
  ·rw[yD hk,zo,zo];ext
def eN.some_of (r:eN (some v) o):∃u,o=some u/\RelV v u:=by
 cases o with
 | none=>exact(show False from r).elim
 | some u=>exact{(u),rfl,r}
def eN.none_of {o:Option wG} (r:eN none o):o=none:=by
 cases o with
 | none=>rfl
 | some u=>exact(show False from r).elim
def w9 (r:RelV v u):PySem.W.handedIn u=true:=by
 cases v with
 | aX=>cases(show u=Value.none from r);rfl
 | bl b=>cases(show u=Value.bool b from r);rfl
 | int i=>let⟨t,e⟩:=(show∃t,u=Value.int i t from r);cases e;rfl
 | str x=>let⟨t,e⟩:=(show∃t,u=Value.str x t from r);cases e;rfl
 | G0 b=>let⟨t,e⟩:=(show∃t,u=Value.bytes b t from r);cases e;rfl
 | L6 b=>let⟨t,e⟩:=(show∃t,u=Value.float b t from r);cases e;rfl
 | ref a=>cases(show u=Value.ref a from r);rfl
 | ty n=>cases(show u=Value.type n from r);rfl
section
variable {P:wI} {w:wJ} {H H':Hp} {h h':wN} {a C dx:wM} {fs fs':List (Str×V)}
def By (bf:lQ P w H h) (e:H a=some (.ins C dx fs)):∃mA,Iw h a dx C mA/\(∀f,eN (fs.lookup f) (mA f))/\PySem.Within mA (fs.map (·.1))/\⇑fs<=1000/\H dx=some (.own a):=by
 let⟨d,z,ne,ob,mA,n,r,q⟩:=(show bu P w H h a (.ins C dx fs) from bf a _ e)
 exact{mA,{(ob),n,ne},r,q,z,d}
end
structure Mu (K:yq) (C:wM):Prop where
 pg:PySem.W.plainGet K C Str.empty=true
 hd:PySem.W.hasDictIn K C=true
 po:PySem.W.plainOver K C=true
 sa:PySem.W.findIn K (.ref C) "__setattr__"= some (some (.builtin "object.__setattr__"))
def Mu.get {K:yq} {C:wM} (c:Mu K C) (f:Str):PySem.W.plainGet K C f=true:=c.pg
def cw (K:yq) (C:wM) (f:Str):Prop:=PySem.W.findIn K (.ref C) f=some none
def cw.OV {K:yq} {C:wM} {f:Str} (n:cw K C f):PySem.W.takerIn K C f=some none:=by
 unfold PySem.W.takerIn;rw[show PySem.W.findIn K (.ref C) f=some none from n];rfl
section
variable {X:Cx} {pins:List (wM×Obj)} {σ:St} {H:Hp} {s:wH} {a C dx:wM} {fs:List (Str×V)} {f:Str} {v:V} {A:wK} {E:wG->wH->Prop}
def Fv (I:Inv X pins σ H s) (e:H a=some (.ins C dx fs)) (c:Mu X.K C) (n:cw X.K C f) (l:fs.lookup f=some v)
  (h:∀u s',Inv X pins σ H s'->RelV v u->Q u s'):wpAny (model X.prog X.w) A (getAttr (.ref a) f b) Q E s:=by
 let⟨mA,O,r,_,_,_⟩:=By I.bf e;let⟨u,hu,ru⟩:=eN.some_of (v:=v) (o:=mA f) (by rw[<-l];exact r f);exact get_map I.iY O (c.get f) c.hd n hu (w9 ru) (h u _ (I.tok _) ru)
def EU (I:Inv X pins σ H s) (e:H a=some (.ins C dx fs)) (c:Mu X.K C) (n:cw X.K C f) (hl:⇑fs<1000) (ry:RelV y u)
  (h:∀s',Inv X pins σ (upd H a (.ins C dx (aI f y fs))) s'->Q .unit s'):wpAny (model X.prog X.w) A (setAttr (.ref a) f u) Q E s:=by
 let⟨mA,O,r,wi,_,ho⟩:=By I.bf e;let hz:⇑(fs.map (·.1))<=sizeLine:=by rw[za,yr];ext
 refine Ll I.iY O c.sa c.po n.OV c.hd wi hz λh' O' sb=>h _ ?_;let hd:∃o,h'.get? dx=some o:=let ⟨o,_,_,e',_⟩:=O'.ns;{(o),e'};refine I.write (x:=a) (e:=dx) (by rw[e];exact True.intro) (.inr ho) (λb q hb z=>(sb.2 b hb).trans z) hd ?_;refine{by rw[ar O.ne];exact ho,?_,O.ne,O'.obj,_,O'.ns,λg=>?_,λg hg=>?_}
 ·have:=pZ f y fs;ext
 ·show eN ((aI f y fs).lookup g) (if g=f then some u else mA g)
  rw[kU]
  by_cases q:g=f
  ·rw[yE q,yE q];exact ry
  ·rw[yD q,yD q];exact r g
 ·by_cases q:g=f
  ·rw[q];exact(pq f y fs).1
  ·refine(pq f y fs).2 g (wi g λz=>hg ?_)
   show(if g=f then some u else mA g)=none;rw[yD q];exact z
def Inv.made (I:Inv X pins σ H s):Inv X pins σ (upd (upd H ↑s (.own (↑s+1))) (↑s+1) (.ins C ↑s []))
  {s with heap:=(s.heap.push PySem.W.emptyDict).push (PySem.W.instObj C ↑s)}:=by
 let e1:(s.heap.push PySem.W.emptyDict).get? ↑s=some PySem.W.emptyDict:=ym s.heap rfl;let e2:((s.heap.push PySem.W.emptyDict).push (PySem.W.instObj C ↑s)).get? (↑s+1)=some (PySem.W.instObj C ↑s):=by
  have:=ym (s.heap.push PySem.W.emptyDict) (o:=PySem.W.instObj C ↑s) rfl
  rwa [yZ] at this
 let e3:(s.heap.push PySem.W.emptyDict).Ns ↑s (λ_=>none):={PySem.W.emptyDict,#[],_,e1,rfl,(λe he=>absurd he (by simp)),λ_=>rfl}
 let I1:=I.laid (a:=↑s) (o:=.own (↑s+1)) (h':=s.heap.push PySem.W.emptyDict) (t':=s.toks) (λb u q=>yj _ q) (zh _) {_,e1};refine I1.laid (a:=↑s+1) (o:=.ins C ↑s []) (t':=s.toks) (λb u q=>yj _ q) (Nat.le_of_eq (yZ _ _)) ?_;let ne:↑s≠↑s+1:=z9 (xt _);refine{by rw[ar ne,aA],zX _,ne,e2,λ_=>none,(Heap.Ns1.of_empty e3).at λo q=>yj _ q,λ_=>True.intro,λy hy=>absurd rfl hy}
def G1 (hb:attributeBase e f env (eval e env)=eval e env)
  (h:wpAny (model prog w) A (eval e env) (λo s₁=>wpAny (model prog w) A (getAttr o f true) Q E s₁) E s):wpAny (model prog w) A (eval (.Attribute e f pos) env) Q E s:=
 Attribute_any_ h (by rw[arm_eval_Attribute,hb])
end
def uE (K:yq) (ta:TE) (f:Str):TE:=λσ H Q=>ta σ H λx H1=>∃a C dx fs v,x=.ref a/\H1 a=some (.ins C dx fs)/\Mu K C/\cw K C f/\fs.lookup f=some v/\Q v H1
def QY (K:yq) (ta tv:TE) (f:Str):TS:=λD σ H=>tv σ H λy H1=>ta σ H1 λx H2=>∃a C dx fs,x=.ref a/\H2 a=some (.ins C dx fs)/\Mu K C/\cw K C f/\⇑fs<1000/\
 D.nx σ (upd H2 a (.ins C dx (aI f y fs)))
section
variable {X:Cx} {o e value:Expr} {f:Str} {pos pos' tpos:Pos} {ta tv:TE}
def bc (he:PE X e ta) (hb:attributeBase e f X.env (eval e X.env)=eval e X.env):PE X (.Attribute e f pos) (uE X.K ta f):=by
 intro pins s σ H Q I h;refine G1 hb (bR (he pins s σ H _ I h) λu s1 z0=>?_);let⟨x,H1,I1,rx,a,C,dx,fs,v,ex,ea,c,n,l,q⟩:=z0;subst ex;obtain rfl:u=Value.ref a:=rx;exact Fv I1 ea c n l λu' s2 I2 ru=>{(v),H1,I2,ru,q}
def gU (ha:PE X o ta) (hv:PE X value tv) (hs:swapsWith value (some (.Attribute o f pos')) pos.line X.env=pure false):PS X (.Assign [.Attribute o f pos'] value pos) (QY X.K ta tv f):=by
 intro pins s σ H D I h;refine plainObj_wpAny_Assign_Attribute (bR (hv pins s σ H _ I h) λu s1 z0=>?_) hs;let⟨y,H1,I1,ry,q⟩:=z0;refine bR (ha pins s1 σ H1 _ I1 q) λov s2 z1=>?_;let⟨x,H2,I2,rx,a,C,dx,fs,ex,ea,c,n,l,q2⟩:=z1;subst ex;obtain rfl:ov=Value.ref a:=rx;exact EU I2 ea c n l ry λs3 I3=>{σ,_,I3,q2}
end
section
variable {X:Cx} {pins:List (wM×Obj)} {σ:St} {H:Hp} {s:wH} {A:wK} {E:wG->wH->Prop} {Q:wG->wH->Prop} {c:wG} {b:Bool}
inductive pO (K:yq) (H:Hp):V->wG->Prop where
 | aX:pO K H .aX (.type "NoneType")
 | bl (x:Bool):pO K H (.bl x) (.type "bool")
 | int (i:Int):pO K H (.int i) (.type "int")
 | str (x:Str):pO K H (.str x) (.type "str")
 | L6 (x:UInt64):pO K H (.L6 x) (.type "float")
 | lst {a:wM} {xs:List V} (e:H a=some (.lst xs)):pO K H (.ref a) (.type "list")
 | kz {a:wM} {o:Obj} {xs:List V} (e:H a=some (.kz o (.lst xs))):pO K H (.ref a) (.type "list")
 | tup {a:wM} {xs:List V} (e:H a=some (.tup xs)):pO K H (.ref a) (.type "tuple")
 | dK {a:wM} {kvs:List (Key×V)} (e:H a=some (.dK kvs)):pO K H (.ref a) (.type "dict")
 | dT {a:wM} {kvs:List (List Key×V)} (e:H a=some (.dT kvs)):pO K H (.ref a) (.type "dict")
 | ins {a C dx:wM} {fs:List (Str×V)} (e:H a=some (.ins C dx fs)) (cl:Mu K C) (ha:PySem.W.findIn K (.ref C) "__class__"= some (some (.builtin "object.__class__")))
   (hn:PySem.W.specialIn K (.builtin "object.__class__") "__get__"= some (some (.builtin "getset_descriptor.__get__"))) (htk:PySem.W.takesIn K (.builtin "object.__class__")=some true)
   (hm:PySem.W.mroIn K C (.type "object")=some true):pO K H (.ref a) (.ref C)
def HM (I:Inv X pins σ H s) (rx:RelV x u) (ty:pO X.K H x t) (e:PySem.W.kitOne X.K t c=some b) (h:∀tk,Q (.bool b) {s with toks:=tk}) :
  wpAny (model X.prog X.w) A (call (.builtin "isinstance") [u,c]) Q E s:=by
 cases ty with
 | aX=>cases(show u=Value.none from rx);exact y3 PySem.W.kitx_none I.iY True.intro e (λz=>nomatch z) h
 | bl y=>cases(show u=Value.bool y from rx);exact y3 PySem.W.kitx_bool I.iY True.intro e (λz=>nomatch z) h
 | int i=>let⟨t,q⟩:=(show∃t,u=Value.int i t from rx);cases q;exact y3 PySem.W.kitx_int I.iY True.intro e (λz=>nomatch z) h
 | str y=>let⟨t,q⟩:=(show∃t,u=Value.str y t from rx);cases q;exact y3 PySem.W.kitx_str I.iY True.intro e (λz=>nomatch z) h
 | L6 y=>let⟨t,q⟩:=(show∃t,u=Value.float y t from rx);cases q;exact y3 PySem.W.kitx_float I.iY True.intro e (λz=>nomatch z) h
 | @lst a xs ea=>
  cases(show u=Value.ref a from rx);let⟨_,_,n,_,h1⟩:=(show bu X.prog X.w H s.heap a (.lst xs) from I.bf a _ ea)
  exact y3 PySem.W.kitx_list I.iY {_,h1,rfl} e (λz=>nomatch z) h
 | @kz a ob xs ea=>
  cases(show u=Value.ref a from rx);let⟨_,_,_,n,_,h1⟩:=(show bu X.prog X.w H s.heap a (.kz ob (.lst xs)) from I.bf a _ ea)
  exact y3 PySem.W.kitx_list I.iY {_,h1,rfl} e (λz=>nomatch z) h
 | @tup a xs ea=>
  cases(show u=Value.ref a from rx);let⟨_,_,_,p⟩:=(show bu X.prog X.w H s.heap a (.tup xs) from I.bf a _ ea)
  let⟨o,h1,h2,_⟩:=p;exact y3 PySem.W.kitx_tuple I.iY {(o),h1,h2} e (λz=>nomatch z) h
 | @dK a kvs ea=>
  cases(show u=Value.ref a from rx);let⟨_,_,vs,_,p⟩:=(show bu X.prog X.w H s.heap a (.dK kvs) from I.bf a _ ea)
  let⟨o,es,ep,h1,h2,_⟩:=p;exact y3 PySem.W.kitx_dict I.iY {(o),h1,h2.1} e (λz=>nomatch z) h
 | @dT a kvs ea=>
  cases(show u=Value.ref a from rx);let⟨_,_,xs,_,o,es,ep,h1,h2,_⟩:=(show bu X.prog X.w H s.heap a (.dT kvs) from I.bf a _ ea)
  exact y3 PySem.W.kitx_dict I.iY {(o),h1,h2.1} e (λz=>nomatch z) h
 | @ins a C dx fs ea cl ha hn htk hm=>
  cases(show u=Value.ref a from rx);let⟨mA,O,_⟩:=By I.bf ea;let⟨od,J,_⟩:=O.look;exact y3 (PySem.W.kitx_own (cl.get _) cl.hd ha hn htk hm) I.iY J e (λz=>nomatch z) h
end
end L2
namespace L2
open PySem PySem.Spec PyProof.Rows
structure dw (k:Nat) (A:wK):Prop where
 hd:A.handled=none
 dp:A.depth+3*k+5<recursionLimit
 un:A.units+16*k+200<cLine
def dw.mono (r:dw k A) (h:j<=k):dw j A:={r.hd,by have:=r.dp;ext,by have:=r.un;ext}
theorem dw.deeper (r:dw (k+1) A) (env:Env):dw k (A.deeper env):=
 {r.hd,by have:=r.dp;show A.depth+1+3*k+5<_;ext,by have:=r.un;show A.units+3+16*k+200<_;ext}
def Fs {A:wK} {C:wM} {us:List wG} {kw:List (Str×wG)}:(A.under (.builtin "type.__call__" {.ref C::us,kw})).depth=A.depth+1:=by
 first | rfl | simp[Around.under,Code.weight,Code.isCreation,Code.isGuard,Code.isCaller,Code.frames,Code.isFrame,guardIds]
def Fq {A:wK} {C:wM} {us:List wG} {kw:List (Str×wG)}:(A.under (.builtin "type.__call__" {.ref C::us,kw})).units=A.units+1:=by
 first | rfl | simp[Around.under,Code.cUnits,Code.frames,Code.isFrame]
def dw.make (r:dw (k+1) A) (C:wM) (us:List wG) (kw:List (Str×wG)):dw k (A.under (.builtin "type.__call__" {.ref C::us,kw})):=
 {r.hd,by have:=r.dp;rw[Fs];ext,by have:=r.un;rw[Fq];ext}
theorem dw.depth (r:dw k A):A.depth<recursionLimit:=by have:=r.dp;ext
theorem dw.units (r:dw k A):A.units+64<cLine:=by have:=r.un;ext
def aQ:TA:=λ_ H Q=>Q [] H
def ax (ta:TE) (tr:TA):TA:=λσ H Q=>ta σ H λx H1=>tr σ H1 λxs H2=>Q (x::xs) H2
section
variable {X:Cx} {e:Expr} {es:List Expr} {te:TE} {t:TA} {pos:Pos}
def ag:PA X [] aQ:=λ_ _ _ _ H Q I h=>wD {[],H,I,.nil,h}
def af (ha:PE X e te) (hr:PA X es t) (hs:starEach (e::es) X.env=(false,eval e X.env)::starEach es X.env<|>qe_):PA X (e::es) (ax te t):=by
 intro pos pins s σ H Q I h;rw[hs];show wpAny _ _ (spliced ((false,eval e X.env)::backTo pos (starEach es X.env))) _ _ s;refine xY (bR (ha pins s σ H _ I h) λu s1 z0=>?_);let⟨x,H1,I1,r1,q1⟩:=z0;refine bR (hr pos pins s1 σ H1 _ I1 q1) λus s2 z0=>?_;let⟨xs,H2,I2,r2,q2⟩:=z0;exact{x::xs,H2,I2,.cons r1 r2,q2}
def Cy (t:TA):TE:=λσ H Q=>t σ H λxs H1=>⇑xs<=sizeLine/\∀p,H1 p=none->Q (.ref p) (upd H1 p (.tup xs))
def oG (t:TA):TE:=λσ H Q=>t σ H λxs H1=>⇑xs<=sizeLine/\∀p,H1 p=none->Q (.ref p) (upd H1 p (.lst xs))
def bw {x1} (h:PA X es t):PE X (.Tuple es x1 pos) (Cy t):=by
 intro pins s σ H Q I hq;refine wpAny_Tuple_spliced (bR (h pos pins s σ H _ I hq) λus s1 z0=>?_);let⟨xs,H1,I1,r,z,q⟩:=z0;refine{by rw[<-⇑r];exact z,?_};let hf:H1 ↑s1=none:=I1.bf.fresh (zh _);refine{.ref ↑s1,upd H1 ↑s1 (.tup xs),I1.laid (t':=s1.toks) (λb u e=>yj _ e) (zh _) ?_,rfl,q _ hf};exact{z,us,r,{_,ym _ rfl,rfl,_,rfl}}
def aV (h:PA X es t):PE X (.List es pos) (oG t):=by
 intro pins s σ H Q I hq;refine wpAny_List_spliced (bR (h pos pins s σ H _ I hq) λus s1 z0=>?_);let⟨xs,H1,I1,r,z,q⟩:=z0;refine{by rw[<-⇑r];exact z,?_};let hf:H1 ↑s1=none:=I1.bf.fresh (zh _);refine{.ref ↑s1,upd H1 ↑s1 (.lst xs),I1.laid (t':=s1.toks) (λb u e=>yj _ e) (zh _) ?_,rfl,q _ hf};exact{z,us,0,r,ym _ rfl}
end
abbrev Sp:=List V->Hp->VK->XK->Prop
abbrev Ew:=List Env->Hp->wH->XK->wG->wH->Prop
structure Et (P:wI) (w:wJ) (K:yq) (mg:Str->Option wG) (base:wN) (A:wK) (outer:List Env) (s:wH) (H:Hp):Prop where
 frames:A.frames=some outer
 mod:Mod K mg base
 bs:∀b o,base.get? b=some o->s.heap.get? b=some o/\H b=none
 IE:base.objs.size<=↑s
 kZ:s.heap.FunFrames base outer
 BD:∀b∈ic outer,H b=none
 bf:lQ P w H s.heap
 bare:AllBare s.gens
def CE (outer:List Env) (P:wI) (w:wJ) (H:Hp) (s:wH) (Q:VK) (u:wG) (s':wH):Prop:=
 ∃v H',s'.os=s.os/\AllBare s'.gens/\Un (ic outer) [] H H' s.heap s'.heap/\lQ P w H' s'.heap/\RelV v u/\Q v H'
def CR (CX:Ew) (outer:List Env) (P:wI) (w:wJ) (H:Hp) (s:wH) (Q:VK) (E:XK) (r:Result) (s':wH):Prop:=
 match r with
 | .ok (.ret u)=>CE outer P w H s Q u s'
 | .ok _=>False
 | .error e=>CX outer H s E e s'
structure bQ (P:wI) (w:wJ) (K:yq) (mg:Str->Option wG) (base:wN) (CX:Ew) (k:Nat) (f:wM) (fd:wL) (ps:List Str) (sp:Sp):Prop where
 len:∀vs H Q E,sp vs H Q E->⇑vs=⇑ps
 run:∀(A:wK) (outer:List Env) (s:wH) (H:Hp) (args:Args) (us:List wG) (vs:List V) (Q:VK) (E:XK),dw k A->Et P w K mg base A outer s H->BindsTo s fd args (ps.zip us)->Vals vs us->sp vs H Q E->
  codeAny (model P w) A (.call (.ref f) args) (CR CX outer P w H s Q E) s
theorem bQ.mono {P:wI} {w:wJ} {K:yq} {mg:Str->Option wG} {base:wN} {CX:Ew} {j k:Nat} {f:wM} {fd:wL} {ps:List Str} {sp:Sp} (F:bQ P w K mg base CX j f fd ps sp) (h:j<=k) :
  bQ P w K mg base CX k f fd ps sp:={F.len,λA outer s H args us vs Q E hr=>F.run A outer s H args us vs Q E (hr.mono h)}
def Et.make {P:wI} {w:wJ} {K:yq} {mg:Str->Option wG} {base:wN} {A:wK} {outer:List Env} {s:wH} {H:Hp} (e:Et P w K mg base A outer s H) (C:wM) (us:List wG) (kw:List (Str×wG)) :
  Et P w K mg base (A.under (.builtin "type.__call__" {.ref C::us,kw})) outer s H:={by first | exact e.frames | (simpa[Around.under,Code.envs,Code.isFrame,pushEnvs] using e.frames),e.mod,e.bs,e.IE,e.kZ,e.BD,e.bf,e.bare}
section
variable {X:Cx} {pins:List (wM×Obj)} {σ:St} {H:Hp} {s s':wH}
def Inv.HU (I:Inv X pins σ H s):Et X.prog X.w X.K X.mg X.base X.A X.stack s H:=
 {I.ok.frames,I.ok.mod,I.bs,zH I.ok.IE I.sz,I.stack,I.jz,I.bf,I.bare}
def Inv.after (I:Inv X pins σ H s) (h:CE X.stack X.prog X.w H s Q u s'):EP X pins σ Q u s':=by
 let⟨v,H',os,bare,un,bf,r,q⟩:=h;let⟨hh,g,d,t,os'⟩:=s';obtain rfl:os'=s.os:=os;exact{v,H',I.call (h':=hh) (g':=g) (d':=d) (t':=t) (ch:=[]) un bf bare (λb z=>absurd z (by simp)),r,q}
end
def bD (sp:Sp) (dvs:List V) (E:XK) (t:TA):TE:=λσ H Q=>t σ H λvs H1=>sp (vs++dvs) H1 Q E
def O2 (C:wM) (sp:Sp) (dvs:List V) (E:XK) (t:TA):TE:=λσ H Q=>t σ H λvs H1=>∀x dx,H1 x=none->H1 dx=none->dx≠x->
 sp (.ref x::(vs++dvs)) (upd (upd H1 dx (.own x)) x (.ins C dx [])) (λv H2=>v=.aX/\Q (.ref x) H2) E
def Binds (K:yq) (fd:wL) (ps:List Str) (ds:List wG):Prop:=
 ∀(s:wH) (us:List wG),K.In s.heap->⇑(us++ds)=⇑ps->BindsTo s fd {us,[]} (ps.zip (us++ds))
def Binds.all {K:yq} {fd:wL} {ps:List Str} (h:∀us:List wG,⇑us=⇑ps->bindArgs fd {us,[]}=pure (ps.zip us)):Binds K fd ps []:=λs us _ hl=>by
 rw[zP] at hl ⊢;exact .of_eq (h us hl)
def Passes (CX:Ew) (X:Cx) (E:XK):Prop:=∀(pins:List (wM×Obj)) (σ:St) (H:Hp) (s:wH) (e:wG) (s':wH),Inv X pins σ H s->CX X.stack H s E e s'->X.xe e s'
section
variable {X:Cx} {CX:Ew} {k:Nat} {f C:wM} {fd:wL} {ps:List Str} {sp:Sp} {dvs:List V} {ds:List wG} {E:XK} {x m:Str} {p pos apos:Pos} {e o:Expr} {es:List Expr} {ta:TE} {t:TA}
def E5 (F:bQ X.prog X.w X.K X.mg X.base CX k f fd ps sp) (hr:dw k X.A) (hb:Binds X.K fd ps ds) (hd:Vals dvs ds) (hx:Passes CX X E)
  (I:Inv X pins σ H s) (r:Vals vs us) (h:sp (vs++dvs) H Q E):wpAny (model X.prog X.w) X.A (call (.ref f) us) (EP X pins σ Q) X.xe s:=by
 let r2:Vals (vs++dvs) (us++ds):=r.append hd;let hl:⇑(us++ds)=⇑ps:=by rw[<-⇑r2];exact F.len _ _ _ _ h
 refine wpAny_call (xx (F.run X.A X.stack s H {us,[]} (us++ds) (vs++dvs) Q E hr I.HU (hb s us I.iY hl) r2 h) λr s' hq=>?_);cases r with
 | error e=>exact hx pins σ H s e s' I hq
 | ok fl=>
  cases fl with
  | ret u=>exact I.after hq
  | next=>exact False.elim hq
  | brk=>exact False.elim hq
  | cont=>exact False.elim hq
def qX (F:bQ X.prog X.w X.K X.mg X.base CX k f fd ps sp) (hr:dw k X.A) (hg:Gl X x) (hm:X.mg x=some (.ref f)) (hk:PySem.W.keepIn X.K (.ref f)=true) (hb:Binds X.K fd ps ds) (hd:Vals dvs ds) (hx:Passes CX X E)
  (ha:PA X (e::es) t) (hdb:(x == ("__debug__": Str))=false<|>qb_) (he:starEach (e::es) X.env=(false,eval e X.env)::starEach es X.env<|>qe_) (hpl:(backTo pos (starEach es X.env)).any (·.1)=false<|>qe_) :
  PE X (.Call (.Name x p) (e::es) [] pos) (bD sp dvs E t):=by
 intro pins s σ H Q I h;refine y7 (eD I hg hm ?_ hdb);refine wz (h₀:=X.base) I.ok.mod.LW hk (bR (ha pos pins s σ H _ I h) λus s1 z0=>?_) he hpl;let⟨vs,H1,I1,r,q⟩:=z0;refine{I1.iY,?_};exact E5 F hr hb hd hx I1 r q
def JM (F:bQ X.prog X.w X.K X.mg X.base CX k f fd ps sp) (hr:dw k X.A) (hg:Gl X x) (hm:X.mg x=some (.ref f)) (hk:PySem.W.keepIn X.K (.ref f)=true) (hb:Binds X.K fd ps ds) (hd:Vals dvs ds) (hx:Passes CX X E)
  (hdb:(x == ("__debug__": Str))=false<|>qb_):PE X (.Call (.Name x p) [] [] pos) (bD sp dvs E aQ):=by
 intro pins s σ H Q I h;refine y7 (eD I hg hm ?_ hdb);exact PySem.W.callWith_K0 I.iY hk (E5 (us:=[]) F hr hb hd hx I .nil h)
structure Mk (K:yq) (C f:wM):Prop where
 makes:PySem.W.makesIn K C=true
 init:PySem.W.findIn K (.ref C) "__init__"= some (some (.ref f))
 fn:PySem.W.isFn K (.ref f)=true
 kp:PySem.W.keepIn K (.ref C)=true
def Jf (M:Mk X.K C f) (F:bQ X.prog X.w X.K X.mg X.base CX k f fd ps sp) (hr:dw (k+1) X.A) (hb:Binds X.K fd ps ds) (hd:Vals dvs ds)
  (hx:Passes CX X E) (I:Inv X pins σ H s) (r:Vals vs us)
  (h:∀x dx,H x=none->H dx=none->dx≠x->sp (.ref x::(vs++dvs)) (upd (upd H dx (.own x)) x (.ins C dx [])) (λv H2=>v=.aX/\Q (.ref x) H2) E) :
  wpAny (model X.prog X.w) X.A (call (.ref C) us) (EP X pins σ Q) X.xe s:=by
 let hq:=h (↑s+1) ↑s (I.bf.fresh (xG _)) (I.bf.fresh (zh _)) (z9 (xt _));let I2:=Inv.made (C:=C) I;let r2:Vals (V.ref (↑s+1)::(vs++dvs)) (Value.ref (↑s+1)::(us++ds)):=.cons rfl (r.append hd);let hl:⇑(Value.ref (↑s+1)::us++ds)=⇑ps:=by
  let e:=⇑r2;rw[F.len _ _ _ _ hq] at e;exact e.symm
 refine wpAny_call (JX (f:=f) I.iY M.makes M.init (wy.mp M.fn) (xx (F.run _ X.stack _ _ {Value.ref (↑s+1)::us,[]} (Value.ref (↑s+1)::(us++ds)) _ _ E (hr.make C us [])
  (I2.HU.make C us []) (hb _ (Value.ref (↑s+1)::us) I2.iY hl) r2 hq) λr s' hq'=>?_))
 cases r with
 | error e=>exact hx pins σ _ _ e s' I2 hq'
 | ok fl=>
  cases fl with
  | ret u=>
   let⟨v,H',I3,rv,ev,q3⟩:=I2.after hq';subst ev;exact{rv,{V.ref (↑s+1),H',I3,rfl,q3}}
  | next=>exact False.elim hq'
  | brk=>exact False.elim hq'
  | cont=>exact False.elim hq'
def JH (M:Mk X.K C f) (F:bQ X.prog X.w X.K X.mg X.base CX k f fd ps sp) (hr:dw (k+1) X.A) (hg:Gl X x) (hm:X.mg x=some (.ref C)) (hb:Binds X.K fd ps ds) (hd:Vals dvs ds) (hx:Passes CX X E)
  (hdb:(x == ("__debug__": Str))=false<|>qb_):PE X (.Call (.Name x p) [] [] pos) (O2 C sp dvs E aQ):=by
 intro pins s σ H Q I h;refine y7 (eD I hg hm ?_ hdb);exact PySem.W.callWith_K0 I.iY M.kp (Jf (us:=[]) M F hr hb hd hx I .nil h)
end
section
variable {X:Cx} {CX:Ew} {k:Nat} {f C:wM} {fd:wL} {ps ks:List Str} {sp:Sp} {E:XK} {x m:Str} {p pos apos kpos:Pos} {e o:Expr} {es:List Expr} {kws:List Keyword} {te ta:TE} {t tk:TA} {nm:Option Str}
variable {g:List wG->List wG->List wG} {gV:List V->List V->List V}
end
structure dr (N P:List Str) (sc:Scope):Prop where
 kind:sc.kind=.function
 co:sc.isCoroutine=false
 gen:sc.isGenerator=false
 nd:N.Nodup
 pre:N.take P.length=P
 par:∀x∈P,sc.names.lookup x=some .local\/sc.names.lookup x=some .cell
 NM:∀y∈sc.names,y.2≠.free
theorem Aj {kindOf:Str->Option NameKind} {x:Str}:∀{binds:List (Str×wG)} {m:Str->Option wG},(∀v,(x,v)∉binds)->bindL kindOf binds m x=m x
 | [],_,_=>rfl
 | (n,v)::r,m,h=>by
  unfold bindL;rw[Aj λw hw=>h w (zj _ hw)];split
  ·have:x≠n:=by rintro rfl;exact h v zk
   simp[this]
  ·rfl
theorem Am {kindOf:Str->Option NameKind} {x:Str}:∀{binds:List (Str×wG)} {m:Str->Option wG},(∀v,(x,v)∉binds)->bindC kindOf binds m x=m x
 | [],_,_=>rfl
 | (n,v)::r,m,h=>by
  unfold bindC;rw[Am λw hw=>h w (zj _ hw)];split
  ·rfl
  ·have:x≠n:=by rintro rfl;exact h v zk
   simp[this]
theorem Ak {kindOf:Str->Option NameKind} {x:Str} {v:wG}:∀{P:List Str} {vs:List wG} {i:Nat} {m:Str->Option wG},P.Nodup->P[i]?=some x->vs[i]?=some v->kindOf x=some .local->
  bindL kindOf (P.zip vs) m x=some v
 | [],_,_,_,_,h,_,_=>by simp at h
 | _::_,[],_,_,_,_,h,_=>by simp at h
 | p::P,w::vs,0,m,nd,h1,h2,hk=>by
  simp at h1 h2;subst h1;subst h2;show bindL kindOf ((p,w)::P.zip vs) m p=_;unfold bindL;rw[Aj λv hv=>(zU.mp nd).1 (xT hv).1,yE hk];simp
 | p::P,w::vs,i+1,m,nd,h1,h2,hk=>by
  show bindL kindOf ((p,w)::P.zip vs) m x=_;unfold bindL;exact Ak (i:=i) (zU.mp nd).2 (by simpa using h1) (by simpa using h2) hk
theorem An {kindOf:Str->Option NameKind} {x:Str} {v:wG}:∀{P:List Str} {vs:List wG} {i:Nat} {m:Str->Option wG},P.Nodup->P[i]?=some x->vs[i]?=some v->kindOf x≠some .local->
  bindC kindOf (P.zip vs) m x=some v
 | [],_,_,_,_,h,_,_=>by simp at h
 | _::_,[],_,_,_,_,h,_=>by simp at h
 | p::P,w::vs,0,m,nd,h1,h2,hk=>by
  simp at h1 h2;subst h1;subst h2;show bindC kindOf ((p,w)::P.zip vs) m p=_;unfold bindC;rw[Am λv hv=>(zU.mp nd).1 (xT hv).1,yD hk];simp
 | p::P,w::vs,i+1,m,nd,h1,h2,hk=>by
  show bindC kindOf ((p,w)::P.zip vs) m x=_;unfold bindC;exact An (i:=i) (zU.mp nd).2 (by simpa using h1) (by simpa using h2) hk
noncomputable def start (N:List Str) (vs:List V):St:=vs.map some++List.replicate (N.length-⇑vs) none
noncomputable def gk (CX:Ew) (P:wI) (w:wJ) (K:yq) (mg:Str->Option wG) (base:wN) (N:List Str) (qual:Str) (scope:Scope) (f:wM) (cd:wG) (A:wK) (outer:List Env) (s:wH) (H:Hp) (E:XK):Cx where
 prog:=P
 w:=w
 K:=K
 mg:=mg
 base:=base
 A:=A.deeper (envOfC qual scope ↑s f cd)
 N:=N
 s₀:=s
 H₀:=H
 env:=envOfC qual scope ↑s f cd
 outer:=outer
 stack:=envOfC qual scope ↑s f cd::outer
 ex:=[]
 calm:=true
 fn:=λ_=>true
 pn:=[]
 xe:=λe s'=>wpAny (model P w) (A.deeper (envOfC qual scope ↑s f cd)) (leaving (envOfC qual scope ↑s f cd) e) (λ_ s''=>CX outer H s E e s'') (λe' s''=>CX outer H s E e' s'') s'
def Eb {sc:Scope} {n:Nat} {x:Str} (h:sc.names.lookup x=some .cell):∃c,(cellsFrom n sc.names []).lookup x=some c:=by
 let q:=PySem.W.cellsFrom_some sc.names n [] (.inl h);exact Option.isSome_iff_exists.mp q
def HN {CX:Ew} {P:wI} {w:wJ} {K:yq} {mg:Str->Option wG} {base:wN} {N ps:List Str} {qual:Str} {scope:Scope} {f:wM} {cd:wG} {A:wK} {outer:List Env} {s s1:wH} {H:Hp} {E:XK} {us:List wG} {vs:List V}
  (S:dr N ps scope) (hd:A.handled=none) (e0:Et P w K mg base A outer s H) (hl:⇑vs=⇑ps) (r:Vals vs us)
  (x:InCallC s ↑s (bindL (envOfC qual scope ↑s f cd).kindOf (ps.zip us) λ_=>none) (cellsFrom (↑s+1) scope.names []) (bindC (envOfC qual scope ↑s f cd).kindOf (ps.zip us) λ_=>none) s1) :
  Inv (gk CX P w K mg base N qual scope f cd A outer s H E) [] (start N vs) H s1:=by
 let hpl:⇑ps<=N.length:=by have:=yP List.length S.pre;rw[zL] at this;ext
 let⟨h1,tk,rfl,hk⟩:=x.done;let noA:∀b:wM,b∉(gk CX P w K mg base N qual scope f cd A outer s H E).ex:=λb z=>absurd (show b∈([]:List wM) from z) (by simp);refine{{e0.mod,S.kind,rfl,rfl,zh _,λy z c h1 h2=>?_,λy hy=>?_,λy c _ h=>?_,λ_=>hd,Around.frames_deeper e0.frames,.inr {(rfl),rfl},λb z=>absurd z (noA b),e0.bs,e0.IE,λb _ _=>noA b,λb z=>absurd z (noA b),e0.kZ,e0.BD},
  rfl,e0.bare,Un.kept hk,{_,x.toInCall.ns,λi y v h1 h2 h3=>?_},λy c h=>{_,x.cell y c h},e0.bf.fresh (zh _),λy c h=>?_,λp hp=>absurd (show p∈([]:List (wM×Obj)) from hp) (by simp),e0.bf.kept hk,?_}
 ·exact name_of_addr x.apart (xP h1) (xP h2)
 ·let hy:scope.names.lookup y=some .cell\/scope.names.lookup y=some .free:=hy
  rcases hy with hy | hy
  ·exact Eb hy
  ·exact absurd rfl (S.NM _ (xP hy))
 ·exact zY (x.above y c (xP h))
 ·let hi:i<⇑vs:=by
   unfold start at h2
   by_cases hi:i<⇑vs
   ·exact hi
   ·rw[zR (by simpa using hi)] at h2
    rw[List.getElem?_replicate] at h2;split at h2 <;> cases h2
  let ha:vs[i]?=some v:=by
   unfold start at h2;rw[xO (by simpa using hi),zF] at h2;cases e:vs[i]? with
   | none=>rw[e] at h2;cases h2
   | some a=>rw[e] at h2;cases h2;rfl
  let⟨u,hu,rv⟩:=r.get ha;let hp:ps[i]?=some y:=by
   rw[<-S.pre,List.getElem?_take_of_lt ()];exact h1
  let ndP:ps.Nodup:=by rw[<-S.pre];exact S.nd.sublist (List.take_sublist _ _)
  refine{u,rv,?_};rcases S.par y (zw hp) with k | k
  ·exact .inl {k,Ak ndP hp hu k}
  ·let⟨c,e⟩:=Eb (n:=↑s+1) k
   refine .inr {.inl k,c,e,?_};let q:=x.cell y c e;rw[An ndP hp hu (by show scope.names.lookup y≠_;rw[k];decide)] at q;exact q
 ·exact e0.bf.fresh (zY (x.above y c (xP h)))
 ·unfold start
  show _=N.length;rw[ze,za,List.length_replicate];ext
def Kh {CX:Ew} {P:wI} {w:wJ} {K:yq} {mg:Str->Option wG} {base:wN} {k:Nat} {f:wM} {name qual:Str} {params:Arguments} {body:List Stmt} {scope:Scope} {dV kV doc pm cdv ct oc:wG} {an od:Option wM}
  {osl:Array (Option wG)} {N ps:List Str} {sp:Sp} (lk:K.lookup f=some {oc,od,.func (PySem.W.fnOf name qual params body scope dV kV doc pm an cdv ct),osl}) (hcd:PySem.W.codeIn K cdv qual=true) (S:dr N ps scope)
  (len:∀vs H Q E,sp vs H Q E->⇑vs=⇑ps)
  (hbody:∀(A:wK) (outer:List Env) (s:wH) (H:Hp) (vs:List V) (Q:VK) (E:XK),dw k (A.deeper (envOfC qual scope ↑s f cdv))->sp vs H Q E->
   ∃t,vM (gk CX P w K mg base N qual scope f cdv A outer s H E) body t/\t {nx:=λ_ H'=>Q .aX H',rt:=Q} (start N vs) H) :
  bQ P w K mg base CX (k+1) f (PySem.W.fnOf name qual params body scope dV kV doc pm an cdv ct) ps sp:=by
 refine{len,λA outer s H args us vs Q E hr e0 hb r hsp=>?_};let hl:=len _ _ _ _ hsp;let KX:K.In s.heap:=e0.mod.LW.keeps λb o e=>(e0.bs b o e).1;let lim:s.heap.NoLimit:=e0.mod.nolimit.keeps λb o e=>(e0.bs b o e).1;let hkind:∀y∈ps.zip us,scope.names.lookup y.1=some .local\/(scope.names.lookup y.1=some .cell/\((cellsFrom (↑s+1) scope.names []).lookup y.1).isSome=true):=λ⟨n,v⟩ hy=>by
  rcases S.par n (xT hy).1 with q | q
  ·exact .inl q
  ·exact .inr {q,PySem.W.cellsFrom_some _ _ _ (.inl q)}
 refine codeAny_call_function hr.depth (KX _ _ lk) rfl S.co S.gen rfl (PySem.W.codeRec_of KX hcd) (hb _ _ _ _ ?_);refine wpAny_newFunctionEnv_cells S.kind hkind λenv he s1 x=>?_;subst he;refine{lim.keeps x.toInCall.keep,codeAny_func ?_};let⟨t,ht,hq⟩:=hbody A outer s H vs Q E (hr.deeper _) hsp;let I:Inv (gk CX P w K mg base N qual scope f cdv A outer s H E) [] (start N vs) H s1:=HN S hr.hd e0 hl r x;refine yV (ht [] s1 (start N vs) H _ I hq) (λfl s' hs=>?_) λe s' hs=>hs;let fin:∀{σ':St} {H':Hp} {v:V} {u:wG},Inv (gk CX P w K mg base N qual scope f cdv A outer s H E) [] σ' H' s'->RelV v u->Q v H'->CE outer P w H s Q u s':=
  λ{σ' H' v u} J rv q=>{(v),H',J.os,J.bare,J.base,J.bf,rv,q}
 cases fl with
 | ret u=>
  let⟨v,σ',H',J,rv,q⟩:=hs;exact fin J rv q
 | next=>
  let⟨σ',H',J,q⟩:=hs;exact fin (v:=V.aX) (u:=Value.none) J rfl q
 | brk=>
  let⟨_,_,_,q⟩:=hs;exact False.elim q
 | cont=>
  let⟨_,_,_,q⟩:=hs;exact False.elim q
end L2
namespace L2
open PySem PySem.Spec PyProof.Rows
section
variable {X:Cx} {x:Str} {p pos:Pos} {e:Expr} {es:List Expr} {t:TA} {id T:String} {r:List V->Hp->VK->Prop}
def oH (r:List V->Hp->VK->Prop) (t:TA):TE:=λσ H Q=>t σ H λvs H1=>r vs H1 Q
def Dd (hc:dI X (.builtin id) r) (hg:Gl X x) (hm:X.mg x=none) (hv:bootBuiltins x=some (.builtin id)) (ha:PA X (e::es) t) (hn:x≠ "__name__"<|>qb_) (hdb:(x == ("__debug__": Str))=false<|>qb_)
  (he:starEach (e::es) X.env=(false,eval e X.env)::starEach es X.env<|>qe_) (hpl:(backTo pos (starEach es X.env)).any (·.1)=false<|>qe_):PE X (.Call (.Name x p) (e::es) [] pos) (oH r t):=by
 intro pins s σ H Q I h;refine y7 (jK I hg hm hv ?_ hn hdb);refine PyProof.Rows.callWith_builtin1 (bR (ha pos pins s σ H _ I h) λus s1 z0=>?_) he hpl;let⟨vs,H1,I1,r1,q1⟩:=z0;exact hc pins s1 σ H1 vs us Q I1 r1 q1
def HF (hc:dI X (.type T) r) (hg:Gl X x) (hm:X.mg x=none) (hv:bootBuiltins x=some (.type T)) (ha:PA X (e::es) t) (hn:x≠ "__name__"<|>qb_) (hdb:(x == ("__debug__": Str))=false<|>qb_)
  (he:starEach (e::es) X.env=(false,eval e X.env)::starEach es X.env<|>qe_) (hpl:(backTo pos (starEach es X.env)).any (·.1)=false<|>qe_):PE X (.Call (.Name x p) (e::es) [] pos) (oH r t):=by
 intro pins s σ H Q I h;refine y7 (jK I hg hm hv ?_ hn hdb);refine yC (bR (ha pos pins s σ H _ I h) λus s1 z0=>?_) he hpl;let⟨vs,H1,I1,r1,q1⟩:=z0;exact hc pins s1 σ H1 vs us Q I1 r1 q1
end
end L2
namespace HT
open PySem PyProof.Rows
section
open PySem.SeqAt
open PySem.AutoSeq1 (wpAny_loadPart')
open PySem.MeetsSeq PySem.MeetsSeq2 PySem.MeetsSeq3
end
section
variable {prog:wI} {w:wJ} {A:wK} {E:wG->wH->Prop} {s:wH}
noncomputable def de (n d:Nat):Option Int->Nat
 | none=>d
 | some v=>if v<0 then(v+(n:Int)).toNat else min v.toNat n
def sj (n d:Nat):de n d none=d:=rfl
def Nv (n d:Nat) (hd:d<=n) (o:Option Int):de n d o<=n:=by
 cases o with
 | none=>exact hd
 | some v=>
  show(if v<0 then(v+(n:Int)).toNat else min v.toNat n)<=n
  by_cases hv:v<0
  ·rw[yE hv];ext
  ·rw[yD hv];exact Nat.min_le_right _ _
def GY (v:Int) (n d:Nat):(if v<0 then max (v+(n:Int)) 0 else min v (n:Int))=((de n d (some v):Nat):Int):=by
 show(if v<0 then max (v+(n:Int)) 0 else min v (n:Int))=(((if v<0 then(v+(n:Int)).toNat else min v.toNat n):Nat):Int)
 by_cases hv:v<0
 ·simp only[yE hv];ext
 ·simp only[yD hv];ext
def FZ (lo hi:Option Int) (n:Nat):Builtin.Slice.sliceAdjust lo hi 1 (n:Int)=(((de n 0 lo:Nat):Int),((de n n hi:Nat):Int)):=by
 let h1:¬((1:Int)<0):=()
 unfold Builtin.Slice.sliceAdjust;simp only[h1,xQ];refine Prod.ext ?_ ?_
 ·cases lo with
  | none=>rfl
  | some v=>exact GY v n 0
 ·cases hi with
  | none=>rfl
  | some v=>exact GY v n n
def Ff (i j:Nat):Builtin.Slice.slicePlaces (i:Int) (j:Int) 1=j-i:=by
 unfold Builtin.Slice.slicePlaces;let h1:(1:Int)>0:=()
 simp only[h1,wu,Int.ediv_one];split <;> ext
def rQ (p:IsPart v o) (h:Q o s):wpAny (model prog w) A (Builtin.Slice.slicePartIndex v) Q E s:=by
 cases p with
 | none=>exact slicePart_none h
 | int i t=>exact slicePart_int h
def i7 {sl:wM} {vl vu:wG} {lo hi:Option Int} {n:Nat} {Q:Int×Int×Nat->wH->Prop} (hs:s.heap.IsSliceOf sl vl vu .none) (pl:IsPart vl lo) (pu:IsPart vu hi)
  (h:Q (((de n 0 lo:Nat):Int),1,de n n hi-de n 0 lo) s):wpAny (model prog w) A (Builtin.Slice.sliceApplied (.ref sl) (pure (n:Int))) Q E s:=by
 let⟨os,hos,hcs,hds⟩:=id hs;unfold Builtin.Slice.sliceApplied Builtin.Slice.sliceFields;refine yi (yi (yQ hos hds (x:=vl) rfl (yi (yQ hos hds (x:=vu) rfl (yi (yQ hos hds (x:=.none) rfl (yk ?_)))))));refine yi (slicePart_none ?_);show wpAny _ _ (if((1:Int) == 0)=true then _ else _) _ _ s;rw[yD ∅];refine yi (rQ pl (yi (rQ pu (yi (yk ?_)))));show wpAny _ _ (match Builtin.Slice.sliceAdjust lo hi 1 (n:Int) with | (lo,hi)=>pure (lo,(1:Int),Builtin.Slice.slicePlaces lo hi 1)) _ _ s;rw[FZ lo hi n];show wpAny _ _ (pure (((de n 0 lo:Nat):Int),(1:Int),Builtin.Slice.slicePlaces ((de n 0 lo:Nat):Int) ((de n n hi:Nat):Int) 1)) _ _ s;rw[Ff];exact yk h
def JB (xs:Array wG) (i k:Nat):((List.range k).filterMap λ(m:Nat)=>xs[((i:Int)+(m:Int)*1).toNat]?).toArray=((xs.toList.drop i).take k).toArray:=by
 let e:(λ(m:Nat)=>xs[((i:Int)+(m:Int)*1).toNat]?)=λm=>xs[i+m]?:=by
  funext m
  have:((i:Int)+(m:Int)*1).toNat=i+m:=()
  rw[this]
 rw[e];have:=pick_run xs i k;rw[List.filterMap_map] at this;let e2:((λx=>xs[x]?)∘λx=>i+x)=λm=>xs[i+m]?:=rfl;rw[e2] at this;rw[this]
def nX {t sl:wM} {items:Array wG} {vl vu:wG} {lo hi:Option Int} {Q:wG->wH->Prop} (ht:IsTup s.heap t items) (hs:s.heap.IsSliceOf sl vl vu .none) (pl:IsPart vl lo) (pu:IsPart vu hi)
  (hw:¬(de items.size 0 lo=0/\de items.size items.size hi=items.size))
  (h:Q (.ref ↑s) {s with heap:=s.heap.push {cls:=.type "tuple",data:=.seq ((items.toList.drop (de items.size 0 lo)).take (de items.size items.size hi-de items.size 0 lo)).toArray}})
  (hsz:items.size<=sizeLine):wpAny (model prog w) A (getItem (.ref t) (.ref sl)) Q E s:=by
 let htake:sizeOk (.seq ((items.toList.drop (de items.size 0 lo)).take (de items.size items.size hi-de items.size 0 lo)).toArray):=by
  show((items.toList.drop (de items.size 0 lo)).take (de items.size items.size hi-de items.size 0 lo)).toArray.size<=sizeLine;rw[zS,zL,xi,yG];ext
 let hj:de items.size items.size hi<=items.size:=Nv _ _ (zh _) hi;let⟨os,hos,hcs,hds⟩:=id hs;let hTs:s.TypeIs (.ref sl) "slice":={(os),hos,hcs}
 unfold getItem
 try with_reducible refine xm ?_
 first | refine yi (yk ?_) | skip
 refine yi (wpAny_sequenceKey ht.typeIs ∅ ?_);refine yi (yO (name:=Str.ofString "__getitem__") ht.typeIs xr
  (yS xr ht.typeIs entry_tuple_getitem ?_ (args_tuple_getitem _ _)))
 show wpAny _ _ (Builtin.Tuple.tupleItemsOf (.ref t) >>= _) _ _ s;refine yi (tupleItemsOf_ ht ?_);refine yi (wx hTs ?_);rw[yE ∅];refine yi (i7 hs pl pu ?_);let hno:¬((((de items.size 0 lo:Nat):Int) == 0&&(1:Int) == 1&&(de items.size items.size hi-de items.size 0 lo) == items.size)=true):=by
  intro q;rw[zJ,zJ] at q;let q1:((de items.size 0 lo:Nat):Int)=0:=eq_of_beq q.1.1;let q2:de items.size items.size hi-de items.size 0 lo=items.size:=eq_of_beq q.2;exact hw {(()),()}
 show wpAny _ _ (if(((de items.size 0 lo:Nat):Int) == 0&&(1:Int) == 1&&(de items.size items.size hi-de items.size 0 lo) == items.size)=true then _ else _) _ _ s;rw[yD hno,JB]
 first
  | exact yi (m:=Builtin.Tuple.tupleExact _) (yU (yk {_,rfl,yk h}) htake)
  | exact yi (m:=Builtin.Tuple.tupleExact _) (yU (yi (yk (yk {_,rfl,yk h}))) htake)
  | exact yi (yi (m:=Builtin.Tuple.tupleExact _) (yU (yk (yk {_,rfl,yk h})) htake))
  | exact yi (yi (m:=Builtin.Tuple.tupleExact _) (yU (yk {_,rfl,yk h}) htake))
end
end HT
namespace L2
open PySem PySem.Spec PyProof.Rows
abbrev TO:=St->Hp->(Option Int->Hp->Prop)->Prop
def PO (X:Cx) (e:Option Expr) (t:TO):Prop:=
 ∀(pins:List (wM×Obj)) (s:wH) (σ:St) (H:Hp) (Q:Option Int->Hp->Prop),Inv X pins σ H s->t σ H Q->
  wpAny (model X.prog X.w) X.A (evalPart e X.env) (λu s'=>∃o H',Inv X pins σ H' s'/\IsPart u o/\Q o H') X.xe s
def lA:TO:=λ_ H Q=>Q none H
def vR (t:TE):TO:=λσ H Q=>t σ H λx H1=>∃i,x=.int i/\Q (some i) H1
def intsAre_of:∀{us:List wG},Vals (ns.map V.int) us->IntsAre us ns:=by
 induction ns with
 | nil=>intro us r;rw[yc] at r;cases r;exact .nil
 | cons n ns ih=>
  intro us r;rw[zf] at r;cases r with
  | cons r1 r2=>
   let⟨t,e⟩:=r1;subst e;exact .cons n t (ih r2)
section
variable {X:Cx} {e:Expr} {te:TE} {lo hi:Option Expr} {tl th:TO} {pos p2:Pos}
def dj:PO X none lA:=by
 intro pins s σ H Q I h;rw[evalPart_none];exact yk {none,H,I,.none,h}
def di (h:PE X e te):PO X (some e) (vR te):=by
 intro pins s σ H Q I hw;rw[evalPart_some];refine bR (h pins s σ H _ I hw) λu s1 z0=>?_;let⟨x,H1,I1,r1,q1⟩:=z0;let⟨i,rfl,q⟩:=q1;let⟨t,rfl⟩:=r1;exact{some i,H1,I1,.int i t,q}
def KN (X:Cx) (r:V->Option Int->Option Int->Hp->VK->Prop):Prop:=
 ∀(pins:List (wM×Obj)) (s:wH) (σ:St) (H:Hp) (x:V) (v vl vu:wG) (lo hi:Option Int) (sl:wM) (Q:VK),Inv X pins σ H s->RelV x v->s.heap.IsSliceOf sl vl vu .none->IsPart vl lo->IsPart vu hi->r x lo hi H Q->
  ∃T id,typeLookup (.type T) "__getitem__"= pure (some (.builtin id))/\s.TypeIs v T/\wpAny (model X.prog X.w) X.A (getItem v (.ref sl)) (EP X pins σ Q) X.xe s
def KN.or (h:KN X r) (h':KN X r'):KN X (λx lo hi H Q=>r x lo hi H Q\/r' x lo hi H Q):=by
 intro pins s σ H x v vl vu lo hi sl Q I rx hs pl pu q;rcases q with q | q
 ·exact h pins s σ H x v vl vu lo hi sl Q I rx hs pl pu q
 ·exact h' pins s σ H x v vl vu lo hi sl Q I rx hs pl pu q
def OG (r:V->Option Int->Option Int->Hp->VK->Prop) (te:TE) (tl th:TO):TE:=λσ H Q=>te σ H λx H1=>tl σ H1 λl H2=>th σ H2 λu H3=>r x l u H3 Q
def cA (hr:KN X r) (he:PE X e te) (hl:PO X lo tl) (hu:PO X hi th):PE X (.Subscript e (.Slice lo hi none p2) pos) (OG r te tl th):=by
 intro pins s σ H Q I h;refine Subscript_ (bR (he pins s σ H _ I h) λv s1 z0=>?_);let⟨x,H1,I1,r1,q1⟩:=z0;refine wpAny_Slice (bR (hl pins s1 σ H1 _ I1 q1) λvl s2 z0=>?_);let⟨l,H2,I2,pl,q2⟩:=z0;refine bR (hu pins s2 σ H2 _ I2 q2) λvu s3 z1=>?_;let⟨u,H3,I3,pu,q3⟩:=z1;rw[evalPart_none];refine yk ?_;let I4:Inv X pins σ H3 {s3 with heap:=s3.heap.push {cls:=.type "slice",data:=.fields #[vl,vu,.none]}}:=I3.kept (t':=s3.toks) λb ob q=>yj _ q;let⟨T,id,hT,ht,hg⟩:=hr pins {s3 with heap:=s3.heap.push {cls:=.type "slice",data:=.fields #[vl,vu,.none]}} σ H3 x v vl vu l u ↑s3 Q I4 r1 (Heap.IsSliceOf.new ..) pl pu q3;show wpAny (model X.prog X.w) X.A (subscriptTail e (.Slice lo hi none p2) v (.ref ↑s3)) (EP X pins σ Q) X.xe {s3 with heap:=s3.heap.push {cls:=.type "slice",data:=.fields #[vl,vu,.none]}};exact tail_any (ops:=[.ref ↑s3,v]) ht hT hg (by with_unfolding_all rfl)
noncomputable def gf (xs:List V) (lo hi:Option Int):List V:=(xs.drop (HT.de ⇑xs 0 lo)).take (HT.de ⇑xs ⇑xs hi-HT.de ⇑xs 0 lo)
def qk (xs:List V) (lo hi:Option Int):⇑(gf xs lo hi)<=⇑xs:=by
 unfold gf;rw[zL,xi];ext
def Pd (K:yq):V->Option Int->Option Int->Hp->VK->Prop:=λx lo hi H Q=>∃a xs,x=.ref a/\bK K H a xs/\
 ¬(HT.de ⇑xs 0 lo=0/\HT.de ⇑xs ⇑xs hi=⇑xs)/\∀p,H p=none->Q (.ref p) (upd H p (.tup (gf xs lo hi)))
def Nt:KN X (Pd X.K):=by
 intro pins s σ H x v vl vu lo hi sl Q I rx hs pl pu h;let⟨a,xs,rfl,hx,hw,q⟩:=h;cases rx;let⟨its,r,ht,hz⟩:=I.tuple hx;let hlen:its.toArray.size=⇑xs:=by rw[zS];exact r.length.symm
 refine{"tuple",_,xr.lookup,ht.typeIs,?_};refine HT.nX ht hs pl pu (by rw[hlen];exact hw) ?_ (by rw[hlen];exact hz);rw[hlen];refine{.ref ↑s,_,I.laid (t':=s.toks) (o:=.tup (gf xs lo hi)) (λb ob q=>yj _ q) (zh _) ?_,rfl,q _ (I.bf.fresh (zh _))};exact{zH (qk xs lo hi) hz,_,(r.drop (HT.de ⇑xs 0 lo)).take (HT.de ⇑xs ⇑xs hi-HT.de ⇑xs 0 lo),IsTup.new _ _}
end
end L2
namespace L2
open PySem PySem.Spec PyProof.Rows
noncomputable def GI (n:Nat) (i:Int):Option Nat:=if 0<=i then(if i<n then some i.toNat else none) else if -(n:Int)<=i then some (i+n).toNat else none
noncomputable def qm (xs:List α) (i:Int):Option α:=(GI ⇑xs i).bind λj=>xs[j]?
def GH (h:GI n i=some j):seqIndex? i n=some j/\j<n/\-(n:Int)<=i/\i<n:=by
 unfold GI at h
 by_cases h0:0<=i
 ·rw[yE h0] at h
  by_cases h1:i<n
  ·rw[yE h1] at h
   let e:i.toNat=j:=ya h;exact{by rw[seqIndex_of h0 h1,e],(),(),h1}
  ·rw[yD h1] at h;cases h
 ·rw[yD h0] at h
  by_cases h1:-(n:Int)<=i
  ·rw[yE h1] at h
   let e:(i+n).toNat=j:=ya h;exact{by rw[seqIndex_neg () h1,e],(),h1,()}
  ·rw[yD h1] at h;cases h
def B5 (h:qm xs i=some v):∃j,seqIndex? i ⇑xs=some j/\xs[j]?=some v/\j<⇑xs/\-(⇑xs:Int)<=i/\i<⇑xs:=by
 unfold qm at h;cases e:GI ⇑xs i with
 | none=>rw[e] at h;cases h
 | some j=>
  rw[e] at h;let⟨h1,h2,h3,h4⟩:=GH e;exact{(j),h1,h,h2,h3,h4}
def bC {α:Type} {xs:List α} {j:Nat} {v:α} (h:xs[j]?=some v):qm xs (j:Int)=some v:=by
 let hj:j<⇑xs:=(zt.mp h).1;let e:GI ⇑xs (j:Int)=some j:=by
  unfold GI;rw[yE (),yE ()];simp
 unfold qm;rw[e];exact h
def Ef (xs:List α) (v:α):qm (xs++[v]) (-1)=some v:=by
 let hl:⇑(xs++[v])=⇑xs+1:=by simp
 let e:GI ⇑(xs++[v]) (-1)=some ⇑xs:=by
  unfold GI;rw[hl,yD ∅,yE ()]
  congr 1
  ext
 unfold qm;rw[e];show(xs++[v])[⇑xs]?=some v;simp
def Ck (b:Expr):Prop:=∀o i,subscripted b false o i=operate [o,i] (getItem o i)
def Qo (X:Cx) (r:R2):Prop:=
 ∀(value slice:Expr) (pins:List (wM×Obj)) (s:wH) (σ:St) (H:Hp) (x y:V) (v u:wG) (Q:VK),Inv X pins σ H s->RelV x v->RelV y u->r x y H Q->
  subscripted slice false v u=operate [v,u] (getItem v u)->wpAny (model X.prog X.w) X.A (subscriptTail value slice v u) (EP X pins σ Q) X.xe s
def Si (X:Cx) (id:String) (r:V->List V->Hp->VK->Prop):Prop:=
 ∀(pins:List (wM×Obj)) (s:wH) (σ:St) (H:Hp) (x:V) (xs:List V) (v:wG) (us:List wG) (Q:VK),Inv X pins σ H s->RelV x v->Vals xs us->r x xs H Q->
  wpAny (model X.prog X.w) X.A (call (.builtin id) (v::us)) (EP X pins σ Q) X.xe s
section
variable {X:Cx} {a b:Expr} {ta tb:TE} {pos:Pos}
def JI (hr:Qo X r) (ha:PE X a ta) (hb:PE X b tb) (hs:Ck b):PE X (.Subscript a b pos) (cI r ta tb):=by
 intro pins s σ H Q I h;exact Subscript_ (Oo ha hb I h λv u s2 x y H2 I2 rx ry q=>hr a b pins s2 σ H2 x y v u Q I2 rx ry q (hs _ _))
inductive qA (K:yq) (x y:V) (H:Hp) (Q:VK):Prop
 | mk (p:wM) (xs:List V) (i:Int) (v:V) (_:x=.ref p) (_:y=.int i) (_:aE K H p xs) (_:qm xs i=some v) (_:Q v H)
inductive kK (K:yq) (x y:V) (H:Hp) (Q:VK):Prop
 | mk (p:wM) (xs:List V) (i:Int) (v:V) (_:x=.ref p) (_:y=.int i) (_:bK K H p xs) (_:qm xs i=some v) (_:Q v H)
def Q2:R2:=λx y H Q=>∃z i c,x=.str z/\y=.int i/\⇑z<=sizeLine/\qm z.cps.toList i=some c/\Q (.str {#[c]}) H
def LY:Qo X (qA X.K):=by
 intro value slice pins s σ H x y v u Q I rx ry h hs;let⟨p,xs,i,z,rfl,rfl,hq,he,q⟩:=h;cases rx;let⟨t,rfl⟩:=ry;let⟨its,r,pl,hz⟩:=I.list hq;let⟨j,h1,h2,h3,h4,h5⟩:=B5 he;let⟨w,ew,rw'⟩:=r.get h2;let hl:=⇑r;let hn:=pk;let fin:EP X pins σ Q w s:={(z),H,I,rw',q}
 by_cases h0:0<=i
 ·let hj:i.toNat=j:=by
   rw[seqIndex_of h0 h5] at h1;exact ya h1
  exact item_listR pl.isList h0 () (by rw[hj];simpa using ew) fin hs
 ·let hj:(i+(its.toArray.size:Int)).toNat=j:=by
   rw[seqIndex_neg () h4] at h1;rw[zS,<-hl];exact ya h1
  exact subscriptTail_builtinR (x:=w) pl.isList.typeIs slot_list_getitem.lookup
   (wpAny_getItem_list_neg (Q:=λr s'=>r=w/\EP X pins σ Q r s') pl.isList () (by rw[zS] <;> ext) () (by rw[hj];simpa using ew) {(rfl),fin}) hs
def NX:Qo X (kK X.K):=by
 intro value slice pins s σ H x y v u Q I rx ry h hs;let⟨p,xs,i,z,rfl,rfl,hq,he,q⟩:=h;cases rx;let⟨t,rfl⟩:=ry;let⟨its,r,pl,hz⟩:=I.tuple hq;let⟨j,h1,h2,h3,h4,h5⟩:=B5 he;let⟨w,ew,rw'⟩:=r.get h2;let hl:=⇑r;let hn:=pk;let fin:EP X pins σ Q w s:={(z),H,I,rw',q}
 exact subscriptTail_builtinR (x:=w) pl.typeIs slot_tuple_getitem.lookup
  (getItem_tuple (j:=j) (Q:=λr s'=>r=w/\EP X pins σ Q r s') pl () () (by rw[zS,<-hl];exact h1) (by simpa using ew) {(rfl),fin}) hs
def NY:Qo X Q2:=by
 intro value slice pins s σ H x y v u Q I rx ry h hs;let⟨z,i,c,rfl,rfl,hz,he,q⟩:=h;let⟨t,rfl⟩:=rx;let⟨t',rfl⟩:=ry;let⟨j,h1,h2,h3,h4,h5⟩:=B5 he;let hl:⇑z.cps.toList=⇑z:=by simp[Str.length]
 rw[hl] at h1 h4 h5;let hn:=pk;exact tail_any (wd s z t) slot_str_getitem.lookup (getItem_str (c:=c) (by
  let e1:decide (i < -(2^63:Int))=false:=zc ();let e2:decide (i≥2^63)=false:=zc ();rw[e1,e2,Bool.or_false]) (by rw[h1];simpa using h2) {.str {#[c]},H,I.tok _,{_,rfl},q}) hs
def Fp (its:List wG) (n j:Nat) (u:wG):Obj.mapSeq (·.setIfInBounds j u) {cls:=.type "list",data:=.seq its.toArray n}={cls:=.type "list",data:=.seq (its.set j u).toArray n}:=by
 simp[Obj.mapSeq]
theorem Inv.lst {pins:List (wM×Obj)} {σ:St} {H:Hp} {s:wH} {p:wM} {xs:List V} (I:Inv X pins σ H s) (h:H p=some (.lst xs)) :
  ∃(its:List wG) (n:Nat),Vals xs its/\s.heap.get? p=some {cls:=.type "list",data:=.seq its.toArray n}/\⇑xs<=sizeLine:=by
 let⟨z,its,n,r,e⟩:=I.bf p _ h;exact{(its),n,r,e,z}
def Inv.NO {pins:List (wM×Obj)} {σ:St} {H:Hp} {s:wH} {p:wM} {xs ys:List V} {its its':List wG} {n n':Nat} {f:Obj->Obj} (I:Inv X pins σ H s) (h:H p=some (.lst xs))
  (ho:s.heap.get? p=some {cls:=.type "list",data:=.seq its.toArray n}) (hf:f {cls:=.type "list",data:=.seq its.toArray n}={cls:=.type "list",data:=.seq its'.toArray n'}) (r:Vals ys its') (hz:⇑ys<=sizeLine) (t:Nat) :
  Inv X pins σ (upd H p (.lst ys)) {s with heap:=s.heap.update p f,toks:=t}:=by
 let e:(s.heap.update p f).get? p=some {cls:=.type "list",data:=.seq its'.toArray n'}:=by
  rw[yp f ho (by rw[hf] <;> rfl),hf]
 refine I.write (x:=p) (e:=p) (by rw[h];trivial) (.inl rfl) (λb u hb q=>(yo _ _ (Ne.symm hb)).trans q) {_,e} ?_;exact{(hz),its',n',r,e}
def CZ:V->V->V->Hp->(Hp->Prop)->Prop:=λo i v H Q=>∃p xs k j,o=.ref p/\i=.int k/\H p=some (.lst xs)/\GI ⇑xs k=some j/\Q (upd H p (.lst (xs.set j v)))
def set_list:P4 X CZ:=by
 intro pins s σ H o i v ov iv u Q I ro ri rv h;let⟨p,xs,k,j,rfl,rfl,hp,hj,q⟩:=h;cases ro;let⟨t,rfl⟩:=ri;let⟨its,n,r,ho,hz⟩:=I.lst hp;let⟨h1,h2,h3,h4⟩:=GH hj;let hl:=⇑r;let hn:=pk;let I':Inv X pins σ (upd H p (.lst (xs.set j v))) {s with heap:=s.heap.update p (Obj.mapSeq (·.setIfInBounds j u))}:=
  I.NO hp ho (Fp its n j u) (r.set rv j) (by rw[List.length_set];exact hz) s.toks
 by_cases h0:0<=k
 ·let hk:k.toNat=j:=by
   rw[seqIndex_of h0 h4] at h1;exact ya h1
  exact PySem.W.ki_setAt ho h0 () (by rw[zS,<-hl];exact h4) (by rw[hk];exact{_,I',q})
 ·let hk:(k+(its.toArray.size:Int)).toNat=j:=by
   rw[seqIndex_neg () h3] at h1;rw[zS,<-hl];exact ya h1
  exact PySem.W.ki_setBack ho () (by rw[zS,<-hl];exact h3) () (by rw[hk];exact{_,I',q})
def AL (lo hi:Option Int) (n:Nat):(sliceBounds lo hi none n).1=((HT.de n 0 lo:Nat):Int)/\(sliceBounds lo hi none n).2.1=((HT.de n n hi:Nat):Int)/\(sliceBounds lo hi none n).2.2=1:=by
 refine{?_,?_,rfl}
 ·cases lo with
  | none=>simp[sliceBounds,HT.de]
  | some i=>
   simp only[sliceBounds,HT.de,Option.getD_none,show(1:Int)>0 by decide,wu]
   by_cases h:i<0
   ·simp only[h,wu] <;> ext
   ·simp only[h,xQ] <;> ext
 ·cases hi with
  | none=>simp[sliceBounds,HT.de]
  | some i=>
   simp only[sliceBounds,HT.de,Option.getD_none,show(1:Int)>0 by decide,wu]
   by_cases h:i<0
   ·simp only[h,wu] <;> ext
   ·simp only[h,xQ] <;> ext
def uM (its:List wG) (lo hi:Option Int):slicePick its.toArray lo hi none=((its.drop (HT.de ⇑its 0 lo)).take (HT.de ⇑its ⇑its hi-HT.de ⇑its 0 lo)).toArray:=by
 let⟨h1,h2,h3⟩:=AL lo hi its.toArray.size;unfold slicePick;rw[h1,h2,h3];simp only[sliceRange_one,pick_run,zS] <;> rfl
def Hz (K:yq):V->Option Int->Option Int->Hp->VK->Prop:=λx lo hi H Q=>∃a xs,x=.ref a/\aE K H a xs/\∀p,H p=none->Q (.ref p) (upd H p (.lst (gf xs lo hi)))
def eW:KN X (Hz X.K):=by
 intro pins s σ H x v vl vu lo hi sl Q I rx hs pl pu h;let⟨a,xs,rfl,hx,q⟩:=h;cases rx;let⟨its,r,ht,hz⟩:=I.list hx;let hlen:=⇑r;refine{"list",_,slot_list_getitem.lookup,ht.isList.typeIs,?_};refine wpAny_getItem_list_slice ht.isList hs pl pu .none (by simp) ?_ (by rw[zS] <;> ext);rw[uM,<-hlen];refine{.ref ↑s,_,I.laid (t':=s.toks) (o:=.lst (gf xs lo hi)) (λb ob q=>yj _ q) (zh _) ?_,rfl,q _ (I.bf.fresh (zh _))};exact{zH (qk xs lo hi) hz,_,0,(r.drop (HT.de ⇑xs 0 lo)).take (HT.de ⇑xs ⇑xs hi-HT.de ⇑xs 0 lo),ym _ rfl}
noncomputable def lg:V->Bool
 | .aX=>true
 | .bl _=>true
 | .int _=>true
 | .str _=>true
 | _=>false
noncomputable def Mb:V->V->Bool
 | .aX,.aX=>true
 | .bl a,.bl b=>a == b
 | .bl a,.int b=>(if a then 1 else 0) == b
 | .int a,.bl b=>a == (if b then 1 else 0)
 | .int a,.int b=>a == b
 | .str a,.str b=>a == b
 | _,_=>false
def Kp (ry:RelV y u) (rx:RelV x v) (fy:lg y=true) (fx:lg x=true):SeqAt.EqAt A s u v (Mb y x):=by
 cases y with
 | aX=>
  cases ry;cases x with
  | aX=>cases rx;exact SeqAt.EqAt.same _
  | bl b=>cases rx;exact SeqAt.EqAt.none_bool b
  | int b=>let⟨t,rfl⟩:=rx;exact SeqAt.EqAt.none_int b t
  | str b=>let⟨t,rfl⟩:=rx;exact SeqAt.EqAt.none_str b t
  | _=>exact absurd (show false=true from fx) zG
 | bl a=>
  cases ry;cases x with
  | aX=>cases rx;exact SeqAt.EqAt.bool_none a
  | bl b=>cases rx;exact SeqAt.EqAt.bool_bool a b
  | int b=>let⟨t,rfl⟩:=rx;exact SeqAt.EqAt.bool_int a b t
  | str b=>let⟨t,rfl⟩:=rx;exact SeqAt.EqAt.bool_str a b t
  | _=>exact absurd (show false=true from fx) zG
 | int a=>
  let⟨t',rfl⟩:=ry;cases x with
  | aX=>cases rx;exact SeqAt.EqAt.int_none a t'
  | bl b=>cases rx;exact SeqAt.EqAt.int_bool a t' b
  | int b=>let⟨t,rfl⟩:=rx;exact SeqAt.EqAt.int_int a t' b t
  | str b=>let⟨t,rfl⟩:=rx;exact SeqAt.EqAt.int_str a t' b t
  | _=>exact absurd (show false=true from fx) zG
 | str a=>
  let⟨t',rfl⟩:=ry;cases x with
  | aX=>cases rx;exact SeqAt.EqAt.str_none a t'
  | bl b=>cases rx;exact SeqAt.EqAt.str_bool a t' b
  | int b=>let⟨t,rfl⟩:=rx;exact SeqAt.EqAt.str_int a t' b t
  | str b=>let⟨t,rfl⟩:=rx;exact SeqAt.EqAt.str_str a t' b t
  | _=>exact absurd (show false=true from fx) zG
 | _=>exact absurd (show false=true from fy) zG
noncomputable def Fz (x:V) (u:wG):Bool:=match u with
 | .none=>Mb .aX x
 | .bool b=>Mb (.bl b) x
 | .int i _=>Mb (.int i) x
 | .str z _=>Mb (.str z) x
 | _=>false
def Ko (r:RelV y u) (f:lg y=true):Fz x u=Mb y x:=by
 cases y with
 | aX=>cases r;rfl
 | bl b=>cases r;rfl
 | int i=>let⟨t,rfl⟩:=r;rfl
 | str z=>let⟨t,rfl⟩:=r;rfl
 | _=>exact absurd (show false=true from f) zG
theorem ou:∀{xs:List V} {us:List wG},Vals xs us->xs.all lg=true->us.any (Fz x)=xs.any λy=>Mb y x
 | _,_,.nil,_=>rfl
 | y::xs,u::us,.cons r t,f=>by
  rw[wk,zJ] at f;rw[y8,y8,Ko r f.1,ou t f.2]
theorem kR (rx:RelV x v) (fx:lg x=true):∀{xs:List V} {us:List wG},Vals xs us->xs.all lg=true->∀u∈us,SeqAt.EqAt A s u v (Fz x u)
 | _,_,.nil,_=>λu hu=>by cases hu
 | y::xs,u::us,.cons r t,f=>λu' hu=>by
  rw[wk,zJ] at f;rcases zy.mp hu with rfl | hu
  ·rw[Ko r f.1];exact Kp r rx f.1 fx
  ·exact kR rx fx t f.2 u' hu
noncomputable def ID (x:V) (xs:List V):Bool:=xs.any λy=>Mb y x
inductive Qh (K:yq) (neg:Bool) (x y:V) (H:Hp) (Q:VK):Prop
 | mk (p:wM) (xs:List V) (_:y=.ref p) (_:aE K H p xs\/bK K H p xs) (_:lg x=true) (_:xs.all lg=true) (_:Q (.bl (if neg then !ID x xs else ID x xs)) H)
def o7:mV X (compareOp .In) (Qh X.K false):=by
 intro pins s σ H x y v u Q I rx ry h;let⟨p,xs,rfl,hq,fx,fs,q⟩:=h;cases ry;rcases hq with hq | hq
 ·let⟨its,r,pl,hz⟩:=I.list hq
  refine SeqAt.in_listAt (Fz x) pl.isList (λw hw=>kR rx fx r fs w (by simpa using hw)) {.bl _,H,I,rfl,?_};rw[show its.toArray.any (Fz x)=its.any (Fz x) by simp,ou r fs];exact q
 ·let⟨its,r,pl,hz⟩:=I.tuple hq
  refine SeqAt.in_tupleAt (Fz x) pl (λw hw=>kR rx fx r fs w (by simpa using hw)) {.bl _,H,I,rfl,?_};rw[show its.toArray.any (Fz x)=its.any (Fz x) by simp,ou r fs];exact q
def dQ:mV X (compareOp .NotIn) (Qh X.K true):=by
 intro pins s σ H x y v u Q I rx ry h;let⟨p,xs,rfl,hq,fx,fs,q⟩:=h;cases ry;rcases hq with hq | hq
 ·let⟨its,r,pl,hz⟩:=I.list hq
  refine SeqAt.notIn_listAt (Fz x) pl.isList (λw hw=>kR rx fx r fs w (by simpa using hw)) {.bl _,H,I,rfl,?_};rw[show its.toArray.any (Fz x)=its.any (Fz x) by simp,ou r fs];exact q
 ·let⟨its,r,pl,hz⟩:=I.tuple hq
  refine SeqAt.notIn_tupleAt (Fz x) pl (λw hw=>kR rx fx r fs w (by simpa using hw)) {.bl _,H,I,rfl,?_};rw[show its.toArray.any (Fz x)=its.any (Fz x) by simp,ou r fs];exact q
def ay:dI X (.builtin "len") (λxs H Q=>∃p ys,xs=[.ref p]/\(aE X.K H p ys\/bK X.K H p ys)/\Q (.int ⇑ys) H):=by
 intro pins s σ H xs us Q I r h;let⟨p,ys,rfl,hq,q⟩:=h;let⟨u,rfl,rx⟩:=vals1 r;cases rx;let hn:=pk;rcases hq with hq | hq
 ·let⟨its,r',pl,hz⟩:=I.list hq
  let hlen:=⇑r';exact Calls.call_len_list pl.isList (by simp only[zS] <;> ext) {.int ⇑ys,H,I.tok _,{s.toks+1,by rw[zS,hlen]},q}
 ·let⟨its,r',pl,hz⟩:=I.tuple hq
  let hlen:=⇑r';exact len_tuple pl (by simp only[zS] <;> ext) {.int ⇑ys,H,I.tok _,{s.toks+1,by rw[zS,hlen]},q}
def fj:dI X (.builtin "len") (λxs H Q=>∃z,xs=[.str z]/\⇑z<=sizeLine/\Q (.int ⇑z) H):=by
 intro pins s σ H xs us Q I r h;let⟨z,rfl,hz,q⟩:=h;let⟨u,rfl,t,rfl⟩:=vals1 r;let hn:=pk;exact len_str () {.int ⇑z,H,I.tok _,{_,rfl},q}
def BX:dI X (.type "list") (λxs H Q=>∃p ys,xs=[.ref p]/\(aE X.K H p ys\/bK X.K H p ys)/\∀l,H l=none->Q (.ref l) (upd H l (.lst ys))):=by
 intro pins s σ H xs us Q I r h;let⟨p,ys,rfl,hq,q⟩:=h;let⟨u,rfl,rx⟩:=vals1 r;cases rx;let fin:∀(its:List wG),Vals ys its->⇑ys<=sizeLine->∀(h':wN) (c':Nat),(∀b o',s.heap.get? b=some o'->h'.get? b=some o')->
   h'.get? ↑s=some {cls:=.type "list",dict:=none,data:=.seq its.toArray c',slots:=#[]}->EP X pins σ Q (.ref ↑s) {s with heap:=h'}:=λits r' hz h' c' kp e=>
  {.ref ↑s,_,I.laid (t':=s.toks) kp (zh _) (show bu X.prog X.w _ h' _ (.lst ys) from{(hz),its,c',r',e}),rfl,q _ (I.bf.fresh (zh _))}
 rcases hq with hq | hq
 ·let⟨its,r',pl,hz⟩:=I.list hq
  let hlen:=⇑r';let⟨o,ho,hc,n,hd⟩:=pl.isList;exact call_list_seq p (.inl rfl) ho hc hd (λh' c' kp e=>fin its r' hz h' c' kp e) (by simp only[zS] <;> ext)
 ·let⟨its,r',pl,hz⟩:=I.tuple hq
  let hlen:=⇑r';let⟨o,ho,hc,n,hd⟩:=pl;exact call_list_seq p (.inr rfl) ho hc hd (λh' c' kp e=>fin its r' hz h' c' kp e) (by simp only[zS] <;> ext)
def cm:dI X (.type "tuple") (λxs H Q=>∃p ys,xs=[.ref p]/\((aE X.K H p ys/\∀l,H l=none->Q (.ref l) (upd H l (.tup ys)))\/(bK X.K H p ys/\Q (.ref p) H))):=by
 intro pins s σ H xs us Q I r h;let⟨p,ys,rfl,h⟩:=h;let⟨u,rfl,rx⟩:=vals1 r;cases rx;rcases h with⟨hq,q⟩ | ⟨hq,q⟩
 ·let⟨its,r',pl,hz⟩:=I.list hq
  let hlen:=⇑r';refine call_tuple_list pl.isList (λh' kp=>?_) (by simp only[zS] <;> ext);let I1:Inv X pins σ H {s with heap:=h'}:=I.kept (t':=s.toks) kp;let I2:Inv X pins σ (upd H h'.objs.size (.tup ys)) {s with heap:=h'.push {cls:=.type "tuple",data:=.seq its.toArray}}:=
   I1.laid (t':=s.toks) (λb o e=>yj _ e) (zh _) (show bu X.prog X.w _ _ _ (.tup ys) from{hz,its,r',IsTup.new _ _})
  exact{.ref h'.objs.size,_,I2,rfl,q _ (I1.bf.fresh (zh _))}
 ·let⟨its,r',pl,hz⟩:=I.tuple hq
  exact call_tuple_same pl {.ref p,H,I,rfl,q}
def QO (K:yq) (T:String) (x:V) (H:Hp):Prop:=match x with
 | .str _=>T ="str"
 | .int _=>T ="int"
 | .ref p=>(T ="list"/\∃xs,aE K H p xs)\/(T ="tuple"/\∃o,K.lookup p=some o/\o.cls=.type "tuple"/\o.dict=none)\/
   (T ="dict"/\((∃kvs,H p=some (.dK kvs))\/∃kvs,H p=some (.dT kvs)))\/(T ="set"/\∃S n,H p=some (.set S n))
 | _=>False
def M7 (I:Inv X pins σ H s) (r:RelV x v) (ty:QO X.K T x H) :
  s.TypeIs v T/\∀a,v=.ref a->∃ob,s.heap.get? a=some ob/\ob.dict=none:=by
 cases x with
 | str z=>
  let⟨t,rfl⟩:=r;cases(show T ="str" from ty);exact{wd s z t,λ_ e=>nomatch e}
 | int i=>
  let⟨t,rfl⟩:=r;cases(show T ="int" from ty);exact{typeIs_int s i t,λ_ e=>nomatch e}
 | ref p=>
  cases r;rcases ty with⟨rfl,xs,hq⟩ | ⟨rfl,o,hk,hc,hd⟩ | ⟨rfl,hk⟩ | ⟨rfl,S,n,hk⟩
  ·let⟨its,_,pl,_⟩:=I.list hq
   refine{pl.isList.typeIs,λa e=>?_};cases e;let⟨o,n,e,c,hd,_⟩:=pl;exact{(o),e,hd}
  ·refine{{o,I.iY p o hk,hc},λa e=>?_}
   cases e;exact{o,I.iY _ o hk,hd}
  ·let z:∃o,s.heap.get? p=some o/\o.ExactDict:=by
    rcases hk with⟨kvs,hk⟩ | ⟨kvs,hk⟩
    ·let⟨_,_,_,_,o,_,_,e,ex,_⟩:=I.bf p _ hk
     exact{(o),e,ex}
    ·let⟨_,_,_,_,o,_,_,e,ex,_⟩:=I.bf p _ hk
     exact{(o),e,ex}
   let⟨o,e,ex⟩:=z;refine{{(o),e,ex.1},λa e2=>?_};cases e2;exact{(o),e,ex.2.1}
  ·let⟨o,_,_,_,e,ex,_⟩:=I.bf p _ hk
   refine{{(o),e,ex.1},λa e2=>?_};cases e2;exact{(o),e,ex.2.1}
 | _=>exact False.elim ty
def EL (K:yq) (T:String) (r:V->List V->Hp->VK->Prop) (to:TE) (t:TA):TE:=λσ H Q=>to σ H λx H1=>QO K T x H1/\t σ H1 λxs H2=>r x xs H2 Q
variable {o e:Expr} {es:List Expr} {to:TE} {t:TA} {name:Str} {apos cpos:Pos} {T id:String} {r:V->List V->Hp->VK->Prop}
def cK (pa:PlainAttrs T) (slot:Slot T name id) (hty:typeOf (.builtin id)=pure (.type "method_descriptor")) (hm:Si X id r) (ho:PE X o to) (ha:PA X (e::es) t)
  (hbase:attributeBase o name X.env (eval o X.env)=eval o X.env<|>qe_)
  (hfew:((backTo cpos (starEach (e::es) X.env)).all (λx=>!x.1)&&(backToKw cpos (keywordEach [] X.env)).all (λx=>x.1.isSome)
   &&decide (⇑(e::es)+⇑([]:List Keyword)+(if([]:List Keyword).isEmpty then 0 else 1)<30))=true<|>qe_)
  (hline:(apos.endLine == cpos.line)=true<|>qe_) (hs:starEach (e::es) X.env=(false,eval e X.env)::starEach es X.env<|>qe_) (hplain:(backTo cpos (starEach es X.env)).any (·.1)=false<|>qe_) :
  PE X (.Call (.Attribute o name apos) (e::es) [] cpos) (EL X.K T r to t):=by
 intro pins s σ H Q I h;refine wpAny_Call_method_late hbase hfew hline rfl (bR (ho pins s σ H _ I h) λv s1 z0=>?_);let⟨x,H1,I1,r1,ty,q1⟩:=z0;let⟨h1,h2⟩:=M7 I1 r1 ty;refine{T,id,pa,slot,hty,h1,h2,?_};let hA:=ha cpos pins s1 σ H1 _ I1 q1;rw[hs] at hA ⊢;refine wb (by show(false||(backTo cpos (starEach es X.env)).any (·.1))=false;rw[hplain] <;> rfl) (Calls.evalArgs_plain ?_);refine bR hA λus s2 z0=>?_;let⟨vs,H2,I2,r2,q2⟩:=z0;exact hm pins s2 σ H2 x vs v us Q I2 r1 r2 q2
end
end L2
namespace L2
open PySem PySem.Spec PyProof.Rows
def MW (X:Cx) (id:String) (r:V->List V->Hp->VK->Prop):Prop:=
 ∀(pins:List (wM×Obj)) (s:wH) (σ:St) (H:Hp) (x:V) (xs:List V) (v:wG) (us:List wG) (Q:VK),Inv X pins σ H s->RelV x v->Vals xs us->r x xs H Q->
  wpAny (model X.prog X.w) X.A (call (.builtin id) (v::us)) (EP X pins σ Q) X.xe s
def Vals.one {x:V} {us:List wG} (h:Vals [x] us):∃u,us=[u]/\RelV x u:=by
 cases h with
 | cons r t=>cases t;exact{_,rfl,r}
section
variable {X:Cx} {pins:List (wM×Obj)} {σ:St} {H:Hp} {s:wH} {l b:wM} {xs ys zs:List V}
def Inv.LP {its its':List wG} {n:Nat} {f:Array wG->Array wG} {t':Nat} (I:Inv X pins σ H s) (hH:H l=some (.lst xs))
  (e:s.heap.get? l=some {cls:=.type "list",data:=.seq its.toArray n}) (hf:f its.toArray=its'.toArray) (hv:Vals ys its') (hz:⇑ys<=sizeLine) :
  Inv X pins σ (upd H l (.lst ys)) {s with heap:=s.heap.update l (Obj.mapSeq f),toks:=t'}:=by
 let q:=PySem.IsL.update e f;rw[hf] at q;refine I.write (x:=l) (e:=l) (by rw[hH];exact trivial) (.inl rfl) (λb' u hb hu=>(yo s.heap (Obj.mapSeq f) (Ne.symm hb)).trans hu) {_,q} ?_;exact{hz,its',_,hv,q}
def Inv.NP (I:Inv X pins σ H s) (hv:Vals ys its) (hz:⇑ys<=sizeLine) :
  Inv X pins σ (upd H ↑s (.lst ys)) {s with heap:=s.heap.push {cls:=.type "list",data:=.seq its.toArray},toks:=t'}:=
 I.laid (λ_ _ q=>yj _ q) (zh _) {hz,its,0,hv,ym _ rfl}
theorem Inv.fresh (I:Inv X pins σ H s):H ↑s=none:=I.bf.fresh (zh _)
def Inv.HK (I:Inv X pins σ H s) (hH:H l=some (.lst xs)):⇑xs<=sizeLine/\∃(its:List wG) (n:Nat),Vals xs its/\⇑xs=⇑its/\s.heap.get? l=some {cls:=.type "list",data:=.seq its.toArray n}:=by
 let⟨z,its,n,r,e⟩:=I.bf l _ hH;exact{(z),its,n,r,⇑r,e}
def sV (h:n<=sizeLine):Builtin.List.listTooLong n=false:=by
 unfold Builtin.List.listTooLong;exact zc ()
end
section
variable {X:Cx}
inductive iE (x:V) (vs:List V) (H:Hp) (Q:VK):Prop
 | mk (l:wM) (xs:List V) (y:V) (_:x=.ref l) (_:vs=[y]) (_:H l=some (.lst xs)) (_:⇑xs<sizeLine) (_:Q .aX (upd H l (.lst (xs++[y]))))
def cM:MW X "list.append" iE:=by
 intro pins s σ H x vs v us Q I rx rv h;let⟨l,xs,y,rfl,rfl,hH,hz,q⟩:=h;cases rx;let⟨u,rfl,ru⟩:=rv.one;let⟨z,its,n,r,hl,e⟩:=I.HK hH;refine xV F.slot_list_append {_,e,rfl} F.entry_list_append (F.args_list_append_2 _ _) (PySem.list_append l its.toArray n u (by rw[zS];ext)) {e,?_};refine{.aX,_,I.LP (its':=its++[u]) hH e (by simp) (r.append (.cons ru .nil)) ?_,rfl,q};rw[ze,List.length_singleton];ext
inductive Gy (x:V) (vs:List V) (H:Hp) (Q:VK):Prop
 | mk (l b:wM) (xs zs:List V) (_:x=.ref l) (_:vs=[.ref b]) (_:H l=some (.lst xs)) (_:H b=some (.lst zs)) (_:⇑xs+⇑zs<=sizeLine) (_:Q .aX (upd H l (.lst (xs++zs))))
def HJ:MW X "list.extend" Gy:=by
 intro pins s σ H x vs v us Q I rx rv h;let⟨l,b,xs,zs,rfl,rfl,hH,hB,hz,q⟩:=h;cases rx;let⟨u,rfl,ru⟩:=rv.one;cases ru;let⟨z,its,n,r,hl,e⟩:=I.HK hH;let⟨z2,its2,n2,r2,hl2,e2⟩:=I.HK hB;let hsz:its.toArray.size+its2.toArray.size<=sizeLine:=by rw[zS,zS];ext
 let hlong:¬(!its.toArray.isEmpty&&Builtin.List.listTooLong (its.toArray.size+its2.toArray.size))=true:=by
  rw[sV hsz,x8];exact zG
 refine xV F.slot_list_extend {_,e,rfl} F.entry_list_extend (F.args_list_extend_2 _ _)
  (AutoSeq1.list_extend_list_list_0 l its.toArray n b its2.toArray n2 hlong (by rw[zS];ext) ()) {e,e2,?_}
 refine{.aX,_,I.LP (its':=its++its2) hH e (by simp) (r.append r2) ?_,rfl,q};rw[ze];ext
end
section
variable {prog:wI} {w:wJ} {A:wK} {E:wG->wH->Prop} {s:wH}
end
section
variable {X:Cx}
end
end L2
namespace RV
open PySem PySem.W PySem.Calls PyProof.Rows
def qJ:∀(ns:List Int) (vs:List wG),WellAll P h vs (ns.map WData.int)->IntsAre vs ns:=by
 intro ns
 induction ns with
 | nil=>
  intro vs w;rw[yc] at w;cases w;exact .nil
 | cons n ns ih=>
  intro vs w;rw[zf] at w;cases w with
  | cons a b=>
   cases a;exact .cons _ _ (ih _ b)
def Ho {l:OpenLaw} {n:Nat} (hn:l.most=some n) {P:Params} {h:wN} {args:List WData} {vals:List wG}
  (hpre:l.row.toRowW.claim.pre args=true) (hwl:WellAll P h vals args) :
  ∃a vs ns,vals=[Value.ref a]/\args=[WData.list (ns.map WData.int)]/\h.get? a=some {cls:=.type "list",data:=.seq vs.toArray}/\IntsAre vs ns/\⇑ns<=n:=by
 let hsh:WShape.hasAll [] args [.list .int]=true:=(pre_splitW hpre).1;let hc:l.pre.holds [] {args:=args}=true:=(pre_splitW hpre).2;let⟨d,r,rfl,h1,h2⟩:=hasAllW_cons hsh;obtain rfl:=hasAllW_nil h2;let⟨xs,rfl,h3⟩:=hasW_list h1;let⟨ns,rfl⟩:=items_int h3;let hlen:⇑ns<=n:=by
  unfold OpenLaw.pre at hc;let h4:(WTm.not (.lt (.lit (.int (n:Int))) (.len (.arg 0)))).holds [] {args:=[.list (ns.map .int)]}=true:=by
   let h4:=(holds_andW hc).1;rw[hn] at h4;exact h4
  let h5:=condW_of h4 (w_not (w_lt w_lit (w_len_list (w_arg rfl))));rw[za] at h5;refine Nat.le_of_not_lt λq=>?_;let q':(n:Int)<((⇑ns:Nat):Int):=()
  first
   | (rw[zd q'] at h5;exact absurd h5 ∅)
   | (simp at h5;ext)
 cases hwl with
 | cons w1 w2=>
  cases w2;cases w1 with
  | list ho hall=>exact{_,_,ns,rfl,rfl,ho,qJ ns _ hall,hlen}
def HC (l:OpenLaw) (args:List WData):l.row.toRowW.claim.post args (.bool true) args=true:=
 postW_of (r:=l.row.toRowW) (X:=(true == true))
  (show WShape.has [] (.bool true) .bool=true by first | rfl | decide | simp[WShape.has,WShape.arms,WShape.armsAll])
  (show(WTm.eq .res (.lit (.bool true))).value [] {args:=args,res:=some (.bool true),after:=args}=some (.bool (true == true)) from w_eq_bool (w_res rfl) w_lit) rfl
def Ee {l:OpenLaw} {n:Nat} {q:wI} {loose:List Str} {XP:(Str->Option wG)->wN->Prop} {YP:wJ->wN->Prop} {d:DefRec}
  (hn:l.most=some n) (hdf:d.params.defaults=[])
  (call:∀(w:wJ) (s₀ s₁:wH) (mg mb:Str->Option wG) (fa:wM) (o:Obj) (pm cd doc:wG) (a:wM) (vs:List wG) (ns:List Int),
   Ground q loose [] XP w s₀ mg mb s₁.heap->YP w s₁.heap->
   s₁.heap.get? fa=some o->o.data=.func (docDef d.name d.params d.body d.scope pm cd doc)->s₁.heap.CodeRec cd d.name->mg d.name=some (.ref fa)->
   s₁.heap.get? a=some {cls:=.type "list",data:=.seq vs.toArray}->IntsAre vs ns->⇑ns<=n->s₁.gens=#[]->
   codeAny (model l.prog w) callerA (.call (.ref fa) {[.ref a],[]}) (λr s'=>r=.ok (.ret (.bool true))/\OldK s₁.heap s'.heap/\s'.os=s₁.os/\AllBare s'.gens) s₁) :
  WalkO q loose XP YP l.row.toRowW d [] (λf vs=>PySem.call f vs):=by
 intro w s₀ s₁ mg mb G Y fa o pm cd doc dV kV ho hd hcd hD hmg hg args vals as hpre hlay hrd hwl hlo;obtain rfl:dV=.none:=Dflts.none hD hdf;obtain rfl:kV=.none:=Dflts.noKw hD;let⟨a,vs,ns,rfl,rfl,hobj,hints,hlen⟩:=Ho hn hpre hwl;refine enter_call (xx (call w s₀ s₁ mg mb fa o pm cd doc a vs ns G Y ho (fd_plain hd) hcd hmg hobj hints hlen hg) λr s' hq=>?_);let⟨rfl,h2,h3,h4⟩:=hq;exact{.inl {.bool true,.bool true,[],rfl,λ_=>rfl,.bool true,HC l _,λ_=>{List.Pairwise.nil,λ_ hm=>(nomatch hm)}},h2,h3,h4}
section
variable {prog:wI} {w:wJ} {A:wK} {E:wG->wH->Prop} {s:wH} {K:Frag}
end
end RV
namespace L2
open PySem PySem.Spec PyProof.Rows
theorem vQ:∀{vs:List wG} {ns:List Int},IntsAre vs ns->Vals (ns.map V.int) vs
 | _,_,.nil=>.nil
 | _,_,.cons n t h=>.cons {(t),rfl} (vQ h)
def OA (H:Hp):Prop:=∀b,H b=none\/∃o xs,H b=some (.kz o (.lst xs))
def JY {P:wI} {w:wJ} {K:yq} {mg mb:Str->Option wG} {CX:Ew} {k:Nat} {fa a:wM} {fd:wL} {x:Str} {sp:Sp} {s₁:wH} {vs:List wG} {ns:List Int}
  (KX:K.In s₁.heap) (hns:s₁.heap.Ns mainGlobals mg) (hb:s₁.heap.Ns builtinsNs mb) (hbb:∀x:Str,x≠ "__name__"->mb x=bootBuiltins x) (hlim:s₁.heap.NoLimit) (hg:s₁.gens=#[])
  (ha:s₁.heap.get? a=some {cls:=.type "list",data:=.seq vs.toArray}) (hi:IntsAre vs ns) (hl:⇑ns<=sizeLine) (hr:dw k callerA)
  (F:∀base:wN,K.In base->base.Ns mainGlobals mg->bQ P w K mg base CX k fa fd [x] sp) (hbind:∀(s:wH) (u:wG),BindsTo s fd {[u],[]} [(x,u)])
  (hsp:∀H:Hp,OA H->aE K H a (ns.map V.int)->sp [.ref a] H (λv _=>v=.bl true) λ_ _ _=>False)
  (hCX:∀H e s',CX [] H s₁ (λ_ _ _=>False) e s'->False) :
  codeAny (model P w) callerA (.call (.ref fa) {[.ref a],[]}) (λr s'=>r=.ok (.ret (.bool true))/\OldK s₁.heap s'.heap/\s'.os=s₁.os/\AllBare s'.gens) s₁:=by
 let rv:=vQ hi;let lenV:=⇑hi;let core:∀H:Hp,OA H->aE K H a (ns.map V.int)->lQ P w H s₁.heap->(∀b,H b≠none->b=a)->(H a≠none->K.lookup a=none)->
   codeAny (model P w) callerA (.call (.ref fa) {[.ref a],[]}) (λr s'=>r=.ok (.ret (.bool true))/\OldK s₁.heap s'.heap/\s'.os=s₁.os/\AllBare s'.gens) s₁:=by
  intro H hO hS bf hA hK;let base_of:∀{b:wM} {o:Obj},s₁.heap.get? b=some o->H b=none->(BA s₁.heap H).get? b=some o:=λe n=>J9 e n;let noA:∀{b:wM} {o:Obj} {es:Array DictEntry} {ep:Nat},s₁.heap.get? b=some o->o.data=.dict es ep->H b=none:=λ{b o es ep} e d=>by
   cases q:H b with
   | none=>rfl
   | some u=>
    let e':b=a:=hA b (by rw[q];simp);subst e';rw[ha] at e;cases e;let d':Data.seq vs.toArray _=Data.dict es ep:=d;cases d'
  let nsK:∀{b:wM} {m:Str->Option wG},s₁.heap.Ns b m->(BA s₁.heap H).Ns b m:=λ{b m} ⟨o,es,ep,e,d,r⟩=>{o,es,ep,base_of e (noA e d),d,r}
  let hKb:K.In (BA s₁.heap H):=λb o e=>base_of (KX b o e) (by
   cases q:H b with
   | none=>rfl
   | some u=>
    let e':b=a:=hA b (by rw[q];simp);subst e';rw[hK (by rw[q];simp)] at e;cases e)
  let hM:Mod K mg (BA s₁.heap H):={hKb,nsK hns,{mb,nsK hb,hbb},let ⟨mc,h1,h2⟩:=hlim;{mc,nsK h1,h2}}
  let e0:Et P w K mg (BA s₁.heap H) callerA [] s₁ H:={rfl,hM,λb o e=>LN e,Nat.le_of_eq (HQ _ _),trivial,λb hb=>absurd (show b∈([]:List wM) from hb) (by simp),bf,.of_eq hg}
  refine xx ((F _ hKb (nsK hns)).run callerA [] s₁ H {[.ref a],[]} [.ref a] [.ref a] _ _ hr e0 (hbind s₁ (.ref a)) (.cons rfl .nil) (hsp H hO hS)) λr s' h=>?_;cases r with
  | error e=>exact(hCX H e s' h).elim
  | ok fl=>
   cases fl with
   | next=>exact False.elim h
   | brk=>exact False.elim h
   | cont=>exact False.elim h
   | ret u=>
    let⟨v,H',os,bare,un,hok',r',q⟩:=h;let q':v=.bl true:=q;subst q';obtain rfl:u=Value.bool true:=r';refine{rfl,OldK.of_keep λb o e=>?_,os,bare};cases q:H b with
    | none=>exact un.keep b o e q (by intro z;exact absurd (show b∈([]:List wM) from z) (by simp)) (by simp)
    | some u=>
     rcases hO b with z | ⟨ob,xs,z⟩
     ·rw[q] at z;cases z
     ·let z2:=un.ji b ob _ z
      let⟨e1,_⟩:=bf b _ z;let⟨e2,_⟩:=hok' b _ z2;rw[e] at e1;cases e1;exact e2
 cases hk:K.lookup a with
 | some o=>
  let e:=KX a o hk;rw[ha] at e;cases e;refine core (λ_=>none) (λ_=>.inl rfl) (.inr {_,vs.toArray,_,hk,rfl,rfl,rfl,by rw[zS,lenV];exact hl,by simpa using rv}) (λb u z=>by let z':(none:Option HO)=some u:=z;cases z') (λb z=>absurd rfl z) λz=>absurd rfl z
 | none=>
  refine core (λb=>if b=a then some (.kz {cls:=.type "list",data:=.seq vs.toArray} (.lst (ns.map V.int))) else none) (λb=>?_) (.inl (.inr {{cls:=.type "list",data:=.seq vs.toArray},yE rfl})) (λb u z=>?_) (λb z=>?_) λ_=>hk
  ·by_cases hb:b=a
   ·exact .inr {_,_,yE hb}
   ·exact .inl (yD hb)
  ·by_cases hb:b=a
   ·let z':=(yE hb).symm.trans z
    cases z';subst hb;exact{ha,by rw[za];exact hl,vs,_,rv,ha}
   ·let z':=(yD hb).symm.trans z
    cases z'
  ·by_cases hb:b=a
   ·exact hb
   ·exact absurd (yD hb) z
end L2
namespace L2
open PySem PySem.Spec PyProof.Rows
def K9 {l:PySem.W.OpenLaw} {n k:Nat} {q:wI} {loose:List Str} {XP:(Str->Option wG)->wN->Prop} {YP:wJ->wN->Prop} {d:DefRec} {K:Params->yq} {CX:wJ->Ew} {sp:wJ->Sp} {x:Str}
  (hn:l.most=some n) (hn2:n<=sizeLine) (hdf:d.params.defaults=[]) (hr:dw k callerA)
  (hY:∀(w:wJ) (h:wN),YP w h->(K w.params).In h)
  (F:∀(w:wJ) (mg:Str->Option wG) (fa:wM) (h:wN),(K w.params).In h->h.Ns mainGlobals mg->mg d.name=some (.ref fa)->
   ∃fd:wL,(∀(s:wH) (u:wG),BindsTo s fd {[u],[]} [(x,u)])/\
    ∀base:wN,(K w.params).In base->base.Ns mainGlobals mg->bQ l.prog w (K w.params) mg base (CX w) k fa fd [x] (sp w))
  (hsp:∀(w:wJ) (H:Hp) (a:wM) (ns:List Int),⇑ns<=n->OA H->aE (K w.params) H a (ns.map V.int)->sp w [.ref a] H (λv _=>v=.bl true) λ_ _ _=>False)
  (hCX:∀(w:wJ) (H:Hp) (s:wH) (e:wG) (s':wH),CX w [] H s (λ_ _ _=>False) e s'->False) :
  PySem.W.WalkO q loose XP YP l.row.toRowW d [] (λf vs=>PySem.call f vs):=by
 refine RV.Ee hn hdf λw s₀ s₁ mg mb fa o pm cd doc a vs ns G Y ho hd hcd hmg hobj hints hlen hg=>?_;let KX:=hY w _ Y;let⟨fd,hb,hF⟩:=F w mg fa _ KX G.T.g hmg;exact JY KX G.T.g G.T.b G.T.builtins G.T.nolimit hg hobj hints (zH hlen hn2) hr hF hb (λH hO hS=>hsp w H a ns hlen hO hS) λH e s'=>hCX w H s₁ e s'
end L2
namespace L2
open PySem PySem.Spec PyProof.Rows
def inClass (s:Stmt) (j:Nat):Stmt:=match s with
 | .ClassDef _ _ _ body _ _ _ _ _ _ _=>body.getD j (.Pass {0,0,0,0})
 | _=>.Pass {0,0,0,0}
noncomputable def bB (s:Stmt):Arguments:=match s with
 | .FunctionDef _ a _ _ _ _ _ _ _ _=>a
 | _=>{posonlyargs:=[],args:=[],vararg:=none,kwonlyargs:=[],kw_defaults:=[],kwarg:=none,defaults:=[]}
noncomputable def aZ (s:Stmt):List Stmt:=match s with
 | .FunctionDef _ _ b _ _ _ _ _ _ _=>b
 | _=>[]
noncomputable def aD (s:Stmt):Scope:=match s with
 | .FunctionDef _ _ _ _ _ _ sc _ _ _=>sc
 | _=>{kind:=.function,names:=[],isGenerator:=false,isCoroutine:=false}
abbrev uz:Ew:=λ_ _ _ _ _ _=>False
abbrev E0:XK:=λ_ _ _=>False
def sL:Passes uz X E0:=λ_ _ _ _ _ _ _ h=>h.elim
structure Iz (K:yq) (x qual:Str) (st:Stmt) (f:wM) (fd:wL):Prop where
 ex:∃(oc:wG) (od:Option wM) (kV doc pm:wG) (an:Option wM) (cdv ct:wG) (osl:Array (Option wG)),
  fd=PySem.W.fnOf x qual (bB st) (aZ st) (aD st) .none kV doc pm an cdv ct/\K.lookup f=some {oc,od,.func fd,osl}/\PySem.W.codeIn K cdv qual=true
 kp:PySem.W.keepIn K (.ref f)=true
section
variable {P:wI} {w:wJ} {K:yq} {mg:Str->Option wG} {base:wN}
def Iz.ok {x qual:Str} {st:Stmt} {f:wM} {fd:wL} {N ps:List Str} {k:Nat} {sp:Sp} (F:Iz K x qual st f fd) (S:dr N ps (aD st)) (len:∀vs H Q E,sp vs H Q E->⇑vs=⇑ps)
  (hbody:∀(cdv:wG) (A:wK) (outer:List Env) (s:wH) (H:Hp) (vs:List V) (Q:VK) (E:XK),dw k (A.deeper (envOfC qual (aD st) ↑s f cdv))->sp vs H Q E->
   ∃t,vM (gk uz P w K mg base N qual (aD st) f cdv A outer s H E).Cp (aZ st) t/\t {nx:=λ_ H'=>Q .aX H',rt:=Q} (start N vs) H):bQ P w K mg base uz (k+1) f fd ps sp:=by
 let⟨oc,od,kV,doc,pm,an,cdv,ct,osl,rfl,lk,hcd⟩:=F.ex;refine Kh lk hcd S len λA outer s H vs Q E hr hsp=>?_;let⟨t,h,q⟩:=hbody cdv A outer s H vs Q E hr hsp;exact{(t),h.Cp,q}
def Iz.binds {x qual:Str} {st:Stmt} {f:wM} {fd:wL} {ps:List Str} (F:Iz K x qual st f fd)
  (h:∀(kV doc pm:wG) (an:Option wM) (cdv ct:wG) (us:List wG),⇑us=⇑ps->bindArgs (PySem.W.fnOf x qual (bB st) (aZ st) (aD st) .none kV doc pm an cdv ct) {us,[]}=pure (ps.zip us)):Binds K fd ps []:=by
 let⟨oc,od,kV,doc,pm,an,cdv,ct,osl,rfl,lk,hcd⟩:=F.ex;exact .all (h kV doc pm an cdv ct)
def fg {x qual:Str} {st:Stmt} {f:wM} {oc:wG} {od an:Option wM} {osl:Array (Option wG)} {kV doc pm cdv ct:wG} (l:K.lookup f=some {oc,od,.func (PySem.W.fnOf x qual (bB st) (aZ st) (aD st) .none kV doc pm an cdv ct),osl})
  (c:PySem.W.codeIn K cdv qual=true) (k:PySem.W.keepIn K (.ref f)=true):Iz K x qual st f (PySem.W.fnOf x qual (bB st) (aZ st) (aD st) .none kV doc pm an cdv ct):={{(oc),od,kV,doc,pm,an,cdv,ct,osl,rfl,l,c},k}
end
def kY (hr:dw k A):A.units+1<cLine:=Nat.lt_of_le_of_lt (Nat.add_le_add_left (by decide:1<=64) _) hr.units
section
variable {X:Cx}
def pv (i:Nat) (hN:X.N[i]?=some x<|>qe_) (hv:MV X.env.scope x<|>qg_) (hd:(x == ("__debug__": Str))=false<|>qb_)
  (hcd:(x == ("__classdict__": Str))=false<|>qb_):PE X (.Name x pos) (aB i):=NK hN hv hd hcd
end
def Px {A B:Prop} (h:B):if false=true then A else B:=by
 rw[yD zG];exact h
def Rm {A B:Prop} (h:A):if true=true then A else B:=by
 rw[yE rfl];exact h
def qI {c A B:Prop} [Decidable c] (h1:c->A) (h2:¬c->B):if c then A else B:=by
 by_cases h:c
 ·rw[yE h]
  exact h1 h
 ·rw[yD h]
  exact h2 h
def MN {c A B:Prop} [Decidable c] (hc:c) (h:B):if(!decide c)=true then A else B:=by
 rw[zd hc];exact Px h
def ao (H H':Hp):Prop:=∀b o,H b=some o->H' b=some o
def ao.refl (H:Hp):ao H H:=λ_ _ h=>h
def ao.trans (a:ao H H1) (b:ao H1 H2):ao H H2:=λc o h=>b c o (a c o h)
def ao.free {H H':Hp} (e:ao H H') {l:wM} (h:H' l=Option.none):H l=Option.none:=by
 cases q:H l with
 | none=>rfl
 | some o=>
  rw[e l o q] at h;cases h
def ao.seq {K:yq} {H H':Hp} {a:wM} {xs:List V} (e:ao H H') (h:aE K H a xs):aE K H' a xs:=by
 rcases h with(h | ⟨o,h⟩) | h
 ·exact .inl (.inl (e _ _ h))
 ·exact .inl (.inr {o,e _ _ h})
 ·exact .inr h
end L2
namespace Lm
def red (t b:Int):Int×Int:=(t/(Int.gcd t b:Int),b/(Int.gcd t b:Int))
def BC {t b:Int} (hb:0<b):0<(Int.gcd t b:Int):=by
 have:0<Int.gcd t b:=Int.gcd_pos_of_ne_zero_right t ();ext
def Lw {t b k:Int} (hk:0<k) (hb:0<b):red (k*t) (k*b)=red t b:=by
 let g0:=BC (t:=t) hb;let e:(Int.gcd (k*t) (k*b):Int)=k*(Int.gcd t b:Int):=by
  rw[Int.gcd_mul_left];simp only[Int.natCast_mul];rw[Int.natAbs_of_nonneg ()]
 unfold red;rw[e,Int.mul_ediv_mul_of_pos _ _ hk,Int.mul_ediv_mul_of_pos _ _ hk]
def A0 {t b:Int} (hb:0<b):∃g,0<g/\t=g*(red t b).1/\b=g*(red t b).2/\0<(red t b).2/\(red t b).2<=b:=by
 let g0:=BC (t:=t) hb;let d1:(Int.gcd t b:Int) ∣ t:=Int.gcd_dvd_left ..;let d2:(Int.gcd t b:Int) ∣ b:=Int.gcd_dvd_right ..;let e1:(Int.gcd t b:Int)*(t/(Int.gcd t b:Int))=t:=Int.mul_ediv_cancel' d1;let e2:(Int.gcd t b:Int)*(b/(Int.gcd t b:Int))=b:=Int.mul_ediv_cancel' d2;refine{_,g0,e1.symm,e2.symm,?_,?_}
 ·exact Int.ediv_pos_of_pos_of_dvd hb () d2
 ·exact Int.ediv_le_self _ ()
def Fc {t b:Int} (ht:0<=t):0<=(red t b).1:=Int.ediv_nonneg ht (Int.natCast_nonneg _)
def Jq {t b:Int} (ht:0<=t):(red t b).1<=t:=Int.ediv_le_self _ ht
def Lu {t b:Int} (hb:0<b):red (red t b).1 (red t b).2=red t b:=by
 let⟨g,g0,e1,e2,p,_⟩:=A0 (t:=t) hb;let h:=Lw (t:=(red t b).1) (b:=(red t b).2) g0 p;rw[<-e1,<-e2] at h;exact h.symm
def add (x y:Int×Int):Int×Int:=red (x.1*y.2+y.1*x.2) (x.2*y.2)
end Lm
namespace Lm
def Rd (x:Int×Int):Prop:=∃t b,0<=t/\0<b/\x=red t b
def Rd.pos {x:Int×Int} (h:Rd x):0<=x.1/\0<x.2/\red x.1 x.2=x:=by
 let⟨t,b,ht,hb,rfl⟩:=h;let⟨g,g0,e1,e2,p,_⟩:=A0 (t:=t) hb;exact{Fc ht,p,Lu hb}
def Rd.zero:Rd (0,1):={0,1,∅,∅,∅}
theorem Rd.add {x y:Int×Int} (h:Rd x) (k:Rd y):Rd (add x y):=by
 let⟨a,b,_⟩:=h.pos;let⟨c,d,_⟩:=k.pos;refine{_,_,?_,xg b d,rfl};exact Int.add_nonneg (xI a ()) (xI c ())
def Kd {x y:Int} (hx:0<=x) (hy:0<y):Int.gcd y (x%y)=Int.gcd x y:=by
 let e:(x%y).natAbs=x.natAbs%y.natAbs:=by
  let⟨a,rfl⟩:=yB hx;let⟨b,rfl⟩:=yB (yR hy);rfl
 show Nat.gcd y.natAbs (x%y).natAbs=Nat.gcd x.natAbs y.natAbs;rw[e,Nat.gcd_comm x.natAbs,Nat.gcd_rec y.natAbs x.natAbs,Nat.gcd_comm]
def N3 {t b:Int} (hb:0<b):(Int.gcd t b:Int)<=b:=by
 let h:Int.gcd t b<=b.natAbs:=Nat.gcd_le_right _ ();ext
end Lm
namespace Lm
end Lm
namespace Lm
theorem GW {c:Nat}:∀{p q A B:List Nat},c∉p->c∉q->p++c::A=q++c::B->p=q/\A=B
 | [],[],A,B,_,_,h=>{rfl,by simpa using h}
 | [],y::q,A,B,_,hq,h=>by
  simp at h;exact absurd (by rw[h.1];exact zk) hq
 | x::p,[],A,B,hp,_,h=>by
  simp at h;exact absurd (by rw[<-h.1];exact zk) hp
 | x::p,y::q,A,B,hp,hq,h=>by
  simp only[we,List.cons.injEq] at h;let⟨e,h⟩:=h;let⟨e1,e2⟩:=GW (λz=>hp (zj _ z)) (λz=>hq (zj _ z)) h;exact{by rw[e,e1],e2}
def Ka:∀(n:Nat),0<n->∃c r,Nat.toDigits 10 n=c::r/\c≠'0':=by
 intro n
 induction n using Nat.strongRecOn with
 | _ n ih=>
  intro hn
  by_cases h:n<10
  ·rw[Nat.toDigits_of_lt_base h]
   refine{_,[],rfl,?_};exact(by decide:∀n<10,0<n->Nat.digitChar n≠'0') n h hn
  ·let hd:n%10<10:=Nat.mod_lt _ ∅
   let⟨c,r,e,hc⟩:=ih (n/10) () ();let t:=Nat.toDigits_append_toDigits (b:=10) (n:=n/10) (d:=n%10) ∅ () hd;rw[Nat.div_add_mod,e] at t;exact{c,r++Nat.toDigits 10 (n%10),by rw[<-t];rfl,hc}
def NQ {n k:Nat} (hk:0<k):n<10^k->⇑(Nat.toDigits 10 n)<=k:=by
 intro h
 induction k generalizing n with
 | zero=>ext
 | succ k ih=>
  by_cases h10:n<10
  ·rw[Nat.toDigits_of_lt_base h10];simp
  ·let hd:n%10<10:=Nat.mod_lt _ ∅
   let hk0:0<k:=by
    rcases Nat.eq_zero_or_pos k with rfl | z
    ·simp at h;ext
    ·exact z
   have:=ih hk0 (n:=n/10) (by rw[Nat.div_lt_iff_lt_mul ∅];rw[Nat.pow_succ] at h;exact h);let t:=Nat.toDigits_append_toDigits (b:=10) (n:=n/10) (d:=n%10) ∅ () hd;rw[Nat.div_add_mod] at t;rw[<-t,ze,Nat.toDigits_of_lt_base hd];simp;ext
end Lm
namespace L2
open PySem
def ei (t:Bool) (h:wN) (a:wM) (items:Array wG):Prop:=match t with
 | true=>h.IsTuple a items
 | false=>h.IsList a items
def bU (t:Bool) (h:wN) (it a:wM) (k:Nat):Prop:=match t with
 | true=>h.IsTupleIter it a k
 | false=>h.IsListIter it a k
noncomputable def fS (t:Bool) (a:wM):Obj:=match t with
 | true=>{cls:=.type "tuple_iterator",data:=.fields #[.ref a,.int 0 0]}
 | false=>{cls:=.type "list_iterator",data:=.fields #[.ref a,.int 0 0]}
theorem ei.at {t:Bool} {h h':wN} {a:wM} {items:Array wG} (x:ei t h a items) (e:∀o,h.get? a=some o->h'.get? a=some o):ei t h' a items:=by
 cases t
 ·exact Heap.IsList.at x e
 ·let⟨o,ho,r⟩:=x;exact{o,e o ho,r}
theorem bU.at {t:Bool} {h h':wN} {it a:wM} {k:Nat} (x:bU t h it a k) (e:∀o,h.get? it=some o->h'.get? it=some o):bU t h' it a k:=by
 cases t
 ·exact Heap.IsListIter.at x e
 ·exact Heap.IsTupleIter.at x e
def ei.but {t:Bool} {h h':wN} {a b:wM} {items:Array wG} (x:ei t h a items) (hs:Heap.SameBut b h h') (n:a≠b):ei t h' a items:=x.at λo e=>hs.extBut a o n e
def bU.but {t:Bool} {h h':wN} {it a b:wM} {k:Nat} (x:bU t h it a k) (hs:Heap.SameBut b h h') (n:it≠b):bU t h' it a k:=x.at λo e=>hs.extBut it o n e
theorem bU.get {t:Bool} {h:wN} {it a:wM} {k:Nat} (x:bU t h it a k):∃o,h.get? it=some o/\∀v,o.data≠.cell v:=by
 cases t
 ·let⟨o,e,_,d⟩:=x;exact{o,e,λv z=>by rw[d] at z;cases z}
 ·let⟨o,e,_,d⟩:=x;exact{o,e,λv z=>by rw[d] at z;cases z}
def bU.new (t:Bool) (h:wN) (a:wM):bU t (h.push (fS t a)) h.objs.size a 0:=by
 cases t
 ·exact{_,ym _ rfl,rfl,rfl}
 ·exact{_,ym _ rfl,rfl,rfl}
section
variable {prog:wI} {w:wJ} {A:wK} {E:wG->wH->Prop} {s:wH}
def qU {t:Bool} {a:wM} {items:Array wG} {Q:wG->wH->Prop} (hl:ei t s.heap a items) (hQ:Q (.ref ↑s) {s with heap:=s.heap.push (fS t a)}) :
  wpAny (model prog w) A (pyIter (.ref a)) Q E s:=by
 cases t
 ·exact x9 hl hQ
 ·exact wpAny_pyIter_tuple hl hQ
def qT {t:Bool} {it a:wM} {i:Nat} {items:Array wG} {x:wG} {Q:wG->wH->Prop} (hit:bU t s.heap it a i) (hl:ei t s.heap a items) (hx:items[i]?=some x)
  (hQ:∀h',bU t h' it a (i+1)->Heap.SameBut it s.heap h'->Q x {s with heap:=h'}):wpAny (model prog w) A (Builtin.SmallTypes.nextOf (.ref it)) Q E s:=by
 cases t
 ·exact wpAny_nextOf_list_item hit hl hx hQ
 ·let hit':s.heap.IsTupleIter it a i:=hit
  let⟨o,ho,hc,hd⟩:=id hit';let⟨ol,hol,_,nl,hdl⟩:=(show s.heap.IsTuple a items from hl)
  unfold Builtin.SmallTypes.nextOf;refine yi (yO (name:=Str.ofString "__next__") hit'.typeIs xJ (yS xJ hit'.typeIs F.entry_tuple_iterator_next ?_ (F.args_tuple_iterator_next_1 _)));show wpAny _ _ (field (.ref it) 0 >>= _) _ _ s;refine yi (yQ ho hd (x:=.ref a) rfl ?_);show wpAny _ _ (if(Value.ref a == Value.none)=true then _ else _) _ _ s;rw[yD (show¬((Value.ref a == Value.none)=true) from zG)];show wpAny _ _ (field (.ref it) 1 >>= _) _ _ s;refine yi (yQ ho hd (x:=.int i 0) rfl ?_);show wpAny _ _ (seqItems? (.ref a) >>= _) _ _ s;refine yi (y9 hol hdl ?_);simp only[xF,hx];refine yi (wpAny_setField ho hd (by simp) (yk {x,rfl,yk (hQ _ ?_ (wt ..))}));exact{_,yp _ ho (Obj.isFreed_of_fields (wA hd _)),(Obj.cls_mapFields ..).trans hc,by rw[wA hd];simp[rawInt]}
def qS {t:Bool} {it a:wM} {i:Nat} {items:Array wG} {Q:wG->wH->Prop} (hh:A.handled=none) (hit:bU t s.heap it a i) (hl:ei t s.heap a items) (hx:items[i]?=none)
  (hE:∀h' e,Heap.ExtBut it s.heap h'->(∃o,h'.get? e=some o/\o.cls=.type "StopIteration")->E (.ref e) {s with heap:=h'}):wpAny (model prog w) A (Builtin.SmallTypes.nextOf (.ref it)) Q E s:=by
 cases t
 ·exact wpAny_nextOf_list_end hh hit hl hx hE
 ·let hit':s.heap.IsTupleIter it a i:=hit
  let⟨o,ho,hc,hd⟩:=id hit';let⟨ol,hol,_,nl,hdl⟩:=(show s.heap.IsTuple a items from hl)
  unfold Builtin.SmallTypes.nextOf;refine yi (yO (name:=Str.ofString "__next__") hit'.typeIs xJ (yS xJ hit'.typeIs F.entry_tuple_iterator_next ?_ (F.args_tuple_iterator_next_1 _)));show wpAny _ _ (field (.ref it) 0 >>= _) _ _ s;refine yi (yQ ho hd (x:=.ref a) rfl ?_);show wpAny _ _ (if(Value.ref a == Value.none)=true then _ else _) _ _ s;rw[yD (show¬((Value.ref a == Value.none)=true) from zG)];show wpAny _ _ (field (.ref it) 1 >>= _) _ _ s;refine yi (yQ ho hd (x:=.int i 0) rfl ?_);show wpAny _ _ (seqItems? (.ref a) >>= _) _ _ s;refine yi (y9 hol hdl ?_);simp only[xF,hx];refine yi (wpAny_rule (yi (wpAny_setField ho hd (by simp) ?_)));show wpAny _ _ (newExc (.type "StopIteration") [] >>= _) _ _ _;refine yi ?_;simp only[newExc,newTuple];refine yi (yU ?_ (by size_fits));refine yi (m:=firstArgMember _ _) (wpAny_of_eq (a:=Value.none) (by first | rfl | (simp only[firstArgMember];rfl)) (yU ?_ (by size_fits)));simp only[raiseNew];refine yi (wpAny_handled ?_)
  first | rw[show A.in1.handled=none from hh] | rw[hh]
  exact yi (yk (wpAny_throw (hE _ _ (((wt ..).extBut.push _).push _) {_,ym _ rfl,rfl})))
structure OI (z TI TO i1 i2:wM):Prop where
 a1:TI≠z
 a2:TO≠z
 a3:i1≠z
 a4:i2≠z
 a5:TI≠TO
 a6:TI≠i1
 a7:TI≠i2
 a8:TO≠i1
 a9:TO≠i2
 b1:i1≠i2
structure KP (l z TO i1 i2:wM):Prop where
 a1:l≠z
 a2:l≠TO
 a3:l≠i1
 a4:l≠i2
def Er (z TO i1 i2:wM) (h h':wN):Prop:=∀c o,c≠z->c≠TO->c≠i1->c≠i2->h.get? c=some o->h'.get? c=some o
structure MU (t1 t2:Bool) (h:wN) (z TI TO i1 i2 l1 l2:wM) (k:Nat) (f0:wG):Prop where
 z:IsZip h z TI TO f0
 ti:IsPair h TI (.ref i1) (.ref i2)
 to:∃a b,IsPair h TO a b
 i1:bU t1 h i1 l1 k
 i2:bU t2 h i2 l2 k
def IJ {t1 t2:Bool} {z TI TO i1 i2 l1 l2:wM} {k:Nat} {xs ys:Array wG} {x y:wG} {Q:wG->wH->Prop} (D:OI z TI TO i1 i2) (L1:KP l1 z TO i1 i2) (L2:KP l2 z TO i1 i2)
  (S:MU t1 t2 s.heap z TI TO i1 i2 l1 l2 k .none) (hl1:ei t1 s.heap l1 xs) (hl2:ei t2 s.heap l2 ys) (hx:xs[k]?=some x) (hy:ys[k]?=some y)
  (hQ:∀h',MU t1 t2 h' z TI TO i1 i2 l1 l2 (k+1) (rawInt ↑s)->IsPair h' ↑s x y->Er z TO i1 i2 s.heap h'->Q (.ref ↑s) {s with heap:=h'}) :
  wpAny (model prog w) A (Builtin.«zip.__next__» {[.ref z],[]}) (λfin s'=>∃v,fin=.done (.ret v)/\Q v s') E s:=by
 let⟨hz,hTI,⟨a,b,hTO⟩,h1,h2⟩:=S;show wpAny _ _ (field (.ref z) 2 >>= _) _ _ _;refine yi (yQ hz rfl (x:=.bool false) rfl ?_);show wpAny _ _ (field (.ref z) 3 >>= _) _ _ _;refine yi (yQ hz rfl (x:=.ref TI) rfl (yi (y9 hTI rfl ?_)));show wpAny _ _ (Builtin.SmallTypes.ownedTupleIsFree (.ref z) >>= _) _ _ _;refine yi ?_;unfold Builtin.SmallTypes.ownedTupleIsFree;refine yi (yQ hz rfl (x:=.none) rfl (yk ?_));simp only[wu];refine yi (wpAny_rule (yi (yQ hz rfl (x:=.ref TO) rfl (yi (xn hz (by simp) λg1 z1 q1=>?_)))));replace z1:IsZip g1 z TI TO .ellipsis:=z1;refine yi ?_;simp only[List.zipIdx_cons,List.zipIdx_nil,List.forIn_cons,List.forIn_nil];refine yi (yi (wpAny_onRaise ?_));show wpAny _ _ (Builtin.SmallTypes.nextOf (.ref i1) >>= _) _ _ _;refine yi (qT (h1.but q1 D.a3) (hl1.but q1 L1.a1) hx λg2 p2 q2=>yk ?_);let o2:IsPair g2 TO a b:=q2.extBut _ _ D.a8 (q1.extBut _ _ D.a2 hTO);refine yi (y9 o2 rfl (yi (wpAny_updateSeq_pair o2 λg3 o3 q3=>yi (wpAny_letGo (yk (yi (yi (wpAny_onRaise ?_))))))));replace o3:IsPair g3 TO x b:=o3;show wpAny _ _ (Builtin.SmallTypes.nextOf (.ref i2) >>= _) _ _ _;refine yi (qT (((h2.but q1 D.a4).but q2 D.b1.symm).but q3 D.a9.symm) (((hl2.but q1 L2.a1).but q2 L2.a3).but q3 L2.a2) hy λg4 p4 q4=>yk ?_);let o4:IsPair g4 TO x b:=q4.extBut _ _ D.a9 o3;refine yi (y9 o4 rfl (yi (wpAny_updateSeq_pair o4 λg5 o5 q5=>yi (wpAny_letGo (yk (yk ?_))))));replace o5:IsPair g5 TO x y:=o5;refine yi (y9 o5 rfl (yi (wpAny_newTuple ?_)));let sz:g5.objs.size=↑s:=by rw[q5.1,q4.1,q3.1,q2.1,q1.1]
 let z5:IsZip g5 z TI TO .ellipsis:=q5.extBut _ _ D.a2.symm (q4.extBut _ _ D.a4.symm (q3.extBut _ _ D.a2.symm (q2.extBut _ _ D.a3.symm z1)));let k5:Er z TO i1 i2 s.heap g5:=λc o c1 c2 c3 c4 e=>q5.extBut _ _ c2 (q4.extBut _ _ c4 (q3.extBut _ _ c2 (q2.extBut _ _ c3 (q1.extBut _ _ c1 e))));let r1:bU t1 g5 i1 l1 (k+1):=((p2.but q3 D.a8.symm).but q4 D.b1).but q5 D.a8.symm;let r2:bU t2 g5 i2 l2 (k+1):=p4.but q5 D.a9.symm;let zl:z<g5.objs.size:=yn z5;show wpAny _ _ (Builtin.SmallTypes.ownedTupleHandOut (.ref z) (.ref g5.objs.size) >>= _) _ _ _;refine yi ?_;unfold Builtin.SmallTypes.ownedTupleHandOut;let z6:IsZip (g5.push {cls:=.type "tuple",data:=.seq #[x,y]}) z TI TO .ellipsis:=yj _ z5;refine yi (xn z6 (by simp) λg7 z7 q7=>?_);replace z7:IsZip g7 z TI TO (rawInt g5.objs.size):=z7;refine xn z7 (by simp) λg8 z8 q8=>?_;replace z8:IsZip g8 z TI TO (rawInt g5.objs.size):=z8;let up:∀c o,c≠z->g5.get? c=some o->g8.get? c=some o:=λc o c1 e=>q8.extBut _ _ c1 (q7.extBut _ _ c1 (yj _ e));let t8:IsPair g8 g5.objs.size x y:=q8.extBut _ _ (zZ zl) (q7.extBut _ _ (zZ zl) (ym _ rfl));rw[sz] at z8 t8;refine yk {_,rfl,?_};show Q (.ref g5.objs.size) _;rw[sz];exact hQ g8 {z8,up _ _ D.a1 (k5 _ _ D.a1 D.a5 D.a6 D.a7 hTI),{_,_,up _ _ D.a2 o5},r1.at λo e=>up _ o D.a3 e,r2.at λo e=>up _ o D.a4 e} t8 λc o c1 c2 c3 c4 e=>up c o c1 (k5 c o c1 c2 c3 c4 e)
def II {t1 t2:Bool} {z TI TO i1 i2 l1 l2:wM} {k:Nat} {xs ys:Array wG} {Q:Fin->wH->Prop} (hh:A.handled=none) (D:OI z TI TO i1 i2) (L1:KP l1 z TO i1 i2) (L2:KP l2 z TO i1 i2)
  (S:MU t1 t2 s.heap z TI TO i1 i2 l1 l2 k .none) (hl1:ei t1 s.heap l1 xs) (hl2:ei t2 s.heap l2 ys) (hend:xs[k]?=none\/ys[k]?=none)
  (hE:∀h' e,Er z TO i1 i2 s.heap h'->(∃o,h'.get? e=some o/\o.cls=.type "StopIteration")->E (.ref e) {s with heap:=h'}) :
  wpAny (model prog w) A (Builtin.«zip.__next__» {[.ref z],[]}) Q E s:=by
 let⟨hz,hTI,⟨a,b,hTO⟩,h1,h2⟩:=S;show wpAny _ _ (field (.ref z) 2 >>= _) _ _ _;refine yi (yQ hz rfl (x:=.bool false) rfl ?_);show wpAny _ _ (field (.ref z) 3 >>= _) _ _ _;refine yi (yQ hz rfl (x:=.ref TI) rfl (yi (y9 hTI rfl ?_)));show wpAny _ _ (Builtin.SmallTypes.ownedTupleIsFree (.ref z) >>= _) _ _ _;refine yi ?_;unfold Builtin.SmallTypes.ownedTupleIsFree;refine yi (yQ hz rfl (x:=.none) rfl (yk ?_));simp only[wu];refine yi (wpAny_rule (yi (yQ hz rfl (x:=.ref TO) rfl (yi (xn hz (by simp) λg1 z1 q1=>?_)))));replace z1:IsZip g1 z TI TO .ellipsis:=z1;refine yi ?_;simp only[List.zipIdx_cons,List.zipIdx_nil,List.forIn_cons,List.forIn_nil];refine yi (yi (wpAny_onRaise ?_));show wpAny _ _ (Builtin.SmallTypes.nextOf (.ref i1) >>= _) _ _ _;cases hx:xs[k]? with
 | none=>
  refine yi (qS hh (h1.but q1 D.a3) (hl1.but q1 L1.a1) hx λg2 e q2 he=>?_);let⟨oe,hoe,hce⟩:=he;let z2:IsZip g2 z TI TO .ellipsis:=q2 _ _ D.a3.symm z1;let hez:e≠z:=λx=>by subst x;rw[z2] at hoe;cases hoe;simp at hce
  exact xn z2 (by simp) λg3 _ q3=>hE g3 e (λc o c1 _ c3 _ x=>q3.extBut _ _ c1 (q2 _ _ c3 (q1.extBut _ _ c1 x))) {oe,q3.extBut _ _ hez hoe,hce}
 | some x=>
  let hy:ys[k]?=none:=by rcases hend with h | h;rw[hx] at h;cases h;exact h
  refine yi (qT (h1.but q1 D.a3) (hl1.but q1 L1.a1) hx λg2 p2 q2=>yk ?_);let o2:IsPair g2 TO a b:=q2.extBut _ _ D.a8 (q1.extBut _ _ D.a2 hTO);refine yi (y9 o2 rfl (yi (wpAny_updateSeq_pair o2 λg3 o3 q3=>yi (wpAny_letGo (yk (yi (yi (wpAny_onRaise ?_))))))));show wpAny _ _ (Builtin.SmallTypes.nextOf (.ref i2) >>= _) _ _ _;refine yi (qS hh (((h2.but q1 D.a4).but q2 D.b1.symm).but q3 D.a9.symm) (((hl2.but q1 L2.a1).but q2 L2.a3).but q3 L2.a2) hy λg4 e q4 he=>?_);let⟨oe,hoe,hce⟩:=he;let z4:IsZip g4 z TI TO .ellipsis:=q4 _ _ D.a4.symm (q3.extBut _ _ D.a2.symm (q2.extBut _ _ D.a3.symm z1));let hez:e≠z:=λx=>by subst x;rw[z4] at hoe;cases hoe;simp at hce
  exact xn z4 (by simp) λg5 _ q5=>hE g5 e (λc o c1 c2 c3 c4 x=>q5.extBut _ _ c1 (q4 _ _ c4 (q3.extBut _ _ c2 (q2.extBut _ _ c3 (q1.extBut _ _ c1 x))))) {oe,q5.extBut _ _ hez hoe,hce}
def IM {t1 t2:Bool} {z TI TO i1 i2 l1 l2:wM} {k:Nat} {xs ys:Array wG} {x y:wG} {Q:Option wG->wH->Prop} (D:OI z TI TO i1 i2) (L1:KP l1 z TO i1 i2) (L2:KP l2 z TO i1 i2)
  (S:MU t1 t2 s.heap z TI TO i1 i2 l1 l2 k .none) (hl1:ei t1 s.heap l1 xs) (hl2:ei t2 s.heap l2 ys) (hx:xs[k]?=some x) (hy:ys[k]?=some y)
  (hQ:∀h',MU t1 t2 h' z TI TO i1 i2 l1 l2 (k+1) (rawInt ↑s)->IsPair h' ↑s x y->Er z TO i1 i2 s.heap h'->Q (some (.ref ↑s)) {s with heap:=h'}) :
  wpAny (model prog w) A (pyNext (.ref z)) Q E s:=by
 let hT:s.TypeIs (.ref z) "zip":={_,S.z,rfl}
 unfold pyNext;exact yi (wg (yO (name:=Str.ofString "__next__") hT xo (yS xo hT F.entry_zip_next (IJ D L1 L2 S hl1 hl2 hx hy λh' a1 a2 a3=>yk (hQ h' a1 a2 a3)) (F.args_zip_next_1 _))))
def IL {t1 t2:Bool} {z TI TO i1 i2 l1 l2:wM} {k:Nat} {xs ys:Array wG} {Q:Option wG->wH->Prop} (hh:A.handled=none) (D:OI z TI TO i1 i2) (L1:KP l1 z TO i1 i2) (L2:KP l2 z TO i1 i2)
  (S:MU t1 t2 s.heap z TI TO i1 i2 l1 l2 k .none) (hl1:ei t1 s.heap l1 xs) (hl2:ei t2 s.heap l2 ys) (hend:xs[k]?=none\/ys[k]?=none)
  (hQ:∀h',Er z TO i1 i2 s.heap h'->Q none {s with heap:=h'}):wpAny (model prog w) A (pyNext (.ref z)) Q E s:=by
 let hT:s.TypeIs (.ref z) "zip":={_,S.z,rfl}
 unfold pyNext;refine yi (wg (yO (name:=Str.ofString "__next__") hT xo (yS xo hT F.entry_zip_next (II hh D L1 L2 S hl1 hl2 hend λh' e hk he=>?_) (F.args_zip_next_1 _))));let⟨o,ho,hc⟩:=he;exact yi (wpAny_isInstance (T:="StopIteration") (b:=true) {(o),ho,hc} isSubtype_stop (yk (hQ _ hk)))
end
noncomputable abbrev Qf (t1:Bool) (h:wN) (l1:wM):wN:=h.push (fS t1 l1)
noncomputable abbrev OK (t1 t2:Bool) (h:wN) (l1 l2:wM):wN:=(Qf t1 h l1).push (fS t2 l2)
noncomputable abbrev Qe (t1 t2:Bool) (h:wN) (l1 l2:wM):wN:=(OK t1 t2 h l1 l2).push {cls:=.type "tuple",data:=.seq #[.ref h.objs.size,.ref (Qf t1 h l1).objs.size]}
noncomputable abbrev Qd (t1 t2:Bool) (h:wN) (l1 l2:wM):wN:=(Qe t1 t2 h l1 l2).push {cls:=.type "tuple",data:=.seq #[.none,.none]}
noncomputable abbrev MZ (t1 t2:Bool) (h:wN) (l1 l2:wM):wN:=(Qd t1 t2 h l1 l2).push {cls:=.type "zip",data:=.fields #[.none,.bool false,.bool false,.ref (OK t1 t2 h l1 l2).objs.size,.ref (Qe t1 t2 h l1 l2).objs.size]}
def IP (t1 t2:Bool) (l1 l2:wM) (xs ys:Array wG) :
  Meets (Builtin.«zip.__new__» {[.type "zip",.ref l1,.ref l2],[]}) (λ_ R s=>ei t1 s.heap l1 xs/\ei t2 s.heap l2 ys/\R (.ok (.ret (.ref (Qd t1 t2 s.heap l1 l2).objs.size))) {s with heap:=MZ t1 t2 s.heap l1 l2}):=
 .of_wp λprog w A R s h=>by
  let⟨hp,g,d,tk,os⟩:=s;let⟨a1,a2,h⟩:=h;let hsub:=sub_zip;let b1:ei t1 (Shared.heap {(hp),g,d,tk,os}) l1 xs:=a1;let b2:ei t2 (Shared.heap {hp.push (fS t1 l1),g,d,tk,os}) l2 ys:=a2.at λo e=>yj _ e;wp_walk using qU b1,qU b2;exact{_,rfl,h}
def IQ {prog:wI} {w:wJ} {A:wK} {E:wG->wH->Prop} {s:wH} {t1 t2:Bool} {l1 l2:wM} {xs ys:Array wG} {Q:wG->wH->Prop} (hl1:ei t1 s.heap l1 xs) (hl2:ei t2 s.heap l2 ys)
  (h:∀h',MU t1 t2 h' (↑s+4) (↑s+2) (↑s+3) ↑s (↑s+1) l1 l2 0 .none->(∀c o,s.heap.get? c=some o->h'.get? c=some o)->Q (.ref (↑s+4)) {s with heap:=h'}) :
  wpAny (model prog w) A (call (.type "zip") [.ref l1,.ref l2]) Q E s:=by
 refine callType_new F.called_zip ∅ (F.typeCall_zip_2 _ _) (F.newCall_zip_2 _ _) (λobj=>F.args_object_init_3 obj _ _) F.entry_zip_new (IP t1 t2 l1 l2 xs ys) {hl1,hl2,?_};let z1:(Qf t1 s.heap l1).objs.size=↑s+1:=yZ ..;let z2:(OK t1 t2 s.heap l1 l2).objs.size=↑s+2:=by rw[yZ,z1]
 let z3:(Qe t1 t2 s.heap l1 l2).objs.size=↑s+3:=by rw[yZ,z2]
 let z4:(Qd t1 t2 s.heap l1 l2).objs.size=↑s+4:=by rw[yZ,z3]
 let up:∀c o,(OK t1 t2 s.heap l1 l2).get? c=some o->(MZ t1 t2 s.heap l1 l2).get? c=some o:=λc o e=>yj _ (yj _ (yj _ e));let g5:(MZ t1 t2 s.heap l1 l2).get? (Qd t1 t2 s.heap l1 l2).objs.size=some _:=ym _ rfl;let g4:(MZ t1 t2 s.heap l1 l2).get? (Qe t1 t2 s.heap l1 l2).objs.size=some _:=yj _ (ym _ rfl);let g3:(MZ t1 t2 s.heap l1 l2).get? (OK t1 t2 s.heap l1 l2).objs.size=some _:=yj _ (yj _ (ym _ rfl));let g2:bU t2 (MZ t1 t2 s.heap l1 l2) (Qf t1 s.heap l1).objs.size l2 0:=(bU.new t2 _ l2).at (up _);let g1:bU t1 (MZ t1 t2 s.heap l1 l2) ↑s l1 0:=((bU.new t1 _ l1).at λo e=>yj _ e).at (up _);show _/\_;rw[z2,z3,z4] at g5;rw[z1,z2] at g3;rw[z3] at g4;rw[z1] at g2;rw[z4];exact{{_,g5,rfl},h _ {g5,g3,{_,_,g4},g1,g2} λc o x=>up c o (yj _ (yj _ x))}
end L2
namespace L2
open PySem PySem.Spec PyProof.Rows
def bW (h:H p=none):ao H (upd H p o):=λb u e=>by rw[ar (aS e h)];exact e
def laid {H:Hp} {o:HO} {Q:VK} (k:∀p H',ao H H'->H' p=some o->Q (.ref p) H'):∀p,H p=none->Q (.ref p) (upd H p o):=λp hp=>k p _ (bW hp) aA
section
variable {X:Cx} {pins:List (wM×Obj)} {σ:St} {H:Hp} {s:wH} {h':wN}
def Inv.rF {T:wM} {o:HO} {ch:List wM} {t':Nat} (I:Inv X pins σ H s) (hf:∀b∈ch,vN X pins H b) (hT:↑s<=T) (k:∀b u,b∉ch->s.heap.get? b=some u->h'.get? b=some u)
  (new:bu X.prog X.w (upd H T o) h' T o):Inv X pins σ (upd H T o) {s with heap:=h',toks:=t'}:=by
 let hn:H T=none:=I.bf.fresh hT;let neT:∀b u,s.heap.get? b=some u->b≠T:=λb u e=>z9 (zT (yn e) hT);let nch:∀b u,H b=some u->b∉ch:=λb u e hb=>by rw[(hf b hb).1] at e;cases e
 refine I.step (g':=s.gens) (d':=s.drawn) (ch:=ch) (λb hb=>?_) (λb u _ _ hc e _=>k b u hc e) (λb u _ _ hc e _=>{u.slots,k b u hc e}) (λb u hc e n=>by rw[ar (neT b u e)];exact n) (λb u hc e=>{u,k b u hc e})
  (λb xs e=>by rw[ar (aS e hn)];exact e) (λb ob u e=>by rw[ar (aS e hn)];exact e) (λb ps e=>{#[],by rw[ar (aS e hn),e];simp}) (λm hm=>?_) (λb u e=>?_) I.bare
 ·let⟨f0,f1,f2,f3,f4,f5⟩:=hf b hb
  exact{(f3),f1,f4,f5}
 ·let⟨ob,es,ep,ho,r⟩:=hm
  exact{ob,es,ep,k _ _ (λz=>(hf _ z).2.1 rfl) ho,r}
 ·by_cases hb:b=T
  ·subst hb;rw[aA] at e;cases e;exact new
  ·rw[ar hb] at e
   refine(I.bf b u e).ik (λc v hc q=>k c v ?_ q) (λc q=>by rw[ar (aS q hn)];exact q) λc xs q=>by rw[ar (aS q hn)];exact q
   rcases hc with z | z
   ·rw[z];exact nch b u e
   ·exact nch c _ z
def Inv.turns {ch:List wM} {t':Nat} (I:Inv X pins σ H s) (hf:∀b∈ch,vN X pins H b) (k:∀b u,b∉ch->s.heap.get? b=some u->h'.get? b=some u):Inv X pins σ H {s with heap:=h',toks:=t'}:=by
 let nch:∀b u,H b=some u->b∉ch:=λb u e hb=>by rw[(hf b hb).1] at e;cases e
 refine I.step (g':=s.gens) (d':=s.drawn) (ch:=ch) (λb hb=>?_) (λb u _ _ hc e _=>k b u hc e) (λb u _ _ hc e _=>{u.slots,k b u hc e}) (λb u hc e n=>n) (λb u hc e=>{u,k b u hc e})
  (λb xs e=>e) (λb ob u e=>e) (λb ps e=>{#[],by rw[e];simp}) (λm hm=>?_) (λb u e=>?_) I.bare
 ·let⟨f0,f1,f2,f3,f4,f5⟩:=hf b hb
  exact{(f3),f1,f4,f5}
 ·let⟨ob,es,ep,ho,r⟩:=hm
  exact{ob,es,ep,k _ _ (λz=>(hf _ z).2.1 rfl) ho,r}
 ·refine(I.bf b u e).ik (λc v hc q=>k c v ?_ q) (λc q=>q) λc xs q=>q
  rcases hc with z | z
  ·rw[z];exact nch b u e
  ·exact nch c _ z
def oq:bootBuiltins "enumerate"= some (.type "enumerate"):=by decide +kernel
def Om:bootBuiltins "zip"= some (.type "zip"):=by decide +kernel
noncomputable def OD (K:yq) (a:wM):It:=
 {λi H=>∃xs x,aE K H a xs/\xs[i]?=some x,λi H x H'=>∃p v,H p=none/\x=.ref p/\H'=upd H p (.tup [.int (i:Int),v])/\∀xs,aE K H a xs->xs[i]?=some v,λi H=>∃xs,aE K H a xs/\⇑xs<=i}
def Hi {P:wI} {w:wJ} {K:yq} {es:List Expr} {kt:Nat} {tp:Pos} (a it e:wM) (hne:e≠it) :
  Turn P w K (.Tuple es kt tp) (OD K a) [e,it] e (λi h=>(∃old,IsEnum h e it (i:Int) old)/\h.IsListIter it a i) where
 mem:=by simp
 obj:=λi h st b hb=>by
  let⟨⟨old,he⟩,o,e1,c,d⟩:=st;rcases zy.mp hb with z | z
  ·subst z;exact{_,he,λv z=>by cases z}
  ·let z':b=it:=by simpa using z
   subst z';exact{o,e1,λv z=>by rw[d] at z;cases z}
 keep:=λi h h' st k=>{let ⟨old,he⟩:=st.1;{old,k e (by simp) _ he},st.2.at λo e=>k it (by simp) o e}
 item:=by
  intro X hP hw hK hc i pins s σ H E I hf st hg;subst hP hw hK;let⟨xs,x,hq,hx⟩:=hg;let⟨its,rv,p,hz⟩:=I.list hq;let⟨u,hu,ru⟩:=rv.get hx;let⟨⟨old,he⟩,hit⟩:=st;refine wpAny_pyNext_enum_item he hit p.isList (x:=u) (by simpa using hu) hne λg1 ho hit1 hT hsz hk=>?_;refine{_,rfl,wpAny_letOwnedTupleGo_enum (s:={s with heap:=g1,toks:=s.toks+1}) ho λg2 he2 hs2=>?_};let hel:e<↑s:=yn he;let gT:g2.get? ↑s=some {cls:=.type "tuple",data:=.seq #[.int i s.toks,u]}:=hs2.extBut _ _ (zZ hel) hT;let I1:Inv X pins σ (upd H ↑s (.tup [.int (i:Int),x])) {s with heap:=g2,toks:=s.toks+1}:=
   I.rF hf (zh _) (λb ob hb q=>hs2.extBut _ _ (λz=>hb (by simp[z])) (hk b ob (λz=>hb (by simp[z])) (λz=>hb (by simp[z])) q))
    {by show 2<=sizeLine;decide,[.int i s.toks,u],.cons {_,rfl} (.cons ru .nil),{_,gT,rfl,_,rfl}}
  refine{.ref ↑s,_,I1,rfl,{_,x,I.bf.fresh (zh _),rfl,rfl,λys hy=>by rw[I.sZ hy hq];exact hx},{{_,by simpa using he2},hit1.at λo q=>hs2.extBut _ _ hne.symm q},λb hb=>?_};let hb':=(hf b hb).1;obtain⟨o,ho',_⟩:∃o,s.heap.get? b=some o/\True:=by
   rcases zy.mp hb with z | z
   ·subst z;exact{_,he,trivial}
   ·let z':b=it:=by simpa using z
    subst z';let⟨o,e1,_⟩:=hit;exact{(o),e1,trivial}
  rw[ar (z9 (yn ho'))];exact hb'
 done:=by
  intro X hP hw hK hc i pins s σ H E I hf st hg;subst hP hw hK;let⟨xs,hq,hx⟩:=hg;let⟨its,rv,p,hz⟩:=I.list hq;let⟨⟨old,he⟩,hit⟩:=st;let hl:=⇑rv;exact wpAny_pyNext_enum_end (I.ok.hd hc) he hit p.isList (by simp;ext) λg1 eb=>{rfl,I.turns (t':=s.toks) hf λb o hb q=>eb b o (λz=>hb (by simp[z])) q}
 self:=λ_ _ _ _ _ st h=>let ⟨_,he⟩:=st.1;wpAny_pyIter_enum he h
def MO (K:yq) (ta:TA):TI:=λσ H R=>ta σ H λvs H1=>∃a xs,vs=[.ref a]/\aE K H1 a xs/\R (OD K a) H1
def Gz {a:Expr} {ta:TA} {es:List Expr} {kt:Nat} {tp p pos:Pos} (hg:Gl X "enumerate") (hm:X.mg "enumerate"= none) (ha:PA X [a] ta) (hs:starEach [a] X.env=[(false,eval a X.env)]<|>qe_) :
  PI X (.Tuple es kt tp) (.Call (.Name "enumerate" p) [a] [] pos) (MO X.K ta):=by
 intro pins s σ H R I h;refine Call_ (jK I hg hm oq (yC (bR (ha pos pins s σ H _ I h) λus s1 z0=>?_) hs rfl));let⟨vs,H1,I1,r1,q1⟩:=z0;let⟨l,xs,e,hq,q⟩:=q1;subst e;cases r1 with
 | cons r rr=>
  cases rr;cases r;let⟨its,rv,pl,hz⟩:=I1.list hq;refine call_enumerate_list pl.isList λg he hit hsz hk=>?_;refine wpAny_pyIter_enum (s:={s1 with heap:=g}) he ?_;let I2:Inv X pins σ H1 {s1 with heap:=g}:=I1.kept (t':=s1.toks) hk;refine{↑s1+1,[↑s1+1,↑s1],_,OD X.K l,H1,rfl,I2,Hi l ↑s1 (↑s1+1) (zZ (xt _)),{{_,by simpa using he},hit},λb hb=>?_,q};let hb':↑s1<=b:=by
   rcases zy.mp hb with z | z
   ·subst z;exact xG _
   ·let z':b=↑s1:=by simpa using z
    subst z';exact zh _
  exact I1.tw hb' (I1.bf.fresh hb')
def IH (t:Bool) (K:yq) (H:Hp) (a:wM) (xs:List V):Prop:=match t with
 | true=>bK K H a xs
 | false=>aE K H a xs
def Inv.sq (I:Inv X pins σ H s) (h:IH t X.K H a xs):∃its:List wG,Vals xs its/\ei t s.heap a its.toArray/\⇑xs<=sizeLine:=by
 cases t
 ·let⟨its,r,p,z⟩:=I.list h;exact{(its),r,p.isList,z}
 ·let⟨its,r,p,z⟩:=I.tuple h;exact{(its),r,p,z}
def Inv.Ja (I:Inv X pins σ H s) (h:IH t X.K H a xs) (h':IH t X.K H a ys):xs=ys:=by
 cases t
 ·exact I.sZ h h'
 ·exact I.oB h h'
def ei.lt (x:ei t h a items):a<h.objs.size:=by
 cases t
 ·let⟨o,e,_⟩:=x;exact yn e
 ·let⟨o,e,_⟩:=x;exact yn e
noncomputable def RH (t1 t2:Bool) (K:yq) (a b:wM):It:=
  {λi H=>∃xs ys x y,IH t1 K H a xs/\IH t2 K H b ys/\xs[i]?=some x/\ys[i]?=some y,
   λi H x H'=>∃p u v,H p=none/\x=.ref p/\H'=upd H p (.tup [u,v])/\(∀xs,IH t1 K H a xs->xs[i]?=some u)/\∀ys,IH t2 K H b ys->ys[i]?=some v,
   λi H=>∃xs ys,IH t1 K H a xs/\IH t2 K H b ys/\(⇑xs<=i\/⇑ys<=i)}
def IV {P:wI} {w:wJ} {K:yq} {es:List Expr} {kt:Nat} {tp:Pos} (t1 t2:Bool) (a b z TI TO i1 i2:wM) (D:OI z TI TO i1 i2) (L1:KP a z TO i1 i2) (L2:KP b z TO i1 i2) :
  Turn P w K (.Tuple es kt tp) (RH t1 t2 K a b) [z,TI,TO,i1,i2] z (λi h=>MU t1 t2 h z TI TO i1 i2 a b i .none) where
 mem:=by simp
 obj:=λi h st c hc=>by
  let⟨hz,hi,⟨_,_,ho⟩,h1,h2⟩:=st;simp only[zy,zz,yK] at hc;rcases hc with e | e | e | e | e
  ·subst e;exact{_,hz,λv q=>by cases q}
  ·subst e;exact{_,hi,λv q=>by cases q}
  ·subst e;exact{_,ho,λv q=>by cases q}
  ·subst e;exact h1.get
  ·subst e;exact h2.get
 keep:=λi h h' st k=>{k z (by simp) _ st.z,k TI (by simp) _ st.ti,let ⟨x,y,e⟩:=st.to;{x,y,k TO (by simp) _ e},st.i1.at λo e=>k i1 (by simp) o e,st.i2.at λo e=>k i2 (by simp) o e}
 item:=by
  intro X hP hw hK hc i pins s σ H E I hf st hg;subst hP hw hK;let⟨xs,ys,x,y,hq,hq',hx,hy⟩:=hg;let⟨its,rv,p,hz⟩:=I.sq hq;let⟨jts,rw',p',hz'⟩:=I.sq hq';let⟨u,hu,ru⟩:=rv.get hx;let⟨u',hu',ru'⟩:=rw'.get hy;refine IM D L1 L2 st p p' (x:=u) (y:=u') (by simpa using hu) (by simpa using hu') λg1 S1 hT hk=>?_;refine{_,rfl,wpAny_letOwnedTupleGo_zip (s:={s with heap:=g1}) S1.z λg2 z2 hs2=>?_};let zl:z<↑s:=yn st.z;let gT:g2.get? ↑s=some {cls:=.type "tuple",data:=.seq #[u,u']}:=hs2.extBut _ _ (zZ zl) hT;let I1:Inv X pins σ (upd H ↑s (.tup [x,y])) {s with heap:=g2}:=
   I.rF (t':=s.toks) hf (zh _) (λc ob hb q=>hs2.extBut _ _ (λe=>hb (by simp[e])) (hk c ob (λe=>hb (by simp[e])) (λe=>hb (by simp[e])) (λe=>hb (by simp[e])) (λe=>hb (by simp[e])) q))
    {by show 2<=sizeLine;decide,[u,u'],.cons ru (.cons ru' .nil),{_,gT,rfl,_,rfl}}
  refine{.ref ↑s,_,I1,rfl,{_,x,y,I.bf.fresh (zh _),rfl,rfl,λzs h=>by rw[I.Ja h hq];exact hx,λzs h=>by rw[I.Ja h hq'];exact hy},{z2,hs2.extBut _ _ D.a1 S1.ti,let ⟨x,y,e⟩:=S1.to;{x,y,hs2.extBut _ _ D.a2 e},S1.i1.but hs2 D.a3,S1.i2.but hs2 D.a4},λc hc=>?_};let hb':=(hf c hc).1;obtain⟨o,ho',_⟩:∃o,s.heap.get? c=some o/\True:=by
   obtain⟨hz,hi,⟨_,_,ho⟩,⟨q1,e1,_⟩,⟨q2,e2,_⟩⟩:_/\_/\_/\_/\_:={(st.z),st.ti,st.to,st.i1.get,st.i2.get}
   simp only[zy,zz,yK] at hc;rcases hc with e | e | e | e | e
   ·subst e;exact{_,hz,trivial}
   ·subst e;exact{_,hi,trivial}
   ·subst e;exact{_,ho,trivial}
   ·subst e;exact{_,e1,trivial}
   ·subst e;exact{_,e2,trivial}
  rw[ar (z9 (yn ho'))];exact hb'
 done:=by
  intro X hP hw hK hc i pins s σ H E I hf st hg;subst hP hw hK;let⟨xs,ys,hq,hq',hx⟩:=hg;let⟨its,rv,p,hz⟩:=I.sq hq;let⟨jts,rw',p',hz'⟩:=I.sq hq';let hl:=⇑rv;let hl':=⇑rw';refine IL (I.ok.hd hc) D L1 L2 st p p' ?_ λg1 eb=>{rfl,I.turns (t':=s.toks) hf λc o hb q=>eb c o (λe=>hb (by simp[e])) (λe=>hb (by simp[e])) (λe=>hb (by simp[e])) (λe=>hb (by simp[e])) q}
  rcases hx with h | h
  ·exact .inl (by simp;ext)
  ·exact .inr (by simp;ext)
 self:=λ_ _ _ _ _ st h=>wpAny_pyIter_zip st.z h
def Rn (K:yq) (ta:TA):TI:=λσ H R=>ta σ H λvs H1=>∃t1 t2 a b xs ys,vs=[.ref a,.ref b]/\IH t1 K H1 a xs/\IH t2 K H1 b ys/\R (RH t1 t2 K a b) H1
def JC {a b:Expr} {ta:TA} {es:List Expr} {kt:Nat} {tp p pos:Pos} (hg:Gl X "zip") (hm:X.mg "zip"= none) (ha:PA X [a,b] ta)
  (hs:starEach [a,b] X.env=[(false,eval a X.env),(false,eval b X.env)]<|>qe_) (hs2:starEach [b] X.env=[(false,eval b X.env)]<|>qe_) :
  PI X (.Tuple es kt tp) (.Call (.Name "zip" p) [a,b] [] pos) (Rn X.K ta):=by
 intro pins s σ H R I h;refine Call_ (jK I hg hm Om (yC (bR (ha pos pins s σ H _ I h) λus s1 z0=>?_) (by rw[hs,hs2]) (by rw[hs2];rfl)));let⟨vs,H1,I1,r1,q1⟩:=z0;let⟨t1,t2,a,b,xs,ys,e,hq,hq',q⟩:=q1;subst e;cases r1 with
 | cons r rr=>
  cases rr with
  | cons r' rr=>
   cases rr;cases r;cases r';let⟨its,rv,pl,hz⟩:=I1.sq hq;let⟨jts,rv',pl',hz'⟩:=I1.sq hq';let la:=pl.lt;let lb:=pl'.lt;refine IQ pl pl' λg S hk=>?_;refine wpAny_pyIter_zip (s:={s1 with heap:=g}) S.z ?_;let I2:Inv X pins σ H1 {s1 with heap:=g}:=I1.kept (t':=s1.toks) hk;let D:OI (↑s1+4) (↑s1+2) (↑s1+3) ↑s1 (↑s1+1):=by
    constructor <;> (show _≠(_:Nat)) <;> ext
   let L:∀c,c<↑s1->KP c (↑s1+4) (↑s1+3) ↑s1 (↑s1+1):=λc hc=>by
    constructor <;> (show _≠(_:Nat)) <;> ext
   refine{↑s1+4,[_,_,_,_,_],_,RH t1 t2 X.K a b,H1,rfl,I2,IV t1 t2 a b _ _ _ _ _ D (L a la) (L b lb),S,λc hc=>?_,q};let hb':↑s1<=c:=by
    simp only[zy,zz,yK] at hc;rcases hc with e | e | e | e | e <;> (subst e;first | exact Nat.le_add_right _ _ | exact zh _)
   exact I1.tw hb' (I1.bf.fresh hb')
def A6 (bs:List Bool):((List.range ⇑bs).all λi=>(bs[i]?).getD true)=bs.all id:=by
 rw[xp,ye,ye];constructor
 ·intro h b hb
  let⟨i,hi,e⟩:=List.mem_iff_getElem.mp hb;have:=h i (yH.mpr hi);rw[zb hi,e] at this;exact this
 ·intro h i hi
  let hi':=yH.mp hi;rw[zb hi'];exact h _ (yb hi')
def ju (hc:X.calm=true):dI X (.builtin "all") (λxs H Q=>∃(a:wM) (bs:List Bool),xs=[.ref a]/\aE X.K H a (bs.map V.bl)/\Q (.bl (bs.all id)) H):=by
 intro pins s σ H xs us Q I r h;let⟨a,bs,e,hq,q⟩:=h;subst e;cases r with
 | cons r rr=>
  cases rr;cases r;let⟨its,rv,p,hz⟩:=I.list hq;let hlt:a<↑s:=by let⟨o,n,e,_⟩:=p;exact yn e
  let hlen:⇑bs=⇑its:=by have:=⇑rv;rw[za] at this;exact this
  refine call_all_walk (x9 p.isList ?_);refine{↑s,[↑s,a],[↑s],its.toArray.size,_,_,λi=>(bs[i]?).getD true,rfl,Walks.list (A:=X.A.in1) (I.ok.hd hc) _ a (z9 hlt) its.toArray,
   {{_,ym _ rfl,rfl,rfl},p.isList.push _},λi v s' Q' E' hP hQ=>?_,λh' tk hk=>?_}
  ·let hP':its[i]?=some v:=by simpa using hP
   let hi:i<⇑bs:=by rw[hlen];exact(zt.mp hP').1
   let hm:(bs.map V.bl)[i]?=some (.bl bs[i]):=by rw[zF,zb hi];rfl
   let⟨u,hu,ru⟩:=rv.get hm;rw[hP'] at hu;cases hu;cases ru;dsimp only at hQ;rw[zb hi] at hQ;exact yW hQ
  ·let e:((List.range its.toArray.size).all λi=>(bs[i]?).getD true)=bs.all id:=by rw[zS,<-hlen];exact A6 bs
   rw[e];exact{.bl _,H,I.kept λb o x=>hk b o (λhm=>by rw[zu.mp hm] at x;exact zW _ (yn x)) (yj _ x),rfl,q}
end
section
variable {X:Cx} {pos:Pos}
end
inductive Ty where
 | aX | bl | int | str | tup | lst | PU
noncomputable def Ty.name:Ty->String
 | .aX=> "NoneType" | .bl=> "bool" | .int=> "int" | .str=> "str" | .tup=> "tuple" | .lst=> "list" | .PU=> "dict"
noncomputable def Le:Option HO->Option Ty
 | some (.tup _)=>some .tup
 | some (.lst _)=>some .lst
 | some (.kz _ (.lst _))=>some .lst
 | some (.dK _)=>some .PU
 | some (.dT _)=>some .PU
 | _=>none
noncomputable def tag (H:Hp):V->Option Ty
 | .aX=>some .aX
 | .bl _=>some .bl
 | .int _=>some .int
 | .str _=>some .str
 | .ref a=>Le (H a)
 | _=>none
def Gn {H:Hp} {a:wM} {xs:List V} (h:H a=some (.tup xs)):tag H (.ref a)=some .tup:=by show Le (H a)=_;rw[h];rfl
def Ld {H:Hp} {a:wM} {xs:List V} (h:H a=some (.lst xs)):tag H (.ref a)=some .lst:=by show Le (H a)=_;rw[h];rfl
def Nb {K:yq} {H:Hp} {x:V} {n:Ty} (h:tag H x=some n):pO K H x (.type n.name):=by
 cases x with
 | aX=>cases h;exact .aX
 | bl b=>cases h;exact .bl b
 | int i=>cases h;exact .int i
 | str y=>cases h;exact .str y
 | G0 _=>cases h
 | L6 _=>cases h
 | ty _=>cases h
 | ref a=>
  let h:Le (H a)=some n:=h;cases q:H a with
  | none=>rw[q] at h;cases h
  | some o=>
   rw[q] at h;cases o with
   | tup _=>cases h;exact .tup q
   | lst _=>cases h;exact .lst q
   | kz _ o=>
    cases o with
    | lst _=>cases h;exact .kz q
    | _=>cases h
   | dK _=>cases h;exact .dK q
   | dT _=>cases h;exact .dT q
   | _=>cases h
def Ty.sub:Ty->Ty->Bool
 | .bl,.bl=>true | .int,.int=>true | .str,.str=>true | .tup,.tup=>true | .lst,.lst=>true | .PU,.PU=>true | .aX,.aX=>true
 | .bl,.int=>true
 | _,_=>false
def LS (K:yq) (a b:Ty):PySem.W.kitOne K (.type a.name) (.type b.name)=some (a.sub b):=by
 cases a <;> cases b <;> first | rfl | decide +kernel | kernel_rfl
def Lg (c:Ty) (ta:TE):TE:=λσ H Q=>ta σ H λx H1=>∃n,tag H1 x=some n/\Q (.bl (n.sub c)) H1
section
variable {X:Cx}
def fC (c:Ty) (hx:bootBuiltins x=some (.type c.name)) (ha:PE X a ta) (hm:X.mg "isinstance"= none) (hm2:X.mg x=none)
  (hg:Gl X "isinstance"<|>qe_) (hg2:Gl X x<|>qe_) (hn:x≠ "__name__"<|>qb_) (hd:(x == ("__debug__": Str))=false<|>qb_)
  (hs:starEach [a,.Name x p2] X.env=(false,eval a X.env)::starEach [.Name x p2] X.env<|>qe_) (hs2:starEach [.Name x p2] X.env=[(false,eval (.Name x p2) X.env)]<|>qe_) :
  PE X (.Call (.Name "isinstance" p1) [a,.Name x p2] [] pos) (Lg c ta):=by
 let hc:dI X (.builtin "isinstance") (λxs H Q=>∃v n,xs=[v,.ty c.name]/\tag H v=some n/\Q (.bl (n.sub c)) H):=by
  intro pins s σ H xs us Q I r h;let⟨v,n,e,ht,q⟩:=h;subst e;cases r with
  | cons r rr=>
   cases rr with
   | cons r' rr=>
    cases rr;cases r';exact HM I r (Nb ht) (LS _ _ _) λtk=>{.bl _,H,I.tok tk,rfl,q}
 let hb:PE X (.Name x p2) (tC (.ty c.name)):=GB (u:=.type c.name) hg2 hm2 hx rfl hn hd;let ht:=Dd (p:=p1) (pos:=pos) hc hg hm (by decide +kernel) (af ha (af hb ag hs2) hs) (he:=hs) (hpl:=by rw[hs2];rfl);intro pins s σ H Q I h;let mono:ta σ H (λx H1=>∃n,tag H1 x=some n/\Q (.bl (n.sub c)) H1)->oH (λxs H Q=>∃v n,xs=[v,.ty c.name]/\tag H v=some n/\Q (.bl (n.sub c)) H) (ax ta (ax (tC (.ty c.name)) aQ)) σ H Q:=λz=>by
  show ta σ H λx H1=>∃v n,[x,V.ty c.name]=[v,.ty c.name]/\tag H1 v=some n/\Q (.bl (n.sub c)) H1;let e:(λx H1=>∃n,tag H1 x=some n/\Q (.bl (n.sub c)) H1)=(λ(x:V) (H1:Hp)=>∃v n,[x,V.ty c.name]=[v,V.ty c.name]/\tag H1 v=some n/\Q (.bl (n.sub c)) H1):=by
   funext x H1
   apply propext;constructor
   ·rintro⟨n,h1,h2⟩;exact{(x),n,rfl,h1,h2}
   ·rintro⟨v,n,e,h1,h2⟩;cases e;exact{(n),h1,h2}
  rw[<-e];exact z
 exact ht pins s σ H Q I (mono h)
end
inductive Dt where
 | aX | bl (b:Bool) | int (i:Int) | str (x:Str) | tup (l:List Dt)
mutual
def Is (H:Hp):Dt->V->Prop
 | .aX,v=>v=.aX
 | .bl b,v=>v=.bl b
 | .int i,v=>v=.int i
 | .str x,v=>v=.str x
 | .tup l,v=>∃a vs,v=.ref a/\H a=some (.tup vs)/\au H l vs
def au (H:Hp):List Dt->List V->Prop
 | [],vs=>vs=[]
 | d::l,vs=>∃v r,vs=v::r/\Is H d v/\au H l r
end
mutual
theorem Is.mono (s:ao H H'):∀{d:Dt} {v:V},Is H d v->Is H' d v
 | .aX,_,h=>by unfold Is at h ⊢;exact h
 | .bl _,_,h=>by unfold Is at h ⊢;exact h
 | .int _,_,h=>by unfold Is at h ⊢;exact h
 | .str _,_,h=>by unfold Is at h ⊢;exact h
 | .tup l,_,h=>by
  unfold Is at h ⊢;let⟨a,vs,e,ha,hl⟩:=h;exact{a,vs,e,s _ _ ha,au.mono s hl}
theorem au.mono (s:ao H H'):∀{l:List Dt} {vs:List V},au H l vs->au H' l vs
 | [],_,h=>by unfold au at h ⊢;exact h
 | d::l,_,h=>by
  unfold au at h ⊢;let⟨v,r,e,hv,hr⟩:=h;exact{v,r,e,Is.mono s hv,au.mono s hr}
end
theorem au.len:∀{l:List Dt} {vs:List V},au H l vs->⇑vs=⇑l
 | [],_,h=>by unfold au at h;rw[h];rfl
 | d::l,_,h=>by
  unfold au at h;let⟨v,r,e,_,hr⟩:=h;rw[e,zo,zo,au.len hr]
theorem au.get:∀{l:List Dt} {vs:List V} {i:Nat} {v:V},au H l vs->vs[i]?=some v->∃d,l[i]?=some d/\Is H d v
 | [],_,i,v,h,e=>by unfold au at h;rw[h] at e;simp at e
 | d::l,_,i,v,h,e=>by
  unfold au at h;let⟨u,r,e1,hv,hr⟩:=h;subst e1;cases i with
  | zero=>simp at e;subst e;exact{(d),rfl,hv}
  | succ i=>
   let⟨d',h1,h2⟩:=au.get (i:=i) hr (by simpa using e);exact{d',by simpa using h1,h2}
def ao.Bo (e:upd H p o=H') (h:H p=none):ao H H':=e▸bW h
def B4 (e:upd H p o=H'):H' p=some o:=e▸aA
def bo {c:Bool} {A B:Prop} (h:c=true) (q:A):if c=true then A else B:=by rw[yE h];exact q
def bp {c:Bool} {A B:Prop} (h:c=false) (q:B):if c=true then A else B:=by rw[yD (by rw[h];decide)];exact q
def eX:⇑[a,b]<=sizeLine:=by show 2<=sizeLine;decide
def rR:⇑[a,b,c]<=sizeLine:=by show 3<=sizeLine;decide
def GJ (h:H p=some (.tup [.int a,.int b])):Is H (.tup [.int a,.int b]) (.ref p):=by
 unfold Is;exact{p,_,rfl,h,by simp only[au,Is];exact{_,_,rfl,rfl,_,_,rfl,rfl,rfl}}
def DI {K:yq} {a:wM} {xs:List V} {g:TG} {tb:TS} {D:Ends} {σ:St} {H:Hp} (Pv:Nat->St->Hp->Prop) (h0:Pv 0 σ H) (hl:∀i σ H,i<=⇑xs->Pv i σ H->aE K H a xs)
  (hs:∀i x σ H p H',xs[i]?=some x->Pv i σ H->ao H H'->H' p=some (.tup [.int (i:Int),x])->g (.ref p) σ H' λσ2 H2=>tb {D with nx:=Pv (i+1),ct:=Pv (i+1),bk:=D.nx} σ2 H2) (hd:∀σ H,Pv ⇑xs σ H->D.nx σ H) :
  ∃W:Nat->Nat->St->Hp->Prop,(∃m,W 0 m σ H)/\∀i m σ H,W i m σ H->
   ((OD K a).stop i H/\D.nx σ H)\/((OD K a).go i H/\∃N:St->Hp->Prop,(∀σ' H',N σ' H'->∃m',m'<m/\W (i+1) m' σ' H')/\∀x H',(OD K a).Gg i H x H'->g x σ H' λσ2 H2=>tb {D with nx:=N,ct:=N,bk:=D.nx} σ2 H2):=by
 refine{λi m σ H=>m=⇑xs-i/\i<=⇑xs/\Pv i σ H,{⇑xs,by simp,zX _,h0},?_};rintro i m σ H ⟨rfl,hi,p⟩;let q:=hl i σ H hi p
 by_cases hlt:i<⇑xs
 ·refine .inr {{xs,xs[i],q,by simp[hlt]},Pv (i+1),λσ' H' p'=>{⇑xs-(i+1),(),rfl,hlt,p'},λx H' y=>?_}
  let⟨pp,v,hp,e1,e2,y⟩:=y;subst e1 e2;exact hs i v σ H pp _ (y xs q) p (bW hp) aA
 ·let e:i=⇑xs:=()
  subst e;exact .inl {{xs,q,zh _},hd σ H p}
section
variable {X:Cx} {pos:Pos}
def Inv.Pt (I2:Inv X pins σ2 H2 s2) (hC:↑s2<=C) (I:Inv X pins σ H s) (hn:H C=none) (hs:Heap.SameBut C s.heap h'):Inv X pins σ H {s with heap:=h'}:=by
 let⟨f0,f1,f2,f3,f4,f5⟩:=I2.tw hC hn;exact I.turned (t':=s.toks) (λb o hb e=>hs.extBut b o hb e) f0 f1 f3 f4 f5
end
section
variable {X:Cx} {pins:List (wM×Obj)} {σ:St} {H:Hp} {s:wH}
def Sz (n:Nat) (i:Int):Prop:=i.natAbs<2^n
def Sz.mono (h:Sz n i) (k:n<=m):Sz m i:=zT h (Nat.pow_le_pow_right ∅ k)
def Sz.mul (h:Sz n i) (k:Sz m j):Sz (n+m) (i*j):=by
 unfold Sz at *;rw[Int.natAbs_mul,Nat.pow_add];exact Nat.mul_lt_mul'' h k
def Sz.add (h:Sz n i) (k:Sz n j):Sz (n+1) (i+j):=by
 unfold Sz at *;have:=Int.natAbs_add_le i j;rw[Nat.pow_succ];ext
def Sz.le (h:Sz n j) (h0:0<=i) (hl:i<=j):Sz n i:=by
 unfold Sz at *;have:i.natAbs<=j.natAbs:=()
 ext
def Sz.bits (h:Sz n i):Builtin.Int.intBits i<=n:=by
 unfold Builtin.Int.intBits;split
 ·exact zX _
 ·rename_i hz
  have:i.natAbs≠0:=by
   intro e;have:i=0:=Int.natAbs_eq_zero.mp e;subst this;exact hz rfl
  have:=(Nat.log2_lt this).mpr h;ext
def Qb (i j:Int):Prop:=Sz 20000 i/\Sz 20000 j
def Qc (_ j:Int):Prop:=0<j/\Sz 8999 j
def nI:mV X (binaryOp .Mult) (rI Qb λi j=>.int (i*j)):=Pl λ_ _ _ _ _ _ _ hc q=>mul_int q (.of_bits (zH hc.1.bits ∅) (zH hc.2.bits ∅))
def Dg:mV X (binaryOp .FloorDiv) (rI Qc λi j=>.int (i/j)):=Pl λi j _ _ _ _ _ hc q=>by
 let h1:(0:Int)<j:=hc.1;refine floordiv_int () (by rw[wC i ()];exact q) (.inl (PyProof.noPylong_of_log2 ?_));let h2:j.natAbs<2^8999:=hc.2;let h3:j.natAbs≠0:=()
 exact xk ((Nat.log2_lt h3).mpr h2) ∅
def KC {ns:List Int} {j:Int} (h0:0<=j) (h1:j<⇑ns):qm (ns.map V.int) j=some (.int (ns.getD j.toNat 0)):=by
 let⟨k,rfl⟩:=yB h0;refine bC ?_;let hk:k<⇑ns:=()
 rw[zF,zb hk];simp[List.getD,hk]
end
section
variable {X:Cx} {pos:Pos}
def sF (K:yq):R2:=λx y H Q=>∃l b xs zs,x=.ref l/\y=.ref b/\aE K H l xs/\aE K H b zs/\⇑xs+⇑zs<=sizeLine/\∀p,H p=none->Q (.ref p) (upd H p (.lst (xs++zs)))
def eC:mV X (binaryOp .Add) (sF X.K):=by
 intro pins s σ H x y v u Q I rx ry h;let⟨l,b,xs,zs,rfl,rfl,hH,hB,hz,q⟩:=h;cases rx;cases ry;let⟨its,r,p,z⟩:=I.list hH;let⟨jts,r',p',z'⟩:=I.list hB;let l1:=⇑r;let l2:=⇑r';let⟨⟨cls,dd,data,sl⟩,ho,hc,n,hd⟩:=id p.isList;let⟨⟨cls2,dd2,data2,sl2⟩,ho2,hc2,n2,hd2⟩:=id p'.isList;simp only at hc hd hc2 hd2;subst hc hd hc2 hd2;refine concat_meets {_,ho,rfl} {_,ho2,rfl} noFill_list_add seq_list_add PySem.F.slot_list_add PySem.F.entry_list_add (PySem.F.args_list_add_2 _ _) (list_addW l b its.toArray jts.toArray n n2 dd dd2 sl sl2 (by rw[zS,zS];ext)) {ho,ho2,?_};let ea:its.toArray++jts.toArray=(its++jts).toArray:=by simp
 rw[ea];exact{.ref _,_,I.NP (t':=s.toks) (r.append r') (by rw[ze];ext),rfl,q _ I.fresh}
end
def Ao (n:Nat) (x:Int×Int):Prop:=Sz n x.1/\Sz n x.2
theorem Ao.red (ht:0<=t) (hb:0<b) (h1:Sz n t) (h2:Sz n b):Ao n (Lm.red t b):=by
 let⟨g,g0,_,_,p,l⟩:=Lm.A0 (t:=t) hb;exact{h1.le (Lm.Fc ht) (Lm.Jq ht),h2.le (yR p) l}
theorem Ao.add (hx:Lm.Rd x) (hy:Lm.Rd y) (h:Ao n x) (k:Ao m y):Ao (n+m+1) (Lm.add x y):=by
 let⟨a,b,_⟩:=hx.pos;let⟨c,d,_⟩:=hy.pos;refine Ao.red (Int.add_nonneg (xI a ()) (xI c ())) (xg b d) ?_ ((h.2.mul k.2).mono ());refine Sz.add (h.1.mul k.2) ?_;have:=k.1.mul h.2;rw[Nat.add_comm] at this;exact this
noncomputable def dec (n:Int):Str:=Str.ofString (toString n)
def m6 {x y:Str} (h:x.cps.toList=y.cps.toList):x=y:=by
 cases x;cases y;simp only[Str.mk.injEq];exact Array.toList_inj.mp h
def cu (x y:Str):(x++y).cps.toList=x.cps.toList++y.cps.toList:=Array.toList_append ..
def len_app (x y:Str):⇑(x++y)=⇑x+⇑y:=Array.size_append ..
def Il (x y z:Str):x++y++z=x++(y++z):=m6 (by rw[cu,cu,cu,cu,zA])
def rf (m:Nat):(dec (m:Int)).cps.toList=(Nat.toDigits 10 m).map Char.toNat:=PySem.W.KIN.signs_num m
def BJ (m:Nat):⇑(dec (m:Int))=⇑(Nat.toDigits 10 m):=by
 let h:=yP List.length (rf m);rw[za,yG] at h;exact h
def Md (h:c∈(Nat.toDigits 10 m).map Char.toNat):48<=c/\c<=57:=by
 let⟨ch,hc,e⟩:=zC.mp h;let r:=Nat.isDigit_of_mem_toDigits ∅ ∅ hc;rw[<-e];simp only[Char.isDigit,zJ,decide_eq_true_eq] at r;exact{(r.1),r.2}
section
variable {X:Cx}
end
section
variable {X:Cx}
def Q0:V->Option Int->Option Int->Hp->VK->Prop:=λx lo hi H Q=>∃t:Str,x=.str t/\⇑t<=sizeLine/\Q (.str (PySem.Txt.slice t lo hi)) H
def Nu:KN X Q0:=by
 intro pins s σ H x v vl vu lo hi sl Q I rx hs pl pu h;let⟨t,rfl,hz,q⟩:=h;let⟨tk,rfl⟩:=rx;let⟨o,ho,hc,hd⟩:=hs;let fin:∀(l u:Option (Int×Tok)),l.map (·.1)=lo->u.map (·.1)=hi->partValue l=vl->partValue u=vu->
   ∃T id,typeLookup (.type T) "__getitem__"= pure (some (.builtin id))/\s.TypeIs (.str t tk) T/\wpAny (model X.prog X.w) X.A (getItem (.str t tk) (.ref sl)) (EP X pins σ Q) X.xe s:=by
  intro l u e1 e2 e3 e4;subst e1 e2 e3 e4;exact{"str",_,F.slot_str_getitem.lookup,wd _ _ _,wpAny_getItem_str_slice (l:=l) (u:=u) (st:=none) {(o),ho,hc,hd} rfl
   (post_val_or_str {zH (PySem.Txt.slice_le t _ _) hz,λt' k=>{.str _,H,I.tok _,{_,rfl},q}})}
 cases pl with
 | none=>
  cases pu with
  | none=>exact fin none none rfl rfl rfl rfl
  | int j tj=>exact fin none (some (j,tj)) rfl rfl rfl rfl
 | int i ti=>
  cases pu with
  | none=>exact fin (some (i,ti)) none rfl rfl rfl rfl
  | int j tj=>exact fin (some (i,ti)) (some (j,tj)) rfl rfl rfl rfl
noncomputable def P7 (x:Str):It:={λi _=>i<⇑x,λi H v H'=>H'=H/\∃c,x.cps[i]?=some c/\v=.str {#[c]},λi _=>⇑x<=i}
def IW {P:wI} {w:wJ} {K:yq} {tg:Expr} (x:Str) (t:Tok) (it:wM) (ty:String) (hty:ty ="str_ascii_iterator"\/ty ="str_iterator"):Turn P w K tg (P7 x) [it] it (λi h=>i<=⇑x/\h.IsStrIter it ty x t i) where
 mem:=by simp
 obj:=λi h st b hb=>by
  let e:b=it:=by simpa using hb
  subst e;let⟨_,o,e,c,d⟩:=st;exact{o,e,λv z=>by rw[d] at z;cases z}
 keep:=λi h h' st k=>{st.1,let ⟨o,ho,r⟩:=st.2;{o,k it (by simp) o ho,r}}
 item:=by
  intro X hP hw hK hc i pins s σ H E I hf st hg;subst hP hw hK;let W:Walks X.prog X.w X.A it [it] [it] x.cps.size (SignAt x) (λi h=>h.IsStrIter it ty x t i):=by
   rcases hty with rfl | rfl
   ·exact Walks.strAscii (I.ok.hd hc) it x t
   ·exact Walks.strWide (I.ok.hd hc) it x t
  refine W.item i s _ _ hg st.2 λv h' tk hv z' kk=>?_;let⟨c,u,hcx,rfl⟩:=hv;let I1:Inv X pins σ H {s with heap:=h',toks:=tk}:=I.turns hf λb o hb e=>kk b o (by simpa using hb) e;let⟨o,e,cc,d⟩:=id z';let hgl:i<⇑x:=hg;refine{_,rfl,Aa (s:={s with heap:=h',toks:=tk}) (n:=ty) e cc d ?_ {.str {#[c]},H,I1,{(u),rfl},{(rfl),c,hcx,rfl},{(hgl),z'},λb hb=>(hf b hb).1}};rcases hty with rfl | rfl <;> decide
 done:=by
  intro X hP hw hK hc i pins s σ H E I hf st hg;subst hP hw hK;let hi:i=x.cps.size:=Nat.le_antisymm st.1 hg;subst hi;let W:Walks X.prog X.w X.A it [it] [it] x.cps.size (SignAt x) (λi h=>h.IsStrIter it ty x t i):=by
   rcases hty with rfl | rfl
   ·exact Walks.strAscii (I.ok.hd hc) it x t
   ·exact Walks.strWide (I.ok.hd hc) it x t
  exact W.done s _ _ st.2 λh' tk eb=>{rfl,I.turns hf λb o hb e=>eb b o (by simpa using hb) e}
 self:=λA i s Q E z h=>by
  rcases hty with rfl | rfl
  ·exact wpAny_pyIter_striter_ascii z.2 h
  ·exact wpAny_pyIter_striter_wide z.2 h
def Rp (tl:TE):TI:=λσ H R=>tl σ H λx H1=>∃t,x=.str t/\R (P7 t) H1
def JD {tg l:Expr} {tl:TE} (hl:PE X l tl):PI X tg l (Rp tl):=by
 intro pins s σ H R I h;refine bR (hl pins s σ H _ I h) λv s1 z0=>?_;let⟨x,H1,I1,r1,q1⟩:=z0;let⟨t,e,q⟩:=q1;subst e;let⟨tk,rfl⟩:=r1;refine wpAny_pyIter_strU ?_;refine{↑s1,[↑s1],_,_,H1,rfl,I1.kept (t':=s1.toks) λb o e=>yj _ e,IW t tk _ (strIterType t) ?_,{zX _,_,ym _ rfl,rfl,rfl},λb hb=>?_,q}
 ·unfold strIterType
  split
  ·exact .inl rfl
  ·exact .inr rfl
 ·let e:b=↑s1:=by simpa using hb
  subst e;exact I1.tw (zh _) (I1.bf.fresh (zh _))
theorem vO:∀(l:List (Str×Tok)),Vals ((l.map (·.1)).map V.str) (strValues l)
 | []=>.nil
 | (x,t)::r=>.cons {(t),rfl} (vO r)
def NA:V->List V->Hp->VK->Prop:=λx vs H Q=>∃(t y:Str),x=.str t/\vs=[.str y]/\⇑y=1/\⇑t+2<=sizeLine/\∀l,H l=none->Q (.ref l) (upd H l (.lst ((PySem.Txt.split t y).map V.str)))
def gX:MW X "str.split" NA:=by
 intro pins s σ H x vs v us Q I rx rv h;let⟨t,y,rfl,rfl,hy,hz,q⟩:=h;let⟨tk,rfl⟩:=rx;let⟨u,rfl,tk',rfl⟩:=rv.one;let hy':(⇑y == 0)=false:=by rw[hy];rfl
 let hle:=split_le t y;let fin:∀(l:List (Str×Tok)) (k:Nat),l.map (·.1)=PySem.Txt.split t y->
   EP X pins σ Q (.ref ↑s) {s with heap:=s.heap.push {cls:=.type "list",data:=.seq (strValues l).toArray},toks:=k}:=λl k e=>
  {.ref _,_,I.NP (t':=k) (by rw[<-e];exact vO l) (by rw[za];ext),rfl,q _ I.fresh}
 cases h1:(decide (⇑t<⇑y)||decide (Builtin.Str.strKind t<Builtin.Str.strKind y))
 ·cases hf:(Builtin.Str.occurrences t y 0 ⇑t (⇑t+1)).isEmpty
  ·let es:PySem.Txt.split t y=Builtin.Str.partsBetween t (Builtin.Str.occurrences t y 0 ⇑t (⇑t+1)) ⇑y:=by
    unfold PySem.Txt.split;rw[h1,hf];rfl
   refine xV F.slot_str_split (wd s t tk) F.entry_str_split (F.args_str_split_2 _ _) (meets_str_split_sep t y tk tk' h1 hy' hf () (by rw[<-es];ext)) ?_;rw[strsFrom_eq];exact fin (numbered s.toks _) _ ((numbered_texts _ _).trans es.symm)
  ·let es:PySem.Txt.split t y=[t]:=by
    unfold PySem.Txt.split;rw[h1,hf];rfl
   refine xV F.slot_str_split (wd s t tk) F.entry_str_split (F.args_str_split_2 _ _) (meets_str_split_not_found t y tk tk' h1 hy' hf) ?_;exact fin [(t,tk)] _ es.symm
 ·let es:PySem.Txt.split t y=[t]:=by
   unfold PySem.Txt.split;rw[h1];rfl
  refine xV F.slot_str_split (wd s t tk) F.entry_str_split (F.args_str_split_2 _ _) (meets_str_split_cannot_occur t y tk tk' h1) ?_;exact fin [(t,tk)] _ es.symm
def Lz:V->List V->Hp->VK->Prop:=λx vs H Q=>∃(t y:Str),x=.str t/\vs=[.str y]/\Q (.bl (decide (0+⇑y<=⇑t)&&Builtin.Str.subAt t y 0)) H
def vi:MW X "str.startswith" Lz:=by
 intro pins s σ H x vs v us Q I rx rv h;let⟨t,y,rfl,rfl,q⟩:=h;let⟨tk,rfl⟩:=rx;let⟨u,rfl,tk',rfl⟩:=rv.one;exact xV F.slot_str_startswith (wd s t tk) F.entry_str_startswith (F.args_str_startswith_2 _ _) (gives_str_startswith t y tk tk').meets {.bl _,H,I,rfl,q}
def BY:dI X (.type "int") (λxs H Q=>∃(t:Str) (n:Int),xs=[.str t]/\PySem.intText? t=some n/\⇑t<=640/\Q (.int n) H):=by
 intro pins s σ H xs us Q I r h;let⟨t,n,rfl,hn,hl,q⟩:=h;let⟨u,rfl,tk,rfl⟩:=vals1 r;exact PySem.W.KIN.call_text hn hl {.int n,H,I.tok _,{_,rfl},q}
end
def join_one (sep x:Str):Str.join sep [x]=x:=rfl
def eI (sep x y:Str) (r:List Str):Str.join sep (x::y::r)=x++sep++Str.join sep (y::r):=rfl
theorem DF:∀{ps qs:List Str},ps≠[]->qs≠[]->(∀p∈ps,c∉p.cps.toList)->(∀q∈qs,c∉q.cps.toList)->Str.join {#[c]} ps=Str.join {#[c]} qs->ps=qs
 | [],_,h,_,_,_,_=>absurd rfl h
 | _,[],_,h,_,_,_=>absurd rfl h
 | [p],[q],_,_,_,_,h=>by rw[join_one,join_one] at h;rw[h]
 | [p],q::q2::r,_,_,hp,_,h=>by
  rw[join_one,eI] at h;let e:=yP (λz:Str=>z.cps.toList) h;simp only[cu] at e;exact absurd (show c∈p.cps.toList by rw[e];simp) (hp p zk)
 | p::p2::r,[q],_,_,_,hq,h=>by
  rw[join_one,eI] at h;let e:=yP (λz:Str=>z.cps.toList) h;simp only[cu] at e;exact absurd (show c∈q.cps.toList by rw[<-e];simp) (hq q zk)
 | p::p2::r,q::q2::r',_,_,hp,hq,h=>by
  rw[eI,eI] at h;let e:=yP (λz:Str=>z.cps.toList) h;simp only[cu,zA] at e;let⟨e1,e2⟩:=Lm.GW (hp p zk) (hq q zk) (show p.cps.toList++c::(Str.join {#[c]} (p2::r)).cps.toList=q.cps.toList++c::(Str.join {#[c]} (q2::r')).cps.toList from e);let ih:=DF (ps:=p2::r) (qs:=q2::r') (by simp) (by simp) (λz hz=>hp z (zj _ hz)) (λz hz=>hq z (zj _ hz)) (m6 e2);rw[ih,m6 e1]
def fA (ne:ps≠[]) (fr:∀p∈ps,c∉p.cps.toList):PySem.Txt.split (Str.join {#[c]} ps) {#[c]}=ps:=by
 refine DF ?_ ne (PySem.StrLaws.split_free _ c) fr (PySem.StrLaws.join_split _ _);intro z;have:=split_pos (Str.join {#[c]} ps) {#[c]};rw[z] at this;exact absurd this ∅
def AD (ha:c∉a.cps.toList) (hb:c∉b.cps.toList):PySem.Txt.split (a++{#[c]}++b) {#[c]}=[a,b]:=by
 refine fA (ps:=[a,b]) (by simp) λp hp=>?_;rcases zy.mp hp with rfl | hp
 ·exact ha
 ·rw[zu.mp hp];exact hb
def split1 (ha:c∉a.cps.toList):PySem.Txt.split a {#[c]}=[a]:=by
 refine fA (ps:=[a]) (by simp) λp hp=>?_;rw[zu.mp hp];exact ha
def Nr (ha:c∉a.cps.toList) (hb:c∉b.cps.toList) (hd:c∉d.cps.toList):PySem.Txt.split (a++{#[c]}++b++{#[c]}++d) {#[c]}=[a,b,d]:=by
 let e:a++({#[c]}:Str)++b++⟨#[c]⟩++d=Str.join ⟨#[c]⟩ [a,b,d]:=by
  rw[eI,eI,join_one];simp only[Il]
 rw[e];refine fA (ps:=[a,b,d]) (by simp) λp hp=>?_;rcases zy.mp hp with rfl | hp
 ·exact ha
 rcases zy.mp hp with rfl | hp
 ·exact hb
 ·rw[zu.mp hp];exact hd
def q9 (h:n<0):dec n ="-" ++ dec (-n):=by
 obtain⟨m,rfl⟩:∃m:Nat,n=Int.negSucc m:={(-n-1).toNat,()}
 refine m6 ?_;rw[cu];let e1:(dec (Int.negSucc m)).cps.toList=("-" ++ toString (m+1)).toList.map Char.toNat:=PyProof.Rows.signs_ofString _;let e2:(dec (-(Int.negSucc m))).cps.toList=(toString (m+1)).toList.map Char.toNat:=PyProof.Rows.signs_ofString _;rw[e1,e2,String.toList_append,zg];rfl
def jq {n:Nat} {c:Nat} (h:c∈(dec (n:Int)).cps.toList):48<=c/\c<=57:=by
 rw[rf] at h;exact Md h
def HX {n:Nat} (h:(dec (n:Int)).cps[0]?=some 48):⇑(dec (n:Int))=1:=by
 rcases Nat.eq_zero_or_pos n with rfl | hn
 ·rw[BJ];decide
 ·let⟨c,r,e,hc⟩:=Lm.Ka n hn
  rw[<-yY,rf,e] at h;simp only[zf,List.getElem?_cons_zero,xq] at h;exact absurd (Char.toNat_inj.mp (by rw[h];rfl)) hc
def DU {n:Nat}:1<=⇑(dec (n:Int)):=by
 rw[BJ];exact PySem.toDigits_len_ge 10 n
def Af {n k:Nat} (hk:0<k) (h:n<10^k):⇑(dec (n:Int))<=k:=by rw[BJ];exact Lm.NQ hk h
def N1 (a:Option Int) (n:Nat):Builtin.Str.strSliceIndices a none 1 n=Builtin.Str.strSliceIndices a (some (n:Int)) 1 n:=by
 let h:¬((n:Int)<0):=()
 let e:max (0:Int) (min (n:Int) (n:Int))=n:=()
 simp only[Builtin.Str.strSliceIndices,h,xQ,e,show((1:Int)>0)=True from by simp,wu]
def Hm (x:Str) (hab:a<=b) (hb:b<=⇑x):(PySem.Txt.slice x (some (a:Int)) (some (b:Int))).cps.toList=(x.cps.toList.drop a).take (b-a):=by
 unfold PySem.Txt.slice;split
 ·rename_i h
  rw[PySem.StrLaws.strSliceIndices_plain hab hb] at h;simp only[xM,yL,wy,za,zM] at h;let hl:⇑x.cps.toList=⇑x:=yG;let ea:a=0:=()
  let eb:b-a=⇑x.cps.toList:=()
  rw[eb,ea,List.drop_zero,zI]
 ·exact PySem.StrLaws.sliced_plain x hab hb
def ET (x:Str) (h:a<=⇑x):(PySem.Txt.slice x (some (a:Int)) none).cps.toList=x.cps.toList.drop a:=by
 let e:PySem.Txt.slice x (some (a:Int)) none=PySem.Txt.slice x (some (a:Int)) (some ((⇑x:Nat):Int)):=by
  unfold PySem.Txt.slice;rw[N1]
 let hl:⇑x.cps.toList=⇑x:=yG;rw[e,Hm x h (zh _),xb (by rw[xi];ext)]
def jI {K:yq} {mg:Str->Option wG} {base:wN} {x:Str} {C:wM} {bm:List wG} {newId:String} (P:wI) (m:Mod K mg base) (e:PySem.W.nsIn K mainGlobals x=some (some (.ref C)))
  (q:PySem.W.excIn K C bm newId=true):OwnCls x C bm newId mg base:=by
 let⟨mb,hb,hbb⟩:=m.blt;let⟨o0,es0,ep0,hg0,hd0,sk0,look⟩:=m.glob;let fr:∀y,y∉(es0.toList.filterMap λ(d:DictEntry)=>match d.key with | .str z _=>some z | _=>none)->mg y=none:=λy hy=>by
  rw[<-look y];show(es0.find? λd=>d.key.isStr y).map (·.val)=none;cases hf:es0.find? λd=>d.key.isStr y with
  | none=>rfl
  | some d=>
   exfalso;let hm:=Array.mem_of_find?_eq_some hf;let hk:=Array.find?_some hf;let⟨z,t,ez⟩:=sk0 d hm;let ezy:z=y:=by rw[ez] at hk;exact eq_of_beq (show(z == y)=true from hk)
   exact hy (wB.mpr {d,by simpa using hm,by rw[ez,ezy]})
 exact PySem.W.own_of_in (p:=P) (loose:=es0.toList.filterMap λ(d:DictEntry)=>match d.key with | .str z _=>some z | _=>none) m.LW {m.glob,hb,m.nolimit,hbb,λy _ hl _ _ _=>fr y hl} e q
structure Ey (P:wI) (w:wJ) (fs:List wM) (H H':Hp) (h B h':wN):Prop where
 keep:∀b o,h.get? b=some o->H b=none->b∉fs->B.get? b=some o
 slot:∀b o,h.get? b=some o->H b=none->b∈fs->∃sl,h'.get? b=some {o with slots:=sl}
 free:∀b o,h.get? b=some o->H b=none->H' b=none
 there:∀b o,h.get? b=some o->b∉fs->∃o',B.get? b=some o'
 ko:∀b xs,H b=some (.tup xs)->H' b=some (.tup xs)
 ji:∀b o u,H b=some (.kz o u)->H' b=some (.kz o u)
 kr:∀b ps,H b=some (.IY ps)->∃more,H' b=some (.IY (ps++more))
 bf:lQ P w H' B
 ik:B.StaysIn h'
section
variable {P:wI} {w:wJ} {fs:List wM} {H H':Hp} {h B h' h2:wN}
def Ey.un (f:Ey P w fs H H' h B h') (BD:∀b∈fs,H b=none):Un fs [] H H' h h' where
 keep:=λb o e n hb _=>f.ik b o (f.keep b o e n hb)
 slot:=λb o e n hb _=>f.slot b o e n hb
 free:=λb o e n _=>f.free b o e n
 there:=λb o e _=>by
  by_cases hb:b∈fs
  ·let⟨sl,q⟩:=f.slot b o e (BD b hb) hb
   exact{_,q}
  ·let⟨o',q⟩:=f.there b o e hb
   exact{o',f.ik b o' q}
 ko:=f.ko
 ji:=f.ji
 kr:=f.kr
def Ey.on (f:Ey P w fs H H' h B h') (u:h'.UpToSlots h2) (st:B.StaysIn h2) (nf:∀b∈fs,∃o,h'.get? b=some o/\∀vs,o.data≠.fields vs):Ey P w fs H H' h B h2:=
 {f.keep,λb o e n hb=>by
  let⟨sl,q⟩:=f.slot b o e n hb;let⟨o1,q1,nd⟩:=nf b hb;rw[q] at q1;cases q1;let⟨sl2,q2⟩:=u b _ q nd;exact{(sl2),q2},f.free,f.there,f.ko,f.ji,f.kr,f.bf,st}
end
def Eu (P:wI) (w:wJ):Ew:=λouter H s E e s'=>∃(a:wM) (cls a0:wG) (B:wN) (H':Hp),e=.ref a/\s'.os=s.os/\AllBare s'.gens/\Heap.FlyingW B outer a cls a0 s'.heap/\Ey P w (ic outer) H H' s.heap B s'.heap/\E cls none H'
def tu (hf:env.frame=some L):ic (env::outer)=L::ic outer:=by
 unfold ic;rw[wq,hf]
def Nf (C:wM) (te:TA) (E:XK):TS:=λ_ σ H=>te σ H λvs H1=>⇑vs<=sizeLine/\E (.ref C) none H1
section
variable {P:wI} {w:wJ} {K:yq} {mg:Str->Option wG} {base:wN} {N:List Str} {qual:Str} {scope:Scope} {f:wM} {cdv:wG} {A:wK} {outer:List Env} {s₀:wH} {H₀:Hp} {E:XK}
def C3
  (hC0:PySem.W.nsIn K mainGlobals x=some (some (.ref C))) (hQ0:PySem.W.excIn K C bm newId=true) (FB:ExcBaseFacts Bn newId initId bm) (hg:Gl (gk (Eu P w) P w K mg base N qual scope f cdv A outer s₀ H₀ E) x)
  (ha:PA (gk (Eu P w) P w K mg base N qual scope f cdv A outer s₀ H₀ E) (e₀::es) ta) (hd:(x == ("__debug__": Str))=false<|>qb_)
  (hs:starEach (e₀::es) (gk (Eu P w) P w K mg base N qual scope f cdv A outer s₀ H₀ E).env=(false,eval e₀ (gk (Eu P w) P w K mg base N qual scope f cdv A outer s₀ H₀ E).env)::starEach es (gk (Eu P w) P w K mg base N qual scope f cdv A outer s₀ H₀ E).env<|>qe_)
  (hpl:(backTo cpos (starEach es (gk (Eu P w) P w K mg base N qual scope f cdv A outer s₀ H₀ E).env)).any (·.1)=false<|>qe_) :
  PS (gk (Eu P w) P w K mg base N qual scope f cdv A outer s₀ H₀ E) (.Raise (some (.Call (.Name x np) (e₀::es) [] cpos)) none pos) (Nf C ta E):=by
 intro pins s σ H D I h;let O:OwnCls x C bm newId mg base:=jI P I.ok.mod hC0 hQ0;let⟨tl,Nn,nm,q,bs,hdct,sn,sub,ab,col,dd,k0,k1,k2,k3,k5,mN,hC,hN,hni,T⟩:=O.obj;refine wpAny_Raise_call_subT (C:=C) (nm:=nm) (q:=q) (N:=Nn) (bs:=bs) (bm:=tl) (hdct:=hdct) (sn:=sn) (sub:=sub) (ab:=ab) (col:=col) (dd:=dd) (k0:=k0) (k1:=k1) (k2:=k2) (k3:=k3) (k5:=k5)
  FB (mN:=mN) (T.hasType FB.hasBase) (I.ok.hd rfl) (by rw[hs];show(false||(backTo cpos (starEach es (gk (Eu P w) P w K mg base N qual scope f cdv A outer s₀ H₀ E).env)).any (·.1))=false;rw[hpl];rfl) hni (eD I hg O.bound {rfl,?_} hd)
 let hA:=ha cpos pins s σ H _ I h;rw[hs] at hA ⊢;refine Calls.evalArgs_plain (yV hA (λus s2 z0=>?_) λ_ _ y=>y);let⟨vs,H2,I2,r2,hl,q2⟩:=z0;refine{rfl,?_,I2.bk _ _ hC,hN.keeps I2.bk,T.keeps I2.bk,λh' e mk=>?_}
 ·show ⇑us<=sizeLine
  rw[<-⇑r2];exact hl
 show wpAny (model P w) (A.deeper (envOfC qual scope ↑s₀ f cdv)) (leaving (envOfC qual scope ↑s₀ f cdv) (.ref e)) (λ_ s''=>Eu P w outer H₀ s₀ E (.ref e) s'') (λe' s''=>Eu P w outer H₀ s₀ E e' s'') {s2 with heap:=h'};let hfr:ic (envOfC qual scope ↑s₀ f cdv::outer)=↑s₀::ic outer:=tu rfl;let hst:s2.heap.FunFrames base (envOfC qual scope ↑s₀ f cdv::outer):=I2.stack;let hin:∀env∈(envOfC qual scope ↑s₀ f cdv::outer),∀a,env.frame=some a->a∈ic (envOfC qual scope ↑s₀ f cdv::outer):=λenv he a hf=>wB.mpr {(env),he,hf};let hl:=PySem.W.funFrames_hide (as:=ic (envOfC qual scope ↑s₀ f cdv::outer)) hst hin;refine wpAny_leaves_madeW (base:=PySem.W.hideAll s2.heap (ic (envOfC qual scope ↑s₀ f cdv::outer))) (h:=s2.heap) I2.ok.frames rfl (λb o q=>PySem.W.of_hideAll _ q) hl mk (λh'' t fl _ _ ups=>?_);let low:∀b o,s₀.heap.get? b=some o->b≠↑s₀:=λb o e z=>absurd (yn e) (by rw[z];exact zW _);let nin:∀b o,s₀.heap.get? b=some o->b∉ic outer->b∉ic (envOfC qual scope ↑s₀ f cdv::outer):=λb o e n z=>by
  rw[hfr] at z;rcases zy.mp z with z | z
  ·exact low b o e z
  ·exact n z
 let ku:∀b:wM,b∉(gk (Eu P w) P w K mg base N qual scope f cdv A outer s₀ H₀ E).ex:=λb z=>absurd (show b∈([]:List wM) from z) (by simp);refine{e,.ref C,.ref t,_,H2,rfl,I2.os,I2.bare,fl,{λb o q n hb=>wo _ (I2.base.keep b o q n hb (ku b)) (nin b o q hb),λb o q n hb=>?_,λb o q n=>I2.base.free b o q n (ku b),λb o q hb=>?_,I2.base.ko,I2.base.ji,I2.base.kr,λa o q=>?_,fl.1},q2}
 ·let⟨sl,e1⟩:=I2.base.slot b o q n hb (ku b)
  let⟨_,o1,e2,nd⟩:=I2.ok.kZ.mem hb;let e3:=mk.keeps _ _ e1;let e2':s₀.heap.get? b=some o1:=e2;rw[q] at e2';cases e2';let⟨sl2,e4⟩:=ups b _ e3 nd;exact{(sl2),e4}
 ·let⟨o',e1⟩:=I2.base.there b o q (ku b)
  exact{o',wo _ e1 (nin b o q hb)}
 ·refine(I2.bf a o q).ik (λb u hb e1=>wo _ e1 λz=>?_) (λ_ z=>z) λ_ _ z=>z
  let n:=I2.jz b z;rcases hb with rfl | hb
  ·rw[q] at n;cases n
  ·rw[hb] at n;cases n
def Iz.R7 {x:Str} {st:Stmt} {fd:wL} {ps:List Str} {k:Nat} {sp:Sp} (F:Iz K x qual st f fd) (S:dr N ps (aD st)) (len:∀vs H Q E,sp vs H Q E->⇑vs=⇑ps)
  (hbody:∀(cdv:wG) (A:wK) (outer:List Env) (s:wH) (H:Hp) (vs:List V) (Q:VK) (E:XK),dw k (A.deeper (envOfC qual (aD st) ↑s f cdv))->sp vs H Q E->
   ∃t,vM (gk (Eu P w) P w K mg base N qual (aD st) f cdv A outer s H E) (aZ st) t/\t {nx:=λ_ H'=>Q .aX H',rt:=Q} (start N vs) H):bQ P w K mg base (Eu P w) (k+1) f fd ps sp:=by
 let⟨oc,od,kV,doc,pm,an,cdv,ct,osl,rfl,lk,hcd⟩:=F.ex;exact Kh lk hcd S len λA outer s H vs Q E hr hsp=>hbody cdv A outer s H vs Q E hr hsp
end
abbrev Cx.held (X:Cx) (e:wG):Cx:={X with A:=X.A.mark (some e),calm:=false}
theorem Cx.Ok.held {X:Cx} (ok:X.Ok) (e:wG):(X.held e).Ok:=
 {ok.mod,ok.kind,ok.glob,ok.blt,ok.above,ok.inj,ok.has,ok.Ol,λz=>(nomatch (show false=true from z)),ok.frames,ok.OH,ok.Qj,ok.bs,ok.IE,ok.ku,ok.Fy,ok.kZ,ok.BD}
def Cx.Ok.iT {X:Cx} {e:wG} (ok:(X.held e).Ok) (hd:X.calm=true->X.A.handled=none):X.Ok:=
 {(ok.mod),ok.kind,ok.glob,ok.blt,ok.above,ok.inj,ok.has,ok.Ol,hd,ok.frames,ok.OH,ok.Qj,ok.bs,ok.IE,ok.ku,ok.Fy,ok.kZ,ok.BD}
section
variable {X:Cx} {pins:List (wM×Obj)} {σ:St} {H:Hp} {s:wH} {e:wG}
theorem Inv.held (I:Inv X pins σ H s) (e:wG):Inv (X.held e) pins σ H s:={I.ok.held e,I.os,I.bare,I.base,I.loc,I.cell,I.free,I.g9,I.pin,I.bf,I.len}
theorem Inv.iT (I:Inv (X.held e) pins σ H s) (hd:X.calm=true->X.A.handled=none):Inv X pins σ H s:={I.ok.iT hd,I.os,I.bare,I.base,I.loc,I.cell,I.free,I.g9,I.pin,I.bf,I.len}
theorem SP.iT (hd:X.calm=true->X.A.handled=none) (h:SP (X.held e) pins D f s'):SP X pins D f s':=by
 cases f with
 | next=>let⟨σ',H',I,q⟩:=h;exact{σ',H',I.iT hd,q}
 | brk=>let⟨σ',H',I,q⟩:=h;exact{σ',H',I.iT hd,q}
 | cont=>let⟨σ',H',I,q⟩:=h;exact{σ',H',I.iT hd,q}
 | ret u=>let⟨v,σ',H',I,r,q⟩:=h;exact{v,σ',H',I.iT hd,r,q}
end
def OZ (i:Nat) (sp:Sp) (t:TA) (C:wM) (th:TS):TS:=λD σ H=>t σ H λvs H1=>sp vs H1 (λv H2=>bj i v σ H2 D.nx) λcls _ H2=>cls=.ref C/\th D σ H2
section
variable {X:Cx} {k:Nat} {f:wM} {fd:wL} {ps:List Str} {sp:Sp} {fx cn x:Str} {p pos cpos pa tpos np hpos:Pos} {e₀:Expr} {es:List Expr} {t:TA} {i:Nat} {C:wM} {bm:List wG} {newId:String} {b₀:Stmt} {suite:List Stmt} {th:TS}
def LF (F:bQ X.prog X.w X.K X.mg X.base (Eu X.prog X.w) k f fd ps sp) (hr:dw k X.A) (hg:Gl X fx) (hm:X.mg fx=some (.ref f)) (hk:PySem.W.keepIn X.K (.ref f)=true) (hb:Binds X.K fd ps []) (ha:PA X.Cp (e₀::es) t)
  (hc:X.calm=true) (hN:X.N.Nodup) (hi:X.N[i]?=some x) (hx:Loc X.env.scope x) (hgc:Gl X cn) (hC0:PySem.W.nsIn X.K mainGlobals cn=some (some (.ref C))) (hQ0:PySem.W.excIn X.K C bm newId=true) (hbase:bm.contains (.type "BaseException")=true) (hstk:X.stack=X.env::X.outer) (hfrm:X.env.frame=some X.env.locals)
  (hsu:∀e,vM (X.held e).Cp (b₀::suite) th)
  (hdb:(fx == ("__debug__": Str))=false<|>qb_) (hdc:(cn == ("__debug__": Str))=false<|>qb_) (he:starEach (e₀::es) X.env=(false,eval e₀ X.env)::starEach es X.env<|>qe_) (hpl:(backTo cpos (starEach es X.env)).any (·.1)=false<|>qe_)
  (hs:swapsWith (.Call (.Name fx p) (e₀::es) [] cpos) (some (.Name x tpos)) pa.line X.env=pure false<|>qe_) (hf:X.fn x=true\/X.env.scope.names.lookup x=some .local<|>qa_) :
  PS X (.Try [.Assign [.Name x tpos] (.Call (.Name fx p) (e₀::es) [] cpos) pa] [.ExceptHandler (some (.Name cn np)) none (b₀::suite) hpos] [] [] pos) (OZ i sp t C th):=by
 intro pins s σ H D I h;let O:OwnCls cn C bm newId X.mg X.base:=jI X.prog I.ok.mod hC0 hQ0;refine wpAny_Try_except (wpAny_execs_cons ?_);refine wpAny_Assign_Name ?_ hs;refine y7 (eD I hg hm ?_ hdb);let hA:wpAny (model X.prog X.w) X.A (spliced (backTo cpos (starEach (e₀::es) X.env))) (AP X.Cp pins σ _) (λ_ _=>False) s:=ha cpos pins s σ H _ (I.lR _) h;refine wz (h₀:=X.base) I.ok.mod.LW hk (yV hA (λus s1 z0=>?_) λ_ _ z=>z.elim) he hpl;let⟨vs,H1,I1',r,q⟩:=z0;refine{I1'.iY,?_};let I1:Inv X pins σ H1 s1:=I1'.eP;let hl:⇑us=⇑ps:=by rw[<-⇑r];exact F.len _ _ _ _ q
 refine wpAny_call (xx (F.run X.A X.stack s1 H1 {us,[]} us vs _ _ hr I1.HU (by have:=hb s1 us I1.iY (by rw[zP];exact hl);rw[zP] at this;exact this) r q) λrr s' hq=>?_);cases rr with
 | ok fl=>
  cases fl with
  | ret u=>
   let⟨v,H2,I2,r2,q2⟩:=I1.after hq;refine m7 I2 hN hi hx r2 (λs2 I3=>?_) hf;exact xS (xS {_,H2,I3,q2})
  | next=>exact False.elim hq
  | brk=>exact False.elim hq
  | cont=>exact False.elim hq
 | error ev=>
  let⟨a,cls,a0,B,H',rfl,os,bare,fl,fly,⟨rfl,q2⟩⟩:=hq;let BD:∀b∈ic X.stack,H1 b=none:=I1.jz;let nf:∀{hh:wN},Heap.FunFrames hh B X.stack->∀b∈ic X.stack,∃o,hh.get? b=some o/\∀vs,o.data≠.fields vs:=λhF b hb=>(hF.mem hb).2;let back:∀(hh:wN),Ey X.prog X.w (ic X.stack) H1 H' s1.heap B hh->Inv X pins σ H' {s' with heap:=hh}:=λhh fy=>
   I1.GZ (s':={s' with heap:=hh}) (ch:=[]) os (fy.un BD) (fy.bf.kept fy.ik) bare λb z=>absurd z (by simp)
  let hfr:X.A.frames=some (X.env::X.outer):=by rw[<-hstk];exact I1.ok.frames
  refine wpAny_looks_onW hfr hfrm (by rw[<-hstk];exact fl) λh4 held4 up4=>?_;refine wpAny_landsW held4 λh5 fl5 up5=>?_;let fl5':Heap.FlyingW B X.stack a (.ref C) a0 h5:=by rw[hstk];exact fl5
  let fy5:Ey X.prog X.w (ic X.stack) H1 H' s1.heap B h5:=fly.on (up4.trans up5) fl5.1 (nf fl.2.2.1);let I5:=back h5 fy5;let⟨ob,hob,hobc⟩:=fl5'.there;let⟨tl,Nn,nm,qn,bs,hdct,sn,sub,ab,col,dd,k0,k1,k2,k3,k5,mN,hC,hN',hni,T⟩:=O.obj;refine wpAny_handleBy_cons (codeAny_handlers_test (eD (X:=X.held (.ref a)) (I5.held _) hgc O.bound ?_ hdc)) (by intro q;cases q);refine wpAny_excMatches_sub_self (I5.bk _ _ hC) hob hobc (T.hasType hbase) (codeAny_handlers_suite ?_);refine lands_againW fl5' λh6 fl6 up6=>?_;let fy6:Ey X.prog X.w (ic X.stack) H1 H' s1.heap B h6:=fy5.on up6 fl6.1 (nf fl5'.2.2.1);let I6:=back h6 fy6;refine yV (hsu (.ref a) pins _ σ H' D ((I6.held _).lR _) q2) (λfl s7 z=>?_) λ_ _ z=>z.elim;exact SP.iT I.ok.hd (SP.eP z)
end
section
variable {X:Cx}
def I0 {zs:List Str} {its:List wG} (r:Vals (zs.map V.str) its) {j:Nat} (h:j<⇑its):∃z t,zs[j]?=some z/\its[j]=.str z t:=by
 let hl:⇑zs=⇑its:=by have:=⇑r;rw[za] at this;exact this
 let⟨u,hu,ru⟩:=r.get (i:=j) (x:=.str (zs[j]'())) (by rw[zF,zb ()];rfl);let⟨t,rfl⟩:=ru;rw[zb h] at hu;exact{_,t,zb (),ya hu}
end
structure iS (K:yq) (D:wM):Prop where
 ga:PySem.W.findIn K (.ref D) "__getattribute__"= some (some (.builtin "BaseException.__getattribute__"))
 RN:PySem.W.findIn K (.ref D) "__getattr__"= some none
 ca:PySem.W.findIn K (.ref D) "__class__"= some (some (.builtin "object.__class__"))
 mB:PySem.W.mroIn K D (.type "BaseException")=some true
 mO:PySem.W.mroIn K D (.type "object")=some true
def tW {K:yq} {D:wM} {b:wG} {r:Bool} (h:PySem.W.mroIn K D b=some r):(PySem.W.clsIn K D).isSome=true:=by
 unfold PySem.W.mroIn at h;let⟨cd,e,_⟩:=Option.bind_eq_some_iff.mp h;rw[e];rfl
def iS.cl {K:yq} {D:wM} (Z:iS K D):(PySem.W.clsIn K D).isSome=true:=tW Z.mO
def J0 {K:yq} {D:wM} {n:String} {b:Bool} (h:PySem.W.subIn K (.ref D) (.type n)=some b) (hm:PySem.W.kitMeta n=true):PySem.W.kitOne K (.ref D) (.type n)=some b:=by
 unfold PySem.W.kitOne;rw[yD (by simp)];unfold PySem.W.kitCls;dsimp only;rw[yE hm];exact h
def LU {K:yq} {D C:wM} {b:Bool} (h:PySem.W.subIn K (.ref D) (.ref C)=some b) (ne:D≠C) (hm:PySem.W.mroIn K C (.type "object")=some true) (ht:PySem.W.typeIn K (.ref C)=some (.type "type")):PySem.W.kitOne K (.ref D) (.ref C)=some b:=by
 unfold PySem.W.kitOne;rw[yD (by simp[ne])];unfold PySem.W.kitCls;dsimp only;rw[yE (by rw[tW hm,ht];rfl)];exact h
def J1 {K:yq} {D:wM}:PySem.W.kitOne K (.ref D) (.ref D)=some true:=by unfold PySem.W.kitOne;rw[yE (by simp)]
def LV {K:yq} {t:wG}:PySem.W.kitAny K t []=some false:=rfl
def kW {K:yq} {t c:wG} {r:List wG} {b:Bool} (h:PySem.W.kitOne K t c=some false) (h':PySem.W.kitAny K t r=some b):PySem.W.kitAny K t (c::r)=some b:=by
 unfold PySem.W.kitAny;rw[h];exact h'
structure km (K:yq) (D C:wM):Prop where
 sub:PySem.W.subIn K (.ref D) (.ref C)=some false
 ob:PySem.W.mroIn K C (.type "object")=some true
 ty:PySem.W.typeIn K (.ref C)=some (.type "type")
def km.Pu {K:yq} {D C:wM} (n:km K D C) (self:PySem.W.subIn K (.ref D) (.ref D)=some true):PySem.W.kitOne K (.ref D) (.ref C)=some false:=
 LU n.sub (λe=>by subst e;have:=n.sub;rw[self] at this;cases this) n.ob n.ty
section
variable {K:yq} {D x:wM} {prog:wI} {w:wJ} {A:wK} {E:wG->wH->Prop} {h:wN} {g:Array GenState} {d:Drawn} {t:Nat} {os:OsState}
def DO {M:Model} {o:Obj} (hx:h.get? x=some o) (hc:o.cls=.ref D):PySem.W.Looks M h (typeOf (.ref x)) (.ref D):=hc▸(PySem.W.Looks.ld hx).andThen .now
open Builtin Builtin.ObjectAttr Builtin.Getset_descriptor in
def N8 {o:Obj} {R:Result->wH->Prop} {tp:wG} (X:K.In h) (Z:iS K D) (hx:h.get? x=some o) (hc:o.cls=.ref D) (hq:R (.ok (.ret (.ref D))) {(h),g,d,t,os}) :
  codeAny (model prog w) A (.call (.builtin "getset_descriptor.__get__") {[.builtin "object.__class__",.ref x,tp],[]}) R {(h),g,d,t,os}:=by
 let L0:=DO (M:=model prog w) hx hc;let L1:=PySem.W.looks_mroIn (M:=model prog w) X Z.mO;refine codeAny_call_builtin PySem.W.KF.slot_gs.plain PySem.W.KF.entry_gs (PySem.W.KF.slot_gs.check _ _ _ _ _ _ _ _ PySem.W.KF.type_class (PySem.W.KF.args_gs _ _ _) ?_);unfold Builtin.«getset_descriptor.__get__» descrGet;rw[PySem.W.dga_obj];refine yi (yk ?_);unfold descrGetter descrCheckInstance descrNameAndClass isInstance;simp only[PySem.W.KF.owner_class]
 repeat (open PySem.W in lk)
 refine{Code.quiet_builtin _ (by decide +kernel),xB PySem.W.KF.entry_class ?_};unfold Builtin.«object.__class__» shownTypeOf
 repeat (open PySem.W in lk)
 exact hq
def Kl {o:Obj} {tk:Tok} {Q:Fin->wH->Prop} (X:K.In h) (Z:iS K D) (hx:h.get? x=some o) (hc:o.cls=.ref D) (hq:Q (.done (.ret (.ref D))) {(h),g,d,t,os}) :
  wpAny (model prog w) A (Builtin.«object.__getattribute__» {[.ref x,.str "__class__" tk],[]}) Q E {(h),g,d,t,os}:=by
 let hT5:({(h),g,d,t,os}:wH).TypeIs (.builtin "object.__class__") "getset_descriptor":=F.typeOf_object_class;let f5:=F.typeOf_object_class;let f6:=F.slot_gs_get.lookup;let f7:=F.slot_gs_set.lookup;let L1:=PySem.W.looks_findIn (M:=model prog w) X Z.ca
 repeat (any_goals (first | assumption | (with_reducible refine wpAny_loadPart_at hx ?_;rw[hc]) | (with_reducible refine L1.at ?_) | wp_step))
 refine N8 X Z hx hc ?_
 repeat (any_goals (first | assumption | wp_step))
def DP {M:Model} {o:Obj} {nameV:wG} {Q:Unit->wH->Prop} (X:K.In h) (Z:iS K D) (hx:h.get? x=some o) (hc:o.cls=.ref D) (hq:Q .unit {(h),g,d,t,os}) :
  wpAny M A (checkBuiltinCall "BaseException.__getattribute__" {[.ref x,nameV],[]}) Q E {(h),g,d,t,os}:=by
 let hk:builtinKind "BaseException.__getattribute__"= some .slot:=by decide +kernel
 let hsplit:splitId "BaseException.__getattribute__"= some ("BaseException","__getattribute__"):=by decide +kernel
 let L1:=PySem.W.looks_mroIn (M:=M) X Z.mB;let ha:=F.args_bexc_ga (.ref x) nameV;simp only[checkBuiltinCall,hk,hsplit];refine yi ?_
 ·unfold isInstance
  repeat (first | (with_reducible refine wpAny_loadPart_at hx ?_;rw[hc]) | (with_reducible refine L1.at ?_) | wp_step)
  exact hq
def PH {o:Obj} {tk:Tok} {fill expr:Bool} {Q:wG->wH->Prop} (X:K.In h) (Z:iS K D) (hx:h.get? x=some o) (hc:o.cls=.ref D) (hq:Q (.ref D) {(h),g,d,t,os}) :
  wpAny (model prog w) A (getAttrBy (.ref x) (.str "__class__" tk) fill expr) Q E {(h),g,d,t,os}:=by
 let f3:=F.attr_ValueError.ga.bind (.ref x);let hx0:(expr&&onTheHeap (Value.builtin "BaseException.__getattribute__"))=false:=by cases expr <;> rfl
 let hx2:(Value.builtin "BaseException.__getattribute__"== Value.builtin "object.__getattribute__")=false:=by decide +kernel
 let hx1:(onTheHeap (Value.ref D)&&Value.builtin "BaseException.__getattribute__"== Value.builtin "object.__getattribute__")=false:=by rw[hx2];rfl
 let L1:=PySem.W.looks_findIn (M:=model prog w) X Z.ga;let L2:=PySem.W.looks_findIn (M:=model prog w) X Z.RN
 repeat (any_goals (first | assumption | (with_reducible refine wpAny_loadPart_at hx ?_;rw[hc]) | (with_reducible refine L1.at ?_) | (with_reducible refine L2.at ?_) | wp_step))
 refine codeAny_call_builtin F.attr_ValueError.ga.plain F.entry_bexc_ga (DP X Z hx hc (Kl X Z hx hc ?_))
 repeat (any_goals (first | assumption | wp_step))
def Km {o:Obj} {Q:Option wG->wH->Prop} {s:wH} (X:K.In s.heap) (Z:iS K D) (hx:s.heap.get? x=some o) (hc:o.cls=.ref D) (hq:Q (some (.ref D)) {s with toks:=s.toks+1}) :
  wpAny (model prog w) A (getAttr? (.ref x) "__class__") Q E s:=by
 let⟨h,g,d,t,os⟩:=s;unfold getAttr? getAttrBy?;refine yi (wpAny_mkText (yi (wg ?_)));refine PH X Z hx hc ?_;exact yk hq
def L8 {M:Model} {S:wM} {o:Obj} {ddS:Option wM} {cdS:ClassData} {slS:Array (Option wG)} {Q:Bool->wH->Prop} (X:K.In h) (hx:h.get? x=some o) (hc:o.cls=.ref D) (hS:K.lookup S=some {.type "type",ddS,.cls cdS,slS}) (hSB:PySem.W.mroIn K S (.type "BaseException")=some true)
  (hup:PySem.W.mroIn K D (.ref S)=some true) (hq:Q true {(h),g,d,t,os}):wpAny M A (excMatches (.ref x) (.ref S)) Q E {(h),g,d,t,os}:=by
 let L1:=PySem.W.looks_mroIn (M:=M) X hSB;let L2:=PySem.W.looks_mroIn (M:=M) X hup;let hS':=X _ _ hS;let noTuple:=tc_notTuple;unfold excMatches
 repeat (first
  | (with_reducible refine wpAny_loadPart_at hx ?_;rw[hc])
  | (with_reducible refine wpAny_loadPart_at hS' ?_)
  | (with_reducible refine L1.at ?_)
  | (with_reducible refine L2.at ?_)
  | wp_step)
 exact hq
def FR {S:wM} {bm:List wG} {n:String} (e:PySem.W.excIn K S bm n=true):∃dd cd sl,K.lookup S=some {.type "type",dd,.cls cd,sl}:=by
 unfold PySem.W.excIn at e;split at e
 ·exact{_,_,_,‹_›}
 ·cases e
def GG (Z:iS K D):PySem.W.KitX K (.ref x) (.ref D) (λh=>∃o,h.get? x=some o/\o.cls=.ref D) where
 ty:=λ_ _ _ ⟨o,hx,hc⟩=>DO hx hc
 it:=λ_ _ X _=>by
  let hcD:=Z.cl;unfold PySem.W.clsIn at hcD;split at hcD
  ·rename_i c' d' cd' sl' ho
   intro A' Q' E' s' k q;unfold isType loadHead;exact yi (wpAny_loadPart (k _ _ (X _ _ ho)) (yk q))
  ·cases hcD
 ne:=λh tp dd its n sl X htp=>by
  let hcD:=Z.cl;refine Bool.eq_false_iff.mpr λq=>?_;let e:D=tp:=Value.ref.inj (wy.mp q);subst e;unfold PySem.W.clsIn at hcD;split at hcD
  ·rename_i c' d' cd' sl' ho
   let z:=(X _ _ ho).symm.trans htp;cases z
  ·cases hcD
 ca:=λX ⟨o,hx,hc⟩ k=>Km X Z hx hc k
end
section
variable {X:Cx}
theorem vP:∀{cs:List wM} {us:List wG},Vals (cs.map V.ref) us->us=cs.map Value.ref
 | [],_,.nil=>rfl
 | c::cs,_,.cons r t=>by
  cases(show _=Value.ref c from r);rw[vP t];rfl
end
def bu.here (x:bu P w H h a o):∃ob,h.get? a=some ob:=by
 cases o with
 | lst xs=>let⟨_,_,_,_,e⟩:=x;exact{_,e}
 | tup xs=>let⟨_,_,_,o,e,_⟩:=x;exact{_,e}
 | dK kvs=>let⟨_,_,_,_,o,_,_,e,_⟩:=x;exact{_,e}
 | dT kvs=>let⟨_,_,_,_,o,_,_,e,_⟩:=x;exact{_,e}
 | set S n=>let⟨o,_,_,_,e,_⟩:=x;exact{_,e}
 | ins C dx fs=>let⟨_,_,_,e,_⟩:=x;exact{_,e}
 | own y=>exact x
 | xd fs=>let⟨_,⟨_,_,_,e,_⟩,_⟩:=x;exact{_,e}
 | Co lo hi=>let⟨_,_,_,e⟩:=x;exact{_,e}
 | kz ob u=>let⟨e,_⟩:=x;exact{_,e}
 | IY ps=>exact{_,x}
 | met f y=>exact{_,x}
 | ext φ=>exact x.2.1
section
variable {X:Cx} {pins:List (wM×Obj)} {σ:St} {H:Hp} {s:wH}
def Inv.OU (I:Inv X pins σ H s) (hn:H a=none) (h0:X.s₀.heap.get? a=none) (hl:a≠X.env.locals) (hc:∀x c,X.env.cells.lookup x=some c->c≠a) (hp:∀p∈X.pn++pins,p.1≠a)
  (new:bu X.prog X.w (upd H a o) s.heap a o):Inv X pins σ (upd H a o) s where
 ok:=I.ok
 os:=I.os
 bare:=I.bare
 base:={I.base.keep,I.base.slot,λb ob e n hx=>by rw[ar (λz=>by rw[z,h0] at e;cases e)];exact I.base.free b ob e n hx,I.base.there,
  λb xs e=>by have:=I.base.ko b xs e;rw[ar (aS this hn)];exact this,λb ob u e=>by have:=I.base.ji b ob u e;rw[ar (aS this hn)];exact this,
  λb ps e=>by let⟨m,e1⟩:=I.base.kr b ps e;exact{m,by rw[ar (aS e1 hn)];exact e1}}
 loc:=I.loc
 cell:=I.cell
 free:=by rw[ar (Ne.symm hl)];exact I.free
 g9:=λx c e=>by rw[ar (hc x c e)];exact I.g9 x c e
 pin:=λp hpp=>by let⟨e,n,ne,nf,d⟩:=I.pin p hpp;exact{e,by rw[ar (hp p hpp)];exact n,ne,nf,d}
 bf:=λb u e=>by
  by_cases hb:b=a
  ·subst hb
   rw[aA] at e;cases e;exact new
  ·rw[ar hb] at e
   refine(I.bf b u e).ik (λ_ _ _ q=>q) (λc q=>?_) λc xs q=>?_
   ·rw[ar (aS q hn)];exact q
   ·rw[ar (aS q hn)];exact q
 len:=I.len
def Inv.La {h':wN} {n:Str} {j:Nat} {v:Option wG} {m:Str->Option wG} {t':Nat} (I:Inv X pins σ H s) (hN:X.N.Nodup) (hj:X.N[j]?=some n) (hl:∀(i:Nat) (x:Str) (v:V),X.N[i]?=some x->σ[i]?=some (some v)->MV X.env.scope x->∃u,RelV v u/\Look X.env s.heap m x u) (hn:h'.Ns X.env.locals (λx=>if x=n then v else m x)) (hs:Heap.SameBut X.env.locals s.heap h') :
  Inv X pins (σ.set j none) H {s with heap:=h',toks:=t'}:=by
 let GX:=I.GX;refine{I.ok,I.os,I.bare,{λb o e n hb hx=>?_,λb o e n hb hx=>?_,I.base.free,λb o e hx=>?_,I.base.ko,I.base.ji,I.base.kr},{_,hn,λi y v' e1 e2 e3=>?_},λy c e=>?_,I.free,I.g9,λp hp=>?_,λb ob e=>?_,by simpa using I.len}
 ·exact(hs.2 b (z9 (zT (yn e) I.ok.above))).trans (I.base.keep b o e n hb hx)
 ·let⟨sl,e1⟩:=I.base.slot b o e n hb hx
  exact{sl,(hs.2 b (z9 (zT (yn e) I.ok.above))).trans e1}
 ·let⟨o',e1⟩:=I.base.there b o e hx
  exact{o',(hs.2 b (z9 (zT (yn e) I.ok.above))).trans e1}
 ·by_cases hi:i=j
  ·subst hi
   rw[List.getElem?_set] at e2;split at e2
   ·split at e2 <;> cases e2
   ·rename_i z;exact absurd rfl z
  ·rw[List.getElem?_set_ne (Ne.symm hi)] at e2
   let⟨u',r',q⟩:=hl i y v' e1 e2 e3;refine{u',r',?_};rcases q with⟨k,e⟩ | ⟨k,c,e,z⟩
   ·refine .inl {k,?_}
    have:y≠n:=λe=>hi (sW hN e1 (e▸hj));simp[this,e]
   ·exact .inr {k,c,e,z.sameBut hs (GX y c e)}
 ·let⟨w',z⟩:=I.cell y c e
  exact{w',z.sameBut hs (GX y c e)}
 ·let⟨e,n,ne,nf,d⟩:=I.pin p hp
  exact{(hs.2 p.1 ne).trans e,n,ne,nf,d}
 ·refine(I.bf b ob e).ik (λc w' hc q=>(hs.2 c ?_).trans q) (λ_ q=>q) λ_ _ q=>q
  rintro rfl;rcases hc with rfl | hc
  ·rw[I.free] at e;cases e
  ·rw[I.free] at hc;cases hc
end
def QF (j:Nat) (D:Ends):Ends:={nx:=λσ H=>D.nx (σ.set j none) H,rt:=D.rt,bk:=λσ H=>D.bk (σ.set j none) H,ct:=λσ H=>D.ct (σ.set j none) H}
section
variable {X:Cx} {k:Nat} {f:wM} {fd:wL} {ps:List Str} {sp:Sp} {fx cn n x:Str} {p pos cpos pa tpos np hpos:Pos} {e₀:Expr} {es:List Expr} {t:TA} {i j:Nat} {C S:wM} {bm bmS:List wG} {newId newIdS:String} {b₀:Stmt} {suite:List Stmt} {th:TS}
end
end L2
namespace L2
open PySem PySem.Spec PyProof.Rows
section
variable {κ:Type} [DecidableEq κ]
noncomputable def d5 (kvs:List (κ×V)) (k:κ):Option V:=(kvs.find? λkv=>decide (kv.1=k)).map (·.2)
noncomputable def putK (kvs:List (κ×V)) (k:κ) (v:V):List (κ×V):=
 if(kvs.any λkv=>decide (kv.1=k))=true then kvs.map (λkv=>if kv.1=k then(kv.1,v) else kv) else kvs++[(k,v)]
def rA {p:κ×V} {r:List (κ×V)} {k:κ} (e:p.1=k):d5 (p::r) k=some p.2:=by simp[d5,yI,e]
def rB {p:κ×V} {r:List (κ×V)} {k:κ} (e:¬p.1=k):d5 (p::r) k=d5 r k:=by simp[d5,yI,e]
theorem rC (k:κ):∀kvs:List (κ×V),(kvs.any λkv=>decide (kv.1=k))=(d5 kvs k).isSome
 | []=>rfl
 | p::r=>by
  rw[y8]
  by_cases e:p.1=k
  ·simp only[rA e,zd e,Bool.true_or,Option.isSome_some]
  ·rw[rB e,zc e,Bool.false_or];exact rC k r
def pY (kvs:List (κ×V)) (k:κ) (v:V):⇑(putK kvs k v)<=⇑kvs+1:=by
 unfold putK;split
 ·rw[za];ext
 ·rw[ze,zo,y6];ext
def Jy {kvs:List (κ×V)} {k:κ} (v:V) (h:d5 kvs k=none):putK kvs k v=kvs++[(k,v)]:=by
 unfold putK;rw[rC,h];exact yD ∅
def eN.jf (r:eN o u):o.isSome=u.isSome:=by
 cases o with
 | none=>cases u with
  | none=>rfl
  | some _=>exact(show False from r).elim
 | some _=>cases u with
  | none=>exact(show False from r).elim
  | some _=>rfl
theorem eN.getD (r:eN o u) (rd:RelV d d'):RelV (o.getD d) (u.getD d'):=by
 cases o with
 | none=>cases u with
  | none=>exact rd
  | some _=>exact(show False from r).elim
 | some _=>cases u with
  | none=>exact(show False from r).elim
  | some _=>exact r
def KV.val {kvs:List (κ×V)} {vs:List (κ×wG)} (r:KV kvs vs) (k:κ):eN (d5 kvs k) (valueAt vs k):=by
 unfold KV at r
 induction r with
 | nil=>exact True.intro
 | @cons p q ps qs h t ih=>
  let⟨h1,h2⟩:=h
  by_cases e:p.1=k
  ·let e':q.1=k:=h1.symm.trans e
   let b:valueAt (q::qs) k=some q.2:=by simp[valueAt,yI,e']
   rw[rA e,b];exact h2
  ·let e':¬q.1=k:=λz=>e (h1.trans z)
   let b:valueAt (q::qs) k=valueAt qs k:=by simp[valueAt,yI,e']
   rw[rB e,b];exact ih
theorem KV.any (r:KV kvs vs) (k:κ):(kvs.any λkv=>decide (kv.1=k))=vs.any λkv=>decide (kv.1=k):=by
 unfold KV at r
 induction r with
 | nil=>rfl
 | cons h t ih=>rw[y8,y8,ih,h.1]
def KV.Nz (r:KV kvs vs) (k:κ) (ry:RelV y u) :
  KV (kvs.map λkv=>if kv.1=k then(kv.1,y) else kv) (vs.map λkv=>if kv.1=k then(kv.1,u) else kv):=by
 unfold KV at r ⊢
 induction r with
 | nil=>exact .nil
 | @cons p q ps qs h t ih=>
  rw[zf,zf];refine .cons ?_ ih;let⟨h1,h2⟩:=h
  by_cases e:p.1=k
  ·rw[yE e,yE (h1.symm.trans e)];exact{(h1),ry}
  ·rw[yD e,yD (λz=>e (h1.trans z))];exact{(h1),h2}
def KV.put (r:KV kvs vs) (k:κ) (ry:RelV y u):KV (putK kvs k y) (stored vs k u):=by
 unfold putK stored;rw[r.any k]
 by_cases e:(vs.any λkv=>decide (kv.1=k))=true
 ·rw[yE e,yE e];exact r.Nz k ry
 ·rw[yD e,yD e];exact Paired.snoc r {(rfl),ry}
theorem KV.length (r:KV kvs vs):⇑kvs=⇑vs:=xE r
end
def wX (r:RelV (kV k) u):(b9 P w).is k u=true:=by
 cases k with
 | inl i=>let⟨t,e⟩:=(show∃t,u=Value.int i t from r);subst e;exact DC P w i t
 | inr x=>let⟨t,e⟩:=(show∃t,u=Value.str x t from r);subst e;exact pW P w x t
theorem wY:∀{ks:List Key} {us:List wG},Vals (ks.map kV) us->ItemsAre (b9 P w) ks us
 | [],_,r=>by rw[yc] at r;cases r;exact .nil
 | k::ks,_,r=>by
  rw[zf] at r;cases r with
  | cons h t=>exact .cons (wX h) (wY t)
abbrev KT (H:Hp):List (List Key×V)->List (List Key×wM×wG)->Prop:=Paired λp q=>p.1=q.1/\H q.2.1=some (.tup (p.1.map kV))/\RelV p.2 q.2.2
def KT.val {H:Hp} {kvs:List (List Key×V)} {xs:List (List Key×wM×wG)} (r:KT H kvs xs) (k:List Key):eN (d5 kvs k) ((atKey xs k).map (·.2)):=by
 induction r with
 | nil=>exact True.intro
 | @cons p q ps qs h t ih=>
  let⟨h1,_,h2⟩:=h
  by_cases e:p.1=k
  ·let e':q.1=k:=h1.symm.trans e
   let b:atKey (q::qs) k=some q.2:=by simp[atKey,yI,e']
   rw[rA e,b];exact h2
  ·let e':¬q.1=k:=λz=>e (h1.trans z)
   let b:atKey (q::qs) k=atKey qs k:=by simp[atKey,yI,e']
   rw[rB e,b];exact ih
def KT.Nz (r:KT H kvs xs) (k:List Key) (ry:RelV y u) :
  KT H (kvs.map λkv=>if kv.1=k then(kv.1,y) else kv) (xs.map (putAt k u)):=by
 induction r with
 | nil=>exact .nil
 | @cons p q ps qs h t ih=>
  rw[zf,zf];refine .cons ?_ ih;let⟨h1,h2,h3⟩:=h;unfold putAt
  by_cases e:p.1=k
  ·rw[yE e,yE (h1.symm.trans e)];exact{(h1),h2,ry}
  ·rw[yD e,yD (λz=>e (h1.trans z))];exact{(h1),h2,h3}
def KT.put (r:KT H kvs xs) (k:List Key) (hb:H b=some (.tup (k.map kV))) (ry:RelV y u) :
  KT H (putK kvs k y) (storedH xs k b u):=by
 let e:(kvs.any λkv=>decide (kv.1=k))=(atKey xs k).isSome:=by
  rw[rC,(r.val k).jf,Option.isSome_map]
 unfold putK storedH;rw[e]
 by_cases q:(atKey xs k).isSome=true
 ·rw[yE q,yE q];exact r.Nz k ry
 ·rw[yD q,yD q];exact Paired.snoc r {(rfl),hb,ry}
def KT.keeps (r:KT H kvs xs) (ht:∀b ys,H b=some (.tup ys)->H' b=some (.tup ys)):KT H' kvs xs:=
 Paired.NN r λ_ _ z=>{z.1,ht _ _ z.2.1,z.2.2}
section
variable {P:wI} {w:wJ} {H:Hp} {h:wN} {a:wM}
def MD (ok:lQ P w H h) (e:Rd H a u):bu P w H h a u:=e.ok ok
def qg (ok:lQ P w H h) (e:Rd H a (.dK kvs)):⇑kvs<=sizeLine/\(a == sysModules)=false/\∃vs,KV kvs vs/\h.DictOf (b9 P w) a vs:=
 show bu P w H h a (.dK kvs) from MD ok e
def PR (ok:lQ P w H h) (e:H a=some (.dK kvs)):⇑kvs<=sizeLine/\(a == sysModules)=false/\∃vs,KV kvs vs/\h.DictOf (b9 P w) a vs:=qg ok (.inl e)
def px (ok:lQ P w H h) (e:H a=some (.tup (ks.map kV))):(tupleKind (b9 P w)).is h ks a:=by
 let⟨_,its,r,o,h1,h2,n,h3⟩:=(show bu P w H h a (.tup (ks.map kV)) from ok a _ e)
 exact{o,its.toArray,n,h1,h2,h3,by simpa using wY r}
def tH (ok:lQ P w H h) (e:Rd H a (.dT kvs)):⇑kvs<=sizeLine/\(a == sysModules)=false/\
  ∃xs,KT H kvs xs/\h.DictOfH (tupleKind (b9 P w)) a xs:=by
 let⟨z,y,xs,r,o,es,ep,h1,h2,h3,h4,h5⟩:=(show bu P w H h a (.dT kvs) from MD ok e)
 refine{z,y,xs,r,o,es,ep,h1,h2,h3,h4,λx hx=>?_,h5};let all:∀{l:List (List Key×V)} {m:List (List Key×wM×wG)},KT H l m->∀x∈m,(tupleKind (b9 P w)).is h x.1 x.2.1:=by
  intro l m q
  induction q with
  | nil=>intro x hx;exact nomatch hx
  | @cons p q ps qs hq t ih=>
   intro x hx;rcases zy.mp hx with e | hx
   ·subst e
    exact px ok (by rw[<-hq.1];exact hq.2.1)
   ·exact ih x hx
 exact all r x hx
def PQ (ok:lQ P w H h) (e:H a=some (.dT kvs)):⇑kvs<=sizeLine/\(a == sysModules)=false/\
  ∃xs,KT H kvs xs/\h.DictOfH (tupleKind (b9 P w)) a xs:=tH ok (.inl e)
end
def Cn (H:Hp) (a:wM) (y:V) (r:Option V):Prop:=
 (∃kvs k,Rd H a (.dK kvs)/\y=kV k/\r=d5 kvs k)\/∃kvs k b,Rd H a (.dT kvs)/\y=.ref b/\H b=some (.tup (k.map kV))/\r=d5 kvs k
def Qa (H:Hp) (a:wM) (y v:V) (H':Hp):Prop:=
 (∃kvs k,H a=some (.dK kvs)/\y=kV k/\⇑kvs<sizeLine/\H'=upd H a (.dK (putK kvs k v)))\/
 ∃kvs k b,H a=some (.dT kvs)/\y=.ref b/\H b=some (.tup (k.map kV))/\⇑kvs<sizeLine/\H'=upd H a (.dT (putK kvs k v))
section
variable {X:Cx} {pins:List (wM×Obj)} {σ:St} {H:Hp} {s:wH} {a:wM} {y v:V} {u r:wG} {o:Option V} {A:wK} {E:wG->wH->Prop}
def Inv.big (I:Inv X pins σ H s):sysModules<↑s:=by
 let h:mainGlobals<↑s:=(I.mod.glob.keeps I.bk).lt;exact xk ∅ h
def Ia (hu:A.units+1<cLine) (I:Inv X pins σ H s) (g:Cn H a y (some v)) (ry:RelV y u) (h:∀w' s',Inv X pins σ H s'->RelV v w'->Q w' s') :
  wpAny (model X.prog X.w) A (getItem (.ref a) u) Q E s:=by
 rcases g with⟨kvs,k,e,ey,l⟩ | ⟨kvs,k,b,e,ey,eb,l⟩
 ·subst ey
  let⟨z,hd,vs,rel,dd⟩:=qg I.bf e;let⟨w',hw,rw'⟩:=eN.some_of (v:=v) (o:=valueAt vs k) (by rw[l];exact rel.val k);exact wpAny_getItem_of (wX ry) dd.mapOf hw (h w' _ (I.tok _) rw')
 ·subst ey
  cases(show u=Value.ref b from ry);let⟨z,hd,xs,rel,dd⟩:=tH I.bf e;let⟨w',hw,rw'⟩:=eN.some_of (v:=v) (o:=(atKey xs k).map (·.2)) (by rw[l];exact rel.val k);let⟨p,hp,hp2⟩:=Option.map_eq_some_iff.mp hw;refine wpAny_getItem_heap (xW hu) (px I.bf eb) dd hp ?_;rw[hp2];exact h w' _ (I.tok _) rw'
def RC (hu:A.units+1<cLine) (I:Inv X pins σ H s) (g:Cn H a y o) (ry:RelV y u) (h:∀s',Inv X pins σ H s'->Q (.bool o.isSome) s') :
  wpAny (model X.prog X.w) A (compareOp .In u (.ref a)) Q E s:=by
 rcases g with⟨kvs,k,e,ey,l⟩ | ⟨kvs,k,b,e,ey,eb,l⟩
 ·subst ey
  let⟨z,hd,vs,rel,dd⟩:=qg I.bf e;refine wpAny_in_of (wX ry) hd dd.mapOf ?_;rw[<-(rel.val k).jf,<-l];exact h _ (I.tok _)
 ·subst ey
  cases(show u=Value.ref b from ry);let⟨z,hd,xs,rel,dd⟩:=tH I.bf e;refine wpAny_in_heap (xW hu) (px I.bf eb) hd dd ?_;let q:=(rel.val k).jf;rw[Option.isSome_map] at q;rw[<-q,<-l];exact h _ (I.tok _)
def Me (hu:A.units+1<cLine) (I:Inv X pins σ H s) (g:Cn H a y o) (ry:RelV y u) (h:∀s',Inv X pins σ H s'->Q (.bool (!o.isSome)) s') :
  wpAny (model X.prog X.w) A (compareOp .NotIn u (.ref a)) Q E s:=by
 rcases g with⟨kvs,k,e,ey,l⟩ | ⟨kvs,k,b,e,ey,eb,l⟩
 ·subst ey
  let⟨z,hd,vs,rel,dd⟩:=qg I.bf e;refine wpAny_notIn_of (wX ry) hd dd.mapOf ?_;rw[<-(rel.val k).jf,<-l];exact h _ (I.tok _)
 ·subst ey
  cases(show u=Value.ref b from ry);let⟨z,hd,xs,rel,dd⟩:=tH I.bf e;refine wpAny_notIn_heap (xW hu) (px I.bf eb) hd dd ?_;let q:=(rel.val k).jf;rw[Option.isSome_map] at q;rw[<-q,<-l];exact h _ (I.tok _)
def GU (I:Inv X pins σ H s) (mu:P5 (H a)) (hs:Heap.SameBut a s.heap h') (he:∃q,h'.get? a=some q) (new:bu X.prog X.w (upd H a ob) h' a ob) :
  Inv X pins σ (upd H a ob) {s with heap:=h',toks:=t'}:=
 I.write (x:=a) (e:=a) mu (.inl rfl) (λb q hb z=>(hs.2 b hb).trans z) he new
def Of (z:⇑kvs<=sizeLine) (hd:(a == sysModules)=false) (rel:KV kvs vs) (dd:h'.DictOf (b9 P w) a vs) :
  bu P w H' h' a (.dK kvs):={(z),hd,vs,rel,dd}
def HZ (hu:A.units+1<cLine) (I:Inv X pins σ H s) (g:Qa H a y v H') (ry:RelV y u) (rv:RelV v r) (h:∀s',Inv X pins σ H' s'->Q .unit s') :
  wpAny (model X.prog X.w) A (setItem (.ref a) u r) Q E s:=by
 rcases g with⟨kvs,k,e,ey,l,eH⟩ | ⟨kvs,k,b,e,ey,eb,l,eH⟩
 ·subst ey eH
  let⟨z,hd,vs,rel,dd⟩:=PR I.bf e;let hz:⇑vs<=sizeLine:=by rw[<-⇑rel];exact z
  let hl:⇑(putK kvs k v)<=sizeLine:=by have:=pY kvs k v;ext
  refine wpAny_setItem_pairs (hsz:=hz) (wX ry) dd λh' dd' hs=>h _ ?_;let he:∃q,h'.get? a=some q:=let ⟨q,_,_,hq,_⟩:=dd';{(q),hq};exact GU I (by rw[e];exact True.intro) hs he (Of hl hd (rel.put k rv) dd')
 ·subst ey eH
  cases(show u=Value.ref b from ry);let⟨z,hd,xs,rel,dd⟩:=PQ I.bf e;let hz:⇑xs<=sizeLine:=by rw[<-xE rel];exact z
  let hl:⇑(putK kvs k v)<=sizeLine:=by have:=pY kvs k v;ext
  refine wpAny_setItem_heap (hsz:=hz) (xW hu) (px I.bf eb) dd λh' dd' hs=>h _ ?_;let⟨q,es,ep,hq,h2,h3,h4,_,h5⟩:=dd';refine GU I (by rw[e];exact True.intro) hs ⟨q,hq⟩ ⟨hl,hd,_,(rel.put k eb rv).keeps λc ys ec=>?_,q,es,ep,hq,h2,h3,h4,h5⟩;rw[ar (aO ec e (λz=>nomatch z))];exact ec
end
section
variable {X:Cx} {pins:List (wM×Obj)} {σ:St} {H:Hp} {s:wH} {a:wM} {kvs:List (Key×V)} {k:Key} {u:wG} {A:wK} {E:wG->wH->Prop}
def PV (I:Inv X pins σ H s) (e:Rd H a (.dK kvs)) (h:∀t s',Inv X pins σ H s'->Q (.int ⇑kvs t) s'):wpAny (model X.prog X.w) A (call (.builtin "len") [.ref a]) Q E s:=by
 let⟨z,hd,vs,rel,dd⟩:=qg I.bf e;refine call_len_dict hd dd (by rw[<-⇑rel];rw[yr] at z;ext) ?_;rw[<-⇑rel];exact h _ _ (I.tok _)
end
def OB (i:Expr):Prop:=∀ov iv,subscripted i false ov iv=operate [ov,iv] (getItem ov iv)
def Gr {prog:wI} {w:wJ} {A:wK} {E:wG->wH->Prop} {s:wH} {env:Env} {value slice:Expr} {pos:Pos} {T id:String} {Q:wG->wH->Prop}
  (hl:typeLookup (.type T) "__getitem__"= pure (some (.builtin id))) (hs:OB slice)
  (h:wpAny (model prog w) A (eval value env) (λo s₁=>wpAny (model prog w) A (eval slice env) (λi s₂=>s₂.TypeIs o T/\wpAny (model prog w) A (getItem o i) Q E s₂) E s₁) E s) :
  wpAny (model prog w) A (eval (.Subscript value slice pos) env) Q E s:=by
 refine Subscript_ (yV h (λo s₁ h₁=>yV h₁ (λi s₂ h₂=>?_) λ_ _ x=>x) λ_ _ x=>x);let⟨hT,h₂⟩:=h₂;unfold subscriptTail;refine yi ?_;rw[getitemInPython_of_ne hT.not_modules];refine yi (wpAny_specialOf hT hl ?_);let fin:wpAny (model prog w) A (subscripted slice false o i) (λr s₃=>wpAny (model prog w) A (letTemporaryGo value o r >>= λ_=>pure r) Q E s₃) E s₂:=by
  rw[hs o i];exact wpAny_operating (yV h₂ (λr s₃ h₃=>yi (wpAny_letTemporaryGo (yk h₃))) λ_ _ x=>x)
 first
  | exact yk (yi fin)
  | exact yi (yk (yi fin))
  | exact yi fin
def DS (I:Inv X pins σ H s) (g:Cn H a y o):s.TypeIs (.ref a) "dict":=by
 rcases g with⟨kvs,k,e,_,_⟩ | ⟨kvs,k,b,e,_,_,_⟩
 ·let⟨_,_,vs,_,dd⟩:=qg I.bf e
  exact dd.typeIs
 ·let⟨_,_,xs,_,dd⟩:=tH I.bf e
  exact dd.typeIs
def O4 (td ty:TE):TE:=λσ H Q=>td σ H λx H1=>ty σ H1 λy H2=>∃a v,x=.ref a/\Cn H2 a y (some v)/\Q v H2
def QT (ty td:TE):TE:=λσ H Q=>ty σ H λy H1=>td σ H1 λx H2=>∃a o,x=.ref a/\Cn H2 a y o/\Q (.bl o.isSome) H2
def Li (ty td:TE):TE:=λσ H Q=>ty σ H λy H1=>td σ H1 λx H2=>∃a o,x=.ref a/\Cn H2 a y o/\Q (.bl (!o.isSome)) H2
def Pa (td ty tv:TE):TS:=λD σ H=>tv σ H λv H1=>td σ H1 λx H2=>ty σ H2 λy H3=>∃a H4,x=.ref a/\Qa H3 a y v H4/\D.nx σ H4
section
variable {X:Cx} {o i e value:Expr} {pos pos' tpos:Pos} {td ty tv:TE}
def LH (hu:X.A.units+1<cLine) (ho:PE X o td) (hi:PE X i ty) (hs:OB i):PE X (.Subscript o i pos) (O4 td ty):=by
 intro pins s σ H Q I h;refine Gr PySem.F.slot_dict_getitem.lookup hs (bR (ho pins s σ H _ I h) λu s1 z0=>?_);let⟨x,H1,I1,rx,q1⟩:=z0;refine bR (hi pins s1 σ H1 _ I1 q1) λiv s2 z1=>?_;let⟨y,H2,I2,ry,a,v,ex,g,q2⟩:=z1;subst ex;obtain rfl:u=Value.ref a:=rx;exact{DS I2 g,Ia hu I2 g ry λw' s3 I3 rw'=>{(v),H2,I3,rw',q2}}
def Fg (hu:X.A.units+1<cLine) (hi:PE X i ty) (ho:PE X o td):PC X .In i o (QT ty td):=by
 intro pins s σ H Q I h;refine bR (hi pins s σ H _ I h) λiv s1 z0=>?_;let⟨y,H1,I1,ry,q1⟩:=z0;refine bR (ho pins s1 σ H1 _ I1 q1) λu s2 z1=>?_;let⟨x,H2,I2,rx,a,ov,ex,g,q2⟩:=z1;subst ex;obtain rfl:u=Value.ref a:=rx;exact RC hu I2 g ry λs3 I3=>{.bl ov.isSome,H2,I3,rfl,q2}
def vZ (hu:X.A.units+1<cLine) (hi:PE X i ty) (ho:PE X o td):PC X .NotIn i o (Li ty td):=by
 intro pins s σ H Q I h;refine bR (hi pins s σ H _ I h) λiv s1 z0=>?_;let⟨y,H1,I1,ry,q1⟩:=z0;refine bR (ho pins s1 σ H1 _ I1 q1) λu s2 z1=>?_;let⟨x,H2,I2,rx,a,ov,ex,g,q2⟩:=z1;subst ex;obtain rfl:u=Value.ref a:=rx;exact Me hu I2 g ry λs3 I3=>{.bl (!ov.isSome),H2,I3,rfl,q2}
def qW (hu:X.A.units+1<cLine) (ho:PE X o td) (hi:PE X i ty) (hv:PE X value tv) (hs:swapsWith value (some (.Subscript o i pos')) pos.line X.env=pure false) :
  PS X (.Assign [.Subscript o i pos'] value pos) (Pa td ty tv):=by
 intro pins s σ H D I h;refine wpAny_Assign_Subscript (bR (hv pins s σ H _ I h) λr s1 z0=>?_) hs;let⟨v,H1,I1,rv,q1⟩:=z0;refine bR (ho pins s1 σ H1 _ I1 q1) λu s2 z1=>?_;let⟨x,H2,I2,rx,q2⟩:=z1;refine bR (hi pins s2 σ H2 _ I2 q2) λiv s3 z2=>?_;let⟨y,H3,I3,ry,a,H4,ex,g,q3⟩:=z2;subst ex;obtain rfl:u=Value.ref a:=rx;exact HZ hu I3 g ry rv λs4 I4=>{σ,H4,I4,q3}
end
def Kv (h:wN) (hb:sysModules<h.objs.size):bu P w H (h.push {cls:=.type "dict",data:=.dict #[]}) h.objs.size (.dK []):=
 {zX _,xj.mpr (Ne.symm (z9 hb)),[],.nil,Heap.DictOf.new h}
def Ku (h:wN) (hb:sysModules<h.objs.size):bu P w H (h.push {cls:=.type "dict",data:=.dict #[]}) h.objs.size (.dT []):=
 {zX _,xj.mpr (Ne.symm (z9 hb)),[],.nil,_,#[],0,ym _ rfl,{(rfl),rfl,rfl},rfl,rfl,xH}
def Nk:TE:=λ_ H Q=>∀p,H p=none->Q (.ref p) (upd H p (.dK []))
def Nj:TE:=λ_ H Q=>∀p,H p=none->Q (.ref p) (upd H p (.dT []))
section
variable {X:Cx} {pos:Pos}
def sG:PE X (.Dict [] [] pos) Nk:=λpins s σ H Q I h=>
 wpAny_Dict_empty {.ref ↑s,_,I.laid (a:=↑s) (o:=.dK []) (t':=s.toks) (λ_ _ q=>yj _ q) (zh _) (Kv s.heap I.big),rfl,h _ (I.bf.fresh (zh _))}
def JJ:PE X (.Dict [] [] pos) Nj:=λpins s σ H Q I h=>
 wpAny_Dict_empty {.ref ↑s,_,I.laid (a:=↑s) (o:=.dT []) (t':=s.toks) (λ_ _ q=>yj _ q) (zh _) (Ku s.heap I.big),rfl,h _ (I.bf.fresh (zh _))}
end
structure M2 (X:Cx) (o:Expr) (m:Str) (apos:Pos) (e f:Expr) (cpos:Pos):Prop where
 base:attributeBase o m X.env (eval o X.env)=eval o X.env
 Sd:((backTo cpos (starEach [e,f] X.env)).all (λx=>!x.1)&&(backToKw cpos (keywordEach [] X.env)).all (λx=>x.1.isSome)
  &&decide (⇑([e,f]:List Expr)+⇑([]:List Keyword)+(if([]:List Keyword).isEmpty then 0 else 1)<30))=true
 line:(apos.endLine == cpos.line)=true
 trees:backTo cpos (starEach [e,f] X.env)=[(false,eval e X.env),(false,eval f X.env)]
def RU (H:Hp) (a:wM):Prop:=(∃kvs,Rd H a (.dK kvs))\/∃kvs,Rd H a (.dT kvs)
def N0 (I:Inv X pins σ H s) (d:RU H a) :
  s.TypeIs (.ref a) "dict"/\(∀b,Value.ref a=.ref b->∃ob,s.heap.get? b=some ob/\ob.dict=none)/\(a == sysModules)=false:=by
 rcases d with⟨kvs,e⟩ | ⟨kvs,e⟩
 ·let⟨_,hd,vs,_,dd⟩:=qg I.bf e
  refine{dd.typeIs,λb q=>?_,hd};cases q;let⟨ob,_,_,h1,h2,_⟩:=dd;exact{(ob),h1,h2.2.1}
 ·let⟨_,hd,xs,_,dd⟩:=tH I.bf e
  refine{dd.typeIs,λb q=>?_,hd};cases q;let⟨ob,_,_,h1,h2,_⟩:=dd;exact{(ob),h1,h2.2.1}
section
variable {X:Cx} {pins:List (wM×Obj)} {σ:St} {H:Hp} {s:wH} {a:wM} {y d:V} {u r:wG} {o:Option V} {A:wK} {E:wG->wH->Prop}
def Oh (hu:A.units+1<cLine) (I:Inv X pins σ H s) (g:Cn H a y o) (ry:RelV y u) (rd:RelV d r) (h:∀w' s',Inv X pins σ H s'->RelV (o.getD d) w'->Q w' s') :
  wpAny (model X.prog X.w) A (call (.builtin "dict.get") [.ref a,u,r]) Q E s:=by
 rcases g with⟨kvs,k,e,ey,l⟩ | ⟨kvs,k,b,e,ey,eb,l⟩
 ·subst ey
  let⟨z,hd,vs,rel,dd⟩:=qg I.bf e;refine call_meetsIn PySem.F.slot_dict_get dd.typeIs PySem.F.entry_dict_get (PySem.F.args_dict_get_3 _ _ _) (meets_dict_get_default (b9 X.prog X.w) a (wX ry) hd r) {_,dd.mapOf,h _ _ (I.tok _) ?_};rw[l];exact(rel.val k).getD rd
 ·subst ey
  cases(show u=Value.ref b from ry);let⟨z,hd,xs,rel,dd⟩:=tH I.bf e;refine call_meetsIn PySem.F.slot_dict_get dd.typeIs PySem.F.entry_dict_get (PySem.F.args_dict_get_3 _ _ _) (meetsH_dict_get_default (tupleKind (b9 X.prog X.w)) a b hd r) {xW hu,k,xs,px I.bf eb,dd,h _ _ (I.tok _) ?_};rw[l];exact(rel.val k).getD rd
end
def Nm (td ty tx:TE):TE:=λσ H Q=>td σ H λx H1=>∃a,x=.ref a/\RU H1 a/\ty σ H1 λy H2=>tx σ H2 λz H3=>∃o,Cn H3 a y o/\Q (o.getD z) H3
section
variable {X:Cx} {o e f:Expr} {apos cpos:Pos} {td ty tx:TE}
def JK (hu:X.A.units+1<cLine) (ho:PE X o td) (he:PE X e ty) (hf:PE X f tx) (m:M2 X o "get" apos e f cpos):PE X (.Call (.Attribute o "get" apos) [e,f] [] cpos) (Nm td ty tx):=by
 intro pins s σ H Q I h;refine wpAny_Call_method m.base m.Sd m.line PySem.F.plainAttrs_dict PySem.F.slot_dict_get PySem.F.type_dict_get (bR (ho pins s σ H _ I h) λu s1 z0=>?_);let⟨x,H1,I1,rx,a,ex,d,q1⟩:=z0;subst ex;obtain rfl:u=Value.ref a:=rx;let⟨t1,t2,_⟩:=N0 I1 d;refine{t1,t2,?_};rw[m.trees];refine wb rfl (Calls.evalArgs_plain (xY (bR (he pins s1 σ H1 _ I1 q1) λiv s2 z0=>?_)));let⟨y,H2,I2,ry,q2⟩:=z0;refine xY (bR (hf pins s2 σ H2 _ I2 q2) λfv s3 z1=>?_);let⟨z,H3,I3,rz,ov,g,q3⟩:=z1;refine wD ?_;exact Oh hu I3 g ry rz λw' s4 I4 rw'=>{_,H3,I4,rw',q3}
end
section
variable {X:Cx} {pins:List (wM×Obj)} {σ:St} {H:Hp} {s:wH} {a:wM} {kvs:List (Key×V)} {A:wK} {E:wG->wH->Prop}
end
section
variable {X:Cx} {pins:List (wM×Obj)} {σ:St} {H:Hp} {s:wH} {a:wM} {y:V} {u:wG} {A:wK} {E:wG->wH->Prop}
end
end L2
namespace L2
open PySem PySem.Spec PyProof.Rows
section
variable {κ:Type} [DecidableEq κ]
end
end L2
namespace L2
open PySem PySem.Spec PyProof.Rows
def du (σ₀:St) (g:TG) (tc:TT) (te:TE) (Q:VK) (J:It) (H1:Hp):Prop:=∃W:Nat->Nat->List V->St->Hp->Prop,(∃m,W 0 m [] σ₀ H1)/\∀i m xs σ' H',W i m xs σ' H'->
 (J.stop i H'/\⇑xs<=sizeLine/\∀D,H' D=none->Q (.ref D) (upd H' D (.lst xs)))\/
 (J.go i H'/\⇑xs<sizeLine/\∀x H2,J.Gg i H' x H2->g x σ' H2 λσ3 H3=>tc σ3 H3 λb H4=>if b=true then te σ3 H4 λy H5=>∃m',m'<m/\W (i+1) m' (xs++[y]) σ3 H5 else∃m',m'<m/\W (i+1) m' xs σ3 H4)
noncomputable def bT (X:Cx) (N:List Str) (scope:Scope) (cl:List (Str×wM)) (C:wM) (s₀:wH) (H₀:Hp) (ex:List wM):Cx:=
 {X with N:=N,s₀:=s₀,H₀:=H₀,env:=compEnvC scope (cellsFrom (C+1) scope.names cl) C X.env,outer:=X.stack,stack:=X.stack,ex:=ex,fn:=λx=>((cellsFrom (C+1) scope.names []).lookup x).isSome,pn:=[],xe:=λ_ _=>False}
def mi (fr:List (Option Nat)) (wi:TI) (g:TG) (tc:TT) (te:TE):TE:=λσ H Q=>wi σ H λJ H1=>du (fr.map λo=>o.bind λj=>(σ[j]?).join) g tc te Q J H1
def Mp (X:Cx) (ifs:List Expr) (tc:TT):Prop:=∀(pins:List (wM×Obj)) (s:wH) (σ:St) (H:Hp) (Q:Bool->Hp->Prop),Inv X pins σ H s->tc σ H Q->
 wpAny (model X.prog X.w) X.A (forIn ifs true λc r=>if r=true then do let ok <-isTrue c X.env (eval c X.env);pure (ForInStep.yield ok) else pure (ForInStep.yield r)) (TP X pins σ Q) X.xe s
def uC:TT:=λ_ H Q=>Q true H
def bq:Mp X [] uC:=λ_ _ _ H _ I h=>wpAny_tests_nil {(H),I,h}
def Bb (h:PT X c tc):Mp X [c] tc:=λpins s σ H Q I q=>wpAny_tests_one (h pins s σ H Q I q)
theorem ck:∀(names:List (Str×NameKind)) (n:Nat) (acc:List (Str×wM)),cellsFrom n names acc=cellsFrom n names []++acc
 | [],_,_=>rfl
 | (x,k)::r,n,acc=>by
  unfold cellsFrom;split
  ·rw[ck r (n+1) ((x,n)::acc),ck r (n+1) [(x,n)],zA];rfl
  ·exact ck r n acc
def LK {h:wN} {lo:Nat} {cs:List (Str×wM)} (ok:CellsOk h lo cs) {x y:Str} {c:wM} (e:cs.lookup x=some c) (e':cs.lookup y=some c):x=y:=by
 let key:∀(l:List (Str×wM)),l.Pairwise (λx y=>x.2≠y.2)->(x,c)∈l->(y,c)∈l->x=y:=by
  intro l
  induction l with
  | nil=>intro _ h;cases h
  | cons p r ih=>
   intro hp h1 h2;rw[yT] at hp;rcases zy.mp h1 with h1 | h1
   ·rcases zy.mp h2 with h2 | h2
    ·rw[<-h1] at h2;exact(Prod.mk.inj h2).1.symm
    ·exact absurd rfl (by have:=hp.1 _ h2;rw[<-h1] at this;exact this)
   ·rcases zy.mp h2 with h2 | h2
    ·exact absurd rfl (by have:=hp.1 _ h1;rw[<-h2] at this;exact this)
    ·exact ih hp.2 h1 h2
 exact key cs ok.apart (mem_of_lookup e) (mem_of_lookup e')
def Bq
  (hQ:∀g1:wN,g1.Ns ↑s (λ_=>none)->(∀b o,s.heap.get? b=some o->g1.get? b=some o)->CellsOk g1 (↑s+1) (cellsFrom (↑s+1) scope.names [])->
   Q (newEnv scope ↑s globals (cellsFrom (↑s+1) scope.names cl) qual none .none (some outer) builtinsNs) {s with heap:=g1}) :
  wpAny M A (newFunctionEnv scope globals cl [] qual none .none (some outer)) Q E s:=by
 simp only[newFunctionEnv,Option.isSome_some,wu];refine yi (wpAny_alloc ?_);refine yi (wpAny_layCells _ (λname kind cells=>by cases hkc:kind == NameKind.cell <;> simp[hkc]) _ _ _ _ ?_);let ok:=cellsFrom_ok scope.names (s.heap.push {cls:=.type "dict",data:=.dict #[]}) (↑s+1) [] {λ_ _ hm=>(nomatch hm),List.Pairwise.nil} (by rw[yZ];exact zh _);rw[yZ] at ok;rw[show({s with heap:=s.heap.push {cls:=.type "dict",data:=.dict #[]}}:wH).heap.objs.size=↑s+1 from yZ ..];exact yi (yk (yk (hQ _ ((Heap.Ns.new s.heap (.type "dict")).keeps (pushCells_keeps _ _)) (λb o e=>pushCells_keeps _ _ b o (yj _ e)) ok)))
def FP (I:Nat->wH->Prop)
  (turn:∀n s,I n s->wpAny (model prog w) A (pyNext it) (λr s1=>match r with
   | none=>R (.ok .next) s1
   | some v=>wpAny (model prog w) A (letOwnedTupleGo target it v) (λ_ s2=>wpAny (model prog w) A (assign target env v) (λ_ s3=>
     wpAny (model prog w) A (forIn ifs true λc r=>if r=true then do let ok <-isTrue c env (eval c env);pure (ForInStep.yield ok) else pure (ForInStep.yield r)) (λok s3'=>if ok=true then wpAny (model prog w) A (eval elt env) (λx s4=>
     wpAny (model prog w) A (call (.builtin "list.append") [acc,x]) (λ_ s5=>∃m,m<n/\I m s5) (λ_ _=>False) s4) (λ_ _=>False) s3' else∃m,m<n/\I m s3') (λ_ _=>False) s3) (λ_ _=>False) s2) (λ_ _=>False) s1) (λ_ _=>False) s)
  (n:Nat) (h:I n s):codeAny (model prog w) A (.compLoop (.ListComp elt [{target,iter,ifs,0}] scope pos) 0 it acc env) R s:=by
 refine codeAny_loop rfl I (λn s hI=>?_) n h;show wpAny _ _ ((compTurn (.ListComp elt [{target,iter,ifs,0}] scope pos) 0 it acc env).onRaise (λx=>do noteFrame x env;theTreesLotGoes x)) _ _ s;refine wpAny_noted ?_;rw[compTurn_list];let no:∀(E:wG->wH->Prop) (x:wG) (s':wH),False->E x s':=λ_ _ _ f=>f.elim;refine yi (wpAny_standAt (yi (yV (turn n s hI) (λr s1 h1=>?_) (no _))));cases r with
 | none=>exact yk h1
 | some v=>
  refine yi (yV h1 (λ_ s2 h2=>yi (yV h2 (λ_ s3 h3=>yi (yV h3 (λok s3' h3'=>?_) (no _))) (no _))) (no _));cases ok with
  | false=>
   rw[yD ∅] at h3';exact yk {(rfl),h3'}
  | true=>
   rw[yE rfl] at h3';exact yi (yi (yV h3' (λx s4 h4=>yi (yV h4 (λ_ s5 h5=>yk (yk {(rfl),h5})) (no _))) (no _)))
section
variable {X:Cx} {pos:Pos}
def tV {elt target iter:Expr} {scope:Scope} {N:List Str} {fr:List (Option Nat)} {cl:List (Str×wM)} {g:TG} {tc:TT} {te:TE} {ifs:List Expr} (hc:X.calm=true) (hsub:∀x c,cl.lookup x=some c->X.env.cells.lookup x=some c) (hhas:∀C x,((compEnvC scope cl C X.env).kindOf x=some .cell\/(compEnvC scope cl C X.env).kindOf x=some .free)->(∃c,cl.lookup x=some c)\/∃c,(cellsFrom (C+1) scope.names []).lookup x=some c)
  (hlen:⇑fr=N.length) (hfr:∀(i:Nat) x j,N[i]?=some x->fr[i]?=some (some j)->X.N[j]?=some x/\MV X.env.scope x/\X.env.kindOf x≠some .local/\(∀C,(compEnvC scope cl C X.env).kindOf x=some .cell\/(compEnvC scope cl C X.env).kindOf x=some .free)/\(∀c,X.env.cells.lookup x=some c->cl.lookup x=some c)/\∀C,(cellsFrom (C+1) scope.names []).lookup x=none) (hkind:scope.kind=.function)
  (hg:∀C s₀ H₀ ex,PG (bT X N scope cl C s₀ H₀ ex) target g) (hif:∀C s₀ H₀ ex,Mp (bT X N scope cl C s₀ H₀ ex) ifs tc) (he:∀C s₀ H₀ ex,PE (bT X N scope cl C s₀ H₀ ex) elt te)
  {pins:List (wM×Obj)} {σ:St} {s2:wH} {it:wM} {fp:List wM} {tn:Nat->wN->Prop} {J:It} {H2:Hp} {Q:VK} {RR:wG->wM->Result->wH->Prop} (I2:Inv X pins σ H2 s2) (T:Turn X.prog X.w X.K target J fp it tn) (st2:tn 0 s2.heap) (f2:∀b∈fp,vN X pins H2 b)
  (ok:du (fr.map λo=>o.bind λj=>(σ[j]?).join) g tc te Q J H2)
  (fin:∀D C s4 H' xs,↑s2<=D->↑s2<=C->C≠D->Inv X pins σ (upd H' D (.lst xs)) s4->H' D=none->H' C=none->(∃m,s4.heap.Ns C m)->(∀D,H' D=none->Q (.ref D) (upd H' D (.lst xs)))->RR (.ref D) C (.ok .next) s4) :
  wpAny (model X.prog X.w) X.A (newList []) (λacc s3=>wpAny (model X.prog X.w) X.A (newFunctionEnv scope X.env.globals cl [] X.env.qual none .none (some X.env)) (λcenv s4=>
   codeAny (model X.prog X.w) X.A (.compStart (.ListComp elt [{target,iter,ifs,0}] scope pos) 0 (.ref it) acc {cenv with scope:=relabel scope X.env}) (RR acc cenv.locals) s4) X.xe s3) X.xe s2:=by
 let⟨W,⟨m0,w0⟩,turn⟩:=ok;refine yU (Bq λg1 hns hold hown=>?_);dsimp only at hns hold hown ⊢;generalize hG:s2.heap.push {cls:=.type "list",dict:=none,data:=.seq ([]:List wG).toArray}=G2 at hns hold hown ⊢;let hC:G2.objs.size=↑s2+1:=by rw[<-hG,yZ]
 let below:∀b,b<↑s2->b≠G2.objs.size/\b≠↑s2:=λb hb=>{by rw[hC];exact z9 (wa hb),z9 hb}
 let hDC:↑s2≠G2.objs.size:=by rw[hC];exact z9 (xt _)
 let old:∀b o,s2.heap.get? b=some o->g1.get? b=some o:=λb o e=>hold b o (hG▸yj _ e);let hacc:g1.get? ↑s2=some {cls:=.type "list",data:=.seq ([]:List wG).toArray 0}:=hold _ _ (hG▸ym _ rfl);let hsC:↑s2<G2.objs.size:=by rw[hC];exact xt _
 let csl:∀x c,(cellsFrom (G2.objs.size+1) scope.names cl).lookup x=some c->((cellsFrom (G2.objs.size+1) scope.names []).lookup x=some c/\G2.objs.size<c/\g1.IsCell c none)\/((cellsFrom (G2.objs.size+1) scope.names []).lookup x=none/\cl.lookup x=some c/\X.env.cells.lookup x=some c/\c<↑s2):=λx c e=>by
  rw[ck,xX] at e;cases q:(cellsFrom (G2.objs.size+1) scope.names []).lookup x with
  | some d=>
   rw[q] at e;cases e;let⟨z1,z2⟩:=hown.empty x _ (mem_of_lookup q);exact .inl {(rfl),z2,z1}
  | none=>
   rw[q] at e;let⟨v,z⟩:=I2.cell x c (hsub x c e);exact .inr {rfl,e,hsub x c e,z.lt}
 let fplt:∀b∈fp,b<↑s2:=λb hb=>let ⟨o,e,_⟩:=T.obj _ _ st2 b hb;yn e;let GX:∀b∈fp,∀x c,(cellsFrom (G2.objs.size+1) scope.names cl).lookup x=some c->c≠b:=λb hb x c e=>by
  rcases csl x c e with⟨_,l,_⟩ | ⟨_,_,z,_⟩
  ·exact zZ (xk (fplt b hb) (xk hsC l))
  ·exact(f2 b hb).2.2.2.2.1 x c z
 letI Y:Cx:=bT X N scope cl G2.objs.size s2 H2 fp
 let okY:Y.Ok:=by
  refine{I2.ok.mod,hkind,I2.ok.glob,I2.ok.blt,?_,λx y c e e'=>?_,λx hx=>?_,λx c hf e=>?_,I2.ok.hd,I2.ok.frames,.inl rfl,λb hb=>{(below b (fplt b hb)).1,λx c e=>GX b hb x c e},I2.bs,zH I2.ok.IE I2.sz,λb o e hb=>?_,λb hb hf=>?_,I2.stack,I2.jz}
  ·show ↑s2<=G2.objs.size
   rw[hC];exact xG _
  ·rcases csl x c e with⟨q,l,_⟩ | ⟨_,q,z,l⟩
   ·rcases csl y c e' with⟨q',l',_⟩ | ⟨_,q',z',l'⟩
    ·exact LK hown q q'
    ·exact absurd (xk (xk hsC l) l') (zW _)
   ·rcases csl y c e' with⟨q',l',_⟩ | ⟨_,q',z',l'⟩
    ·exact absurd (xk (xk hsC l') l) (zW _)
    ·exact I2.ok.inj x y c z z'
  ·show∃c,(cellsFrom (G2.objs.size+1) scope.names cl).lookup x=some c
   rw[ck,xX];rcases hhas G2.objs.size x hx with⟨c,e⟩ | ⟨c,e⟩
   ·rw[e];cases(cellsFrom (G2.objs.size+1) scope.names []).lookup x with
    | none=>exact{(c),rfl}
    | some d=>exact{(d),rfl}
   ·rw[e];exact{(c),rfl}
  ·let hf':((cellsFrom (G2.objs.size+1) scope.names []).lookup x).isSome=true:=hf
   rcases csl x c e with⟨q,l,_⟩ | ⟨q,_⟩
   ·exact zY (xk hsC l)
   ·rw[q] at hf';cases hf'
  ·rcases(f2 b hb).2.2.2.1 with z | z
   ·exact I2.ok.ku b o e z
   ·exact absurd (zT (yn e) (zH I2.ok.IE z)) (zW _)
  ·rcases zy.mp (I2.AA b hf) with z | z
   ·exact(f2 b hb).2.1 z
   ·exact(f2 b hb).2.2.1 z
 let cl2:∀x c,(cellsFrom (G2.objs.size+1) scope.names cl).lookup x=some c->(∃v,g1.IsCell c v)/\H2 c=none/\c≠↑s2:=λx c e=>by
  rcases csl x c e with⟨_,l,z⟩ | ⟨_,_,z,l⟩
  ·exact{{_,z},I2.bf.fresh (zY (xk hsC l)),zZ (xk hsC l)}
  ·let⟨v,oc,hoc,hd⟩:=I2.cell x c z
   exact{{v,oc,old _ _ hoc,hd},I2.g9 x c z,z9 l}
 let Dfs:↑s2∉Y.fs:=λhb=>by
  rcases zy.mp (I2.AA _ hb) with z | z
  ·exact absurd (z▸I2.lt) (zW _)
  ·exact I2.Po (zh _) z
 let hCf:H2 G2.objs.size=none:=I2.bf.fresh (by rw[hC];exact xG _);let start:∀tk,Inv Y [(↑s2,{cls:=.type "list",data:=.seq ([]:List wG).toArray 0})] (fr.map λo=>o.bind λj=>(σ[j]?).join) H2 {s2 with heap:=g1,toks:=tk}:=λtk=>
  {okY,rfl,I2.bare,Un.kept old,{_,hns,λi x v e1 e2 _=>by
    rw[zF] at e2;cases ef:fr[i]? with
    | none=>rw[ef] at e2;cases e2
    | some o=>
     cases o with
     | none=>rw[ef] at e2;cases e2
     | some j=>
      rw[ef] at e2;let e2':(σ[j]?).join=some v:=by simpa using e2
      let ej:σ[j]?=some (some v):=by
       cases q:σ[j]? with
       | none=>rw[q] at e2';cases e2'
       | some w=>rw[q] at e2';cases w with
        | none=>cases e2'
        | some w=>cases e2';rfl
      let⟨k1,k2,k3,k4,k5,k6⟩:=hfr i x j e1 ef;let⟨m,_,hl⟩:=I2.loc;let⟨u,r,l⟩:=hl j x v k1 ej k2;refine{u,r,?_};rcases l with l | ⟨_,c,ec,z⟩
      ·exact absurd l.1 k3
      ·let⟨oc,hoc,hd⟩:=z
       exact .inr {k4 G2.objs.size,c,by show(cellsFrom (G2.objs.size+1) scope.names cl).lookup x=some c;rw[ck,xX,k6];exact k5 c ec,oc,old _ _ hoc,hd}},
   λx c e=>(cl2 x c e).1,hCf,λx c e=>(cl2 x c e).2.1,
   λp hp=>by
    let e:p=(↑s2,{cls:=.type "list",data:=.seq ([]:List wG).toArray 0}):=by simpa using (show p∈[]++[_] from hp)
    subst e;exact{hacc,I2.bf.fresh (zh _),hDC,Dfs,λv z=>by cases z},I2.bf.kept old,by rw[za,hlen];rfl}
 let stat:∀{H':Hp} {ob:Obj},(∀b∈fp,H' b=none)->∀b∈fp,vN Y [(↑s2,ob)] H' b:=λ{H' ob} hn b hb=>by
  refine{hn b hb,(below b (fplt b hb)).1,λz=>okY.Fy b hb z,.inl hb,GX b hb,λp hp=>?_};let e:p=(↑s2,ob):=by simpa using (show p∈[]++[_] from hp)
  subst e;exact(below b (fplt b hb)).2.symm
 let loop:∀tk,codeAny (model X.prog X.w) X.A (.compLoop (.ListComp elt [{target,iter,ifs,0}] scope pos) 0 (.ref it) (.ref ↑s2) (compEnvC scope (cellsFrom (G2.objs.size+1) scope.names cl) G2.objs.size X.env))
   (RR (.ref ↑s2) G2.objs.size) {s2 with heap:=g1,toks:=tk}:=by
  intro tk;refine FP (λn s'=>∃i σ' H' xs its k,Inv Y [(↑s2,{cls:=.type "list",data:=.seq its.toArray k})] σ' H' s'/\tn i s'.heap/\(∀b∈fp,H' b=none)/\Vals xs its/\W i n xs σ' H') ?_ m0
   {0,_,H2,[],[],0,start tk,T.keep _ _ _ st2 λb _ o e=>old b o e,λb hb=>(f2 b hb).1,.nil,w0}
  rintro n s3 ⟨i,σ3,H3,xs,its,k,I3,st3,fr3,rv3,w3⟩;rcases turn i n xs σ3 H3 w3 with⟨stop,hz,qn⟩ | ⟨go,hz,step⟩
  ·refine bR (T.done Y rfl rfl rfl hc i _ s3 σ3 H3 _ I3 (stat fr3) st3 stop) λr s4 ⟨hr,I4⟩=>?_
   subst hr;let⟨m,hm,_⟩:=id I4.loc;let⟨pD,nD,neD,fD,_⟩:=I4.pin (↑s2,{cls:=.type "list",data:=.seq its.toArray k}) (by show _∈[]++[_];simp);refine fin ↑s2 G2.objs.size s4 H3 xs (zh _) (by rw[hC];exact xG _) hDC.symm (I2.GZ (s':=s4) (ch:=fp) I4.os ?_ ?_ I4.bare (λb hb=>{(f2 b hb).2.2.2.1,(f2 b hb).2.1,(f2 b hb).2.2.2.2.1,(f2 b hb).2.2.2.2.2})) nD I4.free {(m),hm} qn
   ·let ub:Un Y.fs Y.ex H2 H3 s2.heap s4.heap:=I4.base
    let lt:∀b o,s2.heap.get? b=some o->b≠G2.objs.size/\b≠↑s2:=λb o e=>below b (yn e);refine{λb o e n hb hx=>ub.keep b o e n hb hx,λb o e n hb hx=>ub.slot b o e n hb hx,λb o e n hx=>?_,λb o e hx=>ub.there b o e hx,λb ys e=>?_,λb o u e=>?_,λb ps e=>?_}
    ·rw[ar (lt b o e).2];exact ub.free b o e n hx
    ·let q:=ub.ko b ys e
     rw[ar (aS q nD)];exact q
    ·let q:=ub.ji b o u e
     rw[ar (aS q nD)];exact q
    ·let⟨more,q⟩:=ub.kr b ps e
     exact{more,by rw[ar (aS q nD)];exact q}
   ·intro b u e
    by_cases hb:b=↑s2
    ·subst hb;rw[aA] at e;cases e
     exact{(hz),its,k,rv3,pD}
    ·rw[ar hb] at e
     exact(I4.bf b u e).ik (λc v hc' q=>q) (λc q=>by rw[ar (aS q nD)];exact q) λc ys q=>by rw[ar (aS q nD)];exact q
  ·refine bR (T.item Y rfl rfl rfl hc i _ s3 σ3 H3 _ I3 (stat fr3) st3 go) λr s4 ⟨u,hr,h4⟩=>?_
   subst hr;refine bR h4 λ_ s5 z0=>?_;let⟨x,H5,I5,r5,y5,st5,fr5⟩:=z0;let I5':=I5.pinned (stat fr5) (T.obj _ _ st5);refine bR (hg G2.objs.size s2 H2 fp _ s5 σ3 H5 x u _ I5' r5 (step x H5 y5)) λ_ s6 z0=>?_;let⟨σ6,H6,I6,q6⟩:=z0;refine bR (hif G2.objs.size s2 H2 fp _ s6 σ6 H6 _ I6 q6) λb s6' z0=>?_;let⟨H6',I6',q6'⟩:=z0;cases b with
   | false=>
    rw[yD ∅] at q6' ⊢;let⟨m',hm,w7⟩:=q6';let inD:(↑s2,({cls:=.type "list",data:=.seq its.toArray k}:Obj))∈Y.pn++([(↑s2,({cls:=.type "list",data:=.seq its.toArray k}:Obj))]++o6 fp s5.heap):=by show _∈[]++_;simp
    let⟨pD,nD,neD,fD,dD⟩:=I6'.pin _ inD;let I7':Inv Y [] σ6 H6' s6':=I6'.lE λp hp=>nomatch hp;refine{m',hm,i+1,σ6,H6',xs,its,k,I7'.lE λp hp=>?_,T.keep _ _ _ st5 (λb hb o e=>(I6'.pin (b,o) (zD _ (zD _ (fF hb e)))).1),λb hb=>?_,rv3,w7}
    ·let e:p=(↑s2,{cls:=.type "list",data:=.seq its.toArray k}):=by simpa using hp
     subst e;exact{(pD),nD,neD,fD,dD}
    ·let⟨o,e,d⟩:=T.obj _ _ st5 b hb
     exact(I6'.pin (b,o) (zD _ (zD _ (fF hb e)))).2.1
   | true=>
   rw[yE rfl] at q6' ⊢;refine bR (he G2.objs.size s2 H2 fp _ s6' σ6 H6' _ I6' q6') λv s7 z0=>?_;let⟨y,H7,I7,r7,m',hm,w7⟩:=z0;let inD:(↑s2,({cls:=.type "list",data:=.seq its.toArray k}:Obj))∈Y.pn++([(↑s2,({cls:=.type "list",data:=.seq its.toArray k}:Obj))]++o6 fp s5.heap):=by show _∈[]++_;simp
   let⟨pD,nD,neD,fD,dD⟩:=I7.pin _ inD;let hlen:=⇑rv3;refine wpAny_list_append_plain (items:=its.toArray) (hsz:=by rw[zS];ext) {(k),pD} λg8 pl8 sb8=>?_;let⟨k8,e8⟩:=pl8;let I7':Inv Y [] σ6 H7 s7:=I7.lE λp hp=>nomatch hp;let I8:Inv Y [] σ6 H7 {s7 with heap:=g8}:=I7'.turned (t':=s7.toks) (λb o hb e=>sb8.extBut b o hb e) nD neD (.inr (zh _)) (λx c e=>(cl2 x c e).2.2) (λp hp=>(nomatch (show p∈([]:List (wM×Obj)) from hp)));let e8':g8.get? ↑s2=some {cls:=.type "list",data:=.seq (its++[v]).toArray k8}:=by rw[e8];simp
   let fpD:∀b∈fp,∀o,s5.heap.get? b=some o->g8.get? b=some o:=λb hb o e=>sb8.extBut b o (below b (fplt b hb)).2 (I7.pin (b,o) (zD _ (zD _ (fF hb e)))).1;refine{m',hm,i+1,σ6,H7,xs++[y],its++[v],k8,I8.lE λp hp=>?_,T.keep _ _ _ st5 fpD,λb hb=>?_,rv3.append (.cons r7 .nil),w7}
   ·let e:p=(↑s2,{cls:=.type "list",data:=.seq (its++[v]).toArray k8}):=by simpa using hp
    subst e;exact{e8',nD,neD,fD,λv z=>by cases z}
   ·let⟨o,e,d⟩:=T.obj _ _ st5 b hb
    exact(I7.pin (b,o) (zD _ (zD _ (fF hb e)))).2.1
 exact codeAny_compStart_list (loop _) (T.self _ _ _ _ _ (T.keep _ _ _ st2 λb _ o e=>old b o e) (loop _))
def HE {elt target iter:Expr} {scope:Scope} {N:List Str} {fr:List (Option Nat)} {cl:List (Str×wM)} {wi:TI} {g:TG} {tc:TT} {te:TE} {ifs:List Expr} (hc:X.calm=true) (hclos:closureFor scope X.env=pure cl) (hsub:∀x c,cl.lookup x=some c->X.env.cells.lookup x=some c) (hhas:∀C x,((compEnvC scope cl C X.env).kindOf x=some .cell\/(compEnvC scope cl C X.env).kindOf x=some .free)->(∃c,cl.lookup x=some c)\/∃c,(cellsFrom (C+1) scope.names []).lookup x=some c)
  (hlen:⇑fr=N.length) (hfr:∀(i:Nat) x j,N[i]?=some x->fr[i]?=some (some j)->X.N[j]?=some x/\MV X.env.scope x/\X.env.kindOf x≠some .local/\(∀C,(compEnvC scope cl C X.env).kindOf x=some .cell\/(compEnvC scope cl C X.env).kindOf x=some .free)/\(∀c,X.env.cells.lookup x=some c->cl.lookup x=some c)/\∀C,(cellsFrom (C+1) scope.names []).lookup x=none) (hkind:scope.kind=.function)
  (hnames:∀y∈scope.names,y.2=.local->scope.names.lookup y.1=some .local) (hi:PI X target iter wi)
  (hg:∀C s₀ H₀ ex,PG (bT X N scope cl C s₀ H₀ ex) target g) (hif:∀C s₀ H₀ ex,Mp (bT X N scope cl C s₀ H₀ ex) ifs tc) (he:∀C s₀ H₀ ex,PE (bT X N scope cl C s₀ H₀ ex) elt te) (hs:(∀x,foldedSetIterable iter X.env x=pure x)<|>qd_) :
  PE X (.ListComp elt [{target,iter,ifs,0}] scope pos) (mi fr wi g tc te):=by
 intro pins s σ H Q I h;rw[eval_ListComp];refine wpAny_comprehension_free (use:=none) (cl:=cl) rfl hs hclos hkind hnames (bR (hi pins s σ H _ I h) λxv s1 h1=>bR h1 λitv s2 h2=>?_);let⟨it,fp,tn,J,H2,e,I2,T,st2,f2,ok⟩:=h2;subst e;refine tV (RR:=λacc C=>compPost (model X.prog X.w) X.A X.xe none (EP X pins σ Q) acc C) hc hsub hhas hlen hfr hkind hg hif he I2 T st2 f2 ok ?_;intro D C s4 H' xs hD hC hne I4 nD nC ⟨m,hm⟩ qn;refine{m,hm,λg5 hs5=>{.ref D,upd H' D (.lst xs),I2.Pt hC I4 (by rw[ar hne];exact nC) hs5,rfl,qn D nD}}
def HB {elt target iter:Expr} {scope:Scope} {N:List Str} {fr:List (Option Nat)} {cl:List (Str×wM)} {wi:TI} {g:TG} {tc:TT} {te:TE} {ifs:List Expr} (hc:X.calm=true) (hclos:closureFor scope X.env=pure cl) (hsub:∀x c,cl.lookup x=some c->X.env.cells.lookup x=some c) (hhas:∀C x,((compEnvC scope cl C X.env).kindOf x=some .cell\/(compEnvC scope cl C X.env).kindOf x=some .free)->(∃c,cl.lookup x=some c)\/∃c,(cellsFrom (C+1) scope.names []).lookup x=some c)
  (hlen:⇑fr=N.length) (hfr:∀(i:Nat) x j,N[i]?=some x->fr[i]?=some (some j)->X.N[j]?=some x/\MV X.env.scope x/\X.env.kindOf x≠some .local/\(∀C,(compEnvC scope cl C X.env).kindOf x=some .cell\/(compEnvC scope cl C X.env).kindOf x=some .free)/\(∀c,X.env.cells.lookup x=some c->cl.lookup x=some c)/\∀C,(cellsFrom (C+1) scope.names []).lookup x=none) (hkind:scope.kind=.function)
  (hnames:∀y∈scope.names,y.2=.local->scope.names.lookup y.1=some .local) (hi:PI X target iter wi)
  (hg:∀C s₀ H₀ ex,PG (bT X N scope cl C s₀ H₀ ex) target g) (hif:∀C s₀ H₀ ex,Mp (bT X N scope cl C s₀ H₀ ex) ifs tc) (he:∀C s₀ H₀ ex,PE (bT X N scope cl C s₀ H₀ ex) elt te) (hs:(∀x,foldedSetIterable iter X.env x=pure x)<|>qd_)  {i:Nat} {x:Str} {ps pa:Pos} (hN:X.N.Nodup) (hx1:X.N[i]?=some x) (hx2:Loc X.env.scope x) (hsw:swapsWith (.ListComp elt [{target,iter,ifs,0}] scope pos) (some (.Name x ps)) pa.line X.env=pure true<|>qe_)
  (hf:X.fn x=true\/X.env.scope.names.lookup x=some .local<|>qa_) :
  PS X (.Assign [.Name x ps] (.ListComp elt [{target,iter,ifs,0}] scope pos) pa) (cR (mi fr wi g tc te) (bj i)):=by
 intro pins s σ H D I h;rw[exec_Assign_Name_used _ _ _ _ hsw];refine yi (wpAny_standAt (yi ?_));show wpAny _ X.A (do let _ <-comprehension (.ListComp elt [{target,iter,ifs,0}] scope pos) scope X.env _ (newList []) false (eval iter X.env) (some (assign (.Name x ps) X.env))) _ _ s;refine yi (yV (wpAny_comprehension_free (use:=some (assign (.Name x ps) X.env)) (cl:=cl) (Q:=λ_ s'=>SP X pins D .next s') rfl hs hclos hkind hnames (bR (hi pins s σ H _ I h) λxv s1 h1=>bR h1 λitv s2 h2=>?_)) (λ_ s' hq=>yk (yk hq)) λ_ _ e=>e);let⟨it,fp,tn,J,H2,e,I2,T,st2,f2,ok⟩:=h2;subst e;refine tV (RR:=λacc C=>compPost (model X.prog X.w) X.A X.xe (some (assign (.Name x ps) X.env)) (λ_ s'=>SP X pins D .next s') acc C) hc hsub hhas hlen hfr hkind hg hif he I2 T st2 f2 ok ?_;intro E C s4 H' xs hE hC hne I4 nE nC ⟨m,hm⟩ qn;show wpAny _ X.A (assign (.Name x ps) X.env (.ref E)) _ _ s4;refine wpAny_assign_Name (vT I4 hN hx1 hx2 (v:=.ref E) rfl (λs5 I5 hw=>?_) hf);let⟨aw,sb,ha⟩:=hw;let hCn:(upd H' E (.lst xs)) C=none:=by rw[ar hne];exact nC
 let⟨f0,f1,f2',f3,f4,f5⟩:=I2.tw hC hCn;let neC:C≠aw:=by
  rcases ha with z | z
  ·rw[z];exact f1
  ·exact λq=>f4 x aw z q.symm
 refine{m,hm.sameBut sb neC,λg6 hs6=>?_};exact{_,_,I2.Pt hC I5 hCn hs6,qn E nE}
end
def Cj (cells:List (Str×wM)):List (Str×wM)->Prop
 | []=>True
 | p::r=>cells.lookup p.1=some p.2/\Cj cells r
theorem Cj.sub:∀{cl:List (Str×wM)},Cj cells cl->∀x c,cl.lookup x=some c->cells.lookup x=some c
 | [],_,x,c,e=>by cases e
 | (y,d)::r,h,x,c,e=>by
  rw[yf] at e;split at e
  ·rename_i q
   cases e;rw[eq_of_beq q];exact h.1
  ·exact Cj.sub h.2 x c e
def IA (X:Cx) (scope:Scope) (cl:List (Str×wM)):List Str->List Nat->Prop
 | [],[]=>True
 | y::ys,j::js=>(X.N[j]?=some y/\(X.env.kindOf y=some .cell\/X.env.kindOf y=some .free)/\((relabel scope X.env).names.lookup y=some .cell\/(relabel scope X.env).names.lookup y=some .free)/\∃c,X.env.cells.lookup y=some c/\cl.lookup y=some c)/\IA X scope cl ys js
 | _,_=>False
theorem IA.len:∀{ys:List Str} {js:List Nat},IA X scope cl ys js->⇑js=⇑ys
 | [],[],_=>rfl
 | _::_,_::_,h=>by rw[zo,zo,IA.len h.2]
 | [],_::_,h=>h.elim
 | _::_,[],h=>h.elim
theorem IA.get:∀{ys:List Str} {js:List Nat} {i:Nat} {y:Str} {j:Nat},IA X scope cl ys js->ys[i]?=some y->js[i]?=some j->
  X.N[j]?=some y/\(X.env.kindOf y=some .cell\/X.env.kindOf y=some .free)/\((relabel scope X.env).names.lookup y=some .cell\/(relabel scope X.env).names.lookup y=some .free)/\∃c,X.env.cells.lookup y=some c/\cl.lookup y=some c
 | [],_,_,_,_,_,e,_=>by simp at e
 | _::_,[],_,_,_,h,_,_=>h.elim
 | y::ys,j::js,0,_,_,h,e,e'=>by simp at e e';subst e e';exact h.1
 | y::ys,j::js,i+1,_,_,h,e,e'=>IA.get (i:=i) h.2 (by simpa using e) (by simpa using e')
theorem FT:∀{names:List (Str×NameKind)} {n:Nat} {x:Str} {c:wM},(cellsFrom n names []).lookup x=some c->(x,NameKind.cell)∈names
 | [],_,_,_,e=>by cases e
 | (y,k)::r,n,x,c,e=>by
  unfold cellsFrom at e;split at e
  ·rename_i hk
   rw[ck,xX] at e;cases q:(cellsFrom (n+1) r []).lookup x with
   | some d=>exact zj _ (FT q)
   | none=>
    rw[q] at e;let e':([(y,n)]:List (Str×wM)).lookup x=some c:=e;rw[yf] at e';split at e'
    ·rename_i z
     rw[eq_of_beq z,eq_of_beq hk];exact zk
    ·cases e'
  ·exact zj _ (FT e)
theorem FU:∀{names:List (Str×NameKind)} {n:Nat} {x:Str},(x,NameKind.cell)∈names->∃c,(cellsFrom n names []).lookup x=some c
 | [],_,_,h=>by cases h
 | (y,k)::r,n,x,h=>by
  unfold cellsFrom;split
  ·rw[ck,xX]
   cases q:(cellsFrom (n+1) r []).lookup x with
   | some d=>exact{(d),rfl}
   | none=>
    rcases zy.mp h with h | h
    ·let⟨e1,_⟩:=Prod.mk.inj h
     exact{n,by show([(y,n)]:List (Str×wM)).lookup x=some n;rw[e1,yf,xM]}
    ·let⟨c,e⟩:=FU (n:=n+1) h
     rw[q] at e;cases e
  ·rename_i hk
   rcases zy.mp h with h | h
   ·cases h;exact absurd rfl hk
   ·exact FU h
theorem pX:∀{L:List (Str×NameKind)} {x:Str} {k:NameKind},L.lookup x=some k->(x,k)∈L
 | [],_,_,h=>by cases h
 | (y,j)::r,x,k,h=>by
  rw[yf] at h;split at h
  ·rename_i q;cases h;rw[eq_of_beq q];exact zk
  ·exact zj _ (pX h)
section
variable {X:Cx} {pos:Pos} {elt target iter:Expr} {ifs:List Expr} {scope:Scope} {ts ys:List Str} {js:List Nat} {cl:List (Str×wM)} {wi:TI} {g:TG} {tc:TT} {te:TE}
def Ag (hcl:Cj X.env.cells cl) (hLo:((relabel scope X.env).names.all λp=>(p.2 != .cell&&p.2 != .free)||ys.contains p.1||scope.names.contains (p.1,.cell))=true) (hno:∀p∈scope.names,p.2=.cell->p.1∉ys) (hfr:IA X scope cl ys js) :
  (∀(C:wM) x,((compEnvC scope cl C X.env).kindOf x=some .cell\/(compEnvC scope cl C X.env).kindOf x=some .free)->(∃c,cl.lookup x=some c)\/∃c,(cellsFrom (C+1) scope.names []).lookup x=some c)/\
  ⇑(ts.map (λ_=>(none:Option Nat))++js.map some)=⇑(ts++ys)/\
  (∀(i:Nat) x j,(ts++ys)[i]?=some x->(ts.map (λ_=>(none:Option Nat))++js.map some)[i]?=some (some j)->X.N[j]?=some x/\MV X.env.scope x/\X.env.kindOf x≠some .local/\(∀C,(compEnvC scope cl C X.env).kindOf x=some .cell\/(compEnvC scope cl C X.env).kindOf x=some .free)/\(∀c,X.env.cells.lookup x=some c->cl.lookup x=some c)/\∀C,(cellsFrom (C+1) scope.names []).lookup x=none):=by
 refine{λC x hx=>?_,by simp[IA.len hfr],λi x j h1 h2=>?_}
 ·let key:∀k,(relabel scope X.env).names.lookup x=some k->(k=.cell\/k=.free)->(∃c,cl.lookup x=some c)\/∃c,(cellsFrom (C+1) scope.names []).lookup x=some c:=λk hk hk'=>by
   have:=(ye.mp hLo) _ (pX hk);rw[Bool.or_eq_true,Bool.or_eq_true] at this;rcases this with(z | z) | z
   ·rcases hk' with rfl | rfl <;> simp at z
   ·let hm:x∈ys:=List.contains_iff_mem.mp z
    let⟨n,hn⟩:=List.getElem?_of_mem hm;let hl:n<⇑js:=by rw[hfr.len];exact(zt.mp hn).1
    let⟨_,_,_,c,_,e⟩:=hfr.get hn (zb hl);exact .inl {(c),e}
   ·exact .inr (FU (List.contains_iff_mem.mp z))
  rcases hx with hx | hx
  ·exact key _ hx (.inl rfl)
  ·exact key _ hx (.inr rfl)
 ·let hi:⇑ts<=i:=by
   rcases xl i ⇑ts with h | h
   ·rw[xO (by simpa using h),zF] at h2
    cases q:ts[i]? with
    | none=>rw[q] at h2;cases h2
    | some z=>rw[q] at h2;cases h2
   ·exact h
  rw[zR hi] at h1;rw[zR (by simpa using hi),za,zF] at h2;let h2':js[i-⇑ts]?=some j:=by
   cases q:js[i-⇑ts]? with
   | none=>rw[q] at h2;cases h2
   | some z=>rw[q] at h2;cases h2;rfl
  let⟨k1,k2,k3,c,k4,k5⟩:=hfr.get h1 h2';refine{k1,.inr k2,λz=>?_,λC=>k3,λd hd=>?_,λC=>?_}
  ·rcases k2 with k2 | k2 <;> (rw[z] at k2;cases k2)
  ·rw[k4] at hd;cases hd;exact k5
  ·cases q:(cellsFrom (C+1) scope.names []).lookup x with
   | none=>rfl
   | some d=>exact absurd (zw h1) (hno _ (FT q) rfl)
def JL (hc:X.calm=true) (hclos:closureFor scope X.env=pure cl) (hcl:Cj X.env.cells cl) (hLo:((relabel scope X.env).names.all λp=>(p.2 != .cell&&p.2 != .free)||ys.contains p.1||scope.names.contains (p.1,.cell))=true) (hno:∀p∈scope.names,p.2=.cell->p.1∉ys) (hfr:IA X scope cl ys js) (hkind:scope.kind=.function)
  (hnames:∀y∈scope.names,y.2=.local->scope.names.lookup y.1=some .local) (hi:PI X target iter wi)
  (hg:∀C s₀ H₀ ex,PG (bT X (ts++ys) scope cl C s₀ H₀ ex) target g) (hif:∀C s₀ H₀ ex,Mp (bT X (ts++ys) scope cl C s₀ H₀ ex) ifs tc) (he:∀C s₀ H₀ ex,PE (bT X (ts++ys) scope cl C s₀ H₀ ex) elt te) (hs:(∀x,foldedSetIterable iter X.env x=pure x)<|>qd_) :
  PE X (.ListComp elt [{target,iter,ifs,0}] scope pos) (mi (ts.map (λ_=>none)++js.map some) wi g tc te):=by
 let⟨a,b,c⟩:=Ag (ts:=ts) hcl hLo hno hfr;exact HE hc hclos hcl.sub a b c hkind hnames hi hg hif he hs
def JA (hc:X.calm=true) (hclos:closureFor scope X.env=pure cl) (hcl:Cj X.env.cells cl) (hLo:((relabel scope X.env).names.all λp=>(p.2 != .cell&&p.2 != .free)||ys.contains p.1||scope.names.contains (p.1,.cell))=true) (hno:∀p∈scope.names,p.2=.cell->p.1∉ys) (hfr:IA X scope cl ys js) (hkind:scope.kind=.function)
  (hnames:∀y∈scope.names,y.2=.local->scope.names.lookup y.1=some .local) (hi:PI X target iter wi)
  (hg:∀C s₀ H₀ ex,PG (bT X (ts++ys) scope cl C s₀ H₀ ex) target g) (hif:∀C s₀ H₀ ex,Mp (bT X (ts++ys) scope cl C s₀ H₀ ex) ifs tc) (he:∀C s₀ H₀ ex,PE (bT X (ts++ys) scope cl C s₀ H₀ ex) elt te) (hN:X.N.Nodup) (hx1:X.N[i]?=some x) (hx2:Loc X.env.scope x) (hs:(∀x,foldedSetIterable iter X.env x=pure x)<|>qd_) (hsw:swapsWith (.ListComp elt [{target,iter,ifs,0}] scope pos) (some (.Name x ps)) pa.line X.env=pure true<|>qe_)
  (hf:X.fn x=true\/X.env.scope.names.lookup x=some .local<|>qa_) :
  PS X (.Assign [.Name x ps] (.ListComp elt [{target,iter,ifs,0}] scope pos) pa) (cR (mi (ts.map (λ_=>none)++js.map some) wi g tc te) (bj i)):=by
 let⟨a,b,c⟩:=Ag (ts:=ts) hcl hLo hno hfr;exact HB hc hclos hcl.sub a b c hkind hnames hi hg hif he hs hN hx1 hx2 hsw hf
end
def IB (n:Nat) (f:Nat->List V) (Pv:Nat->St->Hp->Prop) (i m:Nat) (xs:List V) (σ:St) (H:Hp):Prop:=m=n-i/\i<=n/\xs=f i/\Pv i σ H
def IB.push (hi:i<n) (e:f (i+1)=f i++[y]) (p:Pv (i+1) σ H):∃m',m'<n-i/\IB n f Pv (i+1) m' (f i++[y]) σ H:={n-(i+1),(),rfl,hi,e.symm,p}
def IB.skip (hi:i<n) (e:f (i+1)=f i) (p:Pv (i+1) σ H):∃m',m'<n-i/\IB n f Pv (i+1) m' (f i) σ H:={n-(i+1),(),rfl,hi,e.symm,p}
def om (n:Nat) (f:Nat->List V) (Pv:Nat->St->Hp->Prop) (hz:∀i,i<=n->⇑(f i)<=i) (hn:n<=sizeLine) (f0:f 0=[]) (h0:Pv 0 σ₀ H1)
  (go:∀i σ H,i<n->Pv i σ H->J.go i H) (stop:∀σ H,Pv n σ H->J.stop n H)
  (turn:∀i x σ H H2,i<n->Pv i σ H->J.Gg i H x H2->g x σ H2 λσ3 H3=>tc σ3 H3 λb H4=>if b=true then te σ3 H4 λy H5=>∃m',m'<n-i/\IB n f Pv (i+1) m' (f i++[y]) σ3 H5 else∃m',m'<n-i/\IB n f Pv (i+1) m' (f i) σ3 H4)
  (fin:∀σ H,Pv n σ H->∀D,H D=none->Q (.ref D) (upd H D (.lst (f n)))):du σ₀ g tc te Q J H1:=by
 refine{IB n f Pv,{n,by simp,zX _,f0.symm,h0},?_};rintro i m xs σ H ⟨rfl,hi,rfl,p⟩;have:=hz i hi;rcases xl i n with hlt | hge
 ·exact .inr {go i σ H hlt p,(),λx H2 y=>turn i x σ H H2 hlt p y}
 ·let e:i=n:=()
  subst e;exact .inl {stop σ H p,(),fin σ H p}
section
variable {X:Cx}
def A5 (bs:List Bool):((List.range ⇑bs).any λi=>(bs[i]?).getD false)=bs.any id:=by
 rw[xp,yd,yd];constructor
 ·rintro⟨i,hi,e⟩
  let hi':=yH.mp hi;rw[zb hi'] at e;exact{_,yb hi',e}
 ·rintro⟨b,hb,e⟩
  let⟨i,hi,e'⟩:=List.mem_iff_getElem.mp hb;exact{i,yH.mpr hi,by rw[zb hi,e'];exact e}
def jt (hc:X.calm=true):dI X (.builtin "any") (λxs H Q=>∃(a:wM) (bs:List Bool),xs=[.ref a]/\aE X.K H a (bs.map V.bl)/\Q (.bl (bs.any id)) H):=by
 intro pins s σ H xs us Q I r h;let⟨a,bs,e,hq,q⟩:=h;subst e;cases r with
 | cons r rr=>
  cases rr;cases r;let⟨its,rv,p,hz⟩:=I.list hq;let hlt:a<↑s:=by let⟨o,n,e,_⟩:=p;exact yn e
  let hlen:⇑bs=⇑its:=by have:=⇑rv;rw[za] at this;exact this
  refine call_any_walk (x9 p.isList ?_);refine{↑s,[↑s,a],[↑s],its.toArray.size,_,_,λi=>(bs[i]?).getD false,rfl,Walks.list (A:=X.A.in1) (I.ok.hd hc) _ a (z9 hlt) its.toArray,
   {{_,ym _ rfl,rfl,rfl},p.isList.push _},λi v s' Q' E' hP hQ=>?_,λh' tk hk=>?_}
  ·let hP':its[i]?=some v:=by simpa using hP
   let hi:i<⇑bs:=by rw[hlen];exact(zt.mp hP').1
   let hm:(bs.map V.bl)[i]?=some (.bl bs[i]):=by rw[zF,zb hi];rfl
   let⟨u,hu,ru⟩:=rv.get hm;rw[hP'] at hu;cases hu;cases ru;dsimp only at hQ;rw[zb hi] at hQ;exact yW hQ
  ·let e:((List.range its.toArray.size).any λi=>(bs[i]?).getD false)=bs.any id:=by rw[zS,<-hlen];exact A5 bs
   rw[e];exact{.bl _,H,I.kept λb o x=>hk b o (λhm=>by rw[zu.mp hm] at x;exact zW _ (yn x)) (yj _ x),rfl,q}
end
section
variable {prog:wI} {w:wJ} {A:wK} {E:wG->wH->Prop} {s:wH}
def vz (hl:IsTup s.heap l vs.toArray)
  (h:Q vs {s with heap:=(s.heap.push (seqObj "list" #[] 0)).update ↑s (Obj.mapSeq (·++vs.toArray))}) (hsz:⇑vs<=sizeLine) :
  wpAny (model prog w) A (collect (.ref l)) Q E s:=by
 let⟨o,ho,hc,n,hd⟩:=id hl;unfold collect;refine yi (wpAny_runValue (xB entry_proto_collect' ?_));show wpAny _ _ (do again (.builtin "list.__iadd__" {[<-newList [],.ref l],[]})) _ _ s;refine yi (wpAny_newList (yk {Code.quiet_builtin _ (by decide +kernel),xB entry_list_iadd' ?_}));show wpAny _ _ (Builtin.List.listExtendWith (.ref ↑s) (.ref l) (.ref ↑s)) _ _ {s with heap:=s.heap.push (seqObj "list" #[] 0)};unfold Builtin.List.listExtendWith;let ho':(s.heap.push (seqObj "list" #[] 0)).get? l=some o:=yj _ ho;refine yi (wx (T:="tuple") {(o),ho',hc} ?_);let ht:(Value.type "tuple"== Value.type "tuple")=true:=by rfl
 rw[yE (by rw[ht];simp)];refine yi (listItems_at ho' hd ?_);refine yi (listItems_at (xs:=#[]) (n:=0) (ym _ rfl) rfl ?_);rw[yD (by simp)];refine yi (listUpdate_at (xs:=#[]) (n:=0) (ym _ rfl) rfl ?_ (zX _) (by show(#[]++vs.toArray).size<=sizeLine+1;simp only[Array.size_append,zS,y6];ext));refine yk ?_;show wpAny (model prog w) A (do
   let o <-load ↑s
   match o.data with
   | .seq xs _=>pure xs.toList
   | _=>unsupported "internal:collect") Q E {s with heap:=(s.heap.push (seqObj "list" #[] 0)).update ↑s (Obj.mapSeq (·++vs.toArray))}
 refine yi (wpAny_load (get?_update_seq (ym _ rfl) _) ?_);show wpAny _ _ (pure ((#[]:Array wG)++vs.toArray).toList) Q E _;rw[show((#[]:Array wG)++vs.toArray).toList=vs by simp];exact yk h
def ES (hl:IsTup s.heap l vs.toArray) (hI:IntsAre vs ns) (h64:⇑vs<64)
  (h:∀(out:Array wG) (ns':List Int),IntsAre out.toList ns'->ns'.Perm ns->ns'.Pairwise (·<=·)->Q (.ref (↑s+1)) {s with heap:=sortedAll s.heap vs out}) :
  wpAny (model prog w) A (call (.builtin "sorted") [.ref l]) Q E s:=by
 refine Calls.call_function_entry kind_sorted plain_sorted entry_sorted (args_sorted1 _) ?_;unfold Builtin.«sorted»;refine yi (m:=checkCount "sorted" 1 1 _) (yk ?_);refine yi (vz hl ?_ (by rw[yr];ext));refine yi (wpAny_newList ?_);let hsz:((s.heap.push (seqObj "list" #[] 0)).update ↑s (Obj.mapSeq (·++vs.toArray))).objs.size=↑s+1:=by
  rw[Heap.size_update,size_push']
 let hoL:(((s.heap.push (seqObj "list" #[] 0)).update ↑s (Obj.mapSeq (·++vs.toArray))).push (seqObj "list" vs.toArray 0)).get? (↑s+1)=some (seqObj "list" vs.toArray 0):=by
  rw[<-hsz];exact ym _ rfl
 show wpAny _ _ _ _ _ {s with heap:=((s.heap.push (seqObj "list" #[] 0)).update ↑s (Obj.mapSeq (·++vs.toArray))).push (seqObj "list" vs.toArray 0)};rw[hsz];refine yi (xm (yS slot_list_sort {_,hoL,rfl} entry_list_sort (list_sort_tree hoL hI h64 λout ns' a1 a2 a3=>{_,rfl,?_}) (args_list_sort _)));exact yk {_,rfl,h out ns' a1 a2 a3}
def uL (h:wN) (vs:List wG) (out:Array wG):∃n,(sortedAll h vs out).get? (h.objs.size+1)=some {cls:=.type "list",data:=.seq out n}:=by
 let hsz:((h.push (seqObj "list" #[] 0)).update h.objs.size (Obj.mapSeq (·++vs.toArray))).objs.size=h.objs.size+1:=by rw[Heap.size_update,size_push']
 let h1:(((h.push (seqObj "list" #[] 0)).update h.objs.size (Obj.mapSeq (·++vs.toArray))).push (seqObj "list" vs.toArray 0)).get? (h.objs.size+1)=some (seqObj "list" vs.toArray 0):=by
  rw[<-hsz];exact ym _ rfl
 unfold sortedAll sortedHeap;let h2:=get?_update_seq h1 (λ_=>#[]);let h3:=yj (seqObj "list" #[] 0) (yj (seqObj "tuple" vs.toArray 0) h2);exact{_,get?_update_seq h3 (λ_=>out)}
def qy (h:wN) (vs:List wG) (out:Array wG) (b:wM) (o:Obj) (e:h.get? b=some o):(sortedAll h vs out).get? b=some o:=by
 let hb:b<h.objs.size:=yn e;unfold sortedAll sortedHeap;let n1:h.objs.size≠b:=zZ hb;let n2:h.objs.size+1≠b:=zZ (wa hb);rw[yo _ _ n2];refine yj _ (yj _ ?_);rw[yo _ _ n2];refine yj _ ?_;rw[yo _ _ n1];exact yj _ e
end
theorem mW:∀{us:List wG} {ns:List Int},IntsAre us ns->Vals (ns.map V.int) us
 | _,_,.nil=>.nil
 | _,_,.cons r t h=>.cons {_,rfl} (mW h)
section
variable {X:Cx}
def oo:dI X (.builtin "sorted") (λxs H Q=>∃(a:wM) (ns:List Int),xs=[.ref a]/\(aE X.K H a (ns.map V.int)\/bK X.K H a (ns.map V.int))/\⇑ns<64/\∀ns':List Int,ns'.Perm ns->ns'.Pairwise (·<=·)->∀l,H l=none->Q (.ref l) (upd H l (.lst (ns'.map V.int)))):=by
 intro pins s σ H xs us Q I r h;let⟨a,ns,rfl,hq,h64,q⟩:=h;let⟨u,rfl,rx⟩:=vals1 r;cases rx;let fin:∀(its:List wG),⇑ns=⇑its->∀(out:Array wG) (ns':List Int),IntsAre out.toList ns'->ns'.Perm ns->ns'.Pairwise (·<=·)->EP X pins σ Q (.ref (↑s+1)) {s with heap:=sortedAll s.heap its out}:=λits hl out ns' a1 a2 a3=>by
  let⟨n,hn⟩:=uL s.heap its out;refine{.ref _,_,I.laid (t':=s.toks) (a:=↑s+1) (o:=.lst (ns'.map V.int)) (qy s.heap its out) (xG _) ?_,rfl,q ns' a2 a3 _ (I.bf.fresh (xG _))};refine{by rw[za,a2.length_eq,yr];ext,out.toList,n,mW a1,by simpa using hn}
 rcases hq with hq | hq
 ·let⟨its,rv,p,_⟩:=I.list hq
  let hl:⇑ns=⇑its:=by have:=⇑rv;rw[za] at this;exact this
  exact sorted_ints p.isList (intsAre_of rv) () (fin its hl)
 ·let⟨its,rv,p,_⟩:=I.tuple hq
  let hl:⇑ns=⇑its:=by have:=⇑rv;rw[za] at this;exact this
  exact ES p (intsAre_of rv) () (fin its hl)
theorem Gs:∀{zs:List Str} {us:List wG},Vals (zs.map V.str) us->∃l:List (Str×Tok),us=strValues l/\l.map (·.1)=zs
 | [],_,.nil=>{[],rfl,rfl}
 | z::zs,_,.cons ⟨t,e⟩ r=>by
  let⟨l,e1,e2⟩:=Gs r;subst e e1 e2;exact{(z,t)::l,rfl,rfl}
def rJoin (K:yq):V->List V->Hp->VK->Prop:=λx vs H Q=>∃(sep:Str) (a:wM) (zs:List Str),x=.str sep/\vs=[.ref a]/\aE K H a (zs.map V.str)/\(zs.map (λz:Str=>⇑z+⇑sep)).sum<=sizeLine/\Q (.str (Str.join sep zs)) H
theorem DJ (sep:Str):∀(zs:List Str) (k:Nat),zs.foldl (λn z=>n+⇑z+⇑sep) k=k+(zs.map (λz:Str=>⇑z+⇑sep)).sum
 | [],k=>by simp
 | z::zs,k=>by
  rw[List.foldl_cons,DJ sep zs,zf,wj];ext
theorem Gq (sep:Str):∀zs:List Str,(zs.map (·.length)).sum+⇑zs*⇑sep=(zs.map (λz:Str=>⇑z+⇑sep)).sum
 | []=>by simp
 | z::zs=>by
  let ih:=Gq sep zs;simp only[zf,wj,zo,Nat.succ_mul] at ih ⊢;ext
def lG:MW X "str.join" (rJoin X.K):=by
 intro pins s σ H x vs v us Q I rx rv h;let⟨sep,a,zs,rfl,rfl,hq,hz,q⟩:=h;let⟨tk,rfl⟩:=rx;let⟨u,rfl,ru⟩:=rv.one;cases ru;let⟨its,ri,p,_⟩:=I.list hq;let⟨l,e1,e2⟩:=Gs ri;subst e1;let hl:Builtin.Str.tooLong ((l.map (·.1)).toArray.foldl (·+·.length+⇑sep) 0)=false:=by
  rw[e2,List.foldl_toArray,DJ,Nat.zero_add];exact zc ()
 let hj:Builtin.Str.glued sep (l.map (·.1))=Str.join sep zs:=by rw[e2];exact StrLaws.glued_eq_join sep zs
 let jl:⇑(Str.join sep zs)<=sizeLine:=by
  exact zH (StrLaws.join_length_le sep zs) (zH (Nat.le_of_eq (Gq sep zs)) hz)
 refine xV F.slot_str_join (wd s sep tk) F.entry_str_join (F.args_str_join_2 _ _) (meets_str_join_list sep tk a l hl) {p.isList,?_}
 match l,e2,hj with
 | [],e2,hj=>
  subst e2;exact{by rw[hj];exact jl,.str _,H,I.tok _,{_,rfl},by rw[hj];exact q}
 | [z],e2,hj=>
  subst e2;exact{.str _,H,I,{_,rfl},q}
 | z::z'::r,e2,hj=>
  subst e2;exact{by rw[hj];exact jl,.str _,H,I.tok _,{_,rfl},by rw[hj];exact q}
end
def KD (P:wI) (w:wJ) (K:yq) (a:wM) (kvs:List (Str×V)):Prop:=
 (a == sysModules)=false/\(kvs.map (·.1)).Nodup/\∀h:wN,K.In h->∃vs:List (Key×wG),KV (kvs.map λp=>((Sum.inr p.1:Key),p.2)) vs/\h.DictOf (b9 P w) a vs
noncomputable def DQ (Pm:Params) (l:List (Str×Tok×wM)):List DictEntry:=l.map λp=>{PyData.keyHash Pm p.1,.str p.1 p.2.1,.ref p.2.2}
theorem JT:∀{l:List Str},l.Nodup->(l.map (Sum.inr:Str->Key)).Nodup
 | [],_=>xH
 | x::r,h=>by
  rw[zU] at h;rw[zf,zU];exact{λz=>by let⟨y,hy,e⟩:=zC.mp z;exact h.1 (wm e▸hy),JT h.2}
def Pw {P:wI} {w:wJ} {K:yq} {a:wM} {l:List (Str×Tok×wM)} {n:Nat} (hl:K.lookup a=some {cls:=.type "dict",data:=.dict (DQ w.params l).toArray n}) (hs:(a == sysModules)=false) (nd:(l.map (·.1)).Nodup) :
  KD P w K a (l.map λp=>(p.1,V.ref p.2.2)):=by
 let e1:(l.map λp=>(p.1,V.ref p.2.2)).map (·.1)=l.map (·.1):=by rw[zv];rfl
 refine{hs,by rw[e1];exact nd,λh X=>{l.map λp=>(Sum.inr p.1,.ref p.2.2),?_,_,_,_,X _ _ hl,{(rfl),rfl,rfl},rfl,?_,?_,?_}}
 ·clear hl nd e1
  induction l with
  | nil=>exact .nil
  | cons p r ih=>exact .cons {(rfl),rfl} ih
 ·intro e he
  rw[List.mem_toArray] at he;let⟨p,_,rfl⟩:=zC.mp he;exact{Sum.inr p.1,lK p.1 p.2.1,rfl}
 ·show PySem.Pairs _ (DQ w.params l) _
  clear hl nd e1
  induction l with
  | nil=>exact .nil
  | cons p r ih=>exact .cons (lK p.1 p.2.1) rfl ih
 ·let e2:(l.map λp=>((Sum.inr p.1:Key),(Value.ref p.2.2))).map (·.1)=(l.map (·.1)).map Sum.inr:=by rw[zv,zv];rfl
  rw[e2];exact JT nd
noncomputable def oA (kvs:List (Str×V)) (k:Str):Option V:=(kvs.find? λp=>decide (p.1=k)).map (·.2)
theorem Ft:∀{kvs:List (Str×V)} {vs:List (Key×wG)} (k:Str),KV (kvs.map λp=>((Sum.inr p.1:Key),p.2)) vs->eN (oA kvs k) (valueAt vs (Sum.inr k))
 | [],_,_,.nil=>trivial
 | (x,v)::r,_,k,.cons (b:=b) h t=>by
  let⟨h1,h2⟩:=h;let⟨bk,bv⟩:=b;dsimp only at h1 h2;subst h1
  by_cases e:x=k
  ·subst e
   simp only[oA,valueAt,yI,decide_true];exact h2
  ·let ih:=Ft k t
   let e':¬((Sum.inr x:Key)=Sum.inr k):=λz=>e (wm z);simp only[oA,valueAt,yI,e,e',decide_false] at ih ⊢;exact ih
def Nl (P:wI) (w:wJ) (K:yq) (td ty:TE):TE:=λσ H Q=>td σ H λx H1=>ty σ H1 λy H2=>∃a kvs k v,x=.ref a/\KD P w K a kvs/\y=.str k/\oA kvs k=some v/\Q v H2
def O3 (P:wI) (w:wJ) (K:yq) (b:Bool) (ty td:TE):TE:=λσ H Q=>ty σ H λy H1=>td σ H1 λx H2=>∃a kvs k,x=.ref a/\KD P w K a kvs/\y=.str k/\Q (.bl (b ^^ (oA kvs k).isSome)) H2
section
variable {X:Cx} {pos:Pos} {o i:Expr} {td ty:TE}
theorem eN.Fu:∀{a:Option V} {b:Option wG},eN a b->a.isSome=b.isSome
 | some _,some _,_=>rfl
 | none,none,_=>rfl
 | some _,none,h=>h.elim
 | none,some _,h=>h.elim
def C9 (ho:PE X o td) (hi:PE X i ty) (hs:OB i):PE X (.Subscript o i pos) (Nl X.prog X.w X.K td ty):=by
 intro pins s σ H Q I h;refine Gr PySem.F.slot_dict_getitem.lookup hs (bR (ho pins s σ H _ I h) λu s1 z0=>?_);let⟨x,H1,I1,rx,q1⟩:=z0;refine bR (hi pins s1 σ H1 _ I1 q1) λiv s2 z1=>?_;let⟨y,H2,I2,ry,a,kvs,k,v,ex,kd,ey,hv,q2⟩:=z1;subst ex ey;obtain rfl:u=Value.ref a:=rx;let⟨tk,rfl⟩:=ry;let⟨hd,_,hk⟩:=kd;let⟨vs,rel,dd⟩:=hk _ I2.iY;let rv:=Ft k rel;rw[hv] at rv;cases hw:valueAt vs (Sum.inr k) with
 | none=>rw[hw] at rv;exact rv.elim
 | some w'=>
  rw[hw] at rv;exact{dd.typeIs,wpAny_getItem_of (lK k tk) dd.mapOf hw {v,H2,I2.tok _,rv,q2}}
def LI (hi:PE X i ty) (ho:PE X o td):PC X .In i o (O3 X.prog X.w X.K false ty td):=by
 intro pins s σ H Q I h;refine bR (hi pins s σ H _ I h) λiv s1 z0=>?_;let⟨y,H1,I1,ry,q1⟩:=z0;refine bR (ho pins s1 σ H1 _ I1 q1) λu s2 z1=>?_;let⟨x,H2,I2,rx,a,kvs,k,ex,kd,ey,q2⟩:=z1;subst ex ey;obtain rfl:u=Value.ref a:=rx;let⟨tk,rfl⟩:=ry;let⟨hd,_,hk⟩:=kd;let⟨vs,rel,dd⟩:=hk _ I2.iY;refine wpAny_in_of (pW _ _ k tk) hd dd.mapOf ?_;let e:=eN.Fu (Ft k rel);exact{.bl _,H2,I2.tok _,rfl,by rw[e,Bool.false_xor] at q2;exact q2}
end
structure OE (X:Cx) (CX:Ew) (k:Nat) (f:wM) (sp:Sp):Prop where
 ok:∃fd ps,bQ X.prog X.w X.K X.mg X.base CX k f fd ps sp/\PySem.W.keepIn X.K (.ref f)=true/\Binds X.K fd ps []
def Nq (Tb:wM->Sp->Prop) (E:XK) (i:Nat) (t:TA):TE:=λσ H Q=>∃f sp,σ[i]?=some (some (.ref f))/\Tb f sp/\t σ H λvs H1=>sp vs H1 Q E
section
variable {X:Cx} {CX:Ew} {k:Nat} {x:Str} {i:Nat} {p pos:Pos} {e:Expr} {es:List Expr} {t:TA} {E:XK}
def Dc (Tb:wM->Sp->Prop) (hT:∀f sp,Tb f sp->OE X CX k f sp) (hr:dw k X.A) (hv:PE X (.Name x p) (aB i)) (hx:Passes CX X E)
  (ha:PA X (e::es) t) (he:starEach (e::es) X.env=(false,eval e X.env)::starEach es X.env<|>qe_) (hpl:(backTo pos (starEach es X.env)).any (·.1)=false<|>qe_) :
  PE X (.Call (.Name x p) (e::es) [] pos) (Nq Tb E i t):=by
 intro pins s σ H Q I h;let⟨f,sp,hf,hTb,h⟩:=h;let⟨fd,ps,F,hk,hb⟩:=(hT f sp hTb).ok;refine y7 (bR (hv pins s σ H (λv H1=>v=.ref f/\H1=H) I {_,hf,rfl,rfl}) λu s1 z0=>?_);let⟨v,H1,I1,rv,ev,eH⟩:=z0;subst ev eH;obtain rfl:u=Value.ref f:=rv;refine wz (h₀:=X.base) I1.ok.mod.LW hk (bR (ha pos pins s1 σ _ _ I1 h) λus s2 z0=>?_) he hpl;let⟨vs,H2,I2,r,q⟩:=z0;refine{I2.iY,?_};exact E5 F hr hb .nil hx I2 r (by rw[zP];exact q)
end
def OX (sp:Sp) (t:TA) (C:wM) (th:TS):TS:=λD σ H=>t σ H λvs H1=>sp vs H1 (λv H2=>D.rt v H2) λcls _ H2=>cls=.ref C/\th D σ H2
section
variable {X:Cx} {k:Nat} {f:wM} {fd:wL} {ps:List Str} {sp:Sp} {fx cn:Str} {p pos cpos pa np hpos:Pos} {e₀:Expr} {es:List Expr} {t:TA} {C:wM} {bm:List wG} {newId:String} {b₀:Stmt} {suite:List Stmt} {th:TS}
def LC (F:bQ X.prog X.w X.K X.mg X.base (Eu X.prog X.w) k f fd ps sp) (hr:dw k X.A) (hg:Gl X fx) (hm:X.mg fx=some (.ref f)) (hk:PySem.W.keepIn X.K (.ref f)=true) (hb:Binds X.K fd ps []) (ha:PA X.Cp (e₀::es) t)
  (hc:X.calm=true) (hgc:Gl X cn) (hC0:PySem.W.nsIn X.K mainGlobals cn=some (some (.ref C))) (hQ0:PySem.W.excIn X.K C bm newId=true) (hbase:bm.contains (.type "BaseException")=true) (hstk:X.stack=X.env::X.outer) (hfrm:X.env.frame=some X.env.locals)
  (hsu:∀e,vM (X.held e).Cp (b₀::suite) th)
  (hdb:(fx == ("__debug__": Str))=false<|>qb_) (hdc:(cn == ("__debug__": Str))=false<|>qb_) (he:starEach (e₀::es) X.env=(false,eval e₀ X.env)::starEach es X.env<|>qe_) (hpl:(backTo cpos (starEach es X.env)).any (·.1)=false<|>qe_) :
  PS X (.Try [.Return (some (.Call (.Name fx p) (e₀::es) [] cpos)) pa] [.ExceptHandler (some (.Name cn np)) none (b₀::suite) hpos] [] [] pos) (OX sp t C th):=by
 intro pins s σ H D I h;let O:OwnCls cn C bm newId X.mg X.base:=jI X.prog I.ok.mod hC0 hQ0;refine wpAny_Try_except (wpAny_execs_cons ?_);refine wpAny_Return_some ?_;refine y7 (eD I hg hm ?_ hdb);let hA:wpAny (model X.prog X.w) X.A (spliced (backTo cpos (starEach (e₀::es) X.env))) (AP X.Cp pins σ _) (λ_ _=>False) s:=ha cpos pins s σ H _ (I.lR _) h;refine wz (h₀:=X.base) I.ok.mod.LW hk (yV hA (λus s1 z0=>?_) λ_ _ z=>z.elim) he hpl;let⟨vs,H1,I1',r,q⟩:=z0;refine{I1'.iY,?_};let I1:Inv X pins σ H1 s1:=I1'.eP;let hl:⇑us=⇑ps:=by rw[<-⇑r];exact F.len _ _ _ _ q
 refine wpAny_call (xx (F.run X.A X.stack s1 H1 {us,[]} us vs _ _ hr I1.HU (by have:=hb s1 us I1.iY (by rw[zP];exact hl);rw[zP] at this;exact this) r q) λrr s' hq=>?_);cases rr with
 | ok fl=>
  cases fl with
  | ret u=>
   let⟨v,H2,I2,r2,q2⟩:=I1.after hq;exact{v,σ,H2,I2,r2,q2}
  | next=>exact False.elim hq
  | brk=>exact False.elim hq
  | cont=>exact False.elim hq
 | error ev=>
  let⟨a,cls,a0,B,H',rfl,os,bare,fl,fly,⟨rfl,q2⟩⟩:=hq;let BD:∀b∈ic X.stack,H1 b=none:=I1.jz;let nf:∀{hh:wN},Heap.FunFrames hh B X.stack->∀b∈ic X.stack,∃o,hh.get? b=some o/\∀vs,o.data≠.fields vs:=λhF b hb=>(hF.mem hb).2;let back:∀(hh:wN),Ey X.prog X.w (ic X.stack) H1 H' s1.heap B hh->Inv X pins σ H' {s' with heap:=hh}:=λhh fy=>
   I1.GZ (s':={s' with heap:=hh}) (ch:=[]) os (fy.un BD) (fy.bf.kept fy.ik) bare λb z=>absurd z (by simp)
  let hfr:X.A.frames=some (X.env::X.outer):=by rw[<-hstk];exact I1.ok.frames
  refine wpAny_looks_onW hfr hfrm (by rw[<-hstk];exact fl) λh4 held4 up4=>?_;refine wpAny_landsW held4 λh5 fl5 up5=>?_;let fl5':Heap.FlyingW B X.stack a (.ref C) a0 h5:=by rw[hstk];exact fl5
  let fy5:Ey X.prog X.w (ic X.stack) H1 H' s1.heap B h5:=fly.on (up4.trans up5) fl5.1 (nf fl.2.2.1);let I5:=back h5 fy5;let⟨ob,hob,hobc⟩:=fl5'.there;let⟨tl,Nn,nm,qn,bs,hdct,sn,sub,ab,col,dd,k0,k1,k2,k3,k5,mN,hC,hN',hni,T⟩:=O.obj;refine wpAny_handleBy_cons (codeAny_handlers_test (eD (X:=X.held (.ref a)) (I5.held _) hgc O.bound ?_ hdc)) (by intro q;cases q);refine wpAny_excMatches_sub_self (I5.bk _ _ hC) hob hobc (T.hasType hbase) (codeAny_handlers_suite ?_);refine lands_againW fl5' λh6 fl6 up6=>?_;let fy6:Ey X.prog X.w (ic X.stack) H1 H' s1.heap B h6:=fy5.on up6 fl6.1 (nf fl5'.2.2.1);let I6:=back h6 fy6;refine yV (hsu (.ref a) pins _ σ H' D ((I6.held _).lR _) q2) (λfl s7 z=>?_) λ_ _ z=>z.elim;exact SP.iT I.ok.hd (SP.eP z)
end
section
variable {prog:wI} {w:wJ} {A:wK} {E:wG->wH->Prop} {s:wH}
def Jt (hd:(d == sysModules)=false) (ho:s.heap.get? d=some o) (hx:o.ExactDict) (hdat:o.data=.dict es ep)
  (hQ:Q (.ref ↑s) {s with heap:=s.heap.push {cls:=.type "dict_keyiterator",data:=.fields #[.ref d,.int 0 0,.int es.size 0,.int ep 0]}}) :
  wpAny (model prog w) A (pyIter (.ref d)) Q E s:=by
 let hT:s.TypeIs (.ref d) "dict":={(o),ho,hx.1}
 refine wpAny_pyIter_slot hT F.slot_dict_iter (yS F.slot_dict_iter hT F.entry_dict_iter ?_ (F.args_dict_iter_1 _));unfold Builtin.«dict.__iter__»;refine yi ?_;unfold Builtin.Dict.dictSlotNone;refine yi (wpAny_notOrdered_dict hT ?_);show wpAny _ _ (pure (Value.ref d)) _ _ s;refine yk ?_;show wpAny _ _ (Builtin.Dict.showsAll d >>= _) _ _ s;unfold Builtin.Dict.showsAll;rw[yD (by rw[hd];exact zG)];refine yi (yk ?_);refine yi (wpAny_dictEntries ho hdat ?_);refine yi (wpAny_dictEpoch ho hdat ?_);refine yi (yU (yk {_,rfl,"dict_keyiterator",_,{_,ym _ rfl,rfl},xD.lookup,?_}))
 simpa[rawInt] using hQ
def Ju (hit:s.heap.IsKeyIter it d i es.size ep)
  (hod:s.heap.get? d=some od) (hdd:od.data=.dict es ep) (hx:es[i]?=some e)
  (hQ:∀h',h'.IsKeyIter it d (i+1) es.size ep->Heap.SameBut it s.heap h'->Q (some e.key) {s with heap:=h'}) :
  wpAny (model prog w) A (pyNext (.ref it)) Q E s:=by
 let⟨o,ho,hc,hd⟩:=id hit;unfold pyNext;refine yi (wg (yO (name:=Str.ofString "__next__") hit.typeIs xD
  (yS xD hit.typeIs F.entry_dict_keyiterator_next ?_ (F.args_dict_keyiterator_next_1 _))))
 refine yi (yk ?_);refine yi ?_;refine yi ?_
 first | refine yi (xw hit.typeIs (yk ?_)) | refine yi (xR hit.typeIs (yk ?_))
 refine yi (wpAny_fieldsOf ho hd ?_);let hown:Builtin.Dict_items.ownsTuple "dict_keyiterator"= false:=by decide
 rw[hown,yD zG];show wpAny _ _ (if(Value.ref d == Value.none)=true then _ else _) _ _ s;rw[yD (show¬((Value.ref d == Value.none)=true) from zG)];refine yi (yk ?_);refine yi (wpAny_dictEntries hod hdd ?_);rw[yD (by simp)];refine yi (yk ?_);refine yi (wpAny_dictEpoch hod hdd ?_);rw[yD (by simp)];refine yk ?_;dsimp only;rw[yD (show¬((i:Int)<0) from by ext),xF,hx];dsimp only;refine yi ?_
 first | refine yi (xw hit.typeIs (yk ?_)) | refine yi (xR hit.typeIs (yk ?_))
 refine yi (wpAny_isOneOf_keyiter hit.typeIs ?_);show wpAny _ _ (setField (.ref it) 1 (rawInt ((i:Int)+1)) >>= _) _ _ s;refine yi (wpAny_setField ho hd (by simp) ?_);let hit':(s.heap.update it (Obj.mapFields (·.setIfInBounds 1 (rawInt ((i:Int)+1))))).IsKeyIter it d (i+1) es.size ep:=
  {_,yp _ ho (Obj.isFreed_of_fields (wA hd _)),(Obj.cls_mapFields ..).trans hc,by rw[wA hd];simp[rawInt]}
 refine yi (xm ?_);refine yi (wpAny_isOneOf_keyiter (s:={s with heap:=s.heap.update it (Obj.mapFields (·.setIfInBounds 1 (rawInt ((i:Int)+1))))}) hit'.typeIs ?_);show wpAny _ _ (pure e.key) _ _ _;exact yk (yk {_,rfl,yk (hQ _ hit' (wt ..))})
def Ly (hh:A.handled=none) (hit:s.heap.IsKeyIter it d i es.size ep)
  (hod:s.heap.get? d=some od) (hdd:od.data=.dict es ep) (hx:es.size<=i)
  (hQ:∀h',Heap.ExtBut it s.heap h'->Q none {s with heap:=h'}):wpAny (model prog w) A (pyNext (.ref it)) Q E s:=by
 let⟨o,ho,hc,hd⟩:=id hit;unfold pyNext;refine yi (wg (yO (name:=Str.ofString "__next__") hit.typeIs xD
  (yS xD hit.typeIs F.entry_dict_keyiterator_next ?_ (F.args_dict_keyiterator_next_1 _))))
 refine yi (yk ?_);refine yi ?_;refine yi ?_
 first | refine yi (xw hit.typeIs (yk ?_)) | refine yi (xR hit.typeIs (yk ?_))
 refine yi (wpAny_fieldsOf ho hd ?_);let hown:Builtin.Dict_items.ownsTuple "dict_keyiterator"= false:=by decide
 rw[hown,yD zG];show wpAny _ _ (if(Value.ref d == Value.none)=true then _ else _) _ _ s;rw[yD (show¬((Value.ref d == Value.none)=true) from zG)];refine yi (yk ?_);refine yi (wpAny_dictEntries hod hdd ?_);rw[yD (by simp)];refine yi (yk ?_);refine yi (wpAny_dictEpoch hod hdd ?_);rw[yD (by simp)];refine yk ?_;dsimp only;rw[yD (show¬((i:Int)<0) from by ext),xF,Array.getElem?_eq_none hx];dsimp only;refine yi ?_
 first | refine yi (xw hit.typeIs (yk ?_)) | refine yi (xR hit.typeIs (yk ?_))
 show wpAny _ _ (setField (.ref it) 0 .none >>= _) _ _ s;refine yi (wpAny_setField ho hd (by simp) ?_);show wpAny _ _ (newExc (.type "StopIteration") [] >>= _) _ _ _;refine yi ?_;simp only[newExc,newTuple];refine yi (yU ?_ (by size_fits));refine yi (m:=firstArgMember _ _) (wpAny_of_eq (a:=Value.none) (by first | rfl | (simp only[firstArgMember];rfl)) ?_);refine yU ?_ (by size_fits);simp only[raiseNew];refine yi (wpAny_handled ?_);rw[show A.in1.handled=none from hh];refine yi (yk (wpAny_throw ?_));refine yi (wpAny_isInstance (T:="StopIteration") (b:=true) {_,ym _ rfl,rfl} isSubtype_stop ?_);exact yk (hQ _ (((wt ..).extBut.push _).push _))
end
def KR (H:Hp) (d:wM) (o:Obj) (n:Nat) (kat:Hp->Nat->V->Prop):Prop:=∃u,H d=some (.kz o u)/\((∃kvs:List (Key×V),u=.dK kvs/\n=⇑kvs/\kat=λ_ i x=>∃p,kvs[i]?=some p/\x=kV p.1)\/
 ∃kvs:List (List Key×V),u=.dT kvs/\n=⇑kvs/\kat=λH i x=>∃p b,kvs[i]?=some p/\H b=some (.tup (p.1.map kV))/\x=.ref b)
theorem wO {K:Type} [DecidableEq K] {prog:wI} {w:wJ} {knd:KeyKind prog w K}:∀{es:List DictEntry} {kvs:List (K×wG)} {i:Nat} {e:DictEntry},PySem.Pairs knd es kvs->es[i]?=some e->∃kv,kvs[i]?=some kv/\knd.is kv.1 e.key=true/\e.val=kv.2
 | _,_,_,_,.nil,h=>by simp at h
 | _,_,0,_,.cons a b _,h=>by simp at h;subst h;exact{_,rfl,a,b}
 | _,_,i+1,_,.cons _ _ t,h=>by
  let⟨kv,h1,h2⟩:=wO (i:=i) t (by simpa using h);exact{kv,by simpa using h1,h2}
theorem jH:∀{l:List α} {m:List β} {i:Nat} {b:β},Paired F l m->m[i]?=some b->∃a,l[i]?=some a/\F a b
 | _,_,_,_,.nil,h=>by simp at h
 | _,_,0,_,.cons r _,h=>by simp at h;subst h;exact{_,rfl,r}
 | _,_,i+1,_,.cons _ t,h=>by
  let⟨a,h1,h2⟩:=jH (i:=i) t (by simpa using h);exact{a,by simpa using h1,h2}
section
variable {X:Cx} {pins:List (wM×Obj)} {σ:St} {H:Hp} {s:wH} {d:wM} {o:Obj} {n:Nat} {kat:Hp->Nat->V->Prop}
def KR.raw (f:KR H d o n kat) (I:Inv X pins σ H s):(d == sysModules)=false/\∃es ep,s.heap.get? d=some o/\o.ExactDict/\o.data=.dict es ep/\es.size=n/\∀i e,es[i]?=some e->∃x,RelV x e.key/\kat H i x:=by
 let⟨u,hH,hu⟩:=f;let⟨ho,ok⟩:=(show bu X.prog X.w H s.heap d (.kz o u) from I.bf d _ hH)
 rcases hu with⟨kvs,rfl,rfl,rfl⟩ | ⟨kvs,rfl,rfl,rfl⟩
 ·let⟨_,hd,vs,rel,o',es,ep,ho',hx,hdat,_,hp,_⟩:=ok
  let hl:es.size=⇑kvs:=by
   let h1:=⇑hp;let h2:⇑kvs=⇑vs:=xE rel;let h3:⇑es.toList=es.size:=yG;ext
  rw[ho] at ho';cases ho';refine{hd,es,ep,ho,hx,hdat,hl,λi e he=>?_};let⟨kv,h1,h2,_⟩:=wO hp (i:=i) (e:=e) (by rw[yY];exact he);let⟨p,h3,h4,_⟩:=jH rel h1;refine{kV p.1,?_,p,h3,rfl};rw[<-h4] at h2;rcases cj h2 with⟨j,t,e1,e2⟩ | ⟨y,t,e1,e2⟩
  ·rw[e1,e2];exact{(t),rfl}
  ·rw[e1,e2];exact{(t),rfl}
 ·let⟨_,hd,xs,rel,o',es,ep,ho',hx,hdat,he,_⟩:=ok
  let h3:⇑es.toList=es.size:=yG;let hl:es.size=⇑kvs:=by
   let h2:⇑kvs=⇑xs:=xE rel;rw[he,za] at h3;ext
  rw[ho] at ho';cases ho';refine{hd,es,ep,ho,hx,hdat,hl,λi e hi=>?_};rw[<-yY,he,zF] at hi;cases q:xs[i]? with
  | none=>rw[q] at hi;cases hi
  | some y=>
   rw[q] at hi;cases hi;let⟨p,h4,h5,h6,_⟩:=jH rel q;exact{.ref y.2.1,rfl,p,y.2.1,h4,h6,rfl}
end
noncomputable def RT (d:wM) (o:Obj) (n:Nat) (kat:Hp->Nat->V->Prop):It:={λi H=>KR H d o n kat/\i<n,λi H x H'=>H'=H/\kat H i x,λi H=>KR H d o n kat/\n<=i}
def Hh {P:wI} {w:wJ} {K:yq} {tg:Expr} (d it:wM) (n:Nat) (kat:Hp->Nat->V->Prop) (o:Obj) (es:Array DictEntry) (ep:Nat) (hdat:o.data=.dict es ep) (hn:es.size=n) :
  Turn P w K tg (RT d o n kat) [it] it (λi h=>h.IsKeyIter it d i n ep) where
 mem:=by simp
 obj:=λi h st b hb=>by
  let e:b=it:=by simpa using hb
  subst e;let⟨o,e,c,d⟩:=st;exact{o,e,λv z=>by rw[d] at z;cases z}
 keep:=λi h h' st k=>st.at λo e=>k it (by simp) o e
 item:=by
  intro X hP hw hK hc i pins s σ H E I hf st hg;subst hP hw hK hn;let⟨fz,hlt⟩:=hg;let⟨hd,es',ep',ho,hx,hdat',hsz,hk⟩:=fz.raw I;rw[hdat] at hdat';cases hdat';let⟨f0,f1,f2,f3,f4,f5⟩:=hf it (by simp);let he:es[i]?=some es[i]:=Array.getElem?_eq_getElem hlt;let⟨x,rx,kx⟩:=hk i _ he;refine Ju st ho hdat he λh' st' sb=>?_;let I1:Inv X pins σ H {s with heap:=h'}:=I.turned (t':=s.toks) (λb o hb e=>(sb.2 b hb).trans e) f0 f1 f3 f4 f5;let⟨oi,e,c,dd⟩:=id st';exact{_,rfl,Aa (s:={s with heap:=h'}) e c dd ∅ {x,H,I1,rx,{(rfl),kx},st',λb hb=>(hf b hb).1}}
 done:=by
  intro X hP hw hK hc i pins s σ H E I hf st hg;subst hP hw hK hn;let⟨fz,hge⟩:=hg;let⟨hd,es',ep',ho,hx,hdat',hsz,hk⟩:=fz.raw I;rw[hdat] at hdat';cases hdat';let⟨f0,f1,f2,f3,f4,f5⟩:=hf it (by simp);exact Ly (I.ok.hd hc) st ho hdat hge λh' eb=>{rfl,I.turned (t':=s.toks) (λb o hb e=>eb b o hb e) f0 f1 f3 f4 f5}
 self:=λ_ _ _ _ _ st h=>wpAny_pyIter_keyiter st h
def PD (td:TE):TI:=λσ H R=>td σ H λx H1=>∃d o n kat,x=.ref d/\KR H1 d o n kat/\R (RT d o n kat) H1
section
variable {X:Cx} {tg l:Expr} {tl:TE}
def LG (hl:PE X l tl):PI X tg l (PD tl):=by
 intro pins s σ H R I h;refine bR (hl pins s σ H _ I h) λv s1 z0=>?_;let⟨x,H1,I1,r1,q1⟩:=z0;let⟨d,o,n,kat,e,fz,q⟩:=q1;subst e;cases r1;let⟨hd,es,ep,ho,hx,hdat,hsz,hk⟩:=fz.raw I1;refine Jt hd ho hx hdat ?_;refine{↑s1,[↑s1],_,_,H1,rfl,I1.kept (t':=s1.toks) λb o e=>yj _ e,Hh d _ n kat o es ep hdat hsz,{_,ym _ rfl,rfl,by rw[hsz];rfl},λb hb=>?_,q};let e:b=↑s1:=by simpa using hb
 subst e;exact I1.tw (zh _) (I1.bf.fresh (zh _))
end
def Ge (H:Hp) (d:wM) (o:Obj) (kvs:List (Key×V)):Prop:=H d=some (.kz o (.dK kvs))
noncomputable def KQ (d:wM) (o:Obj) (kvs:List (Key×V)):It:={λi H=>Ge H d o kvs/\i<⇑kvs,λi H x H'=>H'=H/\∃p,kvs[i]?=some p/\x=p.2,λi H=>Ge H d o kvs/\⇑kvs<=i}
section
variable {X:Cx} {pins:List (wM×Obj)} {σ:St} {H:Hp} {s:wH} {d:wM} {o:Obj} {kvs:List (Key×V)}
def Ge.at' (f:Ge H d o kvs) (I:Inv X pins σ H s):(d == sysModules)=false/\∃vs es ep,KV kvs vs/\o.data=.dict es ep/\s.heap.DictAt (b9 X.prog X.w) d vs ep:=by
 let⟨ho,ok⟩:=(show bu X.prog X.w H s.heap d (.kz o (.dK kvs)) from I.bf d _ f)
 let⟨_,hd,vs,rel,o',es,ep,ho',hx,hdat,hk,hp,nd⟩:=ok;rw[ho] at ho';cases ho';exact{(hd),vs,es,ep,rel,hdat,o,es,ho,hx,hdat,hk,hp,nd}
end
def Cu {P:wI} {w:wJ} {K:yq} {tg:Expr} (d it:wM) (o:Obj) (kvs:List (Key×V)) (es:Array DictEntry) (ep:Nat) (hdat:o.data=.dict es ep) :
  Turn P w K tg (KQ d o kvs) [it] it (λi h=>h.IsValIter it d i ⇑kvs ep) where
 mem:=by simp
 obj:=λi h st b hb=>by
  let e:b=it:=by simpa using hb
  subst e;let⟨o,e,c,d⟩:=st;exact{o,e,λv z=>by rw[d] at z;cases z}
 keep:=λi h h' st k=>st.at λo e=>k it (by simp) o e
 item:=by
  intro X hP hw hK hc i pins s σ H E I hf st hg;subst hP hw hK;let⟨fz,hlt⟩:=hg;let⟨hd,vs,es',ep',rel,hdat',da⟩:=fz.at' I;rw[hdat] at hdat';cases hdat';let⟨f0,f1,f2,f3,f4,f5⟩:=hf it (by simp);let hl:⇑kvs=⇑vs:=xE rel;let hi:vs[i]?=some (vs[i]'()):=zb ();let⟨p,h3,h4,h5⟩:=jH rel hi;refine wpAny_pyNext_values_item (by rw[<-hl];exact st) da hi λh' st' sb=>?_;let I1:Inv X pins σ H {s with heap:=h'}:=I.turned (t':=s.toks) (λb o hb e=>(sb.2 b hb).trans e) f0 f1 f3 f4 f5;let⟨oi,e,c,dd⟩:=id st';exact{_,rfl,Aa (s:={s with heap:=h'}) e c dd ∅ {p.2,H,I1,h5,{(rfl),p,h3,rfl},by rw[hl];exact st',λb hb=>(hf b hb).1}}
 done:=by
  intro X hP hw hK hc i pins s σ H E I hf st hg;subst hP hw hK;let⟨fz,hge⟩:=hg;let⟨hd,vs,es',ep',rel,hdat',da⟩:=fz.at' I;rw[hdat] at hdat';cases hdat';let⟨f0,f1,f2,f3,f4,f5⟩:=hf it (by simp);let hl:⇑kvs=⇑vs:=xE rel;exact wpAny_pyNext_values_end (I.ok.hd hc) (by rw[<-hl];exact st) da (by simp;ext) λh' eb=>{rfl,I.turned (t':=s.toks) (λb o hb e=>eb b o hb e) f0 f1 f3 f4 f5}
 self:=λ_ _ _ _ _ st h=>wpAny_pyIter_valiter st h
def L3 (td:TE):TI:=λσ H R=>td σ H λx H1=>∃d o kvs,x=.ref d/\Ge H1 d o kvs/\R (KQ d o kvs) H1
section
variable {X:Cx} {tg l:Expr} {tl:TE} {apos cpos:Pos}
def HD (hl:PE X l tl) (hbase:attributeBase l "values" X.env (eval l X.env)=eval l X.env<|>qe_) (hline:(apos.endLine == cpos.line)=true<|>qe_):PI X tg (.Call (.Attribute l "values" apos) [] [] cpos) (L3 tl):=by
 intro pins s σ H R I h;refine wpAny_Call_method0_late hbase hline (bR (hl pins s σ H _ I h) λv s1 z0=>?_);let⟨x,H1,I1,r1,q1⟩:=z0;let⟨d,o,kvs,e,fz,q⟩:=q1;subst e;cases r1;let⟨hd,vs,es,ep,rel,hdat,da⟩:=fz.at' I1;refine{"dict","dict.values",F.plainAttrs_dict,F.slot_dict_values,F.type_dict_values,da.dictOf.typeIs,da.dictOf.mapOf.noDict,wb rfl (PySem.evalArgs_none ?_)};refine call_meetsIn F.slot_dict_values da.dictOf.typeIs F.entry_dict_values (F.args_dict_values_1 _) (meets_dict_values (b9 X.prog X.w) d hd) {{(vs),da.dictOf},?_};let I2:Inv X pins σ H1 {s1 with heap:=s1.heap.push {cls:=.type "dict_values",data:=.fields #[.ref d]}}:=I1.kept (t':=s1.toks) λb o e=>yj _ e;let⟨_,vs2,es2,ep2,rel2,hdat2,da2⟩:=fz.at' I2;rw[hdat] at hdat2;cases hdat2;let hl2:⇑kvs=⇑vs2:=xE rel2;refine wpAny_pyIter_values (knd:=b9 X.prog X.w) {_,ym _ rfl,rfl,rfl} da2 ?_;refine{_,[_],_,_,H1,rfl,I2.kept (t':=s1.toks) λb o e=>yj _ e,Cu d _ o kvs es ep hdat,{_,ym _ rfl,rfl,by rw[hl2];rfl},λb hb=>?_,q};rw[zu.mp hb];exact I2.tw (zh _) (I2.bf.fresh (zh _))
end
def Fw {d:wM} {o:Obj} {kvs:List (Key×V)} {g:TG} {tb:TS} {D:Ends} {σ:St} {H:Hp} (Pv:Nat->St->Hp->Prop) (h0:Pv 0 σ H) (hf:∀i σ H,i<=⇑kvs->Pv i σ H->Ge H d o kvs)
  (hs:∀i p σ H,kvs[i]?=some p->Pv i σ H->g p.2 σ H λσ2 H2=>tb {D with nx:=Pv (i+1),ct:=Pv (i+1),bk:=D.nx} σ2 H2) (hd:∀σ H,Pv ⇑kvs σ H->D.nx σ H) :
  ∃W:Nat->Nat->St->Hp->Prop,(∃m,W 0 m σ H)/\∀i m σ H,W i m σ H->
   ((KQ d o kvs).stop i H/\D.nx σ H)\/((KQ d o kvs).go i H/\∃Nn:St->Hp->Prop,(∀σ' H',Nn σ' H'->∃m',m'<m/\W (i+1) m' σ' H')/\∀v H',(KQ d o kvs).Gg i H v H'->g v σ H' λσ2 H2=>tb {D with nx:=Nn,ct:=Nn,bk:=D.nx} σ2 H2):=by
 refine{λi m σ H=>m=⇑kvs-i/\i<=⇑kvs/\Pv i σ H,{⇑kvs,by simp,zX _,h0},?_};rintro i m σ H ⟨rfl,hi,pv'⟩;rcases xl i ⇑kvs with hlt | hge
 ·refine .inr {{hf i σ H hi pv',hlt},Pv (i+1),λσ' H' p'=>{⇑kvs-(i+1),(),rfl,hlt,p'},λv H' y=>?_}
  let⟨e1,p,hp,e2⟩:=y;rw[e1,e2];exact hs i p σ H hp pv'
 ·let e:i=⇑kvs:=()
  subst e;exact .inl {{hf _ σ H hi pv',zh _},hd σ H pv'}
noncomputable def PB:HO->Bool
 | .dK _=>true
 | .dT _=>true
 | _=>false
def bQ.My {P:wI} {w:wJ} {K:yq} {mg:Str->Option wG} {base:wN} {k:Nat} {f:wM} {fd:wL} {ps:List Str} {sp sp':Sp} (F:bQ P w K mg base uz k f fd ps sp) (len:∀vs H Q E,sp' vs H Q E->⇑vs=⇑ps)
  (h:∀vs H Q E,sp' vs H Q E->∃d u,H d=some u/\PB u=true/\∀o,sp vs (upd H d (.kz o u)) (λv H'=>Q v (upd H' d u)) E):bQ P w K mg base uz k f fd ps sp':=by
 refine{len,λA outer s H args us vs Q E hr e hb hv hs=>?_};let⟨d,u,hd,hu,hsp⟩:=h vs H Q E hs;let okd:=e.bf d u hd;let⟨o,ho⟩:=okd.here;let nt:∀xs,u≠.tup xs:=λxs z=>by rw[z] at hu;cases hu
 let no:∀x,u≠.own x:=λx z=>by rw[z] at hu;cases hu
 let nf:∀a b,u≠.kz a b:=λa b z=>by rw[z] at hu;cases hu
 let nb:∀a,u≠.IY a:=λa z=>by rw[z] at hu;cases hu
 let off:∀b,H b=none->b≠d:=λb n z=>by rw[z,hd] at n;cases n
 let tup1:∀b xs,H b=some (.tup xs)->upd H d (.kz o u) b=some (.tup xs):=λb xs q=>by rw[ar (λz=>by rw[z,hd] at q;exact nt xs (ya q))];exact q
 let own1:∀b x,H b=some (.own x)->upd H d (.kz o u) b=some (.own x):=λb x q=>by rw[ar (λz=>by rw[z,hd] at q;exact no x (ya q))];exact q
 let e1:Et P w K mg base A outer s (upd H d (.kz o u)):=by
  refine{e.frames,e.mod,λb ob q=>{(e.bs b ob q).1,by rw[ar (off b (e.bs b ob q).2)];exact(e.bs b ob q).2},e.IE,e.kZ,λb hb=>by rw[ar (off b (e.BD b hb))];exact e.BD b hb,λb ub q=>?_,e.bare}
  by_cases hbd:b=d
  ·subst hbd
   rw[aA] at q;cases q;exact{ho,okd.ik (λ_ _ _ z=>z) (λc z=>own1 c _ z) tup1}
  ·rw[ar hbd] at q
   exact(e.bf b ub q).ik (λ_ _ _ z=>z) (λc z=>own1 c _ z) tup1
 refine xx (F.run A outer s _ args us vs _ E hr e1 hb hv (hsp o)) λr s' hq=>?_;cases r with
 | error x=>exact hq
 | ok fl=>
  cases fl with
  | next=>exact hq
  | brk=>exact hq
  | cont=>exact hq
  | ret uv=>
   let⟨v,H',os,bare,un,bf,rv,q⟩:=hq;let hd':H' d=some (.kz o u):=un.ji d o u aA;let off1:∀b,H b=none->upd H d (.kz o u) b=none:=λb n=>by rw[ar (off b n)];exact n
   let back:∀b z,H b=some z->b≠d->upd H d (.kz o u) b=some z:=λb z q n=>by rw[ar n];exact q
   refine{v,upd H' d u,os,bare,{λb ob q n hb hx=>un.keep b ob q (off1 b n) hb hx,λb ob q n hb hx=>un.slot b ob q (off1 b n) hb hx,λb ob q n hx=>by rw[ar (off b n)];exact un.free b ob q (off1 b n) hx,un.there,
    λb xs q=>?_,λb ob uu q=>?_,λb ps' q=>?_},λb ub q=>?_,rv,q}
   ·let n:b≠d:=λz=>by rw[z,hd] at q;exact nt xs (ya q)
    rw[ar n];exact un.ko b xs (back b _ q n)
   ·let n:b≠d:=λz=>by rw[z,hd] at q;exact nf ob uu (ya q)
    rw[ar n];exact un.ji b ob uu (back b _ q n)
   ·let n:b≠d:=λz=>by rw[z,hd] at q;exact nb ps' (ya q)
    let⟨m,z⟩:=un.kr b ps' (back b _ q n);exact{m,by rw[ar n];exact z}
   ·let own2:∀c x,H' c=some (.own x)->upd H' d u c=some (.own x):=λc x z=>by rw[ar (λy=>by rw[y,hd'] at z;cases z)];exact z
    let tup2:∀c xs,H' c=some (.tup xs)->upd H' d u c=some (.tup xs):=λc xs z=>by rw[ar (λy=>by rw[y,hd'] at z;cases z)];exact z
    by_cases hbd:b=d
    ·subst hbd
     rw[aA] at q;cases q;let⟨_,ok'⟩:=(show bu P w H' s'.heap b (.kz o u) from bf b _ hd')
     exact ok'.ik (λ_ _ _ z=>z) (λc z=>own2 c _ z) tup2
    ·rw[ar hbd] at q
     exact(bf b ub q).ik (λ_ _ _ z=>z) (λc z=>own2 c _ z) tup2
noncomputable def C1 (σ:List Str) (x:Str):List Str:=if x∈σ then σ else σ++[x]
noncomputable def fJ (l:List Str):List Str:=l.foldl C1 []
def DT (l:List Str):⇑(fJ l)<=⇑l/\(⇑(fJ l)=⇑l↔l.Nodup):=by
 let key:∀(l σ:List Str),σ.Nodup->⇑(l.foldl C1 σ)<=⇑σ+⇑l/\(⇑(l.foldl C1 σ)=⇑σ+⇑l↔(σ++l).Nodup):=by
  intro l
  induction l with
  | nil=>intro σ h;simp[h]
  | cons x l ih=>
   intro σ h;rw[List.foldl_cons,zo]
   by_cases hx:x∈σ
   ·rw[show C1 σ x=σ from yE hx]
    have:=ih σ h;refine{(),{λe=>(),λe=>?_}};exact absurd hx (λz=>(zN.mp e).2.2 x z x zk rfl)
   ·rw[show C1 σ x=σ++[x] from yD hx]
    let hn:(σ++[x]).Nodup:=zN.mpr {h,by simp,λa ha b hb e=>by rw[zu.mp hb] at e;exact hx (e▸ha)};have:=ih (σ++[x]) hn;rw[ze,List.length_singleton,zA,List.singleton_append] at this;exact{(),{λe=>this.2.mp (),λe=>by have:=this.2.mpr e;ext}}
 have:=key l [] xH
 simpa[fJ] using this
def sub_tuple_set:isSubtype (.type "tuple") (.type "set")=pure false:=by rw[isSubtype_type];kernel_rfl
def sub_tuple_frozenset:isSubtype (.type "tuple") (.type "frozenset")=pure false:=by rw[isSubtype_type];kernel_rfl
section
variable {prog:wI} {w:wJ}
def Jd {A:wK} {R:Result->wH->Prop} {I:wM} {fp wr:List wM} {G:Array GenState->Array GenState->Prop} {n:Nat} {P:Nat->wG->Prop} {St:Nat->wH->Prop} (W:WalksS prog w A.in1 I fp wr G n P St) (S:wM) (hSf:S∉fp)
  (zs:List Str) (hn:n=⇑zs) (hval:∀i v,P i v->∃z t,zs[i]?=some z/\v=.str z t) (hb:n+1<scanBound) :
  ∀(k i:Nat) (s:wH),n-i=k->i<=n->St i s->s.heap.SetOf (PySem.strKind prog w) S (λx=>decide (x∈fJ (zs.take i))) ⇑(fJ (zs.take i))->
   (∀s',Moved (S::wr) G s s'->s'.heap.SetOf (PySem.strKind prog w) S (λx=>decide (x∈fJ zs)) ⇑(fJ zs)->R (.ok (.ret .none)) s')->
   codeAny (model prog w) A (.builtin "set.update.loop" {[.ref S,.ref I],[]}) R s:=by
 let hSw:S∉wr:=λh=>hSf (W.sub _ h);let hsub:∀b∈wr,b∈S::wr:=λb hb=>zj _ hb;intro k
 induction k with
 | zero=>
  intro i s hk hi hst hS hR;let hin:i=n:=()
  subst hin;rw[hn,zI] at hS;refine xB F.entry_set_update_loop ?_;rw[Around.under_plainId F.plain_set_update_loop _];show wpAny _ A.in1 (pyNext (.ref I) >>= _) _ _ s;refine yi (W.done s _ _ hst λs' hm=>?_);let⟨o,es,ep,t,ho,rest⟩:=hS;exact yk (hR s' (hm.mono hsub) {o,es,ep,t,hm.heap S _ hSw ho,rest})
 | succ k ih=>
  intro i s hk hi hst hS hR;let hlt:i<n:=()
  refine xB F.entry_set_update_loop ?_;rw[Around.under_plainId F.plain_set_update_loop _];show wpAny _ A.in1 (pyNext (.ref I) >>= _) _ _ s;refine yi (W.item i s _ _ hlt hst λv s' hP hst' hm=>?_);let⟨z,t,hz,rfl⟩:=hval i v hP;let⟨o,es,ep,tb,ho,rest⟩:=hS;let hS':s'.heap.SetOf (PySem.strKind prog w) S (λx=>decide (x∈fJ (zs.take i))) ⇑(fJ (zs.take i)):={o,es,ep,tb,hm.heap S _ hSw ho,rest}
  show wpAny _ A.in1 (holding [Value.str z t] (setAdd S (.str z t)) >>= _) _ _ s';refine yi (xm ?_);unfold setAdd;refine xm ?_;refine yi ((PySem.strKind prog w).pyHash (k:=z) (strKind_is _ _ _ _) ?_);let hl:=(DT (zs.take i)).1;rw[zL] at hl;refine wpAny_setAddHashed_of (knd:=PySem.strKind prog w) (s:={s' with toks:=s'.toks+1}) (strKind_is _ _ _ _) rfl hS' () λh' hsb hS2=>?_;let et:zs.take (i+1)=zs.take i++[z]:=by rw[List.take_succ,hz];rfl
  let ed:fJ (zs.take (i+1))=C1 (fJ (zs.take i)) z:=by rw[et];unfold fJ;rw[zQ];rfl
  let hSi:h'.SetOf (PySem.strKind prog w) S (λx=>decide (x∈fJ (zs.take (i+1)))) ⇑(fJ (zs.take (i+1))):=by
   refine SetOf_congr hS2 (λx=>?_) ?_
   ·rw[ed]
    unfold C1
    by_cases hx:z∈fJ (zs.take i)
    ·rw[yE hx]
     by_cases e:x=z
     ·subst e;simp[hx]
     ·simp[e]
    ·rw[yD hx];simp[zB]
   ·rw[ed]
    unfold C1
    by_cases hx:z∈fJ (zs.take i) <;> simp[hx]
  refine yk {plainId_quiet F.plain_set_update_loop _,ih (i+1) _ () hlt (W.frame _ s' _ _ hst' (xG _) λb hb o e=>?_) hSi λs'' hm'' hS''=>?_}
  ·rw[hsb.2 b (λh:b=S=>hSf (by rw[<-h];exact hb))];exact e
  ·refine hR s'' (Moved.trans W.gtrans ((hm.mono hsub).then_heap (xG _) λb o hb e=>?_) hm'') hS''
   rw[hsb.2 b (λh:b=S=>hb (by rw[h];exact zk))];exact e
variable {A:wK} {E:wG->wH->Prop} {s:wH}
def EV {l:wM} {items:Array wG} {zs:List Str} {Q:wG->wH->Prop} (hh:A.handled=none) (hl:IsTup s.heap l items) (hi:∀(i:Nat) (v:wG),items[i]?=some v->∃z t,zs[i]?=some z/\v=.str z t) (hn:items.size=⇑zs) (hb:items.size+1<scanBound)
  (h:∀(h':wN) (tk:Nat),h'.SetOf (PySem.strKind prog w) ↑s (λx=>decide (x∈fJ zs)) ⇑(fJ zs)->(∀b o,b<↑s->s.heap.get? b=some o->h'.get? b=some o)->Q (.ref ↑s) {s with heap:=h',toks:=tk}) :
  wpAny (model prog w) A (call (.type "set") [.ref l]) Q E s:=by
 let⟨c,tl,hmro⟩:=F.called_set.mro;let hmade:=F.called_set.made;let hsub:=F.called_set.sub;refine wpAny_call (codeAny_of_tree ?_);show wpAny _ _ (callAny (.type "set") _) _ _ _;refine yk {Code.quiet_builtin _ (by decide +kernel),xB F.entry_type_call ?_};rw[Around.under_plain (weight_type_call_type "set" [.ref l] []) rfl];let h1:=F.called_set.notType;let h2:=F.called_set.canCreate;let hct:=F.typeCall_set_1 (.ref l)
 repeat (any_goals (first | assumption | wp_step))
 letI fresh:Bool->Obj:=λled=>{cls:=.type "set",dict:=none,data:=.set #[] 0 (.fresh 0 0 led)}
 refine xx (code_set_new_1 (.ref l) (E:=E) (Q₁:=λobj s₁=>∃led:Bool,obj=.ref ↑s/\s₁={s with heap:=s.heap.push (fresh led)}) λled=>{(led),rfl,rfl}) λr s₁ hr=>?_;cases r with
 | error e=>exact hr
 | ok fl=>
  cases fl with
  | next=>exact hr.elim
  | brk=>exact hr.elim
  | cont=>exact hr.elim
  | ret obj=>
   let⟨led,rfl,rfl⟩:=hr;let hS:(s.heap.push (fresh led)).get? ↑s=some (fresh led):=ym _ rfl;let hT:Shared.TypeIs {s with heap:=s.heap.push (fresh led)} (.ref ↑s) "set":={_,hS,rfl}
   let hli:=F.called_set.init.lookup;let hbi:=F.called_set.init.bind (.ref ↑s)
   repeat (any_goals (first | assumption | wp_step))
   refine xx (codeAny_call_builtin (R:=wants (λr s₂=>r=.none/\∃h' tk,s₂={s with heap:=h',toks:=tk}/\h'.SetOf (PySem.strKind prog w) ↑s (λx=>decide (x∈fJ zs)) ⇑(fJ zs)/\
     (∀b o,b<↑s->s.heap.get? b=some o->h'.get? b=some o)) E) F.called_set.init.plain F.entry_set_init (check_set_init_1 hT ?_)) λr₂ s₂ hr₂=>?_
   ·let⟨⟨ocls,odict,odata,oslots⟩,hol,hcl,nl,hdl⟩:=hl
    simp only at hcl hdl;subst hcl hdl;let hol':(s.heap.push (fresh led)).get? l=some {cls:=.type "tuple",dict:=odict,data:=.seq items nl,slots:=oslots}:=yj _ hol;let hsls:=sub_tuple_set;let hslf:=sub_tuple_frozenset;let hne:(Value.type "tuple"== Value.type "dict")=false:=by decide
    let hl1:(s.heap.push (fresh led)).IsTuple l items:={_,hol',rfl,nl,rfl}
    unfold Builtin.«set.__init__» noKeywords Builtin.Frozenset.updateFrom;generalize hPI:pyIter=PI;wp_walk;subst hPI;refine wpAny_pyIter_tuple hl1 ?_;refine yi (wpAny_runValue ?_);let hlS:l<↑s:=yn hol;let hh3:A.in1.in1.in1.handled=none:=by simp[hh]
    let hz:(s.heap.push (fresh led)).objs.size=↑s+1:=yZ ..;let hSf:↑s∉[(s.heap.push (fresh led)).objs.size,l]:=by
     rw[hz];simp only[zy,zz,yK,not_or];exact{z9 (xt _),zZ hlS}
    refine Jd ((Walks.tuple hh3 _ l (by rw[hz];exact z9 (wa hlS)) items).toS) ↑s hSf zs hn hi hb (items.size-0) 0 _ () (zX _)
     {{_,ym _ rfl,rfl,rfl},(hl1.push _)} ?hS0 ?hR
    case hS0=>
     exact SetOf_congr ((setObjOf_fresh (knd:=PySem.strKind prog w) led).setOf (yj _ hS) (by unfold scanBound;ext)) (λ_=>rfl) rfl
    case hR=>
     intro s' hm hS';let⟨h',g',d',tk',os'⟩:=s';let eg:g'=s.gens:=hm.gens;let ed:d'=s.drawn:=hm.drawn;let eo:os'=s.os:=hm.os;subst eg ed eo;refine yk (yk {rfl,h',tk',rfl,hS',λb o hb e=>?_});refine hm.heap b o ?_ (yj _ (yj _ e));simp only[zy,zz,yK,not_or];exact{z9 hb,by rw[hz];exact z9 (wa hb)}
   ·cases r₂ with
    | error e=>exact hr₂
    | ok fl₂=>
     cases fl₂ with
     | next=>exact hr₂.elim
     | brk=>exact hr₂.elim
     | cont=>exact hr₂.elim
     | ret r=>
      let⟨rfl,h',tk,rfl,hS',hk'⟩:=hr₂
      repeat (any_goals (first | assumption | wp_step))
      exact h _ _ hS' hk'
end
noncomputable def Es (a:wM) (n:Nat):HO:=.ext λh=>∃o es ep t,h.get? a=some o/\o.ExactSet/\o.data=.set es ep t/\t.fits es.size=true/\es.size=n
section
variable {X:Cx}
def Ih (hc:X.calm=true):dI X (.type "set") (λxs H Q=>∃(a:wM) (zs:List Str),xs=[.ref a]/\bK X.K H a (zs.map V.str)/\⇑zs<=1000/\∀p,H p=none->Q (.ref p) (upd H p (Es p ⇑(fJ zs)))):=by
 intro pins s σ H xs us Q I r h;let⟨a,zs,rfl,hq,hz,q⟩:=h;let⟨u,rfl,rx⟩:=vals1 r;cases rx;let⟨its,rv,p,_⟩:=I.tuple hq;let hl:⇑zs=⇑its:=by have:=⇑rv;rw[za] at this;exact this
 refine EV (zs:=zs) (I.ok.hd hc) p (λi v hv=>?_) (by rw[zS,hl]) (by rw[zS];unfold scanBound;ext) λh' tk hS hk=>?_
 ·let hv':its[i]?=some v:=by simpa using hv
  let hi:i<⇑its:=(zt.mp hv').1;let⟨z,t,e1,e2⟩:=I0 rv hi;have:=(zt.mp hv').2;exact{z,t,e1,by rw[<-this,e2]}
 ·let⟨o,es,ep,t,ho,hex,hd,hel,hmem,hb,hf,hn⟩:=hS
  refine{.ref _,_,I.laid (t':=tk) (a:=↑s) (o:=Es ↑s ⇑(fJ zs)) (λb ob e=>hk b ob (yn e) e) (zh _) ?_,rfl,q _ (I.bf.fresh (zh _))};exact{{(o),es,ep,t,ho,hex,hd,hf,hn},{(o),ho},λh1 h2 ⟨o,es,ep,t,e1,r⟩ kk=>{o,es,ep,t,kk o e1,r}}
def Ii:dI X (.builtin "len") (λxs H Q=>∃(p:wM) (n:Nat),xs=[.ref p]/\H p=some (Es p n)/\n<=1000/\Q (.int n) H):=by
 intro pins s σ H xs us Q I r h;let⟨p,n,rfl,hp,hn,q⟩:=h;let⟨u,rfl,rx⟩:=vals1 r;cases rx;let⟨⟨o,es,ep,t,ho,hex,hd,hf,rfl⟩,_⟩:=(show bu X.prog X.w H s.heap p (Es p n) from I.bf p _ hp)
 exact call_len_set ho hex hd hf () {.int _,H,I.tok _,{_,rfl},q}
end
noncomputable def MI:V->Bool
 | .aX=>true
 | .int _=>true
 | .str _=>true
 | _=>false
def C5 (h:MI x=true):lg x=true:=by cases x <;> first | rfl | cases h
def NI {x y:V} (a:MI x=true) (b:MI y=true):Mb x y=decide (x=y):=by
 cases x <;> first | cases a;done | skip
 all_goals (cases y <;> first | rfl | exact BK.symm | exact BI.symm | cases b)
def RP (K:yq) (H:Hp) (a b:wM) (xs ys:List V):Prop:=(aE K H a xs/\aE K H b ys)\/(bK K H a xs/\bK K H b ys)
def RG (xs ys:List V):Prop:=xs=[]\/ys=[]\/(xs.all MI=true/\ys.all MI=true)
inductive Q3 (K:yq) (x y:V) (H:Hp) (Q:VK):Prop
 | mk (a b:wM) (xs ys:List V) (_:x=.ref a) (_:y=.ref b) (_:RP K H a b xs ys) (_:RG xs ys) (_:Q (.bl (decide (xs=ys))) H)
inductive Pf (K:yq) (x y:V) (H:Hp) (Q:VK):Prop
 | mk (a b:wM) (xs ys:List V) (_:x=.ref a) (_:y=.ref b) (_:RP K H a b xs ys) (_:RG xs ys) (_:Q (.bl (!decide (xs=ys))) H)
def Gm (r:Vals xs its) (h:j<⇑its):∃x,xs[j]?=some x/\RelV x its[j]:=by
 let hl:=⇑r;let⟨u,hu,ru⟩:=r.get (i:=j) (x:=xs[j]'()) (zb ());rw[zb h] at hu;cases hu;exact{_,zb (),ru}
section
variable {X:Cx}
def BE (r:Vals xs its) (r':Vals ys jts) (p:RG xs ys):∀j (h1:j<its.toArray.size) (h2:j<jts.toArray.size),SeqAt.EqAt A s its.toArray[j] jts.toArray[j] (decide (xs[j]?=ys[j]?)):=by
 intro j h1 h2;let h1':j<⇑its:=by simpa using h1
 let h2':j<⇑jts:=by simpa using h2
 let⟨x,ex,rx⟩:=Gm r h1';let⟨y,ey,ry⟩:=Gm r' h2';let l1:=⇑r;let l2:=⇑r';let hp:MI x=true/\MI y=true:=by
  rcases p with e | e | ⟨q1,q2⟩
  ·rw[e] at ex;simp at ex
  ·rw[e] at ey;simp at ey
  ·exact{ye.mp q1 x (zw ex),ye.mp q2 y (zw ey)}
 let g1:its.toArray[j]=its[j]:=by simp
 let g2:jts.toArray[j]=jts[j]:=by simp
 let z:=Kp (A:=A) (s:=s) rx ry (C5 hp.1) (C5 hp.2);rw[NI hp.1 hp.2] at z;let e:decide (xs[j]?=ys[j]?)=decide (x=y):=by rw[ex,ey,xp];simp
 rw[g1,g2,e];exact z
def all_eq {xs ys:List V} (h:⇑xs=⇑ys):((List.range ⇑xs).all λj=>decide (xs[j]?=ys[j]?))=decide (xs=ys):=by
 rw[xp,ye,decide_eq_true_eq];constructor
 ·intro hh
  refine List.ext_getElem? λj=>?_;rcases xl j ⇑xs with hj | hj
  ·exact zV (hh j (yH.mpr hj))
  ·rw[wc hj,wc ()]
 ·intro hh j _
  rw[hh];exact zd rfl
def Br {xs ys:List V} (h:⇑xs≠⇑ys):decide (xs=ys)=false:=zc λe=>h (by rw[e])
def Fh (hu:X.A.units+64<cLine):mV X (compareOp .Eq) (Q3 X.K):=by
 intro pins s σ H x y v u Q I rx ry h;let⟨a,b,xs,ys,rfl,rfl,hs,pl,q⟩:=h;cases rx;cases ry;rcases hs with⟨ha,hb⟩ | ⟨ha,hb⟩
 ·let⟨its,r,p,_⟩:=I.list ha
  let⟨jts,r',p',_⟩:=I.list hb;let l1:=⇑r;let l2:=⇑r'
  by_cases hl:⇑xs=⇑ys
  ·let z:=SeqAt.RcAt.lists (A:=X.A) (s:=s) p.isList p'.isList (by rw[zS,zS];ext) () (BE r r' pl)
   rw[zS,<-l1,all_eq hl] at z;exact z _ _ _ _ {.bl _,H,I,rfl,q}
  ·let z:=SeqAt.RcAt.lists_lengths (A:=X.A) (s:=s) p.isList p'.isList (by rw[zS,zS];simp;ext) ()
   rw[Br hl] at q;exact z _ _ _ _ {.bl false,H,I,rfl,q}
 ·let⟨its,r,p,_⟩:=I.tuple ha
  let⟨jts,r',p',_⟩:=I.tuple hb;let l1:=⇑r;let l2:=⇑r';let z:=SeqAt.RcAt.tuples (A:=X.A) (s:=s) p p' () (BE r r' pl);rw[zS,zS,<-l1,<-l2] at z
  by_cases hl:⇑xs=⇑ys
  ·let em:min ⇑xs ⇑ys=⇑xs:=()
   rw[em,all_eq hl,hl,xM,Bool.and_true] at z;exact z _ _ _ _ {.bl _,H,I,rfl,q}
  ·rw[show(⇑xs == ⇑ys)=false by simpa using hl,x8] at z
   rw[Br hl] at q;exact z _ _ _ _ {.bl false,H,I,rfl,q}
def Bd (hu:X.A.units+64<cLine):mV X (compareOp .NotEq) (Pf X.K):=by
 intro pins s σ H x y v u Q I rx ry h;let⟨a,b,xs,ys,rfl,rfl,hs,pl,q⟩:=h;cases rx;cases ry;rcases hs with⟨ha,hb⟩ | ⟨ha,hb⟩
 ·let⟨its,r,p,_⟩:=I.list ha
  let⟨jts,r',p',_⟩:=I.list hb;let l1:=⇑r;let l2:=⇑r'
  by_cases hl:⇑xs=⇑ys
  ·let z:=SeqAt.RcNeAt.lists (A:=X.A) (s:=s) p.isList p'.isList (by rw[zS,zS];ext) () (BE r r' pl)
   rw[zS,<-l1,all_eq hl] at z;exact z _ _ _ _ {.bl _,H,I,rfl,q}
  ·let z:=SeqAt.RcNeAt.lists_lengths (A:=X.A) (s:=s) p.isList p'.isList (by rw[zS,zS];simp;ext) ()
   rw[Br hl] at q;exact z _ _ _ _ {.bl true,H,I,rfl,q}
 ·let⟨its,r,p,_⟩:=I.tuple ha
  let⟨jts,r',p',_⟩:=I.tuple hb;let l1:=⇑r;let l2:=⇑r';let z:=SeqAt.RcNeAt.tuples (A:=X.A) (s:=s) p p' () (BE r r' pl);rw[zS,zS,<-l1,<-l2] at z
  by_cases hl:⇑xs=⇑ys
  ·let em:min ⇑xs ⇑ys=⇑xs:=()
   rw[em,all_eq hl,hl,xM,Bool.and_true] at z;exact z _ _ _ _ {.bl _,H,I,rfl,q}
  ·rw[show(⇑xs == ⇑ys)=false by simpa using hl,x8] at z
   rw[Br hl] at q;exact z _ _ _ _ {.bl true,H,I,rfl,q}
def MF (K:yq):V->Option Int->Option Int->Hp->VK->Prop:=λx lo hi H Q=>∃a xs,x=.ref a/\bK K H a xs/\(HT.de ⇑xs 0 lo=0/\HT.de ⇑xs ⇑xs hi=⇑xs)/\Q (.ref a) H
def Lk:KN X (MF X.K):=by
 intro pins s σ H x v vl vu lo hi sl Q I rx hs pl pu h;let⟨a,xs,rfl,hx,hw,q⟩:=h;cases rx;let⟨its,r,ht,hz⟩:=I.tuple hx;let hlen:its.toArray.size=⇑xs:=by rw[zS];exact r.length.symm
 refine{"tuple",_,xr.lookup,ht.typeIs,?_};rw[<-hlen] at hw;let⟨os,hos,hcs,hds⟩:=id hs;let hTs:s.TypeIs (.ref sl) "slice":={(os),hos,hcs}
 unfold getItem
 try with_reducible refine xm ?_
 first | refine yi (yk ?_) | skip
 refine yi (wpAny_sequenceKey ht.typeIs ∅ ?_);refine yi (yO (name:=Str.ofString "__getitem__") ht.typeIs xr
  (yS xr ht.typeIs entry_tuple_getitem ?_ (args_tuple_getitem _ _)))
 show wpAny _ _ (Builtin.Tuple.tupleItemsOf (.ref a) >>= _) _ _ s;refine yi (tupleItemsOf_ ht ?_);refine yi (wx hTs ?_);rw[yE ∅];refine yi (HT.i7 hs pl pu ?_);show wpAny _ _ (if(((HT.de its.toArray.size 0 lo:Nat):Int) == 0&&(1:Int) == 1&&(HT.de its.toArray.size its.toArray.size hi-HT.de its.toArray.size 0 lo) == its.toArray.size)=true then _ else _) _ _ s;rw[yE (by rw[hw.1,hw.2];simp)];unfold Builtin.Tuple.tupleIsExact;refine yi ?_
 repeat (any_goals (first | assumption | exact⟨_,rfl,yk ⟨.ref a,H,I,rfl,q⟩⟩ | refine yi (wx ht.typeIs ?_) | wp_step))
def MG (K:yq):V->Option Int->Option Int->Hp->VK->Prop:=λx lo hi H Q=>Pd K x lo hi H Q\/MF K x lo hi H Q
def Gv:KN X (MG X.K):=KN.or Nt Lk
def C0 (K:yq):V->List V->Hp->VK->Prop:=λx vs H Q=>∃l b xs zs,x=.ref l/\vs=[.ref b]/\H l=some (.lst xs)/\H b=some (.tup zs)/\⇑xs+⇑zs<=sizeLine/\Q .aX (upd H l (.lst (xs++zs)))
def Jw (K:yq):V->List V->Hp->VK->Prop:=λx vs H Q=>Gy x vs H Q\/C0 K x vs H Q
def Fn:MW X "list.extend" (C0 X.K):=by
 intro pins s σ H x vs v us Q I rx rv h;let⟨l,b,xs,zs,rfl,rfl,hH,hB,hz,q⟩:=h;cases rx;let⟨u,rfl,ru⟩:=rv.one;cases ru;let⟨z,its,n,r,hl,e⟩:=I.HK hH;let⟨_,its2,r2,⟨oc,od,oda,osl⟩,ho,hoc,n2,hod⟩:=(show bu X.prog X.w H s.heap b (.tup zs) from I.bf b _ hB)
 let l1:=⇑r;let l2:=⇑r2;let hsz:its.toArray.size+its2.toArray.size<=sizeLine:=by rw[zS,zS];ext
 let hlong:¬(!its.toArray.isEmpty&&Builtin.List.listTooLong (its.toArray.size+its2.toArray.size))=true:=by
  rw[sV hsz,x8];exact zG
 dsimp only at hoc hod;subst hoc hod;refine yS F.slot_list_extend {_,e,rfl} F.entry_list_extend ?_ (F.args_list_extend_2 _ _);show wpAny _ _ (Builtin.List.listExtendWith (.ref l) (.ref b) .none) _ _ s;unfold Builtin.List.listExtendWith;refine yi (wx (T:="tuple") {_,ho,rfl} ?_);let ht:(Value.type "tuple"== Value.type "tuple")=true:=by rfl
 rw[yE (by rw[ht];simp)];refine yi (listItems_at ho rfl ?_);refine yi (listItems_at e rfl ?_);rw[yD hlong];refine yi (listUpdate_at e rfl ?_ (by rw[zS];ext) (by show(its.toArray++its2.toArray).size<=sizeLine+1;rw[Array.size_append];ext));refine yk {_,rfl,?_};refine{.aX,_,I.LP (its':=its++its2) hH e (by simp) (r.append r2) ?_,rfl,q};rw[ze];ext
def Fo:MW X "list.extend" (Jw X.K):=by
 intro pins s σ H x vs v us Q I rx rv h;rcases h with h | h
 ·exact HJ pins s σ H x vs v us Q I rx rv h
 ·exact Fn pins s σ H x vs v us Q I rx rv h
def FV:dI X (.builtin "len") (λxs H Q=>∃p kvs,xs=[.ref p]/\H p=some (.dK kvs)/\Q (.int (⇑kvs:Nat)) H):=by
 intro pins s σ H xs us Q I r h;let⟨p,kvs,rfl,hp,q⟩:=h;let⟨u,rfl,rx⟩:=vals1 r;cases rx;exact PV I (.inl hp) λt s' I'=>{.int _,H,I',{_,rfl},q}
end
abbrev Q5 (K:yq):List V->Hp->VK->Prop:=λxs H Q=>∃p ys,xs=[.ref p]/\(aE K H p ys\/bK K H p ys)/\Q (.int ⇑ys) H
abbrev NC:List V->Hp->VK->Prop:=λxs H Q=>∃i,xs=[.int i]/\i.natAbs.log2<1920/\Q (.str (toString i)) H
noncomputable def Hv (lo:Int) (n:Nat):List Int:=(List.range n).map λi=>lo+(i:Nat)
def Nh (ta:TA):TE:=λσ H Q=>ta σ H λvs H1=>∃i j:Int,vs=[.int i,.int j]/\(-(2^62)<=i/\i<2^62/\-(2^62)<=j/\j<2^62)/\(j-i).toNat<=1000000/\∀l,H1 l=none->Q (.ref l) (upd H1 l (.lst ((Hv i (j-i).toNat).map V.int)))
theorem Gk:∀{xs:List V} {us:List wG},⇑xs=⇑us->(∀(i:Nat) (x:V) (u:wG),xs[i]?=some x->us[i]?=some u->RelV x u)->Vals xs us
 | [],[],_,_=>.nil
 | x::xs,u::us,h,k=>.cons (k 0 x u rfl rfl) (Gk (by simpa using h) λi y v e e'=>k (i+1) y v (by simpa using e) (by simpa using e'))
 | [],_::_,h,_=>by simp at h
 | _::_,[],h,_=>by simp at h
section
variable {X:Cx}
def C7 (hc:X.calm=true) (hg0:Gl X "list") (hm0:X.mg "list"= none) (hg:Gl X "range") (hm:X.mg "range"= none) (ha:PA X [a,b] ta)
  (hs:starEach [a,b] X.env=[(false,eval a X.env),(false,eval b X.env)]<|>qe_) (hs2:starEach [b] X.env=[(false,eval b X.env)]<|>qe_)
  (hs1:starEach [.Call (.Name "range" p2) [a,b] [] pos2] X.env=[(false,eval (.Call (.Name "range" p2) [a,b] [] pos2) X.env)]<|>qe_) :
  PE X (.Call (.Name "list" p1) [.Call (.Name "range" p2) [a,b] [] pos2] [] pos1) (Nh ta):=by
 intro pins s σ H Q I h;refine y7 (jK I hg0 hm0 (by decide +kernel:bootBuiltins "list"= some (.type "list")) ?_ ∅ ∅);refine yC (Q:=_) ?_ hs1 rfl;rw[hs1];refine xY ?_;refine Call_ (jK I hg hm boot_range (yC (bR (ha pos2 pins s σ H _ I h) λus s1 z0=>?_) (by rw[hs,hs2]) (by rw[hs2];rfl)));let⟨vs,H1,I1,r1,q1⟩:=z0;let⟨i,j,e,⟨q1,q2,q3,q4⟩,hz,q⟩:=q1;subst e;cases r1 with
 | cons r rr=>
  cases rr with
  | cons r' rr=>
   cases rr;let⟨t,rfl⟩:=r;let⟨t',rfl⟩:=r';refine call_range_2 ?_;refine wD ?_;let I2:Inv X pins σ H1 {s1 with heap:=s1.heap.push {cls:=.type "range",data:=.fields #[.int i t,.int j t',.int 1 s1.toks]},toks:=s1.toks+1}:=I1.kept λb o e=>yj _ e;let hn:Builtin.Range.rangeSize i j 1=(((j-i).toNat:Nat):Int):=by rw[rangeSize_one];split <;> ext
   refine call_list_range (I2.ok.hd hc) (IsRange.new ..) (small_one q1 q2 q3 q4) hn (zH hz ∅) λh' tk acc c hk hS hit=>?_;let rv:Vals ((Hv i (j-i).toNat).map V.int) acc.toList:=by
    refine Gk ?_ ?_
    ·let e1:⇑acc.toList=(j-i).toNat:=by rw[yG];exact hit.1
     rw[za,e1];unfold Hv;simp
    ·intro k x u hx hu
     rw[yY] at hu;let⟨tk',rfl⟩:=hit.2 k u hu;let hk':k<(j-i).toNat:=by
      have:=(Array.getElem?_eq_some_iff.mp hu).1;rw[hit.1] at this;exact this
     unfold Hv at hx;rw[zv,zF,List.getElem?_range hk'] at hx;cases hx;exact{tk',by simp}
   let hl:H1 (s1.heap.push {cls:=.type "range",data:=.fields #[.int i t,.int j t',.int 1 s1.toks]}).objs.size=none:=I2.bf.fresh (zh _);refine{.ref _,_,I2.laid (t':=tk) hk (zh _) (show bu X.prog X.w _ h' _ (.lst ((Hv i (j-i).toNat).map V.int)) from{?_,acc.toList,c,rv,?_}),rfl,q _ hl}
   ·rw[za]
    let sl:=yr;unfold Hv;simp;ext
   ·simpa using hS
end
section
variable {prog:wI} {w:wJ} {A:wK} {E:wG->wH->Prop} {s:wH}
end
section
variable {X:Cx} {pins:List (wM×Obj)} {σ:St}
end
end L2
namespace Sc
open PySem L2 Lm
noncomputable def mixed (c k:Int):Int:=(c%2305843009213693951+1)*(k*k+48271)*40692%2147483399
def eQ (h0:0<=i) (h1:i<2^n):Sz n i:=by
 unfold Sz;let e:((2^n:Nat):Int)=(2:Int)^n:=by simp
 rw[<-e] at h1;ext
def N6 (h1:48<=c) (h2:c<=57):c∈("0123456789": Str).cps.toList:=by
 have:c=48\/c=49\/c=50\/c=51\/c=52\/c=53\/c=54\/c=55\/c=56\/c=57:=()
 rcases this with rfl | rfl | rfl | rfl | rfl | rfl | rfl | rfl | rfl | rfl <;> decide
noncomputable def kT (x:Int×Int):Str:=if x.2=1 then dec x.1 else dec x.1 ++"/" ++ dec x.2
abbrev Item:=Option (Int×Int)×(Int×Int)
noncomputable def Bx:Item->Str
 | (none,x)=> "r:" ++ kT x
 | (some q,x)=>dec q.1 ++":" ++ dec q.2 ++":" ++ kT x
def OC (x:Int×Int):Prop:=Rd x/\0<x.1/\x.1<10000/\x.2<10000
def Qm (q:Int×Int):Prop:=-100<q.1/\q.1<100/\-100<q.2/\q.2<100/\(q.2-7*q.1)%12=0
def P8 (it:Item):Prop:=OC it.2/\∀q,it.1=some q->Qm q
def fh (h1:c≠45) (h2:¬(48<=c/\c<=57)):c∉(dec n).cps.toList:=by
 intro z
 by_cases h0:0<=n
 ·let⟨m,rfl⟩:=yB h0
  exact h2 (jq z)
 ·obtain⟨m,em⟩:∃m:Nat,-n=(m:Int):={(-n).toNat,()}
  rw[q9 (),em,cu] at z;rcases zB.mp z with z | z
  ·let e:("-": Str).cps.toList=[45]:=rfl
   rw[e] at z;exact h1 (zu.mp z)
  ·exact h2 (jq z)
def wV (h:OC x):58∉(kT x).cps.toList:=by
 unfold kT;split
 ·exact fh ∅ ∅
 ·rw[cu,cu]
  intro z;rcases zB.mp z with z | z
  ·rcases zB.mp z with z | z
   ·exact fh ∅ ∅ z
   ·let e:("/": Str).cps.toList=[47]:=rfl
    rw[e] at z;exact absurd (zu.mp z) ∅
  ·exact fh ∅ ∅ z
def DV (h0:0<=n) (h:n<10000):⇑(dec n)<=4:=by
 let⟨m,rfl⟩:=yB h0;exact Af ∅ ()
abbrev oz (x:Int×Int):HO:=.tup [.int x.1,.int x.2]
inductive Gb (H:Hp):V->Option (Int×Int)->Prop where
 | aX:Gb H .aX none
 | ref {b:wM} {q:Int×Int}:H b=some (oz q)->Gb H (.ref b) (some q)
def Gb.mono (s:ao H H') (h:Gb H v o):Gb H' v o:=by
 cases h with
 | aX=>exact .aX
 | ref h=>exact .ref (s _ _ h)
def RI (H:Hp) (v:V) (it:Item):Prop:=∃p pv a,v=.ref p/\H p=some (.tup [pv,.ref a])/\H a=some (oz it.2)/\Gb H pv it.1
noncomputable def qK:List Nat:=("0123456789": Str).cps.toList
noncomputable def rn (most:Int) (cs:List Nat):Option Int:=
 if(⇑cs:Int)<1 then none else if most<⇑cs then none else if cs.all (λc=>decide (c∈qK))=true then(if cs[0]?=some 48/\1<⇑cs then none else some ((NumText.digitsVal cs:Nat):Int)) else none
noncomputable def ov:Option Int->V
 | none=>.aX
 | some n=>.int n
noncomputable def rs (most:Int) (t:Str):Option Int:=if t.cps.toList[0]?=some 45 then(match rn most (t.cps.toList.drop 1) with | some n=>if n=0 then none else some (-n) | none=>none) else rn most t.cps.toList
noncomputable def rp (a b:Str):Option (Int×Int):=match rs 2 a,rs 2 b with
 | some f,some h=>if(h-7*f)%12=0 then some (f,h) else none
 | _,_=>none
noncomputable def KY (t:Str):Option (Int×Int):=match Txt.split t "/" with
 | [a]=>(match rn 4 a.cps.toList with | some n=>some (red n 1) | none=>none)
 | [a,b]=>(match rn 4 a.cps.toList,rn 4 b.cps.toList with | some n,some m=>if m=0 then none else some (red n m) | _,_=>none)
 | _=>none
noncomputable def lr (t:Str):Option (Int×Int):=match KY t with
 | some x=>if x.1=0 then none else some x
 | none=>none
noncomputable def ir (t:Str):Option Item:=match lr ((Txt.split t ":").getLast?.getD "") with
 | none=>none
 | some x=>if(Txt.split t ":").dropLast=[("r": Str)] then some (none,x) else match (Txt.split t ":").dropLast with
  | [a,b]=>(match rp a b with | some q=>some (some q,x) | none=>none)
  | _=>none
def Mr (H:Hp) (v:V):Option Item->Prop
 | none=>v=.aX
 | some it=>RI H v it
def DN (h:c∈qK):48<=c/\c<=57:=by
 let e:qK=[48,49,50,51,52,53,54,55,56,57]:=rfl;rw[e] at h;simp at h;ext
def Jl (h:rn most cs=some n) (hm:most<=4):0<=n/\n<10000/\(cs.all (λc=>decide (c∈qK))=true):=by
 unfold rn at h;split at h
 ·cases h
 ·split at h
  ·cases h
  ·split at h
   ·rename_i h1 h2 h3
    split at h
    ·cases h
    ·cases h
     refine{Int.natCast_nonneg _,?_,h3};let hl:⇑cs<=4:=()
     let key:∀(l:List Nat) (a:Nat),l.all (λc=>decide (c∈qK))=true->l.foldl (λacc c=>acc*10+(c-48)) a<(a+1)*10^⇑l:=by
      intro l
      induction l with
      | nil=>intro a _;simp
      | cons c l ih=>
       intro a ha;rw[wk,zJ] at ha;let i3:=DN (zV ha.1);let i1:=ih (a*10+(c-48)) ha.2;let i2:(a*10+(c-48)+1)*10^⇑l<=((a+1)*10)*10^⇑l:=Nat.mul_le_mul_right _ ();rw[List.foldl_cons,zo,Nat.pow_succ,Nat.mul_comm (10^⇑l) 10,<-Nat.mul_assoc];exact zT i1 i2
     let k1:NumText.digitsVal cs<10^⇑cs:=by have:=key cs 0 h3;rw[Nat.zero_add,Nat.one_mul] at this;exact this
     let k2:10^⇑cs<=10^4:=Nat.pow_le_pow_right ∅ hl;ext
   ·cases h
def FY (h:cs.all (λc=>decide (c∈qK))=true):NumText.AllDigits cs:=λc hc=>by
 have:=(ye.mp h) c hc;exact DN (zV this)
inductive ip (vs:List V) (H:Hp) (Q:VK) (E:XK):Prop
 | mk (a b:Int) (_:vs=[.int a,.int b]) (_:0<=a) (_:0<=b) (_:Q (.int (Int.gcd a b:Nat)) H)
inductive gQ (vs:List V) (H:Hp) (Q:VK) (E:XK):Prop
 | mk (t b:Int) (_:vs=[.int t,.int b]) (_:0<=t) (_:0<b) (_:Sz 8999 b) (_:∀p H',ao H H'->H' p=some (oz (red t b))->Q (.ref p) H')
inductive Jc (vs:List V) (H:Hp) (Q:VK) (E:XK):Prop
 | mk (x y:Int×Int) (p q:wM) (n m:Nat) (_:vs=[.ref p,.ref q]) (_:H p=some (oz x)) (_:H q=some (oz y)) (_:Rd x) (_:Rd y) (_:Ao n x) (_:Ao m y) (_:n+m<=8999) (_:∀r H',ao H H'->H' r=some (oz (add x y))->Q (.ref r) H')
inductive EN (vs:List V) (H:Hp) (Q:VK) (E:XK):Prop
 | mk (x y:Int×Int) (p q:wM) (_:vs=[.ref p,.ref q]) (_:H p=some (oz x)) (_:H q=some (oz y)) (_:Ao 8999 x) (_:Ao 8999 y) (_:Q (.bl (decide (x.1*y.2<y.1*x.2))) H)
inductive d7 (vs:List V) (H:Hp) (Q:VK) (E:XK):Prop
 | mk (c k:Int) (_:vs=[.int c,.int k]) (_:0<=k) (_:k<1000000) (_:Q (.int (mixed c k)) H)
inductive qx (K:yq) (vs:List V) (H:Hp) (Q:VK) (E:XK):Prop
 | mk (a:wM) (ns:List Int) (k:Int) (_:vs=[.ref a,.int k]) (_:aE K H a (ns.map V.int)) (_:0<=k) (_:⇑ns<=1000) (_:∀c:Int,Q (.int c) H)
inductive gh (vs:List V) (H:Hp) (Q:VK) (E:XK):Prop
 | mk (t:Str) (most:Int) (_:vs=[.str t,.int most]) (_:⇑t<=600) (_:∀H',ao H H'->Q (ov (rn most t.cps.toList)) H')
inductive j2 (vs:List V) (H:Hp) (Q:VK) (E:XK):Prop
 | mk (t:Str) (most:Int) (_:vs=[.str t,.int most]) (_:⇑t<=600) (_:∀H',ao H H'->Q (ov (rs most t)) H')
inductive kE (vs:List V) (H:Hp) (Q:VK) (E:XK):Prop
 | mk (a b:Str) (_:vs=[.str a,.str b]) (_:⇑a<=600) (_:⇑b<=600) (_:∀v H',ao H H'->Gb H' v (rp a b)->Q v H')
def j1 (C:wM):Sp:=λvs H Q E=>∃(t:Str),vs=[.str t]/\⇑t<=600/\(∀x,KY t=some x->∀p H',ao H H'->H' p=some (oz x)->Q (.ref p) H')/\(KY t=none->∀H',ao H H'->E (.ref C) none H')
def f9:Sp:=λvs H Q _=>∃(t:Str),vs=[.str t]/\⇑t<=600/\∀v H',ao H H'->Gb H' v (lr t)->Q v H'
def lW:Sp:=λvs H Q _=>∃(t:Str),vs=[.str t]/\⇑t<=600/\∀v H',ao H H'->Mr H' v (ir t)->Q v H'
noncomputable def dL (x:Int×Int):Dt:=.tup [.int x.1,.int x.2]
noncomputable def dO (f:α->Dt):Option α->Dt
 | none=>.aX
 | some x=>f x
noncomputable def hU (it:Item):Dt:=.tup [dO dL it.1,dL it.2]
noncomputable def GV (l:List Int):Dt:=.tup (l.map .int)
noncomputable def l8 (l:List Str):Dt:=.tup (l.map .str)
abbrev End:=Int×List Int
noncomputable def fq (e:End):Dt:=.tup [.int e.1,GV e.2]
structure Rep where
 first:Int
 last:Int
 times:Int
 ends:List End
noncomputable def c9 (r:Rep):Dt:=.tup [.int r.first,.int r.last,.int r.times,.tup (r.ends.map fq)]
structure K3 where
 cg:Int×Int
 key:Int
 marks:List Str
noncomputable def tS (b:K3):Dt:=.tup [dL b.cg,.int b.key,l8 b.marks]
structure Jump where
 ky:Int
 l6:Int
 aY:Int
 eM:Option Int
noncomputable def dn (j:Jump):Dt:=.tup [.int j.ky,.int j.l6,.int j.aY,dO .int j.eM]
noncomputable def words (t:Str):List Str:=(Txt.split t " ").filter λw=>decide (w≠ "")
noncomputable def sgn:List Nat:=("abcdefghijklmnopqrstuvwxyz0123456789": Str).cps.toList
noncomputable def bX (t:Str):Option Str:=if(⇑t:Int)<1 then none else if(12:Int)<⇑t then none else if t.cps.toList.all (λc=>decide (c∈sgn))=true then some t else none
noncomputable def os:Option Str->V
 | none=>.aX
 | some x=>.str x
noncomputable def eE (t:Str):Option Int:=rn 3 t.cps.toList
noncomputable def j7 (t:Str) (lo hi:Int):Option Int:=match eE t with
 | some n=>if n<lo then none else if hi<n then none else some n
 | none=>none
noncomputable def sk (a b:Str):Option (Int×Int):=match rp a b with
 | some q=>if 12<(if q.1<0 then -q.1 else q.1) then none else some q
 | none=>none
noncomputable def vC:List Int:=[1,2,4,8,16,32]
noncomputable def gR (t:Str):Option (Int×Int):=match Txt.split t "/" with
 | [a,b]=>(match j7 a 1 32,eE b with | some m,some n=>if n∈vC then some (m,n) else none | _,_=>none)
 | _=>none
noncomputable def CW (t:Str):Option Int:=match rs 3 t with
 | some k=>if 7<(if k<0 then -k else k) then none else some k
 | none=>none
noncomputable def lx:List (Option α)->Option (List α)
 | []=>some []
 | none::_=>none
 | some x::r=>match lx r with
  | some l=>some (x::l)
  | none=>none
noncomputable def sr (t:Str):Option End:=match Txt.split t ":" with
 | [a,b]=>(match eE a,lx ((Txt.split b ",").map eE) with | some n,some ps=>some (n,ps) | _,_=>none)
 | _=>none
noncomputable def kL:List Str->Option (Str×(Int×Int)×(Int×Int))
 | [a,b,c,d]=>(match bX a,sk b c,KY d with | some n,some t,some l=>some (n,t,l) | _,_,_=>none)
 | _=>none
noncomputable def oZ (ws:List Str):Option (Str×List Str):=match ws with
 | a::b::r=>(match lx ((a::b::r).map bX) with | some (n::ps)=>some (n,ps) | _=>none)
 | _=>none
noncomputable def A7:List Str->Option K3
 | m::k::ms=>(match lx (ms.map bX) with | some l=>(match gR m,CW k with | some x,some y=>some {(x),y,l} | _,_=>none) | none=>none)
 | _=>none
noncomputable def pV:List Str->Option (Str×Int×Str)
 | [a,b,c]=>(match bX a,eE b,bX c with | some x,some y,some z=>some (x,y,z) | _,_,_=>none)
 | _=>none
noncomputable def jE:List Str->Option (Int×Str×List Item)
 | b::p::i::r=>(match lx ((i::r).map ir) with | some l=>if l.all (λit=>it.1.isNone)=true then none else(match eE b,bX p with | some x,some y=>some (x,y,l) | _,_=>none) | none=>none)
 | _=>none
noncomputable def jD:List Str->Option Rep
 | a::b::c::r=>(match lx (r.map sr) with | some l=>(match eE a,eE b,j7 c 2 9 with | some x,some y,some z=>some {(x),y,z,l} | _,_,_=>none) | none=>none)
 | _=>none
noncomputable def sE:List Str->Option Jump
 | [a,b,c,d]=>(match eE a,eE b,eE c with | some x,some y,some z=>(match eE d with | some n=>some {x,y,z,some n} | none=>if d ="end" then some {(x),y,z,none} else none) | _,_,_=>none)
 | _=>none
noncomputable def one (f:Str->Option α):List Str->Option α
 | [w]=>f w
 | _=>none
inductive Told where
 | b6 (n:Str)
 | dk (n:Str) (t l:Int×Int)
 | cO (n:Str) (ps:List Str)
 | bar (b:K3)
 | aR (l:Int×Int)
 | holds (p:Str) (b:Int) (i:Str)
 | aL (b:Int) (p:Str) (its:List Item)
 | rep (r:Rep)
 | bA (j:Jump)
noncomputable def iD:List Str->Option Told
 | []=>none
 | w::r=>
  if w ="player" then(one bX r).map .b6
  else if w ="instrument" then(kL r).map λx=>.dk x.1 x.2.1 x.2.2
  else if w ="staff" then(oZ r).map λx=>.cO x.1 x.2
  else if w ="bar" then(A7 r).map .bar
  else if w ="upbeat" then(one lr r).map .aR
  else if w ="holds" then(pV r).map λx=>.holds x.1 x.2.1 x.2.2
  else if w ="notes" then(jE r).map λx=>.aL x.1 x.2.1 x.2.2
  else if w ="repeat" then(jD r).map .rep
  else if w ="jump" then(sE r).map .bA
  else none
noncomputable def fH (r:Rep):List (Int×Int×List Int):=(r.ends.zip ((r.ends.drop 1).map (·.1)++[r.last+1])).map λp=>(p.1.1,p.2-1,p.1.2)
noncomputable def sortI (l:List Int):List Int:=l.mergeSort
noncomputable def cF:List End->Int->List Int->Option (Int×List Int)
 | [],a,ps=>some (a,ps)
 | e::r,a,ps=>if e.1<=a then none else if e.2≠sortI e.2 then none else cF r e.1 (ps++e.2)
noncomputable def Co (lo:Int) (n:Nat):List Int:=(List.range n).map λi=>lo+(i:Nat)
noncomputable def dm (r:Rep):Bool:=match r.ends with
 | []=>true
 | _=>(match cF r.ends (r.first-1) [] with | none=>false | some (a,ps)=>decide (a<=r.last)&&decide (sortI ps=Co 1 (r.times+1-1).toNat))
noncomputable def iw (rs:List Rep) (r:Rep):Bool:=match rs.getLast? with
 | some q=>if r.first<=q.last then false else decide (r.first<=r.last)&&dm r
 | none=>decide (r.first<=r.last)&&dm r
noncomputable def bP (rs:List Rep) (b:Int):Option Rep:=rs.find? λr=>decide (r.first<=b)&&decide (b<=r.last)
noncomputable def fc (rs:List Rep) (b:Int):Bool:=match bP rs b with
 | none=>true
 | some r=>decide (b=r.last)
noncomputable def cN (rs:List Rep) (b:Int):Bool:=match bP rs b with
 | none=>true
 | some r=>decide (b=r.first)
noncomputable def gZ (rs:List Rep) (b:Int):Bool:=rs.all λr=>(fH r).all λe=>!(decide (e.1<=b)&&decide (b<=e.2.1)&&!decide (r.times∈e.2.2))
noncomputable def jd (rs:List Rep) (j:Jump):Bool:=
 if j.aY<j.l6 then false else if j.ky<j.aY then false else
 match j.eM with
 | some c=>(decide (j.ky<c)&&cN rs c&&gZ rs c)&&(fc rs j.ky&&cN rs j.l6&&gZ rs j.aY)
 | none=>fc rs j.ky&&cN rs j.l6&&gZ rs j.aY
structure c6 where
 aP:List Str:=[]
 aF:List (Str×(Int×Int)×(Int×Int)):=[]
 bL:List (Str×List Str):=[]
 bars:List K3:=[]
 aR:Option (Int×Int):=none
 holds:List (Str×List (Int×Str)):=[]
 aL:List ((Int×Str)×List Item):=[]
 repeats:List Rep:=[]
 bA:Option Jump:=none
noncomputable def c6.cg (S:c6) (b:Nat):Int×Int:=match S.bars[b]? with
 | some x=>red x.cg.1 x.cg.2
 | none=>(0,1)
noncomputable def c6.len (S:c6) (b:Nat):Int×Int:=match S.aR with
 | some u=>if b=0 then u else S.cg b
 | none=>S.cg b
noncomputable def uF (l:List Item):Int×Int:=l.foldl (λt it=>add t it.2) (0,1)
noncomputable def c6.has (S:c6) (bs:List Int):Bool:=bs.all λb=>decide (b<⇑S.bars)
noncomputable def fault (S:c6):Told->Option Str
 | .b6 n=>if n∈S.aP then some "twice" else if 12<=⇑S.aP then some "many" else none
 | .dk n _ _=>if n∈S.aF.map (·.1) then some "twice" else if 12<=⇑S.aF then some "many" else none
 | .cO n ps=>if n∈S.bL.map (·.1) then some "twice" else if¬ps.Nodup then some "twice" else if S.bL.any (λq=>ps.any λp=>decide (p∈q.2))=true then some "twice" else if ps.any (λp=>!decide (p∈S.aP))=true then some "name" else none
 | .bar _=>if 200<=⇑S.bars then some "many" else none
 | .aR l=>if S.aR.isSome=true then some "twice" else if ⇑S.bars=0 then some "bar" else if¬l.1*(S.cg 0).2<(S.cg 0).1*l.2 then some "length" else if S.aL.any (λp=>decide (p.1.1=0))=true then some "length" else none
 | .holds p b i=>
  let hs:=(S.holds.lookup p).getD []
  if(match hs.getLast? with | some q=>decide (b<=q.1) | none=>false)=true then some "twice" else if p∉S.aP then some "name" else if i∉S.aF.map (·.1) then some "name" else if¬S.has [b]=true then some "bar" else if 20<=⇑hs then some "many" else none
 | .aL b p its=>if(b,p)∈S.aL.map (·.1) then some "twice" else if p∉S.aP then some "name" else if¬S.has [b]=true then some "bar" else if uF its≠S.len b.toNat then some "length" else if 40<⇑its then some "many" else none
 | .rep r=>if¬S.has ([r.first,r.last]++r.ends.map (·.1))=true then some "bar" else if S.bA.isSome=true then some "form" else if¬iw S.repeats r=true then some "form" else if 20<=⇑S.repeats then some "many" else none
 | .bA j=>if S.bA.isSome=true then some "twice" else if¬S.has ([j.ky,j.l6,j.aY]++j.eM.toList)=true then some "bar" else if¬jd S.repeats j=true then some "form" else none
noncomputable def iM (hs:List (Str×List (Int×Str))) (p:Str) (h:Int×Str):List (Str×List (Int×Str)):=
 if p∈hs.map (·.1) then hs.map λq=>if q.1=p then(q.1,q.2++[h]) else q else hs++[(p,[h])]
noncomputable def cG (S:c6):Told->c6
 | .b6 n=>{S with aP:=S.aP++[n]}
 | .dk n t l=>{S with aF:=S.aF++[(n,t,l)]}
 | .cO n ps=>{S with bL:=S.bL++[(n,ps)]}
 | .bar b=>{S with bars:=S.bars++[b]}
 | .aR l=>{S with aR:=some l}
 | .holds p b i=>{S with holds:=iM S.holds p (b,i)}
 | .aL b p its=>{S with aL:=S.aL++[((b,p),its)]}
 | .rep r=>{S with repeats:=S.repeats++[r]}
 | .bA j=>{S with bA:=some j}
theorem dF (h:Is H d v):∀{ds:List Dt} {vs:List V},au H ds vs->au H (ds++[d]) (vs++[v])
 | [],_,q=>by unfold au at q;subst q;show au H [d] [v];unfold au;exact{v,[],rfl,h,by unfold au;rfl}
 | c::ds,_,q=>by
  unfold au at q;let⟨u,r,rfl,h1,h2⟩:=q;show au H (c::(ds++[d])) (u::(r++[v]));unfold au;exact{u,_,rfl,h1,dF h h2}
def GL (h:aE K H p xs) (hi:i<⇑xs):(K0 K p).go i H:={xs,xs[i],h,zb hi}
def Kc (h:bK K H p xs) (hi:i<⇑xs):(MX K p).go i H:={xs,xs[i],h,zb hi}
def oO (e:ao H H') (h:H a=some (.tup xs)):bK K H' a xs:=bK.of (e _ _ h)
theorem _root_.L2.ao.back (s:ao H H') (h:H' a=none):H a=none:=by
 cases q:H a with
 | none=>rfl
 | some u=>rw[s _ _ q] at h;cases h
def lq {α:Type} {J:It} {ws:List α} {enc:α->V} {σ₀:St} {g:TG} {te:TE} {Q:VK} {H1:Hp} (F:α->Dt) (Pσ:St->Prop) (hn:⇑ws<=sizeLine) (h0:Pσ σ₀)
  (go:∀i H,i<⇑ws->ao H1 H->J.go i H) (stop:∀H,ao H1 H->J.stop ⇑ws H) (yl:∀(i:Nat) x H H2 (hi:i<⇑ws),ao H1 H->J.Gg i H x H2->H2=H/\x=enc ws[i])
  (turn:∀(a:α) (σ:St) (H:Hp) (R:St->V->Hp->Prop),a∈ws->ao H1 H->Pσ σ->(∀σ3 y H5,ao H H5->Is H5 (F a) y->Pσ σ3->R σ3 y H5)->g (enc a) σ H λσ3 H3=>te σ3 H3 λy H5=>R σ3 y H5)
  (fin:∀D vs H,ao H1 H->H1 D=none->H D=some (.lst vs)->au H (ws.map F) vs->Q (.ref D) H):du σ₀ g uC te Q J H1:=by
 refine{λi m xs σ H=>m=⇑ws-i/\i<=⇑ws/\⇑xs=i/\ao H1 H/\au H ((ws.take i).map F) xs/\Pσ σ,{_,rfl,zX _,rfl,ao.refl _,by simp[au],h0},?_};rintro i m xs σ H ⟨rfl,hi,hx,sm,il,pσ⟩;rcases xl i ⇑ws with hlt | hge
 ·refine .inr {go i H hlt sm,(),?_}
  intro x H2 hy;let⟨rfl,rfl⟩:=yl i x H H2 hlt sm hy;refine turn ws[i] σ H2 (λσ3 y H5=>if true=true then∃m',m'<⇑ws-i/\(m'=⇑ws-(i+1)/\i+1<=⇑ws/\⇑(xs++[y])=i+1/\ao H1 H5/\au H5 ((ws.take (i+1)).map F) (xs++[y])/\Pσ σ3) else False) (yb hlt) sm pσ ?_;rintro σ3 y H5 s5 iy p3;rw[yE rfl];refine{_,(),rfl,hlt,by simp[hx],sm.trans s5,?_,p3};rw[xa,zb hlt,zg];exact dF iy (il.mono s5)
 ·let e:i=⇑ws:=()
  subst e;refine .inl {stop H sm,(),λD hD=>?_};let il':au H (ws.map F) xs:=by rw[zI] at il;exact il
  exact fin D xs _ (sm.trans (bW hD)) (sm.back hD) aA (il'.mono (bW hD))
def tU {α:Type} {J:It} {ws:List α} {enc:α->V} {σ₀:St} {g:TG} {te:TE} {Q:VK} {H1:Hp} (F:α->Dt) (Pσ:St->Prop) (hn:⇑ws<=sizeLine) (h0:Pσ σ₀)
  (go:∀i H,i<⇑ws->ao H1 H->J.go i H) (stop:∀H,ao H1 H->J.stop ⇑ws H) (yl:∀(i:Nat) x H H2 (hi:i<⇑ws),ao H1 H->J.Gg i H x H2->H2=H/\x=enc ws[i])
  (turn:∀(a:α) (σ:St) (H:Hp) (R:St->V->Hp->Prop),a∈ws->ao H1 H->Pσ σ->(∀σ3 y H5,ao H H5->Is H5 (F a) y->Pσ σ3->R σ3 y H5)->g (enc a) σ H λσ3 H3=>te σ3 H3 λy H5=>R σ3 y H5)
  (fin:∀D vs H,ao H1 H->H D=some (.lst vs)->au H (ws.map F) vs->Q (.ref D) H):du σ₀ g uC te Q J H1:=lq F Pσ hn h0 go stop yl turn λD vs H s _=>fin D vs H s
def mL {K:yq} {α:Type} {p:wM} {ws:List α} {enc:α->V} {σ₀:St} {g:TG} {te:TE} {Q:VK} {H1:Hp} (F:α->Dt) (Pσ:St->Prop) (hn:⇑ws<=sizeLine) (hp:aE K H1 p (ws.map enc)) (h0:Pσ σ₀)
  (turn:∀(a:α) (σ:St) (H:Hp) (R:St->V->Hp->Prop),a∈ws->ao H1 H->Pσ σ->(∀σ3 y H5,ao H H5->Is H5 (F a) y->Pσ σ3->R σ3 y H5)->g (enc a) σ H λσ3 H3=>te σ3 H3 λy H5=>R σ3 y H5)
  (fin:∀D vs H,ao H1 H->H1 D=none->H D=some (.lst vs)->au H (ws.map F) vs->Q (.ref D) H):du σ₀ g uC te Q (K0 K p) H1:=by
 refine lq F Pσ hn h0 (λi H hi sm=>GL (sm.seq hp) (by rw[za];exact hi)) (λH sm=>{_,sm.seq hp,by rw[za];exact zh _}) ?_ turn fin;rintro i x H H2 hi sm ⟨rfl,hy⟩;let hx':=hy _ (sm.seq hp);rw[zF,zb hi] at hx';cases hx';exact{(rfl),rfl}
def eK {K:yq} {α:Type} {p:wM} {ws:List α} {enc:α->V} {σ₀:St} {g:TG} {te:TE} {Q:VK} {H1:Hp} (F:α->Dt) (Pσ:St->Prop) (hn:⇑ws<=sizeLine) (hp:aE K H1 p (ws.map enc)) (h0:Pσ σ₀)
  (turn:∀(a:α) (σ:St) (H:Hp) (R:St->V->Hp->Prop),a∈ws->ao H1 H->Pσ σ->(∀σ3 y H5,ao H H5->Is H5 (F a) y->Pσ σ3->R σ3 y H5)->g (enc a) σ H λσ3 H3=>te σ3 H3 λy H5=>R σ3 y H5)
  (fin:∀D vs H,ao H1 H->H D=some (.lst vs)->au H (ws.map F) vs->Q (.ref D) H):du σ₀ g uC te Q (K0 K p) H1:=by
 refine tU F Pσ hn h0 (λi H hi sm=>GL (sm.seq hp) (by rw[za];exact hi)) (λH sm=>{_,sm.seq hp,by rw[za];exact zh _}) ?_ turn fin;rintro i x H H2 hi sm ⟨rfl,hy⟩;let hx':=hy _ (sm.seq hp);rw[zF,zb hi] at hx';cases hx';exact{(rfl),rfl}
def cX {K:yq} {α:Type} {p:wM} {ws:List α} {enc:α->V} {σ₀:St} {g:TG} {te:TE} {Q:VK} {H1:Hp} (F:α->Dt) (Pσ:St->Prop) (hn:⇑ws<=sizeLine) (hp:H1 p=some (.tup (ws.map enc))) (h0:Pσ σ₀)
  (turn:∀(a:α) (σ:St) (H:Hp) (R:St->V->Hp->Prop),a∈ws->ao H1 H->Pσ σ->(∀σ3 y H5,ao H H5->Is H5 (F a) y->Pσ σ3->R σ3 y H5)->g (enc a) σ H λσ3 H3=>te σ3 H3 λy H5=>R σ3 y H5)
  (fin:∀D vs H,ao H1 H->H D=some (.lst vs)->au H (ws.map F) vs->Q (.ref D) H):du σ₀ g uC te Q (MX K p) H1:=by
 refine tU F Pσ hn h0 (λi H hi sm=>Kc (oO sm hp) (by rw[za];exact hi)) (λH sm=>{_,oO sm hp,by rw[za];exact zh _}) ?_ turn fin;rintro i x H H2 hi sm ⟨rfl,hy⟩;let hx':=hy _ (oO sm hp);rw[zF,zb hi] at hx';cases hx';exact{(rfl),rfl}
noncomputable def fu (v:V):Bool:=decide (v=.aX)
noncomputable def Dt.fu:Dt->Bool
 | .aX=>true
 | _=>false
def J5:∀{d:Dt} {v:V},Is H d v->fu v=Dt.fu d
 | .aX,_,h=>by unfold Is at h;subst h;rfl
 | .bl _,_,h=>by unfold Is at h;subst h;rfl
 | .int _,_,h=>by unfold Is at h;subst h;rfl
 | .str _,_,h=>by unfold Is at h;subst h;rfl
 | .tup _,_,h=>by unfold Is at h;let⟨a,vs,rfl,_⟩:=h;rfl
theorem iK:∀{ds:List Dt} {vs:List V},au H ds vs->vs.any fu=ds.any Dt.fu
 | [],_,h=>by unfold au at h;subst h;rfl
 | d::ds,_,h=>by
  unfold au at h;let⟨v,r,rfl,h1,h2⟩:=h;rw[y8,y8,J5 h1,iK h2]
theorem jO:∀{bs:List Bool} {vs:List V},au H (bs.map Dt.bl) vs->vs=bs.map V.bl
 | [],_,h=>by unfold au at h;exact h
 | b::bs,_,h=>by
  rw[zf] at h;unfold au at h;let⟨v,r,rfl,h1,h2⟩:=h;unfold Is at h1;rw[h1,jO h2];rfl
theorem gA:∀{bs:List Str} {vs:List V},au H (bs.map Dt.str) vs->vs=bs.map V.str
 | [],_,h=>by unfold au at h;exact h
 | b::bs,_,h=>by
  rw[zf] at h;unfold au at h;let⟨v,r,rfl,h1,h2⟩:=h;unfold Is at h1;rw[h1,gA h2];rfl
theorem fT:∀{bs:List Int} {vs:List V},au H (bs.map Dt.int) vs->vs=bs.map V.int
 | [],_,h=>by unfold au at h;exact h
 | b::bs,_,h=>by
  rw[zf] at h;unfold au at h;let⟨v,r,rfl,h1,h2⟩:=h;unfold Is at h1;rw[h1,fT h2];rfl
theorem Az:∀{bs:List Str},au H (bs.map Dt.str) (bs.map V.str)
 | []=>by simp[au]
 | b::bs=>by rw[zf,zf];unfold au;exact{_,_,rfl,by unfold Is;rfl,Az}
theorem jQ:∀{bs:List Int},au H (bs.map Dt.int) (bs.map V.int)
 | []=>by simp[au]
 | b::bs=>by rw[zf,zf];unfold au;exact{_,_,rfl,by unfold Is;rfl,jQ}
def Gf (d:α->Dt):Prop:=∀a,Dt.fu (d a)=false
theorem gO {α:Type} {d:α->Dt} (f:Gf d):∀{l:List (Option α)},(l.map (dO d)).any Dt.fu=true->lx l=none
 | [],h=>by cases h
 | none::_,_=>rfl
 | some x::r,h=>by
  rw[zf,y8] at h;let e:Dt.fu (dO d (some x))=false:=f x;rw[e,Bool.false_or] at h;show(match lx r with | some l=>some (x::l) | none=>none)=none;rw[gO f h]
theorem gN:∀{l:List (Option α)},(l.map (dO d)).any Dt.fu=false->∃xs,lx l=some xs/\l.map (dO d)=xs.map d/\⇑xs=⇑l
 | [],_=>{[],rfl,rfl,rfl}
 | none::_,h=>by cases h
 | some x::r,h=>by
  rw[zf,y8,Bool.or_eq_false_iff] at h;let⟨xs,e1,e2,e3⟩:=gN h.2;refine{x::xs,?_,?_,by simp[e3]}
  ·show(match lx r with | some l=>some (x::l) | none=>none)=_
   rw[e1]
  ·rw[zf,zf,e2];rfl
def DL:Gf Dt.str:=λ_=>rfl
def Kj:Gf Dt.int:=λ_=>rfl
def N5:Gf dL:=λ_=>rfl
def Kk:Gf fq:=λ_=>rfl
def HS:Gf hU:=λ_=>rfl
def tm (h:Gb H v o):Is H (dO dL o) v:=by
 cases h with
 | aX=>unfold dO Is;rfl
 | ref h=>exact GJ h
def sI (h:Is H (dO dL o) v):Gb H v o:=by
 cases o with
 | none=>unfold dO Is at h;subst h;exact .aX
 | some q=>
  unfold dO dL Is at h;let⟨a,vs,rfl,ha,hl⟩:=h;let e:[Dt.int q.1,Dt.int q.2]=[q.1,q.2].map Dt.int:=rfl;rw[e] at hl;rw[fT hl] at ha;exact .ref ha
def qf (o:Option Int):Is H (dO .int o) (ov o):=by cases o <;> (unfold dO Is;rfl)
def wZ (o:Option Str):Is H (dO .str o) (os o):=by cases o <;> (unfold dO Is;rfl)
def Py (h:Mr H v o):Is H (dO hU o) v:=by
 cases o with
 | none=>unfold dO Is;exact h
 | some it=>
  let⟨p,pv,a,rfl,h1,h2,h3⟩:=h;unfold dO hU;unfold Is;refine{p,_,rfl,h1,?_};unfold au;refine{_,_,rfl,tm h3,?_};unfold au;exact{_,_,rfl,GJ h2,by unfold au;rfl}
def CA:Sp:=λvs H Q _=>∃(t:Str),vs=[.str t]/\⇑t<=1000000/\∀p H',ao H H'->H' p=some (.lst ((words t).map V.str))->Q (.ref p) H'
def jA:Sp:=λvs H Q _=>∃(t:Str),vs=[.str t]/\⇑t<=600/\∀H',ao H H'->Q (os (bX t)) H'
def iU:Sp:=λvs H Q _=>∃(t:Str),vs=[.str t]/\⇑t<=600/\∀H',ao H H'->Q (ov (eE t)) H'
inductive rP (vs:List V) (H:Hp) (Q:VK) (E:XK):Prop
 | mk (t:Str) (lo hi:Int) (_:vs=[.str t,.int lo,.int hi]) (_:⇑t<=600) (_:∀H',ao H H'->Q (ov (j7 t lo hi)) H')
def AG:Sp:=λvs H Q _=>∃(t:Str),vs=[.str t]/\⇑t<=600/\∀v H',ao H H'->Gb H' v (KY t)->Q v H'
inductive AF (vs:List V) (H:Hp) (Q:VK) (E:XK):Prop
 | mk (a b:Str) (_:vs=[.str a,.str b]) (_:⇑a<=600) (_:⇑b<=600) (_:∀v H',ao H H'->Gb H' v (sk a b)->Q v H')
def uG (K:yq):Sp:=λvs H Q _=>∃(t:Str),vs=[.str t]/\⇑t<=600/\∀v H',ao H H'->Gb H' v (gR t)->Q v H'
def CD:Sp:=λvs H Q _=>∃(t:Str),vs=[.str t]/\⇑t<=600/\∀H',ao H H'->Q (ov (CW t)) H'
inductive uI (K:yq) (vs:List V) (H:Hp) (Q:VK) (E:XK):Prop
 | mk (a:wM) (us:List V) (_:vs=[.ref a]) (_:aE K H a us) (_:⇑us<=1000000) (_:∀H',ao H H'->Q (if us.any fu=true then .aX else .ref a) H')
inductive uH (vs:List V) (H:Hp) (Q:VK) (E:XK):Prop
 | mk (a:wM) (us:List V) (_:vs=[.ref a]) (_:H a=some (.tup us)) (_:⇑us<=1000000) (_:∀H',ao H H'->Q (if us.any fu=true then .aX else .ref a) H')
def pR:Sp:=λvs H Q _=>∃(t:Str),vs=[.str t]/\⇑t<=600/\∀v H',ao H H'->Is H' (dO fq (sr t)) v->Q v H'
inductive eR (K:yq) (D:Hp->Hp->V->List Str->Prop) (vs:List V) (H:Hp) (Q:VK) (E:XK):Prop
 | mk (p:wM) (ws:List Str) (_:vs=[.ref p]) (_:aE K H p (ws.map V.str)) (_:⇑ws<=1000000) (_:(∀x∈ws,⇑x<=600)) (_:∀v H',ao H H'->D H H' v ws->Q v H')
noncomputable def mK (x:Str×(Int×Int)×(Int×Int)):Dt:=.tup [.str x.1,dL x.2.1,dL x.2.2]
noncomputable def lj (x:Str×List Str):Dt:=.tup [.str x.1,l8 x.2]
noncomputable def qh (x:Str×Int×Str):Dt:=.tup [.str x.1,.int x.2.1,.str x.2.2]
def G7 (H:Hp) (v:V) (x:Int×Str×List Item):Prop:=∃a q vs,v=.ref a/\H a=some (.tup [.int x.1,.str x.2.1,.ref q])/\H q=some (.lst vs)/\au H (x.2.2.map hU) vs
def gI (H0 H:Hp) (v:V) (x:Int×Str×List Item):Prop:=∃a q vs,v=.ref a/\H a=some (.tup [.int x.1,.str x.2.1,.ref q])/\H q=some (.lst vs)/\au H (x.2.2.map hU) vs/\H0 q=none
def gI.at (h:gI H0 H v x):G7 H v x:=by
 let⟨a,q,vs,h1,h2,h3,h4,_⟩:=h;exact{(a),q,vs,h1,h2,h3,h4}
theorem gI.back (s:ao H00 H0) (h:gI H0 H v x):gI H00 H v x:=by
 let⟨a,q,vs,h1,h2,h3,h4,h5⟩:=h;exact{a,q,vs,h1,h2,h3,h4,s.back h5}
def ma (d:α->Dt) (f:List Str->Option α) (_ H:Hp) (v:V) (ws:List Str):Prop:=Is H (dO d (f ws)) v
def P2 (H0 H:Hp) (v:V) (ws:List Str):Prop:=match jE ws with
 | none=>v=.aX
 | some x=>gI H0 H v x
def d4 (h:Is H d v):au H [d] [v]:=by unfold au;exact{_,_,rfl,h,by unfold au;rfl}
def aN (h:Is H d v) (r:au H ds vs):au H (d::ds) (v::vs):=by unfold au;exact{_,_,rfl,h,r}
def i0:au H [] []:=by unfold au;rfl
def bZ (h:H a=some (.tup vs)) (r:au H ds vs):Is H (.tup ds) (.ref a):=by unfold Is;exact{_,_,rfl,h,r}
def jP:Is H (.str x) (.str x):=by unfold Is;rfl
def bJ:Is H (.int x) (.int x):=by unfold Is;rfl
def cW:Is H .aX .aX:=by unfold Is;rfl
def gM (xs:List V) (k:Nat):gf xs (some (k:Int)) none=xs.drop k:=by
 unfold gf;rw[HT.sj];let e:HT.de ⇑xs 0 (some (k:Int))=min k ⇑xs:=by unfold HT.de;simp;ext
 rw[e];rcases Nat.le_total k ⇑xs with h | h
 ·rw[Nat.min_eq_left h]
  exact xb (by rw[xi];exact zh _)
 ·rw[Nat.min_eq_right h,List.drop_eq_nil_of_le (zh _),List.drop_eq_nil_of_le h,List.take_nil]
def Mi (xs:List V) (k:Nat):gf xs none (some (k:Int))=xs.take k:=by
 unfold gf;rw[HT.sj,List.drop_zero,Nat.sub_zero];let e:HT.de ⇑xs ⇑xs (some (k:Int))=min k ⇑xs:=by unfold HT.de;simp;ext
 rw[e];rcases Nat.le_total k ⇑xs with h | h
 ·rw[Nat.min_eq_left h]
 ·rw[Nat.min_eq_right h,xb (zh _),xb h]
def mC (a b:Str) (r:List Str):oZ (a::b::r)=(match lx ((a::b::r).map bX) with | some (n::ps)=>some (n,ps) | _=>none):=rfl
def fM (H0 H:Hp) (v:V):Option Told->Prop
 | none=>v=.aX
 | some (.b6 n)=>v=.str n
 | some (.dk n t l)=>Is H (mK (n,t,l)) v
 | some (.cO n ps)=>Is H (lj (n,ps)) v
 | some (.bar b)=>Is H (tS b) v
 | some (.aR l)=>Is H (dL l) v
 | some (.holds p b i)=>Is H (qh (p,b,i)) v
 | some (.aL b p its)=>gI H0 H v (b,p,its)
 | some (.rep r)=>Is H (c9 r) v
 | some (.bA j)=>Is H (dn j) v
inductive CC (K:yq) (vs:List V) (H:Hp) (Q:VK) (E:XK):Prop
 | mk (p:wM) (x:Str) (ws:List Str) (_:vs=[.ref p]) (_:aE K H p ((x::ws).map V.str)) (_:⇑ws<=999999) (_:(∀y∈x::ws,⇑y<=600)) (_:∀v H',ao H H'->fM H H' v (iD (x::ws))->Q v H')
def kC (h:Is H (dO d o) v) (hg:∀x,Is H (d x) v->fM H0 H v (some (g x))):fM H0 H v (o.map g):=by
 cases o with
 | none=>unfold dO Is at h;exact h
 | some x=>exact hg x h
theorem fM.back (s:ao H00 H0):∀{t:Option Told},fM H0 H v t->fM H00 H v t
 | none,h=>h
 | some (.b6 _),h=>h
 | some (.dk _ _ _),h=>h
 | some (.cO _ _),h=>h
 | some (.bar _),h=>h
 | some (.aR _),h=>h
 | some (.holds _ _ _),h=>h
 | some (.aL _ _ _),h=>gI.back s h
 | some (.rep _),h=>h
 | some (.bA _),h=>h
def fN {α:Type} {l:List α} {i:Nat} {x:α} (h:l[i]?=some x):l.take (i+1)=l.take i++[x]:=by rw[xa,h];rfl
theorem GP:∀{l:List α} {i:Nat} {x:α},l[i]?=some x->(l.take i).find? p=none->p x=true->l.find? p=some x
 | [],i,x,h,_,_=>by simp at h
 | y::l,0,x,h,_,hx=>by simp at h;subst h;rw[yI,hx]
 | y::l,i+1,x,h,hn,hx=>by
  rw[List.take_succ_cons,yI] at hn;rw[yI];cases q:p y with
  | true=>rw[q] at hn;cases hn
  | false=>rw[q] at hn;exact GP (by simpa using h) hn hx
def Ac {α:Type} {p:α->Bool} {l:List α} {i:Nat} {x:α} (h:l[i]?=some x) (hn:(l.take i).find? p=none) (hx:p x=false):(l.take (i+1)).find? p=none:=by
 rw[fN h,List.find?_append,hn];simp[hx]
def vL (K:yq) (H:Hp) (p:wM) (rs:List Rep):Prop:=∃vs,aE K H p vs/\au H (rs.map c9) vs
theorem vL.mono {K:yq} {H H':Hp} (s:ao H H') {p:wM} {rs:List Rep} (h:vL K H p rs):vL K H' p rs:=by
 let⟨vs,h1,h2⟩:=h;exact{vs,s.seq h1,h2.mono s}
def cS (h:Is H (c9 r) v):∃a e,v=.ref a/\H a=some (.tup [.int r.first,.int r.last,.int r.times,.ref e])/\Is H (.tup (r.ends.map fq)) (.ref e):=by
 unfold c9 Is at h;let⟨a,vs,rfl,ha,hl⟩:=h;unfold au at hl;let⟨v1,r1,rfl,h1,hl⟩:=hl;unfold au at hl;let⟨v2,r2,rfl,h2,hl⟩:=hl;unfold au at hl;let⟨v3,r3,rfl,h3,hl⟩:=hl;unfold au at hl;let⟨v4,r4,rfl,h4,hl⟩:=hl;unfold au at hl;subst hl;unfold Is at h1 h2 h3;subst h1 h2 h3;let h4':=h4;unfold Is at h4;let⟨e,us,rfl,he,hle⟩:=h4;exact{(a),e,rfl,ha,h4'}
def hJ (h:Is H (fq e) v):∃a q,v=.ref a/\H a=some (.tup [.int e.1,.ref q])/\H q=some (.tup (e.2.map V.int)):=by
 unfold fq Is at h;let⟨a,vs,rfl,ha,hl⟩:=h;unfold au at hl;let⟨v1,r1,rfl,h1,hl⟩:=hl;unfold au at hl;let⟨v2,r2,rfl,h2,hl⟩:=hl;unfold au at hl;subst hl;unfold Is at h1;subst h1;unfold GV Is at h2;let⟨q,us,rfl,hq,hle⟩:=h2;rw[fT hle] at hq;exact{(a),q,rfl,ha,hq}
def dZ {H:Hp} {α:Type} {d:α->Dt} {xs:List α} {vs:List V} {i:Nat} {v:V} (h:au H (xs.map d) vs) (e:vs[i]?=some v):∃x,xs[i]?=some x/\Is H (d x) v:=by
 let⟨c,h1,h2⟩:=h.get e;rw[zF] at h1;cases q:xs[i]? with
 | none=>rw[q] at h1;cases h1
 | some x=>rw[q] at h1;cases h1;exact{(x),rfl,h2}
def aM {H:Hp} {α:Type} {d:α->Dt} {xs:List α} {vs:List V} (h:au H (xs.map d) vs):⇑vs=⇑xs:=by rw[h.len,za]
inductive qq (K:yq) (vs:List V) (H:Hp) (Q:VK) (E:XK):Prop
 | mk (p:wM) (rs:List Rep) (b:Int) (_:vs=[.ref p,.int b]) (_:vL K H p rs) (_:∀v,Is H (dO c9 (bP rs b)) v->Q v H)
inductive AH (K:yq) (vs:List V) (H:Hp) (Q:VK) (E:XK):Prop
 | mk (p:wM) (rs:List Rep) (b:Int) (_:vs=[.ref p,.int b]) (_:vL K H p rs) (_:Q (.bl (fc rs b)) H)
inductive AI (K:yq) (vs:List V) (H:Hp) (Q:VK) (E:XK):Prop
 | mk (p:wM) (rs:List Rep) (b:Int) (_:vs=[.ref p,.int b]) (_:vL K H p rs) (_:Q (.bl (cN rs b)) H)
noncomputable def Ie (x:Int×Int×List Int):Dt:=.tup [.int x.1,.int x.2.1,GV x.2.2]
inductive EO (vs:List V) (H:Hp) (Q:VK) (E:XK):Prop
 | mk (v:V) (r:Rep) (_:vs=[v]) (_:Is H (c9 r) v) (_:⇑r.ends<=1000000) (_:∀p us H',ao H H'->H' p=some (.lst us)->au H' ((fH r).map Ie) us->Q (.ref p) H')
inductive qv (K:yq) (vs:List V) (H:Hp) (Q:VK) (E:XK):Prop
 | mk (p:wM) (rs:List Rep) (b:Int) (_:vs=[.ref p,.int b]) (_:vL K H p rs) (_:(∀r∈rs,⇑r.ends<=1000000)) (_:∀H',ao H H'->Q (.bl (gZ rs b)) H')
def mM {α:Type} {J:It} {ws:List α} {σ₀:St} {g:TG} {te:TE} {Q:VK} {H1:Hp} (Y:α->V->Hp->Prop) (F:α->Dt) (Pσ:St->Prop) (hn:⇑ws<=sizeLine) (h0:Pσ σ₀)
  (go:∀i H,i<⇑ws->ao H1 H->J.go i H) (stop:∀H,ao H1 H->J.stop ⇑ws H) (yl:∀(i:Nat) x H H2 (hi:i<⇑ws),ao H1 H->J.Gg i H x H2->ao H H2/\Y ws[i] x H2)
  (turn:∀(a:α) (x:V) (σ:St) (H:Hp) (R:St->V->Hp->Prop),a∈ws->ao H1 H->Y a x H->Pσ σ->(∀σ3 y H5,ao H H5->Is H5 (F a) y->Pσ σ3->R σ3 y H5)->g x σ H λσ3 H3=>te σ3 H3 λy H5=>R σ3 y H5)
  (fin:∀D vs H,ao H1 H->H D=some (.lst vs)->au H (ws.map F) vs->Q (.ref D) H):du σ₀ g uC te Q J H1:=by
 refine{λi m xs σ H=>m=⇑ws-i/\i<=⇑ws/\⇑xs=i/\ao H1 H/\au H ((ws.take i).map F) xs/\Pσ σ,{_,rfl,zX _,rfl,ao.refl _,by simp[au],h0},?_};rintro i m xs σ H ⟨rfl,hi,hx,sm,il,pσ⟩;rcases xl i ⇑ws with hlt | hge
 ·refine .inr {go i H hlt sm,(),?_}
  intro x H2 hy;let⟨s2,hY⟩:=yl i x H H2 hlt sm hy;refine turn ws[i] x σ H2 (λσ3 y H5=>if true=true then∃m',m'<⇑ws-i/\(m'=⇑ws-(i+1)/\i+1<=⇑ws/\⇑(xs++[y])=i+1/\ao H1 H5/\au H5 ((ws.take (i+1)).map F) (xs++[y])/\Pσ σ3) else False) (yb hlt) (sm.trans s2) hY pσ ?_;rintro σ3 y H5 s5 iy p3;rw[yE rfl];refine{_,(),rfl,hlt,by simp[hx],(sm.trans s2).trans s5,?_,p3};rw[xa,zb hlt,zg];exact dF iy (il.mono (s2.trans s5))
 ·let e:i=⇑ws:=()
  subst e;refine .inl {stop H sm,(),λD hD=>?_};let il':au H (ws.map F) xs:=by rw[zI] at il;exact il
  exact fin D xs _ (sm.trans (bW hD)) aA (il'.mono (bW hD))
structure Ow where
 dx:wM
 pl:wM
 ins:wM
 st:wM
 ba:wM
 ho:wM
 no:wM
 re:wM
 hs:List wM
 ns:List wM
noncomputable def Ow.lists (o:Ow):List wM:=[o.pl,o.ba,o.re]++o.hs++o.ns
noncomputable def Lp (o:Ow) (ub jm:V):List (Str×V):=[("players",.ref o.pl),("instruments",.ref o.ins),("staffs",.ref o.st),("bars",.ref o.ba),("upbeat",ub),("holds",.ref o.ho),("notes",.ref o.no),("repeats",.ref o.re),("jump",jm)]
noncomputable def kS (x:Str):Key:=Sum.inr x
noncomputable def kN (x:Int×Str):List Key:=[Sum.inl x.1,Sum.inr x.2]
noncomputable def Kz (x:Str×(Int×Int)×(Int×Int)):Dt:=.tup [dL x.2.1,dL x.2.2]
noncomputable def Mg (x:Str×List Str):Dt:=l8 x.2
noncomputable def Mh (x:Int×Str):Dt:=.tup [.int x.1,.str x.2]
def bG (H:Hp) (d:α->Dt):List (List α)->List wM->Prop
 | [],as=>as=[]
 | l::r,as=>∃a t vs,as=a::t/\H a=some (.lst vs)/\au H (l.map d) vs/\bG H d r t
inductive RQ (C:wM) (H:Hp) (a:wM) (o:Ow) (u:Option (Int×Int)) (j:Option Jump):Prop
 | mk (ub jm:V) (_:H a=some (.ins C o.dx (Lp o ub jm))) (_:Is H (dO dL u) ub) (_:Is H (dO dn j) jm)
inductive KO {α:Type} (H:Hp) (d:α->Dt) (a:wM) (l:List α):Prop
 | mk (vs:List V) (_:H a=some (.lst vs)) (_:au H (l.map d) vs)
inductive Mt {α:Type} (H:Hp) (d:Str×α->Dt) (a:wM) (l:List (Str×α)):Prop
 | mk (vs:List V) (_:H a=some (.dK ((l.map λx=>kS x.1).zip vs))) (_:au H (l.map d) vs)
structure bF (C:wM) (H:Hp) (a:wM) (S:c6) (o:Ow):Prop where
 obj:RQ C H a o S.aR S.bA
 pl:H o.pl=some (.lst (S.aP.map V.str))
 ins:Mt H Kz o.ins S.aF
 st:Mt H Mg o.st S.bL
 ba:KO H tS o.ba S.bars
 ho:H o.ho=some (.dK ((S.holds.map λx=>kS x.1).zip (o.hs.map V.ref)))/\bG H Mh (S.holds.map (·.2)) o.hs
 no:H o.no=some (.dT ((S.aL.map λx=>kN x.1).zip (o.ns.map V.ref)))/\bG H hU (S.aL.map (·.2)) o.ns
 re:KO H c9 o.re S.repeats
 nd:o.lists.Nodup
 dd:[o.ins,o.st,o.ho].Nodup
theorem bG.mono (s:ao H H'):∀{ls:List (List α)} {as:List wM},bG H d ls as->bG H' d ls as
 | [],_,h=>h
 | l::r,_,⟨a,t,vs,e,h1,h2,h3⟩=>{a,t,vs,e,s _ _ h1,h2.mono s,bG.mono s h3}
theorem bF.mono (s:ao H H') (h:bF C H a S o):bF C H' a S o where
 obj:=by let⟨ub,jm,h1,h2,h3⟩:=h.obj;exact{ub,jm,s _ _ h1,h2.mono s,h3.mono s}
 pl:=s _ _ h.pl
 ins:=by let⟨vs,h1,h2⟩:=h.ins;exact{vs,s _ _ h1,h2.mono s}
 st:=by let⟨vs,h1,h2⟩:=h.st;exact{vs,s _ _ h1,h2.mono s}
 ba:=by let⟨vs,h1,h2⟩:=h.ba;exact{vs,s _ _ h1,h2.mono s}
 ho:={s _ _ h.ho.1,h.ho.2.mono s}
 no:={s _ _ h.no.1,h.no.2.mono s}
 re:=by let⟨vs,h1,h2⟩:=h.re;exact{vs,s _ _ h1,h2.mono s}
 nd:=h.nd
 dd:=h.dd
def cv (o:Option HO):Prop:=∀vs,o≠some (.tup vs)
mutual
theorem Is.upd (hx:cv (H x)):∀{d:Dt} {v:V},Is H d v->Is (upd H x o) d v
 | .aX,_,h=>by unfold Is at h ⊢;exact h
 | .bl _,_,h=>by unfold Is at h ⊢;exact h
 | .int _,_,h=>by unfold Is at h ⊢;exact h
 | .str _,_,h=>by unfold Is at h ⊢;exact h
 | .tup l,_,h=>by
  unfold Is at h ⊢;let⟨a,vs,e,ha,hl⟩:=h;let ne:a≠x:=λz=>hx vs (by rw[<-z];exact ha);exact{a,vs,e,by rw[ar ne];exact ha,au.upd hx hl}
theorem au.upd (hx:cv (H x)):∀{l:List Dt} {vs:List V},au H l vs->au (L2.upd H x o) l vs
 | [],_,h=>by unfold au at h ⊢;exact h
 | d::l,_,h=>by
  unfold au at h ⊢;let⟨v,r,e,hv,hr⟩:=h;exact{v,r,e,Is.upd hx hv,au.upd hx hr}
end
theorem bG.upd (hx:cv (H x)):∀{ls:List (List α)} {as:List wM},x∉as->bG H d ls as->bG (L2.upd H x o) d ls as
 | [],_,_,h=>h
 | l::r,_,nx,⟨a,t,vs,e,h1,h2,h3⟩=>by
  subst e;let ne:a≠x:=λz=>nx (by rw[z];exact zk);exact{a,t,vs,rfl,by rw[ar ne];exact h1,au.upd hx h2,bG.upd hx (λz=>nx (zj _ z)) h3}
structure Cf (K:yq) (C:wM):Prop where
 cls:Mu K C
 aP:cw K C "players"
 aF:cw K C "instruments"
 bL:cw K C "staffs"
 bars:cw K C "bars"
 aR:cw K C "upbeat"
 holds:cw K C "holds"
 aL:cw K C "notes"
 repeats:cw K C "repeats"
 bA:cw K C "jump"
def Mc (n:Nat):NumText.digitsVal (dec (n:Int)).cps.toList=n:=by rw[rf];exact PySem.W.KIN.val_back n
def Ny {most:Int} {n k:Nat} (hk:0<k) (hm:(k:Int)<=most) (h:n<10^k):rn most (dec (n:Int)).cps.toList=some (n:Int):=by
 let l1:=DU (n:=n);let l2:=Af hk h;let el:⇑(dec (n:Int)).cps.toList=⇑(dec (n:Int)):=yG;let ha:((dec (n:Int)).cps.toList.all λc=>decide (c∈qK))=true:=ye.mpr λc hc=>zd (N6 (jq hc).1 (jq hc).2);unfold rn;rw[yD (),yD (),yE ha,yD,Mc];rintro⟨z1,z2⟩;have:=HX (n:=n) (by rw[<-yY];exact z1);ext
def lB {most n:Int} {k:Nat} (hk:0<k) (hm:(k:Int)<=most) (h0:0<=n) (h:n<10^k):rn most (dec n).cps.toList=some n:=by
 let⟨m,rfl⟩:=yB h0;exact Ny hk hm (by exact_mod_cast h)
def eA {n:Int} (h0:0<=n) (h:n<1000):eE (dec n)=some n:=lB (k:=3) ∅ ∅ h0 ()
def vX (h0:0<=n) (h:n<1000) (h1:lo<=n) (h2:n<=hi):j7 (dec n) lo hi=some n:=by
 unfold j7;rw[eA h0 h];dsimp only;rw[yD (),yD ()]
def E6 {most n:Int} {k:Nat} (hk:0<k) (hm:(k:Int)<=most) (h1:-(10^k)<n) (h2:n<10^k):rs most (dec n)=some n:=by
 unfold rs
 by_cases h0:0<=n
 ·rw[yD,lB hk hm h0 h2]
  intro z;let⟨m,rfl⟩:=yB h0;have:=jq (zw z);ext
 ·let e:(dec n).cps.toList=45::(dec (-n)).cps.toList:=by rw[q9 (),cu];rfl
  rw[e,yE (show(45::(dec (-n)).cps.toList)[0]?=some 45 from rfl)];show(match rn most (dec (-n)).cps.toList with | some n=>if n=0 then none else some (-n) | none=>none)=_;rw[lB hk hm () ()];dsimp only;rw[yD (),Int.neg_neg]
def Jg {q:Int×Int} (h:Qm q):rp (dec q.1) (dec q.2)=some q:=by
 let⟨h1,h2,h3,h4,h5⟩:=h;unfold rp;rw[E6 (k:=2) ∅ ∅ () (),E6 (k:=2) ∅ ∅ () ()];dsimp only;rw[yE h5]
def DW (n:Int):47∉(dec n).cps.toList:=fh ∅ ∅
def GS (n:Int):58∉(dec n).cps.toList:=fh ∅ ∅
def DD {x:Int×Int} (h:Rd x) (h1:x.1<10000) (h2:x.2<10000):KY (kT x)=some x:=by
 let⟨p1,p2,p3⟩:=h.pos;unfold kT KY
 by_cases c:x.2=1
 ·rw[yE c,show Txt.split (dec x.1) "/"= [dec x.1] from split1 (c:=47) (DW _)]
  dsimp only;rw[lB (k:=4) ∅ ∅ p1 ()];dsimp only;rw[<-c,p3]
 ·rw[yD c,show Txt.split (dec x.1 ++"/" ++ dec x.2) "/"= [dec x.1,dec x.2] from AD (c:=47) (DW _) (DW _)]
  dsimp only;rw[lB (k:=4) ∅ ∅ p1 (),lB (k:=4) ∅ ∅ () ()];dsimp only;rw[yD (),p3]
def Bu (h:OC x):lr (kT x)=some x:=by
 let⟨h1,h2,h3,h4⟩:=h;unfold lr;rw[DD h1 h3 h4];dsimp only;rw[yD ()]
def LZ (h:P8 it):ir (Bx it)=some it:=by
 let⟨o,x⟩:=it;let⟨h1,h2⟩:=h;cases o with
 | none=>
  let e:Txt.split (Bx (none,x)) ":"= [("r": Str),kT x]:=AD (c:=58) (a:="r") ∅ (wV h1);unfold ir;rw[e];show(match lr (kT x) with | none=>none | some x=>_)=_;rw[Bu h1];exact yE rfl
 | some q=>
  let e:Txt.split (Bx (some q,x)) ":"= [dec q.1,dec q.2,kT x]:=Nr (c:=58) (GS _) (GS _) (wV h1);unfold ir;rw[e];show(match lr (kT x) with | none=>none | some x=>_)=_;rw[Bu h1];dsimp only;rw[yD (by simp)];show(match rp (dec q.1) (dec q.2) with | some q=>some (some q,x) | none=>none)=_;rw[Jg (h2 q rfl)]
def E8 (h1:1<=a) (h2:a<=32) (h3:b∈vC):gR (dec a ++"/" ++ dec b)=some (a,b):=by
 let hb:0<=b/\b<1000:=by
  unfold vC at h3;simp at h3;ext
 unfold gR;rw[show Txt.split (dec a ++"/" ++ dec b) "/"= [dec a,dec b] from AD (c:=47) (DW _) (DW _)];dsimp only;rw[vX () () h1 h2,eA hb.1 hb.2];dsimp only;rw[yE h3]
def Jm {k:Int} (h1:-7<=k) (h2:k<=7):CW (dec k)=some k:=by
 unfold CW;rw[E6 (k:=3) ∅ ∅ () ()];dsimp only;rw[yD (by split <;> ext)]
def Hu (h:Qm q) (h1:-12<=q.1) (h2:q.1<=12):sk (dec q.1) (dec q.2)=some q:=by
 unfold sk;rw[Jg h];dsimp only;rw[yD (by split <;> ext)]
theorem lu:∀{l:List α},(∀x∈l,f (g x)=some x)->lx ((l.map g).map f)=some l
 | [],_=>rfl
 | x::l,h=>by
  rw[zf,zf,h x zk];unfold lx;rw[lu λy hy=>h y (zj _ hy)]
noncomputable def lU (e:End):Str:=dec e.1 ++":" ++ Str.join "," (e.2.map dec)
def RJ (e:End):Prop:=0<=e.1/\e.1<1000/\e.2≠[]/\∀p∈e.2,0<=p/\p<1000
theorem lL (hs:c∉sep.cps.toList):∀{zs:List Str},(∀z∈zs,c∉z.cps.toList)->c∉(Str.join sep zs).cps.toList
 | [],_=>by show c∉("": Str).cps.toList;exact zz
 | [z],h=>h z zk
 | z::y::r,h=>by
  rw[eI,cu,cu];intro m;rcases zB.mp m with m | m
  ·rcases zB.mp m with m | m
   ·exact h z zk m
   ·exact hs m
  ·exact lL hs (λx hx=>h x (zj _ hx)) m
def Jn (h:RJ e):sr (lU e)=some e:=by
 let⟨h1,h2,h3,h4⟩:=h;let f:58∉(Str.join "," (e.2.map dec)).cps.toList:=lL ∅ λz hz=>by
  let⟨y,_,rfl⟩:=zC.mp hz;exact GS _
 unfold sr lU;rw[show Txt.split (dec e.1 ++":" ++ Str.join "," (e.2.map dec)) ":"= [dec e.1,Str.join "," (e.2.map dec)] from AD (c:=58) (GS _) f];dsimp only;rw[show Txt.split (Str.join "," (e.2.map dec)) ","= e.2.map dec from fA (c:=44) (by simpa using h3) λz hz=>by
  let⟨y,_,rfl⟩:=zC.mp hz;exact fh ∅ ∅]
 rw[eA h1 h2,lu λx hx=>eA (h4 x hx).1 (h4 x hx).2]
def Iv (w:Str):Prop:=w≠ ""/\32∉w.cps.toList/\10∉w.cps.toList
def EC (ne:ws≠[]) (h:∀w∈ws,Iv w):words (Str.join " " ws)=ws:=by
 unfold words;rw[show Txt.split (Str.join " " ws) " "= ws from fA (c:=32) ne λw hw=>(h w hw).2.1];exact List.filter_eq_self.mpr λw hw=>zd (h w hw).1
def eJ (n:Int):Iv (dec n):=by
 refine{λz=>?_,fh ∅ ∅,fh ∅ ∅}
 by_cases h:0<=n
 ·let⟨m,rfl⟩:=yB h
  have:=DU (n:=m);rw[z] at this;exact absurd this ∅
 ·let e:(dec n).cps.toList=45::(dec (-n)).cps.toList:=by rw[q9 (),cu];rfl
  rw[z] at e;cases e
def Eg (ha:Iv a) (hb1:32∉b.cps.toList) (hb2:10∉b.cps.toList):Iv (a++b):=by
 refine{λz=>ha.1 (m6 ?_),λm=>?_,λm=>?_}
 ·let e:(a++b).cps.toList=("": Str).cps.toList:=by rw[z]
  rw[cu] at e;exact(List.append_eq_nil_iff.mp e).1
 ·rw[cu] at m
  rcases zB.mp m with m | m
  ·exact ha.2.1 m
  ·exact hb1 m
 ·rw[cu] at m
  rcases zB.mp m with m | m
  ·exact ha.2.2 m
  ·exact hb2 m
def B6 (ha:Iv a) (hb1:32∉b.cps.toList) (hb2:10∉b.cps.toList) (hc:Iv c):Iv (a++b++c):=Eg (Eg ha hb1 hb2) hc.2.1 hc.2.2
def sY (x:Int×Int):Iv (kT x):=by
 unfold kT;split
 ·exact eJ _
 ·exact B6 (eJ _) ∅ ∅ (eJ _)
def NZ (it:Item):Iv (Bx it):=by
 let⟨o,x⟩:=it;cases o with
 | none=>exact Eg (a:="r:") {∅,∅,∅} (sY x).2.1 (sY x).2.2
 | some q=>exact B6 (B6 (eJ _) ∅ ∅ (eJ _)) ∅ ∅ (sY x)
def Od (e:End):Iv (lU e):=by
 let f:∀c,c≠44->c≠45->¬(48<=c/\c<=57)->c∉(Str.join "," (e.2.map dec)).cps.toList:=λc h0 h1 h2=>lL (by show c∉[44];simpa using h0) λz hz=>by
  let⟨y,_,rfl⟩:=zC.mp hz;exact fh h1 h2
 unfold lU;exact Eg (Eg (eJ _) ∅ ∅) (f 32 ∅ ∅ ∅) (f 10 ∅ ∅ ∅)
def jy (n:Str):Prop:=bX n=some n
def jy.w (h:jy n):Iv n:=by
 unfold jy bX at h;split at h
 ·cases h
 ·split at h
  ·cases h
  ·split at h
   ·rename_i h1 _ h3
    let hs:∀c,c∉sgn->c∉n.cps.toList:=λc hc m=>hc (zV (ye.mp h3 c m));refine{λz=>h1 (by rw[z];decide),hs 32 ∅,hs 10 ∅}
   ·cases h
noncomputable def ctxt:Option Int->Str
 | none=> "end"
 | some n=>dec n
noncomputable def wordsOf:Told->List Str
 | .b6 n=>["player",n]
 | .dk n t l=>["instrument",n,dec t.1,dec t.2,kT l]
 | .cO n ps=> "staff":: n::ps
 | .bar b=> "bar":: (dec b.cg.1 ++"/" ++ dec b.cg.2)::dec b.key::b.marks
 | .aR l=>["upbeat",kT l]
 | .holds p b i=>["holds",p,dec b,i]
 | .aL b p its=> "notes":: dec b::p::its.map Bx
 | .rep r=> "repeat":: dec r.first::dec r.last::dec r.times::r.ends.map lU
 | .bA j=>["jump",dec j.ky,dec j.l6,dec j.aY,ctxt j.eM]
noncomputable def rowOf (t:Told):Str:=Str.join " " (wordsOf t)
def NB (n:Int):Prop:=0<=n/\n<1000
def KL:Told->Prop
 | .b6 n=>jy n
 | .dk n t l=>jy n/\Qm t/\-12<=t.1/\t.1<=12/\Lm.Rd l/\l.1<10000/\l.2<10000
 | .cO n ps=>jy n/\ps≠[]/\∀p∈ps,jy p
 | .bar b=>1<=b.cg.1/\b.cg.1<=32/\b.cg.2∈vC/\-7<=b.key/\b.key<=7/\∀m∈b.marks,jy m
 | .aR l=>OC l
 | .holds p b i=>jy p/\NB b/\jy i
 | .aL b p its=>NB b/\jy p/\(∀it∈its,P8 it)/\its.all (λit=>it.1.isNone)=false
 | .rep r=>NB r.first/\NB r.last/\2<=r.times/\r.times<=9/\∀e∈r.ends,RJ e
 | .bA j=>NB j.ky/\NB j.l6/\NB j.aY/\∀c,j.eM=some c->NB c
def G4 (h:∀p∈l,jy p):lx (l.map bX)=some l:=by
 have:=lu (f:=bX) (g:=λx:Str=>x) (l:=l) h
 rwa [List.map_id'] at this
def sC (h:KL t):iD (wordsOf t)=some t:=by
 cases t with
 | b6 n=>
  show(bX n).map Told.b6=_;rw[show bX n=some n from h];rfl
 | dk n t l=>
  let⟨h1,h2,h3,h4,h5,h6,h7⟩:=h;show(kL [n,dec t.1,dec t.2,kT l]).map (λx=>Told.dk x.1 x.2.1 x.2.2)=_;unfold kL;dsimp only;rw[show bX n=some n from h1,Hu h2 h3 h4,DD h5 h6 h7];rfl
 | cO n ps=>
  let⟨h1,h2,h3⟩:=h;show(oZ (n::ps)).map (λx=>Told.cO x.1 x.2)=_;let⟨b,r,rfl⟩:=List.exists_cons_of_ne_nil h2;rw[mC,G4 (l:=n::b::r) λp hp=>by
   rcases zy.mp hp with e | e
   ·rw[e];exact h1
   ·exact h3 p e]
  rfl
 | bar b=>
  let⟨h1,h2,h3,h4,h5,h6⟩:=h;show(A7 ((dec b.cg.1 ++"/" ++ dec b.cg.2)::dec b.key::b.marks)).map Told.bar=_;unfold A7;dsimp only;rw[G4 h6,E8 h1 h2 h3,Jm h4 h5];rfl
 | aR l=>
  show(lr (kT l)).map Told.aR=_;rw[Bu h];rfl
 | holds p b i=>
  let⟨h1,h2,h3⟩:=h;show(pV [p,dec b,i]).map (λx=>Told.holds x.1 x.2.1 x.2.2)=_;unfold pV;dsimp only;rw[show bX p=some p from h1,eA h2.1 h2.2,show bX i=some i from h3];rfl
 | aL b p its=>
  let⟨h1,h2,h3,h4⟩:=h;show(jE (dec b::p::its.map Bx)).map (λx=>Told.aL x.1 x.2.1 x.2.2)=_;cases its with
  | nil=>cases h4
  | cons i r=>
   show(jE (dec b::p::Bx i::r.map Bx)).map _=_;unfold jE;let e:=lu (f:=ir) (g:=Bx) (l:=i::r) λx hx=>LZ (h3 x hx);rw[zf] at e;dsimp only;rw[e];dsimp only;rw[h4,eA h1.1 h1.2,show bX p=some p from h2];rfl
 | rep r=>
  let⟨h1,h2,h3,h4,h5⟩:=h;show(jD (dec r.first::dec r.last::dec r.times::r.ends.map lU)).map Told.rep=_;unfold jD;dsimp only;rw[lu λx hx=>Jn (h5 x hx),eA h1.1 h1.2,eA h2.1 h2.2,vX () () h3 h4];rfl
 | bA j=>
  let⟨h1,h2,h3,h4⟩:=h;show(sE [dec j.ky,dec j.l6,dec j.aY,ctxt j.eM]).map Told.bA=_;unfold sE;dsimp only;rw[eA h1.1 h1.2,eA h2.1 h2.2,eA h3.1 h3.2];let⟨a,b,c,d⟩:=j;cases d with
  | none=>rfl
  | some n=>
   dsimp only[ctxt];rw[eA (h4 n rfl).1 (h4 n rfl).2];rfl
def Gi (h:KL t):∀w∈wordsOf t,Iv w:=by
 let lit:∀s:Str,s≠ ""->32∉s.cps.toList->10∉s.cps.toList->Iv s:=λs a b c=>{(a),b,c}
 cases t with
 | b6 n=>
  intro w hw;simp only[wordsOf,zy,zz,yK] at hw;rcases hw with rfl | rfl
  ·exact lit _ ∅ ∅ ∅
  ·exact jy.w h
 | dk n t l=>
  intro w hw;simp only[wordsOf,zy,zz,yK] at hw;rcases hw with rfl | rfl | rfl | rfl | rfl
  ·exact lit _ ∅ ∅ ∅
  ·exact jy.w h.1
  ·exact eJ _
  ·exact eJ _
  ·exact sY _
 | cO n ps=>
  intro w hw;simp only[wordsOf,zy] at hw;rcases hw with rfl | rfl | hw
  ·exact lit _ ∅ ∅ ∅
  ·exact jy.w h.1
  ·exact jy.w (h.2.2 _ hw)
 | bar b=>
  intro w hw;simp only[wordsOf,zy] at hw;rcases hw with rfl | rfl | rfl | hw
  ·exact lit _ ∅ ∅ ∅
  ·exact B6 (eJ _) ∅ ∅ (eJ _)
  ·exact eJ _
  ·exact jy.w (h.2.2.2.2.2 _ hw)
 | aR l=>
  intro w hw;simp only[wordsOf,zy,zz,yK] at hw;rcases hw with rfl | rfl
  ·exact lit _ ∅ ∅ ∅
  ·exact sY _
 | holds p b i=>
  intro w hw;simp only[wordsOf,zy,zz,yK] at hw;rcases hw with rfl | rfl | rfl | rfl
  ·exact lit _ ∅ ∅ ∅
  ·exact jy.w h.1
  ·exact eJ _
  ·exact jy.w h.2.2
 | aL b p its=>
  intro w hw;simp only[wordsOf,zy,zC] at hw;rcases hw with rfl | rfl | rfl | ⟨x,_,rfl⟩
  ·exact lit _ ∅ ∅ ∅
  ·exact eJ _
  ·exact jy.w h.2.1
  ·exact NZ _
 | rep r=>
  intro w hw;simp only[wordsOf,zy,zC] at hw;rcases hw with rfl | rfl | rfl | rfl | ⟨x,_,rfl⟩
  ·exact lit _ ∅ ∅ ∅
  ·exact eJ _
  ·exact eJ _
  ·exact eJ _
  ·exact Od _
 | bA j=>
  intro w hw;simp only[wordsOf,zy,zz,yK] at hw;rcases hw with rfl | rfl | rfl | rfl | rfl
  ·exact lit _ ∅ ∅ ∅
  ·exact eJ _
  ·exact eJ _
  ·exact eJ _
  ·unfold ctxt
   cases j.eM with
   | none=>exact lit _ ∅ ∅ ∅
   | some n=>exact eJ _
def ED (t:Told):wordsOf t≠[]:=by cases t <;> simp[wordsOf]
def vY (h:KL t):words (rowOf t)=wordsOf t:=EC (ED t) (Gi h)
def Ji (h:KL t):10∉(rowOf t).cps.toList:=lL ∅ λw hw=>(Gi h w hw).2.2
noncomputable def kindOf:HO->Nat
 | .lst _=>0
 | .tup _=>1
 | .ins _ _ _=>2
 | .dK _=>3
 | .dT _=>4
 | _=>5
def e9 {a b:Nat} (h:Nat.beq a b=false):a≠b:=λz=>by rw[z,Nat.beq_refl] at h;cases h
def aO {H:Hp} {a b:wM} {u v:HO} (h1:H a=some u) (h2:H b=some v) (k:kindOf u≠kindOf v):a≠b:=λz=>by
 rw[z,h2] at h1;cases h1;exact k rfl
noncomputable def own (a:wM) (o:Ow):List wM:=[a,o.pl,o.ins,o.st,o.ba,o.ho,o.no,o.re]++o.hs++o.ns
def qR (L:List wM) (H H':Hp):Prop:=∀b u,b∉L->H b=some u->H' b=some u
def qR.of (s:ao H H'):qR L H H':=λb u _ h=>s b u h
def qR.trans (s:qR L H H') (t:qR L H' H''):qR L H H'':=λb u n h=>t b u n (s b u n h)
theorem qR.upd (h:x∈L):qR L H (L2.upd H x o):=λb u n e=>by
 rw[ar (λz=>n (by rw[z];exact h))];exact e
structure Nd (o:Ow):Prop where
 pb:o.pl≠o.ba
 pr:o.pl≠o.re
 ph:o.pl∉o.hs
 pn:o.pl∉o.ns
 br:o.ba≠o.re
 bh:o.ba∉o.hs
 bn:o.ba∉o.ns
 rh:o.re∉o.hs
 rn:o.re∉o.ns
 hh:o.hs.Nodup
 nn:o.ns.Nodup
 hn:∀x∈o.hs,x∉o.ns
def Nd.of (h:o.lists.Nodup):Nd o:=by
 unfold Ow.lists at h;rw[zN] at h;let⟨h1,h2,h3⟩:=h;rw[zN] at h1;let⟨h4,h5,h6⟩:=h1;simp only[zU,zy,zz,yK,not_or] at h4;refine{h4.1.1,h4.1.2,λz=>?_,λz=>?_,h4.2.1,λz=>?_,λz=>?_,λz=>?_,λz=>?_,h5,h2,λx hx z=>?_}
 ·exact h6 o.pl (by simp) o.pl z rfl
 ·exact h3 o.pl (by simp) o.pl z rfl
 ·exact h6 o.ba (by simp) o.ba z rfl
 ·exact h3 o.ba (by simp) o.ba z rfl
 ·exact h6 o.re (by simp) o.re z rfl
 ·exact h3 o.re (by simp) o.re z rfl
 ·exact h3 x (by simp[hx]) x z rfl
def Nd.to (h:Nd o):o.lists.Nodup:=by
 unfold Ow.lists;rw[zN];refine{?_,h.nn,?_}
 ·rw[zN]
  refine{?_,h.hh,?_}
  ·simp only[zU,zy,zz,yK,not_or]
   exact{{(h.pb),h.pr},h.br,λz=>z,xH}
  ·intro x hx y hy e
   subst e;simp only[zy,zz,yK] at hx;rcases hx with rfl | rfl | rfl
   ·exact h.ph hy
   ·exact h.bh hy
   ·exact h.rh hy
 ·intro x hx y hy e
  subst e;rw[zB] at hx;rcases hx with hx | hx
  ·simp only[zy,zz,yK] at hx
   rcases hx with rfl | rfl | rfl
   ·exact h.pn hy
   ·exact h.bn hy
   ·exact h.rn hy
  ·exact h.hn x hx hy
section
variable {C a x:wM} {H:Hp} {S:c6} {o:Ow} {u:HO}
def bF.wR (h:bF C H a S o) (nx:cv (H x)) (n:a≠x):RQ C (L2.upd H x u) a o S.aR S.bA:=by
 let⟨ub,jm,h1,h2,h3⟩:=h.obj;exact{ub,jm,by rw[ar n];exact h1,Is.upd nx h2,Is.upd nx h3}
def bF.Ba (h:bF C H a S o) (n:o.pl≠x):L2.upd H x u o.pl=some (.lst (S.aP.map V.str)):=by rw[ar n];exact h.pl
def bF.nV (h:bF C H a S o) (nx:cv (H x)) (n:o.ins≠x):Mt (L2.upd H x u) Kz o.ins S.aF:=by
 let⟨vs,h1,h2⟩:=h.ins;exact{vs,by rw[ar n];exact h1,au.upd nx h2}
def bF.AB (h:bF C H a S o) (nx:cv (H x)) (n:o.st≠x):Mt (L2.upd H x u) Mg o.st S.bL:=by
 let⟨vs,h1,h2⟩:=h.st;exact{vs,by rw[ar n];exact h1,au.upd nx h2}
def bF.B3 (h:bF C H a S o) (nx:cv (H x)) (n:o.ba≠x):KO (L2.upd H x u) tS o.ba S.bars:=by
 let⟨vs,h1,h2⟩:=h.ba;exact{vs,by rw[ar n];exact h1,au.upd nx h2}
def bF.A4 (h:bF C H a S o) (nx:cv (H x)) (n:o.re≠x):KO (L2.upd H x u) c9 o.re S.repeats:=by
 let⟨vs,h1,h2⟩:=h.re;exact{vs,by rw[ar n];exact h1,au.upd nx h2}
def bF.DH (h:bF C H a S o) (nx:cv (H x)) (n:o.ho≠x) (nn:x∉o.hs):L2.upd H x u o.ho=some (.dK ((S.holds.map λx=>kS x.1).zip (o.hs.map V.ref)))/\bG (L2.upd H x u) Mh (S.holds.map (·.2)) o.hs:=
 {by rw[ar n];exact h.ho.1,bG.upd nx nn h.ho.2}
def bF.Bp (h:bF C H a S o) (nx:cv (H x)) (n:o.no≠x) (nn:x∉o.ns):L2.upd H x u o.no=some (.dT ((S.aL.map λx=>kN x.1).zip (o.ns.map V.ref)))/\bG (L2.upd H x u) hU (S.aL.map (·.2)) o.ns:=
 {by rw[ar n];exact h.no.1,bG.upd nx nn h.no.2}
end
theorem bN:∀{ls:List (List α)} {as:List wM},bG H d ls as->x∈as->∃vs,H x=some (.lst vs)
 | [],_,h,hx=>by unfold bG at h;subst h;simp at hx
 | l::r,_,⟨a,t,vs,e,h1,_,h3⟩,hx=>by
  subst e;rcases zy.mp hx with rfl | hx
  ·exact{(vs),h1}
  ·exact bN h3 hx
theorem bG.snoc (hx:H x=some (.lst vs)) (im:au H (m.map d) vs):∀{ls:List (List α)} {as:List wM},bG H d ls as->bG H d (ls++[m]) (as++[x])
 | [],_,h=>by unfold bG at h;subst h;exact{x,[],vs,rfl,hx,im,rfl}
 | l::r,_,⟨a,t,vs',e,h1,h2,h3⟩=>by
  subst e;exact{a,t++[x],vs',rfl,h1,h2,bG.snoc hx im h3}
def IK (h:l.length=m.length) (x:α) (y:β):(l++[x]).zip (m++[y])=l.zip m++[(x,y)]:=by
 rw[List.zip_append h];rfl
def nA {κ:Type} [DecidableEq κ] {ks:List κ} {vs:List V} (hl:⇑ks=⇑vs) {k:κ} {v:V} (h:d5 (ks.zip vs) k=none):putK (ks.zip vs) k v=(ks++[k]).zip (vs++[v]):=by
 rw[IK hl];exact Jy v h
theorem w6 (p:Str):∀{hs:List (Str×List α)} {as:List wM},bG H d (hs.map (·.2)) as->as.Nodup->(hs.map (·.1)).Nodup->p∈hs.map (·.1)->
  ∃x vs,d5 ((hs.map λx=>kS x.1).zip (as.map V.ref)) (kS p)=some (.ref x)/\x∈as/\H x=some (.lst vs)/\∀y e,Is (L2.upd H x (.lst (vs++[y]))) (d e) y->
   bG (L2.upd H x (.lst (vs++[y]))) d ((hs.map λq=>if q.1=p then(q.1,q.2++[e]) else q).map (·.2)) as
 | [],_,_,_,_,h=>by simp at h
 | (k,l)::r,_,hL,na,nk,hm=>by
  rw[zf] at hL;let⟨a,t,vs,rfl,h1,h2,h3⟩:=hL;rw[zf,zU] at nk;rw[zU] at na
  by_cases e:k=p
  ·subst e
   refine{a,vs,?_,zk,h1,λy e iy=>?_}
   ·rw[zf,zf,yM]
    unfold d5;rw[yI];simp
   ·let nx:cv (H a):=by rw[h1];exact λ_ z=>by cases z
    let er:(r.map λq=>if q.1=k then(q.1,q.2++[e]) else q)=r:=by
     conv=>rhs;rw[<-List.map_id r]
     refine xc λq hq=>?_;rw[yD (λz=>nk.1 (by rw[show(k,l).1=q.1 from z.symm];exact zK (f:=λx:Str×List α=>x.1) hq))];rfl
    rw[zf,zf,yE rfl,er];refine{a,t,vs++[y],rfl,aA,?_,bG.upd nx na.1 h3};rw[zg];exact dF iy (au.upd nx h2)
  ·let hm':p∈r.map (·.1):=by
    rcases zy.mp hm with z | z
    ·exact absurd z.symm e
    ·exact z
   let⟨x,vs',e1,e2,e3,e4⟩:=w6 p h3 na.2 nk.2 hm';refine{x,vs',?_,zj _ e2,e3,λy e iy=>?_}
   ·let e':¬kS k=kS p:=λz=>e (wm z)
    rw[zf,zf,yM];unfold d5 at e1 ⊢;rw[yI];simp only[e',decide_false];exact e1
   ·let nx:cv (H x):=by rw[e3];exact λ_ z=>by cases z
    rw[zf,zf,yD (by assumption)];refine{a,t,vs,rfl,?_,au.upd nx h2,e4 y e iy};rw[ar (λz=>na.1 (by rw[z];exact e2))];exact h1
section
variable {C a:wM} {H:Hp} {S:c6} {o:Ow}
def bF.F1 (h:bF C H a S o) (n:Str):bF C (L2.upd H o.pl (.lst (S.aP.map V.str++[.str n]))) a (cG S (.b6 n)) o:=by
 let d:=Nd.of h.nd;let hp:=h.pl;let nx:cv (H o.pl):=by rw[hp];exact λ_ z=>by cases z
 let⟨_,_,ha,_⟩:=h.obj;let⟨_,hi,_⟩:=h.ins;let⟨_,hs,_⟩:=h.st;exact{h.wR nx (aO ha hp (e9 rfl)),by rw[aA];show _=some (HO.lst ((S.aP++[n]).map V.str));rw[zg];rfl,h.nV nx (aO hi hp (e9 rfl)),h.AB nx (aO hs hp (e9 rfl)),h.B3 nx d.pb.symm,
  h.DH nx (aO h.ho.1 hp (e9 rfl)) d.ph,h.Bp nx (aO h.no.1 hp (e9 rfl)) d.pn,h.A4 nx d.pr.symm,h.nd,h.dd}
def bF.Mm (h:bF C H a S o) {b:K3} {v:V} {vs:List V} (hb:H o.ba=some (.lst vs)) (il:au H (S.bars.map tS) vs) (iv:Is H (tS b) v):bF C (L2.upd H o.ba (.lst (vs++[v]))) a (cG S (.bar b)) o:=by
 let d:=Nd.of h.nd;let nx:cv (H o.ba):=by rw[hb];exact λ_ z=>by cases z
 let⟨_,_,ha,_⟩:=h.obj;let⟨_,hi,_⟩:=h.ins;let⟨_,hs,_⟩:=h.st;refine{h.wR nx (aO ha hb (e9 rfl)),h.Ba d.pb,h.nV nx (aO hi hb (e9 rfl)),h.AB nx (aO hs hb (e9 rfl)),{_,aA,?_},
  h.DH nx (aO h.ho.1 hb (e9 rfl)) d.bh,h.Bp nx (aO h.no.1 hb (e9 rfl)) d.bn,h.A4 nx d.br.symm,h.nd,h.dd}
 show au _ ((S.bars++[b]).map tS) _;rw[zg];exact dF (Is.upd nx iv) (au.upd nx il)
def bF.Ml (h:bF C H a S o) {r:Rep} {v:V} {vs:List V} (hb:H o.re=some (.lst vs)) (il:au H (S.repeats.map c9) vs) (iv:Is H (c9 r) v):bF C (L2.upd H o.re (.lst (vs++[v]))) a (cG S (.rep r)) o:=by
 let d:=Nd.of h.nd;let nx:cv (H o.re):=by rw[hb];exact λ_ z=>by cases z
 let⟨_,_,ha,_⟩:=h.obj;let⟨_,hi,_⟩:=h.ins;let⟨_,hs,_⟩:=h.st;refine{h.wR nx (aO ha hb (e9 rfl)),h.Ba d.pr,h.nV nx (aO hi hb (e9 rfl)),h.AB nx (aO hs hb (e9 rfl)),h.B3 nx d.br,
  h.DH nx (aO h.ho.1 hb (e9 rfl)) d.rh,h.Bp nx (aO h.no.1 hb (e9 rfl)) d.rn,{_,aA,?_},h.nd,h.dd}
 show au _ ((S.repeats++[r]).map c9) _;rw[zg];exact dF (Is.upd nx iv) (au.upd nx il)
def rm {n:Str} {ks:List Str} {vs:List V} (h:n∉ks):d5 ((ks.map kS).zip vs) (kS n)=none:=by
 unfold d5;rw[Option.map_eq_none_iff,xy];intro x hx z;let e:=zV z;let m:=(xT hx).1;let⟨k,hk,ek⟩:=zC.mp m;rw[<-ek] at e;exact h ((wm e)▸hk)
def Kx (h:[o.ins,o.st,o.ho].Nodup):o.ins≠o.st/\o.ins≠o.ho/\o.st≠o.ho:=by
 simp only[zU,zy,zz,yK,not_or] at h;exact{(h.1.1),h.1.2,h.2.1}
def bF.Ip (h:bF C H a S o) {n:Str} {t l:Int×Int} {p:wM} {vs:List V} (hb:H o.ins=some (.dK ((S.aF.map λx=>kS x.1).zip vs))) (il:au H (S.aF.map Kz) vs) (iv:Is H (Kz (n,t,l)) (.ref p))
  (fr:n∉S.aF.map (·.1)):bF C (L2.upd H o.ins (.dK (putK ((S.aF.map λx=>kS x.1).zip vs) (kS n) (.ref p)))) a (cG S (.dk n t l)) o:=by
 let d:=Nd.of h.nd;let⟨d1,d2,d3⟩:=Kx h.dd;let nx:cv (H o.ins):=by rw[hb];exact λ_ z=>by cases z
 let⟨_,_,ha,_⟩:=h.obj;let⟨_,hba,_⟩:=h.ba;let⟨_,hre,_⟩:=h.re;let vl:=aM il;let em:(S.aF.map λx=>kS x.1)=(S.aF.map (·.1)).map kS:=by rw[zv];rfl
 let hns:o.ins∉o.ns:=λz=>by
  let⟨_,q⟩:=bN h.no.2 z;rw[hb] at q;cases q
 let hhs:o.ins∉o.hs:=λz=>by
  let⟨_,q⟩:=bN h.ho.2 z;rw[hb] at q;cases q
 refine{h.wR nx (aO ha hb (e9 rfl)),h.Ba (aO h.pl hb (e9 rfl)),{vs++[.ref p],?_,?_},h.AB nx d1.symm,h.B3 nx (aO hba hb (e9 rfl)),
  h.DH nx d2.symm hhs,h.Bp nx (aO h.no.1 hb (e9 rfl)) hns,h.A4 nx (aO hre hb (e9 rfl)),h.nd,h.dd}
 ·rw[aA,nA (by rw[za];exact vl.symm) (by rw[em];exact rm fr)]
  show _=some (HO.dK (((S.aF++[(n,t,l)]).map λx=>kS x.1).zip (vs++[.ref p])));rw[zg];rfl
 ·show au _ ((S.aF++[(n,t,l)]).map Kz) _
  rw[zg];exact dF (Is.upd nx iv) (au.upd nx il)
def bF.Im (h:bF C H a S o) {n:Str} {ps:List Str} {v:V} {vs:List V} (hb:H o.st=some (.dK ((S.bL.map λx=>kS x.1).zip vs))) (il:au H (S.bL.map Mg) vs) (iv:Is H (Mg (n,ps)) v)
  (fr:n∉S.bL.map (·.1)):bF C (L2.upd H o.st (.dK (putK ((S.bL.map λx=>kS x.1).zip vs) (kS n) v))) a (cG S (.cO n ps)) o:=by
 let d:=Nd.of h.nd;let⟨d1,d2,d3⟩:=Kx h.dd;let nx:cv (H o.st):=by rw[hb];exact λ_ z=>by cases z
 let⟨_,_,ha,_⟩:=h.obj;let⟨_,hba,_⟩:=h.ba;let⟨_,hre,_⟩:=h.re;let vl:=aM il;let em:(S.bL.map λx=>kS x.1)=(S.bL.map (·.1)).map kS:=by rw[zv];rfl
 let hns:o.st∉o.ns:=λz=>by
  let⟨_,q⟩:=bN h.no.2 z;rw[hb] at q;cases q
 let hhs:o.st∉o.hs:=λz=>by
  let⟨_,q⟩:=bN h.ho.2 z;rw[hb] at q;cases q
 refine{h.wR nx (aO ha hb (e9 rfl)),h.Ba (aO h.pl hb (e9 rfl)),h.nV nx d1,{vs++[v],?_,?_},h.B3 nx (aO hba hb (e9 rfl)),
  h.DH nx d3.symm hhs,h.Bp nx (aO h.no.1 hb (e9 rfl)) hns,h.A4 nx (aO hre hb (e9 rfl)),h.nd,h.dd}
 ·rw[aA,nA (by rw[za];exact vl.symm) (by rw[em];exact rm fr)]
  show _=some (HO.dK (((S.bL++[(n,ps)]).map λx=>kS x.1).zip (vs++[v])));rw[zg];rfl
 ·show au _ ((S.bL++[(n,ps)]).map Mg) _
  rw[zg];exact dF (Is.upd nx iv) (au.upd nx il)
def Hd {n:Int×Str} {ks:List (Int×Str)} {vs:List V} (h:n∉ks):d5 ((ks.map kN).zip vs) (kN n)=none:=by
 unfold d5;rw[Option.map_eq_none_iff,xy];intro x hx z;let e:=zV z;let m:=(xT hx).1;let⟨k,hk,ek⟩:=zC.mp m;rw[<-ek] at e;unfold kN at e;simp at e;have:k=n:=Prod.ext e.1 e.2;exact h (this▸hk)
def bF.Io (h:bF C H a S o) {b:Int} {pn:Str} {its:List Item} {q:wM} {us:List V} (hq:H q=some (.lst us)) (iq:au H (its.map hU) us) (nq:q∉o.lists) (fr:(b,pn)∉S.aL.map (·.1)) :
  bF C (L2.upd H o.no (.dT (putK ((S.aL.map λx=>kN x.1).zip (o.ns.map V.ref)) (kN (b,pn)) (.ref q)))) a (cG S (.aL b pn its)) {o with ns:=o.ns++[q]}:=by
 let d:=Nd.of h.nd;let hb:=h.no.1;let nx:cv (H o.no):=by rw[hb];exact λ_ z=>by cases z
 let⟨ub,jm,ha,hub,hjm⟩:=h.obj;let⟨_,hi,_⟩:=h.ins;let⟨_,hs,_⟩:=h.st;let⟨_,hba,_⟩:=h.ba;let⟨_,hre,_⟩:=h.re;let em:(S.aL.map λx=>kN x.1)=(S.aL.map (·.1)).map kN:=by rw[zv];rfl
 let hns:o.no∉o.ns:=λz=>by
  let⟨_,q⟩:=bN h.no.2 z;rw[hb] at q;cases q
 let hhs:o.no∉o.hs:=λz=>by
  let⟨_,q⟩:=bN h.ho.2 z;rw[hb] at q;cases q
 let ll:⇑(o.ns.map V.ref)=⇑S.aL:=by
  have:∀{ls:List (List Item)} {as:List wM},bG H hU ls as->⇑as=⇑ls:=by
   intro ls
   induction ls with
   | nil=>intro as z;unfold bG at z;rw[z];rfl
   | cons l r ih=>rintro _ ⟨a,t,vs,rfl,_,_,h3⟩;rw[zo,zo,ih h3]
  rw[za,this h.no.2,za]
 let nn:q∉[o.pl,o.ba,o.re]/\q∉o.hs/\q∉o.ns:=by
  unfold Ow.lists at nq;rw[zB,zB] at nq;exact{λz=>nq (.inl (.inl z)),λz=>nq (.inl (.inr z)),λz=>nq (.inr z)}
 let⟨n1,n2,n3⟩:=nn;simp only[zy,zz,yK,not_or] at n1;refine{{ub,jm,by rw[ar (aO ha hb (e9 rfl))];exact ha,Is.upd nx hub,Is.upd nx hjm},h.Ba (aO h.pl hb (e9 rfl)),h.nV nx (aO hi hb (e9 rfl)),h.AB nx (aO hs hb (e9 rfl)),h.B3 nx (aO hba hb (e9 rfl)),
  h.DH nx (aO h.ho.1 hb (e9 rfl)) hhs,{?_,?_},h.A4 nx (aO hre hb (e9 rfl)),?_,h.dd}
 ·show L2.upd H o.no _ o.no=some (HO.dT (((S.aL++[((b,pn),its)]).map λx=>kN x.1).zip ((o.ns++[q]).map V.ref)))
  rw[aA,nA (by rw[za];exact ll.symm) (by rw[em];exact Hd fr),zg,zg];rfl
 ·show bG _ hU ((S.aL++[((b,pn),its)]).map (·.2)) (o.ns++[q])
  rw[zg];exact bG.snoc (by rw[ar (aO hq hb (e9 rfl))];exact hq) (au.upd nx iq) (bG.upd nx hns h.no.2)
 ·refine Nd.to {d.pb,d.pr,d.ph,?_,d.br,d.bh,?_,d.rh,?_,d.hh,?_,?_}
  ·show o.pl∉o.ns++[q]
   rw[zB,zu];rintro(z | z)
   ·exact d.pn z
   ·exact n1.1 z.symm
  ·show o.ba∉o.ns++[q]
   rw[zB,zu];rintro(z | z)
   ·exact d.bn z
   ·exact n1.2.1 z.symm
  ·show o.re∉o.ns++[q]
   rw[zB,zu];rintro(z | z)
   ·exact d.rn z
   ·exact n1.2.2 z.symm
  ·show(o.ns++[q]).Nodup
   rw[zN];exact{d.nn,by simp,λx hx y hy e=>by rw[zu] at hy;subst hy;subst e;exact n3 hx}
  ·intro x hx z
   let z':x∈o.ns++[q]:=z;rw[zB,zu] at z';rcases z' with z' | z'
   ·exact d.hn x hx z'
   ·subst z';exact n2 hx
def bF.F0 (h:bF C H a S o) {l:Int×Int} {v ub jm:V} (ha:H a=some (.ins C o.dx (Lp o ub jm))) (ij:Is H (dO dn S.bA) jm) (iv:Is H (dL l) v):bF C (L2.upd H a (.ins C o.dx (Lp o v jm))) a (cG S (.aR l)) o:=by
 let nx:cv (H a):=by rw[ha];exact λ_ z=>by cases z
 let⟨_,hi,_⟩:=h.ins;let⟨_,hs,_⟩:=h.st;let⟨_,hba,_⟩:=h.ba;let⟨_,hre,_⟩:=h.re;let hns:a∉o.ns:=λz=>by
  let⟨_,q⟩:=bN h.no.2 z;rw[ha] at q;cases q
 let hhs:a∉o.hs:=λz=>by
  let⟨_,q⟩:=bN h.ho.2 z;rw[ha] at q;cases q
 exact{{v,jm,aA,Is.upd nx iv,Is.upd nx ij},h.Ba (aO h.pl ha (e9 rfl)),h.nV nx (aO hi ha (e9 rfl)),h.AB nx (aO hs ha (e9 rfl)),h.B3 nx (aO hba ha (e9 rfl)),
  h.DH nx (aO h.ho.1 ha (e9 rfl)) hhs,h.Bp nx (aO h.no.1 ha (e9 rfl)) hns,h.A4 nx (aO hre ha (e9 rfl)),h.nd,h.dd}
def bF.KJ (h:bF C H a S o) {j:Jump} {v ub jm:V} (ha:H a=some (.ins C o.dx (Lp o ub jm))) (iu:Is H (dO dL S.aR) ub) (iv:Is H (dn j) v):bF C (L2.upd H a (.ins C o.dx (Lp o ub v))) a (cG S (.bA j)) o:=by
 let nx:cv (H a):=by rw[ha];exact λ_ z=>by cases z
 let⟨_,hi,_⟩:=h.ins;let⟨_,hs,_⟩:=h.st;let⟨_,hba,_⟩:=h.ba;let⟨_,hre,_⟩:=h.re;let hns:a∉o.ns:=λz=>by
  let⟨_,q⟩:=bN h.no.2 z;rw[ha] at q;cases q
 let hhs:a∉o.hs:=λz=>by
  let⟨_,q⟩:=bN h.ho.2 z;rw[ha] at q;cases q
 exact{{ub,v,aA,Is.upd nx iu,Is.upd nx iv},h.Ba (aO h.pl ha (e9 rfl)),h.nV nx (aO hi ha (e9 rfl)),h.AB nx (aO hs ha (e9 rfl)),h.B3 nx (aO hba ha (e9 rfl)),
  h.DH nx (aO h.ho.1 ha (e9 rfl)) hhs,h.Bp nx (aO h.no.1 ha (e9 rfl)) hns,h.A4 nx (aO hre ha (e9 rfl)),h.nd,h.dd}
def bF.JR (h:bF C H a S o) {pn:Str} {q:wM} (hq:H q=some (.lst [])) (nq:q∉o.lists) (fr:pn∉S.holds.map (·.1)) :
  bF C (L2.upd H o.ho (.dK (putK ((S.holds.map λx=>kS x.1).zip (o.hs.map V.ref)) (kS pn) (.ref q)))) a {S with holds:=S.holds++[(pn,[])]} {o with hs:=o.hs++[q]}:=by
 let d:=Nd.of h.nd;let⟨d1,d2,d3⟩:=Kx h.dd;let hb:=h.ho.1;let nx:cv (H o.ho):=by rw[hb];exact λ_ z=>by cases z
 let⟨ub,jm,ha,hub,hjm⟩:=h.obj;let⟨_,hba,_⟩:=h.ba;let⟨_,hre,_⟩:=h.re;let em:(S.holds.map λx=>kS x.1)=(S.holds.map (·.1)).map kS:=by rw[zv];rfl
 let hns:o.ho∉o.ns:=λz=>by
  let⟨_,q⟩:=bN h.no.2 z;rw[hb] at q;cases q
 let hhs:o.ho∉o.hs:=λz=>by
  let⟨_,q⟩:=bN h.ho.2 z;rw[hb] at q;cases q
 let ll:⇑(o.hs.map V.ref)=⇑S.holds:=by
  have:∀{ls:List (List (Int×Str))} {as:List wM},bG H Mh ls as->⇑as=⇑ls:=by
   intro ls
   induction ls with
   | nil=>intro as z;unfold bG at z;rw[z];rfl
   | cons l r ih=>rintro _ ⟨a,t,vs,rfl,_,_,h3⟩;rw[zo,zo,ih h3]
  rw[za,this h.ho.2,za]
 let nn:q∉[o.pl,o.ba,o.re]/\q∉o.hs/\q∉o.ns:=by
  unfold Ow.lists at nq;rw[zB,zB] at nq;exact{λz=>nq (.inl (.inl z)),λz=>nq (.inl (.inr z)),λz=>nq (.inr z)}
 let⟨n1,n2,n3⟩:=nn;simp only[zy,zz,yK,not_or] at n1;refine{{ub,jm,by rw[ar (aO ha hb (e9 rfl))];exact ha,Is.upd nx hub,Is.upd nx hjm},h.Ba (aO h.pl hb (e9 rfl)),h.nV nx d2,h.AB nx d3,h.B3 nx (aO hba hb (e9 rfl)),
  {?_,?_},h.Bp nx (aO h.no.1 hb (e9 rfl)) hns,h.A4 nx (aO hre hb (e9 rfl)),?_,h.dd}
 ·show L2.upd H o.ho _ o.ho=some (HO.dK (((S.holds++[((pn,[]):Str×List (Int×Str))]).map λx:Str×List (Int×Str)=>kS x.1).zip ((o.hs++[q]).map V.ref)))
  rw[aA,nA (by rw[za];exact ll.symm) (by rw[em];exact rm fr),zg,zg];rfl
 ·show bG _ Mh ((S.holds++[((pn,[]):Str×List (Int×Str))]).map λx:Str×List (Int×Str)=>x.2) (o.hs++[q])
  rw[zg];exact bG.snoc (vs:=[]) (by rw[ar (aO hq hb (e9 rfl))];exact hq) (by show au _ [] [];unfold au;rfl) (bG.upd nx hhs h.ho.2)
 ·refine Nd.to {d.pb,d.pr,?_,d.pn,d.br,?_,d.bn,?_,d.rn,?_,d.nn,?_}
  ·show o.pl∉o.hs++[q]
   rw[zB,zu];rintro(z | z)
   ·exact d.ph z
   ·exact n1.1 z.symm
  ·show o.ba∉o.hs++[q]
   rw[zB,zu];rintro(z | z)
   ·exact d.bh z
   ·exact n1.2.1 z.symm
  ·show o.re∉o.hs++[q]
   rw[zB,zu];rintro(z | z)
   ·exact d.rh z
   ·exact n1.2.2 z.symm
  ·show(o.hs++[q]).Nodup
   rw[zN];exact{d.hh,by simp,λx hx y hy e=>by rw[zu] at hy;subst hy;subst e;exact n2 hx}
  ·intro x hx z
   let hx':x∈o.hs++[q]:=hx;rw[zB,zu] at hx';rcases hx' with hx' | hx'
   ·exact d.hn x hx' z
   ·subst hx';exact n3 z
def bF.lH (h:bF C H a S o) {pn:Str} (nk:(S.holds.map (·.1)).Nodup) (hm:pn∈S.holds.map (·.1)) :
  ∃x vs,d5 ((S.holds.map λx=>kS x.1).zip (o.hs.map V.ref)) (kS pn)=some (.ref x)/\x∈o.hs/\H x=some (.lst vs)/\∀y b i,Is H (Mh (b,i)) y->bF C (L2.upd H x (.lst (vs++[y]))) a (cG S (.holds pn b i)) o:=by
 let d:=Nd.of h.nd;let⟨x,vs,e1,e2,e3,e4⟩:=w6 pn h.ho.2 d.hh nk hm;refine{x,vs,e1,e2,e3,λy b i iy=>?_};let nx:cv (H x):=by rw[e3];exact λ_ z=>by cases z
 let⟨ub,jm,ha,hub,hjm⟩:=h.obj;let⟨_,hi,_⟩:=h.ins;let⟨_,hs,_⟩:=h.st;let ea:cG S (.holds pn b i)={S with holds:=S.holds.map λq:Str×List (Int×Str)=>if q.1=pn then(q.1,q.2++[(b,i)]) else q}:=by
  show({S with holds:=iM S.holds pn (b,i)}:c6)=_;unfold iM;rw[yE hm]
 rw[ea];refine{h.wR nx (aO ha e3 (e9 rfl)),h.Ba (λz=>d.ph (by rw[z];exact e2)),h.nV nx (aO hi e3 (e9 rfl)),h.AB nx (aO hs e3 (e9 rfl)),h.B3 nx (λz=>d.bh (by rw[z];exact e2)),
  {?_,e4 y (b,i) (Is.upd nx iy)},h.Bp nx (aO h.no.1 e3 (e9 rfl)) (d.hn x e2),h.A4 nx (λz=>d.rh (by rw[z];exact e2)),h.nd,h.dd}
 rw[ar (aO h.ho.1 e3 (e9 rfl)),h.ho.1];show _=some (HO.dK (((S.holds.map λq:Str×List (Int×Str)=>if q.1=pn then(q.1,q.2++[(b,i)]) else q).map λx:Str×List (Int×Str)=>kS x.1).zip _));rw[zv];have:(S.holds.map λx:Str×List (Int×Str)=>kS x.1)=S.holds.map ((λx:Str×List (Int×Str)=>kS x.1)∘λq:Str×List (Int×Str)=>if q.1=pn then(q.1,q.2++[(b,i)]) else q):=by
  refine xc λq _=>?_;show kS q.1=kS (if q.1=pn then((q.1,q.2++[(b,i)]):Str×List (Int×Str)) else q).1;split <;> rfl
 rw[this]
end
end Sc
namespace L2
open PySem PySem.Spec PyProof.Rows
noncomputable def noStar:Expr->Bool
 | .Starred ..=>false
 | _=>true
def Hl (h:noStar e=true):starEach (e::es) env=(false,eval e env)::starEach es env:=by
 cases e <;> first | rfl | cases h
def ae (ha:PE X e te) (hr:PA X es t) (hs:noStar e=true<|>qe_):PA X (e::es) (ax te t):=af ha hr (Hl hs)
end L2
namespace Sc
open PySem L2 Lm
def tT (F:Nat->Dt) (Pσ:St->Prop) (hn:n<=sizeLine) (h0:Pσ σ₀)
  (turn:∀(i:Nat) (σ:St) (H:Hp) (R:St->V->Hp->Prop),i<n->ao H1 H->Pσ σ->(∀σ3 y H5,ao H H5->Is H5 (F i) y->Pσ σ3->R σ3 y H5)->g (.int (lo+i)) σ H λσ3 H3=>te σ3 H3 λy H5=>R σ3 y H5)
  (fin:∀D vs H,ao H1 H->H1 D=none->H D=some (.lst vs)->au H ((List.range n).map F) vs->Q (.ref D) H):du σ₀ g uC te Q (KZ lo n) H1:=by
 refine lq (ws:=List.range n) (enc:=λi=>.int (lo+(i:Nat))) F Pσ (by rw[zM];exact hn) h0 (λi H hi _=>by rw[zM] at hi;exact hi) (λH _=>by rw[zM];exact zh _) ?_ ?_ fin
 ·rintro i x H H2 hi _ ⟨rfl,rfl⟩
  exact{rfl,by rw[List.getElem_range]}
 ·intro i σ H R hi s p r
  exact turn i σ H R (yH.mp hi) s p r
end Sc
namespace Sc
open PySem L2 Lm
def d8 (n:H D=none) (s:ao H H2):ao H (L2.upd H2 D u):=λb v hb=>by
 rw[ar (λz=>by rw[z,n] at hb;cases hb)];exact s b v hb
def join {c:Bool} {t1 t2:TS} {D:Ends} {σ:St} {H:Hp} (P:St->Hp->Prop) (ha:∀N:St->Hp->Prop,(∀σ H,P σ H->N σ H)->c=true->t1 {D with nx:=N} σ H)
  (hb:∀N:St->Hp->Prop,(∀σ H,P σ H->N σ H)->c=false->t2 {D with nx:=N} σ H) (hN:∀σ H,P σ H->D.nx σ H):if c=true then t1 D σ H else t2 D σ H:=by
 cases c with
 | true=>rw[yE rfl];exact ha D.nx hN rfl
 | false=>rw[yD (by simp)];exact hb D.nx hN rfl
def dG (h1:-10000<n) (h2:n<10000):⇑(dec n)<=5:=by
 by_cases h:0<=n
 ·have:=DV h h2;ext
 ·rw[q9 (),len_app]
  have:=DV (n:=-n) () ();have:("-": Str).length=1:=rfl;ext
def gK (h1:-10000<n) (h2:n<10000):n.natAbs.log2<1920:=by
 by_cases z:n.natAbs=0
 ·rw[z];decide
 ·exact zT ((Nat.log2_lt z).mpr (show n.natAbs<2^14 by ext)) ∅
theorem oI {sep:Str} {k:Nat}:∀{zs:List Str},(∀z∈zs,⇑z<=k)->(zs.map (λz:Str=>⇑z+⇑sep)).sum<=⇑zs*(k+⇑sep)
 | [],_=>by simp
 | z::r,h=>by
  let ih:=oI (sep:=sep) (zs:=r) λy hy=>h y (zj _ hy);have:=h z zk;rw[zf,wj,zo,Nat.succ_mul];ext
theorem join_le (sep:Str):∀zs:List Str,⇑(Str.join sep zs)<=(zs.map (λz:Str=>⇑z+⇑sep)).sum
 | []=>zh _
 | [z]=>by rw[join_one];simp
 | z::y::r=>by
  let ih:=join_le sep (y::r);rw[eI,len_app,len_app,zf,wj];ext
def tf (h:∀z∈zs,⇑z<=k):⇑(Str.join sep zs)<=⇑zs*(k+⇑sep):=zH (join_le sep zs) (oI h)
def FQ {α:Type} {J:It} {ws:List α} {enc:α->V} {σ₀:St} {g:TG} {tc:TT} {te:TE} {Q:VK} {H1:Hp} (f:α->Bool) (F:α->Dt) (Pσ:St->Prop) (hn:⇑ws<=sizeLine) (h0:Pσ σ₀)
  (go:∀i H,i<⇑ws->ao H1 H->J.go i H) (stop:∀H,ao H1 H->J.stop ⇑ws H) (yl:∀(i:Nat) x H H2 (hi:i<⇑ws),ao H1 H->J.Gg i H x H2->H2=H/\x=enc ws[i])
  (turn:∀(a:α) (σ:St) (H:Hp) (R:St->V->Hp->Prop) (N:St->Hp->Prop),a∈ws->ao H1 H->Pσ σ->(f a=true->∀σ3 y H5,ao H H5->Is H5 (F a) y->Pσ σ3->R σ3 y H5)->(f a=false->∀σ3 H5,ao H H5->Pσ σ3->N σ3 H5)->g (enc a) σ H λσ3 H3=>tc σ3 H3 λb H4=>if b=true then te σ3 H4 λy H5=>R σ3 y H5 else N σ3 H4)
  (fin:∀D vs H,ao H1 H->H1 D=none->H D=some (.lst vs)->au H ((ws.filter f).map F) vs->Q (.ref D) H):du σ₀ g tc te Q J H1:=by
 refine{λi m xs σ H=>m=⇑ws-i/\i<=⇑ws/\⇑xs<=i/\ao H1 H/\au H (((ws.take i).filter f).map F) xs/\Pσ σ,{_,rfl,zX _,zh _,ao.refl _,by simp[au],h0},?_};rintro i m xs σ H ⟨rfl,hi,hx,sm,il,pσ⟩;rcases xl i ⇑ws with hlt | hge
 ·refine .inr {go i H hlt sm,(),?_}
  intro x H2 hy;let⟨rfl,rfl⟩:=yl i x H H2 hlt sm hy;let tk:ws.take (i+1)=ws.take i++[ws[i]]:=by rw[xa,zb hlt];rfl
  refine turn ws[i] σ H2 _ _ (yb hlt) sm pσ ?_ ?_
  ·intro ff σ3 y H5 s5 iy p3
   refine{_,(),rfl,hlt,by rw[ze];show ⇑xs+1<=i+1;ext,sm.trans s5,?_,p3};rw[tk,yN,zg];have:[ws[i]].filter f=[ws[i]]:=by simp[ff]
   rw[this];exact dF iy (il.mono s5)
  ·intro ff σ3 H5 s5 p3
   refine{_,(),rfl,hlt,(),sm.trans s5,?_,p3};rw[tk,yN,zg];have:[ws[i]].filter f=[]:=by simp[ff]
   rw[this,yc,zP];exact il.mono s5
 ·let e:i=⇑ws:=()
  subst e;refine .inl {stop H sm,(),λD hD=>?_};let il':au H ((ws.filter f).map F) xs:=by rw[zI] at il;exact il
  exact fin D xs _ (sm.trans (bW hD)) (sm.back hD) aA (il'.mono (bW hD))
@[irreducible] def Sk (X:Cx) (s:Stmt) (t:TS):Prop:=PS X s t
@[irreducible] def Sl (X:Cx) (e:Expr) (t:TE):Prop:=PE X e t
@[irreducible] def Sh (X:Cx) (s:List Stmt) (t:TS):Prop:=vM X s t
end Sc
namespace L2
open PySem PySem.Spec PyProof.Rows
structure Fl (B:wN) (l:List Env) (e:wM) (cls:wG) (dx:Option wM) (fl:wG) (h:wN):Prop where
 st:B.StaysIn h
 new:B.get? e=none
 fr:h.FunFrames B l
 ob:∃oe vs T oT ts,h.get? e=some oe/\oe.cls=cls/\oe.dict=dx/\oe.data=.fields vs/\vs[1]?=some (.ref T)/\B.get? T=none/\T≠e/\h.get? T=some oT/\oT.data=.fields ts/\ts[3]?=some fl
def HW (f:Array wG->Array wG) (o:Obj):(o.mapFields f).dict=o.dict:=by
 let⟨c,d,dt,sl⟩:=o;cases dt <;> rfl
section
variable {M:Model} {A:wK} {E:wG->wH->Prop} {s:wH} {B:wN} {env:Env} {outer l:List Env} {L e:wM} {Q:Unit->wH->Prop} {cls fl:wG} {dx:Option wM}
def DK {oe:Obj} {vs:Array wG} {head:wG} {had:Bool} (hfr:A.frames=some (env::outer)) (hl:s.heap.FunFrames B (env::outer)) (hf:env.frame=some L) (he:s.heap.get? e=some oe) (hb:B.StaysIn s.heap) (hn:B.get? e=none) (hd:oe.data=.fields vs) (h1:1<vs.size)
  (h:∀h',Fl B (env::outer) e oe.cls oe.dict (rawInt L) h'->s.heap.UpToSlots h'->Q .unit {s with heap:=h'}) :
  wpAny M A (do setField (.ref e) 1 (<-EntryCells.newEntry head (<-frameOf env) .none (rawInt L) .none (<-entryPlaceOf L had))) Q E s:=by
 let other:∀b o,s.heap.get? b=some o->(∀ws,o.data≠.fields ws)->b≠e:=λb o q z y=>by subst y;rw[he] at q;cases q;exact z _ hd
 let ne:e∉(env::outer).filterMap (·.frame):=λhm=>by
  let⟨_,o,ho,z⟩:=hl.mem hm;exact other e o ho z rfl
 refine yi (wpAny_frameOf_fun hfr hl hf λg sg=>yi (wpAny_entryPlaceOf λpl hpl=>?_));unfold EntryCells.newEntry newFields;refine yi (yU ?_ (hpl.sizeOk5 _ _ _ _ _));let t3:∃ts,(Data.fields ([head,.ref L,.none,rawInt L,.none]++(if pl.isEmpty then List.replicate 6 Value.none else pl)).toArray)=.fields ts/\ts[3]?=some (rawInt L):={_,rfl,by simp}
 generalize (Data.fields ([head,.ref L,.none,rawInt L,.none]++(if pl.isEmpty then List.replicate 6 Value.none else pl)).toArray)=dt at t3 ⊢;let⟨ts,rfl,t3⟩:=t3;let ge:g.get? e=some oe:=(sg.2.1 e ne).trans he;let lt:e<g.objs.size:=yn ge;let gb:B.StaysIn g:=λb o q=>(sg.2.1 b λhm=>by rw[(hl.mem hm).1] at q;cases q).trans (hb b o q);let pe:=yj {cls:=Value.type "traceback",dict:=none,data:=Data.fields ts} ge;let pt:=ym g (o:={cls:=Value.type "traceback",dict:=none,data:=Data.fields ts}) rfl;refine wpAny_setField pe hd h1 (h _ ?_ ?_)
 ·let kp:∀b o,b≠e->g.get? b=some o->((g.push {cls:=Value.type "traceback",dict:=none,data:=Data.fields ts}).update e (Obj.mapFields (·.setIfInBounds 1 (Value.ref g.objs.size)))).get? b=some o:=λb o z q=>by
   rw[yo _ _ (Ne.symm z)];exact yj _ q
  refine{λb o q=>kp b o (λz=>by subst z;rw[hn] at q;cases q) (gb b o q),hn,hl.of_keeps λb o q z=>?_,?_}
  ·let⟨sl,q'⟩:=sg.2.2 b o q
   exact{_,kp b _ (other b o q z) q',rfl}
  ·let hd':=wA hd (·.setIfInBounds 1 (Value.ref g.objs.size))
   refine{_,_,g.objs.size,_,ts,yp _ pe (Obj.isFreed_of_fields hd'),Obj.cls_mapFields _ _,HW _ _,hd',by simp[h1],gb.fresh,zZ lt,(yo _ _ (z9 lt)).trans pt,rfl,t3}
 ·intro b o q z
  let⟨sl,q'⟩:=sg.2.2 b o q;exact{sl,by rw[yo _ _ (Ne.symm (other b o q z))];exact yj _ q'}
def pA (x:Fl B l e cls dx fl s.heap) (h:∀h',Fl B l e cls dx .none h'->s.heap.UpToSlots h'->Q .unit {s with heap:=h'}):wpAny M A (setFlight (.ref e) none) Q E s:=by
 let⟨st,new,fr,oe,vs,T,oT,ts,he,hc,hdx,hd,h1,nT,Te,hT,hdT,h3⟩:=x;let nr:∀b o,s.heap.get? b=some o->(∀ws,o.data≠.fields ws)->b≠T:=λb o q z y=>by subst y;rw[hT] at q;cases q;exact z _ hdT
 unfold setFlight;refine yi (yQ he hd h1 ?_);rw[yE (show(Value.ref T != Value.none)=true from by simp)];let z3:=(Array.getElem?_eq_some_iff.mp h3).1;let ot:∀b,b≠T->(s.heap.update T (Obj.mapFields (·.setIfInBounds 3 ((none:Option wM).elim Value.none λf=>rawInt f)))).get? b=s.heap.get? b:=λb z=>yo _ _ (Ne.symm z);let hd':=wA hdT (·.setIfInBounds 3 ((none:Option wM).elim Value.none λf=>rawInt f));refine wpAny_setField hT hdT z3 (h _ {λb o q=>(ot b λz=>by subst z;rw[nT] at q;cases q).trans (st b o q),new,fr.of_keeps λb o q z=>{o,(ot b (nr b o q z)).trans q,rfl},?_} λb o q z=>{o.slots,(ot b (nr b o q z)).trans q});exact{oe,vs,T,_,_,(ot e (Ne.symm Te)).trans he,hc,hdx,hd,h1,nT,Te,yp _ hT (Obj.isFreed_of_fields hd'),hd',by simp[z3]}
def Ki {oe:Obj} {vs:Array wG} (hfr:A.frames=some (env::outer)) (hl:s.heap.FunFrames B (env::outer)) (hf:env.frame=some L) (he:s.heap.get? e=some oe) (hb:B.StaysIn s.heap) (hn:B.get? e=none) (hd:oe.data=.fields vs) (h1:vs[1]?=some .none)
  (h:∀h',Fl B (env::outer) e oe.cls oe.dict (rawInt L) h'->s.heap.UpToSlots h'->Q .unit {s with heap:=h'}):wpAny M A (noteFrame (.ref e) env) Q E s:=by
 unfold noteFrame;simp only[hf];refine yi (yQ he hd h1 ?_);rw[yD ∅];exact DK hfr hl hf he hb hn hd (Array.getElem?_eq_some_iff.mp h1).1 h
def L7 (hfr:A.frames=some (env::outer)) (hf:env.frame=some L) (x:Fl B (env::outer) e cls dx .none s.heap) (h:∀h',Fl B (env::outer) e cls dx (rawInt L) h'->s.heap.UpToSlots h'->Q .unit {s with heap:=h'}):wpAny M A (noteFrame (.ref e) env) Q E s:=by
 let⟨st,new,fr,oe,vs,T,oT,ts,he,hc,hdx,hd,h1,nT,Te,hT,hdT,h3⟩:=x;let nr:∀b o,s.heap.get? b=some o->(∀ws,o.data≠.fields ws)->b≠T:=λb o q z y=>by subst y;rw[hT] at q;cases q;exact z _ hdT
 unfold noteFrame;simp only[hf];refine yi (yQ he hd h1 ?_);rw[yE (show(Value.ref T != Value.none)=true from by simp)];refine yi (yQ hT hdT h3 ?_);rw[yD (show¬((Value.none == rawInt L)=true) from by simp[rawInt])];let ot:∀b,b≠T->(s.heap.update T (Obj.mapFields (·.setIfInBounds 3 Value.none))).get? b=s.heap.get? b:=λb z=>yo _ _ (Ne.symm z);refine yi (wpAny_setField hT hdT (Array.getElem?_eq_some_iff.mp h3).1 ?_);subst hc hdx;refine DK hfr (fr.of_keeps λb o q z=>{o,(ot b (nr b o q z)).trans q,rfl}) hf ((ot e (Ne.symm Te)).trans he) (λb o q=>(ot b λz=>by subst z;rw[nT] at q;cases q).trans (st b o q)) new hd (Array.getElem?_eq_some_iff.mp h1).1 λh' x u=>h h' x λb o q z=>u b o ((ot b (nr b o q z)).trans q) z
end
section
variable {K:yq} {D x:wM} {prog:wI} {w:wJ} {A:wK} {E:wG->wH->Prop} {h:wN} {g:Array GenState} {d:Drawn} {t:Nat} {os:OsState} {name:Str} {v:wG} {o:Obj} {dx:wM} {mA:Str->Option wG}
def K7 {M:Model} (X:K.In h) (hx:h.get? x=some o) (hc:o.cls=.ref D) (hno:PySem.W.notCls o=true) (hd:o.dict=some dx) (hn:h.Ns1 dx mA) (hh:PySem.W.hasDictIn K D=true) (ha:PySem.W.findIn K (.ref D) name=some none) (hv:mA name=some v) :
  PySem.W.Looks M h (Builtin.ObjectAttr.find (.ref x) (.ref D) name) (.value v):=by
 let⟨od,ho,hl⟩:=pj hn;exact PySem.W.looks_find X (od:=some od) {hx,hc,hno,by rw[hd];exact ho} (PySem.W.findObj_own hh ha rfl (by rw[hl,hv]))
open Builtin Builtin.ObjectAttr in
def IT {tk:Tok} {Q:Fin->wH->Prop} (hx:h.get? x=some o) (hc:o.cls=.ref D) (L:PySem.W.Looks (model prog w) h (find (.ref x) (.ref D) name) (.value v)) (hq:Q (.done (.ret v)) {(h),g,d,t,os}) :
  wpAny (model prog w) A (Builtin.«object.__getattribute__» {[.ref x,.str name tk],[]}) Q E {(h),g,d,t,os}:=by
 unfold Builtin.«object.__getattribute__»
 repeat (any_goals (first | assumption | (with_reducible refine wpAny_loadPart_at hx ?_;rw[hc]) | (with_reducible refine L.at ?_) | wp_step))
def OL {tk:Tok} {fill expr:Bool} {Q:wG->wH->Prop} (X:K.In h) (Z:iS K D) (hx:h.get? x=some o) (hc:o.cls=.ref D) (L:PySem.W.Looks (model prog w) h (Builtin.ObjectAttr.find (.ref x) (.ref D) name) (.value v)) (hv:PySem.W.handedIn v=true) (hq:Q v {(h),g,d,t,os}) :
  wpAny (model prog w) A (getAttrBy (.ref x) (.str name tk) fill expr) Q E {(h),g,d,t,os}:=by
 let f3:=F.attr_ValueError.ga.bind (.ref x);let hx0:(expr&&onTheHeap (Value.builtin "BaseException.__getattribute__"))=false:=by cases expr <;> rfl
 let hx2:(Value.builtin "BaseException.__getattribute__"== Value.builtin "object.__getattribute__")=false:=by decide +kernel
 let hx1:(onTheHeap (Value.ref D)&&Value.builtin "BaseException.__getattribute__"== Value.builtin "object.__getattribute__")=false:=by rw[hx2];rfl
 let L1:=PySem.W.looks_findIn (M:=model prog w) X Z.ga;let L2:=PySem.W.looks_findIn (M:=model prog w) X Z.RN;let ho:handedOut v=pure v:=PySem.W.handedOut_of hv
 repeat (any_goals (first | assumption | (with_reducible refine wpAny_loadPart_at hx ?_;rw[hc]) | (with_reducible refine L1.at ?_) | (with_reducible refine L2.at ?_) | wp_step))
 refine codeAny_call_builtin F.attr_ValueError.ga.plain F.entry_bexc_ga (DP X Z hx hc (IT hx hc L ?_))
 repeat (any_goals (first | assumption | rw[ho] | wp_step))
def M0 {expr:Bool} {Q:wG->wH->Prop} {s:wH} (X:K.In s.heap) (Z:iS K D) (hx:s.heap.get? x=some o) (hc:o.cls=.ref D) (hno:PySem.W.notCls o=true) (hd:o.dict=some dx) (hn:s.heap.Ns1 dx mA) (hh:PySem.W.hasDictIn K D=true) (ha:PySem.W.findIn K (.ref D) name=some none) (hm:mA name=some v) (hv:PySem.W.handedIn v=true)
  (hq:Q v {s with toks:=s.toks+1}):wpAny (model prog w) A (getAttr (.ref x) name expr) Q E s:=by
 let⟨h,g,d,t,os⟩:=s;unfold getAttr;refine yi (wpAny_mkText ?_);exact OL X Z hx hc (K7 X hx hc hno hd hn hh ha hm) hv hq
end
structure Aq (K:yq) (D S:wM):Prop where
 sa:PySem.W.findIn K (.ref D) "__setattr__"= some (some (.builtin "object.__setattr__"))
 cd:∃nm bs ns qn sn sub ab col del,PySem.W.clsIn K D=some {nm,bs,[.ref D,.ref S,.type "ValueError",.type "Exception",.type "BaseException",.type "object"],ns,qn,true,sn,sub,ab,col,del}
section
variable {K:yq} {D S x:wM} {prog:wI} {w:wJ} {A:wK} {E:wG->wH->Prop} {name:Str} {v:wG} {o:Obj} {dx:wM} {mA:Str->Option wG} {s:wH} {Q:Unit->wH->Prop}
def G9 (self:wG):refuseLoop self "__setattr__" [.ref D,.ref S,.type "ValueError",.type "Exception",.type "BaseException",.type "object"]=pure .unit:=by
 rw[refuseLoop_ref,refuseLoop_ref];exact PySem.F.store_ValueError.passes self
open Builtin Builtin.ObjectAttr in
def Gh {od:Option Obj} {tk:Tok} {R:Result->wH->Prop} (X:K.In s.heap) (I:PySem.W.InstAt s.heap x o D od) (Z:Aq K D S) (ha:PySem.W.findIn K (.ref D) name=some none)
  (h:wpAny (model prog w) A.in1 (storeInOwnDict (.ref x) (.ref D) (.str name tk) name v false) (λfin s'=>match fin with | .done f=>R (.ok f) s' | .again c'=>c'.quiet=true/\codeAny (model prog w) A c' R s') (λe s'=>R (.error e) s') s) :
  codeAny (model prog w) A (.call (.builtin "object.__setattr__") {[.ref x,.str name tk,v],[]}) R s:=by
 let SF:=PySem.F.store_object;let⟨nm,bs,ns,qn,sn,sub,ab,col,del,hc⟩:=Z.cd;let hi:PySem.W.Looks (model prog w) s.heap (isInstance (.ref x) (.type "object")) true:=I.type.andThen (PySem.W.looks_mroIn X (by unfold PySem.W.mroIn;rw[hc];rfl));refine codeAny_call_builtin SF.slot.plain SF.entry (@PySem.W.check_slot (model prog w) _ _ s "object.__setattr__" "object" "__setattr__" (.ref x) [.str name tk,v] [] _ SF.kind SF.split hi (SF.args (.ref x) (.str name tk) v) ?_);let hm:PySem.W.Looks (model prog w) s.heap (mroOf (.ref D)) [.ref D,.ref S,.type "ValueError",.type "Exception",.type "BaseException",.type "object"]:=(PySem.W.looks_clsIn X hc).andThen .now;rw[PySem.W.osa_eq,refuse_eq];refine yi (yi (I.type.here (yi (hm.here ?_))));rw[G9];exact yk (yi (I.type.here (yi ((PySem.W.looks_findIn X ha).here (yi (yk h))))))
def IS {vs:Array wG} (X:K.In s.heap) (hx:s.heap.get? x=some o) (hc:o.cls=.ref D) (hd:o.data=.fields vs) (hn:o.dict=none) (Z:Aq K D S) (ha:PySem.W.findIn K (.ref D) name=some none)
  (h:∀h',h'.get? x=some {o with dict:=some ↑s}->h'.Ns1 ↑s (λy=>if y=name then some v else none)->(∀b u,b≠x->s.heap.get? b=some u->h'.get? b=some u)->Q .unit {s with heap:=h',toks:=s.toks+2}) :
  wpAny (model prog w) A (setAttr (.ref x) name v) Q E s:=by
 let I:PySem.W.InstAt s.heap x o D none:={hx,hc,by unfold PySem.W.notCls;rw[hd],by rw[hn];trivial}
 let⟨nm,bs,ns,qn,sn,sub,ab,col,del,hcl⟩:=Z.cd;refine PySem.W.set_plain X I Z.sa (Gh (s:={s with toks:=s.toks+1}) X I Z ha ?_);let⟨oc,odd,oda,osl⟩:=o;dsimp only at hc hd hn;subst hc hd hn;refine yi (yk (yi (yi (wpAny_loadPart hx (yi (PySem.W.Looks.here (s:={s with toks:=s.toks+1}) (PySem.W.looks_clsIn X hcl) ?_))))));let hs:x≠↑s:=z9 (yn hx);let h1:=yj {cls:=Value.type "dict",data:=Data.dict #[]} hx;refine yi (wpAny_alloc' ?_);refine yi (wpAny_update' h1 ?_);refine yk (a:=some ↑s) ?_;let hu:=yp (λo:Obj=>{cls:=o.cls,dict:=some ↑s,data:=o.data,slots:=o.slots}) h1 rfl;let hg:((s.heap.push {cls:=Value.type "dict",data:=Data.dict #[]}).update x λo=>{cls:=o.cls,dict:=some ↑s,data:=o.data,slots:=o.slots}).get? ↑s=some {cls:=Value.type "dict",data:=Data.dict #[]}:=(Heap.get?_update_ne _ _ _ _ hs.symm).trans (Heap.get?_push_at rfl rfl);let hk:∀b u,b≠x->s.heap.get? b=some u->((s.heap.push {cls:=Value.type "dict",data:=Data.dict #[]}).update x λo=>{cls:=o.cls,dict:=some ↑s,data:=o.data,slots:=o.slots}).get? b=some u:=λb u z q=>(Heap.get?_update_ne _ _ _ _ z).trans (yj _ q);generalize ((s.heap.push {cls:=Value.type "dict",data:=Data.dict #[]}).update x λo=>{cls:=o.cls,dict:=some ↑s,data:=o.data,slots:=o.slots})=h2 at hu hg hk ⊢;let n2:h2.Ns ↑s (λ_=>none):={_,#[],_,hg,rfl,λe he=>absurd he (by simp),λ_=>rfl}
 show wpAny _ _ (Builtin.ObjectAttr.storeInDict ↑s (.str name s.toks) name v) _ _ _;unfold Builtin.ObjectAttr.storeInDict Builtin.ObjectAttr.newKeyGuard;refine yi (yk (yi (wpAny_nsSet1 (Heap.Ns1.of_empty n2) λh3 n3 s3=>?_)));let⟨oD,esD,epD,hoD,hdD,hcD⟩:=n3.count (Within.cons name v Within.nil);refine yi (wpAny_lookBehind hoD (by rw[hdD];exact pastItsLine_dict (zH hcD (by rw[zo,y6,yr];ext))) ?_);refine yk (h h3 ((s3.2 x hs).trans hu) n3 λb u z q=>(s3.2 b (z9 (yn q))).trans (hk b u z q))
def K4 {ns:List Str} {vs:Array wG} (X:K.In s.heap) (hx:s.heap.get? x=some o) (hc:o.cls=.ref D) (hd:o.data=.fields vs) (hn:o.dict=some dx) (n1:s.heap.Ns1 dx mA) (hw:Within mA ns) (hz:⇑ns<1000) (Z:Aq K D S) (ha:PySem.W.findIn K (.ref D) name=some none)
  (h:∀h',h'.Ns1 dx (λy=>if y=name then some v else mA y)->Heap.SameBut dx s.heap h'->Q .unit {s with heap:=h',toks:=s.toks+2}) :
  wpAny (model prog w) A (setAttr (.ref x) name v) Q E s:=by
 let⟨od,ho,hl⟩:=pj n1;let I:PySem.W.InstAt s.heap x o D (some od):={hx,hc,by unfold PySem.W.notCls;rw[hd],by rw[hn];exact ho}
 let⟨nm,bs,ns',qn,sn,sub,ab,col,del,hcl⟩:=Z.cd;refine PySem.W.set_plain X I Z.sa (Gh (s:={s with toks:=s.toks+1}) X I Z ha ?_);let⟨oc,odd,oda,osl⟩:=o;dsimp only at hc hd hn;subst hc hd hn;refine yi (yk (yi (yi (wpAny_loadPart hx (yi (PySem.W.Looks.here (s:={s with toks:=s.toks+1}) (PySem.W.looks_clsIn X hcl) ?_))))));refine yk (a:=some dx) (yi (yk (yi ?_)));refine wpAny_nsSet1 (s:={s with toks:=s.toks+1}) n1 λh3 n3 s3=>?_;let⟨oD,esD,epD,hoD,hdD,hcD⟩:=n3.count (Within.cons name v hw);refine yi (wpAny_lookBehind hoD (by rw[hdD];exact pastItsLine_dict (zH hcD (by rw[zo,yr];ext))) ?_);exact yk (h h3 n3 s3)
end
abbrev Ar:List wG:=[.type "ValueError",.type "Exception",.type "BaseException",.type "object"]
structure Cm (K:yq) (C S f:wM):Prop where
 obj:∃nm q N bs hdct sn sub ab col dd k0 k1 k2 k3 k5,K.lookup C=some (excClassObj nm q C N bs (.ref S::Ar) hdct sn sub ab col dd k0 k1 k2 k3 k5 "ValueError.__new__")
 up:∃nm bs ns qn hd sn sub ab col del dd sl,K.lookup S=some {.type "type",dd,.cls {nm,bs,.ref S::Ar,ns,qn,hd,sn,sub,ab,col,del},sl}
 sup:PySem.W.excIn K S Ar "ValueError.__new__"= true
 init:PySem.W.findIn K (.ref C) "__init__"= some (some (.ref f))
 fn:PySem.W.isFn K (.ref f)=true
 kp:PySem.W.keepIn K (.ref C)=true
 cls:iS K C
 set:Aq K C S
section
variable {K:yq} {C S f:wM} {prog:wI} {w:wJ} {A:wK} {s:wH} {h:wN} {g:Array GenState} {d:Drawn} {t:Nat} {os:OsState} {E:wG->wH->Prop} {rest:List wG}
def Cm.tail (M:Cm K C S f) (X:K.In h):OwnTail h Ar (.ref S::Ar):=by
 let q:=M.sup;let⟨nm,bs,ns,qn,hd,sn,sub,ab,col,del,dd,sl,e⟩:=M.up;unfold PySem.W.excIn at q;rw[e] at q;simp only at q;split at q
 ·rename_i hm hs
  cases hm;simp only[zJ,wy,Bool.not_eq_true'] at q;let⟨⟨⟨⟨⟨_,_⟩,_⟩,ht⟩,bf⟩,hni⟩:=q;exact .own (X _ _ e) (.of_isNs (PySem.W.isNs_of_in X bf)) (PySem.W.nsMap_none_of_in X bf hni) .base
 ·cases q
abbrev Kn (C t:wM):Obj:={cls:=.ref C,data:=.fields #[.ref t,.none,.none,.none,.bool false,.none]}
abbrev mF (h:wN) (C:wM) (rest:List wG):wN:=(h.push {cls:=.type "tuple",data:=.seq rest.toArray}).push (Kn C h.objs.size)
def nY {b:wM} {o:Obj} (e:h.get? b=some o):(mF h C rest).get? b=some o:=yj _ (yj _ e)
def Ad:(mF h C rest).get? (h.objs.size+1)=some (Kn C h.objs.size):=by heap_get
def K5 {Q:Fin->wH->Prop} (M:Cm K C S f) (X:K.In h) (hr:⇑rest<=sizeLine)
  (hq:wpAny (model prog w) A (call (.ref f) (.ref (h.objs.size+1)::rest)) (λr s'=>r=.none/\Q (.done (.ret (.ref (h.objs.size+1)))) s') E {mF h C rest,g,d,t,os}) :
  wpAny (model prog w) A (Builtin.«type.__call__» {.ref C::rest,[]}) Q E {(h),g,d,t,os}:=by
 let F:=F.excBase_ValueError;let⟨nm,q,N,bs,hdct,sn,sub,ab,col,dd,k0,k1,k2,k3,k5,hl⟩:=M.obj;let hC:=X _ _ hl;let T:=M.tail X
 repeat (first | with_reducible refine wpAny_loadPart_at hC ?_ | with_reducible refine wpAny_madeBy_exc hC ?_ | wp_step)
 refine codeAny_call_builtin_code (Code.quiet_builtin _ F.quiet) (wpAny_check_new_subT F T hC (codeAny_exc_new_subT F T hC ?_ hr));show wpAny _ _ _ _ _ _;let X1:K.In (mF h C rest):=λa o e=>nY (X a o e);let hC1:=X1 _ _ hl;let he:(mF h C rest).get? (h.objs.size+1)=some (Kn C h.objs.size):=Ad;let hcC:(Value.ref C::(.ref S::Ar)).contains (.ref C)=true:=by simp
 unfold isInstance
 repeat (first | with_reducible refine wpAny_loadPart_at he ?_ | (with_reducible refine wpAny_isSubtype_exc hC1 ?_;rw[hcC]) | wp_step)
 refine(PySem.W.looks_findIn X1 M.init).at ?_;refine xm (yi ((PySem.W.bind_fn X1 _ (wy.mp M.fn)).at ?_));refine yi (yV hq (λr s' z=>?_) λ_ _ z=>z);let⟨rfl,z⟩:=z;wp_walk;exact z
def K6 {Q:wG->wH->Prop} (M:Cm K C S f) (X:K.In h) (hr:⇑rest<=sizeLine)
  (hq:wpAny (model prog w) (A.under (.builtin "type.__call__" {.ref C::rest,[]})) (call (.ref f) (.ref (h.objs.size+1)::rest)) (λr s'=>r=.none/\Q (.ref (h.objs.size+1)) s') E {mF h C rest,g,d,t,os}) :
  wpAny (model prog w) A (call (.ref C) rest) Q E {(h),g,d,t,os}:=by
 let⟨nm,q,N,bs,hdct,sn,sub,ab,col,dd,k0,k1,k2,k3,k5,hl⟩:=M.obj;let hC:=X _ _ hl;let f1:=tc_lookup;let f2:=tc_bind (.ref C);let hT:({(h),g,d,t,os}:wH).TypeIs (.ref C) "type":={_,hC,rfl}
 refine wpAny_call (codeAny_of_tree ?_);show wpAny _ _ (callAny (.ref C) _) _ _ _
 repeat (any_goals (first | assumption | with_reducible refine wpAny_loadPart_at hC ?_ | wp_step))
 refine{rfl,?_};exact codeAny_call_builtin_at (Code.quiet_builtin _ (by decide +kernel)) entry_typeCall (wpAny_check_type_call_sub hC (K5 M X hr hq))
end
def Ap (C:wM) (od:Option wM) (a:wM):HO:=.ext λh=>∃o vs,h.get? a=some o/\o.cls=.ref C/\o.dict=od/\o.data=.fields vs/\vs[1]?=some .none
def Cr (C:wM) (od:Option wM) (a:wM):HO:=.ext λh=>∃o vs,h.get? a=some o/\o.cls=.ref C/\o.dict=od/\o.data=.fields vs
def XD (a:wM) (fs:List (Str×V)):HO:=.ext λh=>∃mA,h.Ns1 a mA/\∀f,eN (fs.lookup f) (mA f)
section
variable {P:wI} {w:wJ} {H:Hp} {h:wN} {C a:wM} {od:Option wM} {fs:List (Str×V)} {mA:Str->Option wG} {o:Obj} {vs:Array wG}
def Ap.ok (e:h.get? a=some o) (hc:o.cls=.ref C) (hd:o.dict=od) (hf:o.data=.fields vs) (h1:vs[1]?=some .none):bu P w H h a (Ap C od a):=
 {{(o),vs,e,hc,hd,hf,h1},{(o),e},λ_ _ ⟨o,vs,e,r⟩ k=>{o,vs,k o e,r}}
def Cr.ok (e:h.get? a=some o) (hc:o.cls=.ref C) (hd:o.dict=od) (hf:o.data=.fields vs):bu P w H h a (Cr C od a):=
 {{(o),vs,e,hc,hd,hf},{(o),e},λ_ _ ⟨o,vs,e,r⟩ k=>{o,vs,k o e,r}}
def XD.ok (n:h.Ns1 a mA) (r:∀f,eN (fs.lookup f) (mA f)):bu P w H h a (XD a fs):=
 {{(mA),n,r},let ⟨o,_,_,e,_⟩:=n;{(o),e},λ_ _ ⟨m,n,r⟩ k=>{m,n.at k,r}}
def Ap.at' (ok:lQ P w H h) (e:H a=some (Ap C od a)):∃o vs,h.get? a=some o/\o.cls=.ref C/\o.dict=od/\o.data=.fields vs/\vs[1]?=some .none:=(show bu P w H h a (Ap C od a) from ok a _ e).1
def Cr.at' (ok:lQ P w H h) (e:H a=some (Cr C od a)):∃o vs,h.get? a=some o/\o.cls=.ref C/\o.dict=od/\o.data=.fields vs:=(show bu P w H h a (Cr C od a) from ok a _ e).1
def XD.at' (ok:lQ P w H h) (e:H a=some (XD a fs)):∃mA,h.Ns1 a mA/\∀f,eN (fs.lookup f) (mA f):=(show bu P w H h a (XD a fs) from ok a _ e).1
def Hc (r:∀f,eN (fs.lookup f) (mA f)):Within mA (fs.map (·.1)):=λy hy=>by
 cases q:fs.lookup y with
 | none=>exact absurd (eN.none_of (by rw[<-q];exact r y)) hy
 | some v=>
  obtain⟨k,e,hm⟩:∃k,k=y/\(k,v)∈fs:=by
   clear r hy
   induction fs with
   | nil=>cases q
   | cons p l ih=>
    let⟨k,x⟩:=p;rw[yf] at q;split at q
    ·rename_i z;cases q;exact{k,(wy.mp z).symm,zk}
    ·let⟨k',e,m⟩:=ih q;exact{k',e,zj _ m}
  exact zC.mpr {(k,v),hm,e}
def Gw {f:Str} {y:V} {u:wG} (ry:RelV y u) (r:∀g,eN (fs.lookup g) (mA g)) (g:Str):eN ((aI f y fs).lookup g) (if g=f then some u else mA g):=by
 rw[kU]
 by_cases q:g=f
 ·rw[yE q,yE q];exact ry
 ·rw[yD q,yD q];exact r g
end
def R4 (K:yq) (ta tv:TE) (f:Str):TS:=λD σ H=>tv σ H λy H1=>ta σ H1 λx H2=>∃a C S,x=.ref a/\H2 a=some (Ap C none a)/\Aq K C S/\cw K C f/\∀dx,H2 dx=none->dx≠a->
 D.nx σ (upd (upd H2 dx (XD dx [(f,y)])) a (Ap C (some dx) a))
def R3 (K:yq) (ta tv:TE) (f:Str):TS:=λD σ H=>tv σ H λy H1=>ta σ H1 λx H2=>∃a C S dx fs,x=.ref a/\H2 a=some (Ap C (some dx) a)/\H2 dx=some (XD dx fs)/\Aq K C S/\cw K C f/\⇑fs<1000/\
 D.nx σ (upd H2 dx (XD dx (aI f y fs)))
section
variable {X:Cx} {o value:Expr} {f:Str} {pos pos':Pos} {ta tv:TE}
def Pj (ha:PE X o ta) (hv:PE X value tv) (hs:swapsWith value (some (.Attribute o f pos')) pos.line X.env=pure false):PS X (.Assign [.Attribute o f pos'] value pos) (R4 X.K ta tv f):=by
 intro pins s σ H D I h;refine plainObj_wpAny_Assign_Attribute (bR (hv pins s σ H _ I h) λu s1 z0=>?_) hs;let⟨y,H1,I1,ry,q⟩:=z0;refine bR (ha pins s1 σ H1 _ I1 q) λov s2 z1=>?_;let⟨x,H2,I2,rx,a,C,S,ex,ea,c,n,q2⟩:=z1;subst ex;obtain rfl:ov=Value.ref a:=rx;let⟨ob,vs,e,hc,hd,hf,h1⟩:=Ap.at' I2.bf ea;let hn:H2 ↑s2=none:=I2.bf.fresh (zh _);let na:↑s2≠a:=zZ (yn e);refine IS I2.iY e hc hf hd c n λh' e' n' k=>{σ,_,?_,q2 _ hn na}
 let⟨od,es,ep,eo,r⟩:=id n';let nfr:od.isFreed=false:=(Heap.get?_some_iff.mp eo).2;let p1:(s2.heap.push od).get? ↑s2=some od:=ym _ nfr;let r0:∀g,eN ([(f,y)].lookup g) (if g=f then some u else none):=λg=>by
  have:=Gw (fs:=[]) (mA:=λ_=>none) (f:=f) ry (λ_=>True.intro) g;exact this
 let I3:=I2.laid (a:=↑s2) (o:=XD ↑s2 [(f,y)]) (h':=s2.heap.push od) (t':=s2.toks) (λb u q=>yj _ q) (zh _) (XD.ok (n'.at λo z=>by rw[eo] at z;cases z;exact p1) r0);let ea3:upd H2 ↑s2 (XD ↑s2 [(f,y)]) a=some (Ap C none a):=by rw[ar (Ne.symm na)];exact ea
 refine I3.write (x:=a) (e:=a) (by rw[ea3];exact True.intro) (.inl rfl) (λb v z q=>?_) {_,e'} (Ap.ok e' hc rfl hf h1);rcases Heap.get?_push_cases q with⟨rfl,rfl⟩ | q
 ·exact eo
 ·exact k b v z q
def Ph (ha:PE X o ta) (hv:PE X value tv) (hs:swapsWith value (some (.Attribute o f pos')) pos.line X.env=pure false):PS X (.Assign [.Attribute o f pos'] value pos) (R3 X.K ta tv f):=by
 intro pins s σ H D I h;refine plainObj_wpAny_Assign_Attribute (bR (hv pins s σ H _ I h) λu s1 z0=>?_) hs;let⟨y,H1,I1,ry,q⟩:=z0;refine bR (ha pins s1 σ H1 _ I1 q) λov s2 z1=>?_;let⟨x,H2,I2,rx,a,C,S,dx,fs,ex,ea,ed,c,n,l,q2⟩:=z1;subst ex;obtain rfl:ov=Value.ref a:=rx;let⟨ob,vs,e,hc,hd,hf,h1⟩:=Ap.at' I2.bf ea;let⟨mA,n1,r⟩:=XD.at' I2.bf ed;refine K4 I2.iY e hc hf hd n1 (Hc r) (by rw[za];exact l) c n λh' n' sb=>{σ,_,?_,q2}
 let hd':∃o,h'.get? dx=some o:=let ⟨o,_,_,z,_⟩:=n';{(o),z};exact I2.write (x:=dx) (e:=dx) (by rw[ed];exact True.intro) (.inl rfl) (λb v z q=>(sb.2 b z).trans q) hd' (XD.ok n' (Gw ry r))
end
def Pg (K:yq):List V->Hp->VK->Prop:=λxs H Q=>∃(x D:wM) (od:Option wM) (c:V) (u:wG) (b:Bool),xs=[.ref x,c]/\H x=some (Cr D od x)/\iS K D/\((∃C,c=.ref C/\u=.ref C)\/∃n,c=.ty n/\u=.type n)/\PySem.W.kitOne K (.ref D) u=some b/\Q (.bl b) H
def ND (K:yq):List V->Hp->VK->Prop:=λxs H Q=>∃(x D p:wM) (od:Option wM) (cs:List wM) (b:Bool),xs=[.ref x,.ref p]/\H x=some (Cr D od x)/\iS K D/\H p=some (.tup (cs.map V.ref))/\PySem.W.kitAny K (.ref D) (cs.map Value.ref)=some b/\Q (.bl b) H
def R1 (K:yq) (ta:TE) (f:Str):TE:=λσ H Q=>ta σ H λx H1=>∃a C dx fs v,x=.ref a/\H1 a=some (Cr C (some dx) a)/\H1 dx=some (XD dx fs)/\iS K C/\PySem.W.hasDictIn K C=true/\cw K C f/\fs.lookup f=some v/\Q v H1
section
variable {X:Cx} {e:Expr} {f:Str} {pos:Pos} {ta:TE}
def MJ (he:PE X e ta) (hb:attributeBase e f X.env (eval e X.env)=eval e X.env):PE X (.Attribute e f pos) (R1 X.K ta f):=by
 intro pins s σ H Q I h;refine G1 hb (bR (he pins s σ H _ I h) λu s1 z0=>?_);let⟨x,H1,I1,rx,a,C,dx,fs,v,ex,ea,ed,Z,hh,n,l,q⟩:=z0;subst ex;obtain rfl:u=Value.ref a:=rx;let⟨ob,vs,eo,hc,hd,hf⟩:=Cr.at' I1.bf ea;let⟨mA,n1,r⟩:=XD.at' I1.bf ed;let⟨u',hu,ru⟩:=eN.some_of (v:=v) (o:=mA f) (by rw[<-l];exact r f);exact M0 I1.iY Z eo hc (by unfold PySem.W.notCls;rw[hf]) hd n1 hh n hu (w9 ru) {v,H1,I1.tok _,ru,q}
def Ah:dI X (.builtin "isinstance") (Pg X.K):=by
 intro pins s σ H xs us Q I r h;let⟨x,D,od,c,u,b,rfl,hx,Z,hc,e,q⟩:=h;cases r with
 | cons r rr=>
  cases rr with
  | cons r' rr=>
   cases rr;cases r;let hu:∀v,RelV c v->v=u:=by
    rintro v rv;rcases hc with⟨C,rfl,rfl⟩ | ⟨n,rfl,rfl⟩
    ·exact rv
    ·exact rv
   cases hu _ r';let⟨o,vs,e1,e2,_⟩:=Cr.at' I.bf hx;exact y3 (GG Z) I.iY {(o),e1,e2} e (λz=>nomatch z) λtk=>{.bl _,H,I.tok tk,rfl,q}
def FW:dI X (.builtin "isinstance") (ND X.K):=by
 intro pins s σ H xs us Q I r h;let⟨x,D,p,od,cs,b,rfl,hx,Z,hp,e,q⟩:=h;cases r with
 | cons r rr=>
  cases rr with
  | cons r' rr=>
   cases rr;cases r;cases r';let⟨_,its,rv,o,ho,hoc,n,hod⟩:=(show bu X.prog X.w H s.heap p (.tup _) from I.bf p _ hp)
   let eits:=vP rv;subst eits;let⟨oc,od,oda,osl⟩:=o;dsimp only at hoc hod;subst hoc hod;let⟨ox,vs,e1,e2,_⟩:=Cr.at' I.bf hx;exact PySem.W.kia_tup (GG Z) I.iY {(ox),e1,e2} ho e (λz=>nomatch z) λtk=>{.bl _,H,I.tok tk,rfl,q}
end
def Ng (C:wM) (sp:Sp) (E:XK) (t:TA):TE:=λσ H Q=>t σ H λvs H1=>⇑vs<=sizeLine/\∀x,H1 x=none->sp (.ref x::vs) (upd H1 x (Ap C none x)) (λv H2=>v=.aX/\Q (.ref x) H2) E
section
variable {X:Cx} {CX:Ew} {k:Nat} {f C S:wM} {fd:wL} {ps:List Str} {sp:Sp} {E:XK} {x:Str} {p pos:Pos} {e:Expr} {es:List Expr} {t:TA}
def Ht {pins:List (wM×Obj)} {σ:St} {H:Hp} {s:wH} {Q:VK} {us:List wG} {vs:List V} (M:Cm X.K C S f) (F:bQ X.prog X.w X.K X.mg X.base CX k f fd ps sp) (hr:dw (k+1) X.A) (hb:Binds X.K fd ps [])
  (hx:Passes CX X E) (I:Inv X pins σ H s) (r:Vals vs us) (hz:⇑vs<=sizeLine)
  (h:∀x,H x=none->sp (.ref x::vs) (upd H x (Ap C none x)) (λv H2=>v=.aX/\Q (.ref x) H2) E):wpAny (model X.prog X.w) X.A (call (.ref C) us) (EP X pins σ Q) X.xe s:=by
 let hq:=h (↑s+1) (I.bf.fresh (xG _));let I2:=I.laid (a:=↑s+1) (o:=Ap C none (↑s+1)) (h':=mF s.heap C us) (t':=s.toks) (λb u q=>nY q) (xG _) (Ap.ok Ad rfl rfl rfl rfl);let r2:Vals (V.ref (↑s+1)::vs) (Value.ref (↑s+1)::us):=.cons rfl r;let hl:⇑(Value.ref (↑s+1)::us)=⇑ps:=by
  let e:=⇑r2;rw[F.len _ _ _ _ hq] at e;exact e.symm
 let hb2:=hb _ (Value.ref (↑s+1)::us) I2.iY (by rw[zP];exact hl);rw[zP] at hb2;refine K6 M I.iY (by rw[<-⇑r];exact hz) (wpAny_call (xx (F.run _ X.stack _ _ {Value.ref (↑s+1)::us,[]} (Value.ref (↑s+1)::us) _ _ E (hr.make C us []) (I2.HU.make C us []) hb2 r2 hq) λr s' hq'=>?_));cases r with
 | error e=>exact hx pins σ _ _ e s' I2 hq'
 | ok fl=>
  cases fl with
  | ret u=>
   let⟨v,H',I3,rv,ev,q3⟩:=I2.after hq';subst ev;exact{rv,{V.ref (↑s+1),H',I3,rfl,q3}}
  | next=>exact False.elim hq'
  | brk=>exact False.elim hq'
  | cont=>exact False.elim hq'
def JG (M:Cm X.K C S f) (F:bQ X.prog X.w X.K X.mg X.base CX k f fd ps sp) (hr:dw (k+1) X.A) (hg:Gl X x) (hm:X.mg x=some (.ref C)) (hb:Binds X.K fd ps []) (hx:Passes CX X E)
  (ha:PA X (e::es) t) (hdb:(x == ("__debug__": Str))=false<|>qb_) (he:starEach (e::es) X.env=(false,eval e X.env)::starEach es X.env<|>qe_) (hpl:(backTo pos (starEach es X.env)).any (·.1)=false<|>qe_) :
  PE X (.Call (.Name x p) (e::es) [] pos) (Ng C sp E t):=by
 intro pins s σ H Q I h;refine y7 (eD I hg hm ?_ hdb);refine wz (h₀:=X.base) I.ok.mod.LW M.kp (bR (ha pos pins s σ H _ I h) λus s1 z0=>?_) he hpl;let⟨vs,H1,I1,r,hz,q⟩:=z0;refine{I1.iY,?_};exact Ht M F hr hb hx I1 r hz q
end
def rem (H:Hp) (a:wM):Hp:=λb=>if b=a then none else H b
def my {H:Hp} {a b:wM} (h:b≠a):rem H a b=H b:=yD h
def Jp {H:Hp} {a b:wM} {o:HO} (h:rem H a b=some o):b≠a/\H b=some o:=by
 unfold rem at h;split at h
 ·cases h
 ·exact{‹_›,h}
def K2 (P:wI) (w:wJ):Ew:=λouter H s E e s'=>∃(a:wM) (cls:wG) (od:Option wM) (B:wN) (H':Hp),e=.ref a/\s'.os=s.os/\AllBare s'.gens/\Fl B outer a cls od .none s'.heap/\Ey P w (ic outer) H H' s.heap B s'.heap/\E cls od H'
def MK {P:wI} {w:wJ} {X:Cx}:Passes (K2 P w) X E0:=λ_ _ _ _ _ _ _ ⟨_,_,_,_,_,_,_,_,_,_,z⟩=>z.elim
def Fe {M:Model} {A:wK} {E:wG->wH->Prop} {s:wH} {env:Env} {x:Sem wG} {Q:Flow->wH->Prop} (hh:A.handled=none)
  (h:wpAny M A x (λv s1=>∃(e C:wM) (od:Option wM) (vs:Array wG) (sl:Array (Option wG)),v=.ref e/\s1.heap.get? e=some {.ref C,od,.fields vs,sl}/\vs[1]?=some .none/\PySem.W.Looks M s1.heap (isSubtype (.ref C) (.type "BaseException")) true/\(∃oC,s1.heap.get? C=some oC/\oC.cls=.type "type")/\E (.ref e) s1) E s) :
  wpAny M A (raiseStmt env (some x) none) Q E s:=by
 unfold raiseStmt;refine yi (yV h (λv s1 h1=>?_) λ_ _ z=>z);let⟨e,C,od,vs,sl,rfl,he,h1,L1,⟨oC,hC,hcC⟩,hE⟩:=h1;let⟨cc,cd,cda,csl⟩:=oC;dsimp only at hcC;subst hcC;let⟨hp,g,d,tk,os⟩:=s1;let f1:∀{Q':wG->wH->Prop} {A':wK},Q' .none ⟨hp,g,d,tk,os⟩->wpAny M A' (field (.ref e) 1) Q' E ⟨hp,g,d,tk,os⟩:=λq=>yQ he rfl h1 q
 repeat (first | with_reducible refine wpAny_loadPart_at he ?_ | with_reducible refine wpAny_loadPart_at hC ?_ | (with_reducible refine L1.at ?_) | (with_reducible refine f1 ?_) | wp_step)
 exact wpAny_raiseNew_none hh hE
def Lf (K:yq) (H₀:Hp) (te:TE) (E:XK):TS:=λ_ σ H=>te σ H λv H1=>∃a C dx,v=.ref a/\H1 a=some (Ap C (some dx) a)/\H₀ a=none/\(∃S f,Cm K C S f)/\E (.ref C) (some dx) (rem H1 a)
section
variable {P:wI} {w:wJ} {K:yq} {mg:Str->Option wG} {base:wN} {N:List Str} {qual:Str} {scope:Scope} {f:wM} {cdv:wG} {A:wK} {outer:List Env} {s₀:wH} {H₀:Hp} {E:XK}
def HA {x:Expr} {te:TE} {pos:Pos} (he:PE (gk (K2 P w) P w K mg base N qual scope f cdv A outer s₀ H₀ E) x te) :
  PS (gk (K2 P w) P w K mg base N qual scope f cdv A outer s₀ H₀ E) (.Raise (some x) none pos) (Lf K H₀ te E):=by
 intro pins s σ H D I h;rw[arm_exec_Raise];refine yi (wpAny_standAt (Fe (I.ok.hd rfl) (yi (bR (he pins s σ H _ I h) λu s1 z0=>?_))));let⟨v,H1,I1,rv,a,C,dx,ev,ea,ha0,⟨S,fI,hB⟩,q⟩:=z0;refine yi (wpAny_standAt (yk ?_));subst ev;obtain rfl:u=Value.ref a:=rv;let⟨ob,vs,hx,hc,hd,hf,h1⟩:=Ap.at' I1.bf ea;let⟨oc,odd,oda,osl⟩:=ob;dsimp only at hc hd hf;subst hc hd hf;let⟨_,_,_,_,_,_,_,_,_,_,_,_,_,_,_,hCl⟩:=hB.obj;refine{a,C,some dx,vs,osl,rfl,hx,h1,PySem.W.looks_mroIn I1.iY hB.cls.mB,{_,I1.iY _ _ hCl,rfl},?_};show wpAny (model P w) (A.deeper (envOfC qual scope ↑s₀ f cdv)) (leaving (envOfC qual scope ↑s₀ f cdv) (.ref a)) (λ_ s''=>K2 P w outer H₀ s₀ E (.ref a) s'') (λe' s''=>K2 P w outer H₀ s₀ E e' s'') s1;let hfr:ic (envOfC qual scope ↑s₀ f cdv::outer)=↑s₀::ic outer:=tu rfl;let hst:s1.heap.FunFrames base (envOfC qual scope ↑s₀ f cdv::outer):=I1.stack;let hin:∀env∈(envOfC qual scope ↑s₀ f cdv::outer),∀b,env.frame=some b->b∈a::ic (envOfC qual scope ↑s₀ f cdv::outer):=λenv he b hf=>zj _ (wB.mpr {(env),he,hf});let hl:=PySem.W.funFrames_hide (as:=a::ic (envOfC qual scope ↑s₀ f cdv::outer)) hst hin;let ku:∀b:wM,b∉(gk (K2 P w) P w K mg base N qual scope f cdv A outer s₀ H₀ E).ex:=λb z=>absurd (show b∈([]:List wM) from z) (by simp);let n0:∀o,s₀.heap.get? a≠some o:=λo e=>by
  have:=I1.base.free a o e ha0 (ku a);rw[ea] at this;cases this
 let low:∀b o,s₀.heap.get? b=some o->b≠↑s₀:=λb o e z=>absurd (yn e) (by rw[z];exact zW _);let nin:∀b o,s₀.heap.get? b=some o->b∉ic outer->b∉a::ic (envOfC qual scope ↑s₀ f cdv::outer):=λb o e n z=>by
  rw[hfr] at z;rcases zy.mp z with z | z
  ·subst z;exact n0 o e
  ·rcases zy.mp z with z | z
   ·exact low b o e z
   ·exact n z
 unfold leaving;refine yi (Ki (B:=PySem.W.hideAll s1.heap (a::ic (envOfC qual scope ↑s₀ f cdv::outer))) I1.ok.frames hl rfl hx (λb o q=>PySem.W.of_hideAll _ q) (PySem.W.hideAll_none _ zk) rfl h1 λh2 x2 u2=>pA (s:={s1 with heap:=h2}) x2 λh3 x3 u3=>?_);let nt:∀b o,H1 b=some o->(∀φ,o≠.ext φ)->b≠a:=λb o e n z=>by subst z;rw[ea] at e;cases e;exact n _ rfl
 refine{a,.ref C,some dx,_,rem H1 a,rfl,I1.os,I1.bare,{(x3.st),x3.new,x3.fr.2.2,x3.ob},{λb o q n hb=>wo _ (I1.base.keep b o q n hb (ku b)) (nin b o q hb),λb o q n hb=>?_,λb o q n=>?_,λb o q hb=>?_,λb xs e=>?_,λb o u e=>?_,λb ps e=>?_,λb o q=>?_,x3.st},q}
 ·let⟨sl,e1⟩:=I1.base.slot b o q n hb (ku b)
  let⟨_,o1,e2,nd⟩:=I1.ok.kZ.mem hb;let e2':s₀.heap.get? b=some o1:=e2;rw[q] at e2';cases e2';let⟨sl2,e4⟩:=u2 b _ e1 nd;let⟨sl3,e5⟩:=u3 b _ e4 nd;exact{(sl3),e5}
 ·unfold rem
  split
  ·rfl
  ·exact I1.base.free b o q n (ku b)
 ·let⟨o',e1⟩:=I1.base.there b o q (ku b)
  exact{o',wo _ e1 (nin b o q hb)}
 ·let e1:=I1.base.ko b xs e
  rw[my (nt b _ e1 λφ z=>nomatch z)];exact e1
 ·let e1:=I1.base.ji b o u e
  rw[my (nt b _ e1 λφ z=>nomatch z)];exact e1
 ·let⟨m,e1⟩:=I1.base.kr b ps e
  exact{m,by rw[my (nt b _ e1 λφ z=>nomatch z)];exact e1}
 ·let⟨ne,q⟩:=Jp q
  refine(I1.bf b o q).ik (λc u hc e1=>wo _ e1 λz=>?_) (λc z=>by rw[my (nt c _ z λφ y=>nomatch y)];exact z) λc xs z=>by rw[my (nt c _ z λφ y=>nomatch y)];exact z
  rcases zy.mp z with z | z
  ·rcases hc with hc | hc
   ·exact ne (hc▸z)
   ·exact nt c _ hc (λφ y=>nomatch y) z
  ·let n:=I1.jz c z
   rcases hc with rfl | hc
   ·rw[q] at n;cases n
   ·rw[hc] at n;cases n
def Iz.R8 {x:Str} {st:Stmt} {fd:wL} {ps:List Str} {k:Nat} {sp:Sp} (F:Iz K x qual st f fd) (S:dr N ps (aD st)) (len:∀vs H Q E,sp vs H Q E->⇑vs=⇑ps)
  (hbody:∀(cdv:wG) (A:wK) (outer:List Env) (s:wH) (H:Hp) (vs:List V) (Q:VK) (E:XK),dw k (A.deeper (envOfC qual (aD st) ↑s f cdv))->sp vs H Q E->
   ∃t,vM (gk (K2 P w) P w K mg base N qual (aD st) f cdv A outer s H E) (aZ st) t/\t {nx:=λ_ H'=>Q .aX H',rt:=Q} (start N vs) H):bQ P w K mg base (K2 P w) (k+1) f fd ps sp:=by
 let⟨oc,od,kV,doc,pm,an,cdv,ct,osl,rfl,lk,hcd⟩:=F.ex;exact Kh lk hcd S len λA outer s H vs Q E hr hsp=>hbody cdv A outer s H vs Q E hr hsp
end
def OY (sp:Sp) (t:TA) (C:wM) (j:Nat) (th:TS):TS:=λD σ H=>t σ H λvs H1=>sp vs H1 (λ_ H2=>D.nx σ H2) λcls od H2=>cls=.ref C/\∀a,H2 a=none->th (QF j D) (σ.set j (some (.ref a))) (upd H2 a (Cr C od a))
section
variable {X:Cx} {k:Nat} {f:wM} {fd:wL} {ps:List Str} {sp:Sp} {fx cn n:Str} {p pos cpos pa np hpos:Pos} {e₀:Expr} {es:List Expr} {t:TA} {j:Nat} {C S:wM} {bmS:List wG} {newIdS:String} {b₀:Stmt} {suite:List Stmt} {th:TS}
def LD (F:bQ X.prog X.w X.K X.mg X.base (K2 X.prog X.w) k f fd ps sp) (hr:dw k X.A) (hg:Gl X fx) (hm:X.mg fx=some (.ref f)) (hk:PySem.W.keepIn X.K (.ref f)=true) (hb:Binds X.K fd ps []) (ha:PA X.Cp (e₀::es) t)
  (hc:X.calm=true) (hN:X.N.Nodup) (hj:X.N[j]?=some n) (hnl:X.env.scope.names.lookup n=some .local) (hgc:Gl X cn) (hS0:PySem.W.nsIn X.K mainGlobals cn=some (some (.ref S))) (hQS:PySem.W.excIn X.K S bmS newIdS=true)
  (hSB:PySem.W.mroIn X.K S (.type "BaseException")=some true) (hup:PySem.W.mroIn X.K C (.ref S)=some true) (hstk:X.stack=X.env::X.outer) (hfrm:X.env.frame=some X.env.locals) (hex:X.ex=[])
  (hsu:∀e,vM (X.held e).Cp (b₀::suite) th)
  (hdb:(fx == ("__debug__": Str))=false<|>qb_) (hdc:(cn == ("__debug__": Str))=false<|>qb_) (he:starEach (e₀::es) X.env=(false,eval e₀ X.env)::starEach es X.env<|>qe_) (hpl:(backTo cpos (starEach es X.env)).any (·.1)=false<|>qe_)
  (hs:swapsWith (.Call (.Name fx p) (e₀::es) [] cpos) none pa.line X.env=pure false<|>qe_) :
  PS X (.Try [.Expr (.Call (.Name fx p) (e₀::es) [] cpos) pa] [.ExceptHandler (some (.Name cn np)) (some n) (b₀::suite) hpos] [] [] pos) (OY sp t C j th):=by
 intro pins s σ H D I h;let O:OwnCls cn S bmS newIdS X.mg X.base:=jI X.prog I.ok.mod hS0 hQS;let⟨ddS,cdS,slS,hSl⟩:=FR hQS;refine wpAny_Try_except (wpAny_execs_cons ?_);refine wpAny_Expr_any ?_ I.quiet hs;refine y7 (eD I hg hm ?_ hdb);let hA:wpAny (model X.prog X.w) X.A (spliced (backTo cpos (starEach (e₀::es) X.env))) (AP X.Cp pins σ _) (λ_ _=>False) s:=ha cpos pins s σ H _ (I.lR _) h;refine wz (h₀:=X.base) I.ok.mod.LW hk (yV hA (λus s1 z0=>?_) λ_ _ z=>z.elim) he hpl;let⟨vs,H1,I1',r,q⟩:=z0;refine{I1'.iY,?_};let I1:Inv X pins σ H1 s1:=I1'.eP;let hl:⇑us=⇑ps:=by rw[<-⇑r];exact F.len _ _ _ _ q
 refine wpAny_call (xx (F.run X.A X.stack s1 H1 {us,[]} us vs _ _ hr I1.HU (by have:=hb s1 us I1.iY (by rw[zP];exact hl);rw[zP] at this;exact this) r q) λrr s' hq=>?_);cases rr with
 | ok fl=>
  cases fl with
  | ret u=>
   let⟨v,H2,I2,r2,q2⟩:=I1.after hq;exact xS (xS {_,H2,I2,q2})
  | next=>exact False.elim hq
  | brk=>exact False.elim hq
  | cont=>exact False.elim hq
 | error ev=>
  let⟨a,cls,od,B,H',rfl,os,bare,fl,fly,⟨rfl,q2⟩⟩:=hq;let BD:∀b∈ic X.stack,H1 b=none:=I1.jz;let nf:∀{hh:wN},Heap.FunFrames hh B X.stack->∀b∈ic X.stack,∃o,hh.get? b=some o/\∀vs,o.data≠.fields vs:=λhF b hb=>(hF.mem hb).2;let back:∀(hh:wN),Ey X.prog X.w (ic X.stack) H1 H' s1.heap B hh->Inv X pins σ H' {s' with heap:=hh}:=λhh fy=>
   I1.GZ (s':={s' with heap:=hh}) (ch:=[]) os (fy.un BD) (fy.bf.kept fy.ik) bare λb z=>absurd z (by simp)
  let hfr:X.A.frames=some (X.env::X.outer):=by rw[<-hstk];exact I1.ok.frames
  refine L7 hfr hfrm (by rw[<-hstk];exact fl) λh4 x4 up4=>?_;refine pA (s:={s' with heap:=h4}) x4 λh5 fl5 up5=>?_;let fl5':Fl B X.stack a (.ref C) od .none h5:=by rw[hstk];exact fl5
  let fy5:Ey X.prog X.w (ic X.stack) H1 H' s1.heap B h5:=fly.on (up4.trans up5) fl5.st (nf fl.fr);let I5:=back h5 fy5;let⟨ob,_,_,_,_,hob,hobc,_⟩:=fl5'.ob;refine wpAny_handleBy_cons (codeAny_handlers_test (eD (X:=X.held (.ref a)) (I5.held _) hgc O.bound ?_ hdc)) (by intro q;cases q);refine L8 I5.iY hob hobc hSl hSB hup (codeAny_handlers_suite_as ?_);refine pA (s:={s' with heap:=h5}) fl5' λh6 fl6 up6=>?_;let fy6:Ey X.prog X.w (ic X.stack) H1 H' s1.heap B h6:=fy5.on up6 fl6.st (nf fl5'.fr);let I6:=back h6 fy6;let⟨oe,ws,_,_,_,hoe,hoec,hoei,hoed,_⟩:=fl6.ob;let Bn:B.get? a=none:=fl6.new;let noFr:a∉ic X.stack:=λz=>by
   let⟨o,e1,e2⟩:=nf fl6.fr a z;rw[hoe] at e1;cases e1;exact e2 _ hoed
  let nL:a≠X.env.locals:=λz=>noFr (by rw[hstk,tu hfrm,z];exact zk);let nH:H' a=none:=by
   cases e:H' a with
   | none=>rfl
   | some u=>let⟨o,e1⟩:=(fy6.bf a u e).here;rw[Bn] at e1;cases e1
  let n0:X.s₀.heap.get? a=none:=by
   cases e:X.s₀.heap.get? a with
   | none=>rfl
   | some o=>
    let⟨o',e1⟩:=I1.base.there a o e (by rw[hex];simp);let⟨o2,e2⟩:=fy6.there a o' e1 noFr;rw[Bn] at e2;cases e2
  let nC:∀y c,X.env.cells.lookup y=some c->c≠a:=λy c e z=>by
   let⟨v,o,ho,hd⟩:=I6.cell y c e;rw[z,hoe] at ho;cases ho;rw[hoed] at hd;cases hd
  let nP:∀p∈X.pn++pins,p.1≠a:=λp hp z=>by
   let⟨e,n,ne,nf',d⟩:=I1.pin p hp;have:=fy6.keep p.1 p.2 e n (by rw[z];exact noFr);rw[z,Bn] at this;cases this
  let I7:Inv X pins σ (upd H' a (Cr C od a)) {s' with heap:=h6}:=I6.OU nH n0 nL nC nP (Cr.ok hoe hoec hoei hoed);refine m7 (X:=X.held (.ref a)) (I7.held _) hN hj (.inl hnl) (v:=.ref a) rfl (λs8 I8=>?_) (.inr hnl);refine yV (hsu (.ref a) pins _ _ _ (QF j D) (I8.lR _) (q2 a nH)) (λfl s9 z=>?_) λ_ _ z=>z.elim;let z':SP X pins (QF j D) fl s9:=SP.iT I.ok.hd (SP.eP z);let hp:(X.env.scope.kind == .class||(X.env.scope.kind == .module&&X.env.locals != X.env.globals))=false:=by rw[I.ok.kind];rfl
  let fin:∀σ' H',Inv X pins σ' H' s9->∀(Q:Unit->wH->Prop),(∀s10,Inv X pins (σ'.set j none) H' s10->Q .unit s10)->wpAny (model X.prog X.w) X.A (do bindName X.env n .none;unbindBehindTheSuite X.env n hpos) Q X.xe s9:=λσ' H' I9 Q hQ=>by
   let⟨m,hm,hml⟩:=id I9.loc;refine wpAny_nameGoes_keeps hnl hm hp λh' v hn hs=>hQ _ (I9.La hN hj hml hn hs)
  cases fl with
  | next=>let⟨σ',H',I9,q⟩:=z';exact fin σ' H' I9 _ λs10 I10=>{_,_,I10,q}
  | brk=>let⟨σ',H',I9,q⟩:=z';exact fin σ' H' I9 _ λs10 I10=>{_,_,I10,q}
  | cont=>let⟨σ',H',I9,q⟩:=z';exact fin σ' H' I9 _ λs10 I10=>{_,_,I10,q}
  | ret u=>let⟨v,σ',H',I9,r,q⟩:=z';exact fin σ' H' I9 _ λs10 I10=>{v,_,_,I10,r,q}
end
structure MY (K:yq) (D:wM):Prop where
 self:PySem.W.subIn K (.ref D) (.ref D)=some true
 ve:PySem.W.subIn K (.ref D) (.type "ValueError")=some true
 hd:PySem.W.hasDictIn K D=true
 np:cw K D "place"
 nw:cw K D "word"
def J2 {K:yq} {D a b c d e:wM} (F:MY K D) (na:km K D a) (nb:km K D b) (nc:km K D c) (nd:km K D d) (ne:km K D e):PySem.W.kitAny K (.ref D) ([a,b,c,d,e].map Value.ref)=some false:=
 kW (na.Pu F.self) (kW (nb.Pu F.self) (kW (nc.Pu F.self) (kW (nd.Pu F.self) (kW (ne.Pu F.self) LV))))
section
variable {X:Cx}
abbrev Q4:List V->Hp->VK->Prop:=λxs H Q=>∃i j,xs=[.int i,.int j]/\Q (.int (if j<i then j else i)) H
def Qk (k:Int):wG->Bool
 | .int i _=>i == k
 | _=>false
inductive LA (x:V) (vs:List V) (H:Hp) (Q:VK):Prop
 | mk (l:wM) (ns:List Int) (k:Int) (_:x=.ref l) (_:vs=[.int k]) (_:H l=some (.lst (ns.map V.int))) (_:k∈ns) (_:Q .aX (upd H l (.lst ((ns.erase k).map V.int))))
theorem MB (k:Int) (t:Tok):∀{ns:List Int} {its:List wG},Vals (ns.map V.int) its->(∀y∈its,MeetsSeq.EqGives y (.int k t) (Qk k y))/\(k∈ns->∃(j:Nat) (hj:j<⇑its),Qk k its[j]=true/\(∀m (hm:m<⇑its),m<j->Qk k its[m]=false)/\Vals ((ns.erase k).map V.int) (its.eraseIdx j))
 | [],_,.nil=>{λ_ h=>(nomatch h),λh=>(nomatch h)}
 | a::ns,_::its,.cons ⟨t',rfl⟩ q=>by
  let⟨h1,h2⟩:=MB k t q;refine{λy hy=>?_,λh=>?_}
  ·rcases zy.mp hy with rfl | hy
   ·exact MeetsSeq.EqGives.int a k t' t
   ·exact h1 y hy
  ·by_cases c:a=k
   ·subst c
    exact{0,Nat.zero_lt_succ _,by show(a == a)=true;simp,λm _ z=>absurd z (Nat.not_lt_zero _),by rw[List.erase_cons_head];exact q}
   ·let hk:k∈ns:=by
     rcases zy.mp h with z | z
     ·exact absurd z.symm c
     ·exact z
    let⟨j,hj,e1,e2,e3⟩:=h2 hk;refine{j+1,Nat.succ_lt_succ hj,e1,λm hm lt=>?_,?_}
    ·cases m with
     | zero=>show(a == k)=false;simp[c]
     | succ m=>exact e2 m (Nat.lt_of_succ_lt_succ hm) (Nat.lt_of_succ_lt_succ lt)
    ·rw[List.erase_cons_tail (by simp[c]),List.eraseIdx_cons_succ]
     exact .cons {(t'),rfl} e3
def HI:MW X "list.remove" LA:=by
 intro pins s σ H x vs v us Q I rx rv h;let⟨l,ns,k,rfl,rfl,hH,hk,q⟩:=h;cases rx;let⟨u,rfl,ru⟩:=rv.one;let⟨t,rfl⟩:=ru;let⟨z,its,n,r,hl,e⟩:=I.HK hH;let⟨h1,h2⟩:=MB k t r;let⟨j,hj,e1,e2,e3⟩:=h2 hk;let l2:=⇑r;refine xV F.slot_list_remove {_,e,rfl} F.entry_list_remove (F.args_list_remove_2 _ _)
  (MeetsSeq.list_remove l its.toArray n (.int k t) (Qk k) (λy hy=>h1 y (by simpa using hy)) j (by simpa using hj) (by simpa using e1) (λm hm lt=>by simpa using e2 m (by simpa using hm) lt) (by rw[zS];ext)) {e,?_}
 refine{.aX,_,I.LP (its':=its.eraseIdx j) hH e ?_ e3 ?_,rfl,q}
 ·apply Array.toList_inj.mp
  simp[Array.toList_eraseIdxIfInBounds]
 ·rw[za]
  have:=List.length_erase_of_mem hk;rw[za] at z;ext
end
section
open AutoSeq1 (wpAny_loadPart')
def HV {prog:wI} {w:wJ} {A:wK} (hh:A.handled=none) (it l:wM) (hne:l≠it) (items:Array wG):Draws prog w A it [it,l] items.size (λi v=>items[i]?=some v) (λi h=>bU true h it l i/\ei true h l items) where
 live:=λ_ _ st=>(st.1.get).imp λ_ z=>z.1
 frame:=λ_ _ _ st hk=>{st.1.at (hk it (by simp)),st.2.at (hk l (by simp))}
 item:=λi s Q E hi st hQ=>qT st.1 st.2 (x:=items[i]) (by simp[hi]) λh' a b=>hQ _ h' s.toks (by simp[hi]) {a,st.2.but b hne} b
 done:=λs Q E st hE=>qS hh st.1 st.2 (by simp) hE
def FC (l:wM) (items:Array wG) (n:Nat) (dct:Option wM) (sl:Array (Option wG)) :
  Meets (Builtin.«enumerate.__new__» {[.type "enumerate",.ref l],[]}) (λ_ R s=>s.heap.get? l=some {cls:=.type "tuple",dict:=dct,data:=.seq items n,slots:=sl}/\
   R (.ok (.ret (.ref (s.heap.push (fS true l)).objs.size))) {s with heap:=(s.heap.push (fS true l)).push {cls:=.type "enumerate",data:=.fields #[.none,.bool false,.ref ↑s,rawInt 0,.none,.none]}}):=
 .of_wp λprog w A R s h=>by
  let⟨hp,g,d,tk,os⟩:=s;let⟨hl,h⟩:=h;let hsub:=sub_enumerate;let hL:ei true (Shared.heap {(hp),g,d,tk,os}) l items:={_,hl,rfl,n,rfl}
  wp_walk using wpAny_loadPart' hl;refine wpAny_stack_any λst=>yk ?_;split
  ·rename_i c _ _ _ _ _
   cases(c == Value.type "enumerate") <;> (wp_walk using wpAny_loadPart' hl,qU hL;exact{_,rfl,h})
  ·wp_walk using wpAny_loadPart' hl,qU hL
   exact{_,rfl,h}
section
variable {prog:wI} {w:wJ} {A:wK} {E:wG->wH->Prop} {s:wH}
def FD {l:wM} {items:Array wG} {Q:wG->wH->Prop} (hL:ei true s.heap l items)
  (h:∀h',IsEnum h' (↑s+1) ↑s 0 .none->bU true h' ↑s l 0->(∀b o,s.heap.get? b=some o->h'.get? b=some o)->Q (.ref (↑s+1)) {s with heap:=h'}) :
  wpAny (model prog w) A (call (.type "enumerate") [.ref l]) Q E s:=by
 let⟨⟨c,dct,dt,sl⟩,hl,hc,n,hd⟩:=(show s.heap.IsTuple l items from hL)
 dsimp only at hc hd;subst hc hd;refine callType_new F.called_enumerate ∅ (F.typeCall_enumerate_1 _) (F.newCall_enumerate_1 _) (λobj=>F.args_object_init_2 obj _) F.entry_enumerate_new (FC l items n dct sl) {hl,?_};let hz:(s.heap.push (fS true l)).objs.size=↑s+1:=yZ ..;show _/\_;rw[hz];let he:IsEnum ((s.heap.push (fS true l)).push {cls:=.type "enumerate",data:=.fields #[.none,.bool false,.ref ↑s,rawInt 0,.none,.none]}) (↑s+1) ↑s 0 .none:=by
  let q:=ym (s.heap.push (fS true l)) (o:={cls:=.type "enumerate",data:=.fields #[.none,.bool false,.ref ↑s,rawInt 0,.none,.none]}) rfl;rw[hz] at q;exact q
 exact{{_,he,rfl},h _ he ((bU.new true s.heap l).at λo x=>yj _ x) λb o x=>yj _ (yj _ x)}
def FA {e it l:wM} {i:Nat} {items:Array wG} {old:wG} {Q:Option wG->wH->Prop} (hh:A.handled=none) (he:IsEnum s.heap e it i old) (hit:bU true s.heap it l i) (hl:ei true s.heap l items) (hx:items[i]?=none)
  (hQ:∀h',Heap.ExtBut it s.heap h'->Q none {s with heap:=h'}):wpAny (model prog w) A (pyNext (.ref e)) Q E s:=by
 let hT:s.TypeIs (.ref e) "enumerate":={_,he,rfl}
 unfold pyNext;refine yi (wg (yO (name:=Str.ofString "__next__") hT F.slot_enumerate_next (yS F.slot_enumerate_next hT F.entry_enumerate_next ?_ (F.args_enumerate_next_1 _))));show wpAny _ _ (field (.ref e) 2 >>= _) _ _ _;refine yi (yQ he rfl (x:=.ref it) rfl (yi (qS hh hit hl hx λh' x he' ⟨o,ho,hc⟩=>?_)));exact yi (wpAny_isInstance (T:="StopIteration") (b:=true) {(o),ho,hc} isSubtype_stop (yk (hQ _ he')))
end
def Iy (K:yq) (a:wM):It:=
 {λi H=>∃xs x,bK K H a xs/\xs[i]?=some x,λi H x H'=>∃p v,H p=none/\x=.ref p/\H'=upd H p (.tup [.int (i:Int),v])/\∀xs,bK K H a xs->xs[i]?=some v,λi H=>∃xs,bK K H a xs/\⇑xs<=i}
def EI {P:wI} {w:wJ} {K:yq} {es:List Expr} {kt:Nat} {tp:Pos} (a it e:wM) (hne:e≠it) :
  Turn P w K (.Tuple es kt tp) (Iy K a) [e,it] e (λi h=>(∃old,IsEnum h e it (i:Int) old)/\bU true h it a i) where
 mem:=by simp
 obj:=λi h st b hb=>by
  let⟨⟨old,he⟩,hi⟩:=st;rcases zy.mp hb with z | z
  ·subst z;exact{_,he,λv z=>by cases z}
  ·rw[zu.mp z];exact hi.get
 keep:=λi h h' st k=>{let ⟨old,he⟩:=st.1;{old,k e (by simp) _ he},st.2.at (k it (by simp))}
 item:=by
  intro X hP hw hK hc i pins s σ H E I hf st hg;subst hP hw hK;let⟨xs,x,hq,hx⟩:=hg;let⟨its,rv,p,hz⟩:=I.tuple hq;let⟨u,hu,ru⟩:=rv.get hx;let⟨⟨old,he⟩,hit⟩:=st;let p':ei true s.heap a its.toArray:=p;let n1:a≠it:=λz=>by
   let⟨o,ho,hc',_⟩:=p;let⟨o',ho',hc2,_⟩:=(show s.heap.IsTupleIter it a i from hit)
   rw[z,ho'] at ho;cases ho;rw[hc2] at hc';exact absurd hc' ∅
  let n2:e≠a:=λz=>by
   let⟨o,ho,hc',_⟩:=p;rw[<-z,he] at ho;cases ho;exact absurd hc' (show¬(Value.type "enumerate"= Value.type "tuple") by decide)
  refine wpAny_pyNext_enum_itemD (HV (A:=X.A.in1) (show X.A.in1.handled=none from I.ok.hd hc) it a n1 its.toArray) he {(hit),p'} (by have:=(zt.mp hu).1;simpa using this) hne (by simp[hne,n2]) λy g1 tk hy ho hit1 hT hsz hk=>?_;let hy':u=y:=by let hy:=hy;rw[List.getElem?_toArray,hu] at hy;exact ya hy
  subst hy';refine{_,rfl,wpAny_letOwnedTupleGo_enum (s:={s with heap:=g1,toks:=tk+1}) ho λg2 he2 hs2=>?_};let hel:e<↑s:=yn he;let gT:g2.get? ↑s=some {cls:=.type "tuple",data:=.seq #[.int i tk,u]}:=hs2.extBut _ _ (zZ hel) hT;let I1:Inv X pins σ (upd H ↑s (.tup [.int (i:Int),x])) {s with heap:=g2,toks:=tk+1}:=
   I.rF hf (zh _) (λb ob hb q=>hs2.extBut _ _ (λz=>hb (by simp[z])) (hk b ob (λz=>hb (by simp[z])) (λz=>hb (by simp[z])) q)) {by show 2<=sizeLine;decide,[.int i tk,u],.cons {_,rfl} (.cons ru .nil),{_,gT,rfl,_,rfl}}
  refine{.ref ↑s,_,I1,rfl,{_,x,I.bf.fresh (zh _),rfl,rfl,λys hy=>by rw[I.oB hy hq];exact hx},{{_,by simpa using he2},hit1.1.but hs2 hne.symm},λb hb=>?_};let hb':=(hf b hb).1;obtain⟨o,ho',_⟩:∃o,s.heap.get? b=some o/\True:=by
   rcases zy.mp hb with z | z
   ·subst z;exact{_,he,trivial}
   ·rw[zu.mp z];let⟨o,e1,_⟩:=hit.get;exact{(o),e1,trivial}
  rw[ar (z9 (yn ho'))];exact hb'
 done:=by
  intro X hP hw hK hc i pins s σ H E I hf st hg;subst hP hw hK;let⟨xs,hq,hx⟩:=hg;let⟨its,rv,p,hz⟩:=I.tuple hq;let⟨⟨old,he⟩,hit⟩:=st;let hl:=⇑rv;exact FA (I.ok.hd hc) he hit p (by simp;ext) λg1 eb=>{rfl,I.turns (t':=s.toks) hf λb o hb q=>eb b o (λz=>hb (by simp[z])) q}
 self:=λ_ _ _ _ _ st h=>let ⟨_,he⟩:=st.1;wpAny_pyIter_enum he h
def N2 (K:yq) (ta:TA):TI:=λσ H R=>ta σ H λvs H1=>∃a xs,vs=[.ref a]/\bK K H1 a xs/\R (Iy K a) H1
def JE {X:Cx} {a:Expr} {ta:TA} {es:List Expr} {kt:Nat} {tp p pos:Pos} (hg:Gl X "enumerate") (hm:X.mg "enumerate"= none) (ha:PA X [a] ta) (hs:starEach [a] X.env=[(false,eval a X.env)]<|>qe_) :
  PI X (.Tuple es kt tp) (.Call (.Name "enumerate" p) [a] [] pos) (N2 X.K ta):=by
 intro pins s σ H R I h;refine Call_ (jK I hg hm oq (yC (bR (ha pos pins s σ H _ I h) λus s1 z0=>?_) hs rfl));let⟨vs,H1,I1,r1,q1⟩:=z0;let⟨l,xs,e,hq,q⟩:=q1;subst e;cases r1 with
 | cons r rr=>
  cases rr;cases r;let⟨its,rv,pl,hz⟩:=I1.tuple hq;refine FD (show ei true s1.heap l its.toArray from pl) λg he hit hk=>?_;refine wpAny_pyIter_enum (s:={s1 with heap:=g}) he ?_;let I2:Inv X pins σ H1 {s1 with heap:=g}:=I1.kept (t':=s1.toks) hk;refine{↑s1+1,[↑s1+1,↑s1],_,Iy X.K l,H1,rfl,I2,EI l ↑s1 (↑s1+1) (zZ (xt _)),{{_,by simpa using he},hit},λb hb=>?_,q};let hb':↑s1<=b:=by
   rcases zy.mp hb with z | z
   ·subst z;exact xG _
   ·rw[zu.mp z];exact zh _
  exact I1.tw hb' (I1.bf.fresh hb')
def HR {K:yq} {a:wM} {xs:List V} {g:TG} {tb:TS} {D:Ends} {σ:St} {H:Hp} (Pv:Nat->St->Hp->Prop) (h0:Pv 0 σ H) (hl:∀i σ H,i<=⇑xs->Pv i σ H->bK K H a xs)
  (hs:∀i x σ H p H',xs[i]?=some x->Pv i σ H->ao H H'->H' p=some (.tup [.int (i:Int),x])->g (.ref p) σ H' λσ2 H2=>tb {D with nx:=Pv (i+1),ct:=Pv (i+1),bk:=D.nx} σ2 H2) (hd:∀σ H,Pv ⇑xs σ H->D.nx σ H) :
  ∃W:Nat->Nat->St->Hp->Prop,(∃m,W 0 m σ H)/\∀i m σ H,W i m σ H->
   ((Iy K a).stop i H/\D.nx σ H)\/((Iy K a).go i H/\∃N:St->Hp->Prop,(∀σ' H',N σ' H'->∃m',m'<m/\W (i+1) m' σ' H')/\∀x H',(Iy K a).Gg i H x H'->g x σ H' λσ2 H2=>tb {D with nx:=N,ct:=N,bk:=D.nx} σ2 H2):=by
 refine{λi m σ H=>m=⇑xs-i/\i<=⇑xs/\Pv i σ H,{⇑xs,by simp,zX _,h0},?_};rintro i m σ H ⟨rfl,hi,p⟩;let q:=hl i σ H hi p
 by_cases hlt:i<⇑xs
 ·refine .inr {{xs,xs[i],q,by simp[hlt]},Pv (i+1),λσ' H' p'=>{⇑xs-(i+1),(),rfl,hlt,p'},λx H' y=>?_}
  let⟨pp,v,hn,rfl,rfl,hv⟩:=y;exact hs i v σ H pp _ (hv xs q) p (bW hn) aA
 ·refine .inl {{(xs),q,()},hd σ H ?_}
  let e:i=⇑xs:=()
  subst e;exact p
end
theorem DB (its:Array wG):∀(k:Nat) (acc:Array wG),List.foldl (λx y=>x++y) acc (List.replicate k its)=(acc.toList++(List.replicate k its.toList).flatten).toArray
 | 0,acc=>by simp
 | k+1,acc=>by rw[List.replicate_succ,List.foldl_cons,DB its k];simp[List.replicate_succ,zA]
theorem DA {xs:List V} {its:List wG} (h:Vals xs its):∀k:Nat,Vals (List.replicate k xs).flatten (List.replicate k its).flatten
 | 0=>.nil
 | k+1=>by rw[List.replicate_succ,List.replicate_succ,List.flatten_cons,List.flatten_cons];exact h.append (DA h k)
def Pe:R2:=λx y H Q=>∃(l:wM) (xs:List V) (n:Int),x=.ref l/\y=.int n/\H l=some (.lst xs)/\xs≠[]/\0<=n/\n<=1000/\⇑xs<=1000/\∀p,H p=none->Q (.ref p) (upd H p (.lst (List.replicate n.toNat xs).flatten))
def LL {X:Cx}:mV X (binaryOp .Mult) Pe:=by
 intro pins s σ H x y v u Q I rx ry h;let⟨l,xs,n,rfl,rfl,hH,hne,h0,h1,hl,q⟩:=h;cases rx;let⟨tk,rfl⟩:=ry;let sl:=yr;let⟨z,its,k,r,hl',e⟩:=I.HK hH;let hm:⇑its*n.toNat<=1000*1000:=x6 () ();let hs:its.toArray.size*n.toNat<=1000000:=by rw[zS];ext
 refine wpAny_binaryOp_repeat_ref (T:="list") (U:="int") ∅ {_,e,rfl} (λs'=>typeIs_int s' n tk) noFill_list_mul F.fills_int_mul F.slot_int_rmul repeat_list F.slot_int_index.lookup
  (xV F.slot_int_rmul (typeIs_int s n tk) F.entry_int_rmul (F.args_int_rmul_2 _ _) (int___rmul___int_list n tk l its.toArray k) {e,rfl,{_,e,rfl},xV F.slot_list_mul {_,e,rfl} F.entry_list_mul (F.args_list_mul_2 _ _)
   (AutoListH.list___mul___list_int_3 l its.toArray k n tk (by simp[Builtin.List.listFitsIndex];ext) () (by rw[sV ()];exact zG)) {e,?_}})
 let ne:its.toArray.isEmpty=false:=by
  cases its with
  | nil=>exact absurd (yh.mp (by rw[hl'];rfl)) hne
  | cons a b=>rfl
 let ef:List.foldl (λx1 x2=>x1++x2) #[] (List.replicate (if its.toArray.isEmpty=true then 0 else n.toNat) its.toArray)=(List.replicate n.toNat its).flatten.toArray:=by rw[ne,yD zG,DB];rfl
 rw[ef];let rl:=DA r n.toNat;refine{.ref ↑s,_,I.NP (t':=s.toks) rl ?_,rfl,q _ I.fresh};let el:=⇑rl;let fl:⇑(List.replicate n.toNat its).flatten=n.toNat*⇑its:=by simp[List.length_flatten,List.map_replicate,List.sum_replicate_nat]
 rw[el,fl,Nat.mul_comm];ext
end L2
namespace Sc
open PySem L2 Lm
def Gu {l ns:List Int} (h1:ns.Perm l) (h2:ns.Pairwise (·<=·)):sortI l=ns:=by
 unfold sortI;let a:(l.mergeSort).Pairwise (·<=·):=(List.pairwise_mergeSort (le:=λa b:Int=>decide (a<=b)) (λa b c h k=>by simp at *;ext) (λa b=>by simp;ext) l).imp (λh=>by simpa using h);exact(((List.mergeSort_perm l _).trans h1.symm).eq_of_pairwise (λa b _ _ h k=>()) a h2)
noncomputable def Qi (p:Int):Option Int->Bool
 | some q=>decide (p<=q)
 | none=>false
noncomputable def dC:List Int->Option Int->List Int->Option (List Int)
 | [],_,l=>some l
 | p::r,q,l=>if p∉l then none else if Qi p q=true then none else dC r (some p) (l.erase p)
noncomputable def gr (last:Int):List End->Int->List Int->Option (List Int)
 | [],_,l=>some l
 | e::r,a,l=>if e.1<=a then none else if last<e.1 then none else match dC e.2 none l with
  | none=>none
  | some l=>gr last r e.1 l
noncomputable def gz (r:Rep):Bool:=match gr r.last r.ends (r.first-1) (Co 1 r.times.toNat) with
 | none=>false
 | some l=>decide (r.ends=[])||decide (l=[])
def P9:Option Int->List Int->Prop
 | _,[]=>True
 | q,p::r=>(∀x,q=some x->x<p)/\P9 (some p) r
theorem sJ:∀{ps:List Int} {q:Option Int} {l l':List Int},dC ps q l=some l'->P9 q ps/\l.Perm (ps++l')
 | [],_,_,_,h=>by cases h;exact{trivial,List.Perm.refl _}
 | p::r,q,l,l',h=>by
  unfold dC at h
  by_cases c:p∈l
  ·rw[yD (λz=>z c)] at h
   by_cases d:Qi p q=true
   ·rw[yE d] at h;cases h
   ·rw[yD d] at h
    let⟨h1,h2⟩:=sJ h;refine{{λx e=>?_,h1},(List.perm_cons_erase c).trans (h2.cons p)};subst e;have:¬p<=x:=λz=>d (zd z);ext
  ·rw[yE c] at h;cases h
theorem v5:∀{ps:List Int} {q:Option Int} {l k:List Int},P9 q ps->l.Perm (ps++k)->∃l',dC ps q l=some l'/\l'.Perm k
 | [],_,l,_,_,h=>{(l),rfl,h}
 | p::r,q,l,k,⟨h1,h2⟩,h=>by
  let c:p∈l:=h.mem_iff.mpr zk;let e:=h.erase p;rw[we,List.erase_cons_head] at e;let⟨l',e1,e2⟩:=v5 h2 e;refine{l',?_,e2};unfold dC;rw[yD (λz=>z c),yD]
  ·exact e1
  ·cases q with
   | none=>exact zG
   | some x=>have:=h1 x rfl;exact λz=>by have:=zV z;ext
theorem J6:∀{ps:List Int} {q:Option Int},P9 q ps->(∀x,q=some x->∀y∈ps,x<y)/\ps.Pairwise (·<·)
 | [],_,_=>{λ_ _ _ h=>(nomatch h),List.Pairwise.nil}
 | p::r,q,⟨h1,h2⟩=>by
  let⟨a,b⟩:=J6 h2;refine{λx e y hy=>?_,yT.mpr {a p rfl,b}};have:=h1 x e;rcases zy.mp hy with rfl | hy
  ·exact this
  ·have:=a p rfl y hy;ext
theorem Jx:∀{ps:List Int} {q:Option Int},ps.Pairwise (·<·)->(∀x,q=some x->∀y∈ps,x<y)->P9 q ps
 | [],_,_,_=>trivial
 | p::r,q,h,k=>by
  let⟨a,b⟩:=yT.mp h;exact{λx e=>k x e p zk,Jx b λx e y hy=>by cases e;exact a y hy}
noncomputable def jn (es:List End):List Int:=(es.map (·.2)).flatten
theorem go_sound {last:Int}:∀{es:List End} {a:Int} {l l' acc:List Int},gr last es a l=some l'->∃a',(es=[]\/a'<=last)/\cF es a acc=some (a',acc++jn es)/\l.Perm (jn es++l')
 | [],a,l,l',acc,h=>by cases h;exact{a,.inl rfl,by show some (a,acc)=_;rw[show jn []=[] from rfl,zP],List.Perm.refl _}
 | e::r,a,l,l',acc,h=>by
  unfold gr at h
  by_cases c:e.1<=a
  ·rw[yE c] at h;cases h
  rw[yD c] at h
  by_cases d:last<e.1
  ·rw[yE d] at h;cases h
  rw[yD d] at h;cases q:dC e.2 none l with
  | none=>rw[q] at h;cases h
  | some l1=>
   rw[q] at h;let⟨h1,h2⟩:=sJ q;let⟨a',h3,h4,h5⟩:=go_sound (acc:=acc++e.2) h;let so:e.2=sortI e.2:=(Gu (List.Perm.refl _) ((J6 h1).2.imp λz=>yR z)).symm;let fl:jn (e::r)=e.2++jn r:=rfl;refine{a',.inr ?_,?_,?_}
   ·rcases h3 with rfl | h3
    ·let z:some (e.1,acc++e.2)=some (a',_):=h4
     let z:=yP Prod.fst (ya z);let z:e.1=a':=z;ext
    ·exact h3
   ·unfold cF
    rw[yD c,yD (λz=>z so),h4,fl,zA]
   ·rw[fl,zA]
    exact h2.trans (h5.append_left _)
theorem qY:∀{es:List End} {a a':Int} {acc ps:List Int},cF es a acc=some (a',ps)->ps=acc++jn es/\a<=a'
 | [],_,_,_,_,h=>by cases h;exact{by rw[show jn []=[] from rfl,zP],Int.le_refl _}
 | e::r,a,a',acc,ps,h=>by
  unfold cF at h
  by_cases c:e.1<=a
  ·rw[yE c] at h;cases h
  rw[yD c] at h
  by_cases d:e.2=sortI e.2
  ·rw[yD (λz=>z d)] at h
   let⟨h1,h2⟩:=qY h;exact{by rw[h1,zA];rfl,()}
  ·rw[yE d] at h;cases h
def Lj (l:List Int):(sortI l).Pairwise (·<=·):=by
 unfold sortI;exact(List.pairwise_mergeSort (le:=λa b:Int=>decide (a<=b)) (λa b c h k=>by simp at *;ext) (λa b=>by simp;ext) l).imp (λh=>by simpa using h)
theorem MH:∀{l:List Int},l.Pairwise (·<=·)->l.Nodup->l.Pairwise (·<·)
 | [],_,_=>List.Pairwise.nil
 | p::r,h,k=>by
  let⟨a,b⟩:=yT.mp h;let⟨c,d⟩:=zU.mp k;refine yT.mpr {λy hy=>?_,MH b d};have:=a y hy;have:p≠y:=λz=>c (by rw[z];exact hy);ext
theorem GN {last:Int}:∀{es:List End} {a a':Int} {l k acc ps:List Int},cF es a acc=some (a',ps)->a'<=last->(jn es).Nodup->l.Perm (jn es++k)->∃l',gr last es a l=some l'/\l'.Perm k
 | [],_,_,l,_,_,_,_,_,_,h=>{(l),rfl,h}
 | e::r,a,a',l,k,acc,ps,h,hl,nd,hp=>by
  let fl:jn (e::r)=e.2++jn r:=rfl;rw[fl] at nd hp;rw[zA] at hp;let⟨n1,n2,_⟩:=zN.mp nd;unfold cF at h
  by_cases c:e.1<=a
  ·rw[yE c] at h;cases h
  rw[yD c] at h
  by_cases d:e.2=sortI e.2
  ·rw[yD (λz=>z d)] at h
   have:=(qY h).2;let⟨l1,e1,e2⟩:=v5 (q:=none) (Jx (MH (by rw[d];exact Lj _) n1) λ_ z=>(nomatch z)) hp;let⟨l2,e3,e4⟩:=GN h hl n2 e2;refine{l2,?_,e4};unfold gr;rw[yD c,yD (),e1];exact e3
  ·rw[yE d] at h;cases h
def Jk (lo:Int) (n:Nat):(Co lo n).Pairwise (·<·):=by
 unfold Co;refine List.Pairwise.map _ (λa b h=>?_) List.pairwise_lt_range;ext
def GQ (r:Rep):gz r=dm r:=by
 unfold gz dm;let et:(r.times+1-1).toNat=r.times.toNat:=()
 rw[et];let nd:(Co 1 r.times.toNat).Nodup:=(Jk 1 r.times.toNat).imp λh=>()
 let pw_of:(Co 1 r.times.toNat).Pairwise (·<=·):=(Jk 1 r.times.toNat).imp λh=>yR h;generalize Co 1 r.times.toNat=g at nd pw_of;generalize r.ends=es;cases es with
 | nil=>rfl
 | cons e es=>
  dsimp only;cases h:cF (e::es) (r.first-1) [] with
  | none=>
   cases q:gr r.last (e::es) (r.first-1) g with
   | none=>rfl
   | some l=>
    let⟨a',_,h4,_⟩:=go_sound (acc:=[]) q;rw[h] at h4;cases h4
  | some x=>
   let⟨a',ps⟩:=x;let⟨h1,_⟩:=qY h;rw[List.nil_append] at h1;subst h1;dsimp only
   by_cases c:a'<=r.last/\sortI (jn (e::es))=g
   ·let⟨c1,c2⟩:=c
    let pm:g.Perm (jn (e::es)++[]):=by rw[<-c2,zP];exact List.mergeSort_perm _ _
    let⟨l',e1,e2⟩:=GN h c1 ((by rw[zP] at pm;exact pm.nodup nd)) pm;rw[e1,e2.eq_nil,zd c1,zd c2];simp
   ·cases q:gr r.last (e::es) (r.first-1) g with
    | none=>
     dsimp only
     symm
     rw[Bool.and_eq_false_iff]
     by_cases c1:a'<=r.last
     ·exact .inr (zc λz=>c {(c1),z})
     ·exact .inl (zc c1)
    | some l=>
     let⟨a2,h3,h4,h5⟩:=go_sound (acc:=[]) q;rw[h] at h4;cases h4;dsimp only;have:l≠[]:=λz=>by
      rw[z,zP] at h5;refine c {?_,Gu h5 ?_}
      ·rcases h3 with z | z
       ·cases z
       ·exact z
      ·exact pw_of
     rw[zc this,zc (λz=>(nomatch z))]
     symm
     rw[show(false||false)=false from rfl,Bool.and_eq_false_iff]
     by_cases c1:a'<=r.last
     ·exact .inr (zc λz=>c {(c1),z})
     ·exact .inl (zc c1)
structure vK (rs:List Rep):Prop where
 pw:rs.Pairwise λp q=>p.last<q.first
 ok:∀r∈rs,r.first<=r.last/\dm r=true
noncomputable def cV (rs:List Rep) (r:Rep):Bool:=decide (r.first<=r.last)&&(rs.all (λq=>decide (q.last<r.first))&&gz r)
def LB {rs:List Rep} (h:vK rs) {q:Rep} (hq:rs.getLast?=some q):∀x∈rs,x.last<=q.last:=by
 intro x hx;let⟨l,e⟩:=List.getLast?_eq_some_iff.mp hq;subst e;rcases zB.mp hx with hx | hx
 ·have:=(zO.mp h.pw).2.2 x hx q zk
  have:=(h.ok q (zD _ zk)).1;ext
 ·rw[zu.mp hx];exact Int.le_refl _
def Fb {rs:List Rep} (h:vK rs) (r:Rep):cV rs r=iw rs r:=by
 unfold cV iw;rw[GQ];cases e:rs.getLast? with
 | none=>
  rw[List.getLast?_eq_none_iff.mp e];rfl
 | some q=>
  dsimp only
  by_cases c:r.first<=q.last
  ·rw[yE c,show rs.all (λq=>decide (q.last<r.first))=false from List.all_eq_false.mpr {q,List.mem_of_getLast? e,by simp;exact c},yJ,x8]
  ·rw[yD c,show rs.all (λq=>decide (q.last<r.first))=true from ye.mpr λx hx=>zd (by have:=LB h e x hx;ext),yL]
def Nw {rs:List Rep} (h:vK rs) {r:Rep} (f:iw rs r=true):vK (rs++[r]):=by
 rw[<-Fb h] at f;unfold cV at f;rw[zJ,zJ] at f;let⟨f1,f2,f3⟩:=f;refine{zO.mpr {h.pw,List.pairwise_singleton _ _,λx hx y hy=>?_},λx hx=>?_}
 ·rw[zu.mp hy];exact zV (ye.mp f2 x hx)
 ·rcases zB.mp hx with hx | hx
  ·exact h.ok x hx
  ·rw[zu.mp hx];exact{zV f1,by rw[<-GQ];exact f3}
noncomputable def uy (b times:Int) (lp:Bool) (e:End):Bool:=if e.1<=b then decide (times∈e.2) else lp
structure Wh where
 ins:Bool
 PY:Bool
 PX:Bool
 IC:Bool
noncomputable def rj:Wh:={(false),false,false,true}
noncomputable def pP (b:Int) (s:Wh) (r:Rep):Wh:=if r.first<=b/\b<=r.last then{true,decide (b=r.first),decide (b=r.last),r.ends.foldl (uy b r.times) s.IC} else s
theorem Gj {b:Int}:∀{rs:List Rep} {s:Wh},(∀r∈rs,¬(r.first<=b/\b<=r.last))->rs.foldl (pP b) s=s
 | [],_,_=>rfl
 | r::rs,s,h=>by
  rw[List.foldl_cons,show pP b s r=s from yD (h r zk)];exact Gj λx hx=>h x (zj _ hx)
theorem Mv {b:Int}:∀{rs:List Rep},vK rs->rs.foldl (pP b) rj=(match bP rs b with
  | none=>rj
  | some r=>{true,decide (b=r.first),decide (b=r.last),r.ends.foldl (uy b r.times) true})
 | [],_=>rfl
 | r::rs,h=>by
  let hp:=yT.mp h.pw
  by_cases c:r.first<=b/\b<=r.last
  ·let e:bP (r::rs) b=some r:=by unfold bP;rw[List.find?_cons_of_pos (by simp;exact c)]
   rw[e,List.foldl_cons,show pP b rj r=_ from yE c];exact Gj λx hx z=>by have:=hp.1 x hx;ext
  ·let e:bP (r::rs) b=bP rs b:=by unfold bP;rw[List.find?_cons_of_neg (by simp;ext)]
   rw[e,List.foldl_cons,show pP b rj r=rj from yD c];exact Mv {hp.2,λx hx=>h.ok x (zj _ hx)}
noncomputable def eo:List End->Int->List (Int×Int×List Int)
 | [],_=>[]
 | [e],l=>[(e.1,l,e.2)]
 | e::f::r,l=>(e.1,f.1-1,e.2)::eo (f::r) l
theorem MQ:∀(es:List End) (l:Int),(es.zip ((es.drop 1).map (·.1)++[l+1])).map (λp=>(p.1.1,p.2-1,p.1.2))=eo es l
 | [],_=>rfl
 | [e],l=>by show [(e.1,l+1-1,e.2)]=[(e.1,l,e.2)];rw[show l+1-1=l by ext]
 | e::f::r,l=>by
  let ih:=MQ (f::r) l;show(e.1,f.1-1,e.2)::_=(e.1,f.1-1,e.2)::_;rw[<-ih];rfl
noncomputable def jU (b times:Int) (e:Int×Int×List Int):Bool:=!(decide (e.1<=b)&&decide (b<=e.2.1)&&!decide (times∈e.2.2))
def OJ:Int->List End->Prop
 | _,[]=>True
 | a,e::r=>a<e.1/\OJ e.1 r
theorem FX:∀{es:List End} {a:Int},OJ a es->∀e∈es,a<e.1
 | [],_,_,_,h=>(nomatch h)
 | x::r,a,⟨h1,h2⟩,e,h=>by
  rcases zy.mp h with rfl | h
  ·exact h1
  ·have:=FX h2 e h;ext
theorem KG:∀{es:List End} {a a':Int} {acc ps:List Int},cF es a acc=some (a',ps)->OJ a es/\∀e∈es,e.1<=a'
 | [],_,_,_,_,_=>{trivial,λ_ h=>(nomatch h)}
 | e::r,a,a',acc,ps,h=>by
  unfold cF at h
  by_cases c:e.1<=a
  ·rw[yE c] at h;cases h
  rw[yD c] at h
  by_cases d:e.2=sortI e.2
  ·rw[yD (λz=>z d)] at h
   let⟨h1,h2⟩:=KG h;have:=(qY h).2;refine{{(()),h1},λx hx=>?_};rcases zy.mp hx with rfl | hx
   ·exact this
   ·exact h2 x hx
  ·rw[yE d] at h;cases h
theorem GO {b times:Int}:∀{es:List End} {x:Bool},(∀e∈es,b<e.1)->es.foldl (uy b times) x=x
 | [],_,_=>rfl
 | e::r,x,h=>by
  have:=h e zk;rw[List.foldl_cons,show uy b times x e=x from yD ()];exact GO λy hy=>h y (zj _ hy)
theorem Kr {b times:Int}:∀{es:List End} {l:Int},(∀e∈es,b<e.1)->(eo es l).all (jU b times)=true
 | [],_,_=>rfl
 | [e],l,h=>by
  have:=h e zk;show(jU b times (e.1,l,e.2)&&true)=true;unfold jU;rw[zc (show¬e.1<=b by ext)];rfl
 | e::f::r,l,h=>by
  have:=h e zk;show(jU b times (e.1,f.1-1,e.2)&&(eo (f::r) l).all _)=true;rw[Kr (es:=f::r) λy hy=>h y (zj _ hy)];unfold jU;rw[zc (show¬e.1<=b by ext)];rfl
theorem MR {b times l:Int} (hb:b<=l):∀{es:List End} {a:Int},OJ a es->(eo es l).all (jU b times)=es.foldl (uy b times) true
 | [],_,_=>rfl
 | [e],_,_=>by
  show(jU b times (e.1,l,e.2)&&true)=uy b times true e;unfold jU uy;rw[Bool.and_true,zd hb]
  by_cases c:e.1<=b
  ·rw[yE c,zd c];simp
  ·rw[yD c,zc c];rfl
 | e::f::r,_,⟨_,h⟩=>by
  let ih:=MR (times:=times) hb (es:=f::r) h;show(jU b times (e.1,f.1-1,e.2)&&(eo (f::r) l).all _)=(f::r).foldl (uy b times) (uy b times true e)
  by_cases c:f.1<=b
  ·rw[ih,show jU b times (e.1,f.1-1,e.2)=true by unfold jU;rw[zc (show¬b<=f.1-1 by ext),x8];rfl,yL,List.foldl_cons,List.foldl_cons,show uy b times (uy b times true e) f=decide (times∈f.2) from yE c,show uy b times true f=decide (times∈f.2) from yE c]
  ·let gt:∀x∈f::r,b<x.1:=λx hx=>by
    rcases zy.mp hx with rfl | hx
    ·ext
    ·have:=FX h.2 x hx;ext
   rw[Kr gt,GO gt,Bool.and_true];unfold jU uy;rw[zd (show b<=f.1-1 by ext)]
   by_cases d:e.1<=b
   ·rw[yE d,zd d];simp
   ·rw[yD d,zc d];rfl
def Ou {r:Rep} (h:dm r=true):OJ (r.first-1) r.ends/\∀e∈r.ends,e.1<=r.last:=by
 unfold dm at h;generalize r.ends=es at h ⊢;cases es with
 | nil=>exact{trivial,λ_ z=>(nomatch z)}
 | cons e es=>
  dsimp only at h;cases q:cF (e::es) (r.first-1) [] with
  | none=>rw[q] at h;cases h
  | some x=>
   let⟨a',ps⟩:=x;rw[q] at h;let⟨h1,h2⟩:=KG q;rw[zJ] at h;exact{h1,λx hx=>Int.le_trans (h2 x hx) (zV h.1)}
theorem Kq {b times l:Int} (hb:l<b):∀{es:List End} {a:Int},OJ a es->(∀e∈es,e.1<=l)->(eo es l).all (jU b times)=true
 | [],_,_,_=>rfl
 | [e],_,_,_=>by
  show(jU b times (e.1,l,e.2)&&true)=true;unfold jU;rw[zc (show¬b<=l by ext),x8];rfl
 | e::f::r,_,⟨_,h⟩,k=>by
  have:=k f (zj _ zk);show(jU b times (e.1,f.1-1,e.2)&&(eo (f::r) l).all _)=true;rw[Kq hb (es:=f::r) h λx hx=>k x (zj _ hx)];unfold jU;rw[zc (show¬b<=f.1-1 by ext),x8];rfl
def Kt {b:Int} {r:Rep} (h:dm r=true):(fH r).all (jU b r.times)=if r.first<=b/\b<=r.last then r.ends.foldl (uy b r.times) true else true:=by
 let⟨h1,h2⟩:=Ou h;unfold fH;rw[MQ]
 by_cases c:r.first<=b
 ·by_cases d:b<=r.last
  ·rw[yE {(c),d}];exact MR d h1
  ·rw[yD (λz=>d z.2)];exact Kq () h1 h2
 ·rw[yD (λz=>c z.1)]
  exact Kr λe he=>by have:=FX h1 e he;ext
theorem GF {b:Int}:∀{rs:List Rep},vK rs->gZ rs b=(match bP rs b with
  | none=>true
  | some r=>r.ends.foldl (uy b r.times) true)
 | [],_=>rfl
 | r::rs,h=>by
  let hp:=yT.mp h.pw;let ho:vK rs:={hp.2,λx hx=>h.ok x (zj _ hx)}
  show((fH r).all (jU b r.times)&&gZ rs b)=_;rw[Kt (h.ok r zk).2,GF ho]
  by_cases c:r.first<=b/\b<=r.last
  ·let e:bP (r::rs) b=some r:=by unfold bP;rw[List.find?_cons_of_pos (by simp;exact c)]
   let e2:bP rs b=none:=by unfold bP;exact xy.mpr λx hx z=>by have:=hp.1 x hx;simp at z;ext
   rw[e,e2,yE c,Bool.and_true]
  ·let e:bP (r::rs) b=bP rs b:=by unfold bP;rw[List.find?_cons_of_neg (by simp;ext)]
   rw[e,yD c,yL]
noncomputable def gY (rs:List Rep) (b:Int):Bool×Bool×Bool:=let s:=rs.foldl (pP b) rj;(!s.ins||s.PY,!s.ins||s.PX,s.IC)
def w_is {rs:List Rep} {b:Int} (h:vK rs):gY rs b=(cN rs b,fc rs b,gZ rs b):=by
 unfold gY cN fc;rw[Mv h,GF h];cases bP rs b <;> rfl
noncomputable def cB (rs:List Rep) (j:Jump):Bool:=
 if¬(j.l6<=j.aY/\j.aY<=j.ky) then false else
 if(gY rs j.ky).2.1=false\/(gY rs j.l6).1=false\/(gY rs j.aY).2.2=false then false else
 match j.eM with
 | none=>true
 | some c=>decide (j.ky<c)&&((gY rs c).1&&(gY rs c).2.2)
def LX {rs:List Rep} (h:vK rs) (j:Jump):cB rs j=jd rs j:=by
 unfold cB jd;simp only[w_is h]
 by_cases c1:j.aY<j.l6
 ·rw[yE c1,yE ()]
 rw[yD c1]
 by_cases c2:j.ky<j.aY
 ·rw[yE c2,yE ()]
 rw[yD c2,yD ()];cases fc rs j.ky <;> cases cN rs j.l6 <;> cases gZ rs j.aY <;> cases j.eM <;> simp[Bool.and_assoc]
end Sc
namespace K22
open PySem L2 Lm Sc
def top (i:Nat):Stmt:=PySem.Challenge.pw_partsmith_k14_repeats_and_jumps.main.body.getD i (.Pass {0,0,0,0})
abbrev uW:=top 10
abbrev uT:=top 11
abbrev oP:=top 14
abbrev uY:=top 15
abbrev Lq:=top 16
abbrev Hq:=top 17
abbrev lZ:=top 18
abbrev AQ:=top 24
abbrev mm:=top 25
abbrev CN:=top 26
abbrev EW:=top 36
abbrev E3:=top 37
abbrev CL:=top 38
abbrev AO:=top 39
abbrev uR:=top 40
abbrev CK:=top 41
abbrev CJ:=top 42
abbrev AS:=top 43
abbrev EX:=top 44
abbrev EY:=top 45
abbrev uV:=top 46
abbrev nh:=top 47
abbrev AN:=top 48
abbrev EZ:=top 49
abbrev uS:=top 50
abbrev CO:=top 51
abbrev AR:=top 52
abbrev uU:=top 53
abbrev CM:=top 54
abbrev qz:=top 56
abbrev ml:=top 57
abbrev Hr:=top 58
abbrev E2:=top 59
abbrev uQ:=top 60
abbrev rT:=top 61
abbrev CP:=top 62
abbrev CQ:=top 63
abbrev rZ:=top 64
abbrev CT:=top 65
abbrev CS:=top 66
abbrev rX:=top 75
abbrev uO:=top 76
abbrev rY:=top 77
abbrev E1:=top 78
abbrev rW:=top 79
abbrev mq:=top 80
abbrev uP:=top 81
abbrev CU:=top 82
abbrev rS:=top 83
abbrev AV:=top 84
abbrev uX:=top 85
abbrev rV:=top 86
abbrev AU:=top 87
abbrev mr:=top 89
abbrev E4:=top 90
abbrev Hs:=top 91
abbrev ng:=top 92
abbrev se:=top 94
abbrev AX:=top 95
abbrev CV:=top 96
abbrev AY:=top 97
abbrev oU:=top 98
abbrev mw:=top 99
abbrev AW:=top 100
abbrev oS:=top 101
abbrev sd:=top 102
abbrev oQ:=top 103
abbrev r8:=top 104
abbrev mv:=top 105
abbrev oR:=top 106
abbrev ni:=top 107
abbrev O7:=top 108
abbrev nj:=inClass (top 74) 0
abbrev j6:=inClass (top 3) 0
structure Df (K:yq) (mg:Str->Option wG) (x:Str) (st:Stmt) (a:wM) (d:wL) (ps:List Str):Prop where
 F:Iz K x x st a d
 g:mg x=some (.ref a)
 b:Binds K d ps []
structure Qp (K:yq) (x y:Str) (st:Stmt) (a:wM) (d:wL) (ps:List Str):Prop where
 F:Iz K x y st a d
 b:Binds K d ps []
set_option genInjectivity false in
set_option genSizeOf false in
structure Txt (K:yq) (mg:Str->Option wG) where
 (vI vH pJ vJ Mn Iq i5 Cb mQ El F2 F7 Ek Ca vG Ej Ei Cc F3 F4 fX dq gE jW fV iP gF fW iO qP uh Ir F6 vF ug Em En uk Ep Eo ui vE uj F5 fo cZ fU iQ fk gH fY fm gG um F8 Iu ow uw Ce iR Cg pN mS Cd pM uq pK uo mR pL oy P0 jX cY dH c8 gJ nv gm aW gD lO rg jT lN:wM)
 (vw vq pB vy Mf HY i4 BN mG D1 FE FN DZ BM vo DY DX BP FG FH vv og BL FI vp D3 BO vt D0 qL FF Ib FL vn tJ D4 D6 tO D8 D7 tM vk tN FJ tL mH vm D9 tI BR vx tK BQ FK FO Ic oa tR BU iL BV pG mJ BS pF tQ pC tP mI pE oh Ky oj ki:wL)
 (Hk oF uA rG uB qo Au rK oE rL qp rM Av rJ mh Cw Ax Aw rH:Tok)
 cx:Df K mg "read_number" uW vI vw ["text","most"]
 eF:Df K mg "read_signed" uT vH vq ["text","most"]
 fi:Df K mg "common_divisor" oP pJ pB ["one","other"]
 dE:Df K mg "made_length" uY vJ vy ["top","bottom"]
 added:Df K mg "added" Lq Mn Mf ["one","other"]
 AM:Df K mg "shorter" Hq Iq HY ["one","other"]
 dA:Df K mg "read_length" lZ i5 i4 ["text"]
 gS:Df K mg "read_pitch" AQ Cb BN ["fifths_text","steps_text"]
 cJ:Df K mg "read_item_length" mm mQ mG ["text"]
 oY:Df K mg "read_item" CN El D1 ["text"]
 words_of:Df K mg "words_of" EW F2 FE ["row"]
 cq:Df K mg "all_read" E3 F7 FN ["values"]
 dJ:Df K mg "read_name" CL Ek DZ ["word"]
 bY:Df K mg "read_plain" AO Ca BM ["word"]
 iz:Df K mg "read_within" uR vG vo ["word","lowest","highest"]
 oX:Df K mg "read_time" CK Ej DY ["word"]
 oW:Df K mg "read_turn" CJ Ei DX ["fifths_word","steps_word"]
 mz:Df K mg "read_metre" AS Cc BP ["word"]
 sv:Df K mg "read_key" EX F3 FG ["word"]
 sA:Df K mg "read_end" EY F4 FH ["word"]
 iC:Df K mg "read_player" uV fX vv ["words"]
 eB:Df K mg "read_instrument" nh dq og ["words"]
 jB:Df K mg "read_staff" AN gE BL ["words"]
 nu:Df K mg "read_bar" EZ jW FI ["words"]
 iA:Df K mg "read_upbeat" uS fV vp ["words"]
 lD:Df K mg "read_hold" CO iP D3 ["words"]
 jC:Df K mg "read_notes" AR gF BO ["words"]
 iB:Df K mg "read_repeat" uU fW vt ["words"]
 lC:Df K mg "read_jump" CM iO D0 ["words"]
 iZ:Df K mg "is_score_word" qz qP qL ["word"]
 su:Df K mg "read_row" ml uh FF ["words"]
 BF:Df K mg "ends_of" Hr Ir Ib ["repeat"]
 tF:Df K mg "ends_fit" E2 F6 FL ["repeat"]
 kJ:Df K mg "repeat_fits" uQ vF vn ["repeats","repeat"]
 gs:Df K mg "repeat_round" rT ug tJ ["repeats","bar"]
 pf:Df K mg "may_leave" CP Em D4 ["repeats","bar"]
 lI:Df K mg "may_enter" CQ En D6 ["repeats","bar"]
 gB:Df K mg "in_last_pass" rZ uk tO ["repeats","bar"]
 pH:Df K mg "coda_fits" CT Ep D8 ["repeats","at","coda"]
 pz:Df K mg "jump_fits" CS Eo D7 ["repeats","jump"]
 gy:Df K mg "metre_length" rX ui tM ["score","bar"]
 kB:Df K mg "told_length" uO vE vk ["score","bar"]
 jM:Df K mg "items_length" rY uj tN ["items"]
 jh:Df K mg "has_bars" E1 F5 FJ ["score","bars"]
 gx:Df K mg "player_fault" rW fo tL ["score","player"]
 dR:Df K mg "instrument_fault" mq cZ mH ["score","told"]
 fZ:Df K mg "staff_fault" uP fU vm ["score","told"]
 lP:Df K mg "bar_fault" CU iQ D9 ["score","told"]
 eO:Df K mg "upbeat_fault" rS fk tI ["score","length"]
 jR:Df K mg "hold_fault" AV gH BR ["score","told"]
 iI:Df K mg "notes_fault" uX fY vx ["score","told"]
 gw:Df K mg "repeat_fault" rV fm tK ["score","repeat"]
 jL:Df K mg "jump_fault" AU gG BQ ["score","jump"]
 tD:Df K mg "fault_of" mr um FK ["score","sort","told"]
 uf:Df K mg "add_hold" E4 F8 FO ["score","told"]
 B9:Df K mg "add_row" Hs Iu Ic ["score","sort","told"]
 cD:Df K mg "read_score" ng ow oa ["text"]
 j0:Df K mg "_law_cell_at" se uw tR ["_law_script","_law_k"]
 hW:Df K mg "_law_mixed" AX Ce BU ["_law_cell","_law_k"]
 eL:Df K mg "_law_same" CV iR iL ["_law_found","_law_due"]
 mT:Df K mg "_law_fault" AY Cg BV ["_law_text","_law_place","_law_word"]
 ia:Df K mg "_law_ends_good" oU pN pG ["_law_first","_law_last","_law_times","_law_ends"]
 fL:Df K mg "_law_repeat_good" mw mS mJ ["_law_repeats","_law_jump","_law_repeat"]
 fK:Df K mg "_law_where" AW Cd BS ["_law_repeats","_law_bar"]
 hZ:Df K mg "_law_jump_good" oS pM pF ["_law_repeats","_law_jump"]
 jZ:Df K mg "_law_ends_by" sd uq tQ ["_law_first","_law_last","_law_times","_law_m"]
 hV:Df K mg "_law_repeat_by" oQ pK pC ["_law_repeats","_law_many","_law_m","_law_n"]
 jY:Df K mg "_law_jump_by" r8 uo tP ["_law_repeats","_law_many","_law_m"]
 dS:Df K mg "_law_repeat_text" mv mR mI ["_law_repeat"]
 hX:Df K mg "_law_jump_text" oR pL pE ["_law_jump"]
 gn:Df K mg "_law_nine_right" ni oy oh []
 Rj:Df K mg "law" O7 P0 Ky ["_law_script"]
 Lb:mg "Score"= some (.ref cY)
 Mq:Mk K cY jX
 ux:Qp K "__init__" "Score.__init__" nj jX oj ["self"]
 Ik:mg "FIGURES"= some (.str "0123456789" Hk)
 jx:mg "LENGTH_FIGURES"= some (.int (4) oF)
 vA:mg "HIGHEST_KEY"= some (.int (7) uA)
 tX:mg "OCTAVE_STEPS"= some (.int (12) rG)
 vB:mg "FIFTH_STEPS"= some (.int (7) uB)
 kj:mg "PITCH_FIGURES"= some (.int (2) qo)
 BZ:mg "NAME_SIGNS"= some (.str "abcdefghijklmnopqrstuvwxyz0123456789" Au)
 ua:mg "LONGEST_NAME"= some (.int (12) rK)
 jw:mg "NUMBER_FIGURES"= some (.int (3) oE)
 uc:mg "HIGHEST_TURN"= some (.int (12) rL)
 qO:mg "HIGHEST_METRE"= some (.int (32) qp)
 qM:mg "METRE_BOTTOMS"= some (.ref c8)
 kh:∀H,bK K H c8 [.int 1,.int 2,.int 4,.int 8,.int 16,.int 32]
 ud:mg "FEWEST_TIMES"= some (.int (2) rM)
 B0:mg "MOST_TIMES"= some (.int (9) Av)
 Ai:mg "READERS"= some (.ref gJ)
 tZ:mg "MOST_PLAYERS"= some (.int (12) rJ)
 mP:mg "MOST_INSTRUMENTS"= some (.int (12) mh)
 Ed:mg "MOST_BARS"= some (.int (200) Cw)
 B2:mg "MOST_HOLDS"= some (.int (20) Ax)
 B1:mg "MOST_ITEMS"= some (.int (40) Aw)
 tY:mg "MOST_REPEATS"= some (.int (20) rH)
 KA:mg "FAULTS"= some (.ref nv)
 Bt:mg "ValueError"= none
 MM:mg "abs"= none
 Dy:mg "all"= none
 Dx:mg "any"= none
 Bs:mg "bool"= none
 kQ:mg "enumerate"= none
 GC:mg "int"= none
 aT:mg "isinstance"= none
 bz:mg "len"= none
 sX:mg "list"= none
 JV:mg "max"= none
 Dw:mg "min"= none
 jJ:mg "range"= none
 Pp:mg "set"= none
 Dv:mg "sorted"= none
 wU:mg "str"= none
 fb:mg "tuple"= none
 ML:mg "zip"= none
 jS:PySem.W.nsIn K mainGlobals "NoLength"= some (some (.ref dH))
 jF:PySem.W.excIn K dH [.type "ValueError",.type "Exception",.type "BaseException",.type "object"] "ValueError.__new__"= true
 EF:mg "NoLength"= some (.ref dH)
 cf:Cf K cY
 rE:mg "BadScore"= some (.ref aW)
 cH:Cm K aW gD gm
 mf:Qp K "__init__" "BadScore.__init__" j6 gm ki ["self","place","word"]
 BG:PySem.W.nsIn K mainGlobals "ScoreError"= some (some (.ref gD))
 vj:PySem.W.mroIn K gD (.type "BaseException")=some true
 Ct:PySem.W.mroIn K aW (.ref gD)=some true
 Hf:mg "BadDeed"= some (.ref lO)
 Lc:mg "NoBar"= some (.ref rg)
 EE:mg "NoPlayer"= some (.ref jT)
 He:mg "NoStaff"= some (.ref lN)
 Hb:km K aW lO
 K8:km K aW rg
 EB:km K aW dH
 EA:km K aW jT
 Ha:km K aW lN
 xf:MY K aW
def b4 {X:Cx} {x:Str} {st:Stmt} {k n:Nat} {f:wM} {fd:wL} {ps:List Str} {sp:Sp} {e:Expr} {es:List Expr} {t:TA} {p pos:Pos} (F:bQ X.prog X.w X.K X.mg X.base uz k f fd ps sp) (hr:dw n X.A) (D:Df X.K X.mg x st f fd ps)
  (ha:PA X (e::es) t) (hk:k<=n<|>qb_) (hg:Gl X x<|>qe_) (hdb:(x == ("__debug__": Str))=false<|>qb_) (he:starEach (e::es) X.env=(false,eval e X.env)::starEach es X.env<|>qe_) (hpl:(backTo pos (starEach es X.env)).any (·.1)=false<|>qe_) :
  PE X (.Call (.Name x p) (e::es) [] pos) (bD sp [] E0 t):=qX F (hr.mono hk) hg D.g D.F.kp D.b .nil sL ha hdb he hpl
def dM {X:Cx} {a b:Expr} {ta tb:TE} {pos:Pos} (ha:PE X a ta) (hb:PE X b tb) (hs:Ck b<|>qh_):PE X (.Subscript a b pos) (cI (qA X.K) ta tb):=JI LY ha hb hs
def cE {X:Cx} {a b:Expr} {ta tb:TE} {pos:Pos} (ha:PE X a ta) (hb:PE X b tb) (hs:Ck b<|>qh_):PE X (.Subscript a b pos) (cI (kK X.K) ta tb):=JI NX ha hb hs
def ptr {X:Cx} {a b:Expr} {ta tb:TE} {pos:Pos} {op:CmpOp} {r:R2} (ho:mV X (compareOp op) r) (ha:PE X a ta) (hb:PE X b tb) (h:op≠.In<|>qb_) (h2:op≠.NotIn<|>qb_):PT X (.Compare a [op] [b] pos) (c7 (cI r ta tb)):=jG ho ha hb (cL b h h2)
def Lo (p:St) (n:Nat) (σ:St):Prop:=∃e:Nat->Option V,σ=p++(List.range n).map e
def Lo.of {p:St} {n:Nat} {σ:St} (h:σ.take ⇑p=p) (l:⇑σ=⇑p+n):Lo p n σ:=by
 refine{λi=>σ[⇑p+i]?.join,List.ext_getElem? λi=>?_}
 by_cases c:i<⇑p
 ·rw[xO c]
  conv=>rhs;rw[<-h]
  rw[List.getElem?_take_of_lt c]
 ·rw[zR (),zF]
  by_cases d:i-⇑p<n
  ·rw[List.getElem?_range d]
   have:⇑p+(i-⇑p)=i:=()
   simp only[y4,this];rw[zb ()];rfl
  ·rw[wc (),wc (by simp;ext)]
   rfl
abbrev At (b:yq->TS) (K:yq):TS:=b K
abbrev Sq (b:yq->TS) (K:yq) (D:Ends):Ends:={D with nx:=b K D}
abbrev Dz (Q:VK):Ends:={nx:=λ_ H'=>Q .aX H',rt:=Q}
def Ev (t:TE) (σ:St) (H:Hp) (v:V):Prop:=∀Q:VK,Q v H->t σ H Q
def K1 (t:TA) (σ:St) (H:Hp) (vs:List V):Prop:=∀R:List V->Hp->Prop,R vs H->t σ H R
def Ms (t:TT) (σ:St) (H:Hp) (b:Bool):Prop:=∀R:Bool->Hp->Prop,R b H->t σ H R
inductive Rq (K:yq) (f:Str) (x:V) (H:Hp) (Q:VK):Prop
 | mk (a C dx:wM) (fs:List (Str×V)) (v:V) (_:x=.ref a) (_:H a=some (.ins C dx fs)) (_:Mu K C) (_:cw K C f) (_:fs.lookup f=some v) (_:Q v H)
section
variable {t u:TE} {ta:TA} {c:TT} {wi:TI} {a b:TS} {gt:TG} {D:Ends} {σ:St} {H:Hp} {v x y:V} {vs:List V} {g:Int->Int->V} {i j:Int} {r:R2} {Q:VK} {R:List V->Hp->Prop} {S:Bool->Hp->Prop} {k:Bool} {K:yq} {p:wM} {xs:List V}
def N9 {n:Nat} (e:σ[n]?=some (some v)):Ev (aB n) σ H v:=λ_ q=>{(v),e,q}
def Ru:Ev (tC v) σ H v:=λ_ q=>q
def PM (a:Ev t σ H (.int i)) (b:Ev u σ H (.int j)):Ev (cI (mU g) t u) σ H (g i j):=λ_ q=>a _ (b _ {_,_,rfl,rfl,q})
def PL {C:Int->Int->Prop} (a:Ev t σ H (.int i)) (b:Ev u σ H (.int j)) (c:C i j):Ev (cI (rI C g) t u) σ H (g i j):=λ_ q=>a _ (b _ {_,_,rfl,rfl,c,q})
def PK (a:Ev t σ H (.ref p)) (b:Ev u σ H (.int j)) (h:H p=some (.tup xs)) (e:qm xs j=some v):Ev (cI (kK K) t u) σ H v:=λ_ q=>a _ (b _ {_,_,_,_,rfl,rfl,bK.of h,e,q})
def Ob:K1 aQ σ H []:=λ_ q=>q
def Ma (a:Ev t σ H v) (b:K1 ta σ H vs):K1 (ax t ta) σ H (v::vs):=λ_ q=>a _ (b _ q)
def Oc (a:Ev t σ H v):Ev (uD t) σ H (.bl (decide (v=.aX))):=λ_ q=>a _ q
def L9 (a:Ev t σ H v):Ev (IZ t) σ H (.bl (!decide (v=.aX))):=λ_ q=>a _ q
def Oa (a:Ev t σ H (.bl k)):Ev (Mx t) σ H (.bl (!k)):=λ_ q=>a _ {_,rfl,q}
def PN (a:Ev t σ H x) (b:Ev u σ H y) (s:Ln x y=true):Ev (cI KW t u) σ H (.bl (decide (x=y))):=λ_ q=>a _ (b _ {(s),q})
def PJ (a:Ev t σ H x) (b:Ev u σ H y) (s:Ln x y=true):Ev (cI Q1 t u) σ H (.bl (!decide (x=y))):=λ_ q=>a _ (b _ {(s),q})
def Rr (a:Ev t σ H (.bl k)):Ms (c7 t) σ H k:=λ_ q=>a _ {_,rfl,q}
def Rv (a:Ev t σ H (.bl k)):Ms (tB t) σ H k:=λ_ q=>a _ {_,rfl,q}
def Rt (a:Ms c σ H k):Ms (mY c) σ H (!k):=λ_ q=>a _ q
def O8 (e:Ev t σ H v) (q:gt v σ H D.nx):cR t gt D σ H:=e _ q
def O6 (e:Ev t σ H v) (q:D.rt v H):Ay t D σ H:=e _ q
def QW {a b:yq->TS} (e:Ms c σ H k) (q:if k=true then At a K D σ H else At b K D σ H):ig c (a K) (b K) D σ H:=e _ q
def Qq {b:yq->TS} (q:a (Sq b K D) σ H):dy a (b K) D σ H:=q
def Qw {n:Nat} {S:St->Hp->Prop} (q:S (σ.set n (some v)) H):bj n v σ H S:=q
def Qt {b:yq->TS} (q:b K D σ H):(Sq b K D).nx σ H:=q
def Qs (q:D.nx σ H):gP D σ H:=q
def OQ (q:t σ H λx H1=>gt x σ H1 D.nx):cR t gt D σ H:=q
def ON (q:t σ H D.rt):Ay t D σ H:=q
def M1 (q:t σ H λ_ H1=>D.nx σ H1):mZ t D σ H:=q
def Qv (q:c σ H λz H1=>if z=true then a D σ H1 else b D σ H1):ig c a b D σ H:=q
def Qx {a b:yq->TS} (q:c σ H λz H1=>if z=true then At a K D σ H1 else At b K D σ H1):ig c (a K) (b K) D σ H:=q
def O5 (e:Ms c σ H k) (q:S k H):c σ H S:=e S q
def RY (q:t σ H λx H'=>∃k,x=.bl k/\S k H'):c7 t σ H S:=q
def RZ (q:t σ H λx H'=>∃k,x=.bl k/\S k H'):tB t σ H S:=q
def QB (e:Ev t σ H v) (q:Q v H):t σ H Q:=e Q q
def w_arg (e:K1 ta σ H vs) (q:R vs H):ta σ H R:=e R q
def x_call {sp:Sp} {dv:List V} {E:XK} (q:ta σ H λvs H1=>sp (vs++dv) H1 Q E):bD sp dv E ta σ H Q:=q
def Qy {q':List V->Hp->VK->Prop} (q:ta σ H λvs H1=>q' vs H1 Q):oH q' ta σ H Q:=q
def OM (q:ta σ H λxs H1=>⇑xs<=sizeLine/\∀p,H1 p=none->Q (.ref p) (upd H1 p (.tup xs))):Cy ta σ H Q:=q
def OO (q:ta σ H λxs H1=>⇑xs<=sizeLine/\∀p,H1 p=none->Q (.ref p) (upd H1 p (.lst xs))):oG ta σ H Q:=q
def M3 {fr:List (Option Nat)} (q:wi σ H λJ H1=>du (fr.map λo=>o.bind λj=>(σ[j]?).join) gt c t Q J H1):mi fr wi gt c t σ H Q:=q
def QV {R:It->Hp->Prop} (e:Ev t σ H (.ref p)) (q:(∃xs,aE K H p xs)/\R (K0 K p) H):J8 K t σ H R:=e _ {_,rfl,q}
def Qr {R:It->Hp->Prop} (q:ta σ H λvs H1=>∃j:Int,vs=[.int j]/\-(2^62)<=j/\j<2^62/\R (KZ 0 j.toNat) H1):J7 ta σ H R:=q
abbrev iJ (J:It):TI:=λ_ H R=>R J H
def Fr (g:TG) (b:TS) (D:Ends) (σ:St) (J:It) (H:Hp):Prop:=Ni (iJ J) g b D σ H
def OP {b:yq->TS} (q:wi σ H (Fr gt (At b K) D σ)):Ni wi gt (b K) D σ H:=q
def x_at {b:yq->TS} (q:b K D σ H):At b K D σ H:=q
def Qu {R:It->Hp->Prop} (q:t σ H λx H1=>∃a,x=.ref a/\(∃xs,aE K H1 a xs)/\R (K0 K a) H1):J8 K t σ H R:=q
def QL {R:It->Hp->Prop} (e:K1 ta σ H vs) (q:∃a xs,vs=[.ref a]/\aE K H a xs/\R (OD K a) H):MO K ta σ H R:=e _ q
def QH {R:It->Hp->Prop} (e:K1 ta σ H vs) (q:∃j:Int,vs=[.int j]/\-(2^62)<=j/\j<2^62/\R (KZ 0 j.toNat) H):J7 ta σ H R:=e _ q
def M6 {sp:Sp} {dv:List V} {E:XK} (e:K1 ta σ H vs) (q:sp (vs++dv) H Q E):bD sp dv E ta σ H Q:=e _ q
def QM {q':List V->Hp->VK->Prop} (e:K1 ta σ H vs) (q:q' vs H Q):oH q' ta σ H Q:=e _ q
def QG (e:K1 ta σ H vs) (q:⇑vs<=sizeLine/\∀p,H p=none->Q (.ref p) (upd H p (.tup vs))):Cy ta σ H Q:=e _ q
def QK (e:K1 ta σ H vs) (q:⇑vs<=sizeLine/\∀p,H p=none->Q (.ref p) (upd H p (.lst vs))):oG ta σ H Q:=e _ q
def O9 {d:TT} (e:Ms c σ H k) (q:if k=true then d σ H S else S false H):m5 c d σ H S:=e _ q
def QU {d:TT} (e:Ms c σ H k) (q:if k=true then S true H else d σ H S):O1 c d σ H S:=e _ q
def QX (e:Ms c σ H k) (q:if k=true then t σ H Q else u σ H Q):QS c t u σ H Q:=e _ q
def OS {f:Str} (e:Ev t σ H x) (q:Rq K f x H Q):uE K t f σ H Q:=e _ (by let⟨a,C,dx,fs,v,h1,h2,h3,h4,h5,h6⟩:=q;exact{(a),C,dx,fs,v,h1,h2,h3,h4,h5,h6})
def QN {T:String} {q':V->List V->Hp->VK->Prop} (e:Ev t σ H x) (q:QO K T x H/\ta σ H λxs H2=>q' x xs H2 Q):EL K T q' t ta σ H Q:=e _ q
def OT (e:Ev t σ H (.bl k)) (q:if k=true then u σ H Q else Q (.bl false) H):vS t u σ H Q:=e _ {_,rfl,q}
def QI (e:Ev t σ H (.bl k)) (q:if k=true then Q (.bl true) H else u σ H Q):O0 t u σ H Q:=e _ {_,rfl,q}
def QJ (q:t σ H λx H1=>u σ H1 λy H2=>r x y H2 Q):cI r t u σ H Q:=q
def M5 (q:t σ H λx H1=>ta σ H1 λxs H2=>R (x::xs) H2):ax t ta σ H R:=q
def Qz (e:Ev t σ H x) (q:u σ H λy H2=>r x y H2 Q):cI r t u σ H Q:=e _ q
def M4 (e:Ev t σ H v) (q:ta σ H λxs H2=>R (v::xs) H2):ax t ta σ H R:=e _ q
def QA (q:Q (g i j) H):mU g (.int i) (.int j) H Q:={(i),j,rfl,rfl,q}
def OR (h:H p=some (.tup xs)) (e:qm xs j=some v) (q:Q v H):kK K (.ref p) (.int j) H Q:={_,_,_,_,rfl,rfl,bK.of h,e,q}
end
def fw {g:TG} {tb:TS} {x:V} {σ:St} {H:Hp} {A C:St->Hp->Prop} {B:VK} (h:∀N:Ends,(∀σ H,A σ H->N.nx σ H)->(∀v H,B v H->N.rt v H)->(∀σ H,A σ H->N.ct σ H)->(∀σ H,C σ H->N.bk σ H)->g x σ H λσ2 H2=>tb N σ2 H2):g x σ H λσ2 H2=>tb {nx:=A,rt:=B,bk:=C,ct:=A} σ2 H2:=h _ (λ_ _ z=>z) (λ_ _ z=>z) (λ_ _ z=>z) λ_ _ z=>z
def QD {r:Sp} {vs:List V} {H:Hp} {Q:VK} {E:XK} (h:∀Q':VK,(∀v H',Q v H'->Q' v H')->r vs H Q' E):r vs H Q E:=h Q λ_ _ z=>z
def QE {r:R2} {x y:V} {H:Hp} {Q:VK} (h:∀Q':VK,(∀v H',Q v H'->Q' v H')->r x y H Q'):r x y H Q:=h Q λ_ _ z=>z
def QC {r:V->Hp->VK->Prop} {x:V} {H:Hp} {Q:VK} (h:∀Q':VK,(∀v H',Q v H'->Q' v H')->r x H Q'):r x H Q:=h Q λ_ _ z=>z
abbrev cQ (P:wI) (w:wJ) (base:wN) (n:Nat) {K:yq} {mg:Str->Option wG} {x:Str} {st:Stmt} {a:wM} {d:wL} {ps:List Str} (_:Df K mg x st a d ps) (sp:Sp):Prop:=bQ P w K mg base uz n a d ps sp
theorem _root_.L2.Iz.Pn {P:wI} {w:wJ} {K:yq} {mg:Str->Option wG} {base:wN} {x qual:Str} {st:Stmt} {f:wM} {fd:wL} {N ps:List Str} {k:Nat} {sp:Sp} (F:Iz K x qual st f fd) (S:dr N ps (aD st))
  (hbody:∀(cdv:wG) (A:wK) (outer:List Env) (s:wH) (H:Hp) (vs:List V) (Q:VK) (E:XK),dw k (A.deeper (PyProof.Rows.envOfC qual (aD st) ↑s f cdv))->sp vs H Q E->
   ∃t,vM (gk uz P w K mg base N qual (aD st) f cdv A outer s H E).Cp (aZ st) t/\t (Dz Q) (start N vs) H)
  (len:(∀vs H Q E,sp vs H Q E->⇑vs=⇑ps)<|>qi_):bQ P w K mg base uz (k+1) f fd ps sp:=F.ok S len hbody
def RM {P:wI} {w:wJ} {K:yq} {mg:Str->Option wG} {base:wN} {x:Str} {st:Stmt} {f:wM} {fd:wL} {N ps:List Str} {k:Nat} {sp:Sp} (D:Df K mg x st f fd ps) (S:dr N ps (aD st))
  (hbody:N.Nodup->∀(cdv:wG) (A:wK) (outer:List Env) (s:wH) (H:Hp) (vs:List V) (Q:VK) (E:XK),dw k (A.deeper (PyProof.Rows.envOfC x (aD st) ↑s f cdv))->sp vs H Q E->
   ∃t,vM (gk uz P w K mg base N x (aD st) f cdv A outer s H E).Cp (aZ st) t/\t (Dz Q) (start N vs) H)
  (len:(∀vs H Q E,sp vs H Q E->⇑vs=⇑ps)<|>qi_):bQ P w K mg base uz (k+1) f fd ps sp:=D.F.ok S len (hbody S.nd)
def N4 {N P:List Str} {sc:Scope} (h1:sc.kind=.function<|>qe_) (h2:sc.isCoroutine=false<|>qe_) (h3:sc.isGenerator=false<|>qe_) (h4:N.Nodup<|>qj_) (h5:N.take P.length=P<|>qe_) (h6:(∀x∈P,sc.names.lookup x=some .local\/sc.names.lookup x=some .cell)<|>qj_) (h7:(∀y∈sc.names,y.2≠.free)<|>qj_):dr N P sc:={(h1),h2,h3,h4,h5,h6,h7}
def dP {X:Cx} {x:Str} {id:String} {r:List V->Hp->VK->Prop} {e:Expr} {es:List Expr} {t:TA} {p pos:Pos} (hc:dI X (.builtin id) r) (hm:X.mg x=none) (ha:PA X (e::es) t) (hg:Gl X x<|>qe_) (hv:bootBuiltins x=some (.builtin id)<|>qj_) (hn:x≠ "__name__"<|>qb_) (hdb:(x == ("__debug__": Str))=false<|>qb_)
  (he:starEach (e::es) X.env=(false,eval e X.env)::starEach es X.env<|>qe_) (hpl:(backTo pos (starEach es X.env)).any (·.1)=false<|>qe_):PE X (.Call (.Name x p) (e::es) [] pos) (oH r t):=Dd hc hg hm hv ha hn hdb he hpl
def Ex {X:Cx} {x:Str} {id:String} {r:List V->Hp->VK->Prop} {e:Expr} {es:List Expr} {t:TA} {p pos:Pos} (hc:dI X (.type id) r) (hm:X.mg x=none) (ha:PA X (e::es) t) (hg:Gl X x<|>qe_) (hv:bootBuiltins x=some (.type id)<|>qj_) (hn:x≠ "__name__"<|>qb_) (hdb:(x == ("__debug__": Str))=false<|>qb_)
  (he:starEach (e::es) X.env=(false,eval e X.env)::starEach es X.env<|>qe_) (hpl:(backTo pos (starEach es X.env)).any (·.1)=false<|>qe_):PE X (.Call (.Name x p) (e::es) [] pos) (oH r t):=HF hc hg hm hv ha hn hdb he hpl
def bV {X:Cx} {x:Str} {e:Expr} {te:TE} {pos pos':Pos} (i:Nat) (hN:X.N.Nodup) (he:PE X e te) (hi:X.N[i]?=some x<|>qe_) (hx:Loc X.env.scope x<|>qk_) (hs:swapsWith e (some (.Name x pos')) pos.line X.env=pure false<|>qe_) (hf:X.fn x=true\/X.env.scope.names.lookup x=some .local<|>qa_) :
  PS X (.Assign [.Name x pos'] e pos) (cR te (bj i)):=NG hN hi hx he hs hf
def kA {X:Cx} {x:Str} {pos:Pos} (i:Nat) (hN:X.N.Nodup) (hi:X.N[i]?=some x<|>qe_) (hx:Loc X.env.scope x<|>qk_) (hf:X.fn x=true\/X.env.scope.names.lookup x=some .local<|>qa_):PG X (.Name x pos) (bj i):=GA hN hi hx hf
def lF {X:Cx} {ts ys:List Str} {scope:Scope} {cl:List (Str×wM)} {C:wM} {s₀:wH} {H₀:Hp} {ex:List wM} {x:Str} {pos:Pos} (i:Nat) (hN:(ts++ys).Nodup<|>qj_) (hi:(ts++ys)[i]?=some x<|>qe_) (hx:Loc (bT X (ts++ys) scope cl C s₀ H₀ ex).env.scope x<|>qk_) (hf:(bT X (ts++ys) scope cl C s₀ H₀ ex).fn x=true\/(bT X (ts++ys) scope cl C s₀ H₀ ex).env.scope.names.lookup x=some .local<|>qa_):PG (bT X (ts++ys) scope cl C s₀ H₀ ex) (.Name x pos) (bj i):=GA hN hi hx hf
section
variable {X:Cx} {pos:Pos} {elt target iter:Expr} {ifs:List Expr} {scope:Scope} {ts ys:List Str} {js:List Nat} {cl:List (Str×wM)} {wi:TI} {g:TG} {tc:TT} {te:TE}
def nG (hi:PI X target iter wi) (hg:∀{C s₀ H₀ ex},PG (bT X (ts++ys) scope cl C s₀ H₀ ex) target g) (hif:∀{C s₀ H₀ ex},Mp (bT X (ts++ys) scope cl C s₀ H₀ ex) ifs tc) (he:∀{C s₀ H₀ ex},PE (bT X (ts++ys) scope cl C s₀ H₀ ex) elt te)
  (hclos:closureFor scope X.env=pure cl<|>qe_) (hc:X.calm=true<|>qe_) (hcl:Cj X.env.cells cl<|>ql_)
  (hLo:((relabel scope X.env).names.all λp=>(p.2 != .cell&&p.2 != .free)||ys.contains p.1||scope.names.contains (p.1,.cell))=true<|>qe_) (hno:(∀p∈scope.names,p.2=.cell->p.1∉ys)<|>qj_)
  (hfr:IA X scope cl ys js<|>ql_)
  (hkind:scope.kind=.function<|>qe_) (hnames:(∀y∈scope.names,y.2=.local->scope.names.lookup y.1=some .local)<|>qj_) (hs:(∀x,foldedSetIterable iter X.env x=pure x)<|>qd_) :
  PE X (.ListComp elt [{target,iter,ifs,0}] scope pos) (mi (ts.map (λ_=>none)++js.map some) wi g tc te):=JL hc hclos hcl hLo hno hfr hkind hnames hi (λ_ _ _ _=>hg) (λ_ _ _ _=>hif) (λ_ _ _ _=>he) hs
def RL {i:Nat} {x:Str} {ps pa:Pos} (hi:PI X target iter wi) (hg:∀{C s₀ H₀ ex},PG (bT X (ts++ys) scope cl C s₀ H₀ ex) target g) (hif:∀{C s₀ H₀ ex},Mp (bT X (ts++ys) scope cl C s₀ H₀ ex) ifs tc) (he:∀{C s₀ H₀ ex},PE (bT X (ts++ys) scope cl C s₀ H₀ ex) elt te) (hN:X.N.Nodup)
  (hclos:closureFor scope X.env=pure cl<|>qe_) (hc:X.calm=true<|>qe_) (hcl:Cj X.env.cells cl<|>ql_)
  (hLo:((relabel scope X.env).names.all λp=>(p.2 != .cell&&p.2 != .free)||ys.contains p.1||scope.names.contains (p.1,.cell))=true<|>qe_) (hno:(∀p∈scope.names,p.2=.cell->p.1∉ys)<|>qj_)
  (hfr:IA X scope cl ys js<|>ql_)
  (hkind:scope.kind=.function<|>qe_) (hnames:(∀y∈scope.names,y.2=.local->scope.names.lookup y.1=some .local)<|>qj_) (hx1:X.N[i]?=some x<|>qe_) (hx2:Loc X.env.scope x<|>qk_) (hs:(∀x,foldedSetIterable iter X.env x=pure x)<|>qd_) (hsw:swapsWith (.ListComp elt [{target,iter,ifs,0}] scope pos) (some (.Name x ps)) pa.line X.env=pure true<|>qe_)
  (hf:X.fn x=true\/X.env.scope.names.lookup x=some .local<|>qa_) :
  PS X (.Assign [.Name x ps] (.ListComp elt [{target,iter,ifs,0}] scope pos) pa) (cR (mi (ts.map (λ_=>none)++js.map some) wi g tc te) (bj i)):=JA hc hclos hcl hLo hno hfr hkind hnames hi (λ_ _ _ _=>hg) (λ_ _ _ _=>hif) (λ_ _ _ _=>he) hN hx1 hx2 hs hsw hf
end
section
variable {P:wI} {w:wJ} {K:yq} {mg:Str->Option wG} {base:wN} (T:Txt K mg)
local macro_rules | `(tactic|right) => `(tactic| (intro pp hn; generalize hG : upd _ pp _ = HH; have sm := ao.Bo hG hn; have hh := B4 hG; clear hG hn))
local macro_rules | `(tactic| intros $D:ident $n:ident $s:ident $h:ident $H:ident) => `(tactic| ((try refine ⟨zX _, ?_⟩); intro $D $n; generalize hG : upd _ $D _ = $H; have $s:ident := ao.Bo hG $n; have $h:ident := B4 hG; clear hG))
local macro_rules|`(tactic|ac_rfl)=>`(tactic|try dsimp only[gk,Cx.Cp])
local macro_rules|`(tactic|intros $p:ident $H:ident $s:ident $h:ident)=>`(tactic|(intro $p hn;generalize hG:upd _ $p _=$H;have $s:ident:=ao.Bo hG hn;have $h:ident:=B4 hG;clear hG hn))
local macro_rules|`(tactic|change $e:term)=>`(tactic|(left ;exact $e))
set_option hygiene false
local macro_rules|`(tactic|fail "h")=>`(tactic|(refine ao.on (by assumption) ?_; fail "h"))
local macro_rules|`(tactic|fail "h")=>`(tactic|assumption)
local macro_rules|`(tactic|fail "e")=>`(tactic|((with_reducible apply PL); fail "e"; fail "e"; (first | (show (0 : Int) < _; decide) | exact And.intro ∅ ∅ | exact Or.inl ⟨∅, by decide⟩ | exact Or.inr ⟨∅, by decide⟩)))
local macro_rules|`(tactic|fail "e")=>`(tactic|((with_reducible (first | apply PN | apply PJ)); fail "e"; fail "e"; exact rfl))
local macro_rules|`(tactic|fail "e")=>`(tactic|((with_reducible (first | apply Rr | apply Rv | apply Rt | apply Oc | apply L9 | apply Oa)); fail "e"))
local macro_rules|`(tactic|fail "e")=>`(tactic|((with_reducible apply PK); fail "e"; fail "e"; fail "h"; exact rfl))
local macro_rules|`(tactic|fail "e")=>`(tactic|((with_reducible (first | apply PM | apply Ma)); fail "e"; fail "e"))
local macro_rules|`(tactic|fail "e")=>`(tactic|with_reducible (first | exact Ru | exact Ob))
local macro_rules|`(tactic|fail "e")=>`(tactic|((with_reducible apply N9); exact rfl))
local macro_rules | `(tactic| exists $es,*) => `(tactic| (left; first | ((with_reducible (first | refine QD fun _ kq => ?_ | refine QE fun _ kq => ?_ | refine QC fun _ kq => ?_)); refine ⟨$es,*⟩; refine kq _ _ ?_) | refine ⟨$es,*⟩))
local macro_rules|`(tactic|fail "s")=>`(tactic|refine Or.inr ⟨_, rfl, ?_⟩)
local macro_rules|`(tactic|fail "s")=>`(tactic|refine ⟨Or.inr ⟨∅, by decide⟩, ?_⟩)
local macro_rules|`(tactic|fail "s")=>`(tactic|refine ⟨Or.inl ⟨∅, by decide⟩, ?_⟩)
local macro_rules|`(tactic|fail "s")=>`(tactic|refine ⟨(And.intro ∅ ∅), ?_⟩)
local macro_rules|`(tactic|fail "s")=>`(tactic|refine ⟨(by show (0 : Int) < _; decide), ?_⟩)
local macro_rules|`(tactic|fail "s")=>`(tactic|refine ⟨_, Gn (by fail "h"), ?_⟩)
local macro_rules|`(tactic|fail "s")=>`(tactic|refine ⟨_, _, _, _, rfl, rfl, bK.of (by fail "h"), rfl, ?_⟩)
local macro_rules|`(tactic|fail "s")=>`(tactic|refine Rm ?_)
local macro_rules|`(tactic|fail "s")=>`(tactic|refine Px ?_)
local macro_rules|`(tactic|fail "s")=>`(tactic|refine ⟨rfl, ?_⟩)
local macro_rules|`(tactic|fail "s")=>`(tactic|refine ⟨_, _, rfl, rfl, ?_⟩)
local macro_rules|`(tactic|fail "s")=>`(tactic|refine ⟨_, rfl, ?_⟩)
local macro_rules|`(tactic|fail "s")=>`(tactic|with_reducible (first | apply QA | apply RY | apply RZ | apply x_call | apply Qy | apply OM | apply OO | apply M3 | apply Qr | apply Qu | apply QJ | apply M5))
local macro_rules|`(tactic|fail "s")=>`(tactic|((with_reducible apply OR); fail "h"; exact rfl))
local macro_rules|`(tactic|fail "s")=>`(tactic|((with_reducible (first | apply M6 | apply QM | apply QV | apply OS | apply QN | apply OT | apply QI | apply Qz | apply M4 | apply QG | apply QK | apply QL | apply QH | apply O9 | apply QU | apply QX)); fail "e"))
local macro_rules|`(tactic|fail "s")=>`(tactic|((with_reducible apply O5); fail "e"))
local macro_rules|`(tactic|fail "s")=>`(tactic|((with_reducible apply w_arg); fail "e"))
local macro_rules|`(tactic|fail "s")=>`(tactic|((with_reducible apply QB); fail "e"))
local macro_rules|`(tactic|fail "s")=>`(tactic|with_reducible (first | apply Qq (K := K) | apply Qw | apply Qt | apply Qs | apply x_at | apply OQ | apply ON | apply M1 | apply Qx (K := K) | apply Qv | apply OP (K := K)))
local macro_rules|`(tactic|fail "s")=>`(tactic|((with_reducible (first | apply O8 | apply O6 | apply QW (K := K))); fail "e"))
local macro_rules | `(tactic|left) => `(tactic| ((repeat fail "s"); (first | (first | apply kN4 | apply kN3 | apply kN2 | apply kN1 | apply kN0 | apply kR4 | apply kR3 | apply kR2 | apply kR1 | apply kR0); left | skip)))
local macro_rules | `(tactic| nomatch $a:term, $b:term) => `(tactic| refine RM $a (N := $b) N4 fun qN _ _ _ _ H vs Q E hr h => ?_)
set_option hygiene true
def nK:cQ P w base 1 T.fi ip:=by
 nomatch T.fi,["one","other","rest"]
 let⟨a,b,rfl,h1,h2,kk⟩:=h;refine{_,(aa (Jz yF (ptr iG (pv 1) ah)
  (aa (bV 2 qN (aC bM (pv 0) (pv 1)))
   (aa (bV 0 qN (pv 1))
   (ai (bV 1 qN (pv 2))))))
  (ai (aj (pv 0)))),?_}
 refine{λm σ H'=>H'=H/\∃(x y:Int) (r:Option V),σ=[some (.int x),some (.int y),r]/\0<=x/\0<=y/\Int.gcd x y=Int.gcd a b/\m=y.toNat,{_,rfl,a,b,none,rfl,h1,h2,rfl,rfl},?_};rintro m σ H' ⟨rfl,x,y,r,rfl,hx,hy,hg,rfl⟩;left
 by_cases e:y=0
 ·subst e
  refine MN rfl ?_;refine{_,rfl,?_};let e2:Int.gcd a b=x.natAbs:=by rw[<-hg];simp
  let e3:((Int.gcd a b:Nat):Int)=x:=by rw[e2];ext
  rw[e3] at kk;exact kk
 ·refine bo (by simp[e]) ?_
  refine{λσ' H''=>∃m',m'<y.toNat/\H''=H'/\∃(x y:Int) (r:Option V),σ'=[some (.int x),some (.int y),r]/\0<=x/\0<=y/\Int.gcd x y=Int.gcd a b/\m'=y.toNat,λ_ _ h=>h,?_};exists(by show(0:Int)<y;ext),?_;left;let hp:(0:Int)<y:=()
  let l1:=zp x (by omega:y≠0);let l2:=zm x hp;exact{(x%y).toNat,(),rfl,y,x%y,_,rfl,hy,l1,(Kd hx hp).trans hg,rfl}
def gW:cQ P w base 2 T.dE gQ:=by
 let G_common_divisor:cQ P w base 1 T.fi ip:=nK T
 nomatch T.dE,["top","bottom","divisor"]
 let⟨t,b,rfl,h1,h2,h3,kk⟩:=h;refine{_,(aa (bV 2 qN (b4 G_common_divisor hr T.fi (af (pv 0) (af (pv 1) ag))))
  (ai (aj (bw (af (aC Dg (pv 0) (pv 2)) (af (aC Dg (pv 1) (pv 2)) ag)))))),?_}
 exists t,b,rfl,h1,yR h2,?_;let g0:=BC (t:=t) h2;let g1:Sz 8999 ((Int.gcd t b:Nat):Int):=h3.le (yR g0) (N3 h2);exists{(g0),g1},?_;exists{(g0),g1},?_;refine{eX,laid λp H' sm hp=>kk p H' sm ?_};exact hp
def JQ:cQ P w base 3 T.added Jc:=by
 let G_made_length:cQ P w base 2 T.dE gQ:=gW T
 nomatch T.added,["one","other"]
 let⟨x,y,p,q,n,m,rfl,hp,hq,rx,ry,sx,sy,hnm,kk⟩:=h;let⟨x1,x2,_⟩:=rx.pos;let⟨y1,y2,_⟩:=ry.pos;let bx1:Sz 20000 x.1:=sx.1.mono ();let bx2:Sz 20000 x.2:=sx.2.mono ();let by1:Sz 20000 y.1:=sy.1.mono ();let by2:Sz 20000 y.2:=sy.2.mono ();refine{_,(ai (aj (b4 G_made_length hr T.dE (af (aC dh (aC nI (cE (pv 0) ah) (cE (pv 1) ah)) (aC nI (cE (pv 1) ah) (cE (pv 0) ah))) (af (aC nI (cE (pv 0) ah) (cE (pv 1) ah)) ag))))),?_};exists{(bx1),by2},?_;exists{(by1),bx2},?_;exists{(bx2),by2},?_;refine{_,_,rfl,Int.add_nonneg (xI x1 (yR y2)) (xI y1 (yR x2)),xg x2 y2,(sx.2.mul sy.2).mono hnm,λr H' sm hr'=>kk r H' sm hr'}
def Fi:cQ P w base 1 T.AM EN:=by
 nomatch T.AM,["one","other"]
 let⟨x,y,p,q,rfl,hp,hq,sx,sy,kk⟩:=h;let bx1:Sz 20000 x.1:=sx.1.mono ();let bx2:Sz 20000 x.2:=sx.2.mono ();let by1:Sz 20000 y.1:=sy.1.mono ();let by2:Sz 20000 y.2:=sy.2.mono ();refine{_,(ai (aj (bH eZ (aC nI (cE (pv 0) ah) (cE (pv 1) ah)) (aC nI (cE (pv 1) ah) (cE (pv 0) ah)) (cL _)))),?_};exists{(bx1),by2},?_;exists{(by1),bx2},?_;change kk
def iX:cQ P w base 1 T.hW d7:=by
 nomatch T.hW,["_law_cell","_law_k"]
 let⟨c,k,rfl,h1,h2,kk⟩:=h;refine{_,(ai (aj (aC bM (aC sM (aC sM (aC dh (aC bM (pv 0) ah) ah) (aC dh (aC sM (pv 1) (pv 1)) ah)) ah) ah))),?_};exists Or.inl {(()),()},?_;left;let e1:0<=c%2305843009213693951:=zp _ ∅;let e2:c%2305843009213693951<2305843009213693951:=zm _ ∅;refine{Or.inl {(()),()},?_};change kk
def dz:dr ["text","parts","top","bottom"] ["text"] (aD lZ):=N4
def gj:cQ P w base 1 T.cx gh:=by
 nomatch T.cx,["text","most"]
 let⟨t,most,rfl,hl,kk⟩:=h;let sl:=yr;let hz:⇑t<=sizeLine:=()
 let el:⇑t.cps.toList=⇑t:=yG;unfold rn at kk;rw[el] at kk;refine{_,(aa (az (PW.pt (cy (ptr eZ (dP fj T.bz (af (pv 0) ag)) ah) (bS (ptr eG (dP fj T.bz (af (pv 0) ag)) (pv 1)))))
  (ai (aj aH))
  ak)
  (aa (az (cp (bt (dP (ju rfl) T.Dy (af (nG (ts:=["sign"]) (ys:=[]) (js:=[]) (te:=(cI (λx y H Q=>∃i j,x=.str i/\y=.str j/\Q (.bl (!(Builtin.Str.occurrences j i 0 ⇑j 1).isEmpty)) H) (aB 0) (tC (.str "0123456789")))) (JD (pv 0)) (lF 0) bq (bH wQ (pv 0) (aU (v:=.str "0123456789") (by rfl) T.Ik {_,rfl}) (by with_unfolding_all rfl))) ag))))
  (ai (aj aH))
  ak)
  (aa (az (PW.pt (dg (ptr cb (JI NY (pv 0) ah (λ_ _=>rfl)) aG) (cz (ptr eG (dP fj T.bz (af (pv 0) ag)) ah))))
  (ai (aj aH))
  ak)
  (ai (aj (Ex BY T.GC (af (pv 0) ag))))))),?_}
 exists hz,?_;left;refine qI (λc1=>?_) (λc1=>?_)
 ·left
  let z:=kk H (ao.refl H);rw[yE (zV c1)] at z;exact z
 let c1':¬(⇑t:Int)<1:=λz=>c1 (zd z);rw[yD c1'] at kk;exists hz,?_;left;refine qI (λc2=>?_) (λc2=>?_)
 ·left
  let z:=kk H (ao.refl H);rw[yE (zV c2)] at z;exact z
 let c2':¬most<(⇑t:Int):=λz=>c2 (zd z);rw[yD c2'] at kk;left;refine om ⇑t (λi=>(t.cps.toList.take i).map λc=>V.bl (decide (c∈qK))) (λi σ H'=>H'=H/\∃v,σ=[v]) (λi hi=>by rw[za,zL];ext) () rfl {(rfl),none,rfl} (λi σ H' hi _=>hi) (λσ H' _=>zh _) ?_ ?_
 ·rintro i x σ H1 H2 hi ⟨rfl,v,rfl⟩ ⟨rfl,c,hc,rfl⟩
  left;refine IB.push hi ?_ {rfl,_,rfl};rw[PySem.StrLaws.found_one];rw[<-yY] at hc;show List.map _ (List.take (i+1) t.cps.toList)=_;rw[xa,hc,zg];rfl
 ·rintro σ H1 ⟨rfl,_⟩
  rw[<-el,zI];intros D H2 sm h2;refine{D,t.cps.toList.map (λc=>decide (c∈qK)),rfl,aE.of (by rw[h2,zv];rfl),?_};let ea:(t.cps.toList.map (λc=>decide (c∈qK))).all id=t.cps.toList.all (λc=>decide (c∈qK)):=by rw[xK];rfl
  rw[ea]
  by_cases ha:t.cps.toList.all (λc=>decide (c∈qK))=true
  ·rw[ha]
   rw[yE ha] at kk;left;let h1:0<t.cps.size:=by show 0<⇑t;ext
   obtain⟨c,hc⟩:∃c,t.cps[0]?=some c:={t.cps[0]'h1,Array.getElem?_eq_getElem h1}
   let hc':t.cps.toList[0]?=some c:=by rw[yY];exact hc
   rw[hc'] at kk;refine{_,0,c,rfl,rfl,hz,bC (j:=0) hc',?_};left;let rd:PySem.intText? t=some ((NumText.digitsVal t.cps.toList:Nat):Int):=PySem.intText_digits (FY ha) (λz=>by rw[z] at el;simp at el;ext) ()
   by_cases e0:c=48
   ·subst e0
    refine bo ∅ ?_;exists hz,?_;left;refine qI (λc3=>?_) (λc3=>?_)
    ·left
     let c3':1<⇑t:=by have:=zV c3;ext
     let z:=kk H2 sm;rw[yE {(rfl),c3'}] at z;exact z
    ·let c3':¬1<⇑t:=λz=>c3 (zd ())
     let z:=kk H2 sm;rw[yD (λq=>c3' q.2)] at z;change{_,_,rfl,rd,(),z}
   ·refine bp (zc λz=>e0 ?_) ?_
    ·let z':=V.str.inj z
     exact(List.cons.inj (show [c]=[48] from yP (λy:Str=>y.cps.toList) z')).1
    let z:=kk H2 sm;rw[yD (λq=>e0 (ya q.1))] at z;change{_,_,rfl,rd,(),z}
  ·rw[yD ha] at kk
   rw[Bool.eq_false_iff.mpr ha];change kk H2 sm
def ka:cQ P w base 2 T.eF j2:=by
 let G_read_number:cQ P w base 1 T.cx gh:=gj T
 nomatch T.eF,["text","most","number"]
 let⟨t,most,rfl,hl,kk⟩:=h;let sl:=yr;unfold rs at kk;refine{_,(aa (az (cp (bt (cK yw PySem.F.slot_str_startswith PySem.F.type_str_startswith vi (pv 0) (af aG ag))))
  (ai (aj (b4 G_read_number hr T.cx (af (pv 0) (af (pv 1) ag)))))
  ak)
  (aa (bV 2 qN (b4 G_read_number hr T.cx (af (cA Nu (pv 0) (di ah) dj) (af (pv 1) ag))))
  (aa (az (PW.pt (cy (bb (bx (pv 2))) (bS (ptr cb (pv 2) ah))))
  (ai (aj aH))
  ak)
  (ai (aj (j8 gg (pv 2))))))),?_}
 left
 by_cases hn:t.cps.toList[0]?=some 45
 ·rw[yE hn] at kk
  let q:=(PySem.StrLaws.subAt_one t 45 0).mpr hn;let es:(decide (0+("-": Str).length<=⇑t)&&Builtin.Str.subAt t "-" 0)=true:=by
   rw[zJ];exact{zd q.1,q.2}
  rw[es];exists by ext,?_
  let h1:1<=⇑t:=by have:=q.1;let e:⇑({#[45]}:Str)=1:=rfl;ext
  let e1:(PySem.Txt.slice t (some 1) none).cps.toList=t.cps.toList.drop 1:=ET t h1;exists _,most,rfl,zH (PySem.Txt.slice_le t _ _) hl,λH1 s1=>?_;rw[e1];let z:=kk H1 s1;cases hr':rn most (t.cps.toList.drop 1) with
  | none=>
   rw[hr'] at z;change z
  | some n=>
   rw[hr'] at z;left
   by_cases e0:n=0
   ·subst e0
    refine bo ∅ ?_;change z
   ·refine bp (zc λy=>e0 (V.int.inj y)) ?_
    left;let z':Q (ov (if n=0 then none else some (-n))) H1:=z;rw[yD e0] at z';exact z'
 ·rw[yD hn] at kk
  let es:(decide (0+("-": Str).length<=⇑t)&&Builtin.Str.subAt t "-" 0)=false:=by
   rw[Bool.eq_false_iff];intro z;rw[zJ] at z;exact hn ((PySem.StrLaws.subAt_one t 45 0).mp {zV z.1,z.2})
  rw[es];change{t,most,rfl,hl,λH1 s1=>kk H1 s1}
def kM:cQ P w base 3 T.gS kE:=by
 let G_read_signed:cQ P w base 2 T.eF j2:=ka T
 nomatch T.gS,["fifths_text","steps_text","fifths","steps"]
 let⟨a,b,rfl,la,lb,kk⟩:=h;unfold rp at kk;refine{_,(aa (bV 2 qN (b4 G_read_signed hr T.eF (af (pv 0) (af (aU (v:=.int 2) (by rfl) T.kj {_,rfl}) ag))))
  (aa (bV 3 qN (b4 G_read_signed hr T.eF (af (pv 1) (af (aU (v:=.int 2) (by rfl) T.kj {_,rfl}) ag))))
  (aa (az (PW.pt (cy (bb (bx (pv 2))) (bS (bb (bx (pv 3))))))
  (ai (aj aH))
  ak)
  (aa (az (ptr iG (aC bM (aC fE (pv 3) (aC sM (aU (v:=.int 7) (by rfl) T.vB {_,rfl}) (pv 2))) (aU (v:=.int 12) (by rfl) T.tX {_,rfl})) ah)
  (ai (aj aH))
  ak)
  (ai (aj (bw (af (pv 2) (af (pv 3) ag))))))))),?_}
 exists a,2,rfl,la,λH1 s1=>?_;exists b,2,rfl,lb,λH2 s2=>?_;let S2:=s1.trans s2;cases ea:rs 2 a with
 | none=>
  rw[ea] at kk;change kk .aX H2 S2 .aX
 | some f=>
  cases eb:rs 2 b with
  | none=>
   rw[ea,eb] at kk;change kk .aX H2 S2 .aX
  | some g=>
   rw[ea,eb] at kk;left
   by_cases hm:(g-7*f)%12=0
   ·refine MN (yP V.int hm) ?_
    left;refine{eX,laid λp H3 s3 hp=>kk (.ref p) H3 (S2.trans s3) ?_};show Gb H3 (.ref p) (if(g-7*f)%12=0 then some (f,g) else none);rw[yE hm];exact .ref hp
   ·refine bo (by simp[hm]) ?_
    left;refine kk .aX H2 S2 ?_;show Gb H2 .aX (if(g-7*f)%12=0 then some (f,g) else none);rw[yD hm];exact .aX
def j9:bQ P w K mg base (Eu P w) 3 T.i5 T.i4 ["text"] (j1 T.dH):=by
 let G_read_number:cQ P w base 1 T.cx gh:=gj T;let G_made_length:cQ P w base 2 T.dE gQ:=gW T;refine T.dA.F.R7 dz (λvs H Q E h=>?_) (λcdv A' outer s H vs Q E hr h=>?_)
 ·let⟨_,rfl,_⟩:=h;rfl
 ·let⟨t,rfl,lt,k1,k2⟩:=h
  let sl:=yr;let pl:=PyProof.Rows.split_pos t "/";let sh:∀z∈Txt.split t "/",⇑z<=600:=λz hz=>zH (xu hz) lt;unfold KY at k1 k2;refine{_,(aa (bV 1 dz.nd (cK yw yA yz gX (pv 0) (af aG ag)))
   (aa (az (ptr eG (dP ay T.bz (af (pv 1) ag)) ah)
   (ai (C3 T.jS T.jF PySem.F.excBase_ValueError rfl (af aG ag)))
   ak)
   (aa (bV 2 dz.nd (b4 G_read_number hr T.cx (af (dM (pv 1) ah) (af (aU (v:=.int 4) (by rfl) T.jx {_,rfl}) ag))))
   (aa (bV 3 dz.nd ah)
   (aa (az (ptr cb (dP ay T.bz (af (pv 1) ag)) ah)
   (ai (bV 3 dz.nd (b4 G_read_number hr T.cx (af (dM (pv 1) ah) (af (aU (v:=.int 4) (by rfl) T.jx {_,rfl}) ag)))))
   ak)
   (aa (az (PW.pt (cy (bb (bx (pv 2))) (cy (bb (bx (pv 3))) (bS (ptr cb (pv 3) ah)))))
   (ai (C3 T.jS T.jF PySem.F.excBase_ValueError rfl (af aG ag)))
   ak)
   (ai (aj (b4 G_made_length hr T.dE (af (pv 2) (af (pv 3) ag))))))))))),?_}
  exists by ext,?_
  generalize Txt.split t "/"= ws at k1 k2 pl sh;intros p1 H1 s1 h1;exists p1,_,rfl,.inl (aE.of h1),?_
  match ws,pl,sh,k1,k2,h1 with
  | [a],_,sh,k1,k2,h1=>
   exists p1,_,0,_,rfl,rfl,aE.of h1,rfl,?_;exists a,4,rfl,sh a (by simp),λH2 s2=>?_;replace h1:=s2 _ _ h1;exists p1,_,rfl,.inl (aE.of h1),?_;cases ea:rn 4 a.cps.toList with
   | none=>
    simp only[ea] at k1 k2;left;refine{by show 1<=sizeLine;decide,k2 trivial H2 (s1.trans s2)}
   | some n=>
    simp only[ea] at k1 k2;let⟨n0,n1,_⟩:=Jl ea ∅;change{_,_,rfl,n0,∅,(eQ (n:=1) ∅ ∅).mono ∅,λp3 H3 s3 h3=>k1 _ rfl p3 H3 ((s1.trans s2).trans s3) h3}
  | [a,b],_,sh,k1,k2,h1=>
   exists p1,_,0,_,rfl,rfl,aE.of h1,rfl,?_;exists a,4,rfl,sh a (by simp),λH2 s2=>?_;replace h1:=s2 _ _ h1;exists p1,_,rfl,.inl (aE.of h1),?_;exists p1,_,1,_,rfl,rfl,aE.of h1,rfl,?_;exists b,4,rfl,sh b (by simp),λH3 s3=>?_;let S3:=(s1.trans s2).trans s3;cases ea:rn 4 a.cps.toList with
   | none=>
    simp only[ea] at k1 k2;change{by show 1<=sizeLine;decide,k2 trivial H3 S3}
   | some n=>
    cases eb:rn 4 b.cps.toList with
    | none=>
     simp only[ea,eb] at k1 k2;change{by show 1<=sizeLine;decide,k2 trivial H3 S3}
    | some m=>
     simp only[ea,eb] at k1 k2;let⟨n0,n1,_⟩:=Jl ea ∅;let⟨m0,m1,_⟩:=Jl eb ∅;left
     by_cases e0:m=0
     ·subst e0
      refine bo ∅ ?_;change{by show 1<=sizeLine;decide,k2 rfl H3 S3}
     ·rw[yD e0] at k1
      refine bp (zc λy=>e0 (V.int.inj y)) ?_;change{_,_,rfl,n0,(),(eQ (n:=14) () ()).mono ∅,λp4 H4 s4 h4=>k1 _ rfl p4 H4 (S3.trans s4) h4}
  | a::b::c::r,_,sh,k1,k2,h1=>
   left;refine bo (zd (show(2:Int)<(⇑((a::b::c::r).map V.str):Int) by rw[za];simp only[zo];ext)) ?_;change{by show 1<=sizeLine;decide,k2 rfl H1 s1}
def gd:cQ P w base 4 T.cJ f9:=by
 let G_read_length:bQ P w K mg base (Eu P w) 3 T.i5 T.i4 ["text"] (j1 T.dH):=j9 T
 nomatch T.cJ,["text","length"]
 let⟨t,rfl,lt,kk⟩:=h;unfold lr at kk;refine{_,(aa (LF G_read_length (hr.mono ∅) rfl T.dA.g T.dA.F.kp T.dA.b (af (pv 0) ag) rfl qN (i:=1) rfl (Or.inl rfl) rfl T.jS T.jF rfl rfl rfl (λe=>(ai (aj aH))))
  (aa (az (ptr cb (cE (pv 1) ah) ah)
  (ai (aj aH))
  ak)
  (ai (aj (pv 1))))),?_}
 left;refine{lt,λx ex p1 H1 s1 h1=>?_,λen H1 s1=>{rfl,?_}}
 ·simp only[ex] at kk
  left
  by_cases e0:x.1=0
  ·refine bo (by rw[e0];rfl) ?_
   left;rw[yE e0] at kk;exact kk .aX H1 s1 .aX
  ·refine bp (zc λy=>e0 (V.int.inj y)) ?_
   left;rw[yD e0] at kk;exact kk (.ref p1) H1 s1 (.ref h1)
 ·simp only[en] at kk
  change kk .aX H1 s1 .aX
def LR {ws:List Str} (h:1<=⇑ws):qm (ws.map V.str) (-1)=some (.str (ws.getLast?.getD "")):=by
 let ne:ws≠[]:=λz=>by rw[z] at h;simp at h
 let e:=xC ne;let e2:ws.getLast?.getD ""= ws.getLast ne:=by rw[List.getLast?_eq_some_getLast ne];rfl
 rw[e2];let e3:ws.map V.str=ws.dropLast.map V.str++[V.str (ws.getLast ne)]:=by rw[<-List.map_singleton (f:=V.str),<-zg,e]
 rw[e3];exact Ef _ _
def JZ {ws:List Str} (h:1<=⇑ws):ws.getLast?.getD "" ∈ws:=by
 let ne:ws≠[]:=λz=>by rw[z] at h;simp at h
 rw[List.getLast?_eq_some_getLast ne];exact List.getLast_mem ne
def uZ:cQ P w base 5 T.oY lW:=by
 let G_read_item_length:cQ P w base 4 T.cJ f9:=gd T;let G_read_pitch:cQ P w base 3 T.gS kE:=kM T
 nomatch T.oY,["text","parts","length","pitch"]
 let⟨t,rfl,lt,kk⟩:=h;let sl:=yr;let pl:=PyProof.Rows.split_pos t ":";let sh:∀z∈Txt.split t ":",⇑z<=600:=λz hz=>zH (xu hz) lt;unfold ir at kk;refine{_,(aa (bV 1 qN (cK yw yA yz gX (pv 0) (af aG ag)))
  (aa (bV 2 qN (b4 G_read_item_length hr T.cJ (af (dM (pv 1) (j8 gg ah)) ag)))
  (aa (az (bb (bx (pv 2)))
  (ai (aj aH))
  ak)
  (aa (az (PW.pt (dg (ptr cb (dP ay T.bz (af (pv 1) ag)) ah) (cz (ptr cb (dM (pv 1) ah) aG))))
  (ai (aj (bw (af aH (af (pv 2) ag)))))
  ak)
  (aa (az (ptr iG (dP ay T.bz (af (pv 1) ag)) ah)
  (ai (aj aH))
  ak)
  (aa (bV 3 qN (b4 G_read_pitch hr T.gS (af (dM (pv 1) ah) (af (dM (pv 1) ah) ag))))
  (aa (az (bb (bx (pv 3)))
  (ai (aj aH))
  ak)
  (ai (aj (bw (af (pv 3) (af (pv 2) ag)))))))))))),?_}
 exists by ext,?_
 generalize Txt.split t ":"= ws at kk pl sh;intros p1 H1 s1 h1;exists p1,_,-1,_,rfl,rfl,aE.of h1,LR pl,?_;refine{_,rfl,sh _ (JZ pl),λv H2 s2 hv=>?_};let h2:=s2 _ _ h1;let S2:=s1.trans s2;generalize lr (ws.getLast?.getD "")=o at kk hv;cases hv with
 | aX=>
  change kk .aX H2 S2 rfl
 | @ref p2 x hx=>
  let kk':∀v H',ao H H'->Mr H' v (if ws.dropLast=[("r": Str)] then some (none,x) else match ws.dropLast with
   | [a,b]=>(match rp a b with | some q=>some (some q,x) | none=>none)
   | _=>none)->Q v H':=kk
  clear kk;exists p1,_,rfl,.inl (aE.of h2),?_
  match ws,pl,sh,kk',h2 with
  | [a],_,sh,kk,h2=>
   exists p1,_,rfl,.inl (aE.of h2),?_;change kk .aX H2 S2 rfl
  | [a,b],_,sh,kk,h2=>
   exists p1,_,0,_,rfl,rfl,aE.of h2,rfl,?_;left
   by_cases ea:a ="r"
   ·subst ea
    refine bo ∅ ?_;change{eX,laid λp3 H3 s3 h3=>kk (.ref p3) H3 (S2.trans s3) {p3,_,p2,rfl,h3,s3 _ _ hx,.aX}}
   ·refine bp (zc λz=>ea (V.str.inj z)) ?_
    exists p1,_,rfl,.inl (aE.of h2),?_;left;refine kk .aX H2 S2 ?_;rw[yD (by intro z;exact ea (List.cons.inj z).1)];rfl
  | [a,b,c],_,sh,kk,h2=>
   exists p1,_,rfl,.inl (aE.of h2),?_;exists p1,_,0,_,rfl,rfl,aE.of h2,rfl,?_;exists p1,_,1,_,rfl,rfl,aE.of h2,rfl,?_;refine{a,b,rfl,sh a (by simp),sh b (by simp),λv H3 s3 hv=>?_};let kk2:∀v H',ao H H'->Mr H' v (match rp a b with | some q=>some (some q,x) | none=>none)->Q v H':=λv H' s' z=>kk v H' s' (by
    rw[yD (by intro y;simp at y)];exact z)
   generalize rp a b=o at kk2 hv;cases hv with
   | aX=>
    change kk2 .aX H3 (S2.trans s3) rfl
   | @ref p4 q hq=>
    change{eX,laid λp5 H5 s5 h5=>kk2 (.ref p5) H5 ((S2.trans s3).trans s5) {p5,_,p2,rfl,h5,s5 _ _ (s3 _ _ hx),.ref (s5 _ _ hq)}}
  | a::b::c::d::r,_,sh,kk,h2=>
   exists p1,_,rfl,.inl (aE.of h2),?_;left;refine kk .aX H2 S2 ?_;rw[yD (by intro y;simp at y)];rfl
def Dh:cQ P w base 1 T.words_of CA:=by
 nomatch T.words_of,["row"]
 let⟨t,rfl,hl,kk⟩:=h;let sl:=yr;let ple:=PyProof.Rows.split_le t " ";refine{_,(ai (aj (nG (ts:=["word"]) (ys:=[]) (js:=[]) (g:=(bj 0)) (tc:=(c7 (cI Q1 (aB 0) (tC (.str ""))))) (te:=(aB 0)) (b7 (cK yw yA yz gX (pv 0) (af aG ag))) (lF 0) (Bb (ptr iG (pv 0) aG)) (pv 0)))),?_};ac_rfl;exists by ext,?_
 unfold words at kk;generalize Txt.split t " "= ws at kk ple;intros p1 H1 s1 h1;refine{p1,rfl,{_,aE.of h1},?_};refine om ⇑ws (λi=>((ws.take i).filter λw=>decide (w≠("": Str))).map V.str) (λi σ H'=>H'=H1/\∃v,σ=[v]) ?_ () rfl {(rfl),none,rfl} ?_ ?_ ?_ ?_
 ·intro i hi
  rw[za];exact zH (yX _ _) (by rw[zL];ext)
 ·rintro i σ H' hi ⟨rfl,_⟩
  exact GL (aE.of h1) (by rw[za];exact hi)
 ·rintro σ H' ⟨rfl,_⟩
  exact{_,aE.of h1,by rw[za];exact zh _}
 ·rintro i x σ H' H2 hi ⟨rfl,v,rfl⟩ ⟨rfl,hy⟩
  let hx:=hy _ (aE.of h1);rw[zF,zb hi] at hx;cases hx;left
  by_cases e:ws[i] =""
  ·refine bp (by rw[e];rfl) ?_
   refine IB.skip hi ?_ {rfl,_,rfl};show List.map V.str (List.filter _ (List.take (i+1) ws))=List.map V.str (List.filter _ (List.take i ws));rw[xa,zb hi,e,yN];simp
  ·refine bo (by rw[zc λz=>e (V.str.inj z)];rfl) ?_
   left;refine IB.push hi ?_ {rfl,_,rfl};show List.map V.str (List.filter _ (List.take (i+1) ws))=List.map V.str (List.filter _ (List.take i ws))++[V.str ws[i]];rw[xa,zb hi,yN,zg];have:List.filter (λw=>decide (w≠("": Str))) (Option.toList (some ws[i]))=[ws[i]]:=by simp[e]
   rw[this];rfl
 ·rintro σ H' ⟨rfl,_⟩
  rw[zI];exact laid λp H' sm h=>kk p H' (s1.trans sm) h
def bI:cQ P w base 2 T.bY iU:=by
 nomatch T.bY,["word"]
 let⟨t,rfl,hl,kk⟩:=h;refine{_,(ai (aj (b4 (gj T) hr T.cx (af (pv 0) (af (aU (v:=.int (3)) (by rfl) T.jw {_,rfl}) ag))))),?_};ac_rfl;change{_,_,rfl,hl,kk}
def cU:cQ P w base 1 T.dJ jA:=by
 nomatch T.dJ,["word"]
 let⟨t,rfl,hl,kk⟩:=h;let sl:=yr;let hz:⇑t<=sizeLine:=()
 let el:⇑t.cps.toList=⇑t:=yG;unfold bX at kk;refine{_,(aa (az (PW.pt (cy (ptr eZ (dP fj T.bz (af (pv 0) ag)) ah) (bS (ptr eG (dP fj T.bz (af (pv 0) ag)) (aU (v:=.int (12)) (by rfl) T.ua {_,rfl})))))
  (ai (aj aH))
  ak)
  (aa (az (cp (bt (dP (ju rfl) T.Dy (af (nG (ts:=["sign"]) (ys:=[]) (js:=[]) (te:=(cI (λx y H Q=>∃i j,x=.str i/\y=.str j/\Q (.bl (!(Builtin.Str.occurrences j i 0 ⇑j 1).isEmpty)) H) (aB 0) (tC (.str "abcdefghijklmnopqrstuvwxyz0123456789")))) (JD (pv 0)) (lF 0) bq (bH wQ (pv 0) (aU (v:=.str "abcdefghijklmnopqrstuvwxyz0123456789") (by rfl) T.BZ {_,rfl}) (by with_unfolding_all rfl))) ag))))
  (ai (aj aH))
  ak)
  (ai (aj (pv 0))))),?_}
 ac_rfl;exists hz,?_;left;refine qI (λc1=>?_) (λc1=>?_)
 ·left
  let z:=kk H (ao.refl H);rw[yE (zV c1)] at z;exact z
 let c1':¬(⇑t:Int)<1:=λz=>c1 (zd z);rw[yD c1'] at kk;exists hz,?_;left;refine qI (λc2=>?_) (λc2=>?_)
 ·left
  let z:=kk H (ao.refl H);rw[yE (zV c2)] at z;exact z
 let c2':¬(12:Int)<(⇑t:Int):=λz=>c2 (zd z);rw[yD c2'] at kk;left;refine om ⇑t (λi=>(t.cps.toList.take i).map λc=>V.bl (decide (c∈sgn))) (λi σ H'=>H'=H/\∃v,σ=[v]) (λi hi=>by rw[za,zL];ext) () rfl {(rfl),none,rfl} (λi σ H' hi _=>hi) (λσ H' _=>zh _) ?_ ?_
 ·rintro i x σ H1 H2 hi ⟨rfl,v,rfl⟩ ⟨rfl,c,hc,rfl⟩
  left;refine IB.push hi ?_ {rfl,_,rfl};rw[PySem.StrLaws.found_one];rw[<-yY] at hc;show List.map _ (List.take (i+1) t.cps.toList)=_;rw[xa,hc,zg];rfl
 ·rintro σ H1 ⟨rfl,_⟩
  rw[<-el,zI];intros D H2 s2 h2;refine{D,t.cps.toList.map (λc=>decide (c∈sgn)),rfl,aE.of (by rw[h2,zv];rfl),?_};let ea:(t.cps.toList.map (λc=>decide (c∈sgn))).all id=t.cps.toList.all (λc=>decide (c∈sgn)):=by rw[xK];rfl
  rw[ea]
  by_cases ha:t.cps.toList.all (λc=>decide (c∈sgn))=true
  ·rw[ha]
   rw[yE ha] at kk;change kk _ s2
  ·rw[yD ha] at kk
   rw[show t.cps.toList.all (λc=>decide (c∈sgn))=false from by simpa using ha];change kk _ s2
def kO:cQ P w base 3 T.iz rP:=by
 nomatch T.iz,["word","lowest","highest","number"]
 let⟨t,lo,hi,rfl,hl,kk⟩:=h;unfold j7 at kk;refine{_,(aa (bV 3 qN (b4 (bI T) hr T.bY (af (pv 0) ag)))
  (aa (az (PW.pt (cy (bb (bx (pv 3))) (cy (ptr eZ (pv 3) (pv 1)) (bS (ptr eG (pv 3) (pv 2))))))
  (ai (aj aH))
  ak)
  (ai (aj (pv 3))))),?_}
 ac_rfl;exists hl,λH1 s1=>?_;cases e:eE t with
 | none=>
  rw[e] at kk;change kk _ s1
 | some n=>
  rw[e] at kk;left
  by_cases c1:n<lo
  ·refine bo (zd c1) ?_
   simp only[yE c1] at kk;change kk _ s1
  ·refine bp (zc c1) ?_
   simp only[yD c1] at kk;left
   by_cases c2:hi<n
   ·refine bo (zd c2) ?_
    simp only[yE c2] at kk;change kk _ s1
   ·refine bp (zc c2) ?_
    simp only[yD c2] at kk;change kk _ s1
def Bg:cQ P w base 4 T.oX AG:=by
 nomatch T.oX,["word"]
 let⟨t,rfl,hl,kk⟩:=h;refine{_,(ai (LC (j9 T) (hr.mono ∅) rfl T.dA.g T.dA.F.kp T.dA.b (af (pv 0) ag) rfl rfl T.jS T.jF rfl rfl rfl (λe=>(ai (aj aH))))),?_};ac_rfl;left;refine{hl,λx e p H1 s1 h1=>?_,λe H1 s1=>{rfl,?_}}
 ·rw[e] at kk
  exact kk _ H1 s1 (.ref h1)
 ·rw[e] at kk
  change kk _ H1 s1 .aX
def Bf:cQ P w base 4 T.oW AF:=by
 nomatch T.oW,["fifths_word","steps_word","turn"]
 let⟨a,b,rfl,la,lb,kk⟩:=h;unfold sk at kk;refine{_,(aa (bV 2 qN (b4 (kM T) hr T.gS (af (pv 0) (af (pv 1) ag))))
  (aa (az (PW.pt (cy (bb (bx (pv 2))) (bS (ptr eG (dP Ec T.MM (af (cE (pv 2) ah) ag)) (aU (v:=.int (12)) (by rfl) T.uc {_,rfl})))))
  (ai (aj aH))
  ak)
  (ai (aj (pv 2))))),?_}
 ac_rfl;exists _,_,rfl,la,lb,λv H1 s1 h1=>?_;cases e:rp a b with
 | none=>
  rw[e] at kk h1;cases h1;change kk _ _ s1 .aX
 | some q=>
  rw[e] at kk h1;cases h1 with
  | ref h1=>
   left;refine qI (λc=>?_) (λc=>?_)
   ·simp only[yE (zV c)] at kk
    change kk _ _ s1 .aX
   ·simp only[yD (λz=>c (zd z))] at kk
    change kk _ _ s1 (.ref h1)
def Dl:cQ P w base 3 T.sv CD:=by
 nomatch T.sv,["word","key"]
 let⟨t,rfl,hl,kk⟩:=h;unfold CW at kk;refine{_,(aa (bV 1 qN (b4 (ka T) hr T.eF (af (pv 0) (af (aU (v:=.int (3)) (by rfl) T.jw {_,rfl}) ag))))
  (aa (az (PW.pt (cy (bb (bx (pv 1))) (bS (ptr eG (dP Ec T.MM (af (pv 1) ag)) (aU (v:=.int (7)) (by rfl) T.vA {_,rfl})))))
  (ai (aj aH))
  ak)
  (ai (aj (pv 1))))),?_}
 ac_rfl;exists _,_,rfl,hl,λH1 s1=>?_;cases e:rs 3 t with
 | none=>
  rw[e] at kk;change kk _ s1
 | some n=>
  rw[e] at kk;left;refine qI (λc=>?_) (λc=>?_)
  ·simp only[yE (zV c)] at kk
   change kk _ s1
  ·simp only[yD (λz=>c (zd z))] at kk
   change kk _ s1
def df:cQ P w base 1 T.cq (uI K):=by
 nomatch T.cq,["values"]
 let⟨a,us,rfl,ha,hl,kk⟩:=h;let sl:=yr;refine{_,(aa (az (bt (dP (jt rfl) T.Dx (af (nG (ts:=["value"]) (ys:=[]) (js:=[]) (te:=(uD (aB 0))) (b7 (pv 0)) (lF 0) bq (iV (bx (pv 0)))) ag)))
  (ai (aj aH))
  ak)
  (ai (aj (pv 0)))),?_}
 ac_rfl;exists{_,ha},?_;refine eK (enc:=λv=>v) (ws:=us) (λv=>.bl (fu v)) (λσ=>∃v,σ=[v]) () (by rw[List.map_id'];exact ha) {(none),rfl} ?_ ?_
 ·rintro v σ H1 R hv s1 ⟨_,rfl⟩ r
  change r _ _ _ (ao.refl _) (by unfold Is;rfl) {_,rfl}
 ·intro D vs H1 s1 hD il
  let e:us.map (λv=>Dt.bl (fu v))=(us.map fu).map Dt.bl:=by rw[zv];rfl
  rw[e] at il;rw[jO il] at hD;refine{D,us.map fu,rfl,aE.of hD,?_};let e2:(us.map fu).any id=us.any fu:=by rw[xZ];rfl
  rw[e2];cases q:us.any fu with
  | true=>
   rw[q] at kk;change kk _ s1
  | false=>
   rw[q] at kk;change kk _ s1
def d9:cQ P w base 1 T.cq uH:=by
 nomatch T.cq,["values"]
 let⟨a,us,rfl,ha,hl,kk⟩:=h;let sl:=yr;refine{_,(aa (az (bt (dP (jt rfl) T.Dx (af (nG (ts:=["value"]) (ys:=[]) (js:=[]) (te:=(uD (aB 0))) (eY (pv 0)) (lF 0) bq (iV (bx (pv 0)))) ag)))
  (ai (aj aH))
  ak)
  (ai (aj (pv 0)))),?_}
 ac_rfl;exists{_,bK.of ha},?_;refine cX (enc:=λv=>v) (ws:=us) (λv=>.bl (fu v)) (λσ=>∃v,σ=[v]) () (by rw[List.map_id'];exact ha) {(none),rfl} ?_ ?_
 ·rintro v σ H1 R hv s1 ⟨_,rfl⟩ r
  change r _ _ _ (ao.refl _) (by unfold Is;rfl) {_,rfl}
 ·intro D vs H1 s1 hD il
  let e:us.map (λv=>Dt.bl (fu v))=(us.map fu).map Dt.bl:=by rw[zv];rfl
  rw[e] at il;rw[jO il] at hD;refine{D,us.map fu,rfl,aE.of hD,?_};let e2:(us.map fu).any id=us.any fu:=by rw[xZ];rfl
  rw[e2];cases q:us.any fu with
  | true=>
   rw[q] at kk;change kk _ s1
  | false=>
   rw[q] at kk;change kk _ s1
theorem kX (n:Int):∀ns:List Int,ID (.int n) (ns.map V.int)=decide (n∈ns)
 | []=>rfl
 | m::ns=>by
  let ih:=kX n ns;unfold ID at ih ⊢;rw[zf,y8,ih];show((m == n)||decide (n∈ns))=decide (n∈m::ns)
  by_cases e:n=m
  ·subst e
   simp
  ·simp[e,Ne.symm (a:=m) (b:=n) (λz=>e z.symm)]
   try ext
def E9 {t a b:Str} (h:Txt.split t "/"= [a,b]):gR t=(match j7 a 1 32,eE b with | some m,some n=>if n∈vC then some (m,n) else none | _,_=>none):=by unfold gR;rw[h];try rfl
def Hw {t:Str} (h:(Txt.split t "/").length≠2):gR t=none:=by
 unfold gR;split
 ·rename_i e;rw[e] at h;exact absurd rfl h
 ·rfl
def Jo {t a b:Str} (h:Txt.split t ":"= [a,b]):sr t=(match eE a,lx ((Txt.split b ",").map eE) with | some n,some ps=>some (n,ps) | _,_=>none):=by unfold sr;rw[h];try rfl
def Ls {t:Str} (h:(Txt.split t ":").length≠2):sr t=none:=by
 unfold sr;split
 ·rename_i e;rw[e] at h;exact absurd rfl h
 ·rfl
def vc:cQ P w base 4 T.mz (uG K):=by
 nomatch T.mz,["word","parts","top","bottom"]
 let⟨t,rfl,hl,kk⟩:=h;let sl:=yr;let sh:∀z∈Txt.split t "/",⇑z<=600:=λz hz=>zH (xu hz) hl;refine{_,(aa (bV 1 qN (cK yw yA yz gX (pv 0) (af aG ag)))
  (aa (az (ptr iG (dP ay T.bz (af (pv 1) ag)) ah)
  (ai (aj aH))
  ak)
  (aa (bV 2 qN (b4 (kO T) hr T.iz (af (dM (pv 1) ah) (af ah (af (aU (v:=.int (32)) (by rfl) T.qO {_,rfl}) ag)))))
  (aa (bV 3 qN (b4 (bI T) hr T.bY (af (dM (pv 1) ah) ag)))
  (aa (az (PW.pt (cy (bb (bx (pv 2))) (bS (jG dQ (pv 3) (aU (v:=.ref T.c8) (by rfl) T.qM rfl) (by with_unfolding_all rfl)))))
  (ai (aj aH))
  ak)
  (ai (aj (bw (af (pv 2) (af (pv 3) ag)))))))))),?_}
 ac_rfl;exists by ext,?_
 generalize ew:Txt.split t "/"= ws at sh;intros p1 H1 s1 h1;exists p1,_,rfl,.inl (aE.of h1),?_;rw[za];left
 by_cases hw:⇑ws=2
 ·obtain⟨a,b,rfl⟩:∃a b,ws=[a,b]:=by
   match ws,hw with
   | [a,b],_=>exact{(a),b,rfl}
  refine bp rfl ?_;exists p1,_,0,_,rfl,rfl,aE.of h1,rfl,?_;refine{_,_,_,rfl,sh a (by simp),λH2 s2=>?_};exists p1,_,1,_,rfl,rfl,aE.of (s2 _ _ h1),rfl,?_;refine{_,rfl,sh b (by simp),λH3 s3=>?_};let s03:=(s1.trans s2).trans s3;rw[E9 ew] at kk;cases ea:j7 a 1 32 with
  | none=>
   rw[ea] at kk;change kk _ _ s03 .aX
  | some m=>
   rw[ea] at kk;left;cases eb:eE b with
   | none=>
    rw[eb] at kk;refine{T.c8,_,rfl,.inr (T.kh H3),rfl,rfl,?_};change kk _ _ s03 .aX
   | some n=>
    rw[eb] at kk;refine{T.c8,vC.map V.int,rfl,.inr (T.kh H3),rfl,rfl,?_};show∃k,V.bl (!ID (.int n) (vC.map V.int))=.bl k/\_;rw[kX]
    by_cases c:n∈vC
    ·rw[zd c]
     simp only[yE c] at kk;left;refine{eX,laid λp4 H4 s4 h4=>kk _ _ (s03.trans s4) (.ref h4)}
    ·rw[zc c]
     simp only[yD c] at kk;change kk _ _ s03 .aX
 ·refine bo (by rw[zc λz=>hw (by have:=V.int.inj z;ext)];rfl) ?_
  left;rw[Hw (by rw[ew];exact hw)] at kk;exact kk _ _ s1 .aX
def Dm:cQ P w base 4 T.sA pR:=by
 nomatch T.sA,["word","parts","bar","passes"]
 let⟨t,rfl,hl,kk⟩:=h;let sl:=yr;let sh:∀z∈Txt.split t ":",⇑z<=600:=λz hz=>zH (xu hz) hl;refine{_,(aa (bV 1 qN (cK yw yA yz gX (pv 0) (af aG ag)))
  (aa (az (ptr iG (dP ay T.bz (af (pv 1) ag)) ah)
  (ai (aj aH))
  ak)
  (aa (bV 2 qN (b4 (bI T) hr T.bY (af (dM (pv 1) ah) ag)))
  (aa (bV 3 qN (b4 (df T) hr T.cq (af (nG (ts:=["part"]) (ys:=[]) (js:=[]) (te:=(bD iU [] E0 (ax (aB 0) aQ))) (b7 (cK yw yA yz gX (dM (pv 1) ah) (af aG ag))) (lF 0) bq (b4 (bI T) hr T.bY (af (pv 0) ag))) ag)))
  (aa (az (PW.pt (cy (bb (bx (pv 2))) (bS (bb (bx (pv 3))))))
  (ai (aj aH))
  ak)
  (ai (aj (bw (af (pv 2) (af (Ex cm T.fb (af (pv 3) ag)) ag)))))))))),?_}
 ac_rfl;exists by ext,?_
 generalize ew:Txt.split t ":"= ws at sh;intros p1 H1 s1 h1;exists p1,_,rfl,.inl (aE.of h1),?_;rw[za];left
 by_cases hw:⇑ws=2
 ·obtain⟨a,b,rfl⟩:∃a b,ws=[a,b]:=by
   match ws,hw with
   | [a,b],_=>exact{(a),b,rfl}
  refine bp rfl ?_;exists p1,_,0,_,rfl,rfl,aE.of h1,rfl,?_;refine{_,rfl,sh a (by simp),λH2 s2=>?_};exists p1,_,1,_,rfl,rfl,aE.of (s2 _ _ h1),rfl,?_;left;let lb:=sh b (by simp);let bl:=PyProof.Rows.split_le b ",";let bsh:∀z∈Txt.split b ",",⇑z<=600:=λz hz=>zH (xu hz) lb;refine{(),?_};rw[Jo ew] at kk;generalize Txt.split b ","= bs at kk bl bsh;intros p3 H3 s3 h3;exists{_,aE.of h3},?_;refine eK (enc:=V.str) (ws:=bs) (λz=>dO .int (eE z)) (λσ=>∃v,σ=[v]) () (aE.of h3) {(none),rfl} ?_ ?_
  ·rintro z σ H4 R hz s4 ⟨_,rfl⟩ r
   change{bsh z hz,λH5 s5=>r _ _ _ s5 (qf _) {_,rfl}}
  ·intro D vs H4 s4 hD il
   let s04:=((s1.trans s2).trans s3).trans s4;refine{D,vs,rfl,aE.of hD,by rw[il.len,za];ext,λH5 s5=>?_};let e1:bs.map (λz=>dO Dt.int (eE z))=(bs.map eE).map (dO Dt.int):=by rw[zv];rfl
   rw[e1] at il;rw[iK il];cases q:((bs.map eE).map (dO Dt.int)).any Dt.fu with
   | true=>
    rw[gO Kj q] at kk;let kn:=kk .aX H5 (s04.trans s5) (by cases eE a <;> (unfold dO Is;rfl));cases ea:eE a with
    | none=>change kn
    | some n=>change kn
   | false=>
    let⟨xs,e2,e3,e4⟩:=gN q;rw[e2] at kk;rw[e3] at il;let ev:=fT il;subst ev;cases ea:eE a with
    | none=>
     rw[ea] at kk;change kk .aX H5 (s04.trans s5) (by unfold dO Is;rfl)
    | some n=>
     rw[ea] at kk;left;refine{D,_,rfl,.inl {aE.of (s5 _ _ hD),?_}};intros p6 H6 s6 h6;left;refine{eX,laid λp7 H7 s7 h7=>kk _ _ (((s04.trans s5).trans s6).trans s7) ?_};show Is H7 (.tup [.int n,.tup (xs.map .int)]) _;unfold Is;refine{p7,_,rfl,h7,?_};unfold au;refine{_,_,rfl,by unfold Is;rfl,?_};unfold au;refine{_,_,rfl,?_,by unfold au;rfl};unfold Is;exact{p6,_,rfl,s7 _ _ h6,jQ}
 ·refine bo (by rw[zc λz=>hw (by have:=V.int.inj z;ext)];rfl) ?_
  left;rw[Ls (by rw[ew];exact hw)] at kk;exact kk _ _ s1 (by unfold dO Is;rfl)
def JP {α:Type} {f:Str->Option α} {ws:List Str} (h:⇑ws≠1):one f ws=none:=by
 match ws,h with
 | [],_=>rfl
 | [_],h=>exact absurd rfl h
 | _::_::_,_=>rfl
def sT:cQ P w base 2 T.iC (eR K (ma .str (one bX))):=by
 nomatch T.iC,["words"]
 let⟨p,ws,rfl,hp,hl,sh,kk⟩:=h;refine{_,(aa (az (ptr iG (dP ay T.bz (af (pv 0) ag)) ah)
  (ai (aj aH))
  ak)
  (ai (aj (b4 (cU T) hr T.dJ (af (dM (pv 0) ah) ag))))),?_}
 ac_rfl;exists p,_,rfl,.inl hp,?_;rw[za];left
 by_cases hw:⇑ws=1
 ·obtain⟨a,rfl⟩:∃a,ws=[a]:=by
   match ws,hw with
   | [a],_=>exact{(a),rfl}
  refine bp rfl ?_;exists p,_,0,_,rfl,rfl,hp,rfl,?_;exact{_,rfl,sh a (by simp),λH1 s1=>kk _ _ s1 (wZ _)}
 ·refine bo (by rw[zc λz=>hw (by have:=V.int.inj z;ext)];rfl) ?_
  left;refine kk _ _ (ao.refl _) ?_;unfold ma;rw[JP hw];exact cW
def sR:cQ P w base 5 T.iA (eR K (ma dL (one lr))):=by
 nomatch T.iA,["words"]
 let⟨p,ws,rfl,hp,hl,sh,kk⟩:=h;refine{_,(aa (az (ptr iG (dP ay T.bz (af (pv 0) ag)) ah)
  (ai (aj aH))
  ak)
  (ai (aj (b4 (gd T) hr T.cJ (af (dM (pv 0) ah) ag))))),?_}
 ac_rfl;exists p,_,rfl,.inl hp,?_;rw[za];left
 by_cases hw:⇑ws=1
 ·obtain⟨a,rfl⟩:∃a,ws=[a]:=by
   match ws,hw with
   | [a],_=>exact{(a),rfl}
  refine bp rfl ?_;exists p,_,0,_,rfl,rfl,hp,rfl,?_;exact{_,rfl,sh a (by simp),λv H1 s1 h1=>kk _ _ s1 (tm h1)}
 ·refine bo (by rw[zc λz=>hw (by have:=V.int.inj z;ext)];rfl) ?_
  left;refine kk _ _ (ao.refl _) ?_;unfold ma;rw[JP hw];exact cW
def BW {α:Type} (d:α->Dt) (o:Option α):dO d o=(o.map d).getD .aX:=by cases o <;> rfl
def B7 {H:Hp} {ds:List Dt} {us:List V} {a:wM} {d:Option Dt} (ha:H a=some (.tup us)) (il:au H ds us) (h1:ds.any Dt.fu=true->d=none) (h2:ds.any Dt.fu=false->d=some (.tup ds)):Is H (d.getD .aX) (if us.any fu=true then .aX else .ref a):=by
 rw[iK il];cases q:ds.any Dt.fu with
 | true=>rw[h1 q];exact cW
 | false=>rw[h2 q];exact bZ ha il
def mD:cQ P w base 5 T.eB (eR K (ma mK kL)):=by
 nomatch T.eB,["words"]
 let⟨p,ws,rfl,hp,hl,sh,kk⟩:=h;refine{_,(aa (az (ptr iG (dP ay T.bz (af (pv 0) ag)) ah)
  (ai (aj aH))
  ak)
  (ai (aj (b4 (d9 T) hr T.cq (af (bw (af (b4 (cU T) hr T.dJ (af (dM (pv 0) ah) ag)) (af (b4 (Bf T) hr T.oW (af (dM (pv 0) ah) (af (dM (pv 0) ah) ag))) (af (b4 (Bg T) hr T.oX (af (dM (pv 0) ah) ag)) ag)))) ag))))),?_}
 ac_rfl;exists p,_,rfl,.inl hp,?_;rw[za];left
 by_cases hw:⇑ws=4
 ·obtain⟨a,b,c,d,rfl⟩:∃a b c d,ws=[a,b,c,d]:=by
   match ws,hw with
   | [a,b,c,d],_=>exact{(a),b,c,d,rfl}
  refine bp rfl ?_;exists p,_,0,_,rfl,rfl,hp,rfl,?_;refine{_,rfl,sh a (by simp),λH1 s1=>?_};exists p,_,1,_,rfl,rfl,s1.seq hp,rfl,?_;exists p,_,2,_,rfl,rfl,s1.seq hp,rfl,?_;refine{_,_,rfl,sh b (by simp),sh c (by simp),λv2 H2 s2 h2=>?_};exists p,_,3,_,rfl,rfl,(s1.trans s2).seq hp,rfl,?_;refine{_,rfl,sh d (by simp),λv3 H3 s3 h3=>?_};exists rR,?_;intros p4 H4 s4 h4;let s24:=s3.trans s4;refine{p4,_,rfl,h4,(by show 3<=1000000;decide),λH5 s5=>kk _ _ (((s1.trans s2).trans s24).trans s5) ?_};unfold ma;rw[BW];refine B7 (s5 _ _ h4) (aN (wZ _) (aN (tm (h2.mono (s24.trans s5))) (d4 (tm (h3.mono (s4.trans s5)))))) ?_ ?_
  ·unfold kL
   dsimp only;cases bX a <;> cases sk b c <;> cases KY d <;> first | (intro _;rfl) | (intro q;exact absurd q (by simp[dO,dL,Dt.fu]))
  ·unfold kL
   dsimp only;cases bX a <;> cases sk b c <;> cases KY d <;> first | (intro _;rfl) | (intro q;exact absurd q (by simp[dO,dL,Dt.fu]))
 ·refine bo (by rw[zc λz=>hw (by have:=V.int.inj z;ext)];rfl) ?_
  left;refine kk _ _ (ao.refl _) ?_;let e:kL ws=none:=by
   rcases ws with _ | ⟨_,_ | ⟨_,_ | ⟨_,_ | ⟨_,_ | ⟨_,r⟩⟩⟩⟩⟩
   all_goals first | rfl | exact absurd rfl hw
  unfold ma;rw[e];exact cW
def Bi:cQ P w base 3 T.lD (eR K (ma qh pV)):=by
 nomatch T.lD,["words"]
 let⟨p,ws,rfl,hp,hl,sh,kk⟩:=h;refine{_,(aa (az (ptr iG (dP ay T.bz (af (pv 0) ag)) ah)
  (ai (aj aH))
  ak)
  (ai (aj (b4 (d9 T) hr T.cq (af (bw (af (b4 (cU T) hr T.dJ (af (dM (pv 0) ah) ag)) (af (b4 (bI T) hr T.bY (af (dM (pv 0) ah) ag)) (af (b4 (cU T) hr T.dJ (af (dM (pv 0) ah) ag)) ag)))) ag))))),?_}
 ac_rfl;exists p,_,rfl,.inl hp,?_;rw[za];left
 by_cases hw:⇑ws=3
 ·obtain⟨a,b,c,rfl⟩:∃a b c,ws=[a,b,c]:=by
   match ws,hw with
   | [a,b,c],_=>exact{(a),b,c,rfl}
  refine bp rfl ?_;exists p,_,0,_,rfl,rfl,hp,rfl,?_;refine{_,rfl,sh a (by simp),λH1 s1=>?_};exists p,_,1,_,rfl,rfl,s1.seq hp,rfl,?_;refine{_,rfl,sh b (by simp),λH2 s2=>?_};exists p,_,2,_,rfl,rfl,(s1.trans s2).seq hp,rfl,?_;refine{_,rfl,sh c (by simp),λH3 s3=>?_};exists rR,?_;intros p4 H4 s4 h4;refine{p4,_,rfl,h4,(by show 3<=1000000;decide),λH5 s5=>kk _ _ (((s1.trans s2).trans (s3.trans s4)).trans s5) ?_};unfold ma;rw[BW];refine B7 (s5 _ _ h4) (aN (wZ _) (aN (qf _) (d4 (wZ _)))) ?_ ?_
  ·unfold pV
   dsimp only;cases bX a <;> cases eE b <;> cases bX c <;> first | (intro _;rfl) | (intro q;exact absurd q (by simp[dO,dL,Dt.fu]))
  ·unfold pV
   dsimp only;cases bX a <;> cases eE b <;> cases bX c <;> first | (intro _;rfl) | (intro q;exact absurd q (by simp[dO,dL,Dt.fu]))
 ·refine bo (by rw[zc λz=>hw (by have:=V.int.inj z;ext)];rfl) ?_
  left;refine kk _ _ (ao.refl _) ?_;let e:pV ws=none:=by
   rcases ws with _ | ⟨_,_ | ⟨_,_ | ⟨_,_ | ⟨_,r⟩⟩⟩⟩
   all_goals first | rfl | exact absurd rfl hw
  unfold ma;rw[e];exact cW
def kP {H:Hp} {ws:List Str} {vs:List V} {α:Type} {d:α->Dt} {f:Str->Option α} (il:au H (ws.map λz=>dO d (f z)) vs):au H ((ws.map f).map (dO d)) vs:=by
 let e:ws.map (λz=>dO d (f z))=(ws.map f).map (dO d):=by rw[zv];rfl
 rw[<-e];exact il
def va:cQ P w base 2 T.jB (eR K (ma lj oZ)):=by
 nomatch T.jB,["words","names"]
 let⟨p,ws,rfl,hp,hl,sh,kk⟩:=h;let sl:=yr;refine{_,(aa (az (ptr eZ (dP ay T.bz (af (pv 0) ag)) ah)
  (ai (aj aH))
  ak)
  (aa (bV 1 qN (b4 (df T) hr T.cq (af (nG (ts:=["word"]) (ys:=[]) (js:=[]) (te:=(bD jA [] E0 (ax (aB 0) aQ))) (b7 (pv 0)) (lF 0) bq (b4 (cU T) hr T.dJ (af (pv 0) ag))) ag)))
  (aa (az (bb (bx (pv 1)))
  (ai (aj aH))
  ak)
  (ai (aj (bw (af (dM (pv 1) ah) (af (Ex cm T.fb (af (cA eW (pv 1) (di ah) dj) ag)) ag)))))))),?_}
 ac_rfl;exists p,_,rfl,.inl hp,?_;rw[za];left;refine qI (λc=>?_) (λc=>?_)
 ·left
  refine kk _ _ (ao.refl _) ?_;let hw:=zV c;let e:oZ ws=none:=by
   rcases ws with _ | ⟨_,_ | ⟨_,r⟩⟩
   all_goals first | rfl | (simp at hw;ext)
  unfold ma;rw[e];exact cW
 ·let hw:¬(⇑ws:Int)<2:=λz=>c (zd z)
  obtain⟨a,b,r,rfl⟩:∃a b r,ws=a::b::r:=by
   match ws,hw with
   | [],h=>exact absurd (by simp) h
   | [_],h=>exact absurd (by simp) h
   | a::b::r,_=>exact{(a),b,r,rfl}
  exists{_,hp},?_;refine eK (enc:=V.str) (ws:=a::b::r) (λz=>dO .str (bX z)) (λσ=>∃v,σ=[v]) () hp {(none),rfl} ?_ ?_
  ·rintro z σ H4 R hz s4 ⟨_,rfl⟩ r
   change{sh z hz,λH5 s5=>r _ _ _ s5 (wZ _) {_,rfl}}
  ·intro D vs H4 s4 hD il
   refine{D,vs,rfl,aE.of hD,by rw[il.len,za];ext,λH5 s5=>?_};let il:=kP il;rw[iK il];cases q:(((a::b::r).map bX).map (dO Dt.str)).any Dt.fu with
   | true=>
    left;refine kk _ _ (s4.trans s5) ?_;unfold ma;rw[mC,gO DL q];exact cW
   | false=>
    let⟨xs,e2,e3,e4⟩:=gN q;rw[e3] at il;let ev:=gA il;subst ev;obtain⟨n,ps,rfl⟩:∃n ps,xs=n::ps:=by
     match xs,e4 with
     | n::ps,_=>exact{(n),ps,rfl}
    let hD5:=s5 _ _ hD;exists D,_,0,_,rfl,rfl,aE.of hD5,bC (j:=0) rfl,?_;exists D,_,rfl,aE.of hD5,?_;rw[show gf (List.map V.str (n::ps)) (some 1) none=ps.map V.str from(gM _ 1).trans rfl];intros p6 H6 s6 h6;left;refine{p6,_,rfl,.inl {aE.of h6,?_}};intros p7 H7 s7 h7;left;refine{eX,laid λp8 H8 s8 h8=>kk _ _ (((((s4.trans s5).trans s6).trans s7)).trans s8) ?_};unfold ma;rw[mC,e2];exact bZ h8 (aN jP (d4 (bZ (s8 _ _ h7) Az)))
def Dn:cQ P w base 5 T.nu (eR K (ma tS A7)):=by
 nomatch T.nu,["words","marks"]
 let⟨p,ws,rfl,hp,hl,sh,kk⟩:=h;let sl:=yr;refine{_,(aa (az (ptr eZ (dP ay T.bz (af (pv 0) ag)) ah)
  (ai (aj aH))
  ak)
  (aa (bV 1 qN (b4 (df T) hr T.cq (af (nG (ts:=["word"]) (ys:=[]) (js:=[]) (te:=(bD jA [] E0 (ax (aB 0) aQ))) (b7 (cA eW (pv 0) (di ah) dj)) (lF 0) bq (b4 (cU T) hr T.dJ (af (pv 0) ag))) ag)))
  (aa (az (bb (bx (pv 1)))
  (ai (aj aH))
  ak)
  (ai (aj (b4 (d9 T) hr T.cq (af (bw (af (b4 (vc T) hr T.mz (af (dM (pv 0) ah) ag)) (af (b4 (Dl T) hr T.sv (af (dM (pv 0) ah) ag)) (af (Ex cm T.fb (af (pv 1) ag)) ag)))) ag))))))),?_}
 ac_rfl;exists p,_,rfl,.inl hp,?_;rw[za];left;refine qI (λc=>?_) (λc=>?_)
 ·left
  refine kk _ _ (ao.refl _) ?_;let hw:=zV c;let e:A7 ws=none:=by
   rcases ws with _ | ⟨_,_ | ⟨_,r⟩⟩
   all_goals first | rfl | (simp at hw;ext)
  unfold ma;rw[e];exact cW
 ·let hw:¬(⇑ws:Int)<2:=λz=>c (zd z)
  obtain⟨a,b,r,rfl⟩:∃a b r,ws=a::b::r:=by
   match ws,hw with
   | [],h=>exact absurd (by simp) h
   | [_],h=>exact absurd (by simp) h
   | a::b::r,_=>exact{(a),b,r,rfl}
  rw[zo,zo] at hl;exists p,_,rfl,hp,?_;rw[show gf (List.map V.str (a::b::r)) (some 2) none=r.map V.str from(gM _ 2).trans rfl];intros p1 H1 s1 h1;exists{_,aE.of h1},?_;refine eK (enc:=V.str) (ws:=r) (λz=>dO .str (bX z)) (λσ=>∃v,σ=[v]) () (aE.of h1) {(none),rfl} ?_ ?_
  ·rintro z σ H4 R hz s4 ⟨_,rfl⟩ r
   change{sh z (by simp[hz]),λH5 s5=>r _ _ _ s5 (wZ _) {_,rfl}}
  ·intro D vs H4 s4 hD il
   refine{D,vs,rfl,aE.of hD,by rw[il.len,za];ext,λH5 s5=>?_};let il:=kP il;rw[iK il];let s05:=(s1.trans s4).trans s5;cases q:((r.map bX).map (dO Dt.str)).any Dt.fu with
   | true=>
    left;refine kk _ _ s05 ?_;unfold ma;unfold A7;dsimp only;rw[gO DL q];exact cW
   | false=>
    let⟨xs,e2,e3,e4⟩:=gN q;rw[e3] at il;let ev:=gA il;subst ev;let hD5:=s5 _ _ hD;exists p,_,0,_,rfl,rfl,s05.seq hp,bC (j:=0) rfl,?_;refine{_,rfl,sh a (by simp),λv6 H6 s6 h6=>?_};exists p,_,1,_,rfl,rfl,(s05.trans s6).seq hp,bC (j:=1) rfl,?_;refine{_,rfl,sh b (by simp),λH7 s7=>?_};left;refine{D,_,rfl,.inl {aE.of (s7 _ _ (s6 _ _ hD5)),?_}};intros p8 H8 s8 h8;exists rR,?_;intros p9 H9 s9 h9;refine{p9,_,rfl,h9,(by show 3<=1000000;decide),λHx sx=>kk _ _ (((((s05.trans s6).trans s7).trans s8).trans s9).trans sx) ?_};unfold ma;rw[BW];refine B7 (ds:=[dO dL (gR a),dO .int (CW b),l8 xs]) (sx _ _ h9) (aN (tm (h6.mono (((s7.trans s8).trans s9).trans sx))) (aN (qf _) (d4 (bZ (sx _ _ (s9 _ _ h8)) Az)))) ?_ ?_
    ·unfold A7
     dsimp only;rw[e2];cases gR a <;> cases CW b <;> first | (intro _;rfl) | (intro q;exact absurd q (by simp[dO,dL,Dt.fu,l8]))
    ·unfold A7
     dsimp only;rw[e2];cases gR a <;> cases CW b <;> first | (intro _;rfl) | (intro q;exact absurd q (by simp[dO,dL,Dt.fu,l8]))
theorem jN {H:Hp} {α:Type} {d:α->Dt}:∀{xs:List α} {vs:List V},au H (xs.map d) vs->∃ps:List (α×V),ps.map (·.1)=xs/\ps.map (·.2)=vs/\∀q∈ps,Is H (d q.1) q.2
 | [],_,h=>by unfold au at h;exact{[],rfl,h.symm,λ_ z=>nomatch z}
 | x::xs,_,h=>by
  rw[zf] at h;unfold au at h;let⟨u,r,rfl,h1,h2⟩:=h;let⟨ps,e1,e2,hh⟩:=jN h2;refine{(x,u)::ps,by simp[e1],by simp[e2],λq m=>?_};rcases zy.mp m with e | m
  ·subst e;exact h1
  ·exact hh q m
def item_at {H:Hp} {it:Item} {v:V} (h:Is H (hU it) v):∃a pv lv,v=.ref a/\H a=some (.tup [pv,lv])/\Is H (dO dL it.1) pv/\Is H (dL it.2) lv:=by
 unfold hU Is at h;let⟨a,vs,rfl,ha,hl⟩:=h;unfold au at hl;let⟨pv,r,rfl,h1,hl⟩:=hl;unfold au at hl;let⟨lv,r,rfl,h2,hl⟩:=hl;unfold au at hl;subst hl;exact{(a),pv,lv,rfl,ha,h1,h2}
def Pz {H:Hp} {α:Type} {d:α->Dt} (f:Gf d) {o:Option α} {v:V} (h:Is H (dO d o) v):fu v=o.isNone:=by
 rw[J5 h];cases o with
 | none=>rfl
 | some x=>exact f x
def vb:cQ P w base 6 T.jC (eR K P2):=by
 nomatch T.jC,["words","items"]
 let⟨p,ws,rfl,hp,hl,sh,kk⟩:=h;let sl:=yr;refine{_,(aa (az (ptr eZ (dP ay T.bz (af (pv 0) ag)) ah)
  (ai (aj aH))
  ak)
  (aa (bV 1 qN (b4 (df T) hr T.cq (af (nG (ts:=["word"]) (ys:=[]) (js:=[]) (te:=(bD lW [] E0 (ax (aB 0) aQ))) (b7 (cA eW (pv 0) (di ah) dj)) (lF 0) bq (b4 (uZ T) hr T.oY (af (pv 0) ag))) ag)))
  (aa (az (PW.pt (cy (bb (bx (pv 1))) (bS (bt (dP (ju rfl) T.Dy (af (nG (ts:=["item"]) (ys:=[]) (js:=[]) (te:=(uD (cI (kK K) (aB 0) (tC (.int (0)))))) (b7 (pv 1)) (lF 0) bq (iV (bx (cE (pv 0) ah)))) ag))))))
  (ai (aj aH))
  ak)
  (ai (aj (b4 (d9 T) hr T.cq (af (bw (af (b4 (bI T) hr T.bY (af (dM (pv 0) ah) ag)) (af (b4 (cU T) hr T.dJ (af (dM (pv 0) ah) ag)) (af (pv 1) ag)))) ag))))))),?_}
 ac_rfl;exists p,_,rfl,.inl hp,?_;rw[za];left;refine qI (λc=>?_) (λc=>?_)
 ·left
  refine kk _ _ (ao.refl _) ?_;let hw:=zV c;let e:jE ws=none:=by
   rcases ws with _ | ⟨_,_ | ⟨_,_ | ⟨_,r⟩⟩⟩
   all_goals first | rfl | (simp at hw;ext)
  unfold P2;rw[e]
 ·let hw:¬(⇑ws:Int)<3:=λz=>c (zd z)
  obtain⟨a,b,i,r,rfl⟩:∃a b i r,ws=a::b::i::r:=by
   match ws,hw with
   | [],h=>exact absurd (by simp) h
   | [_],h=>exact absurd (by simp) h
   | [_,_],h=>exact absurd (by simp) h
   | a::b::i::r,_=>exact{(a),b,i,r,rfl}
  let en:jE (a::b::i::r)=(match lx ((i::r).map ir) with | some l=>if l.all (λit=>it.1.isNone)=true then none else(match eE a,bX b with | some x,some y=>some (x,y,l) | _,_=>none) | none=>none):=rfl;unfold P2 at kk;rw[en] at kk;let sh':∀z∈i::r,⇑z<=600:=λz hz=>sh z (by simp at hz ⊢;rcases hz with h | h <;> simp[h]);let hl':⇑(i::r)<=1000000:=by simp at hl ⊢;ext
  exists p,_,rfl,hp,?_;rw[show gf (List.map V.str (a::b::i::r)) (some 2) none=(i::r).map V.str from(gM _ 2).trans rfl];clear en;generalize i::r=its at kk sh' hl';intros p1 H1 s1 h1;exists{_,aE.of h1},?_;refine mL (enc:=V.str) (ws:=its) (λz=>dO hU (ir z)) (λσ=>∃v,σ=[v]) () (aE.of h1) {(none),rfl} ?_ ?_
  ·rintro z σ H4 R hz s4 ⟨_,rfl⟩ r
   change{sh' z hz,λv H5 s5 h5=>r _ _ _ s5 (Py h5) {_,rfl}}
  ·intro D vs H4 s4 nD hD il
   refine{D,vs,rfl,aE.of hD,by rw[il.len,za];ext,λH5 s5=>?_};let il:=kP il;rw[iK il];let s05:=(s1.trans s4).trans s5;cases q:((its.map ir).map (dO hU)).any Dt.fu with
   | true=>
    left;refine kk _ _ s05 ?_;rw[gO HS q]
   | false=>
    let⟨xs,e2,e3,e4⟩:=gN q;rw[e3] at il;rw[e2] at kk;let il5:=il.mono s5;let hD5:=s5 _ _ hD;let⟨ps,f1,f2,f3⟩:=jN il5;let pl:⇑ps<=1000000:=by
     have:⇑ps=⇑xs:=by rw[<-f1,za]
     rw[this,e4,za];exact hl'
    exists{_,aE.of hD5},?_;refine eK (enc:=λq:Item×V=>q.2) (ws:=ps) (λq=>.bl q.1.1.isNone) (λσ=>∃v,σ=[v]) () (by rw[f2];exact aE.of hD5) {(none),rfl} ?_ ?_
    ·rintro z σ H6 R hz s6 ⟨_,rfl⟩ r
     let⟨a6,pv,lv,ev,h6,h7,h8⟩:=item_at (f3 z hz);rw[ev];let h66:=s6 _ _ h6;left;refine r _ _ _ (ao.refl _) ?_ {_,rfl};rw[<-Pz N5 h7];unfold Is;rfl
    ·intro D2 vs2 H6 s6 hD2 il2
     let e5:ps.map (λq=>Dt.bl q.1.1.isNone)=(ps.map λq=>q.1.1.isNone).map Dt.bl:=by rw[zv];rfl
     rw[e5] at il2;rw[jO il2] at hD2;refine{D2,_,rfl,aE.of hD2,?_};let e6:(ps.map λq=>q.1.1.isNone).all id=xs.all λit=>it.1.isNone:=by rw[<-f1,xK,xK];rfl
     rw[e6];cases qa:xs.all λit=>it.1.isNone with
     | true=>
      dsimp only at kk;rw[qa] at kk;change kk _ _ (s05.trans s6) rfl
     | false=>
      dsimp only at kk;rw[qa] at kk;let s06:=s05.trans s6;exists p,_,0,_,rfl,rfl,s06.seq hp,bC (j:=0) rfl,?_;refine{_,rfl,sh a (by simp),λH7 s7=>?_};exists p,_,1,_,rfl,rfl,(s06.trans s7).seq hp,bC (j:=1) rfl,?_;refine{_,rfl,sh b (by simp),λH8 s8=>?_};exists rR,?_;intros p9 H9 s9 h9;let s59:=((s6.trans s7).trans s8).trans s9;refine{p9,_,rfl,h9,(by show 3<=1000000;decide),λHx sx=>kk _ _ ((s05.trans s59).trans sx) ?_};let s5x:=s59.trans sx;let h9x:=sx _ _ h9;clear h9
      revert h9x
      cases eE a <;> cases bX b <;> intro h9x <;> first | rfl | exact⟨p9,D,vs,rfl,h9x,s5x _ _ hD5,il5.mono s5x,s1.back nD⟩
def sS:cQ P w base 5 T.iB (eR K (ma c9 jD)):=by
 nomatch T.iB,["words","times","ends"]
 let⟨p,ws,rfl,hp,hl,sh,kk⟩:=h;let sl:=yr;refine{_,(aa (az (ptr eZ (dP ay T.bz (af (pv 0) ag)) ah)
  (ai (aj aH))
  ak)
  (aa (bV 1 qN (b4 (kO T) hr T.iz (af (dM (pv 0) ah) (af (aU (v:=.int (2)) (by rfl) T.ud {_,rfl}) (af (aU (v:=.int (9)) (by rfl) T.B0 {_,rfl}) ag)))))
  (aa (bV 2 qN (b4 (df T) hr T.cq (af (nG (ts:=["word"]) (ys:=[]) (js:=[]) (te:=(bD pR [] E0 (ax (aB 0) aQ))) (b7 (cA eW (pv 0) (di ah) dj)) (lF 0) bq (b4 (Dm T) hr T.sA (af (pv 0) ag))) ag)))
  (aa (az (bb (bx (pv 2)))
  (ai (aj aH))
  ak)
  (ai (aj (b4 (d9 T) hr T.cq (af (bw (af (b4 (bI T) hr T.bY (af (dM (pv 0) ah) ag)) (af (b4 (bI T) hr T.bY (af (dM (pv 0) ah) ag)) (af (pv 1) (af (Ex cm T.fb (af (pv 2) ag)) ag))))) ag)))))))),?_}
 ac_rfl;exists p,_,rfl,.inl hp,?_;rw[za];left;refine qI (λc=>?_) (λc=>?_)
 ·left
  refine kk _ _ (ao.refl _) ?_;let hw:=zV c;let e:jD ws=none:=by
   rcases ws with _ | ⟨_,_ | ⟨_,_ | ⟨_,r⟩⟩⟩
   all_goals first | rfl | (simp at hw;ext)
  unfold ma;rw[e];exact cW
 ·let hw:¬(⇑ws:Int)<3:=λz=>c (zd z)
  obtain⟨a,b,c',r,rfl⟩:∃a b i r,ws=a::b::i::r:=by
   match ws,hw with
   | [],h=>exact absurd (by simp) h
   | [_],h=>exact absurd (by simp) h
   | [_,_],h=>exact absurd (by simp) h
   | a::b::i::r,_=>exact{(a),b,i,r,rfl}
  let en:jD (a::b::c'::r)=(match lx (r.map sr) with | some l=>(match eE a,eE b,j7 c' 2 9 with | some x,some y,some z=>some {(x),y,z,l} | _,_,_=>none) | none=>none):=rfl;unfold ma at kk;rw[en] at kk;let sh':∀z∈r,⇑z<=600:=λz hz=>sh z (by simp[hz]);let hl':⇑r<=1000000:=by simp at hl ⊢;ext
  exists p,_,2,_,rfl,rfl,hp,bC (j:=2) rfl,?_;refine{_,_,_,rfl,sh c' (by simp),λH0 s0=>?_};exists p,_,rfl,s0.seq hp,?_;rw[show gf (List.map V.str (a::b::c'::r)) (some 3) none=r.map V.str from(gM _ 3).trans rfl];intros p1 H1 s1 h1;exists{_,aE.of h1},?_;refine eK (enc:=V.str) (ws:=r) (λz=>dO fq (sr z)) (λσ=>∃v,σ=[v]) () (aE.of h1) {(none),rfl} ?_ ?_
  ·rintro z σ H4 R hz s4 ⟨_,rfl⟩ r
   change{sh' z hz,λv H5 s5 h5=>r _ _ _ s5 h5 {_,rfl}}
  ·intro D vs H4 s4 hD il
   refine{D,vs,rfl,aE.of hD,by rw[il.len,za];ext,λH5 s5=>?_};let il:=kP il;rw[iK il];let s05:=((s0.trans s1).trans s4).trans s5;cases q:((r.map sr).map (dO fq)).any Dt.fu with
   | true=>
    left;refine kk _ _ s05 ?_;rw[gO Kk q];exact cW
   | false=>
    let⟨xs,e2,e3,e4⟩:=gN q;rw[e3] at il;rw[e2] at kk;let il5:=il.mono s5;let hD5:=s5 _ _ hD;exists p,_,0,_,rfl,rfl,s05.seq hp,bC (j:=0) rfl,?_;refine{_,rfl,sh a (by simp),λH6 s6=>?_};exists p,_,1,_,rfl,rfl,(s05.trans s6).seq hp,bC (j:=1) rfl,?_;refine{_,rfl,sh b (by simp),λH7 s7=>?_};left;refine{D,_,rfl,.inl {aE.of (s7 _ _ (s6 _ _ hD5)),?_}};intros p8 H8 s8 h8;exists by show 4<=sizeLine;ext,?_
    intros p9 H9 s9 h9;let s59:=((s6.trans s7).trans s8).trans s9;refine{p9,_,rfl,h9,(by show 4<=1000000;decide),λHx sx=>kk _ _ ((s05.trans s59).trans sx) ?_};rw[BW];refine B7 (ds:=[dO .int (eE a),dO .int (eE b),dO .int (j7 c' 2 9),.tup (xs.map fq)]) (sx _ _ h9) (aN (qf _) (aN (qf _) (aN (qf _) (d4 (bZ (sx _ _ (s9 _ _ h8)) (il5.mono (s59.trans sx))))))) ?_ ?_
    ·cases eE a <;> cases eE b <;> cases j7 c' 2 9 <;> first | (intro _;rfl) | (intro q;exact absurd q (by simp[dO,dL,Dt.fu]))
    ·cases eE a <;> cases eE b <;> cases j7 c' 2 9 <;> first | (intro _;rfl) | (intro q;exact absurd q (by simp[dO,dL,Dt.fu]))
def Bh:cQ P w base 3 T.lC (eR K (ma dn sE)):=by
 nomatch T.lC,["words","stops","coda"]
 let⟨p,ws,rfl,hp,hl,sh,kk⟩:=h;let sl:=yr;refine{_,(aa (az (ptr iG (dP ay T.bz (af (pv 0) ag)) ah)
  (ai (aj aH))
  ak)
  (aa (bV 1 qN (b4 (df T) hr T.cq (af (nG (ts:=["word"]) (ys:=[]) (js:=[]) (te:=(bD iU [] E0 (ax (aB 0) aQ))) (b7 (cA eW (pv 0) dj (di ah))) (lF 0) bq (b4 (bI T) hr T.bY (af (pv 0) ag))) ag)))
  (aa (bV 2 qN (b4 (bI T) hr T.bY (af (dM (pv 0) ah) ag)))
  (aa (az (PW.pt (cy (bb (bx (pv 1))) (bS (PW.pt (dg (bb (bx (pv 2))) (cz (ptr iG (dM (pv 0) ah) aG)))))))
  (ai (aj aH))
  ak)
  (ai (aj (bw (af (dM (pv 1) ah) (af (dM (pv 1) ah) (af (dM (pv 1) ah) (af (pv 2) ag))))))))))),?_}
 ac_rfl;exists p,_,rfl,.inl hp,?_;rw[za];left
 by_cases hw:⇑ws=4
 ·obtain⟨a,b,c,d,rfl⟩:∃a b c d,ws=[a,b,c,d]:=by
   match ws,hw with
   | [a,b,c,d],_=>exact{(a),b,c,d,rfl}
  let en:sE [a,b,c,d]=(match eE a,eE b,eE c with | some x,some y,some z=>(match eE d with | some n=>some {x,y,z,some n} | none=>if d ="end" then some {(x),y,z,none} else none) | _,_,_=>none):=rfl;unfold ma at kk;rw[en] at kk;refine bp rfl ?_;exists p,_,rfl,hp,?_;rw[show gf (List.map V.str [a,b,c,d]) none (some 3)=[a,b,c].map V.str from(Mi _ 3).trans rfl];intros p1 H1 s1 h1;exists{_,aE.of h1},?_;refine eK (enc:=V.str) (ws:=[a,b,c]) (λz=>dO .int (eE z)) (λσ=>∃v,σ=[v]) (by show 3<=sizeLine;ext) (aE.of h1) {(none),rfl} ?_ ?_
  ·rintro z σ H4 R hz s4 ⟨_,rfl⟩ r
   change{sh z (by simp at hz ⊢;rcases hz with h | h | h <;> simp[h]),λH5 s5=>r _ _ _ s5 (qf _) {_,rfl}}
  ·intro D vs H4 s4 hD il
   refine{D,vs,rfl,aE.of hD,by rw[il.len];show 3<=1000000;decide,λH5 s5=>?_};let il:=kP il;rw[iK il];let s05:=(s1.trans s4).trans s5;cases q:(([a,b,c].map eE).map (dO Dt.int)).any Dt.fu with
   | true=>
    exists p,_,3,_,rfl,rfl,s05.seq hp,rfl,?_;refine{_,rfl,sh d (by simp),λH6 s6=>?_};left;refine kk _ _ (s05.trans s6) ?_;let q':([eE a,eE b,eE c].map (dO Dt.int)).any Dt.fu=true:=q;clear q en kk
    revert q'
    cases eE a <;> cases eE b <;> cases eE c <;> intro q' <;> first | exact cW | exact absurd q' (by simp[dO,Dt.fu])
   | false=>
    obtain⟨x,y,z,ea,eb,ec⟩:∃x y z,eE a=some x/\eE b=some y/\eE c=some z:=by
     let q':([eE a,eE b,eE c].map (dO Dt.int)).any Dt.fu=false:=q;clear q en kk il
     revert q'
     cases eE a <;> cases eE b <;> cases eE c <;> intro q' <;> first | exact⟨_,_,_,rfl,rfl,rfl⟩ | exact absurd q' (by simp[dO,Dt.fu])
    rw[ea,eb,ec] at kk;let il':au H4 ([x,y,z].map Dt.int) vs:=by
     have:([a,b,c].map eE).map (dO Dt.int)=[x,y,z].map Dt.int:=by simp[ea,eb,ec,dO]
     rw[this] at il;exact il
    let ev:=fT il';subst ev;let hD5:=s5 _ _ hD;exists p,_,3,_,rfl,rfl,s05.seq hp,rfl,?_;refine{_,rfl,sh d (by simp),λH6 s6=>?_};let hD6:=s6 _ _ hD5;let s06:=s05.trans s6;let fin:∀(o:Option Int) (v:V),Is H6 (dO .int o) v->eE d=o->(o=none->d ="end")->∀p7 H7,ao H6 H7->H7 p7=some (.tup [.int x,.int y,.int z,v])->Q (.ref p7) H7:=λo v iv eo hend p7 H7 s7 h7=>by
     refine kk _ _ (s06.trans s7) ?_;rw[eo];cases o with
     | none=>
      simp only[hend rfl,yE];exact bZ h7 (aN bJ (aN bJ (aN bJ (d4 (iv.mono s7)))))
     | some n=>exact bZ h7 (aN bJ (aN bJ (aN bJ (d4 (iv.mono s7)))))
    cases ed:eE d with
    | none=>
     exists p,_,3,_,rfl,rfl,s06.seq hp,rfl,?_;left
     by_cases he:d ="end"
     ·refine bp (by rw[he];rfl) ?_
      exists D,_,0,_,rfl,rfl,aE.of hD6,rfl,?_;exists D,_,1,_,rfl,rfl,aE.of hD6,rfl,?_;exists D,_,2,_,rfl,rfl,aE.of hD6,rfl,?_;left;refine{by show 4<=sizeLine;ext,laid ?_};exact fin none .aX cW ed λ_=>he
     ·refine bo (by rw[zc λz=>he (V.str.inj z)];rfl) ?_
      left;refine kk _ _ s06 ?_;rw[ed];simp only[yD he];exact cW
    | some n=>
     exists D,_,0,_,rfl,rfl,aE.of hD6,rfl,?_;exists D,_,1,_,rfl,rfl,aE.of hD6,rfl,?_;exists D,_,2,_,rfl,rfl,aE.of hD6,rfl,?_;left;refine{by show 4<=sizeLine;ext,laid ?_};exact fin (some n) (.int n) bJ ed λz=>nomatch z
 ·refine bo (by rw[zc λz=>hw (by have:=V.int.inj z;ext)];rfl) ?_
  left;refine kk _ _ (ao.refl _) ?_;let e:sE ws=none:=by
   rcases ws with _ | ⟨_,_ | ⟨_,_ | ⟨_,_ | ⟨_,_ | ⟨_,r⟩⟩⟩⟩⟩
   all_goals first | rfl | exact absurd rfl hw
  unfold ma;rw[e];exact cW
structure Dk (P:wI) (w:wJ) (K:yq) {mg:Str->Option wG} (T:Txt K mg):Prop where
 Gx:KD P w K T.gJ [("player",.ref T.fX),("instrument",.ref T.dq),("staff",.ref T.gE),("bar",.ref T.jW),("upbeat",.ref T.fV),("holds",.ref T.iP),("notes",.ref T.gF),("repeat",.ref T.fW),("jump",.ref T.iO)]
 N7:KD P w K T.nv [("player",.ref T.fo),("instrument",.ref T.cZ),("staff",.ref T.fU),("bar",.ref T.iQ),("upbeat",.ref T.fk),("holds",.ref T.gH),("notes",.ref T.fY),("repeat",.ref T.fm),("jump",.ref T.gG)]
inductive IF (K:yq) {mg:Str->Option wG} (T:Txt K mg):wM->Sp->Prop where
 | b6:IF K T T.fX (eR K (ma .str (one bX)))
 | dk:IF K T T.dq (eR K (ma mK kL))
 | cO:IF K T T.gE (eR K (ma lj oZ))
 | bar:IF K T T.jW (eR K (ma tS A7))
 | aR:IF K T T.fV (eR K (ma dL (one lr)))
 | holds:IF K T T.iP (eR K (ma qh pV))
 | aL:IF K T T.gF (eR K P2)
 | rep:IF K T T.fW (eR K (ma c9 jD))
 | bA:IF K T T.iO (eR K (ma dn sE))
noncomputable def sD {K:yq} {mg:Str->Option wG} (T:Txt K mg):List (Str×V):=[("player",V.ref T.fX),("instrument",.ref T.dq),("staff",.ref T.gE),("bar",.ref T.jW),("upbeat",.ref T.fV),("holds",.ref T.iP),("notes",.ref T.gF),("repeat",.ref T.fW),("jump",.ref T.iO)]
def Jr (K:yq) {mg:Str->Option wG} (T:Txt K mg) (x:Str):(oA (sD T) x=none/\∀ws,iD (x::ws)=none)\/∃f D,oA (sD T) x=some (.ref f)/\IF K T f (eR K D)/\∀H0 H v ws,D H0 H v ws->fM H0 H v (iD (x::ws)):=by
 by_cases e0:x ="player"
 ·subst e0
  refine .inr {_,_,rfl,.b6,λH0 H v ws h=>?_};exact kC (g:=Told.b6) h λx z=>by unfold Is at z;exact z
 by_cases e1:x ="instrument"
 ·subst e1
  refine .inr {_,_,rfl,.dk,λH0 H v ws h=>?_};exact kC (g:=λ(x:Str×(Int×Int)×(Int×Int))=>Told.dk x.1 x.2.1 x.2.2) h λx z=>(show Is H (mK x) v from z)
 by_cases e2:x ="staff"
 ·subst e2
  refine .inr {_,_,rfl,.cO,λH0 H v ws h=>?_};exact kC (g:=λ(x:Str×List Str)=>Told.cO x.1 x.2) h λx z=>(show Is H (lj x) v from z)
 by_cases e3:x ="bar"
 ·subst e3
  refine .inr {_,_,rfl,.bar,λH0 H v ws h=>?_};exact kC (g:=Told.bar) h λx z=>z
 by_cases e4:x ="upbeat"
 ·subst e4
  refine .inr {_,_,rfl,.aR,λH0 H v ws h=>?_};exact kC (g:=Told.aR) h λx z=>z
 by_cases e5:x ="holds"
 ·subst e5
  refine .inr {_,_,rfl,.holds,λH0 H v ws h=>?_};exact kC (g:=λ(x:Str×Int×Str)=>Told.holds x.1 x.2.1 x.2.2) h λx z=>(show Is H (qh x) v from z)
 by_cases e6:x ="notes"
 ·subst e6
  refine .inr {_,_,rfl,.aL,λH0 H v ws h=>?_};let e:iD ("notes":: ws)=(jE ws).map λx=>Told.aL x.1 x.2.1 x.2.2:=rfl;rw[e];unfold P2 at h;cases q:jE ws with
  | none=>rw[q] at h;exact h
  | some y=>rw[q] at h;exact h
 by_cases e7:x ="repeat"
 ·subst e7
  refine .inr {_,_,rfl,.rep,λH0 H v ws h=>?_};exact kC (g:=Told.rep) h λx z=>z
 by_cases e8:x ="jump"
 ·subst e8
  refine .inr {_,_,rfl,.bA,λH0 H v ws h=>?_};exact kC (g:=Told.bA) h λx z=>z
 refine .inl {?_,λws=>?_}
 ·let f0:∀(k:Str) (v:V) (r:List (Str×V)),x≠k->oA ((k,v)::r) x=oA r x:=λk v r h=>by
   unfold oA;rw[yI];rw[show decide ((k,v).1=x)=false from zc λz=>h z.symm]
  unfold sD;rw[f0 _ _ _ e0,f0 _ _ _ e1,f0 _ _ _ e2,f0 _ _ _ e3,f0 _ _ _ e4,f0 _ _ _ e5,f0 _ _ _ e6,f0 _ _ _ e7,f0 _ _ _ e8];rfl
 ·unfold iD
  dsimp only;rw[yD e0,yD e1,yD e2,yD e3,yD e4,yD e5,yD e6,yD e7,yD e8]
def oK {K:yq} {mg:Str->Option wG} (T:Txt K mg):Sp:=λvs H Q _=>∃x:Str,vs=[.str x]/\Q (.bl (oA (sD T) x).isSome) H
def o9 (B:Dk P w K T):cQ P w base 1 T.iZ (oK T):=by
 nomatch T.iZ,["word"]
 let⟨x,rfl,kk⟩:=h;refine{_,(ai (aj (iV (LI (pv 0) (aU (v:=.ref T.gJ) (by rfl) T.Ai rfl))))),?_};ac_rfl;exists T.gJ,sD T,x,rfl,B.Gx,rfl,?_;left;show Q (V.bl (false ^^ (oA (sD T) x).isSome)) H;rw[Bool.false_xor];exact kk
def pT:dr ["words","reader"] ["words"] (aD ml):=N4
def Dj (B:Dk P w K T):cQ P w base 7 T.su (CC K):=by
 refine T.su.F.Pn pT λcdv A' outer s H vs Q E hr h=>?_
 ·let⟨p,x,ws,rfl,hp,hl,sh,kk⟩:=h
  let sl:=yr;let hTbV:∀f sp,IF K T f sp->OE (gk uz P w K mg base ["words","reader"] "read_row" (aD ml) T.uh cdv A' outer s H E).Cp uz 6 f sp:=by
   intro f sp h;cases h with
   | b6=>exact{_,_,L2.bQ.mono (sT T) ∅,T.iC.F.kp,T.iC.b}
   | dk=>exact{_,_,L2.bQ.mono (mD T) ∅,T.eB.F.kp,T.eB.b}
   | cO=>exact{_,_,L2.bQ.mono (va T) ∅,T.jB.F.kp,T.jB.b}
   | bar=>exact{_,_,L2.bQ.mono (Dn T) ∅,T.nu.F.kp,T.nu.b}
   | aR=>exact{_,_,L2.bQ.mono (sR T) ∅,T.iA.F.kp,T.iA.b}
   | holds=>exact{_,_,L2.bQ.mono (Bi T) ∅,T.lD.F.kp,T.lD.b}
   | aL=>exact{_,_,L2.bQ.mono (vb T) ∅,T.jC.F.kp,T.jC.b}
   | rep=>exact{_,_,L2.bQ.mono (sS T) ∅,T.iB.F.kp,T.iB.b}
   | bA=>exact{_,_,L2.bQ.mono (Bh T) ∅,T.lC.F.kp,T.lC.b}
  refine{_,(aa (az (cp (bt (b4 (o9 T B) hr T.iZ (af (dM (pv 0) ah) ag))))
   (ai (aj aH))
   ak)
   (aa (bV 1 pT.nd (C9 (aU (v:=.ref T.gJ) (by rfl) T.Ai rfl) (dM (pv 0) ah) (λ_ _=>rfl)))
   (ai (aj (Dc (IF K T) hTbV (hr.mono ∅) (pv 1) sL (af (cA eW (pv 0) (di ah) dj) ag)))))),?_}
  ac_rfl;exists p,_,0,_,rfl,rfl,hp,bC (j:=0) rfl,?_;refine{x,rfl,?_};rcases Jr K T x with⟨ev,er⟩ | ⟨f,D,ev,htb,hd⟩
  ·rw[ev]
   left;refine kk _ _ (ao.refl _) ?_;rw[er];rfl
  ·rw[ev]
   exists p,_,0,_,rfl,rfl,hp,bC (j:=0) rfl,?_;refine{T.gJ,sD T,x,_,rfl,B.Gx,rfl,ev,?_};exists f,_,rfl,htb,?_;exists p,_,rfl,hp,?_;rw[show gf (List.map V.str (x::ws)) (some 1) none=ws.map V.str from(gM _ 1).trans rfl];intros p1 H1 s1 h1;refine{p1,ws,rfl,aE.of h1,(),λy hy=>sh y (by simp[hy]),λv H2 s2 h2=>kk _ _ (s1.trans s2) ((hd _ _ _ _ h2).back s1)}
def kb:cQ P w base 1 T.gs (qq K):=by
 nomatch T.gs,["repeats","bar","repeat"]
 let⟨p,rs,b,rfl,⟨vs,hp,il⟩,kk⟩:=h;unfold bP at kk;refine{_,(aa (dX yF rfl (b7 (pv 0)) (kA 2 qN)
  (ai (az (PW.pt (dg (ptr gc (cE (pv 2) ah) (pv 1)) (cz (ptr gc (pv 1) (cE (pv 2) ah)))))
   (ai (aj (pv 2)))
   ak)))
  (ai (aj aH))),?_}
 ac_rfl;exists{_,hp},?_;refine jk (K:=K) (a:=p) (xs:=vs) (λi σ H'=>H'=H/\(rs.take i).find? (λr=>decide (r.first<=b)&&decide (b<=r.last))=none/\∃v,σ=[some (.ref p),some (.int b),v]) {(rfl),rfl,none,rfl} (λi σ H' _ h=>by rw[h.1];exact hp) ?_ ?_
 ·intro i x σ H' hx hh
  refine fw λN kN0 kR0 _ _=>?_;let⟨rfl,hn,v,rfl⟩:=hh;let⟨r,hr',hi⟩:=dZ il hx;let⟨a,e,rfl,ha,he⟩:=cS hi;left
  by_cases c1:r.first<=b
  ·refine bo (zd c1) ?_
   left
   by_cases c2:b<=r.last
   ·refine bo (zd c2) ?_
    left;refine kk _ ?_;rw[GP hr' hn (by rw[zd c1,zd c2];rfl)];exact hi
   ·refine bp (zc c2) ?_
    change{Ac hr' hn (by rw[zc c2,x8]),_,rfl}
  ·refine bp (zc c1) ?_
   change{Ac hr' hn (by rw[zc c1,yJ]),_,rfl}
 ·rintro σ H' ⟨rfl,hn,v,rfl⟩
  rw[aM il,zI] at hn;left;refine kk _ ?_;rw[hn];exact cW
def Bj:cQ P w base 2 T.pf (AH K):=by
 nomatch T.pf,["repeats","bar","repeat"]
 let⟨p,rs,b,rfl,hp,kk⟩:=h;unfold fc at kk;refine{_,(aa (bV 2 qN (b4 (kb T) hr T.gs (af (pv 0) (af (pv 1) ag))))
  (ai (aj (C6 (iV (bx (pv 2))) (dB (bH cb (pv 1) (cE (pv 2) ah) (cL _))))))),?_}
 ac_rfl;exists p,rs,b,rfl,hp,λv iv=>?_;cases q:bP rs b with
 | none=>
  rw[q] at iv kk;unfold dO Is at iv;subst iv;change kk
 | some r=>
  rw[q] at iv kk;let⟨a,e,rfl,ha,he⟩:=cS iv;left;let e1:decide (V.int b=V.int r.last)=decide (b=r.last):=by simp
  show Q (.bl (decide (V.int b=V.int r.last))) H;rw[e1];exact kk
def nJ:cQ P w base 2 T.lI (AI K):=by
 nomatch T.lI,["repeats","bar","repeat"]
 let⟨p,rs,b,rfl,hp,kk⟩:=h;unfold cN at kk;refine{_,(aa (bV 2 qN (b4 (kb T) hr T.gs (af (pv 0) (af (pv 1) ag))))
  (ai (aj (C6 (iV (bx (pv 2))) (dB (bH cb (pv 1) (cE (pv 2) ah) (cL _))))))),?_}
 ac_rfl;exists p,rs,b,rfl,hp,λv iv=>?_;cases q:bP rs b with
 | none=>
  rw[q] at iv kk;unfold dO Is at iv;subst iv;change kk
 | some r=>
  rw[q] at iv kk;let⟨a,e,rfl,ha,he⟩:=cS iv;left;let e1:decide (V.int b=V.int r.first)=decide (b=r.first):=by simp
  show Q (.bl (decide (V.int b=V.int r.first))) H;rw[e1];exact kk
def Ks (us:List V) (h:us≠[]):¬(HT.de ⇑us 0 (some 1)=0/\HT.de ⇑us ⇑us none=⇑us):=by
 rintro⟨h1,_⟩;let hp:0<⇑us:=yg.mpr h;let e:HT.de ⇑us 0 (some ((1:Nat):Int))=min 1 ⇑us:=by unfold HT.de;simp
 let e':HT.de ⇑us 0 (some (1:Int))=min 1 ⇑us:=e;rw[e'] at h1;ext
def Hn {K:yq} {H:Hp} {e:wM} {us:List V} {Q:VK} (hu:H e=some (.tup us)) (k:∀q H1,ao H H1->H1 q=some (.tup (us.drop 1))->Q (.ref q) H1):MG K (.ref e) (some 1) none H Q:=by
 by_cases h:us=[]
 ·subst h
  exact .inr {e,[],rfl,bK.of hu,{(rfl),rfl},k e H (ao.refl H) hu}
 ·refine .inl {e,us,rfl,bK.of hu,Ks us h,?_}
  rw[show gf us (some 1) none=us.drop 1 from gM us 1];exact laid k
def Fj:cQ P w base 1 T.BF EO:=by
 nomatch T.BF,["repeat","ends","behind"]
 let⟨v,r,rfl,iv,hl,kk⟩:=h;let sl:=yr;let⟨a,e,rfl,ha,he⟩:=cS iv;unfold Is at he;let⟨e',us,ee,hu,ilu⟩:=he;cases ee;refine{_,(aa (bV 1 qN (cE (pv 0) ah))
  (aa (bV 2 qN (aC eC (nG (ts:=["end"]) (ys:=[]) (js:=[]) (te:=(cI (kK K) (aB 0) (tC (.int (0))))) (eY (cA Gv (pv 1) (di ah) dj)) (lF 0) bq (cE (pv 0) ah)) (aV (af (aC dh (cE (pv 0) ah) ah) ag))))
  (ai (aj (nG (ts:=["end","after"]) (ys:=[]) (js:=[]) (g:=(L4 K 2 (tq (bj 0) (tq (bj 1) L5)))) (te:=(Cy (ax (cI (kK K) (aB 0) (tC (.int (0)))) (ax (cI (mU λi j=>.int (i-j)) (aB 1) (tC (.int (1)))) (ax (cI (kK K) (aB 0) (tC (.int (1)))) aQ))))) (JC (by rfl) T.ML (af (pv 1) (af (pv 2) ag))) (fB (n:=2) rfl (aK (lF 0) (aK (lF 1) dN))) bq (bw (af (cE (pv 0) ah) (af (aC fE (pv 1) ah) (af (cE (pv 0) ah) ag))))))))),?_}
 ac_rfl;left;let main:∀(q:wM) (H1:Hp),ao H H1->H1 q=some (.tup (us.drop 1))->∀(R:VK),(∀D H2,ao H1 H2->H2 D=some (.lst ((r.ends.drop 1).map λx=>V.int x.1))->R (.ref D) H2)->
   du [none] (bj 0) uC (cI (kK K) (aB 0) (tC (.int 0))) R (MX K q) H1:=by
  intro q H1 s1 h1 R hR;let il1:au H ((r.ends.drop 1).map fq) (us.drop 1):=by
   cases re:r.ends with
   | nil=>
    rw[re] at ilu;unfold au at ilu;subst ilu;unfold au;rfl
   | cons x xs=>
    rw[re,zf] at ilu;unfold au at ilu;let⟨u,ur,rfl,_,h2⟩:=ilu;exact h2
  let⟨ps,f1,f2,f3⟩:=jN il1;let pl:⇑ps<=1000000:=by
   have:⇑ps=⇑(r.ends.drop 1):=by rw[<-f1,za]
   rw[this,xi];ext
  refine cX (enc:=λz:Sc.End×V=>z.2) (ws:=ps) (λz=>.int z.1.1) (λσ=>∃v,σ=[v]) () (by rw[f2];exact h1) {(none),rfl} ?_ ?_
  ·rintro z σ H6 R' hz s6 ⟨_,rfl⟩ r'
   let⟨a6,q6,ev,h6,h7⟩:=hJ (f3 z hz);rw[ev];let h66:=s6 _ _ (s1 _ _ h6);change r' _ _ _ (ao.refl _) bJ {_,rfl}
  ·intro D vs H6 s6 hD il
   let e5:ps.map (λz=>Dt.int z.1.1)=((r.ends.drop 1).map (·.1)).map Dt.int:=by rw[<-f1,zv,zv];rfl
   rw[e5] at il;rw[fT il,zv] at hD;exact hR D H6 s6 hD
 refine Hn hu λq H1 s1 h1=>{q,rfl,{_,bK.of h1},main q H1 s1 h1 _ λD H2 s2 h2=>?_}
 let ha2:=s2 _ _ (s1 _ _ ha);exists by show 1<=sizeLine;ext,?_
 intros p3 H3 s3 h3;refine{D,p3,_,_,rfl,rfl,aE.of (s3 _ _ h2),aE.of h3,by rw[za,xi];show _+1<=_;ext,?_};intros p4 H4 s4 h4;let s04:=(s1.trans s2).trans (s3.trans s4);let hu4:=s04 _ _ hu;let eb:(List.map (λx=>V.int x.1) (r.ends.drop 1)++[V.int (r.last+1)])=((r.ends.drop 1).map (·.1)++[r.last+1]).map V.int:=by rw[zg,zv];rfl
 rw[eb] at h4;left;let ilu4:=ilu.mono s04;let ul:=aM ilu;refine{true,false,e,p4,us,_,rfl,bK.of hu4,aE.of h4,?_};generalize hbs:(r.ends.drop 1).map (·.1)++[r.last+1]=bs at h4;let zl:⇑(r.ends.zip bs)=min ⇑r.ends ⇑bs:=xh;refine mM (ws:=r.ends.zip bs) (λz x H'=>∃p u,x=.ref p/\H' p=some (.tup [u,.int z.2])/\Is H' (fq z.1) u) (λz=>Ie (z.1.1,z.2-1,z.1.2)) (λσ=>∃u v,σ=[u,v]) () {(none),none,rfl} ?_ ?_ ?_ ?_ ?_
 ·intro i H5 hi s5
  let i1:i<⇑us:=()
  let i2:i<⇑(bs.map V.int):=by rw[za];ext
  exact{us,bs.map V.int,us[i],(bs.map V.int)[i],bK.of (s5 _ _ hu4),aE.of (s5 _ _ h4),zb i1,zb i2}
 ·intro H5 s5
  refine{us,bs.map V.int,bK.of (s5 _ _ hu4),aE.of (s5 _ _ h4),?_};rw[za];rcases Nat.le_total ⇑r.ends ⇑bs with h | h
  ·exact Or.inl ()
  ·right;ext
 ·rintro i x H5 H6 hi s5 ⟨p,u,v,hp,rfl,rfl,hu',hv'⟩
  let i1:i<⇑r.ends:=()
  let i2:i<⇑bs:=()
  let gu:=hu' us (bK.of (s5 _ _ hu4));let gv:=hv' (bs.map V.int) (aE.of (s5 _ _ h4));rw[zF,zb i2] at gv;cases gv;let⟨x0,hx0,ix0⟩:=dZ (ilu4.mono s5) gu;rw[zb i1] at hx0;cases hx0;refine{bW hp,p,u,rfl,?_,?_}
  ·rw[aA,List.getElem_zip]
  ·rw[List.getElem_zip];exact ix0.mono (bW hp)
 ·rintro z x σ H5 R hz s5 ⟨p,u,rfl,hp,iu⟩ ⟨_,_,rfl⟩ rr
  let⟨a6,q6,rfl,h6,h7⟩:=hJ iu;refine{p,_,rfl,bK.of hp,rfl,?_};refine{_,_,rfl,_,_,rfl,rfl,?_};left;refine{rR,laid λp7 H7 s7 h7'=>rr _ _ _ s7 ?_ {_,_,rfl}};exact bZ h7' (aN bJ (aN bJ (d4 (bZ (s7 _ _ h7) jQ))))
 ·intro D5 vs5 H5 s5 hD5 il5
  refine kk _ _ _ (s04.trans s5) hD5 ?_;let ee:(fH r).map Ie=(r.ends.zip bs).map λz=>Ie (z.1.1,z.2-1,z.1.2):=by
   unfold fH;rw[hbs,zv];rfl
  rw[ee];exact il5
def M9 {H:Hp} {e:Int×Int×List Int} {v:V} (h:Is H (Ie e) v):∃a q,v=.ref a/\H a=some (.tup [.int e.1,.int e.2.1,.ref q])/\H q=some (.tup (e.2.2.map V.int)):=by
 unfold Ie Is at h;let⟨a,vs,rfl,ha,hl⟩:=h;unfold au at hl;let⟨v1,r1,rfl,h1,hl⟩:=hl;unfold au at hl;let⟨v2,r2,rfl,h2,hl⟩:=hl;unfold au at hl;let⟨v3,r3,rfl,h3,hl⟩:=hl;unfold au at hl;subst hl;unfold Is at h1 h2;subst h1 h2;unfold GV Is at h3;let⟨q,us,rfl,hq,hle⟩:=h3;rw[fT hle] at hq;exact{(a),q,rfl,ha,hq}
noncomputable def tG (r:Rep) (b:Int) (e:Int×Int×List Int):Bool:=decide (e.1<=b)&&decide (b<=e.2.1)&&!decide (r.times∈e.2.2)
def HP (rs:List Rep) (b:Int):gZ rs b=rs.all λr=>(fH r).all λe=>!tG r b e:=rfl
theorem lM:∀ns:List Int,(ns.map V.int).all lg=true
 | []=>rfl
 | n::ns=>by rw[zf,wk,lM ns];rfl
def kg:cQ P w base 2 T.gB (qv K):=by
 nomatch T.gB,["repeats","bar","repeat","end"]
 let⟨p,rs,b,rfl,⟨vs,hp,il⟩,hl,kk⟩:=h;rw[HP] at kk;refine{_,(aa (dX yF rfl (b7 (pv 0)) (kA 2 qN)
  (ai (dX yF rfl (b7 (b4 (Fj T) hr T.BF (af (pv 2) ag))) (kA 3 qN)
   (ai (az (PW.pt (dg (ptr gc (cE (pv 3) ah) (pv 1)) (dg (ptr gc (pv 1) (cE (pv 3) ah)) (cz (jG dQ (cE (pv 2) ah) (cE (pv 3) ah) (by with_unfolding_all rfl))))))
    (ai (aj cP))
    ak)))))
  (ai (aj cP))),?_}
 ac_rfl;exists{_,hp},?_;refine jk (K:=K) (a:=p) (xs:=vs) (λi σ H'=>ao H H'/\(rs.take i).all (λr=>(fH r).all λe=>!tG r b e)=true/\∃v u,σ=[some (.ref p),some (.int b),v,u]) {ao.refl H,rfl,none,none,rfl} (λi σ H' _ h=>h.1.seq hp) ?_ ?_
 ·intro i x σ H' hx hh
  refine fw λN kN0 kR0 _ _=>?_;let⟨s1,hn,v,u,rfl⟩:=hh;let⟨r,hr',hi⟩:=dZ il hx;let hm:=zw hr';exists _,r,rfl,hi.mono s1,hl r hm,λD us H2 s2 hD ilD=>?_;refine{D,rfl,{_,aE.of hD},?_};let⟨a,e,rfl,ha,he⟩:=cS (hi.mono (s1.trans s2));refine jk (K:=K) (a:=D) (xs:=us) (λj σ H'=>H'=H2/\((fH r).take j).all (λe=>!tG r b e)=true/\∃u,σ=[some (.ref p),some (.int b),some (.ref a),u]) {rfl,rfl,_,rfl} (λj σ H' _ h=>by rw[h.1];exact aE.of hD) ?_ ?_
  ·intro j y σ H3 hy hh
   refine fw λN kN1 kR1 _ _=>?_;let⟨rfl,hnj,u',rfl⟩:=hh;let⟨t,ht,it⟩:=dZ ilD hy;let⟨a6,q6,rfl,h6,h7⟩:=M9 it;let good:tG r b t=false->((fH r).take (j+1)).all (λe=>!tG r b e)=true:=λz=>by
    rw[fN ht,List.all_append,hnj,yL];simp[z]
   left
   by_cases c1:t.1<=b
   ·refine bo (zd c1) ?_
    left
    by_cases c2:b<=t.2.1
    ·refine bo (zd c2) ?_
     exists q6,t.2.2.map V.int,rfl,.inr (bK.of h7),rfl,lM _,?_;show∃k,V.bl (!ID (.int r.times) (t.2.2.map V.int))=.bl k/\_;rw[kX]
     by_cases c3:r.times∈t.2.2
     ·rw[zd c3]
      change{good (by unfold tG;rw[zd c3];simp),_,rfl}
     ·rw[zc c3]
      left;let z:=kk H3 (s1.trans s2);let e0:(rs.all λr=>(fH r).all λe=>!tG r b e)=false:=by
       rw[List.all_eq_false];refine{r,hm,?_};have:((fH r).all λe=>!tG r b e)=false:=by
        rw[List.all_eq_false];exact{t,zw ht,by unfold tG;simp[c1,c2,c3]}
       rw[this];decide
      rw[e0] at z;exact z
    ·refine bp (zc c2) ?_
     change{good (by unfold tG;rw[zc c2];simp),_,rfl}
   ·refine bp (zc c1) ?_
    change{good (by unfold tG;rw[zc c1];simp),_,rfl}
  ·rintro σ H3 ⟨rfl,hnj,u',rfl⟩
   rw[aM ilD,zI] at hnj;left;refine{s1.trans s2,?_,_,_,rfl};rw[fN hr',List.all_append,hn,yL];simp[hnj]
 ·rintro σ H' ⟨s1,hn,v,u,rfl⟩
  rw[aM il,zI] at hn;left;let z:=kk H' s1;rw[hn] at z;exact z
inductive AK (K:yq) (vs:List V) (H:Hp) (Q:VK) (E:XK):Prop
 | mk (p:wM) (rs:List Rep) (a c:Int) (_:vs=[.ref p,.int a,.int c]) (_:vL K H p rs) (_:(∀r∈rs,⇑r.ends<=1000000)) (_:∀H',ao H H'->Q (.bl (decide (a<c)&&cN rs c&&gZ rs c)) H')
inductive AJ (K:yq) (vs:List V) (H:Hp) (Q:VK) (E:XK):Prop
 | mk (p:wM) (rs:List Rep) (v:V) (j:Jump) (_:vs=[.ref p,v]) (_:vL K H p rs) (_:(∀r∈rs,⇑r.ends<=1000000)) (_:Is H (dn j) v) (_:∀H',ao H H'->Q (.bl (jd rs j)) H')
def fe {H:Hp} {j:Jump} {v:V} (h:Is H (dn j) v):∃a,v=.ref a/\H a=some (.tup [.int j.ky,.int j.l6,.int j.aY,ov j.eM]):=by
 unfold dn Is at h;let⟨a,vs,rfl,ha,hl⟩:=h;unfold au at hl;let⟨v1,r1,rfl,h1,hl⟩:=hl;unfold au at hl;let⟨v2,r2,rfl,h2,hl⟩:=hl;unfold au at hl;let⟨v3,r3,rfl,h3,hl⟩:=hl;unfold au at hl;let⟨v4,r4,rfl,h4,hl⟩:=hl;unfold au at hl;subst hl;unfold Is at h1 h2 h3;subst h1 h2 h3;refine{a,rfl,?_};cases q:j.eM with
 | none=>rw[q] at h4;unfold dO Is at h4;subst h4;exact ha
 | some n=>rw[q] at h4;unfold dO Is at h4;subst h4;exact ha
def Bl:cQ P w base 3 T.pH (AK K):=by
 nomatch T.pH,["repeats","at","coda"]
 let⟨p,rs,a,c,rfl,hp,hl,kk⟩:=h;refine{_,(ai (aj (dY (bH eZ (pv 1) (pv 2) (cL _)) (dY (b4 (nJ T) hr T.lI (af (pv 0) (af (pv 2) ag))) (dB (b4 (kg T) hr T.gB (af (pv 0) (af (pv 2) ag)))))))),?_};ac_rfl;left
 by_cases c1:a<c
 ·rw[zd c1,yL] at kk
  refine bo (zd c1) ?_;exists p,rs,c,rfl,hp,?_;cases q:cN rs c with
  | true=>
   rw[q,yL] at kk;change{(p),rs,c,rfl,hp,hl,kk}
  | false=>
   rw[q,yJ] at kk;change kk _ (ao.refl _)
 ·rw[zc c1,yJ,yJ] at kk
  refine bp (zc c1) ?_;change kk _ (ao.refl _)
def Bk:cQ P w base 4 T.pz (AJ K):=by
 nomatch T.pz,["repeats","jump","at","to","until","coda"]
 let⟨p,rs,v,j,rfl,hp,hl,iv,kk⟩:=h;let⟨a,rfl,ha⟩:=fe iv;unfold jd at kk;refine{_,(aa (bV 2 qN (cE (pv 1) ah))
  (aa (bV 3 qN (cE (pv 1) ah))
  (aa (bV 4 qN (cE (pv 1) ah))
  (aa (bV 5 qN (cE (pv 1) ah))
  (aa (az (PW.pt (cy (ptr eZ (pv 4) (pv 3)) (bS (ptr eZ (pv 2) (pv 4)))))
  (ai (aj cP))
  ak)
  (aa (az (PW.pt (dg (bb (iF (pv 5))) (cz (cp (bt (b4 (Bl T) hr T.pH (af (pv 0) (af (pv 2) (af (pv 5) ag)))))))))
  (ai (aj cP))
  ak)
  (ai (aj (dY (b4 (Bj T) hr T.pf (af (pv 0) (af (pv 2) ag))) (dY (b4 (nJ T) hr T.lI (af (pv 0) (af (pv 3) ag))) (dB (b4 (kg T) hr T.gB (af (pv 0) (af (pv 4) ag)))))))))))))),?_}
 ac_rfl;left
 by_cases c1:j.aY<j.l6
 ·refine bo (zd c1) ?_
  simp only[yE c1] at kk;change kk _ (ao.refl _)
 ·refine bp (zc c1) ?_
  simp only[yD c1] at kk;left
  by_cases c2:j.ky<j.aY
  ·refine bo (zd c2) ?_
   simp only[yE c2] at kk;change kk _ (ao.refl _)
  ·refine bp (zc c2) ?_
   simp only[yD c2] at kk;left;cases q:j.eM with
   | none=>
    rw[q] at kk;exists p,rs,_,rfl,hp,?_;cases q1:fc rs j.ky with
    | false=>
     rw[q1] at kk;change kk _ (ao.refl _)
    | true=>
     rw[q1] at kk;exists p,rs,_,rfl,hp,?_;cases q2:cN rs j.l6 with
     | false=>
      rw[q2] at kk;change kk _ (ao.refl _)
     | true=>
      rw[q2] at kk;change{p,rs,_,rfl,hp,hl,kk}
   | some n=>
    rw[q] at kk;exists p,rs,_,_,rfl,hp,hl,λH1 s1=>?_;cases q0:(decide (j.ky<n)&&cN rs n&&gZ rs n) with
    | false=>
     simp only[q0] at kk;change kk _ s1
    | true=>
     simp only[q0,yL] at kk;exists p,rs,_,rfl,hp.mono s1,?_;cases q1:fc rs j.ky with
     | false=>
      rw[q1] at kk;change kk _ s1
     | true=>
      rw[q1] at kk;exists p,rs,_,rfl,hp.mono s1,?_;cases q2:cN rs j.l6 with
      | false=>
       rw[q2] at kk;change kk _ s1
      | true=>
       rw[q2] at kk;change{p,rs,_,rfl,hp.mono s1,hl,λH2 s2=>kk _ (s1.trans s2)}
def vW {l ns:List Int} (h1:ns.Perm l) (h2:ns.Pairwise (·<=·)):ns=sortI l:=by
 unfold sortI;refine List.Perm.eq_of_pairwise (le:=λa b:Int=>a<=b) (λa b _ _ x y=>Int.le_antisymm x y) h2 ?_ (h1.trans (List.mergeSort_perm _ _).symm);have:=List.pairwise_mergeSort (le:=λa b:Int=>decide (a<=b)) (λa b c x y=>by simp at x y ⊢;ext) (λa b=>by simp;ext) l;exact this.imp λh=>by simpa using h
noncomputable def Cv:List Sc.End->Nat
 | []=>0
 | e::r=>⇑e.2+Cv r
def Na {es:List Sc.End} {e:Sc.End} (h:e∈es):⇑e.2<=Cv es:=by
 induction es with
 | nil=>cases h
 | cons x r ih=>
  rcases zy.mp h with rfl | h
  ·unfold Cv;ext
  ·have:=ih h;unfold Cv;ext
def IU {a b:List Int}:(decide (a.map V.int=b.map V.int))=decide (a=b):=by
 by_cases h:a=b
 ·subst h;simp
 ·rw[zc h,zc]
  intro z;have:∀{a b:List Int},a.map V.int=b.map V.int->a=b:=by
   intro a
   induction a with
   | nil=>intro b z;cases b with | nil=>rfl | cons _ _=>cases z
   | cons x r ih=>intro b z;cases b with | nil=>cases z | cons y s=>simp at z;rw[z.1,ih (by simpa using z.2)]
  exact h (this z)
theorem nF:∀ns:List Int,(ns.map V.int).all MI=true
 | []=>rfl
 | n::ns=>by rw[zf,wk,nF ns];rfl
def DR {e:Sc.End} {r:List Sc.End} {a:Int} {ps:List Int} (h1:¬e.1<=a) (h2:e.2=sortI e.2):cF (e::r) a ps=cF r e.1 (ps++e.2):=by
 show(if e.1<=a then none else if e.2≠sortI e.2 then none else cF r e.1 (ps++e.2))=_;rw[yD h1,yD (λz=>z h2)]
def Ae {e:Sc.End} {r:List Sc.End} {a:Int} {ps:List Int} (h:e.1<=a\/e.2≠sortI e.2):cF (e::r) a ps=none:=by
 show(if e.1<=a then none else if e.2≠sortI e.2 then none else cF r e.1 (ps++e.2))=_;rcases h with h | h
 ·rw[yE h]
 ·rw[yE h];split <;> rfl
def BH {α:Type} {l:List α} {i:Nat} {x:α} (h:l[i]?=some x):l.drop i=x::l.drop (i+1):=by
 let⟨hi,rfl⟩:=zt.mp h;exact List.drop_eq_getElem_cons hi
inductive pS (vs:List V) (H:Hp) (Q:VK) (E:XK):Prop
 | mk (v:V) (r:Rep) (_:vs=[v]) (_:Is H (c9 r) v) (_:Cv r.ends<64) (_:-1000000<=r.times) (_:r.times<=1000000) (_:∀H',ao H H'->Q (.bl (dm r)) H')
def Dq:cQ P w base 1 T.tF pS:=by
 nomatch T.tF,["repeat","ends","ahead","passes","end"]
 let⟨v,r,rfl,iv,ht,t0,t1,kk⟩:=h;let sl:=yr;let⟨a,e,rfl,ha,he⟩:=cS iv;unfold Is at he;let⟨e',us,ee,hu,ilu⟩:=he;cases ee;let ul:=aM ilu;refine{_,(aa (bV 1 qN (cE (pv 0) ah))
  (aa (az (ptr cb (dP ay T.bz (af (pv 1) ag)) ah)
  (ai (aj cP))
  ak)
  (aa (bV 2 qN (aC fE (cE (pv 0) ah) ah))
  (aa (bV 3 qN (aV ag))
  (aa (dX yF rfl (eY (pv 1)) (kA 4 qN)
  (aa (az (PW.pt (cy (ptr gc (cE (pv 4) ah) (pv 2)) (bS (ptr (Bd hr.units) (Ex BX T.sX (af (cE (pv 4) ah) ag)) (dP oo T.Dv (af (cE (pv 4) ah) ag))))))
   (ai (aj cP))
   ak)
   (aa (bV 2 qN (cE (pv 4) ah))
   (ai (cT (cK yt PySem.F.slot_list_extend PySem.F.type_list_extend Fo (pv 3) (af (cE (pv 4) ah) ag)))))))
  (ai (aj (dY (bH gc (pv 2) (cE (pv 0) ah) (cL _)) (dB (bH (Fh hr.units) (dP oo T.Dv (af (pv 3) ag)) (C7 rfl (by rfl) T.sX (by rfl) T.jJ (af ah (af (aC dh (cE (pv 0) ah) ah) ag))) (cL _))))))))))),?_}
 ac_rfl;exists e,_,rfl,.inr (bK.of hu),?_;rw[ul];left
 by_cases h0:⇑r.ends=0
 ·refine bo (by rw[h0];rfl) ?_
  left;let e0:dm r=true:=by
   unfold dm;rw[yh.mp h0]
  rw[e0] at kk;exact kk _ (ao.refl _)
 ·refine bp (zc λz=>h0 (by have:=V.int.inj z;ext)) ?_
  let ef:dm r=(match cF r.ends (r.first-1) [] with | none=>false | some (a,ps)=>decide (a<=r.last)&&decide (sortI ps=Co 1 (r.times+1-1).toNat)):=by
   unfold dm;cases q:r.ends with
   | nil=>rw[q] at h0;exact absurd rfl h0
   | cons x xs=>rfl
  rw[ef] at kk;exists by show 0<=sizeLine;ext,?_
  intro pp hn;generalize hG:upd _ pp _=H1;let s1:=ao.Bo hG hn;let h1:=B4 hG;clear hG;exists{_,bK.of (s1 _ _ hu)},?_;refine qZ (K:=K) (a:=e) (xs:=us) (λi σ H'=>ao H H'/\∃(z:Int) (ps:List Int) (u:Option V),σ=[some (.ref a),some (.ref e),some (.int z),some (.ref pp),u]/\H' pp=some (.lst (ps.map V.int))/\⇑ps+Cv (r.ends.drop i)=Cv r.ends/\cF r.ends (r.first-1) []=cF (r.ends.drop i) z ps) {s1,_,[],none,rfl,h1,by simp,rfl} (λi σ H' _ h=>bK.of (h.1 _ _ hu)) ?_ ?_
  ·intro i x σ H2 hx hh
   refine fw λN kN0 kR0 _ _=>?_;let⟨s2,z,ps,u,rfl,h2,hc,hgo⟩:=hh;let⟨en,hen,ien⟩:=dZ ilu hx;let⟨a6,q6,rfl,h6,h7⟩:=hJ (ien.mono s2);let hle:=Na (zw hen);rw[BH hen] at hgo hc;rw[show Cv (en::List.drop (i+1) r.ends)=⇑en.2+Cv (List.drop (i+1) r.ends) from rfl] at hc;left
   by_cases c1:en.1<=z
   ·refine bo (zd c1) ?_
    rw[hgo,Ae (.inl c1)] at kk;change kk _ s2
   ·refine bp (zc c1) ?_
    exists q6,_,rfl,.inr (bK.of h7),?_;intros p8 H8 s8 h8;let h68:=s8 _ _ h6;let h78:=s8 _ _ h7;exists q6,en.2,rfl,.inr (bK.of h78),(),λns np ns'=>?_;intros p9 H9 s9 h9;let h69:=s9 _ _ h68;let h79:=s9 _ _ h78;let h29:=s9 _ _ (s8 _ _ h2);rw[vW np ns'] at h9;refine{p8,p9,_,_,rfl,rfl,.inl {aE.of (s9 _ _ h8),aE.of h9},.inr (.inr {nF _,nF _}),?_};rw[IU]
    by_cases c2:en.2=sortI en.2
    ·rw[zd c2]
     rw[DR c1 c2] at hgo;exists .inl {rfl,_,aE.of h29},?_;left;refine .inr {pp,q6,_,_,rfl,rfl,h29,h79,by rw[za,za];ext,?_};left;let s29:=(s2.trans s8).trans s9;refine{λb o hb=>?_,en.1,ps++en.2,_,rfl,by rw[aA,zg],by rw[ze];ext,hgo};let ne:b≠pp:=λz=>by rw[z,hn] at hb;cases hb
     rw[ar ne];exact s29 b o hb
    ·rw[zc c2]
     rw[hgo,Ae (.inr c2)] at kk;change kk _ ((s2.trans s8).trans s9)
  ·rintro σ H2 ⟨s2,z,ps,u,rfl,h2,hc,hgo⟩
   rw[ul,List.drop_length] at hgo hc;rw[hgo] at kk;let ha2:=s2 _ _ ha;unfold cF at kk;simp only at kk;rw[show Cv []=0 from rfl] at hc;left
   by_cases c1:z<=r.last
   ·rw[zd c1,yL] at kk
    refine bo (zd c1) ?_;exists pp,ps,rfl,.inl (aE.of h2),(),λns np ns'=>?_;intros p9 H9 s9 h9;rw[vW np ns'] at h9;let ha9:=s9 _ _ ha2;exists 1,r.times+1,rfl,{∅,(by decide),(),()},(),?_;intros p10 H10 s10 h10;refine{p9,p10,_,_,rfl,rfl,.inl {aE.of (s10 _ _ h9),aE.of h10},.inr (.inr {nF _,nF _}),?_};rw[IU];exact kk _ ((s2.trans s9).trans s10)
   ·rw[zc c1,yJ] at kk
    refine bp (zc c1) ?_;exact kk _ s2
def G3 {xs:List V} {x:V} (h:xs[⇑xs-1]?=some x):qm xs (-1)=some x:=by
 let hp:0<⇑xs:=by
  have:=(zt.mp h).1;ext
 let ne:xs≠[]:=yg.mp hp;let e:=xC ne;let e2:xs.getLast ne=x:=by
  have:=(zt.mp h).2;rw[List.getLast_eq_getElem];exact this
 rw[<-e,e2];exact L2.Ef _ _
inductive rO (K:yq) (vs:List V) (H:Hp) (Q:VK) (E:XK):Prop
 | mk (p:wM) (rs:List Rep) (v:V) (r:Rep) (_:vs=[.ref p,v]) (_:vL K H p rs) (_:Is H (c9 r) v) (_:Cv r.ends<64) (_:-1000000<=r.times) (_:r.times<=1000000) (_:∀H',ao H H'->Q (.bl (iw rs r)) H')
def sQ:cQ P w base 2 T.kJ (rO K):=by
 nomatch T.kJ,["repeats","repeat"]
 let⟨p,rs,v,r,rfl,⟨vs,hp,il⟩,iv,ht,t0,t1,kk⟩:=h;let⟨a,e,rfl,ha,he⟩:=cS iv;let vl:=aM il;let tail:(∀H',ao H H'->Q (.bl (decide (r.first<=r.last)&&dm r)) H')->(if decide (r.first<=r.last)=true then bD pS [] E0 (ax (aB 1) aQ) [some (.ref p),some (.ref a)] H Q else Q (.bl false) H):=by
  intro k
  by_cases c:r.first<=r.last
  ·rw[zd c,yL] at k
   refine bo (zd c) ?_;exact{_,rfl,_,r,rfl,iv,ht,t0,t1,k}
  ·rw[zc c,yJ] at k
   refine bp (zc c) ?_;exact k _ (ao.refl _)
 refine{_,(aa (az (PW.pt (dg (ptr eG (dP ay T.bz (af (pv 0) ag)) ah) (cz (ptr gc (cE (pv 1) ah) (cE (dM (pv 0) (j8 gg ah)) ah)))))
  (ai (aj cP))
  ak)
  (ai (aj (dY (bH gc (cE (pv 1) ah) (cE (pv 1) ah) (cL _)) (dB (b4 (Dq T) hr T.tF (af (pv 1) ag))))))),?_}
 ac_rfl;exists p,_,rfl,.inl hp,?_;rw[vl];left
 by_cases h0:0<⇑rs
 ·refine bo (zd ()) ?_
  let hi:⇑rs-1<⇑vs:=()
  let⟨q,hq,iq⟩:=dZ il (zb hi);let⟨b,eb,evb,hb,_⟩:=cS iq;let eg:rs.getLast?=some q:=by rw[xN];exact hq
  unfold iw at kk;rw[eg] at kk;left;refine{p,vs,-1,_,rfl,rfl,hp,G3 (by rw[vl];exact zb hi),?_};rw[evb];left
  by_cases c:r.first<=q.last
  ·refine bo (zd c) ?_
   simp only[yE c] at kk;change kk _ (ao.refl _)
  ·refine bp (zc c) ?_
   simp only[yD c] at kk;change tail kk
 ·refine bp (zc ()) ?_
  let e0:rs=[]:=yh.mp ();unfold iw at kk;rw[e0] at kk;change tail kk
def G8 (x:Sc.K3):Prop:=0<=x.cg.1/\x.cg.1<=1000/\0<x.cg.2/\x.cg.2<=1000
inductive RF (C:wM) (H:Hp) (a:wM) (o:Ow):Prop
 | mk (ub jm:V) (_:H a=some (.ins C o.dx (Lp o ub jm)))
structure Ql (C:wM) (H:Hp) (a:wM) (S:c6) (o:Ow):Prop where
 obj:RF C H a o
 ba:KO H tS o.ba S.bars
def Ql.of {C a:wM} {H:Hp} {S:c6} {o:Ow} (h:bF C H a S o):Ql C H a S o:={by let⟨ub,jm,h1,_⟩:=h.obj;exact{(ub),jm,h1},h.ba}
inductive qt (C:wM) (vs:List V) (H:Hp) (Q:VK) (E:XK):Prop
 | mk (a:wM) (S:c6) (o:Ow) (b:Nat) (_:vs=[.ref a,.int b]) (_:Ql C H a S o) (_:b<⇑S.bars) (_:(∀x∈S.bars,G8 x)) (_:∀p H',ao H H'->H' p=some (oz (S.cg b))->Q (.ref p) H')
def Oq {H:Hp} {b:Sc.K3} {v:V} (h:Is H (tS b) v):∃a m q,v=.ref a/\H a=some (.tup [.ref m,.int b.key,.ref q])/\H m=some (oz b.cg):=by
 unfold tS Is at h;let⟨a,vs,rfl,ha,hl⟩:=h;unfold au at hl;let⟨v1,r1,rfl,h1,hl⟩:=hl;unfold au at hl;let⟨v2,r2,rfl,h2,hl⟩:=hl;unfold au at hl;let⟨v3,r3,rfl,h3,hl⟩:=hl;unfold au at hl;subst hl;unfold Is at h2;subst h2;unfold l8 Is at h3;let⟨q,us,rfl,hq,hle⟩:=h3;have:=sI (o:=some b.cg) h1;cases this with
 | ref hm=>exact{a,_,q,rfl,ha,hm}
def ke {C:wM} (F:Cf K C):cQ P w base 3 T.gy (qt C):=by
 nomatch T.gy,["score","bar","metre"]
 let⟨a,S,o,b,rfl,sc,hb,bf,kk⟩:=h;let⟨ub,jm,ho⟩:=sc.obj;let⟨vs,hv,il⟩:=sc.ba;let hi:b<⇑vs:=by rw[aM il];exact hb
 let⟨x,hx,ix⟩:=dZ il (zb hi);let⟨a1,m,q,ev,h1,hm⟩:=Oq ix;let⟨k1,k2,k3,k4⟩:=bf x (zw hx);unfold c6.cg at kk;rw[hx] at kk;refine{_,(aa (bV 2 qN (cE (dM (bc (pv 0) rfl) (pv 1)) ah))
  (ai (aj (b4 (gW T) hr T.dE (af (cE (pv 2) ah) (af (cE (pv 2) ah) ag)))))),?_}
 ac_rfl;exists a,C,o.dx,_,_,rfl,ho,F.cls,F.bars,rfl,?_;left;refine{o.ba,vs,b,_,rfl,rfl,aE.of hv,bC (zb hi),?_};rw[ev];change{_,_,rfl,k1,k3,(eQ (n:=10) () ()).mono ∅,λp H' s' h'=>kk p H' s' h'}
inductive rN (C:wM) (vs:List V) (H:Hp) (Q:VK) (E:XK):Prop
 | mk (a:wM) (S:c6) (o:Ow) (b:Nat) (_:vs=[.ref a,.int b]) (_:bF C H a S o) (_:b<⇑S.bars) (_:(∀x∈S.bars,G8 x)) (_:∀p H',ao H H'->H' p=some (oz (S.len b))->Q (.ref p) H')
def sO {C:wM} (F:Cf K C):cQ P w base 4 T.kB (rN C):=by
 nomatch T.kB,["score","bar"]
 let⟨a,S,o,b,rfl,sc,hb,bf,kk⟩:=h;let⟨ub,jm,ho,hub,hjm⟩:=sc.obj;unfold c6.len at kk;refine{_,(aa (az (PW.pt (dg (ptr cb (pv 1) ah) (cz (bb (iF (bc (pv 0) rfl))))))
  (ai (aj (bc (pv 0) rfl)))
  ak)
  (ai (aj (b4 (ke T F) hr T.gy (af (pv 0) (af (pv 1) ag)))))),?_}
 ac_rfl;left
 by_cases c:b=0
 ·refine bo (by rw[c];rfl) ?_
  exists a,C,o.dx,_,_,rfl,ho,F.cls,F.aR,rfl,?_;cases q:S.aR with
  | none=>
   rw[q] at kk hub;unfold dO Is at hub;subst hub;change{a,S,o,b,rfl,.of sc,hb,bf,kk}
  | some u=>
   rw[q] at kk hub;cases sI (o:=some u) hub with
   | ref hu=>
    exists a,C,o.dx,_,_,rfl,ho,F.cls,F.aR,rfl,?_;refine kk _ _ (ao.refl _) ?_;simp only[yE c];exact hu
 ·refine bp (zc λz=>c (by have:=V.int.inj z;ext)) ?_
  left;refine{a,S,o,b,rfl,.of sc,hb,bf,λp H' s' h'=>kk p H' s' ?_};cases q:S.aR with
  | none=>exact h'
  | some u=>simp only[yD c];exact h'
theorem jg (n:Str):∀ns:List Str,ID (.str n) (ns.map V.str)=decide (n∈ns)
 | []=>rfl
 | m::ns=>by
  let ih:=jg n ns;unfold ID at ih ⊢;rw[zf,y8,ih];show((m == n)||decide (n∈ns))=decide (n∈m::ns)
  by_cases e:n=m
  ·subst e
   simp
  ·let e':¬m=n:=λz=>e z.symm
   simp[e,e']
theorem gL:∀ns:List Str,(ns.map V.str).all lg=true
 | []=>rfl
 | n::ns=>by rw[zf,wk,gL ns];rfl
inductive d6 (C:wM) (D:Hp->V->c6->Option Str->Prop) (vs:List V) (H:Hp) (Q:VK) (E:XK):Prop
 | mk (a:wM) (S:c6) (o:Ow) (v:V) (f:Option Str) (_:vs=[.ref a,v]) (_:bF C H a S o) (_:D H v S f) (_:∀H',ao H H'->Q (os f) H')
def j5 (C:wM):Sp:=d6 C λ_ v S f=>∃n,v=.str n/\f=fault S (.b6 n)
def qD {C:wM} (F:Cf K C):cQ P w base 1 T.gx (j5 C):=by
 nomatch T.gx,["score","player"]
 let⟨a,S,o,v,f,rfl,sc,⟨n,rfl,rfl⟩,kk⟩:=h;let⟨ub,jm,ho,hub,hjm⟩:=sc.obj;let k:=kk H (ao.refl H);unfold fault at k;dsimp only at k;refine{_,(aa (az (jG o7 (pv 1) (bc (pv 0) rfl) (by with_unfolding_all rfl))
  (ai (aj aG))
  ak)
  (aa (az (ptr De (dP ay T.bz (af (bc (pv 0) rfl) ag)) (aU (v:=.int (12)) (by rfl) T.tZ {_,rfl}))
  (ai (aj aG))
  ak)
  (ai (aj aH)))),?_}
 ac_rfl;exists a,C,o.dx,_,_,rfl,ho,F.cls,F.aP,rfl,?_;refine{o.pl,_,rfl,.inl (aE.of sc.pl),rfl,gL _,?_};show∃k,V.bl (ID (.str n) (S.aP.map V.str))=.bl k/\_;rw[jg]
 by_cases c1:n∈S.aP
 ·rw[zd c1]
  rw[yE c1] at k;change k
 ·rw[zc c1]
  rw[yD c1] at k;exists a,C,o.dx,_,_,rfl,ho,F.cls,F.aP,rfl,?_;exists o.pl,_,rfl,.inl (aE.of sc.pl),?_;rw[za];left
  by_cases c2:12<=⇑S.aP
  ·refine bo (zd ()) ?_
   rw[yE c2] at k;change k
  ·refine bp (zc ()) ?_
   rw[yD c2] at k;change k
def m8 (C:wM):Sp:=d6 C λ_ _ S f=>∃b,f=fault S (.bar b)
def Bm {C:wM} (F:Cf K C):cQ P w base 1 T.lP (m8 C):=by
 nomatch T.lP,["score","told"]
 let⟨a,S,o,v,f,rfl,sc,⟨b,rfl⟩,kk⟩:=h;let⟨ub,jm,ho,hub,hjm⟩:=sc.obj;let⟨vs,hv,il⟩:=sc.ba;let vl:=aM il;let k:=kk H (ao.refl H);unfold fault at k;dsimp only at k;refine{_,(aa (az (ptr De (dP ay T.bz (af (bc (pv 0) rfl) ag)) (aU (v:=.int (200)) (by rfl) T.Ed {_,rfl}))
  (ai (aj aG))
  ak)
  (ai (aj aH))),?_}
 ac_rfl;exists a,C,o.dx,_,_,rfl,ho,F.cls,F.bars,rfl,?_;exists o.ba,_,rfl,.inl (aE.of hv),?_;rw[vl];left
 by_cases c2:200<=⇑S.bars
 ·refine bo (zd ()) ?_
  rw[yE c2] at k;change k
 ·refine bp (zc ()) ?_
  rw[yD c2] at k;change k
theorem mX (n:Str):∀{ks:List Str} {vs:List V},⇑vs=⇑ks->(d5 ((ks.map kS).zip vs) (kS n)).isSome=decide (n∈ks)
 | [],_,_=>by simp[d5]
 | k::ks,[],h=>by simp at h
 | k::ks,v::vs,h=>by
  let ih:=mX n (ks:=ks) (vs:=vs) (by simpa using h);rw[zf,yM];unfold d5 at ih ⊢;rw[yI]
  by_cases e:k=n
  ·subst e
   simp
  ·let e1:¬kS k=kS n:=λz=>e (wm z)
   let e2:¬n=k:=λz=>e z.symm;simp only[e1,decide_false] at ih ⊢;rw[ih];simp[e2]
def gp (C:wM):Sp:=d6 C λH v S f=>∃x,Is H (mK x) v/\f=fault S (.dk x.1 x.2.1 x.2.2)
def DG {H:Hp} {x:Str×(Int×Int)×(Int×Int)} {v:V} (h:Is H (mK x) v):∃a t l,v=.ref a/\H a=some (.tup [.str x.1,t,l])/\Is H (dL x.2.1) t/\Is H (dL x.2.2) l:=by
 unfold mK Is at h;let⟨a,vs,rfl,ha,hl⟩:=h;unfold au at hl;let⟨v1,r1,rfl,h1,hl⟩:=hl;unfold au at hl;let⟨v2,r2,rfl,h2,hl⟩:=hl;unfold au at hl;let⟨v3,r3,rfl,h3,hl⟩:=hl;unfold au at hl;subst hl;unfold Is at h1;subst h1;exact{(a),v2,v3,rfl,ha,h2,h3}
def lS {C:wM} (F:Cf K C):cQ P w base 1 T.dR (gp C):=by
 nomatch T.dR,["score","told"]
 let⟨a,S,o,v,f,rfl,sc,⟨x,iv,rfl⟩,kk⟩:=h;let⟨ub,jm,ho,hub,hjm⟩:=sc.obj;let⟨vs,hv,il⟩:=sc.ins;let⟨a1,t,l,rfl,h1,_,_⟩:=DG iv;let vl:=aM il;let em:(S.aF.map λx=>kS x.1)=(S.aF.map (·.1)).map kS:=by rw[zv];rfl
 let k:=kk H (ao.refl H);unfold fault at k;dsimp only at k;refine{_,(aa (az (bb (Fg (kY hr) (cE (pv 1) ah) (bc (pv 0) rfl)))
  (ai (aj aG))
  ak)
  (aa (az (ptr De (dP FV T.bz (af (bc (pv 0) rfl) ag)) (aU (v:=.int (12)) (by rfl) T.mP {_,rfl}))
  (ai (aj aG))
  ak)
  (ai (aj aH)))),?_}
 ac_rfl;exists a,C,o.dx,_,_,rfl,ho,F.cls,F.aF,rfl,?_;refine{o.ins,_,rfl,.inl {_,kS x.1,.inl hv,rfl,rfl},?_};rw[em,mX x.1 (by rw[za];exact vl)];left
 by_cases c1:x.1∈S.aF.map (·.1)
 ·rw[zd c1]
  rw[yE c1] at k;change k
 ·rw[zc c1]
  rw[yD c1] at k;exists a,C,o.dx,_,_,rfl,ho,F.cls,F.aF,rfl,?_;exists o.ins,_,rfl,hv,?_;rw[xh,za,vl,Nat.min_self];left
  by_cases c2:12<=⇑S.aF
  ·refine bo (zd ()) ?_
   rw[yE c2] at k;change k
  ·refine bp (zc ()) ?_
   rw[yD c2] at k;change k
inductive CF (K:yq) (C:wM) (vs:List V) (H:Hp) (Q:VK) (E:XK):Prop
 | mk (a p:wM) (S:c6) (o:Ow) (bs:List Int) (_:vs=[.ref a,.ref p]) (_:bF C H a S o) (_:aE K H p (bs.map V.int)) (_:⇑bs<=1000000) (_:∀H',ao H H'->Q (.bl (S.has bs)) H')
def iH {C:wM} (F:Cf K C):cQ P w base 1 T.jh (CF K C):=by
 nomatch T.jh,["score","bars"]
 let⟨a,p,S,o,bs,rfl,sc,hp,hl,kk⟩:=h;let sl:=yr;refine{_,(ai (aj (dP (ju rfl) T.Dy (af (nG (ts:=["bar"]) (ys:=["score"]) (js:=[0]) (te:=(cI (mU λi j=>.bl (decide (i<j))) (aB 0) (oH (Q5 K) (ax (uE K (aB 1) "bars") aQ)))) (b7 (pv 1)) (lF 0) bq (bH eZ (pv 0) (dP ay T.bz (af (bc (pv 1) rfl) ag)) (cL _))) ag)))),?_};ac_rfl;exists{_,hp},?_;refine eK (enc:=V.int) (ws:=bs) (λz=>.bl (decide (z<(⇑S.bars:Int)))) (λσ=>∃v,σ=[v,some (.ref a)]) () hp {(none),rfl} ?_ ?_
 ·rintro z σ H1 R hz s1 ⟨_,rfl⟩ r
  let sc1:=sc.mono s1;let⟨ub,jm,ho,hub,hjm⟩:=sc1.obj;let⟨vs,hv,il⟩:=sc1.ba;let vl:=aM il;exists a,C,o.dx,_,_,rfl,ho,F.cls,F.bars,rfl,?_;exists o.ba,vs,rfl,.inl (aE.of hv),?_;rw[vl];change r _ _ _ (ao.refl _) (by unfold Is;rfl) {_,rfl}
 ·intro D vs H1 s1 hD il
  let e:bs.map (λz=>Dt.bl (decide (z<(⇑S.bars:Int))))=(bs.map λz=>decide (z<(⇑S.bars:Int))).map Dt.bl:=by rw[zv];rfl
  rw[e] at il;rw[jO il] at hD;refine{D,_,rfl,aE.of hD,?_};let e2:(bs.map λz=>decide (z<(⇑S.bars:Int))).all id=S.has bs:=by rw[xK];rfl
  rw[e2];exact kk _ s1
inductive qu (K:yq) (vs:List V) (H:Hp) (Q:VK) (E:XK):Prop
 | mk (p:wM) (us:List V) (its:List Item) (_:vs=[.ref p]) (_:aE K H p us) (_:au H (its.map hU) us) (_:⇑its<=500) (_:(∀it∈its,OC it.2)) (_:∀r H',ao H H'->H' r=some (oz (uF its))->Q (.ref r) H')
def oJ (l:List Item) (it:Item):uF (l++[it])=add (uF l) it.2:=by unfold uF;rw[zQ];rfl
def qE:cQ P w base 4 T.jM (qu K):=by
 nomatch T.jM,["items","length","item"]
 let⟨p,us,its,rfl,hp,il,hl,bf,kk⟩:=h;let sl:=yr;let ul:=aM il;refine{_,(aa (bV 1 qN (bw (af ah (af ah ag))))
  (aa (dX yF rfl (b7 (pv 0)) (kA 2 qN)
  (ai (bV 1 qN (b4 (JQ T) hr T.added (af (pv 1) (af (cE (pv 2) ah) ag))))))
  (ai (aj (pv 1))))),?_}
 ac_rfl;exists eX,?_;intros p1 H1 s1 h1;exists{_,s1.seq hp},?_;refine jk (K:=K) (a:=p) (xs:=us) (λi σ H'=>ao H H'/\∃q v,σ=[some (.ref p),some (.ref q),v]/\H' q=some (oz (uF (its.take i)))/\Lm.Rd (uF (its.take i))/\Ao (15*i+1) (uF (its.take i))) {s1,p1,none,rfl,h1,?_,?_} (λi σ H' _ h=>h.1.seq hp) ?_ ?_
 ·exact Lm.Rd.zero
 ·show Ao 1 (0,1)
  exact{eQ ∅ ∅,eQ ∅ ∅}
 ·rintro i x σ H2 hx ⟨s2,q,v,rfl,hq,rq,zq⟩
  let⟨it,hit,iit⟩:=dZ il hx;let⟨a6,pv,lv,rfl,h6,_,i8⟩:=item_at (iit.mono s2);let hi:i<⇑its:=(zt.mp hit).1;let⟨ok1,Pn,RM,ok4⟩:=bf it (zw hit);cases sI (o:=some it.2) i8 with
  | ref h8=>
   let zi:Ao 14 it.2:={eQ () (),eQ (by have:=ok1.pos;ext) ()}
   exists _,_,_,_,_,_,rfl,hq,h8,rq,ok1,zq,zi,(),λr H3 s3 h3=>?_;let e:=fN hit;refine{s2.trans s3,r,_,rfl,?_,?_,?_}
   ·rw[e,oJ];exact h3
   ·rw[e,oJ];exact rq.add ok1
   ·rw[e,oJ];exact{(Ao.add rq ok1 zq zi).1.mono (),(Ao.add rq ok1 zq zi).2.mono ()}
 ·rintro σ H2 ⟨s2,q,v,rfl,hq,_,_⟩
  rw[ul,zI] at hq;change kk _ _ s2 hq
def Ga (S:c6):Prop:=∀r∈S.repeats,⇑r.ends<=1000000
def lX (C:wM):Sp:=d6 C λH v S f=>∃j,Is H (dn j) v/\Ga S/\f=fault S (.bA j)
def DM {l:List V} {i:Nat} {x:V} (h:l[i]?=some x):(l.take (i+1)).filter (λv=>!fu v)=(l.take i).filter (λv=>!fu v)++(if fu x=true then [] else [x]):=by
 rw[fN h,yN];cases q:fu x with
 | true=>simp[q]
 | false=>simp[q]
def vd {C:wM} (F:Cf K C):cQ P w base 5 T.jL (lX C):=by
 nomatch T.jL,["score","jump"]
 let⟨a,S,o,v,f,rfl,sc,⟨j,iv,rok,rfl⟩,kk⟩:=h;let sl:=yr;let⟨ub,jm,ho,hub,hjm⟩:=sc.obj;let⟨vs,hv,il⟩:=sc.re;let⟨a1,rfl,h1⟩:=fe iv;unfold fault at kk;dsimp only at kk;refine{_,(aa (az (bb (iF (bc (pv 0) rfl)))
  (ai (aj aG))
  ak)
  (aa (az (cp (bt (b4 (iH T F) hr T.jh (af (pv 0) (af (nG (ts:=["bar"]) (ys:=[]) (js:=[]) (g:=(bj 0)) (tc:=(tB (IZ (aB 0)))) (te:=(aB 0)) (eY (pv 1)) (lF 0) (Bb (bb (iF (pv 0)))) (pv 0)) ag)))))
  (ai (aj aG))
  ak)
  (aa (az (cp (bt (b4 (Bk T) hr T.pz (af (bc (pv 0) rfl) (af (pv 1) ag)))))
  (ai (aj aG))
  ak)
  (ai (aj aH))))),?_}
 ac_rfl;exists a,C,o.dx,_,_,rfl,ho,F.cls,F.bA,rfl,?_;cases q:S.bA with
 | some j'=>
  rw[q] at hjm kk;let⟨a2,rfl,_⟩:=fe hjm;change kk _ (ao.refl _)
 | none=>
  rw[q] at hjm kk;unfold dO Is at hjm;subst hjm;rw[yD ∅] at kk;exists{_,bK.of h1},?_;generalize hw:[V.int j.ky,V.int j.l6,V.int j.aY,ov j.eM]=ws at h1;let wl:⇑ws=4:=by rw[<-hw];rfl
  refine om ⇑ws (λi=>(ws.take i).filter λv=>!fu v) (λi σ H'=>H'=H/\∃v,σ=[v]) (λi hi=>zH (yX _ _) (by rw[zL];ext)) () rfl {(rfl),none,rfl} ?_ ?_ ?_ ?_
  ·rintro i σ H' hi ⟨rfl,_⟩
   exact Kc (bK.of h1) hi
  ·rintro σ H' ⟨rfl,_⟩
   exact{_,bK.of h1,zh _}
  ·rintro i x σ H' H2 hi ⟨rfl,v,rfl⟩ ⟨rfl,hy⟩
   let hx:=hy _ (bK.of h1);left
   by_cases e:x=.aX
   ·refine bp (by rw[zd e];rfl) ?_
    refine IB.skip hi ?_ {rfl,_,rfl};show List.filter _ (List.take (i+1) ws)=List.filter _ (List.take i ws);rw[DM hx,yE (show fu x=true from zd e),zP]
   ·refine bo (by rw[zc e];rfl) ?_
    left;refine IB.push hi ?_ {rfl,_,rfl};show List.filter _ (List.take (i+1) ws)=List.filter _ (List.take i ws)++[x];rw[DM hx,yD (by unfold fu;rw[zc e];decide)]
  ·rintro σ H' ⟨rfl,_⟩
   rw[zI];let ef:(ws.filter λv=>!fu v)=([j.ky,j.l6,j.aY]++j.eM.toList).map V.int:=by
    rw[<-hw];cases j.eM <;> rfl
   rw[ef];intros D H2 s2 h2;refine{a,D,S,o,_,rfl,sc.mono s2,aE.of h2,?_,λH3 s3=>?_}
   ·cases j.eM <;> simp
   ·cases qb:S.has ([j.ky,j.l6,j.aY]++j.eM.toList) with
    | false=>
     rw[qb] at kk;change kk _ (s2.trans s3)
    | true=>
     rw[qb,yD (by simp)] at kk;let s03:=s2.trans s3;let sc3:=sc.mono s03;exists a,C,o.dx,_,_,rfl,s03 _ _ ho,F.cls,F.repeats,rfl,?_;exists o.re,S.repeats,_,j,rfl,{vs,aE.of (s03 _ _ hv),il.mono s03},rok,iv.mono s03,λH4 s4=>?_;cases qj:jd S.repeats j with
     | false=>
      rw[qj] at kk;change kk _ (s03.trans s4)
     | true=>
      rw[qj,yD (by simp)] at kk;change kk _ (s03.trans s4)
def j4 (C:wM):Sp:=d6 C λH v S f=>∃r:Rep,Is H (c9 r) v/\Cv r.ends<64/\⇑r.ends<=1000/\-1000000<=r.times/\r.times<=1000000/\f=fault S (.rep r)
def qC {C:wM} (F:Cf K C):cQ P w base 3 T.gw (j4 C):=by
 nomatch T.gw,["score","repeat"]
 let⟨a,S,o,v,f,rfl,sc,⟨r,iv,ht,hl,t0,t1,rfl⟩,kk⟩:=h;let sl:=yr;let⟨ub,jm,ho,hub,hjm⟩:=sc.obj;let⟨vs,hv,il⟩:=sc.re;let vl:=aM il;let⟨a1,e,rfl,h1,he⟩:=cS iv;unfold Is at he;let⟨e',us,ee,hu,ilu⟩:=he;cases ee;unfold fault at kk;dsimp only at kk;refine{_,(aa (az (cp (bt (b4 (iH T F) hr T.jh (af (pv 0) (af (aC eC (aV (af (cE (pv 1) ah) (af (cE (pv 1) ah) ag))) (nG (ts:=["end"]) (ys:=[]) (js:=[]) (te:=(cI (kK K) (aB 0) (tC (.int (0))))) (eY (cE (pv 1) ah)) (lF 0) bq (cE (pv 0) ah))) ag)))))
  (ai (aj aG))
  ak)
  (aa (az (PW.pt (cy (bb (iF (bc (pv 0) rfl))) (bS (cp (bt (b4 (sQ T) hr T.kJ (af (bc (pv 0) rfl) (af (pv 1) ag))))))))
  (ai (aj aG))
  ak)
  (aa (az (ptr De (dP ay T.bz (af (bc (pv 0) rfl) ag)) (aU (v:=.int (20)) (by rfl) T.tY {_,rfl}))
  (ai (aj aG))
  ak)
  (ai (aj aH))))),?_}
 ac_rfl;exists eX,?_;intros p2 H2 s2 h2;let h12:=s2 _ _ h1;exists{_,bK.of (s2 _ _ hu)},?_;let⟨ps,f1,f2,f3⟩:=jN ilu;let pl:⇑ps<=1000:=by
  have:⇑ps=⇑r.ends:=by rw[<-f1,za]
  ext
 refine cX (enc:=λz:Sc.End×V=>z.2) (ws:=ps) (λz=>.int z.1.1) (λσ=>∃v,σ=[v]) () (by rw[f2];exact s2 _ _ hu) {(none),rfl} ?_ ?_
 ·rintro z σ H6 R' hz s6 ⟨_,rfl⟩ r'
  let⟨a6,q6,ev,h6,h7⟩:=hJ (f3 z hz);rw[ev];let h66:=s6 _ _ (s2 _ _ h6);change r' _ _ _ (ao.refl _) bJ {_,rfl}
 ·intro D vs5 H3 s3 hD il5
  let e5:ps.map (λz=>Dt.int z.1.1)=(r.ends.map (·.1)).map Dt.int:=by rw[<-f1,zv,zv];rfl
  rw[e5] at il5;rw[fT il5] at hD;refine{p2,D,_,_,rfl,rfl,aE.of (s3 _ _ h2),aE.of hD,by rw[za,za];show 2+_<=_;ext,?_};rw[show [V.int r.first,V.int r.last]++List.map V.int (r.ends.map (·.1))=([r.first,r.last]++r.ends.map (·.1)).map V.int from by rw[zg];rfl];intros p4 H4 s4 h4;let s04:=(s2.trans s3).trans s4;refine{a,p4,S,o,_,rfl,sc.mono s04,aE.of h4,by rw[ze,za];show 2+_<=_;ext,λH5 s5=>?_};let s05:=s04.trans s5;cases qb:S.has ([r.first,r.last]++r.ends.map (·.1)) with
  | false=>
   rw[qb] at kk;change kk _ s05
  | true=>
   rw[qb,yD (by simp)] at kk;exists a,C,o.dx,_,_,rfl,s05 _ _ ho,F.cls,F.bA,rfl,?_;cases q:S.bA with
   | some j'=>
    rw[q] at hjm kk;let⟨a2,rfl,_⟩:=fe hjm;change kk _ s05
   | none=>
    rw[q] at hjm kk;unfold dO Is at hjm;subst hjm;rw[yD ∅] at kk;exists a,C,o.dx,_,_,rfl,s05 _ _ ho,F.cls,F.repeats,rfl,?_;exists o.re,S.repeats,_,r,rfl,{vs,aE.of (s05 _ _ hv),il.mono s05},iv.mono s05,ht,t0,t1,λH6 s6=>?_;let s06:=s05.trans s6;cases qj:iw S.repeats r with
    | false=>
     rw[qj] at kk;change kk _ s06
    | true=>
     rw[qj,yD (by simp)] at kk;exists a,C,o.dx,_,_,rfl,s06 _ _ ho,F.cls,F.repeats,rfl,?_;exists o.re,vs,rfl,.inl (aE.of (s06 _ _ hv)),?_;rw[vl];left
     by_cases c2:20<=⇑S.repeats
     ·refine bo (zd ()) ?_
      rw[yE c2] at kk;change kk _ s06
     ·refine bp (zc ()) ?_
      rw[yD c2] at kk;change kk _ s06
theorem Cs (n:Int×Str):∀{ks:List (Int×Str)} {vs:List V},⇑vs=⇑ks->(d5 ((ks.map kN).zip vs) (kN n)).isSome=decide (n∈ks)
 | [],_,_=>by simp[d5]
 | k::ks,[],h=>by simp at h
 | k::ks,v::vs,h=>by
  let ih:=Cs n (ks:=ks) (vs:=vs) (by simpa using h);rw[zf,yM];unfold d5 at ih ⊢;rw[yI]
  by_cases e:k=n
  ·subst e
   simp
  ·let e1:¬kN k=kN n:=λz=>e (by
    unfold kN at z;simp at z;exact Prod.ext z.1 z.2)
   let e2:¬n=k:=λz=>e z.symm;simp only[e1,decide_false] at ih ⊢;rw[ih];simp[e2]
theorem lJ {α:Type} {d:α->Dt} {H:Hp}:∀{ls:List (List α)} {as:List wM},bG H d ls as->⇑as=⇑ls
 | [],_,h=>by unfold bG at h;rw[h];rfl
 | l::r,_,⟨a,t,vs,e,_,_,h3⟩=>by rw[e,zo,zo,lJ h3]
def LJ {x y:Int×Int}:decide ([V.int x.1,V.int x.2]=[V.int y.1,V.int y.2])=decide (x=y):=by
 by_cases h:x=y
 ·subst h;simp
 ·rw[zc h,zc]
  intro z;simp at z;exact h (Prod.ext z.1 z.2)
def kG (C:wM):Sp:=d6 C λH v S f=>∃x:Int×Str×List Item,G7 H v x/\0<=x.1/\⇑x.2.2<=500/\(∀it∈x.2.2,OC it.2)/\(∀b∈S.bars,G8 b)/\f=fault S (.aL x.1 x.2.1 x.2.2)
def sU {C:wM} (F:Cf K C):cQ P w base 5 T.iI (kG C):=by
 nomatch T.iI,["score","told","bar","player","items"]
 let⟨a,S,o,v,f,rfl,sc,⟨⟨b,pn,its⟩,⟨a1,q,us,rfl,h1,hq,ilq⟩,b0,il5,iok,bok,rfl⟩,kk⟩:=h;let sl:=yr;let⟨ub,jm,ho,hub,hjm⟩:=sc.obj;let nl:⇑(o.ns.map V.ref)=⇑(S.aL.map (·.1)):=by rw[za,za,lJ sc.no.2,za]
 let em:(S.aL.map λx=>kN x.1)=(S.aL.map (·.1)).map kN:=by rw[zv];rfl
 unfold fault at kk;dsimp only at kk h1 b0 il5 iok ilq;refine{_,(aa (bV 2 qN (cE (pv 1) ah))
  (aa (bV 3 qN (cE (pv 1) ah))
  (aa (bV 4 qN (cE (pv 1) ah))
  (aa (az (bb (Fg (kY hr) (bw (af (pv 2) (af (pv 3) ag))) (bc (pv 0) rfl)))
  (ai (aj aG))
  ak)
  (aa (az (jG dQ (pv 3) (bc (pv 0) rfl) (by with_unfolding_all rfl))
  (ai (aj aG))
  ak)
  (aa (az (cp (bt (b4 (iH T F) hr T.jh (af (pv 0) (af (aV (af (pv 2) ag)) ag)))))
  (ai (aj aG))
  ak)
  (aa (az (ptr (Bd hr.units) (b4 (qE T) hr T.jM (af (pv 4) ag)) (b4 (sO T F) hr T.kB (af (pv 0) (af (pv 2) ag))))
  (ai (aj aG))
  ak)
  (aa (az (ptr eG (dP ay T.bz (af (pv 4) ag)) (aU (v:=.int (40)) (by rfl) T.B1 {_,rfl}))
  (ai (aj aG))
  ak)
  (ai (aj aH)))))))))),?_}
 ac_rfl;exists eX,?_;intros p2 H2 s2 h2;let h12:=s2 _ _ h1;exists a,C,o.dx,_,_,rfl,s2 _ _ ho,F.cls,F.aL,rfl,?_;refine{o.no,_,rfl,.inr {_,kN (b,pn),p2,.inl (s2 _ _ sc.no.1),rfl,h2,rfl},?_};rw[em,Cs (b,pn) nl];left
 by_cases c1:(b,pn)∈S.aL.map (·.1)
 ·rw[zd c1]
  rw[yE c1] at kk;change kk _ s2
 ·rw[zc c1]
  rw[yD c1] at kk;exists a,C,o.dx,_,_,rfl,s2 _ _ ho,F.cls,F.aP,rfl,?_;refine{o.pl,_,rfl,.inl (aE.of (s2 _ _ sc.pl)),rfl,gL _,?_};show∃k,V.bl (!ID (.str pn) (S.aP.map V.str))=.bl k/\_;rw[jg]
  by_cases c2:pn∈S.aP
  ·rw[zd c2]
   rw[yD (λz=>z c2)] at kk;exists by show 1<=sizeLine;ext,?_
   intros p3 H3 s3 h3;refine{a,p3,S,o,[b],rfl,sc.mono (s2.trans s3),aE.of h3,(by show 1<=1000000;decide),λH4 s4=>?_};let s04:=(s2.trans s3).trans s4;cases qb:S.has [b] with
   | false=>
    rw[qb] at kk;change kk _ s04
   | true=>
    rw[qb,yD (by simp)] at kk;let hb:b<⇑S.bars:=by
     unfold c6.has at qb
     simpa using qb
    let⟨n,rfl⟩:=yB b0;exists q,us,its,rfl,aE.of (s04 _ _ hq),ilq.mono s04,il5,iok,λr5 H5 s5 h5=>?_;exists a,S,o,n,rfl,sc.mono (s04.trans s5),(),bok,λr6 H6 s6 h6=>?_;let s06:=(s04.trans s5).trans s6;refine{r5,r6,_,_,rfl,rfl,.inr {bK.of (s6 _ _ h5),bK.of h6},.inr (.inr {(rfl),rfl}),?_};rw[LJ]
    by_cases c3:uF its=S.len n
    ·rw[zd c3]
     rw[yD (λz=>z c3)] at kk;exists q,us,rfl,.inl (aE.of (s06 _ _ hq)),?_;rw[aM ilq];left
     by_cases c4:40<⇑its
     ·refine bo (zd ()) ?_
      rw[yE c4] at kk;change kk _ s06
     ·refine bp (zc ()) ?_
      rw[yD c4] at kk;change kk _ s06
    ·rw[zc c3]
     rw[yE (show uF its≠S.len ((n:Int)).toNat from c3)] at kk;change kk _ s06
  ·rw[zc c2]
   rw[yE c2] at kk;change kk _ s2
def both {c:Bool} {T:(Bool->Hp->Prop)->Prop} {Z:Bool->Hp->Prop} {H:Hp} (v:Bool) (h1:c=true->∀Z,Z v H->T Z) (h2:c=false->v=false) (hz:Z v H):if c=true then T Z else Z false H:=by
 cases c with
 | true=>rw[yE rfl];exact h1 rfl Z hz
 | false=>rw[yD (by simp)];rw[<-h2 rfl];exact hz
theorem w8 {H:Hp} {α:Type} {d:α->Dt} (p:Str):∀{hs:List (Str×List α)} {as:List wM},bG H d (hs.map (·.2)) as->
  (hs.lookup p=none/\d5 ((hs.map λx=>kS x.1).zip (as.map V.ref)) (kS p)=none)\/∃l h vs,hs.lookup p=some l/\d5 ((hs.map λx=>kS x.1).zip (as.map V.ref)) (kS p)=some (.ref h)/\H h=some (.lst vs)/\au H (l.map d) vs
 | [],_,h=>.inl {rfl,by simp[d5]}
 | (x,l)::r,as,h=>by
  rw[zf] at h;unfold bG at h;let⟨a,t,vs,rfl,h1,h2,h3⟩:=h;rw[zf,zf,yM]
  by_cases e:x=p
  ·subst e
   refine .inr {l,a,vs,by rw[yf,xM],?_,h1,h2};unfold d5;rw[yI];simp
  ·let e1:¬kS x=kS p:=λz=>e (wm z)
   let e2:(p == x)=false:=by simp;exact λz=>e z.symm
   let ih:=w8 p h3;unfold d5 at ih ⊢;rw[yI,yf,e2];simp only[e1,decide_false];exact ih
def PF {H:Hp} {x:Int×Str} {v:V} (h:Is H (Mh x) v):∃a,v=.ref a/\H a=some (.tup [.int x.1,.str x.2]):=by
 unfold Mh Is at h;let⟨a,vs,rfl,ha,hl⟩:=h;unfold au at hl;let⟨v1,r1,rfl,h1,hl⟩:=hl;unfold au at hl;let⟨v2,r2,rfl,h2,hl⟩:=hl;unfold au at hl;subst hl;unfold Is at h1 h2;subst h1 h2;exact{(a),rfl,ha}
def GK {H:Hp} {x:Str×Int×Str} {v:V} (h:Is H (qh x) v):∃a,v=.ref a/\H a=some (.tup [.str x.1,.int x.2.1,.str x.2.2]):=by
 unfold qh Is at h;let⟨a,vs,rfl,ha,hl⟩:=h;unfold au at hl;let⟨v1,r1,rfl,h1,hl⟩:=hl;unfold au at hl;let⟨v2,r2,rfl,h2,hl⟩:=hl;unfold au at hl;let⟨v3,r3,rfl,h3,hl⟩:=hl;unfold au at hl;subst hl;unfold Is at h1 h2 h3;subst h1 h2 h3;exact{(a),rfl,ha}
def lY (C:wM):Sp:=d6 C λH v S f=>∃x:Str×Int×Str,Is H (qh x) v/\f=fault S (.holds x.1 x.2.1 x.2.2)
def vf {C:wM} (F:Cf K C):cQ P w base 3 T.jR (lY C):=by
 nomatch T.jR,["score","told","bar","holds"]
 let⟨a,S,o,v,f,rfl,sc,⟨⟨pn,b,iN⟩,hd,rfl⟩,kk⟩:=h;let⟨a1,rfl,h1⟩:=GK hd;let sl:=yr;let⟨ub,jm,ho,hub,hjm⟩:=sc.obj;unfold fault at kk;dsimp only at kk h1;refine{_,(aa (bV 2 qN (cE (pv 1) ah))
  (aa (bV 3 qN (JK (kY hr) (bc (pv 0) rfl) (cE (pv 1) ah) (aV ag) {(rfl),rfl,rfl,rfl}))
  (aa (az (PW.pt (dg (ptr eG (dP ay T.bz (af (pv 3) ag)) ah) (cz (ptr gc (pv 2) (cE (dM (pv 3) (j8 gg ah)) ah)))))
  (ai (aj aG))
  ak)
  (aa (az (PW.pt (cy (jG dQ (cE (pv 1) ah) (bc (pv 0) rfl) (by with_unfolding_all rfl)) (bS (bb (vZ (kY hr) (cE (pv 1) ah) (bc (pv 0) rfl))))))
  (ai (aj aG))
  ak)
  (aa (az (cp (bt (b4 (iH T F) hr T.jh (af (pv 0) (af (aV (af (pv 2) ag)) ag)))))
  (ai (aj aG))
  ak)
  (aa (az (ptr De (dP ay T.bz (af (pv 3) ag)) (aU (v:=.int (20)) (by rfl) T.B2 {_,rfl}))
  (ai (aj aG))
  ak)
  (ai (aj aH)))))))),?_}
 ac_rfl;exists a,C,o.dx,_,_,rfl,ho,F.cls,F.holds,rfl,?_;refine{o.ho,rfl,.inl {_,.inl sc.ho.1},?_};exists by show 0<=sizeLine;ext,?_
 intros p2 H2 s2 h2;let h12:=s2 _ _ h1;refine{_,.inl {_,kS pn,.inl (s2 _ _ sc.ho.1),rfl,rfl},?_};obtain⟨h,vs,l,eh,hh,ilh,el⟩:∃h vs l,(d5 ((S.holds.map λx=>kS x.1).zip (o.hs.map V.ref)) (kS pn)).getD (.ref p2)=.ref h/\H2 h=some (.lst vs)/\au H2 (l.map Mh) vs/\(S.holds.lookup pn).getD []=l:=by
  rcases w8 (H:=H) pn sc.ho.2 with⟨e1,e2⟩ | ⟨l,h,vs,e1,e2,hh,il⟩
  ·exact{p2,[],[],by rw[e2];rfl,h2,by unfold au;rfl,by rw[e1];rfl}
  ·exact{h,vs,l,by rw[e2];rfl,s2 _ _ hh,il.mono s2,by rw[e1];rfl}
 rw[el] at kk;rw[eh];exists h,vs,rfl,.inl (aE.of hh),?_;rw[aM ilh];left;obtain⟨c1,ec,kk⟩:∃c1:Bool,c1=(match l.getLast? with | some q=>decide (b<=q.1) | none=>false)/\∀H',ao H H'->Q (Sc.os (if c1=true then some "twice" else if pn∉S.aP then some "name" else if iN∉S.aF.map (·.1) then some "name" else if¬S.has [b]=true then some "bar" else if 20<=⇑l then some "many" else none)) H':=by
  refine{_,rfl,?_};cases q:l.getLast? with
  | none=>rw[q] at kk;exact kk
  | some x=>rw[q] at kk;exact kk
 refine both c1 ?_ ?_ ?_
 ·intro c Z hz
  let lp:0<⇑l:=by have:=zV c;ext
  let vl:=aM ilh;let⟨x,hx,ix⟩:=dZ ilh (i:=⇑vs-1) (zb ());let⟨a3,ea,h3⟩:=PF ix;let eg:l.getLast?=some x:=by rw[xN,<-vl];exact hx
  rw[ec,eg] at hz;left;refine{h,vs,-1,_,rfl,rfl,aE.of hh,G3 (zb ()),?_};rw[ea];change hz
 ·intro c
  have:l=[]:=yh.mp (by have:=of_decide_eq_false c;ext);rw[ec,this];rfl
 ·clear ec
  cases c1 with
  | true=>
   change kk _ s2
  | false=>
   rw[yD (by simp)] at kk;exists a,C,o.dx,_,_,rfl,s2 _ _ ho,F.cls,F.aP,rfl,?_;refine{o.pl,_,rfl,.inl (aE.of (s2 _ _ sc.pl)),rfl,gL _,?_};show∃k,V.bl (!ID (.str pn) (S.aP.map V.str))=.bl k/\_;rw[jg]
   by_cases c2:pn∈S.aP
   ·rw[zd c2]
    rw[yD (λz=>z c2)] at kk;let⟨us,hu,ilu⟩:=sc.ins;let em:(S.aF.map λx=>kS x.1)=(S.aF.map (·.1)).map kS:=by rw[zv];rfl
    exists a,C,o.dx,_,_,rfl,s2 _ _ ho,F.cls,F.aF,rfl,?_;refine{o.ins,_,rfl,.inl {_,kS iN,.inl (s2 _ _ hu),rfl,rfl},?_};rw[em,mX iN (by rw[za];exact aM ilu)]
    by_cases c3:iN∈S.aF.map (·.1)
    ·rw[zd c3]
     rw[yD (λz=>z c3)] at kk;exists by show 1<=sizeLine;ext,?_
     intros p3 H3 s3 h3;refine{a,p3,S,o,[b],rfl,sc.mono (s2.trans s3),aE.of h3,(by show 1<=1000000;decide),λH4 s4=>?_};let s04:=(s2.trans s3).trans s4;cases qb:S.has [b] with
     | false=>
      rw[qb] at kk;change kk _ s04
     | true=>
      rw[qb,yD (by simp)] at kk;exists h,vs,rfl,.inl (aE.of ((s3.trans s4) _ _ hh)),?_;rw[aM ilh];left
      by_cases c4:20<=⇑l
      ·refine bo (zd ()) ?_
       rw[yE c4] at kk;change kk _ s04
      ·refine bp (zc ()) ?_
       rw[yD c4] at kk;change kk _ s04
    ·rw[zc c3]
     rw[yE c3] at kk;change kk _ s2
   ·rw[zc c2]
    rw[yE c2] at kk;change kk _ s2
def Cz {H:Hp} {x:Str×List Str} {v:V} (h:Is H (lj x) v):∃a q,v=.ref a/\H a=some (.tup [.str x.1,.ref q])/\H q=some (.tup (x.2.map V.str)):=by
 unfold lj Is at h;let⟨a,vs,rfl,ha,hl⟩:=h;unfold au at hl;let⟨v1,r1,rfl,h1,hl⟩:=hl;unfold au at hl;let⟨v2,r2,rfl,h2,hl⟩:=hl;unfold au at hl;subst hl;unfold Is at h1;subst h1;unfold l8 Is at h2;let⟨q,us,rfl,hq,hl⟩:=h2;rw[gA hl] at hq;exact{(a),q,rfl,ha,hq}
def NH {H:Hp} {x:Str×List Str} {v:V} (h:Is H (Mg x) v):∃q,v=.ref q/\H q=some (.tup (x.2.map V.str)):=by
 unfold Mg l8 Is at h;let⟨q,us,rfl,hq,hl⟩:=h;rw[gA hl] at hq;exact{(q),rfl,hq}
inductive CB (C:wM) (vs:List V) (H:Hp) (Q:VK) (E:XK):Prop
 | mk (a:wM) (S:c6) (o:Ow) (v ub jm:V) (x:Str×List Str) (ob:Obj) (us:List V) (_:vs=[.ref a,v]) (_:H a=some (.ins C o.dx (Lp o ub jm))) (_:H o.pl=some (.lst (S.aP.map V.str))) (_:Ge H o.st ob ((S.bL.map λx=>kS x.1).zip us)) (_:au H (S.bL.map Mg) us) (_:Is H (lj x) v) (_:⇑x.2<=1000) (_:∀H',ao H H'->Q (os (fault S (.cO x.1 x.2))) H')
theorem Ez {α β:Type}:∀{l:List α} {m:List β} {i:Nat} {p:α×β},(l.zip m)[i]?=some p->l[i]?=some p.1/\m[i]?=some p.2
 | [],_,_,_,h=>by simp at h
 | _::_,[],_,_,h=>by simp at h
 | _::_,_::_,0,_,h=>by simp at h;subst h;exact{(rfl),rfl}
 | _::l,_::m,i+1,_,h=>by
  rw[yM] at h
  simpa using Ez (l:=l) (m:=m) (i:=i) (by simpa using h)
def KH {α:Type} {p:α->Bool} {l:List α} {i:Nat} {x:α} (h:l[i]?=some x) (hn:(l.take i).any p=false) (hx:p x=false):(l.take (i+1)).any p=false:=by
 rw[fN h,List.any_append,hn];simp[hx]
def KI {α:Type} {p:α->Bool} {l:List α} {i:Nat} {x:α} (h:l[i]?=some x) (hx:p x=true):l.any p=true:=yd.mpr {x,zw h,hx}
def Di {C:wM} (F:Cf K C):cQ P w base 1 T.fZ (CB C):=by
 nomatch T.fZ,["score","told","players","others"]
 let⟨a,S,o,v,ub,jm,x,ob,us,rfl,ho,hpl,fz,ilu,iv,x5,kk⟩:=h;let⟨a1,q,rfl,h1,hq⟩:=Cz iv;let sl:=yr;let ul:=aM ilu;let em:(S.bL.map λx=>kS x.1)=(S.bL.map (·.1)).map kS:=by rw[zv];rfl
 unfold fault at kk;dsimp only at kk;refine{_,(aa (bV 2 qN (cE (pv 1) ah))
  (aa (az (PW.pt (cy (bb (Fg (kY hr) (cE (pv 1) ah) (bc (pv 0) rfl))) (bS (ptr eZ (dP Ii T.bz (af (Ex (Ih rfl) T.Pp (af (pv 2) ag)) ag)) (dP ay T.bz (af (pv 2) ag))))))
  (ai (aj aG))
  ak)
  (aa (dX yF rfl (HD (bc (pv 0) rfl)) (kA 3 qN)
  (ai (az (bt (dP (jt rfl) T.Dx (af (nG (ts:=["player"]) (ys:=["others"]) (js:=[3]) (te:=(cI (Qh K false) (aB 0) (aB 1))) (eY (pv 2)) (lF 0) bq (bH o7 (pv 0) (pv 1) (by with_unfolding_all rfl))) ag)))
   (ai (aj aG))
   ak)))
  (aa (az (bt (dP (jt rfl) T.Dx (af (nG (ts:=["player"]) (ys:=["score"]) (js:=[0]) (te:=(cI (Qh K true) (aB 0) (uE K (aB 1) "players"))) (eY (pv 2)) (lF 0) bq (bH dQ (pv 0) (bc (pv 1) rfl) (by with_unfolding_all rfl))) ag)))
  (ai (aj aG))
  ak)
  (ai (aj aH)))))),?_}
 ac_rfl;exists a,C,o.dx,_,_,rfl,ho,F.cls,F.bL,rfl,?_;refine{o.st,_,rfl,.inl {_,kS x.1,.inr {_,fz},rfl,rfl},?_};rw[em,mX x.1 (by rw[za];exact ul)]
 by_cases c1:x.1∈S.bL.map (·.1)
 ·rw[zd c1]
  rw[yE c1] at kk;change kk _ (ao.refl _)
 ·rw[zc c1]
  rw[yD c1] at kk;exists q,x.2,rfl,bK.of hq,x5,λp2 n2=>?_;let s2:ao H (upd H p2 (Es p2 ⇑(fJ x.2))):=bW n2;let h2:upd H p2 (Es p2 ⇑(fJ x.2)) p2=some (Es p2 ⇑(fJ x.2)):=aA;generalize upd H p2 (Es p2 ⇑(fJ x.2))=H2 at s2 h2 ⊢;let⟨d1,d2⟩:=DT x.2;refine{p2,_,rfl,h2,(),?_};exists q,_,rfl,.inr (bK.of (s2 _ _ hq)),?_;rw[za];left
  by_cases c2:x.2.Nodup
  ·refine bp (zc (by have:=d2.mpr c2;ext)) ?_
   rw[yD (λz=>z c2)] at kk;exists a,C,o.dx,_,_,rfl,s2 _ _ ho,F.cls,F.bL,rfl,?_;refine{o.st,ob,_,rfl,s2 _ _ fz,?_};refine Fw (λi σ H'=>ao H H'/\(S.bL.take i).any (λq=>x.2.any λp=>decide (p∈q.2))=false/\∃u,σ=[some (.ref a),some (.ref a1),some (.ref q),u]) {(s2),rfl,none,rfl} (λi σ H' _ h=>h.1 _ _ fz) ?_ ?_
   ·intro i p σ H3 hp hh
    refine fw λN kN0 kR0 _ _=>?_;let⟨s3,hn,u,rfl⟩:=hh;let⟨_,hp2⟩:=Ez hp;let⟨st,hst,ist⟩:=dZ ilu hp2;let⟨r,er,hr'⟩:=NH ist;rw[er];exists{_,bK.of (s3 _ _ hq)},?_;refine cX (enc:=V.str) (ws:=x.2) (λz=>.bl (decide (z∈st.2))) (λσ=>∃v,σ=[v,some (.ref r)]) () (s3 _ _ hq) {(none),rfl} ?_ ?_
    ·rintro z σ H4 R hz s4 ⟨_,rfl⟩ rr
     exists r,_,rfl,.inr (bK.of ((s3.trans s4) _ _ hr')),rfl,gL _,?_;refine rr _ _ _ (ao.refl _) ?_ {_,rfl};rw[yD (by simp),jg];unfold Is;rfl
    ·intro D vs H4 s4 hD il
     let e:x.2.map (λz=>Dt.bl (decide (z∈st.2)))=(x.2.map λz=>decide (z∈st.2)).map Dt.bl:=by rw[zv];rfl
     rw[e] at il;rw[jO il] at hD;refine{D,_,rfl,aE.of hD,?_};let e2:(x.2.map λz=>decide (z∈st.2)).any id=x.2.any λp=>decide (p∈st.2):=by rw[xZ];rfl
     rw[e2];cases qc:x.2.any λp=>decide (p∈st.2) with
     | true=>
      rw[yE (KI hst (p:=λq:Str×List Str=>x.2.any λp=>decide (p∈q.2)) qc)] at kk;change kk _ (s3.trans s4)
     | false=>
      change{s3.trans s4,KH hst hn qc,_,rfl}
   ·rintro σ H3 ⟨s3,hn,u,rfl⟩
    rw[xh,za,ul,Nat.min_self,zI] at hn;rw[hn,yD (by simp)] at kk;exists{_,bK.of (s3 _ _ hq)},?_;refine cX (enc:=V.str) (ws:=x.2) (λz=>.bl (!decide (z∈S.aP))) (λσ=>∃v,σ=[v,some (.ref a)]) () (s3 _ _ hq) {(none),rfl} ?_ ?_
    ·rintro z σ H4 R hz s4 ⟨_,rfl⟩ rr
     exists a,C,o.dx,_,_,rfl,(s3.trans s4) _ _ ho,F.cls,F.aP,rfl,?_;refine{o.pl,_,rfl,.inl (aE.of ((s3.trans s4) _ _ hpl)),rfl,gL _,?_};refine rr _ _ _ (ao.refl _) ?_ {_,rfl};show Is H4 _ (V.bl (!ID (.str z) (S.aP.map V.str)));rw[jg];unfold Is;rfl
    ·intro D vs H4 s4 hD il
     let e:x.2.map (λz=>Dt.bl (!decide (z∈S.aP)))=(x.2.map λz=>!decide (z∈S.aP)).map Dt.bl:=by rw[zv];rfl
     rw[e] at il;rw[jO il] at hD;refine{D,_,rfl,aE.of hD,?_};let e2:(x.2.map λz=>!decide (z∈S.aP)).any id=x.2.any λp=>!decide (p∈S.aP):=by rw[xZ];rfl
     rw[e2];cases qc:x.2.any λp=>!decide (p∈S.aP) with
     | true=>
      rw[qc,yE rfl] at kk;change kk _ (s3.trans s4)
     | false=>
      rw[qc,yD (by simp)] at kk;change kk _ (s3.trans s4)
  ·refine bo (zd (by have:⇑(fJ x.2)≠⇑x.2:=λz=>c2 (d2.mp z);ext)) ?_
   rw[yE c2] at kk;change kk _ s2
def kF (C:wM):Sp:=d6 C λH v S f=>∃x,Is H (lj x) v/\⇑x.2<=1000/\f=fault S (.cO x.1 x.2)
def Kg {H:Hp} {d:wM} {o:Obj} {u:HO} (hd:H d=some u) (nt:cv (some u)) {l:List Dt} {vs:List V} (h:au H l vs):au (upd H d (.kz o u)) l vs:=au.upd (by rw[hd];exact nt) h
def CI {H H':Hp} {d:wM} {o:Obj} {u:HO} (hd:H d=some u) (s:ao (upd H d (.kz o u)) H'):ao H (upd H' d u):=λb z hb=>by
 by_cases e:b=d
 ·subst e;rw[aA,<-hd,hb]
 ·rw[ar e];exact s b z (by rw[ar e];exact hb)
def sP {C:wM} (F:Cf K C):cQ P w base 1 T.fZ (kF C):=by
 refine(Di (P:=P) (w:=w) (base:=base) T F).My (λvs H Q E h=>?_) (λvs H Q E h=>?_)
 ·let⟨_,_,_,_,_,rfl,_⟩:=h;rfl
 ·let⟨a,S,o,v,f,rfl,sc,⟨x,iv,x5,rfl⟩,kk⟩:=h
  let⟨us,hu,ilu⟩:=sc.st;let⟨ub,jm,ho,hub,hjm⟩:=sc.obj;let nt:cv (some (HO.dK ((S.bL.map λx=>kS x.1).zip us))):=λvs z=>by cases z
  let na:a≠o.st:=λz=>by rw[z,hu] at ho;cases ho
  let np:o.pl≠o.st:=λz=>by have:=sc.pl;rw[z,hu] at this;cases this
  refine{o.st,_,hu,rfl,λob=>{a,S,o,v,ub,jm,x,ob,us,rfl,by rw[ar na];exact ho,by rw[ar np];exact sc.pl,aA,Kg hu nt ilu,Is.upd (by rw[hu];exact nt) iv,x5,λH' s'=>kk _ (CI hu s')}}
def P6 (S:c6):Prop:=∀b∈S.bars,G8 b
inductive AE (C:wM) (vs:List V) (H:Hp) (Q:VK) (E:XK):Prop
 | mk (a:wM) (S:c6) (o:Ow) (v ub jm:V) (x:Int×Int) (ob:Obj) (us:List V) (_:vs=[.ref a,v]) (_:H a=some (.ins C o.dx (Lp o ub jm))) (_:Is H (dO dL S.aR) ub) (_:Ql C H a S o) (_:H o.no=some (.kz ob (.dT ((S.aL.map λx=>kN x.1).zip us)))) (_:⇑us=⇑S.aL) (_:⇑S.aL<=1000000) (_:Is H (dL x) v) (_:Ao 8999 x) (_:P6 S) (_:∀H',ao H H'->Q (os (fault S (.aR x))) H')
def JW {S:c6} (h:P6 S) (b:Nat) (hb:b<⇑S.bars):Ao 8999 (S.cg b):=by
 unfold c6.cg;rw[zb hb];let⟨k1,k2,k3,k4⟩:=h _ (yb hb);let⟨g,g1,g2,g3,g4,g5⟩:=A0 (t:=S.bars[b].cg.1) k3;let r0:=Fc (t:=S.bars[b].cg.1) (b:=S.bars[b].cg.2) k1;let r1:=Jq (t:=S.bars[b].cg.1) (b:=S.bars[b].cg.2) k1;dsimp only;exact{(eQ (n:=10) r0 ()).mono ∅,(eQ (n:=10) () ()).mono ∅}
def Be {C:wM} (F:Cf K C):cQ P w base 4 T.eO (AE C):=by
 nomatch T.eO,["score","length"]
 let⟨a,S,o,v,ub,jm,x,ob,us,rfl,ho,hub,sb,fz,ul,n6,iv,zx,bok,kk⟩:=h;let sl:=yr;unfold fault at kk;dsimp only at kk;refine{_,(aa (az (bb (iF (bc (pv 0) rfl)))
  (ai (aj aG))
  ak)
  (aa (az (ptr cb (dP ay T.bz (af (bc (pv 0) rfl) ag)) ah)
  (ai (aj aG))
  ak)
  (aa (az (cp (bt (b4 (Fi T) hr T.AM (af (pv 1) (af (b4 (ke T F) hr T.gy (af (pv 0) (af ah ag))) ag)))))
  (ai (aj aG))
  ak)
  (aa (az (bt (dP (jt rfl) T.Dx (af (nG (ts:=["place"]) (ys:=[]) (js:=[]) (te:=(cI KW (cI (kK K) (aB 0) (tC (.int (0)))) (tC (.int (0))))) (LG (bc (pv 0) rfl)) (lF 0) bq (bH cb (cE (pv 0) ah) ah (cL _))) ag)))
  (ai (aj aG))
  ak)
  (ai (aj aH)))))),?_}
 ac_rfl;exists a,C,o.dx,_,_,rfl,ho,F.cls,F.aR,rfl,?_;cases q:S.aR with
 | some u=>
  rw[q,yE (show(some u).isSome=true from rfl)] at kk;rw[q] at hub;cases sI (o:=some u) hub with
  | ref hu=>
   change kk _ (ao.refl _)
 | none=>
  rw[q,yD (by simp)] at kk;rw[q] at hub;unfold dO Is at hub;subst hub;let⟨vs,hv,il⟩:=sb.ba;cases sI (o:=some x) iv with
  | ref hx=>
  rename_i a1;exists a,C,o.dx,_,_,rfl,ho,F.cls,F.bars,rfl,?_;exists o.ba,vs,rfl,.inl (aE.of hv),?_;rw[aM il];left
  by_cases c1:⇑S.bars=0
  ·refine bo (by rw[c1];rfl) ?_
   rw[yE c1] at kk;change kk _ (ao.refl _)
  ·refine bp (zc λz=>c1 (by have:=V.int.inj z;ext)) ?_
   rw[yD c1] at kk;exists a,S,o,0,rfl,sb,(),bok,λp H1 s1 h1=>?_;refine{_,_,_,_,rfl,s1 _ _ hx,h1,zx,JW bok 0 (),?_}
   by_cases c2:x.1*(S.cg 0).2<(S.cg 0).1*x.2
   ·rw[zd c2]
    rw[yD (λz=>z c2)] at kk;exists a,C,o.dx,_,_,rfl,s1 _ _ ho,F.cls,F.aL,rfl,?_;refine{o.no,ob,_,_,rfl,{_,s1 _ _ fz,.inr {_,rfl,rfl,rfl}},?_};let kl:⇑((S.aL.map λx=>kN x.1).zip us)=⇑S.aL:=by rw[xh,za,ul,Nat.min_self]
    refine mM (ws:=S.aL) (λp x H=>∃b,x=.ref b/\H b=some (.tup [.int p.1.1,.str p.1.2])) (λp=>.bl (decide (p.1.1=0))) (λσ=>∃v,σ=[v]) () {(none),rfl} (λi H2 hi s2=>{{_,s2 _ _ (s1 _ _ fz),.inr {_,rfl,rfl,rfl}},()}) (λH2 s2=>{{_,s2 _ _ (s1 _ _ fz),.inr {_,rfl,rfl,rfl}},()}) ?_ ?_ ?_
    ·rintro i y H2 H3 hi s2 ⟨rfl,p,b,hp,hb,rfl⟩
     refine{ao.refl _,b,rfl,?_};let⟨z1,_⟩:=Ez hp;rw[zF,zb hi] at z1;simp only[y4,xq] at z1;rw[<-z1] at hb;exact hb
    ·rintro p y σ H2 R hp s2 ⟨b,rfl,hb⟩ ⟨_,rfl⟩ r
     left;refine r _ _ _ (ao.refl _) ?_ {_,rfl};rw[show decide (V.int p.1.1=V.int 0)=decide (p.1.1=0) from by by_cases h:p.1.1=0 <;> simp[h]];unfold Is;rfl
    ·intro D vs H4 s4 hD il
     let e:S.aL.map (λp=>Dt.bl (decide (p.1.1=0)))=(S.aL.map λp=>decide (p.1.1=0)).map Dt.bl:=by rw[zv];rfl
     rw[e] at il;rw[jO il] at hD;refine{D,_,rfl,aE.of hD,?_};let e2:(S.aL.map λp=>decide (p.1.1=0)).any id=S.aL.any λp=>decide (p.1.1=0):=by rw[xZ];rfl
     rw[e2];cases qc:S.aL.any λp=>decide (p.1.1=0) with
     | true=>
      rw[qc,yE rfl] at kk;change kk _ (s1.trans s4)
     | false=>
      rw[qc,yD (by simp)] at kk;change kk _ (s1.trans s4)
   ·rw[zc c2]
    rw[yE c2] at kk;change kk _ s1
def j3 (C:wM):Sp:=d6 C λH v S f=>∃x,Is H (dL x) v/\Ao 8999 x/\P6 S/\⇑S.aL<=1000000/\f=fault S (.aR x)
def qB {C:wM} (F:Cf K C):cQ P w base 4 T.eO (j3 C):=by
 refine(Be (P:=P) (w:=w) (base:=base) T F).My (λvs H Q E h=>?_) (λvs H Q E h=>?_)
 ·let⟨_,_,_,_,_,rfl,_⟩:=h;rfl
 ·let⟨a,S,o,v,f,rfl,sc,⟨x,iv,zx,bok,n6,rfl⟩,kk⟩:=h
  let⟨hn,ln⟩:=sc.no;let⟨ub,jm,ho,hub,hjm⟩:=sc.obj;let⟨bs,hb,ilb⟩:=sc.ba;let nt:cv (some (HO.dT ((S.aL.map λx=>kN x.1).zip (o.ns.map V.ref)))):=λvs z=>by cases z
  let na:a≠o.no:=λz=>by rw[z,hn] at ho;cases ho
  let nb:o.ba≠o.no:=λz=>by rw[z,hn] at hb;cases hb
  let ho':∀ob,upd H o.no (.kz ob (.dT ((S.aL.map λx=>kN x.1).zip (o.ns.map V.ref)))) a=some (.ins C o.dx (Lp o ub jm)):=λob=>by rw[ar na];exact ho
  refine{o.no,_,hn,rfl,λob=>{a,S,o,v,ub,jm,x,ob,o.ns.map V.ref,rfl,ho' ob,Is.upd (by rw[hn];exact nt) hub,{{ub,jm,ho' ob},bs,by rw[ar nb];exact hb,Kg hn nt ilb},aA,by rw[za,lJ ln,za],n6,Is.upd (by rw[hn];exact nt) iv,zx,bok,λH' s'=>kk _ (CI hn s')}}
noncomputable def kI:Told->Str
 | .b6 _=> "player"
 | .dk _ _ _=> "instrument"
 | .cO _ _=> "staff"
 | .bar _=> "bar"
 | .aR _=> "upbeat"
 | .holds _ _ _=> "holds"
 | .aL _ _ _=> "notes"
 | .rep _=> "repeat"
 | .bA _=> "jump"
def F9 (S:c6):Told->Prop
 | .cO _ ps=>⇑ps<=1000
 | .aR l=>Ao 8999 l/\P6 S/\⇑S.aL<=1000000
 | .aL b _ its=>0<=b/\⇑its<=500/\(∀it∈its,OC it.2)/\P6 S
 | .rep r=>Cv r.ends<64/\⇑r.ends<=1000/\-1000000<=r.times/\r.times<=1000000
 | .bA _=>Ga S
 | _=>True
inductive IG (K:yq) {mg:Str->Option wG} (T:Txt K mg) (C:wM):wM->Sp->Prop where
 | b6:IG K T C T.fo (j5 C)
 | dk:IG K T C T.cZ (gp C)
 | cO:IG K T C T.fU (kF C)
 | bar:IG K T C T.iQ (m8 C)
 | aR:IG K T C T.fk (j3 C)
 | holds:IG K T C T.gH (lY C)
 | aL:IG K T C T.fY (kG C)
 | rep:IG K T C T.fm (j4 C)
 | bA:IG K T C T.gG (lX C)
noncomputable def MP {K:yq} {mg:Str->Option wG} (T:Txt K mg):List (Str×V):=[("player",V.ref T.fo),("instrument",.ref T.cZ),("staff",.ref T.fU),("bar",.ref T.iQ),("upbeat",.ref T.fk),("holds",.ref T.gH),("notes",.ref T.fY),("repeat",.ref T.fm),("jump",.ref T.gG)]
def Kf (K:yq) {mg:Str->Option wG} (T:Txt K mg) (C:wM) (t:Told):∃f D,oA (MP T) (kI t)=some (.ref f)/\IG K T C f (d6 C D)/\∀H0 H v S,fM H0 H v (some t)->F9 S t->D H v S (fault S t):=by
 cases t with
 | b6 n=>exact{_,_,rfl,.b6,λH0 H v S h1 h2=>{(n),h1,rfl}}
 | dk n t l=>exact{_,_,rfl,.dk,λH0 H v S h1 h2=>{(n,t,l),h1,rfl}}
 | cO n ps=>exact{_,_,rfl,.cO,λH0 H v S h1 h2=>{(n,ps),h1,h2,rfl}}
 | bar b=>exact{_,_,rfl,.bar,λH0 H v S h1 h2=>{(b),rfl}}
 | aR l=>exact{_,_,rfl,.aR,λH0 H v S h1 h2=>{(l),h1,h2.1,h2.2.1,h2.2.2,rfl}}
 | holds p b i=>exact{_,_,rfl,.holds,λH0 H v S h1 h2=>{(p,b,i),h1,rfl}}
 | aL b p its=>exact{_,_,rfl,.aL,λH0 H v S h1 h2=>{(b,p,its),gI.at h1,h2.1,h2.2.1,h2.2.2.1,h2.2.2.2,rfl}}
 | rep r=>exact{_,_,rfl,.rep,λH0 H v S h1 h2=>{(r),h1,h2.1,h2.2.1,h2.2.2.1,h2.2.2.2,rfl}}
 | bA j=>exact{_,_,rfl,.bA,λH0 H v S h1 h2=>{(j),h1,h2,rfl}}
def IX {H0 H:Hp} {v:V} {t:Told} (h:fM H0 H v (some t)):v≠.aX:=by
 let tp:∀l,Is H (.tup l) v->v≠.aX:=λl z=>by
  unfold Is at z;let⟨a,vs,e,_⟩:=z;rw[e];simp
 cases t with
 | b6 n=>let e:v=.str n:=h;rw[e];simp
 | dk n t l=>exact tp _ h
 | cO n ps=>exact tp _ h
 | bar b=>exact tp _ h
 | aR l=>exact tp _ h
 | holds p b i=>exact tp _ h
 | aL b p its=>let⟨a,_,_,e,_⟩:=h;rw[e];simp
 | rep r=>exact tp _ h
 | bA j=>exact tp _ h
noncomputable def Fx (S:c6):Option Told->Option Str
 | none=>some "row"
 | some t=>fault S t
inductive CG (C:wM) (vs:List V) (H:Hp) (Q:VK) (E:XK):Prop
 | mk (a:wM) (S:c6) (o:Ow) (x:Str) (v:V) (H0:Hp) (t:Option Told) (_:vs=[.ref a,.str x,v]) (_:bF C H a S o) (_:fM H0 H v t) (_:(∀t',t=some t'->x=kI t'/\F9 S t')) (_:∀H',ao H H'->Q (os (Fx S t)) H')
def pU:dr ["score","sort","told","finder"] ["score","sort","told"] (aD mr):=N4
def Dp (B:Dk P w K T) {C:wM} (F:Cf K C):cQ P w base 6 T.tD (CG C):=by
 refine T.tD.F.Pn pU λcdv A' outer s H vs Q E hr h=>?_
 ·let⟨a,S,o,x,v,H0,t,rfl,sc,tv,fit,kk⟩:=h
  let hTbV:∀f sp,IG K T C f sp->OE (gk uz P w K mg base ["score","sort","told","finder"] "fault_of" (aD mr) T.um cdv A' outer s H E).Cp uz 5 f sp:=by
   intro f sp h;cases h with
   | b6=>exact{_,_,L2.bQ.mono (qD T F) ∅,T.gx.F.kp,T.gx.b}
   | dk=>exact{_,_,L2.bQ.mono (lS T F) ∅,T.dR.F.kp,T.dR.b}
   | cO=>exact{_,_,L2.bQ.mono (sP T F) ∅,T.fZ.F.kp,T.fZ.b}
   | bar=>exact{_,_,L2.bQ.mono (Bm T F) ∅,T.lP.F.kp,T.lP.b}
   | aR=>exact{_,_,L2.bQ.mono (qB T F) ∅,T.eO.F.kp,T.eO.b}
   | holds=>exact{_,_,L2.bQ.mono (vf T F) ∅,T.jR.F.kp,T.jR.b}
   | aL=>exact{_,_,L2.bQ.mono (sU T F) ∅,T.iI.F.kp,T.iI.b}
   | rep=>exact{_,_,L2.bQ.mono (qC T F) ∅,T.gw.F.kp,T.gw.b}
   | bA=>exact{_,_,L2.bQ.mono (vd T F) ∅,T.jL.F.kp,T.jL.b}
  refine{_,(aa (az (bb (bx (pv 2)))
   (ai (aj aG))
   ak)
   (aa (bV 3 pU.nd (C9 (aU (v:=.ref T.nv) (by rfl) T.KA rfl) (pv 1) (λ_ _=>rfl)))
   (ai (aj (Dc (IG K T C) hTbV (hr.mono ∅) (pv 3) sL (af (pv 0) (af (pv 2) ag))))))),?_}
  ac_rfl;left;cases t with
  | none=>
   let e:v=.aX:=tv;subst e;change kk _ (ao.refl _)
  | some t=>
   let⟨ex,ft⟩:=fit t rfl;subst ex;let⟨f,D,ev,htb,hd⟩:=Kf K T C t;let ne:=IX tv;rw[zc ne];exists T.nv,MP T,kI t,_,rfl,B.N7,rfl,ev,?_;exists f,_,rfl,htb,?_;change{a,S,o,v,_,rfl,sc,hd H0 H v S tv ft,kk}
def Eh {hs:List (Str×List (Int×Str))} {p:Str} {h:Int×Str} (fr:p∉hs.map (·.1)):iM (hs++[(p,[])]) p h=iM hs p h:=by
 unfold iM;rw[yD fr,yE (by rw[zg];exact zD _ (zu.mpr rfl)),zg];let e:(hs.map λq:Str×List (Int×Str)=>if q.1=p then(q.1,q.2++[h]) else q)=hs:=by
  conv=>rhs;rw[<-List.map_id hs]
  refine xc λq hq=>?_;rw[yD (λz=>fr (by rw[<-z];exact zK (f:=λx:Str×List (Int×Str)=>x.1) hq))];rfl
 rw[e];simp
def Gd (S:c6):Prop:=(S.holds.map (·.1)).Nodup/\⇑S.holds<=1000000/\∀q∈S.holds,⇑q.2<=1000000
inductive CH (C:wM) (vs:List V) (H:Hp) (Q:VK) (E:XK):Prop
 | mk (a:wM) (S:c6) (o:Ow) (v:V) (pn:Str) (b:Int) (i:Str) (_:vs=[.ref a,v]) (_:bF C H a S o) (_:Is H (qh (pn,b,i)) v) (_:Gd S) (_:∀H' o',bF C H' a (cG S (.holds pn b i)) o'->qR (own a o) H H'->(∀x∈own a o',x∈own a o\/H x=none)->Q .aX H')
def nU {o:Ow} {a x:wM} (h:x∈o.lists):x∈own a o:=by
 unfold Ow.lists at h;unfold own;rw[zB,zB] at h ⊢;rcases h with(h | h) | h
 ·refine .inl (.inl ?_)
  simp only[zy,zz,yK] at h ⊢;rcases h with h | h | h <;> simp[h]
 ·exact .inl (.inr h)
 ·exact .inr h
def JN {C a x:wM} {H:Hp} {S:c6} {o:Ow} (h:bF C H a S o) (hx:x∈own a o):∃u,H x=some u:=by
 let⟨_,_,ha,_⟩:=h.obj;let⟨_,hi,_⟩:=h.ins;let⟨_,hs,_⟩:=h.st;let⟨_,hb,_⟩:=h.ba;let⟨_,hr,_⟩:=h.re;unfold own at hx;rw[zB,zB] at hx;rcases hx with(hx | hx) | hx
 ·simp only[zy,zz,yK] at hx
  rcases hx with rfl | rfl | rfl | rfl | rfl | rfl | rfl | rfl
  ·exact{_,ha}
  ·exact{_,h.pl}
  ·exact{_,hi}
  ·exact{_,hs}
  ·exact{_,hb}
  ·exact{_,h.ho.1}
  ·exact{_,h.no.1}
  ·exact{_,hr}
 ·let⟨vs,e⟩:=bN h.ho.2 hx
  exact{_,e}
 ·let⟨vs,e⟩:=bN h.no.2 hx
  exact{_,e}
def Bc {C a x:wM} {H:Hp} {S:c6} {o:Ow} (h:bF C H a S o) (hx:H x=none):x∉own a o:=λz=>by
 let⟨u,e⟩:=JN h z;rw[hx] at e;cases e
def DE {hs:List (Str×List (Int×Str))} {as:List wM} {H:Hp} {x:wM} {vs:List V} (hL:bG H Mh (hs.map (·.2)) as) (hx:x∈as) (hH:H x=some (.lst vs)) (hb:∀q∈hs,⇑q.2<=1000000):⇑vs<=1000000:=by
 induction hs generalizing as with
 | nil=>unfold bG at hL;rw[hL] at hx;simp at hx
 | cons q r ih=>
  rw[zf] at hL;let⟨a,t,us,rfl,h1,h2,h3⟩:=hL;rcases zy.mp hx with rfl | hx
  ·rw[h1] at hH;cases hH
   have:=aM h2;have:=hb q zk;ext
  ·exact ih h3 hx λq hq=>hb q (zj _ hq)
def Dr {C:wM} (F:Cf K C):cQ P w base 1 T.uf (CH C):=by
 nomatch T.uf,["score","told"]
 let⟨a,S,o,v,pn,b,i,rfl,sc,iv,⟨nk,hl,hb⟩,kk⟩:=h;let⟨a1,rfl,h1⟩:=GK iv;let sl:=yr;let⟨ub,jm,ho,hub,hjm⟩:=sc.obj;let em:(S.holds.map λx=>kS x.1)=(S.holds.map (·.1)).map kS:=by rw[zv];rfl
 let ll:⇑(o.hs.map V.ref)=⇑(S.holds.map (·.1)):=by rw[za,za,lJ sc.ho.2,za]
 dsimp only at h1;refine{_,(aa (az (bb (vZ (kY hr) (cE (pv 1) ah) (bc (pv 0) rfl)))
  (ai (qW (kY hr) (bc (pv 0) rfl) (cE (pv 1) ah) (aV ag) rfl))
  ak)
  (ai (cT (cK yt yv yu cM (LH (kY hr) (bc (pv 0) rfl) (cE (pv 1) ah) (λ_ _=>rfl)) (af (bw (af (cE (pv 1) ah) (af (cE (pv 1) ah) ag))) ag))))),?_}
 ac_rfl;exists a,C,o.dx,_,_,rfl,ho,F.cls,F.holds,rfl,?_;refine{o.ho,_,rfl,.inl {_,kS pn,.inl sc.ho.1,rfl,rfl},?_};rw[em,mX pn ll]
 by_cases c1:pn∈S.holds.map (·.1)
 ·rw[zd c1]
  let⟨x,us,e1,e2,e3,e4⟩:=sc.lH nk c1;exists a,C,o.dx,_,_,rfl,ho,F.cls,F.holds,rfl,?_;exists o.ho,_,rfl,.inl {_,kS pn,.inl sc.ho.1,rfl,e1.symm},?_;refine{.inl {rfl,us,aE.of e3},?_};exists eX,?_;intros p2 H2 s2 h2;refine{x,us,_,rfl,rfl,s2 _ _ e3,?_,?_}
  ·have:=DE sc.ho.2 e2 e3 hb
   ext
  ·let⟨x',us',f1,f2,f3,f4⟩:=(sc.mono s2).lH nk c1
   let ex:x=x':=by rw[f1] at e1;cases e1;rfl
   subst ex;let eu:us=us':=by have:=s2 _ _ e3;rw[f3] at this;cases this;rfl
   subst eu;change kk _ o (f4 _ b i (bZ h2 (aN bJ (aN jP i0)))) ((qR.of s2).trans (qR.upd (nU (by unfold Ow.lists;simp[e2])))) λy hy=>.inl hy
 ·rw[zc c1]
  left
  intros p1 n1 s1 g1 H1
  let sc1:=sc.mono s1;let h11:=s1 _ _ h1;let nl:p1∉o.lists:=λz=>Bc sc n1 (nU z);exists a,C,o.dx,_,_,rfl,s1 _ _ ho,F.cls,F.holds,rfl,?_;left;refine{o.ho,_,rfl,.inl {_,kS pn,sc1.ho.1,rfl,?_,rfl},?_}
  ·rw[xh,za];ext
  let sc2:=sc1.JR g1 nl c1;let nt1:cv (H1 o.ho):=by rw[sc1.ho.1];exact λ_ z=>by cases z
  let h12:upd H1 o.ho (.dK (putK ((S.holds.map λx=>kS x.1).zip (o.hs.map V.ref)) (kS pn) (.ref p1))) a1=some (.tup [V.str pn,V.int b,V.str i]):=by rw[ar (Sc.aO h11 sc1.ho.1 (e9 rfl))];exact h11
  let el:qR (own a o) H (upd H1 o.ho (.dK (putK ((S.holds.map λx=>kS x.1).zip (o.hs.map V.ref)) (kS pn) (.ref p1)))):=(qR.of s1).trans (qR.upd (by unfold own;simp));generalize upd H1 o.ho (.dK (putK ((S.holds.map λx=>kS x.1).zip (o.hs.map V.ref)) (kS pn) (.ref p1)))=H3 at sc2 h12 el ⊢;let⟨ub2,jm2,ho2,_,_⟩:=sc2.obj;let nk2:(({S with holds:=S.holds++[(pn,[])]}:c6).holds.map (·.1)).Nodup:=by
   show((S.holds++[(pn,[])]).map λx:Str×List (Int×Str)=>x.1).Nodup;rw[zg,zN];exact{nk,by simp,λx hx y hy e=>by simp at hy;subst hy;subst e;exact c1 hx}
  let c2:pn∈({S with holds:=S.holds++[(pn,[])]}:c6).holds.map (·.1):=by
   show pn∈(S.holds++[(pn,[])]).map λx:Str×List (Int×Str)=>x.1;rw[zg];exact zD _ (zu.mpr rfl)
  let⟨x,us,e1,e2,e3,e4⟩:=sc2.lH nk2 c2;let hb2:∀q∈S.holds++[((pn,[]):Str×List (Int×Str))],⇑q.2<=1000000:=λq hq=>by
   rcases zB.mp hq with z | z
   ·exact hb q z
   ·rw[zu.mp z];exact zX _
  exists a,C,_,_,_,rfl,ho2,F.cls,F.holds,rfl,?_;exists o.ho,_,rfl,.inl {_,kS pn,.inl sc2.ho.1,rfl,e1.symm},?_;refine{.inl {rfl,us,aE.of e3},?_};exists eX,?_;intros p2 H4 s4 h4;refine{x,us,_,rfl,rfl,s4 _ _ e3,?_,?_}
  ·have:=DE sc2.ho.2 e2 e3 hb2
   ext
  ·let⟨x',us',f1,f2,f3,f4⟩:=(sc2.mono s4).lH nk2 c2
   let ex:x=x':=by rw[f1] at e1;cases e1;rfl
   subst ex;let eu:us=us':=by have:=s4 _ _ e3;rw[f3] at this;cases this;rfl
   subst eu;left;let ea:cG {S with holds:=S.holds++[(pn,[])]} (.holds pn b i)=cG S (.holds pn b i):=by
    show({S with holds:=iM (S.holds++[(pn,[])]) pn (b,i)}:c6)={S with holds:=iM S.holds pn (b,i)};rw[Eh c1]
   let sf:=f4 _ b i (bZ h4 (aN bJ (aN jP i0)));rw[ea] at sf;let xin:x∈o.hs\/x=p1:=by
    have:x∈o.hs++[p1]:=e2;rw[zB,zu] at this;exact this
   refine kk _ _ sf (λy u ny hy=>?_) λy hy=>?_
   ·let hy4:=s4 _ _ (el y u ny hy)
    rw[ar]
    ·exact hy4
    ·intro z
     subst z;rcases xin with z | z
     ·exact ny (nU (by unfold Ow.lists;simp[z]))
     ·subst z;rw[n1] at hy;cases hy
   ·have:y∈own a o\/y=p1:=by
     unfold own at hy ⊢;simp only[zB,zy,zz,yK] at hy ⊢;rcases hy with(hy | hy | hy) | hy
     ·exact .inl (.inl (.inl hy))
     ·exact .inl (.inl (.inr hy))
     ·exact .inr hy
     ·exact .inl (.inr hy)
    rcases this with z | z
    ·exact .inl z
    ·subst z;exact .inr n1
def Ci (S:c6):Prop:=⇑S.aP<=1000000/\⇑S.aF<=1000000/\⇑S.bL<=1000000/\⇑S.bars<=1000000/\⇑S.aL<=1000000/\⇑S.repeats<=1000000
inductive ER (C:wM) (vs:List V) (H:Hp) (Q:VK) (E:XK):Prop
 | mk (a:wM) (S:c6) (o:Ow) (v:V) (H0:Hp) (t:Told) (_:vs=[.ref a,.str (kI t),v]) (_:bF C H0 a S o) (_:ao H0 H) (_:fM H0 H v (some t)) (_:fault S t=none) (_:Gd S) (_:Ci S) (_:∀H' o',bF C H' a (cG S t) o'->qR (own a o) H H'->(∀x∈own a o',x∈own a o\/H0 x=none)->Q .aX H')
def Bz {c:Prop} [Decidable c] {x:Str} {y:Option Str} (h:(if c then some x else y)=none):¬c/\y=none:=by
 by_cases e:c
 ·rw[yE e] at h;cases h
 ·rw[yD e] at h;exact{(e),h}
theorem qd {H:Hp}:∀l:List Str,au H (l.map Dt.str) (l.map V.str)
 | []=>i0
 | x::r=>aN jP (qd r)
def Fm {C:wM} (F:Cf K C):cQ P w base 2 T.B9 (ER C):=by
 nomatch T.B9,["score","sort","told"]
 let⟨a,S,o,v,H0,t,rfl,sc0,s0,tv,fn,bf,⟨z1,z2,z3,z4,z5,z6⟩,kk⟩:=h;let sl:=yr;let sc:=sc0.mono s0;let⟨ub,jm,ho,hub,hjm⟩:=sc.obj;let me:∀x∈own a o,x∈own a o\/H0 x=none:=λx hx=>.inl hx;refine{_,(ai (az (ptr cb (pv 1) aG)
  (ai (cT (cK yt yv yu cM (bc (pv 0) rfl) (af (pv 2) ag))))
  (ai (az (ptr cb (pv 1) aG)
   (ai (qW (kY hr) (bc (pv 0) rfl) (cE (pv 2) ah) (bw (af (cE (pv 2) ah) (af (cE (pv 2) ah) ag))) rfl))
   (ai (az (ptr cb (pv 1) aG)
    (ai (qW (kY hr) (bc (pv 0) rfl) (cE (pv 2) ah) (cE (pv 2) ah) rfl))
    (ai (az (ptr cb (pv 1) aG)
     (ai (cT (cK yt yv yu cM (bc (pv 0) rfl) (af (pv 2) ag))))
     (ai (az (ptr cb (pv 1) aG)
      (ai (gU (pv 0) (pv 2) rfl))
      (ai (az (ptr cb (pv 1) aG)
       (ai (cT (b4 (Dr T F) hr T.uf (af (pv 0) (af (pv 2) ag)))))
       (ai (az (ptr cb (pv 1) aG)
        (ai (qW (kY hr) (bc (pv 0) rfl) (bw (af (cE (pv 2) ah) (af (cE (pv 2) ah) ag))) (cE (pv 2) ah) rfl))
        (ai (az (ptr cb (pv 1) aG)
         (ai (cT (cK yt yv yu cM (bc (pv 0) rfl) (af (pv 2) ag))))
         (ai (gU (pv 0) (pv 2) rfl)))))))))))))))))),?_}
 ac_rfl;cases t with
 | b6 n=>
  let e:v=.str n:=tv;subst e;exists a,C,o.dx,_,_,rfl,ho,F.cls,F.aP,rfl,?_;refine{.inl {rfl,_,aE.of sc.pl},?_};exists o.pl,_,_,rfl,rfl,sc.pl,by rw[za];ext,?_
  change kk _ o (sc.F1 n) (qR.upd (by unfold own;simp)) me
 | dk n t l=>
  let⟨a1,t1,l1,rfl,h1,it,il⟩:=DG (x:=(n,t,l)) tv;let fr:=(Bz fn).1;exists eX,?_;intros p2 H2 s2 h2;let sc2:=sc.mono s2;let h12:=s2 _ _ h1;let⟨vs,hv,ilv⟩:=sc2.ins;exists a,C,o.dx,_,_,rfl,s2 _ _ ho,F.cls,F.aF,rfl,?_;left;refine{o.ins,_,rfl,.inl {_,kS n,hv,rfl,?_,rfl},?_}
  ·rw[xh,za];ext
  exact kk _ o (sc2.Ip hv ilv (bZ h2 (aN (it.mono s2) (aN (il.mono s2) i0))) fr) ((qR.of s2).trans (qR.upd (by unfold own;simp))) me
 | cO n ps=>
  let⟨a1,q,rfl,h1,hq⟩:=Cz (x:=(n,ps)) tv;let fr:=(Bz fn).1;let⟨vs,hv,ilv⟩:=sc.st;exists a,C,o.dx,_,_,rfl,ho,F.cls,F.bL,rfl,?_;left;refine{o.st,_,rfl,.inl {_,kS n,hv,rfl,?_,rfl},?_}
  ·rw[xh,za];ext
  exact kk _ o (sc.Im hv ilv (by unfold Mg l8;exact bZ hq (qd ps)) fr) (qR.upd (by unfold own;simp)) me
 | bar b=>
  let⟨vs,hv,ilv⟩:=sc.ba;let vl:=aM ilv;exists a,C,o.dx,_,_,rfl,ho,F.cls,F.bars,rfl,?_;refine{.inl {rfl,_,aE.of hv},?_};exists o.ba,_,_,rfl,rfl,hv,(),?_;change kk _ o (sc.Mm hv ilv tv) (qR.upd (by unfold own;simp)) me
 | aR l=>
  exists a,C,o.dx,_,rfl,ho,F.cls,F.aR,(by show 9<1000;decide),?_;exact kk _ o (sc.F0 ho hjm tv) (qR.upd (by unfold own;simp)) me
 | holds p b i=>
  change{a,S,o,v,p,b,i,rfl,sc,tv,bf,λH' o' s' e' n'=>kk H' o' s' e' λx hx=>(n' x hx).imp id λz=>s0.back z}
 | aL b p its=>
  let⟨a1,q,us,rfl,h1,hq,ilq,nq⟩:=tv;let fr:=(Bz fn).1;let nl:q∉o.lists:=λz=>Bc sc0 nq (nU z);exists a,C,o.dx,_,_,rfl,ho,F.cls,F.aL,rfl,?_;exists eX,?_;intros p2 H2 s2 h2;let sc2:=sc.mono s2;refine{o.no,_,rfl,.inr {_,kN (b,p),p2,sc2.no.1,rfl,h2,?_,rfl},?_}
  ·rw[xh,za];ext
  refine kk _ _ (sc2.Io (s2 _ _ hq) (ilq.mono s2) nl fr) ((qR.of s2).trans (qR.upd (by unfold own;simp))) λx hx=>?_;have:x∈own a o\/x=q:=by
   unfold own at hx ⊢;simp only[zB,zy,zz,yK] at hx ⊢;rcases hx with hx | hx | hx
   ·exact .inl (.inl hx)
   ·exact .inl (.inr hx)
   ·exact .inr hx
  rcases this with z | z
  ·exact .inl z
  ·subst z;exact .inr nq
 | rep r=>
  let⟨vs,hv,ilv⟩:=sc.re;let vl:=aM ilv;exists a,C,o.dx,_,_,rfl,ho,F.cls,F.repeats,rfl,?_;refine{.inl {rfl,_,aE.of hv},?_};exists o.re,_,_,rfl,rfl,hv,(),?_;change kk _ o (sc.Ml hv ilv tv) (qR.upd (by unfold own;simp)) me
 | bA j=>
  exists a,C,o.dx,_,rfl,ho,F.cls,F.bA,(by show 9<1000;decide),?_;exact kk _ o (sc.KJ ho hub tv) (qR.upd (by unfold own;simp)) me
def fG {H:Hp} {a C dx p:wM} {fs fs':List (Str×V)} {u:HO} (ha:H a=some (.ins C dx fs)) (np:H p=none) :
  upd (upd H p u) a (.ins C dx fs') a=some (.ins C dx fs')/\upd (upd H p u) a (.ins C dx fs') p=some u/\∀b v,H b=some v->b≠a->upd (upd H p u) a (.ins C dx fs') b=some v:=by
 let na:p≠a:=λz=>by rw[z,ha] at np;cases np
 refine{aA,by rw[ar na,aA],λb v hb ne=>?_};rw[ar ne,ar (λz=>by rw[z,np] at hb;cases hb)];exact hb
def w5 {H:Hp} {a C dx:wM} {fs':List (Str×V)}:upd H a (.ins C dx fs') a=some (.ins C dx fs')/\∀b v,H b=some v->b≠a->upd H a (.ins C dx fs') b=some v:=
 {aA,λb v hb ne=>by rw[ar ne];exact hb}
inductive uK (C:wM) (vs:List V) (H:Hp) (Q:VK) (E:XK):Prop
 | mk (a dx:wM) (_:vs=[.ref a]) (_:H a=some (.ins C dx [])) (_:∀H' o,bF C H' a {} o->(∀b u,H b=some u->b≠a->H' b=some u)->(∀x∈own a o,x=a\/H x=none)->Q .aX H')
def uN:dr ["self"] ["self"] (aD nj):=N4
def vh {C:wM} (F:Cf K C):bQ P w K mg base uz 1 T.jX T.oj ["self"] (uK C):=by
 refine T.ux.F.Pn uN λ_ _ _ _ H vs Q E hr h=>?_
 ·let⟨a,dx,rfl,ha,kk⟩:=h
  let sl:=yr;refine{_,aa (gU (pv 0) (aV ag) rfl) (aa (gU (pv 0) sG rfl) (aa (gU (pv 0) sG rfl) (aa (gU (pv 0) (aV ag) rfl) (aa (gU (pv 0) aH rfl) (aa (gU (pv 0) sG rfl) (aa (gU (pv 0) JJ rfl) (aa (gU (pv 0) (aV ag) rfl) (ai (gU (pv 0) aH rfl))))))))),?_};refine{by show 0<=sizeLine;ext,λp1 n1=>?_};refine{_,rfl,a,C,dx,[],rfl,(by rw[ar (λz=>by rw[<-z,ha] at n1;cases n1)];exact ha),F.cls,F.aP,(by show 0<1000;decide),?_};let⟨a1,q1,k1⟩:=fG (u:=.lst []) (fs':=aI "players" (.ref p1) []) ha n1;generalize upd (upd H p1 (.lst [])) a (.ins C dx (aI "players" (.ref p1) []))=H1 at a1 q1 k1 ⊢;refine λp2 n2=>{_,rfl,a,C,dx,_,rfl,(by rw[ar (λz=>by rw[<-z,a1] at n2;cases n2)];exact a1),F.cls,F.aF,(by show 1<1000;decide),?_}
  let⟨a2,q2,k2⟩:=fG (u:=.dK []) (fs':=(aI "instruments" (.ref p2) (aI "players" (.ref p1) []))) a1 n2;generalize upd (upd H1 p2 (.dK [])) a (.ins C dx (aI "instruments" (.ref p2) (aI "players" (.ref p1) [])))=H2 at a2 q2 k2 ⊢;refine λp3 n3=>{_,rfl,a,C,dx,_,rfl,(by rw[ar (λz=>by rw[<-z,a2] at n3;cases n3)];exact a2),F.cls,F.bL,(by show 2<1000;decide),?_}
  let⟨a3,q3,k3⟩:=fG (u:=.dK []) (fs':=(aI "staffs" (.ref p3) (aI "instruments" (.ref p2) (aI "players" (.ref p1) [])))) a2 n3;generalize upd (upd H2 p3 (.dK [])) a (.ins C dx (aI "staffs" (.ref p3) (aI "instruments" (.ref p2) (aI "players" (.ref p1) []))))=H3 at a3 q3 k3 ⊢;refine{by show 0<=sizeLine;ext,λp4 n4=>{_,rfl,a,C,dx,_,rfl,(by rw[ar (λz=>by rw[<-z,a3] at n4;cases n4)];exact a3),F.cls,F.bars,(by show 3<1000;decide),?_}};let⟨a4,q4,k4⟩:=fG (u:=.lst []) (fs':=(aI "bars" (.ref p4) (aI "staffs" (.ref p3) (aI "instruments" (.ref p2) (aI "players" (.ref p1) []))))) a3 n4;generalize upd (upd H3 p4 (.lst [])) a (.ins C dx (aI "bars" (.ref p4) (aI "staffs" (.ref p3) (aI "instruments" (.ref p2) (aI "players" (.ref p1) [])))))=H4 at a4 q4 k4 ⊢;refine{_,rfl,a,C,dx,_,rfl,a4,F.cls,F.aR,(by show 4<1000;decide),?_};let⟨a5,k5⟩:=w5 (H:=H4) (a:=a) (C:=C) (dx:=dx) (fs':=(aI "upbeat" .aX (aI "bars" (.ref p4) (aI "staffs" (.ref p3) (aI "instruments" (.ref p2) (aI "players" (.ref p1) []))))));generalize upd H4 a (.ins C dx (aI "upbeat" .aX (aI "bars" (.ref p4) (aI "staffs" (.ref p3) (aI "instruments" (.ref p2) (aI "players" (.ref p1) []))))))=H5 at a5 k5 ⊢;refine λp6 n6=>{_,rfl,a,C,dx,_,rfl,(by rw[ar (λz=>by rw[<-z,a5] at n6;cases n6)];exact a5),F.cls,F.holds,(by show 5<1000;decide),?_}
  let⟨a6,q6,k6⟩:=fG (u:=.dK []) (fs':=(aI "holds" (.ref p6) (aI "upbeat" .aX (aI "bars" (.ref p4) (aI "staffs" (.ref p3) (aI "instruments" (.ref p2) (aI "players" (.ref p1) []))))))) a5 n6;generalize upd (upd H5 p6 (.dK [])) a (.ins C dx (aI "holds" (.ref p6) (aI "upbeat" .aX (aI "bars" (.ref p4) (aI "staffs" (.ref p3) (aI "instruments" (.ref p2) (aI "players" (.ref p1) [])))))))=H6 at a6 q6 k6 ⊢;refine λp7 n7=>{_,rfl,a,C,dx,_,rfl,(by rw[ar (λz=>by rw[<-z,a6] at n7;cases n7)];exact a6),F.cls,F.aL,(by show 6<1000;decide),?_}
  let⟨a7,q7,k7⟩:=fG (u:=.dT []) (fs':=(aI "notes" (.ref p7) (aI "holds" (.ref p6) (aI "upbeat" .aX (aI "bars" (.ref p4) (aI "staffs" (.ref p3) (aI "instruments" (.ref p2) (aI "players" (.ref p1) [])))))))) a6 n7;generalize upd (upd H6 p7 (.dT [])) a (.ins C dx (aI "notes" (.ref p7) (aI "holds" (.ref p6) (aI "upbeat" .aX (aI "bars" (.ref p4) (aI "staffs" (.ref p3) (aI "instruments" (.ref p2) (aI "players" (.ref p1) []))))))))=H7 at a7 q7 k7 ⊢;refine{by show 0<=sizeLine;ext,λp8 n8=>{_,rfl,a,C,dx,_,rfl,(by rw[ar (λz=>by rw[<-z,a7] at n8;cases n8)];exact a7),F.cls,F.repeats,(by show 7<1000;decide),?_}};let⟨a8,q8,k8⟩:=fG (u:=.lst []) (fs':=(aI "repeats" (.ref p8) (aI "notes" (.ref p7) (aI "holds" (.ref p6) (aI "upbeat" .aX (aI "bars" (.ref p4) (aI "staffs" (.ref p3) (aI "instruments" (.ref p2) (aI "players" (.ref p1) []))))))))) a7 n8;generalize upd (upd H7 p8 (.lst [])) a (.ins C dx (aI "repeats" (.ref p8) (aI "notes" (.ref p7) (aI "holds" (.ref p6) (aI "upbeat" .aX (aI "bars" (.ref p4) (aI "staffs" (.ref p3) (aI "instruments" (.ref p2) (aI "players" (.ref p1) [])))))))))=H8 at a8 q8 k8 ⊢;refine{_,rfl,a,C,dx,_,rfl,a8,F.cls,F.bA,(by show 8<1000;decide),?_};let⟨a9,k9⟩:=w5 (H:=H8) (a:=a) (C:=C) (dx:=dx) (fs':=(aI "jump" .aX (aI "repeats" (.ref p8) (aI "notes" (.ref p7) (aI "holds" (.ref p6) (aI "upbeat" .aX (aI "bars" (.ref p4) (aI "staffs" (.ref p3) (aI "instruments" (.ref p2) (aI "players" (.ref p1) []))))))))));generalize upd H8 a (.ins C dx (aI "jump" .aX (aI "repeats" (.ref p8) (aI "notes" (.ref p7) (aI "holds" (.ref p6) (aI "upbeat" .aX (aI "bars" (.ref p4) (aI "staffs" (.ref p3) (aI "instruments" (.ref p2) (aI "players" (.ref p1) []))))))))))=H9 at a9 k9 ⊢;let e1:p1≠a:=λz=>by rw[z,ha] at n1;cases n1
  let g1:=k9 _ _ (k8 _ _ (k7 _ _ (k6 _ _ (k5 _ _ (k4 _ _ (k3 _ _ (k2 _ _ (q1) e1) e1) e1) e1) e1) e1) e1) e1;let e2:p2≠a:=λz=>by rw[z,a1] at n2;cases n2
  let g2:=k9 _ _ (k8 _ _ (k7 _ _ (k6 _ _ (k5 _ _ (k4 _ _ (k3 _ _ (q2) e2) e2) e2) e2) e2) e2) e2;let e3:p3≠a:=λz=>by rw[z,a2] at n3;cases n3
  let g3:=k9 _ _ (k8 _ _ (k7 _ _ (k6 _ _ (k5 _ _ (k4 _ _ (q3) e3) e3) e3) e3) e3) e3;let e4:p4≠a:=λz=>by rw[z,a3] at n4;cases n4
  let g4:=k9 _ _ (k8 _ _ (k7 _ _ (k6 _ _ (k5 _ _ (q4) e4) e4) e4) e4) e4;let e6:p6≠a:=λz=>by rw[z,a5] at n6;cases n6
  let g6:=k9 _ _ (k8 _ _ (k7 _ _ (q6) e6) e6) e6;let e7:p7≠a:=λz=>by rw[z,a6] at n7;cases n7
  let g7:=k9 _ _ (k8 _ _ (q7) e7) e7;let e8:p8≠a:=λz=>by rw[z,a7] at n8;cases n8
  let g8:=k9 _ _ (q8) e8;let kH:∀b v,H b=some v->b≠a->H9 b=some v:=λb v hb ne=>k9 _ _ (k8 _ _ (k7 _ _ (k6 _ _ (k5 _ _ (k4 _ _ (k3 _ _ (k2 _ _ (k1 _ _ hb ne) ne) ne) ne) ne) ne) ne) ne) ne;let f1:H p1=none:=n1;let f2:H p2=none:=by
   cases q:H p2 with
   | none=>rfl
   | some v=>let z:=q;rw[show H1 p2=some v from k1 _ _ z e2] at n2;cases n2
  let f3:H p3=none:=by
   cases q:H p3 with
   | none=>rfl
   | some v=>let z:=q;rw[show H2 p3=some v from k2 _ _ (k1 _ _ z e3) e3] at n3;cases n3
  let f4:H p4=none:=by
   cases q:H p4 with
   | none=>rfl
   | some v=>let z:=q;rw[show H3 p4=some v from k3 _ _ (k2 _ _ (k1 _ _ z e4) e4) e4] at n4;cases n4
  let f6:H p6=none:=by
   cases q:H p6 with
   | none=>rfl
   | some v=>let z:=q;rw[show H5 p6=some v from k5 _ _ (k4 _ _ (k3 _ _ (k2 _ _ (k1 _ _ z e6) e6) e6) e6) e6] at n6;cases n6
  let f7:H p7=none:=by
   cases q:H p7 with
   | none=>rfl
   | some v=>let z:=q;rw[show H6 p7=some v from k6 _ _ (k5 _ _ (k4 _ _ (k3 _ _ (k2 _ _ (k1 _ _ z e7) e7) e7) e7) e7) e7] at n7;cases n7
  let f8:H p8=none:=by
   cases q:H p8 with
   | none=>rfl
   | some v=>let z:=q;rw[show H7 p8=some v from k7 _ _ (k6 _ _ (k5 _ _ (k4 _ _ (k3 _ _ (k2 _ _ (k1 _ _ z e8) e8) e8) e8) e8) e8) e8] at n8;cases n8
  let d14:p1≠p4:=λz=>by let h:=k3 _ _ (k2 _ _ (q1) e1) e1;rw[z,n4] at h;cases h
  let d18:p1≠p8:=λz=>by let h:=k7 _ _ (k6 _ _ (k5 _ _ (k4 _ _ (k3 _ _ (k2 _ _ (q1) e1) e1) e1) e1) e1) e1;rw[z,n8] at h;cases h
  let d48:p4≠p8:=λz=>by let h:=k7 _ _ (k6 _ _ (k5 _ _ (q4) e4) e4) e4;rw[z,n8] at h;cases h
  let d23:p2≠p3:=λz=>by let h:=q2;rw[z,n3] at h;cases h
  let d26:p2≠p6:=λz=>by let h:=k5 _ _ (k4 _ _ (k3 _ _ (q2) e2) e2) e2;rw[z,n6] at h;cases h
  let d36:p3≠p6:=λz=>by let h:=k5 _ _ (k4 _ _ (q3) e3) e3;rw[z,n6] at h;cases h
  refine kk H9 {dx,p1,p2,p3,p4,p6,p7,p8,[],[]} {{.aX,.aX,a9,cW,cW},g1,{[],g2,i0},{[],g3,i0},{[],g4,i0},{(g6),rfl},{(g7),rfl},{[],g8,i0},?_,?_} kH λx hx=>?_
  ·show [p1,p4,p8].Nodup
   simp[d14,d18,d48]
  ·show [p2,p3,p6].Nodup
   simp[d23,d26,d36]
  ·let hx':x∈[a,p1,p2,p3,p4,p6,p7,p8]:=by simpa[own] using hx
   simp only[zy,zz,yK] at hx';rcases hx' with rfl | rfl | rfl | rfl | rfl | rfl | rfl | rfl
   ·exact .inl rfl
   ·exact .inr f1
   ·exact .inr f2
   ·exact .inr f3
   ·exact .inr f4
   ·exact .inr f6
   ·exact .inr f7
   ·exact .inr f8
def Runs:c6->List Told->c6->Prop
 | S,[],S'=>S=S'
 | S,t::r,S'=>fault S t=none/\F9 S t/\Gd S/\Ci S/\Runs (cG S t) r S'
def vV (t:Told):∃ws,wordsOf t=kI t::ws:=by cases t <;> exact{_,rfl}
inductive Out where
 | ok (S:c6)
 | bad (i:Nat) (w:Str)
inductive RX:c6->Nat->List Str->Out->Prop where
 | nil {S:c6} {i:Nat}:RX S i [] (.ok S)
 | blank {S:c6} {i:Nat} {r:Str} {rs:List Str} {out:Out}:⇑r<=1000000->words r=[]->RX S (i+1) rs out->RX S i (r::rs) out
 | row {S:c6} {i:Nat} {r:Str} {t:Told} {rs:List Str} {out:Out}:⇑r<=1000000->words r=wordsOf t->KL t->⇑(wordsOf t)<=1000000->(∀y∈wordsOf t,⇑y<=600)->fault S t=none->F9 S t->Gd S->Ci S->RX (cG S t) (i+1) rs out->RX S i (r::rs) out
 | bad {S:c6} {i:Nat} {r x w:Str} {ws rs:List Str}:⇑r<=1000000->words r=x::ws->⇑ws<=999999->(∀y∈x::ws,⇑y<=600)->(∀t,iD (x::ws)=some t->x=kI t/\F9 S t)->Fx S (iD (x::ws))=some w->RX S i (r::rs) (.bad i w)
inductive oM (C:wM) (vs:List V) (H:Hp) (Q:VK) (E:XK):Prop
 | mk (a:wM) (x y:V) (_:vs=[.ref a,x,y]) (_:H a=some (Ap C none a)) (_:∀dx H',H dx=none->dx≠a->H' a=some (Ap C (some dx) a)->H' dx=some (XD dx [("place",x),("word",y)])->(∀b,b≠a->b≠dx->H' b=H b)->Q .aX H')
def oN:dr ["self","place","word"] ["self","place","word"] (aD j6):=N4
def pd:bQ P w K mg base uz 1 T.gm T.ki ["self","place","word"] (oM T.aW):=by
 refine T.mf.F.Pn oN λ_ _ _ _ H vs Q E hr h=>?_
 ·let⟨a,x,y,rfl,ha,kk⟩:=h
  refine{_,aa (Pj (pv 0) (pv 1) rfl) (ai (Ph (pv 0) (pv 2) rfl)),?_};refine{_,rfl,_,rfl,a,_,_,rfl,ha,T.cH.set,T.xf.np,λdx nd na=>?_};refine{_,rfl,_,rfl,a,_,_,dx,_,rfl,aA,by rw[ar na,aA],T.cH.set,T.xf.nw,(by show 1<1000;decide),?_};exact kk dx _ nd na (by rw[ar (Ne.symm na),aA]) (by rw[aA];rfl) λb n1 n2=>by rw[ar n2,ar n1,ar n2]
inductive fO (C B:wM) (vs:List V) (H:Hp) (Q:VK) (E:XK):Prop
 | mk (t:Str) (out:Out) (_:vs=[.str t]) (_:⇑t+2<=sizeLine) (_:RX {} 0 (Txt.split t "\n") out) (_:(∀S,out=.ok S->∀a o H',bF C H' a S o->ao H H'->(∀x∈own a o,H x=none)->Q (.ref a) H')) (_:∀i w,out=.bad i w->∀dx H',ao H H'->H' dx=some (XD dx [("place",.int (i:Nat)),("word",.str w)])->E (.ref B) (some dx) H')
theorem Hj {H0 H H':Hp} {v:V} (s:ao H H'):∀{t:Option Told},fM H0 H v t->fM H0 H' v t
 | none,h=>h
 | some (.b6 _),h=>h
 | some (.dk _ _ _),h=>Is.mono s h
 | some (.cO _ _),h=>Is.mono s h
 | some (.bar _),h=>Is.mono s h
 | some (.aR _),h=>Is.mono s h
 | some (.holds _ _ _),h=>Is.mono s h
 | some (.aL _ _ _),⟨a,q,vs,h1,h2,h3,h4,h5⟩=>{a,q,vs,h1,s _ _ h2,s _ _ h3,h4.mono s,h5}
 | some (.rep _),h=>Is.mono s h
 | some (.bA _),h=>Is.mono s h
def cC:dr ["text","score","place","row","words","told","word"] ["text"] (aD ng):=N4
def iW (B:Dk P w K T) (F:Cf K T.cY):bQ P w K mg base (K2 P w) 8 T.ow T.oa ["text"] (fO T.cY T.aW):=by
 refine T.cD.F.R8 cC (λvs H Q E h=>?_) (λcdv A' outer s H vs Q E hr h=>?_)
 ·let⟨_,_,rfl,_⟩:=h;rfl
 ·let⟨t,out,rfl,tl,rt,kk,kx⟩:=h
  let sl:=yr;refine{_,(aa (bV 1 cC.nd (JH T.Mq (vh T F) (hr.mono ∅) rfl T.Lb T.ux.b .nil sL))
   (aa (dX PassesOwn.leaving rfl (Gz (by rfl) T.kQ (af (cK yw yA yz gX (pv 0) (af aG ag)) ag)) (fB (n:=2) rfl (aK (kA 2 cC.nd) (aK (kA 3 cC.nd) dN)))
   (aa (bV 4 cC.nd (b4 (Dh T) hr T.words_of (af (pv 3) ag)))
    (ai (az (ptr eG (dP ay T.bz (af (pv 4) ag)) ah)
    (aa (bV 5 cC.nd (b4 (Dj T B) hr T.su (af (pv 4) ag)))
     (aa (bV 6 cC.nd (b4 (Dp T B F) hr T.tD (af (pv 1) (af (dM (pv 4) ah) (af (pv 5) ag)))))
     (aa (az (bb (iF (pv 6)))
     (ai (HA (JG T.cH (pd T) (hr.mono ∅) rfl T.rE T.mf.b sL (af (pv 2) (af (pv 6) ag)))))
     ak)
     (ai (cT (b4 (Fm T F) hr T.B9 (af (pv 1) (af (dM (pv 4) ah) (af (pv 5) ag)))))))))
    ak))))
   (ai (aj (pv 1))))),?_}
  ac_rfl;intro a dx na ndx ne;refine{a,dx,rfl,aA,λH1 o sc1 k1 fr1=>{rfl,?_}};let s1:ao H H1:=λb u hb=>k1 b u (by rw[ar (λz=>by rw[z,na] at hb;cases hb),ar (λz=>by rw[z,ndx] at hb;cases hb)];exact hb) (λz=>by rw[z,na] at hb;cases hb);let f1:∀x∈own a o,H x=none:=λx hx=>by
   rcases fr1 x hx with z | z
   ·rw[z];exact na
   ·cases q:H x with
    | none=>rfl
    | some u=>
     rw[ar (λy=>by rw[y,na] at q;cases q),ar (λy=>by rw[y,ndx] at q;cases q),q] at z;cases z
  exists tl,λl nl=>?_;let s2:ao H1 (upd H1 l (.lst ((Txt.split t "\n").map V.str))):=bW nl;let h2:upd H1 l (.lst ((Txt.split t "\n").map V.str)) l=some (.lst ((Txt.split t "\n").map V.str)):=aA;generalize upd H1 l (.lst ((Txt.split t "\n").map V.str))=H2 at s2 h2 ⊢;generalize hrows:Txt.split t "\n"= rows at rt h2;exists l,_,rfl,aE.of h2,?_;refine DI (K:=K) (a:=l) (xs:=rows.map V.str) (λi σ H'=>∃S' o',RX S' i (rows.drop i) out/\bF T.cY H' a S' o'/\H' l=some (.lst (rows.map V.str))/\l∉own a o'/\ao H H'/\(∀x∈own a o',H x=none)/\∃u2 u3 u4 u5 u6,σ=[some (.str t),some (.ref a),u2,u3,u4,u5,u6])
   {{},o,rt,sc1.mono s2,h2,Bc sc1 nl,s1.trans s2,f1,none,none,none,none,none,rfl} (λi σ H' _ h=>by let⟨_,_,_,_,h,_⟩:=h;exact aE.of h) ?_ ?_
  ·intro i x σ H3 p H4 hx hh s34 hp4
   refine fw λN kN0 kR0 _ _=>?_;let⟨S',o',rt',sc3,hl3,nl3,s3,f3,u2,u3,u4,u5,u6,rfl⟩:=hh;rw[zF] at hx;cases qr:rows[i]? with
   | none=>rw[qr] at hx;cases hx
   | some r=>
   rw[qr] at hx;simp only[y4,xq] at hx;subst hx;let ed:rows.drop i=r::rows.drop (i+1):=by
    let hi:=(zt.mp qr).1;rw[List.drop_eq_getElem_cons hi];have:=(zt.mp qr).2;rw[this]
   rw[ed] at rt';let s4:=s3.trans s34;let sc4:=sc3.mono s34;cases rt' with
   | blank rl rw0 rt''=>
    refine{p,_,rfl,bK.of hp4,rfl,?_};refine{_,_,rfl,{_,_,rfl,{rfl,?_}}};exists rl,λp5 H5 s5 h5=>?_;rw[rw0] at h5;exists p5,_,rfl,.inl (aE.of h5),?_;left;let s05:=s4.trans s5;exact{S',o',rt'',sc4.mono s5,s5 _ _ (s34 _ _ hl3),nl3,s05,f3,_,_,_,_,_,rfl}
   | @row _ _ _ t' _ _ rl rw0 tok wl ws6 fn fit hd sz rt''=>
    let⟨ws,ew⟩:=vV t';refine{p,_,rfl,bK.of hp4,rfl,?_};refine{_,_,rfl,{_,_,rfl,{rfl,?_}}};exists rl,λp5 H5 s5 h5=>?_;rw[rw0] at h5;let h5':=h5;rw[ew] at h5;let sc5:=sc4.mono s5;let hl5:=s5 _ _ (s34 _ _ hl3);exists p5,_,rfl,.inl (aE.of h5),?_;rw[za,zo];left;refine bo (zd ()) ?_;left;let wl':⇑ws<=999999:=by rw[ew,zo] at wl;ext
    refine{p5,kI t',ws,rfl,aE.of h5,wl',by rw[<-ew];exact ws6,λv H6 s6 tv=>?_};rw[<-ew,sC tok] at tv;let sc6:=sc5.mono s6;exists p5,_,0,_,rfl,rfl,aE.of (s6 _ _ h5),bC (j:=0) rfl,?_;exists a,S',o',kI t',v,H5,some t',rfl,sc6,tv,λt2 e2=>by cases e2;exact{(rfl),fit},λH7 s7=>?_
    rw[show Fx S' (some t')=fault S' t' from rfl,fn];exists p5,_,0,_,rfl,rfl,aE.of (s7 _ _ (s6 _ _ h5)),bC (j:=0) rfl,?_;exists a,S',o',v,H5,t',rfl,sc5,s6.trans s7,Hj s7 tv,fn,hd,sz,λH8 o8 sc8 el8 fr8=>?_;let s07:=((s4.trans s5).trans s6).trans s7;left;refine{cG S' t',o8,rt'',sc8,el8 _ _ nl3 (s7 _ _ (s6 _ _ hl5)),λz=>?_,λb u hb=>el8 _ _ (λz=>by rw[f3 b z] at hb;cases hb) (s07 _ _ hb),λx hx=>?_,_,_,_,_,_,rfl}
    ·rcases fr8 l z with y | y
     ·exact nl3 y
     ·rw[hl5] at y;cases y
    ·rcases fr8 x hx with y | y
     ·exact f3 x y
     ·exact(s4.trans s5).back y
   | @bad _ _ _ x w' ws _ rl rw0 wl ws6 fit fn=>
    refine{p,_,rfl,bK.of hp4,rfl,?_};refine{_,_,rfl,{_,_,rfl,{rfl,?_}}};exists rl,λp5 H5 s5 h5=>?_;rw[rw0] at h5;let sc5:=sc4.mono s5;exists p5,_,rfl,.inl (aE.of h5),?_;rw[za,zo];left;refine bo (zd ()) ?_;exists p5,x,ws,rfl,aE.of h5,wl,ws6,λv H6 s6 tv=>?_;let sc6:=sc5.mono s6;exists p5,_,0,_,rfl,rfl,aE.of (s6 _ _ h5),bC (j:=0) rfl,?_;exists a,S',o',x,v,H5,_,rfl,sc6,tv,fit,λH7 s7=>?_;rw[fn];left;let s07:=((s4.trans s5).trans s6).trans s7;refine{by show 2<=sizeLine;ext,λy ny=>?_};refine{y,_,_,rfl,aA,λdx H8 nd na h8 hd8 k8=>{rfl,?_}};refine{y,_,dx,rfl,h8,?_,{_,_,T.cH},?_}
    ·exact s07.back ny
    ·let nd7:H7 dx=none:=by rw[<-nd,ar na]
     refine kx _ _ rfl dx _ (λb u hb=>?_) (by rw[my na];exact hd8);let hb7:=s07 _ _ hb;let n1:b≠y:=λz=>by rw[z,ny] at hb7;cases hb7
     let n2:b≠dx:=λz=>by rw[z,nd7] at hb7;cases hb7
     rw[my n1,k8 b n1 n2,ar n1];exact hb7
  ·rintro σ H3 ⟨S',o',rt',sc3,hl3,nl3,s3,f3,u2,u3,u4,u5,u6,rfl⟩
   rw[za,List.drop_length] at rt';cases rt';change kk _ rfl a o' H3 sc3 s3 f3
theorem Runs.app:∀{a b:List Told} {S S1 S2:c6},Runs S a S1->Runs S1 b S2->Runs S (a++b) S2
 | [],_,_,_,_,h,k=>by
  let e:_=_:=h;subst e;exact k
 | _::_,_,_,_,_,⟨h1,h2,h3,h4,h5⟩,k=>{h1,h2,h3,h4,Runs.app h5 k}
theorem oV:∀{l:List Sc.K3} {S:c6},⇑(S.bars++l)<=200->Gd S->Ci S->Runs S (l.map .bar) {S with bars:=S.bars++l}
 | [],S,_,_,_=>by
  show S=_;rw[zP]
 | n::r,S,hl,hd,sz=>by
  rw[ze,zo] at hl;refine{?_,trivial,hd,sz,?_}
  ·unfold fault
   dsimp only;rw[yD ()]
  ·let ih:=oV (l:=r) (S:=cG S (.bar n)) (by show(S.bars++[n]++r).length<=200;simp only[ze,zo,y6];ext) hd {sz.1,sz.2.1,sz.2.2.1,by show(S.bars++[n]).length<=1000000;rw[ze];simp;ext,sz.2.2.2.2}
   let e:({cG S (.bar n) with bars:=(cG S (.bar n)).bars++r}:c6)={S with bars:=S.bars++n::r}:=by
    show({S with bars:=S.bars++[n]++r}:c6)=_;rw[zA];rfl
   rw[e] at ih;exact ih
def Kb {S:c6} {bs:List Int} (h:∀b∈bs,b<(⇑S.bars:Int)):S.has bs=true:=ye.mpr λb hb=>zd (h b hb)
def TD (t:Told):Prop:=KL t/\⇑(Sc.wordsOf t)<=100/\∀w∈Sc.wordsOf t,⇑w<=100
def all_cons {a:Str} {l:List Str} {p:Str->Prop} (ha:p a) (hl:∀x∈l,p x):∀x∈a::l,p x:=by
 intro x hx;rcases zy.mp hx with rfl | hx
 ·exact ha
 ·exact hl x hx
def all_nil {p:Str->Prop}:∀x∈([]:List Str),p x:=λ_ h=>nomatch h
def EK {t:Told} (h:TD t):⇑(rowOf t)<=10100:=by
 let a:=tf (sep:=" ") h.2.2;let b:⇑(Sc.wordsOf t)*(100+(" ": Str).length)<=100*(100+(" ": Str).length):=x6 h.2.1 (zh _);exact zH a (zH b (by show 100*(100+1)<=10100;decide))
theorem qV:∀{ts:List Told} {S S':c6} {i:Nat} {rest:List Str} {out:Out},Runs S ts S'->(∀t∈ts,TD t)->RX S' (i+⇑ts) rest out->RX S i (ts.map rowOf++rest) out
 | [],S,S',i,rest,out,h,_,k=>by cases(show S=S' from h);exact k
 | t::r,S,S',i,rest,out,⟨fn,fit,hd,sz,h⟩,td,k=>by
  let ht:=td t zk;refine .row (zH (EK ht) ∅) (vY ht.1) ht.1 (zH ht.2.1 ∅) (λy hy=>zH (ht.2.2 y hy) ∅) fn fit hd sz (qV h (λx hx=>td x (zj _ hx)) ?_);rw[zo] at k;rw[show i+1+⇑r=i+(⇑r+1) by ext];exact k
def Je {t:Told} {S:c6} {i:Nat} {rest:List Str} {w:Str} (h:TD t) (fit:F9 S t) (f:fault S t=some w):RX S i (rowOf t::rest) (.bad i w):=by
 let⟨ws,ew⟩:=vV t;let e:=sC h.1;let l:=h.2.1;let q:=h.2.2;rw[ew] at e l q;refine .bad (zH (EK h) ∅) (by rw[vY h.1,ew]) (by rw[zo] at l;ext) (λy hy=>zH (q y hy) ∅) (λt' e'=>?_) (by rw[e];exact f);rw[e] at e';cases e';exact{(rfl),fit}
def BB {S:c6} (h:S.holds=[]):Gd S:=by unfold Gd;rw[h];exact{by simp,by simp,by simp}
def EM {rows:List Str} (ne:rows≠[]) (h:∀r∈rows,10∉r.cps.toList):Txt.split (Str.join "\n" rows) "\n"= rows:=fA (c:=10) ne h
def Jh {rows:List Str} (h:∀r∈rows,⇑r<=10100) (hl:⇑rows<=1000):(rows.map (λz:Str=>⇑z+("\n": Str).length)).sum<=sizeLine/\(Str.join "\n" rows).length+2<=sizeLine:=by
 let sl:=yr;let a:=oI (sep:="\n") h;let b:⇑rows*(10100+("\n": Str).length)<=1000*(10100+("\n": Str).length):=x6 hl (zh _);let c:1000*(10100+("\n": Str).length)=1000*10101:=rfl;let d:=join_le "\n" rows;exact{(()),()}
def Ig (xs:List V):gf xs none (some (-1))=xs.dropLast:=by
 unfold gf;rw[HT.sj,List.drop_zero,Nat.sub_zero];let e:HT.de ⇑xs ⇑xs (some (-1))=⇑xs-1:=by unfold HT.de;simp;ext
 rw[e,List.dropLast_eq_take]
noncomputable def rws (ts:List Told):List V:=(ts.map rowOf).map V.str
def Lr (a b:List Told):rws (a++b)=rws a++rws b:=by unfold rws;rw[zg,zg]
def AZ (a:List Told):⇑(rws a)=⇑a:=by unfold rws;rw[za,za]
def Pq (b:Bool) (xs:List V):HO:=match b with | true=>.tup xs | false=>.lst xs
def Al (H:Hp):Nat->V->V->Prop
 | 0,_,_=>False
 | d+1,x,y=>(x=.aX/\y=.aX)\/(∃i,x=.int i/\y=.int i)\/(∃t,x=.str t/\y=.str t)\/∃p q b xs ys,x=.ref p/\y=.ref q/\H p=some (Pq b xs)/\H q=some (Pq b ys)/\⇑xs=⇑ys/\⇑xs<=1000000/\∀z∈xs.zip ys,Al H d z.1 z.2
theorem Al.mono {H H':Hp} (s:ao H H'):∀{d:Nat} {x y:V},Al H d x y->Al H' d x y
 | 0,_,_,h=>h
 | d+1,_,_,.inl h=>.inl h
 | d+1,_,_,.inr (.inl h)=>.inr (.inl h)
 | d+1,_,_,.inr (.inr (.inl h))=>.inr (.inr (.inl h))
 | d+1,_,_,.inr (.inr (.inr {(p),q,b,xs,ys,e1,e2,h1,h2,h3,h4,h5}))=>.inr (.inr (.inr {p,q,b,xs,ys,e1,e2,s _ _ h1,s _ _ h2,h3,h4,λz hz=>(h5 z hz).mono s}))
def kD {H:Hp} {p:wM} {b:Bool} {xs:List V} (h:H p=some (Pq b xs)):tag H (.ref p)=some (if b=true then Ty.tup else Ty.lst):=by
 cases b
 ·exact Ld h
 ·exact Gn h
def pQ {K:yq} {H:Hp} {p:wM} {b:Bool} {xs:List V} (h:H p=some (Pq b xs)):IH b K H p xs:=by
 cases b
 ·exact aE.of h
 ·exact bK.of h
def Mz {K:yq} {H:Hp} {p:wM} {b:Bool} {xs:List V} (h:H p=some (Pq b xs)):aE K H p xs\/bK K H p xs:=by
 cases b
 ·exact .inl (aE.of h)
 ·exact .inr (bK.of h)
inductive bO (d:Nat) (vs:List V) (H:Hp) (Q:VK) (E:XK):Prop
 | mk (x y:V) (_:vs=[x,y]) (_:Al H d x y) (_:∀H',ao H H'->Q (.bl true) H')
def aJ {k d:Nat} (G__law_same:bQ P w K mg base uz k T.iR T.iL ["_law_found","_law_due"] (bO d)):bQ P w K mg base uz (k+1) T.iR T.iL ["_law_found","_law_due"] (bO (d+1)):=by
 nomatch T.eL,["_law_found","_law_due"]
 let⟨x,y,rfl,al,kk⟩:=h;let sl:=yr;refine{_,(aa (az (PW.pt (cy (bb (bx (pv 1))) (bS (bb (bx (pv 0))))))
  (ai (aj (dY (iV (bx (pv 1))) (dB (iV (bx (pv 0)))))))
  ak)
  (aa (az (PW.pt (cy (bt (fC .bl (by decide +kernel) (pv 1) T.aT T.Bs)) (bS (bt (fC .bl (by decide +kernel) (pv 0) T.aT T.Bs)))))
  (ai (aj (dY (fC .bl (by decide +kernel) (pv 1) T.aT T.Bs) (dY (fC .bl (by decide +kernel) (pv 0) T.aT T.Bs) (dB (bH cb (pv 0) (pv 1) (cL _)))))))
  ak)
  (aa (az (bt (fC .int (by decide +kernel) (pv 1) T.aT T.GC))
  (ai (aj (dY (fC .int (by decide +kernel) (pv 0) T.aT T.GC) (dB (bH cb (pv 0) (pv 1) (cL _))))))
  ak)
  (aa (az (bt (fC .str (by decide +kernel) (pv 1) T.aT T.wU))
  (ai (aj (dY (fC .str (by decide +kernel) (pv 0) T.aT T.wU) (dB (bH cb (pv 0) (pv 1) (cL _))))))
  ak)
  (aa (az (PW.pt (cy (ptr iG (fC .tup (by decide +kernel) (pv 1) T.aT T.fb) (fC .tup (by decide +kernel) (pv 0) T.aT T.fb)) (bS (ptr iG (fC .lst (by decide +kernel) (pv 1) T.aT T.sX) (fC .lst (by decide +kernel) (pv 0) T.aT T.sX)))))
  (ai (aj cP))
  ak)
  (ai (aj (dY (bH cb (dP ay T.bz (ae (pv 0) ag)) (dP ay T.bz (ae (pv 1) ag)) (cL _)) (dB (dP (ju rfl) T.Dy (ae (nG (ts:=["_law_one","_law_other"]) (ys:=[]) (js:=[]) (g:=(L4 K 2 (tq (bj 0) (tq (bj 1) L5)))) (te:=(bD (bO d) [] E0 (ax (aB 0) (ax (aB 1) aQ)))) (JC (by rfl) T.ML (ae (pv 0) (ae (pv 1) ag))) (fB (n:=2) rfl (aK (lF 0) (aK (lF 1) dN))) bq (qX G__law_same hr rfl T.eL.g T.eL.F.kp T.eL.b .nil sL (ae (pv 0) (ae (pv 1) ag)))) ag))))))))))),?_}
 ac_rfl;rcases al with⟨rfl,rfl⟩ | ⟨i,rfl,rfl⟩ | ⟨i,rfl,rfl⟩ | ⟨p,q,b,xs,ys,rfl,rfl,hp,hq,hl,hz,ha⟩
 ·left
  exact kk _ (ao.refl _)
 ·left
  rw[zd rfl];exact kk _ (ao.refl _)
 ·left
  rw[zd rfl];exact kk _ (ao.refl _)
 ·let t1:∀c,c≠Ty.tup->c≠Ty.lst->(if b=true then Ty.tup else Ty.lst).sub c=false:=λc n1 n2=>by cases b <;> cases c <;> first | rfl | exact absurd rfl n1 | exact absurd rfl n2
  exists _,kD hq,?_;left;refine bp (t1 _ (λz=>nomatch z) (λz=>nomatch z)) ?_;exists _,kD hp,?_;left;refine bp (t1 _ (λz=>nomatch z) (λz=>nomatch z)) ?_;exists _,kD hq,?_;left;refine bp (t1 _ (λz=>nomatch z) (λz=>nomatch z)) ?_;exists _,kD hq,?_;left;refine bp (t1 _ (λz=>nomatch z) (λz=>nomatch z)) ?_;exists _,kD hq,?_;exists _,kD hp,?_;left;refine bp (by rw[zd rfl];rfl) ?_;exists _,kD hq,?_;exists _,kD hp,?_;left;refine bp (by rw[zd rfl];rfl) ?_;exists p,xs,rfl,Mz hp,?_;exists q,ys,rfl,Mz hq,?_;rw[hl];left;refine bo (zd rfl) ?_;exists b,b,p,q,xs,ys,rfl,pQ hp,pQ hq,?_;let zl:⇑(xs.zip ys)=⇑xs:=by rw[xh];ext
  refine mM (ws:=xs.zip ys) (λz x H'=>∃a,x=.ref a/\H' a=some (.tup [z.1,z.2])) (λ_=>.bl true) (λσ=>∃u v,σ=[u,v]) () {(none),none,rfl} ?_ ?_ ?_ ?_ ?_
  ·intro i H5 hi s5
   let i1:i<⇑xs:=()
   let i2:i<⇑ys:=()
   exact{xs,ys,xs[i],ys[i],pQ (s5 _ _ hp),pQ (s5 _ _ hq),zb i1,zb i2}
  ·intro H5 s5
   exact{xs,ys,pQ (s5 _ _ hp),pQ (s5 _ _ hq),Or.inl ()}
  ·rintro i x H5 H6 hi s5 ⟨a,u,v,ha',rfl,rfl,hu',hv'⟩
   let i1:i<⇑xs:=()
   let i2:i<⇑ys:=()
   let gu:=hu' xs (pQ (s5 _ _ hp));let gv:=hv' ys (pQ (s5 _ _ hq));rw[zb i1] at gu;rw[zb i2] at gv;cases gu;cases gv;exact{bW ha',a,rfl,by rw[aA,List.getElem_zip]}
  ·rintro z x σ H5 R hz' s5 ⟨a,rfl,ha'⟩ ⟨_,_,rfl⟩ rr
   refine{a,_,rfl,bK.of ha',rfl,?_};refine{_,_,rfl,_,_,rfl,rfl,?_};exists _,_,rfl,(ha z hz').mono s5,λH6 s6=>?_;exact rr _ _ _ s6 rfl {_,_,rfl}
  ·intro D5 vs5 H5 s5 hD5 il5
   let e5:(xs.zip ys).map (λ_=>Dt.bl true)=(List.replicate ⇑xs true).map Dt.bl:=by rw[List.map_const',zl,List.map_replicate]
   rw[e5] at il5;rw[jO il5] at hD5;refine{D5,List.replicate ⇑xs true,rfl,aE.of hD5,?_};rw[show(List.replicate ⇑xs true).all id=true from ye.mpr λx hx=>List.eq_of_mem_replicate hx];exact kk _ s5
def fR {k:Nat}:bQ P w K mg base uz k T.iR T.iL ["_law_found","_law_due"] (bO 0):=
 {λvs H Q E h=>by let⟨_,_,_,z,_⟩:=h;exact z.elim,λT outer s H args us vs Q E _ _ _ _ h=>by let⟨_,_,_,z,_⟩:=h;exact z.elim}
inductive fP (vs:List V) (H:Hp) (Q:VK) (E:XK):Prop
 | mk (t w:Str) (i:Nat) (_:vs=[.str t,.int (i:Nat),.str w]) (_:⇑t+2<=sizeLine) (_:RX {} 0 (Txt.split t "\n") (.bad i w)) (_:∀H',ao H H'->Q (.bl true) H')
def vg (B:Dk P w K T) (F:Cf K T.cY):cQ P w base 9 T.mT fP:=by
 nomatch T.mT,["_law_text","_law_place","_law_word","_law_caught","e"]
 let⟨t,w',i,rfl,tl,rx,kk⟩:=h;let sl:=yr;refine{_,(aa (bV 3 qN aH)
  (aa (LD (iW T B F) (hr.mono ∅) rfl T.cD.g T.cD.F.kp T.cD.b (ae (pv 0) ag) rfl qN (j:=4) rfl rfl rfl T.BG T.cH.sup T.vj T.Ct rfl rfl rfl (λe=>(ai (bV 3 qN (pv 4)))))
  (aa (az (PW.pt (cy (cp (bt (dP Ah T.aT (ae (pv 3) (ae (aU (v:=.ref T.aW) (by rfl) T.rE rfl) ag))))) (bS (cp (bt (dP Ah T.aT (ae (pv 3) (ae (GB (v:=.ty "ValueError") (by rfl) T.Bt (by decide +kernel) rfl) ag))))))))
  (ai (aj cP))
  ak)
  (aa (az (bt (dP FW T.aT (ae (pv 3) (ae (bw (ae (aU (v:=.ref T.lO) (by rfl) T.Hf rfl) (ae (aU (v:=.ref T.rg) (by rfl) T.Lc rfl) (ae (aU (v:=.ref T.dH) (by rfl) T.EF rfl) (ae (aU (v:=.ref T.jT) (by rfl) T.EE rfl) (ae (aU (v:=.ref T.lN) (by rfl) T.He rfl) ag)))))) ag))))
  (ai (aj cP))
  ak)
  (ai (aj (b4 (aJ T (aJ T (fR T (k:=0)))) hr T.eL (ae (aV (ae (MJ (pv 3) rfl) (ae (MJ (pv 3) rfl) ag))) (ae (aV (ae (pv 1) (ae (pv 2) ag))) ag))))))))),?_}
 ac_rfl;exists t,.bad i w',rfl,tl,rx,(λS z=>nomatch z),λi2 w2 z dx H1 s1 hd=>?_;cases z;refine{rfl,λa na=>?_};let s2:ao H1 (upd H1 a (Cr T.aW (some dx) a)):=bW na;let ha:upd H1 a (Cr T.aW (some dx) a) a=some (Cr T.aW (some dx) a):=aA;generalize upd H1 a (Cr T.aW (some dx) a)=H2 at s2 ha ⊢;let hd2:=s2 _ _ hd;let s02:=s1.trans s2;exists a,_,_,_,_,true,rfl,ha,T.cH.cls,.inl {_,rfl,rfl},J1,?_;exists a,_,_,_,_,true,rfl,ha,T.cH.cls,.inr {_,rfl,rfl},J0 T.xf.ve (by decide +kernel),?_;left
 skip
 refine{(by show 5<=sizeLine;ext),?_}
 intros p np s3 hp H3
 let s03:=s02.trans s3;refine{a,_,p,_,[T.lO,T.rg,T.dH,T.jT,T.lN],false,rfl,s3 _ _ ha,T.cH.cls,hp,J2 T.xf T.Hb T.K8 T.EB T.EA T.Ha,?_};left;let ha3:=s3 _ _ ha;let hd3:=s3 _ _ hd2;refine{a,_,dx,_,_,rfl,ha3,hd3,T.cH.cls,T.xf.hd,T.xf.np,rfl,?_};left;let hd3':=hd3;refine{a,_,dx,_,_,rfl,ha3,hd3,T.cH.cls,T.xf.hd,T.xf.nw,rfl,?_};left
 skip
 refine{(by show 2<=sizeLine;ext),?_}
 intros p4 n4 s4 h4 H4
 left
 skip
 refine{(by show 2<=sizeLine;ext),?_}
 intros p5 n5 s5 h5 H5
 left
 skip
 refine{_,_,rfl,.inr (.inr (.inr {p4,p5,false,_,_,rfl,rfl,s5 _ _ h4,h5,rfl,(by show 2<=1000000;decide),λz hz=>?_})),λH6 s6=>kk _ (((s03.trans s4).trans s5).trans s6)};rcases zy.mp hz with rfl | hz
 ·exact .inr (.inl {_,rfl,rfl})
 ·rw[zu.mp hz];exact .inr (.inr (.inl {_,rfl,rfl}))
structure KS (es:List Sc.End):Prop where
 len:⇑es<=9
 all:∀e∈es,⇑e.2<=11
inductive m9 (vs:List V) (H:Hp) (Q:VK) (E:XK):Prop
 | mk (f l t:Int) (v:V) (es:List Sc.End) (_:vs=[.int f,.int l,.int t,v]) (_:Is H (.tup (es.map fq)) v) (_:KS es) (_:0<=t) (_:t<=9) (_:∀H',ao H H'->Q (.bl (gz {(f),l,t,es})) H')
def NR {f l t:Int} {es:List Sc.End} (h:gr l es (f-1) (Co 1 t.toNat)=none):gz {(f),l,t,es}=false:=by unfold gz;dsimp only;rw[h]
def LQ {last a:Int} {e:Sc.End} {r:List Sc.End} {l:List Int} (c1:¬e.1<=a) (c2:¬last<e.1):gr last (e::r) a l=(dC e.2 none l).bind λl1=>gr last r e.1 l1:=by
 conv=>lhs;unfold gr
 rw[yD c1,yD c2];cases dC e.2 none l <;> rfl
noncomputable def NF (ps:List Int) (k:Nat):Option Int:=if k=0 then none else ps[k-1]?
def nQ:cQ P w base 1 T.ia m9:=by
 nomatch T.ia,["_law_first","_law_last","_law_times","_law_ends","_law_ahead","_law_left","_law_begin","_law_passes","_law_k","_law_one"]
 let⟨f,l,t,v,es,rfl,iv,eo,t0,t9,kk⟩:=h;let sl:=yr;obtain⟨ep,evs,rfl,hep,ile⟩:∃ep evs,v=.ref ep/\H ep=some (.tup evs)/\au H (es.map fq) evs:=by unfold Is at iv;exact iv
 let evl:=aM ile;refine{_,(aa (bV 4 qN (aC fE (pv 0) ah))
  (aa (bV 5 qN (C7 rfl (by rfl) T.sX (by rfl) T.jJ (ae ah (ae (aC dh (pv 2) ah) ag))))
  (aa (dX yF rfl (eY (pv 3)) (fB (n:=2) rfl (aK (kA 6 qN) (aK (kA 7 qN) dN)))
  (aa (az (PW.pt (cy (ptr gc (pv 6) (pv 4)) (bS (ptr eG (pv 6) (pv 1)))))
   (ai (aj cP))
   ak)
   (aa (bV 4 qN (pv 6))
   (ai (dX yF rfl (JE (by rfl) T.kQ (ae (pv 7) ag)) (fB (n:=2) rfl (aK (kA 8 qN) (aK (kA 9 qN) dN)))
   (aa (az (PW.pt (cy (jG dQ (pv 9) (pv 5) (by with_unfolding_all rfl)) (bS (PW.pt (dg (ptr eG (pv 8) ah) (cz (ptr gc (pv 9) (cE (pv 7) (aC fE (pv 8) ah)))))))))
    (ai (aj cP))
    ak)
    (ai (cT (cK yt PySem.F.slot_list_remove PySem.F.type_list_remove HI (pv 5) (ae (pv 9) ag))))))))))
  (ai (aj (C6 (bH (Fh hr.units) (pv 3) (bw ag) (cL _)) (dB (bH (Fh hr.units) (pv 5) (aV ag) (cL _))))))))),?_}
 ac_rfl;exists 1,t+1,rfl,{∅,(by decide),(),()},(),?_
 intros D nD s1 hD H1
 let et:(t+1-1).toNat=t.toNat:=()
 rw[et] at hD;let ne:D≠ep:=λz=>by rw[z,hep] at nD;cases nD
 exists{_,bK.of (s1 _ _ hep)},?_;refine qZ (K:=K) (a:=ep) (xs:=evs) (λi σ H'=>∃(a:Int) (left:List Int) (v6 v7 v8 v9:Option V),σ=[some (.int f),some (.int l),some (.int t),some (.ref ep),some (.int a),some (.ref D),v6,v7,v8,v9]/\ao H H'/\H' D=some (.lst (left.map V.int))/\⇑left<=9/\gr l es (f-1) (Co 1 t.toNat)=gr l (es.drop i) a left)
  {f-1,Co 1 t.toNat,none,none,none,none,rfl,s1,hD,(by unfold Co;rw[za,zM];ext),rfl} (λi σ H' _ h=>by let⟨_,_,_,_,_,_,_,z,_⟩:=h;exact bK.of (z _ _ hep)) ?_ ?_
 ·intro i x σ H3 hx hh
  refine fw λN kN0 kR0 _ _=>?_;let⟨a,left,v6,v7,v8,v9,rfl,s3,h3,ll,eg⟩:=hh;let⟨e,he,ie⟩:=dZ ile hx;let⟨b,q,rfl,hb,hq⟩:=hJ ie;let el:=eo.all e (zw he);let hb3:=s3 _ _ hb;let hq3:=s3 _ _ hq;rw[BH he] at eg;refine{b,_,rfl,bK.of hb3,rfl,?_};refine{_,_,rfl,{_,_,rfl,{rfl,?_}}};let kf:gr l es (f-1) (Co 1 t.toNat)=none->∀H',ao H H'->Q (.bl false) H':=λz H' s'=>by rw[<-NR z];exact kk H' s'
  left
  by_cases c1:e.1<=a
  ·refine bo (zd c1) ?_
   change kf (by rw[eg];exact yE c1) _ s3
  refine bp (zc c1) ?_;left
  by_cases c2:l<e.1
  ·refine bo (zd c2) ?_
   change kf (by rw[eg];unfold gr;rw[yD c1,yE c2]) _ s3
  refine bp (zc c2) ?_;left;refine Exists.intro q (Exists.intro _ (And.intro rfl (And.intro (bK.of hq3) ?_)));rw[LQ c1 c2] at eg;refine HR (K:=K) (a:=q) (xs:=e.2.map V.int) (λk σ H'=>∃(left':List Int) (v8 v9:Option V),σ=[some (.int f),some (.int l),some (.int t),some (.ref ep),some (.int e.1),some (.ref D),some (.int e.1),some (.ref q),v8,v9]/\ao H H'/\H' D=some (.lst (left'.map V.int))/\⇑left'<=9/\dC e.2 none left=dC (e.2.drop k) (NF e.2 k) left')
   {left,_,_,rfl,s3,h3,ll,rfl} (λk σ H' _ h=>by let⟨_,_,_,_,z,_⟩:=h;exact bK.of (z _ _ hq)) ?_ ?_
  ·rintro k x σ H4 p H5 hx ⟨left',v8,v9,rfl,s4,h4,l4,e4⟩ s45 hp5
   rw[zF] at hx;let⟨y,hy,rfl⟩:=Option.map_eq_some_iff.mp hx;let h5:=s45 _ _ h4;let s5:=s4.trans s45;rw[BH hy] at e4;refine{p,_,rfl,bK.of hp5,rfl,?_};refine{_,_,rfl,{_,_,rfl,{rfl,?_}}};exists D,_,rfl,.inl (aE.of h5),rfl,lM _,?_;rw[kX];left
   by_cases c3:y∈left'
   ·refine bp (by rw[yE rfl,zd c3];rfl) ?_
    let fin:Qi y (NF e.2 k)=false->dC e.2 none left=dC (e.2.drop (k+1)) (NF e.2 (k+1)) (left'.erase y):=λz=>by
     rw[e4,show NF e.2 (k+1)=some y from hy]
     conv=>lhs;unfold dC
     rw[yD (λw=>w c3),yD (by rw[z];exact zG)]
    let el5:=List.length_erase_of_mem c3;left
    by_cases c4:0<k
    ·refine bo (zd ()) ?_
     obtain⟨z,hz⟩:∃z,e.2[k-1]?=some z:={_,zb (show k-1<⇑e.2 by have:=(zt.mp hy).1;ext)}
     let ez:NF e.2 k=some z:=by unfold NF;rw[yD (),hz]
     left;refine{q,_,(k:Int)-1,V.int z,rfl,rfl,bK.of (s5 _ _ hq),(by rw[show(k:Int)-1=((k-1:Nat):Int) by ext];exact bC (by rw[zF,hz];rfl)),?_};left
     by_cases c5:y<=z
     ·refine bo (zd c5) ?_
      change kf (by rw[eg,e4,ez];unfold dC;rw[yD (λw=>w c3),yE (show Qi y (some z)=true from zd c5)];rfl) _ s5
     refine bp (zc c5) ?_;exists .inl {rfl,_,aE.of h5},?_;exists D,left',y,rfl,rfl,h5,c3,?_;change{left'.erase y,_,_,rfl,d8 nD s5,aA,(),fin (by rw[ez];exact zc c5)}
    ·refine bp (zc ()) ?_
     exists .inl {rfl,_,aE.of h5},?_;exists D,left',y,rfl,rfl,h5,c3,?_;change{left'.erase y,_,_,rfl,d8 nD s5,aA,(),fin (by unfold NF;rw[yE ()];rfl)}
   ·refine bo (by rw[yE rfl,zc c3];rfl) ?_
    change kf (by rw[eg,e4];unfold dC;rw[yE c3];rfl) _ s5
  ·rintro σ H4 ⟨left',v8,v9,rfl,s4,h4,l4,e4⟩
   rw[za,List.drop_length] at e4;let e4:dC e.2 none left=some left':=e4;rw[e4] at eg;change{e.1,left',_,_,_,_,rfl,s4,h4,l4,eg}
 ·rintro σ H3 ⟨a,left,v6,v7,v8,v9,rfl,s3,h3,ll,eg⟩
  rw[evl,List.drop_length] at eg;let le:gz ⟨f,l,t,es⟩=(decide (es=[])||decide (left=[])):=by unfold gz;dsimp only;rw[eg];rfl
  exists(by show 0<=sizeLine;ext),?_
  intros p6 n6 s6 h6 H6
  let s06:=s3.trans s6;refine{ep,p6,_,[],rfl,rfl,.inr {bK.of (s06 _ _ hep),bK.of h6},.inr (.inl rfl),?_};left
  by_cases c:es=[]
  ·refine bo (zd (by rw[<-yh,evl,c];rfl)) ?_
   rw[zd c,Bool.true_or] at le;left;rw[<-le];exact kk _ s06
  ·refine bp (zc (λz=>c (by rw[<-yh,<-evl,z];rfl))) ?_
   rw[zc c,Bool.false_or] at le;exists(by show 0<=sizeLine;ext),?_
   intros p7 n7 s7 h7 H7
   refine{D,p7,_,[],rfl,rfl,.inl {aE.of (s7 _ _ (s6 _ _ h3)),aE.of h7},.inr (.inl rfl),?_};let e7:decide (left.map V.int=[])=decide (left=[]):=by cases left <;> rfl
   left;rw[e7,<-le];exact kk _ (s06.trans s7)
inductive dW (vs:List V) (H:Hp) (Q:VK) (E:XK):Prop
 | mk (D:wM) (us:List V) (rs:List Rep) (jv:V) (jo:Option Jump) (v:V) (r:Rep) (_:vs=[.ref D,jv,v]) (_:H D=some (.lst us)) (_:au H (rs.map c9) us) (_:⇑rs<=20) (_:Is H (dO dn jo) jv) (_:Is H (c9 r) v) (_:KS r.ends) (_:0<=r.times) (_:r.times<=9) (_:∀H',ao H H'->Q (.bl (jo.isNone&&cV rs r)) H')
def lT:cQ P w base 2 T.fL dW:=by
 nomatch T.fL,["_law_repeats","_law_jump","_law_repeat","_law_first","_law_last","_law_times","_law_ends","_law_one"]
 let⟨D,us,rs,jv,jo,v,r,rfl,hD,il,rl,ij,iv,eo,t0,t9,kk⟩:=h;let sl:=yr;let⟨a,ep,rfl,ha,ie⟩:=cS iv;let ul:=aM il;refine{_,(aa (A9 (pv 2) (fB (n:=4) rfl (aK (kA 3 qN) (aK (kA 4 qN) (aK (kA 5 qN) (aK (kA 6 qN) dN))))))
  (aa (az (PW.pt (cy (bb (iF (pv 1))) (bS (ptr eG (pv 3) (pv 4)))))
  (ai (aj cP))
  ak)
  (aa (dX yF rfl (b7 (pv 0)) (kA 7 qN)
  (ai (az (ptr gc (pv 3) (cE (pv 7) ah))
   (ai (aj cP))
   ak)))
  (ai (aj (b4 (nQ T) hr T.ia (ae (pv 3) (ae (pv 4) (ae (pv 5) (ae (pv 6) ag)))))))))),?_}
 ac_rfl;exists a,_,rfl,bK.of ha,rfl,?_;refine{_,_,rfl,{_,_,rfl,{_,_,rfl,{_,_,rfl,{rfl,?_}}}}};cases jo with
 | some j=>
  let⟨ja,rfl,hj⟩:=fe (j:=j) ij;change kk _ (ao.refl _)
 | none=>
 obtain rfl:jv=.aX:=by unfold dO Is at ij;exact ij
 let kk:∀H',ao H H'->Q (.bl (cV rs r)) H':=λH' s'=>kk H' s';left
 by_cases c1:r.last<r.first
 ·refine bo (zd c1) ?_
  left;let e:cV rs r=false:=by unfold cV;rw[zc (),yJ]
  rw[<-e];exact kk _ (ao.refl _)
 refine bp (zc c1) ?_;exists{_,aE.of hD},?_;refine jk (K:=K) (a:=D) (xs:=us) (λi σ H'=>∃(v7:Option V),σ=[some (.ref D),some .aX,some (.ref a),some (.int r.first),some (.int r.last),some (.int r.times),some (.ref ep),v7]/\ao H H'/\∀q∈rs.take i,q.last<r.first) {none,rfl,ao.refl _,λ_ z=>by rw[List.take_zero] at z;cases z} (λi σ H' _ h=>by let⟨_,_,z,_⟩:=h;exact aE.of (z _ _ hD)) ?_ ?_
 ·intro i x σ H3 hx hh
  refine fw λN kN0 kR0 _ _=>?_;let⟨v7,rfl,s3,al⟩:=hh;let⟨q,hq,iq⟩:=dZ il hx;let⟨qa,qe,rfl,hqa,_⟩:=cS iq;let hqa3:=s3 _ _ hqa;left
  by_cases c2:r.first<=q.last
  ·refine bo (zd c2) ?_
   left;let e:cV rs r=false:=by unfold cV;rw[show rs.all (λq=>decide (q.last<r.first))=false from List.all_eq_false.mpr {q,zw hq,by simp;exact c2},yJ,x8]
   rw[<-e];exact kk _ s3
  refine bp (zc c2) ?_;exists s3,λz hz=>?_;rw[fN hq] at hz;rcases zB.mp hz with hz | hz
  ·exact al z hz
  ·rw[zu.mp hz];ext
 ·rintro σ H3 ⟨v7,rfl,s3,al⟩
  rw[ul,zI] at al;let e:cV rs r=gz r:=by unfold cV;rw[zd (show r.first<=r.last by ext),show rs.all (λq=>decide (q.last<r.first))=true from ye.mpr λx hx=>zd (al x hx),yL,yL]
  exists _,_,_,_,r.ends,rfl,ie.mono s3,eo,t0,t9,λH4 s4=>?_;have:=kk _ (s3.trans s4);rw[e] at this;exact this
def dV (a b:Int):decide (V.int a=V.int b)=decide (a=b):=decide_eq_decide.mpr {V.int.inj,yP V.int}
inductive uJ (vs:List V) (H:Hp) (Q:VK) (E:XK):Prop
 | mk (D:wM) (us:List V) (rs:List Rep) (b:Int) (_:vs=[.ref D,.int b]) (_:H D=some (.lst us)) (_:au H (rs.map c9) us) (_:⇑rs<=20) (_:∀p H',ao H H'->H' p=some (.tup [.bl (gY rs b).1,.bl (gY rs b).2.1,.bl (gY rs b).2.2])->Q (.ref p) H')
def fQ:cQ P w base 1 T.fK uJ:=by
 nomatch T.fK,["_law_repeats","_law_bar","_law_inside","_law_begins","_law_closes","_law_last_pass","_law_first","_law_last","_law_times","_law_ends","_law_begin","_law_passes"]
 let⟨D,us,rs,b,rfl,hD,il,rl,kk⟩:=h;let sl:=yr;let ul:=aM il;refine{_,(aa (bV 2 qN cP)
  (aa (bV 3 qN cP)
  (aa (bV 4 qN cP)
  (aa (bV 5 qN cP)
  (aa (dX yF rfl (b7 (pv 0)) (fB (n:=4) rfl (aK (kA 6 qN) (aK (kA 7 qN) (aK (kA 8 qN) (aK (kA 9 qN) dN)))))
  (ai (az (C2 gc gc (pv 6) (pv 1) (pv 7))
   (aa (bV 2 qN cP)
    (aa (bV 3 qN (bH cb (pv 1) (pv 6) (cL _)))
    (aa (bV 4 qN (bH cb (pv 1) (pv 7) (cL _)))
    (ai (dX yF rfl (eY (pv 9)) (fB (n:=2) rfl (aK (kA 10 qN) (aK (kA 11 qN) dN)))
    (ai (az (ptr gc (pv 10) (pv 1))
     (ai (bV 5 qN (bH o7 (pv 8) (pv 11) (by with_unfolding_all rfl))))
     ak)))))))
   ak)))
  (ai (aj (bw (ae (C6 (JF (pv 2)) (dB (pv 3))) (ae (C6 (JF (pv 2)) (dB (pv 4))) (ae (pv 5) ag))))))))))),?_}
 ac_rfl;exists{_,aE.of hD},?_;refine jk (K:=K) (a:=D) (xs:=us) (λi σ H'=>∃(v6 v7 v8 v9 v10 v11:Option V),σ=[some (.ref D),some (.int b),some (.bl ((rs.take i).foldl (pP b) rj).ins),some (.bl ((rs.take i).foldl (pP b) rj).PY),some (.bl ((rs.take i).foldl (pP b) rj).PX),some (.bl ((rs.take i).foldl (pP b) rj).IC),v6,v7,v8,v9,v10,v11]/\ao H H') {none,none,none,none,none,none,rfl,ao.refl _} (λi σ H' _ h=>by let⟨_,_,_,_,_,_,_,z⟩:=h;exact aE.of (z _ _ hD)) ?_ ?_
 ·intro i x σ H3 hx hh
  refine fw λN kN0 kR0 _ _=>?_;let⟨v6,v7,v8,v9,v10,v11,rfl,s3⟩:=hh;let⟨r,hr',ir⟩:=dZ il hx;let⟨ra,ep,rfl,hra,ie⟩:=cS ir;obtain⟨ep',evs,e0,hep,ile⟩:∃ep' evs,V.ref ep=.ref ep'/\H ep'=some (.tup evs)/\au H (r.ends.map fq) evs:=by unfold Is at ie;exact ie
  cases e0;let evl:=aM ile;let hep3:=s3 _ _ hep;let st:(rs.take (i+1)).foldl (pP b) rj=pP b ((rs.take i).foldl (pP b) rj) r:=by rw[fN hr',zQ];rfl
  generalize hs:(rs.take i).foldl (pP b) rj=s at st;refine{ra,_,rfl,bK.of (s3 _ _ hra),rfl,?_};refine{_,_,rfl,{_,_,rfl,{_,_,rfl,{_,_,rfl,{rfl,?_}}}}};left;let no:¬(r.first<=b/\b<=r.last)->∃(v6 v7 v8 v9 v10' v11':Option V),[some (.ref D),some (.int b),some (.bl s.ins),some (.bl s.PY),some (.bl s.PX),some (.bl s.IC),some (.int r.first),some (.int r.last),some (.int r.times),some (.ref ep),v10,v11]=[some (V.ref D),some (.int b),some (.bl ((rs.take (i+1)).foldl (pP b) rj).ins),some (.bl ((rs.take (i+1)).foldl (pP b) rj).PY),some (.bl ((rs.take (i+1)).foldl (pP b) rj).PX),some (.bl ((rs.take (i+1)).foldl (pP b) rj).IC),v6,v7,v8,v9,v10',v11']/\ao H H3:=λz=>{_,_,_,_,_,_,by rw[st,show pP b s r=s from yD z],s3}
  by_cases c1:r.first<=b
  ·refine bo (zd c1) ?_
   left
   by_cases c2:b<=r.last
   ·refine bo (zd c2) ?_
    exists{_,bK.of hep3},?_;refine qZ (K:=K) (a:=ep) (xs:=evs) (λk σ H'=>∃(v10 v11:Option V),σ=[some (.ref D),some (.int b),some (.bl true),some (.bl (decide (V.int b=V.int r.first))),some (.bl (decide (V.int b=V.int r.last))),some (.bl ((r.ends.take k).foldl (uy b r.times) s.IC)),some (.int r.first),some (.int r.last),some (.int r.times),some (.ref ep),v10,v11]/\ao H H') {(v10),v11,rfl,s3} (λk σ H' _ h=>by let⟨_,_,_,z⟩:=h;exact bK.of (z _ _ hep)) ?_ ?_
    ·intro k x σ H4 hx hh
     refine fw λN kN1 kR1 _ _=>?_;let⟨v10,v11,rfl,s4⟩:=hh;let⟨e,he,ie'⟩:=dZ ile hx;let⟨ea,q,rfl,hea,hq⟩:=hJ ie';let fs:(r.ends.take (k+1)).foldl (uy b r.times) s.IC=uy b r.times ((r.ends.take k).foldl (uy b r.times) s.IC) e:=by rw[fN he,zQ];rfl
     refine{ea,_,rfl,bK.of (s4 _ _ hea),rfl,?_};refine{_,_,rfl,{_,_,rfl,{rfl,?_}}};left
     by_cases c3:e.1<=b
     ·refine bo (zd c3) ?_
      exists q,_,rfl,.inr (bK.of (s4 _ _ hq)),rfl,lM _,?_;rw[kX];let fs:(r.ends.take (k+1)).foldl (uy b r.times) s.IC=decide (r.times∈e.2):=by rw[fs];exact yE c3
      left;rw[fs];exact{_,_,rfl,s4}
     ·refine bp (zc c3) ?_
      let fs:(r.ends.take (k+1)).foldl (uy b r.times) s.IC=(r.ends.take k).foldl (uy b r.times) s.IC:=by rw[fs];exact yD c3
      left;rw[fs];exact{_,_,rfl,s4}
    ·rintro σ H4 ⟨v10,v11,rfl,s4⟩
     rw[evl,zI,dV,dV];left;rw[st,show pP b s r=_ from yE {(c1),c2}];exact{_,_,_,_,_,_,rfl,s4}
   ·refine bp (zc c2) ?_
    change no λz=>c2 z.2
  ·refine bp (zc c1) ?_
   change no λz=>c1 z.1
 ·rintro σ H3 ⟨v6,v7,v8,v9,v10,v11,rfl,s3⟩
  rw[ul,zI];let e:gY rs b=(!(rs.foldl (pP b) rj).ins||(rs.foldl (pP b) rj).PY,!(rs.foldl (pP b) rj).ins||(rs.foldl (pP b) rj).PX,(rs.foldl (pP b) rj).IC):=rfl;rw[e] at kk;generalize rs.foldl (pP b) rj=s at kk;let⟨si,sb,sc,sl'⟩:=s;cases si
  ·left
   refine{(by show 3<=sizeLine;ext),?_}
   intros p n s4 h4 H4
   exact kk p _ (s3.trans s4) h4
  ·left
   refine{(by show 3<=sizeLine;ext),?_}
   intros p n s4 h4 H4
   exact kk p _ (s3.trans s4) h4
def Rl {rs:List Rep} {j:Jump} (h:(gY rs j.ky).2.1=false\/(gY rs j.l6).1=false\/(gY rs j.aY).2.2=false):cB rs j=false:=by
 unfold cB
 by_cases c:¬(j.l6<=j.aY/\j.aY<=j.ky)
 ·rw[yE c]
 ·rw[yD c,yE h]
def Sa {rs:List Rep} {j:Jump} (c:j.l6<=j.aY/\j.aY<=j.ky) (h:¬((gY rs j.ky).2.1=false\/(gY rs j.l6).1=false\/(gY rs j.aY).2.2=false)):(j.eM=none->cB rs j=true)/\∀d,j.eM=some d->cB rs j=(decide (j.ky<d)&&((gY rs d).1&&(gY rs d).2.2)):=by
 unfold cB;rw[yD (λz=>z c),yD h];exact{λe=>by rw[e],λd e=>by rw[e]}
inductive eV (vs:List V) (H:Hp) (Q:VK) (E:XK):Prop
 | mk (D:wM) (us:List V) (rs:List Rep) (v:V) (j:Jump) (_:vs=[.ref D,v]) (_:H D=some (.lst us)) (_:au H (rs.map c9) us) (_:⇑rs<=20) (_:Is H (dn j) v) (_:∀H',ao H H'->Q (.bl (cB rs j)) H')
def nO:cQ P w base 2 T.hZ eV:=by
 nomatch T.hZ,["_law_repeats","_law_jump","_law_at","_law_to","_law_until","_law_coda","_law_begins","_law_closes","_law_steady"]
 let⟨D,us,rs,v,j,rfl,hD,il,rl,iv,kk⟩:=h;let sl:=yr;let⟨a,rfl,ha⟩:=fe iv;refine{_,(aa (A9 (pv 1) (fB (n:=4) rfl (aK (kA 2 qN) (aK (kA 3 qN) (aK (kA 4 qN) (aK (kA 5 qN) dN))))))
  (aa (az (cp (C2 gc gc (pv 3) (pv 4) (pv 2)))
  (ai (aj cP))
  ak)
  (aa (az (PW.pt (cy (cp (bt (cE (b4 (fQ T) hr T.fK (ae (pv 0) (ae (pv 2) ag))) ah))) (cy (cp (bt (cE (b4 (fQ T) hr T.fK (ae (pv 0) (ae (pv 3) ag))) ah))) (bS (cp (bt (cE (b4 (fQ T) hr T.fK (ae (pv 0) (ae (pv 4) ag))) ah)))))))
  (ai (aj cP))
  ak)
  (aa (az (bb (bx (pv 5)))
  (ai (aj cP))
  ak)
  (aa (A9 (b4 (fQ T) hr T.fK (ae (pv 0) (ae (pv 5) ag))) (fB (n:=3) rfl (aK (kA 6 qN) (aK (kA 7 qN) (aK (kA 8 qN) dN)))))
  (ai (aj (dY (bH eZ (pv 2) (pv 5) (cL _)) (dY (pv 6) (dB (pv 8))))))))))),?_}
 ac_rfl;exists a,_,rfl,bK.of ha,rfl,?_;refine{_,_,rfl,{_,_,rfl,{_,_,rfl,{_,_,rfl,{rfl,?_}}}}};let kf:cB rs j=false->∀H',ao H H'->Q (.bl false) H':=λz H' s'=>by rw[<-z];exact kk H' s'
 left
 by_cases c1:¬j.l6<=j.aY
 ·refine bp (zc c1) ?_
  change kf (by unfold cB;rw[yE (λz=>c1 z.1)]) _ (ao.refl _)
 refine bo (zd (Decidable.not_not.mp c1)) ?_;left;let c1:j.l6<=j.aY:=Decidable.not_not.mp c1
 by_cases c2:¬j.aY<=j.ky
 ·rw[zc c2]
  change kf (by unfold cB;rw[yE (λz=>c2 z.2)]) _ (ao.refl _)
 let c2:j.aY<=j.ky:=Decidable.not_not.mp c2;rw[zd c2];exists D,us,rs,_,rfl,hD,il,rl,λp1 H1 s1 h1=>?_;left;cases b1:(gY rs j.ky).2.1 with
 | false=>
  change kf (Rl (.inl b1)) _ s1
 | true=>
 exists D,us,rs,_,rfl,s1 _ _ hD,il.mono s1,rl,λp2 H2 s2 h2=>?_;let s02:=s1.trans s2;left;cases b2:(gY rs j.l6).1 with
 | false=>
  change kf (Rl (.inr (.inl b2))) _ s02
 | true=>
 exists D,us,rs,_,rfl,s02 _ _ hD,il.mono s02,rl,λp3 H3 s3 h3=>?_;let s03:=s02.trans s3;left;cases b3:(gY rs j.aY).2.2 with
 | false=>
  change kf (Rl (.inr (.inr b3))) _ s03
 | true=>
 let⟨en,es⟩:=Sa (rs:=rs) (j:=j) {(c1),c2} (by rw[b1,b2,b3];simp);cases ec:j.eM with
 | none=>
  left;rw[<-en ec];exact kk _ s03
 | some d=>
 exists D,us,rs,d,rfl,s03 _ _ hD,il.mono s03,rl,λp4 H4 s4 h4=>?_;refine{p4,_,rfl,bK.of h4,rfl,?_};refine{_,_,rfl,{_,_,rfl,{_,_,rfl,{rfl,?_}}}};let kk:=kk _ (s03.trans s4);rw[es d ec] at kk;left
 by_cases c5:j.ky<d
 ·refine bo (zd c5) ?_
  rw[zd c5,yL] at kk;cases b5:(gY rs d).1 with
  | false=>
   rw[b5] at kk;change kk
  | true=>
   rw[b5] at kk;change kk
 ·refine bp (zc c5) ?_
  rw[zc c5] at kk;exact kk
structure Mo (r:Rep):Prop where
 tok:KL (.rep r)
 es:KS r.ends
def tE {e:Sc.End} (h:RJ e) (hl:⇑e.2<=11):⇑(lU e)<=80:=by
 let⟨h1,h2,h3,h4⟩:=h;let a:=dG (n:=e.1) () ();let b:(Str.join "," (e.2.map dec)).length<=⇑(e.2.map dec)*(5+(",": Str).length):=tf λz hz=>by
  let⟨p,hp,rfl⟩:=zC.mp hz;have:=h4 p hp;exact dG () ()
 let l1:(":": Str).length=1:=rfl;let l2:(",": Str).length=1:=rfl;rw[za,l2] at b;unfold lU;rw[len_app,len_app];ext
inductive dU (vs:List V) (H:Hp) (Q:VK) (E:XK):Prop
 | mk (v:V) (r:Rep) (_:vs=[v]) (_:Is H (c9 r) v) (_:Mo r) (_:∀H',ao H H'->Q (.str (rowOf (.rep r))) H')
noncomputable def w4 (r:Rep):List Str:=["repeat",dec r.first,dec r.last,dec r.times]
def gq:cQ P w base 1 T.dS dU:=by
 nomatch T.dS,["_law_repeat","_law_words","_law_begin","_law_passes"]
 let⟨v,r,rfl,iv,⟨⟨f1,f2,f3,f4,f5⟩,el,pl⟩,kk⟩:=h;let sl:=yr;let⟨a,ep,rfl,ha,ie⟩:=cS iv;obtain⟨ep',evs,e0,hep,ile⟩:∃ep' evs,V.ref ep=.ref ep'/\H ep'=some (.tup evs)/\au H (r.ends.map fq) evs:=by unfold Is at ie;exact ie
 cases e0;let evl:=aM ile;let n1:=gK (n:=r.first) (by have:=f1.1;ext) (by have:=f1.2;ext);let n2:=gK (n:=r.last) (by have:=f2.1;ext) (by have:=f2.2;ext);let n3:=gK (n:=r.times) () ();refine{_,(aa (bV 1 qN (aC eC (aV (ae aG ag)) (nG (ts:=["_law_number"]) (ys:=[]) (js:=[]) (te:=(oH NC (ax (aB 0) aQ))) (eY (cA Gv (pv 0) dj (di ah))) (lF 0) bq (Ex gC T.wU (ae (pv 0) ag)))))
  (aa (dX yF rfl (eY (cE (pv 0) ah)) (fB (n:=2) rfl (aK (kA 2 qN) (aK (kA 3 qN) dN)))
  (ai (cT (cK yt yv yu cM (pv 1) (ae (aC sN (aC sN (Ex gC T.wU (ae (pv 2) ag)) aG) (cK yw yy yx lG aG (ae (nG (ts:=["_law_one"]) (ys:=[]) (js:=[]) (te:=(oH NC (ax (aB 0) aQ))) (eY (pv 3)) (lF 0) bq (Ex gC T.wU (ae (pv 0) ag))) ag))) ag)))))
  (ai (aj (cK yw yy yx lG aG (ae (pv 1) ag)))))),?_}
 ac_rfl;exists(by show 1<=sizeLine;ext),?_
 intros W0 n0 s0 h0 H0
 let ha0:=s0 _ _ ha;left;refine .inl {a,_,rfl,bK.of ha0,(by show¬(HT.de 4 0 none=0/\HT.de 4 4 (some 3)=4);decide),?_}
 intros p1 q1 s1 h1 H1
 let h1:H1 p1=some (.tup ([r.first,r.last,r.times].map V.int)):=h1;exists{_,bK.of h1},?_;refine cX (enc:=V.int) (ws:=[r.first,r.last,r.times]) (λz=>.str (dec z)) (λσ=>∃v,σ=[v]) (by show 3<=_;ext) h1 {(none),rfl} ?_ ?_
 ·rintro z σ H4 R hz s4 ⟨_,rfl⟩ rr
  let nz:z.natAbs.log2<1920:=by
   rcases zy.mp hz with rfl | hz
   ·exact n1
   rcases zy.mp hz with rfl | hz
   ·exact n2
   rw[zu.mp hz];exact n3
  exists nz,?_;exact rr _ _ _ (ao.refl _) jP {_,rfl}
 intro D vs H2 s2 hD il;rw[show [r.first,r.last,r.times].map (λz=>Dt.str (dec z))=([r.first,r.last,r.times].map dec).map Dt.str from rfl] at il;rw[gA il] at hD;exists W0,D,_,_,rfl,rfl,aE.of (s2 _ _ (s1 _ _ h0)),aE.of hD,(by show 1+3<=_;ext),?_
 intros W nW' s3' h2 H3'
 let h2:H3' W=some (.lst ((w4 r).map V.str)):=h2;let nW:H W=none:=((s0.trans s1).trans s2).free nW';let s02:ao H H3':=((s0.trans s1).trans s2).trans s3';let ha2:=s02 _ _ ha;exists{_,bK.of (s02 _ _ hep)},?_;refine qZ (K:=K) (a:=ep) (xs:=evs) (λi σ H'=>∃(v2 v3:Option V),σ=[some (.ref a),some (.ref W),v2,v3]/\ao H H'/\H' W=some (.lst ((w4 r++(r.ends.take i).map lU).map V.str))) {none,none,rfl,s02,by rw[List.take_zero,yc,zP];exact h2} (λi σ H' _ h=>by let⟨_,_,_,z,_⟩:=h;exact bK.of (z _ _ hep)) ?_ ?_
 ·intro i x σ H3 hx hh
  refine fw λN kN0 kR0 _ _=>?_;let⟨v2,v3,rfl,s3,h3⟩:=hh;let⟨e,he,ie⟩:=dZ ile hx;let⟨b,q,rfl,hb,hq⟩:=hJ ie;let eo:=f5 e (zw he);let pe:=pl e (zw he);let hb3:=s3 _ _ hb;let tk:r.ends.take (i+1)=r.ends.take i++[e]:=fN he;let ib:i<⇑r.ends:=(zt.mp he).1;let nb:=gK (n:=e.1) (by have:=eo.1;ext) (by have:=eo.2.1;ext);let lb:=dG (n:=e.1) (by have:=eo.1;ext) (by have:=eo.2.1;ext);refine{b,_,rfl,bK.of hb3,rfl,?_};refine{_,_,rfl,{_,_,rfl,{rfl,?_}}};exists .inl {rfl,_,aE.of h3},?_;exists nb,?_;exists by show(dec e.1).length+(":": Str).length<=_;have:(":": Str).length=1:=rfl;ext,?_
  exists{_,bK.of (s3 _ _ hq)},?_;refine cX (enc:=V.int) (ws:=e.2) (λz=>.str (dec z)) (λσ=>∃v,σ=[v]) () (s3 _ _ hq) {(none),rfl} ?_ ?_
  ·rintro z σ H4 R hz s4 ⟨_,rfl⟩ rr
   have:=eo.2.2.2 z hz;exists gK () (),?_;exact rr _ _ _ (ao.refl _) jP {_,rfl}
  ·intro D vs H4 s4 hD il
   let e1:e.2.map (λz=>Dt.str (dec z))=(e.2.map dec).map Dt.str:=by rw[zv];rfl
   rw[e1] at il;rw[gA il] at hD;let l5:∀z∈e.2.map dec,⇑z<=5:=λz hz=>by
    let⟨p,hp,rfl⟩:=zC.mp hz;have:=eo.2.2.2 p hp;exact dG () ()
   let l9:⇑(e.2.map dec)<=11:=by rw[za];exact pe
   let sb:=oI (sep:=",") l5;let jb:=tf (sep:=",") l5;let mb:⇑(e.2.map dec)*(5+(",": Str).length)<=11*(5+1):=x6 l9 (zh _);refine{",",D,_,rfl,rfl,aE.of hD,zH sb (zH mb ()),?_};refine{_,_,rfl,rfl,?_,?_}
   ·show(dec e.1 ++":").length+(Str.join "," (e.2.map dec)).length<=sizeLine
    rw[len_app];have:(":": Str).length=1:=rfl;ext
   let h34:=s4 _ _ h3;let s04:=s3.trans s4;left;refine{W,_,_,rfl,rfl,h34,?_,?_}
   ·rw[za,ze,za,zL]
    show 4+_<_;ext
   exists _,_,rfl,d8 nW s04,?_;let ew:(w4 r++(r.ends.take (i+1)).map lU).map V.str=(w4 r++(r.ends.take i).map lU).map V.str++[V.str (lU e)]:=by
    rw[tk,zg (f:=lU),<-zA,zg (f:=V.str)];rfl
   rw[aA,ew];rfl
 ·rintro σ H3 ⟨v2,v3,rfl,s3,h3⟩
  rw[evl,zI] at h3;left;let ll:∀z∈w4 r++r.ends.map lU,⇑z<=80:=λz hz=>by
   rcases zB.mp hz with y | y
   ·unfold w4 at y
    simp only[zy,zz,yK] at y;rcases y with rfl | rfl | rfl | rfl
    ·decide
    ·have:=dG (n:=r.first) (by have:=f1.1;ext) (by have:=f1.2;ext);ext
    ·have:=dG (n:=r.last) (by have:=f2.1;ext) (by have:=f2.2;ext);ext
    ·have:=dG (n:=r.times) () ();ext
   ·let⟨e,he,rfl⟩:=zC.mp y
    exact tE (f5 e he) (pl e he)
  let sb:=oI (sep:=" ") ll;refine{" ",W,_,rfl,rfl,aE.of h3,?_,?_}
  ·let l4:⇑(w4 r++r.ends.map lU)<=13:=by rw[ze,za];show 4+_<=13;ext
   exact zH sb (zH (x6 l4 (zh _)) (by show 13*(80+1)<=sizeLine;ext))
  exact kk _ s3
def J3 {j:Jump} (h:KL (.bA j)):∀z∈Sc.wordsOf (.bA j),⇑z<=100:=by
 let q:∀{n:Int},NB n->⇑(dec n)<=100:=λ{n} h=>zH (dG (by have:=h.1;ext) (by have:=h.2;ext)) ∅;refine all_cons ∅ (all_cons (q h.1) (all_cons (q h.2.1) (all_cons (q h.2.2.1) (all_cons ?_ all_nil))));show(ctxt j.eM).length<=100;cases ec:j.eM with
 | none=>decide
 | some c=>exact q (h.2.2.2 c ec)
inductive eU (vs:List V) (H:Hp) (Q:VK) (E:XK):Prop
 | mk (v:V) (j:Jump) (_:vs=[v]) (_:Is H (dn j) v) (_:KL (.bA j)) (_:∀H',ao H H'->Q (.str (rowOf (.bA j))) H')
def nN:cQ P w base 1 T.hX eU:=by
 nomatch T.hX,["_law_jump"]
 let⟨v,j,rfl,iv,tok,kk⟩:=h;let sl:=yr;let⟨a,rfl,ha⟩:=fe iv;refine{_,(ai (aj (cK yw yy yx lG aG (ae (aC eC (aV (ae aG ag)) (nG (ts:=["_law_number"]) (ys:=[]) (js:=[]) (te:=(QS (tB (uD (aB 0))) (tC (.str "end")) (oH NC (ax (aB 0) aQ)))) (eY (pv 0)) (lF 0) bq (C8 (bb (bx (pv 0))) aG (Ex gC T.wU (ae (pv 0) ag))))) ag)))),?_};ac_rfl;exists(by show 1<=sizeLine;ext),?_
 intros W0 n0 s0 h0 H0
 let ha0:=s0 _ _ ha;exists{_,bK.of ha0},?_;refine cX (enc:=ov) (ws:=[some j.ky,some j.l6,some j.aY,j.eM]) (λz=>.str (ctxt z)) (λσ=>∃v,σ=[v]) (by show 4<=_;ext) ha0 {(none),rfl} ?_ ?_
 ·rintro z σ H4 R hz s4 ⟨_,rfl⟩ rr
  let nz:∀n,z=some n->NB n:=λn e=>by
   rcases zy.mp hz with y | hz
   ·rw[y] at e;cases e;exact tok.1
   rcases zy.mp hz with y | hz
   ·rw[y] at e;cases e;exact tok.2.1
   rcases zy.mp hz with y | hz
   ·rw[y] at e;cases e;exact tok.2.2.1
   rw[zu.mp hz] at e;exact tok.2.2.2 n e
  cases z with
  | none=>
   change rr _ _ _ (ao.refl _) jP {_,rfl}
  | some n=>
   have:=nz n rfl;exists gK (by have:=this.1;ext) (by have:=this.2;ext),?_;exact rr _ _ _ (ao.refl _) jP {_,rfl}
 intro D vs H2 s2 hD il;let e1:[some j.ky,some j.l6,some j.aY,j.eM].map (λz=>Dt.str (ctxt z))=([some j.ky,some j.l6,some j.aY,j.eM].map ctxt).map Dt.str:=rfl;rw[e1] at il;rw[gA il] at hD;exists W0,D,_,_,rfl,rfl,aE.of (s2 _ _ h0),aE.of hD,(by show 1+4<=_;ext),?_
 intros W nW s3 h3 H3
 let h3:H3 W=some (.lst ((Sc.wordsOf (.bA j)).map V.str)):=by
  rw[h3];rfl
 let wl:∀z∈Sc.wordsOf (.bA j),⇑z<=100:=J3 tok;let sm:=oI (sep:=" ") wl;let ww:⇑(Sc.wordsOf (.bA j))=5:=rfl;left;refine{" ",W,_,rfl,rfl,aE.of h3,?_,kk _ ((s0.trans s2).trans s3)};rw[ww] at sm;let e1:5*(100+(" ": Str).length)=5*101:=rfl;ext
def A8 {X:Cx} {o i e:Expr} {to ti te:TE} {pos tpos:Pos} (ho:PE X o to) (hi:PE X i ti) (he:PE X e te)
  (ha:(∀v,assign (.Subscript o i tpos) X.env v=(do
   let ov <-holding [v] (eval o X.env)
   let iv <-holding [v,ov] (eval i X.env)
   standAt tpos
   holding [v,ov,iv] (setItem ov iv v)
   release [v,ov,iv] []))<|>qd_) (hs:swapsWithSole [.Subscript o i tpos] e pos.line X.env=pure false<|>qe_) (hw:swappedStores [.Subscript o i tpos] e X.env=pure none<|>qe_)
  (h1:(assignEach [.Subscript o i tpos] X.env).map (·.2)=[assign (.Subscript o i tpos) X.env]<|>qe_):PS X (.Assign [.Subscript o i tpos] e pos) (cR te (Ke to ti CZ)):=A9 he (NJ ho hi set_list ha) hs hw h1
def Ea {lo:Int} {n:Nat} {σ₀:St} {Q:VK} {H1:Hp} (hn:n<=sizeLine) (h0:∃v,σ₀=[v])
  (fin:∀(D:wM) (qs:List wM) (H:Hp),ao H1 H->H1 D=none->H D=some (.lst (qs.map V.ref))->qs.Nodup->D∉qs->⇑qs=n->(∀q∈qs,H1 q=none/\H q=some (.lst []))->Q (.ref D) H):du σ₀ (bj 0) uC (oG aQ) Q (KZ lo n) H1:=by
 refine{λi m ys σ H=>m=n-i/\i<=n/\⇑ys=i/\(∃v,σ=[v])/\ao H1 H/\∃qs:List wM,ys=qs.map V.ref/\qs.Nodup/\∀q∈qs,H1 q=none/\H q=some (.lst []),{_,rfl,zX _,rfl,h0,ao.refl _,[],rfl,xH,λ_ h=>(nomatch h)},?_};rintro i m ys σ H ⟨rfl,hi,hx,⟨v,rfl⟩,sm,qs,rfl,nd,hq⟩;rw[za] at hx;rcases xl i n with hlt | hge
 ·refine .inr {hlt,by rw[za];ext,?_}
  rintro x H2 ⟨rfl,rfl⟩;refine{zX _,λq n'=>?_};refine{_,(),rfl,hlt,by rw[ze,za,hx];rfl,{_,rfl},sm.trans (bW n'),qs++[q],by rw[zg];rfl,?_,λr hr=>?_}
  ·rw[zN]
   refine{nd,by simp,λa ha b hb e=>?_};have:b=q:=by simpa using hb
   subst this;subst e;rw[(hq a ha).2] at n';cases n'
  ·rcases zB.mp hr with z | z
   ·exact{(hq r z).1,bW n' _ _ (hq r z).2}
   ·rw[zu.mp z]
    exact{sm.free n',aA}
 ·let e:i=n:=()
  subst e;refine .inl {zh _,by rw[za];ext,λD hD=>?_};exact fin D qs _ (sm.trans (bW hD)) (sm.free hD) aA nd (λz=>by rw[(hq D z).2] at hD;cases hD) hx λq z=>{(hq q z).1,bW hD _ _ (hq q z).2}
theorem JS {α:Type} {x:α}:∀{l:List α} {j:Nat},l.Nodup->x∉l->(l.set j x).Nodup
 | [],_,_,_=>xH
 | a::l,0,h,n=>zU.mpr {λz=>n (zj _ z),(zU.mp h).2}
 | a::l,j+1,h,n=>zU.mpr {λz=>by
   rcases List.mem_or_eq_of_mem_set z with z | z
   ·exact(zU.mp h).1 z
   ·exact n (by rw[z];exact zk),JS (zU.mp h).2 λz=>n (zj _ z)}
structure Oz (H:Hp) (c:Nat) (q:wM) (l:List Int):Prop where
 at':H q=some (.lst (l.map V.int))
 len:⇑l<=c
 all:∀p∈l,0<=p/\p<=10
structure G6 (H0 H:Hp) (D:wM) (qs:List wM) (c:Nat) (ne:Bool):Prop where
 d:H D=some (.lst (qs.map V.ref))
 nd:qs.Nodup
 nD:D∉qs
 n0:H0 D=none
 nq:∀q∈qs,H0 q=none
 ls:∀q∈qs,∃l,Oz H c q l
 hd:ne=true->∀q,qs[0]?=some q->∃x l,H q=some (.lst ((x::l).map V.int))
def Oz.mono {H H':Hp} {c c':Nat} {q:wM} {l:List Int} (h:Oz H c q l) (e:H' q=H q) (hc:c<=c'):Oz H' c' q l:={by rw[e];exact h.at',zH h.len hc,h.all}
def G6.mono {H0 H H':Hp} {D:wM} {qs:List wM} {c c':Nat} {ne ne':Bool} (s:ao H H') (h:G6 H0 H D qs c ne) (hc:c<=c') (hn:ne'=true->ne=true):G6 H0 H' D qs c' ne' where
 d:=s _ _ h.d
 nd:=h.nd
 nD:=h.nD
 n0:=h.n0
 nq:=h.nq
 ls:=λq hq=>by let⟨l,z⟩:=h.ls q hq;exact{l,s _ _ z.at',zH z.len hc,z.all}
 hd:=λe q hq=>by let⟨x,l,z⟩:=h.hd (hn e) q hq;exact{x,l,s _ _ z}
def G6.app {H0 H:Hp} {D q:wM} {qs:List wM} {c:Nat} {ne ne':Bool} {l:List Int} {p:Int} (h:G6 H0 H D qs c ne) (hq:q∈qs) (hl:Oz H c q l) (p0:0<=p) (p1:p<=10) (hn:ne'=true->ne=true\/qs[0]?=some q):G6 H0 (upd H q (.lst (l.map V.int++[.int p]))) D qs (c+1) ne' where
 d:=by rw[ar (λz=>h.nD (by rw[z];exact hq))];exact h.d
 nd:=h.nd
 nD:=h.nD
 n0:=h.n0
 nq:=h.nq
 ls:=λr hr=>by
  by_cases e:r=q
  ·subst e
   refine{l++[p],by rw[aA,zg];rfl,by rw[ze];have:=hl.len;show _+1<=_;ext,λy hy=>?_};rcases zB.mp hy with hy | hy
   ·exact hl.all y hy
   ·rw[zu.mp hy];exact{(p0),p1}
  ·let⟨l',z⟩:=h.ls r hr
   exact{l',z.mono (ar e) (xG _)}
 hd:=λe r hr=>by
  by_cases z:r=q
  ·subst z
   cases l with
   | nil=>exact{p,[],by rw[aA];rfl}
   | cons x l=>exact{x,l++[p],by rw[aA,<-we,zg];rfl}
  ·rcases hn e with y | y
   ·let⟨x,l',w⟩:=h.hd y r hr
    exact{x,l',by rw[ar z];exact w}
   ·rw[y] at hr;exact absurd (ya hr).symm z
def G6.put {H0 H:Hp} {D q:wM} {qs:List wM} {c c':Nat} {ne:Bool} {l:List Int} {j:Nat} (h:G6 H0 H D qs c ne) (hl:Oz H c' q l) (n0:H0 q=none) (nq:q∉qs) (nD:q≠D) (hc:c<=c'):G6 H0 (upd H D (.lst ((qs.map V.ref).set j (.ref q)))) D (qs.set j q) c' false where
 d:=by rw[aA,List.map_set]
 nd:=JS h.nd nq
 nD:=λz=>by
  rcases List.mem_or_eq_of_mem_set z with z | z
  ·exact h.nD z
  ·exact nD z.symm
 n0:=h.n0
 nq:=λr hr=>by
  rcases List.mem_or_eq_of_mem_set hr with z | z
  ·exact h.nq r z
  ·rw[z];exact n0
 ls:=λr hr=>by
  rcases List.mem_or_eq_of_mem_set hr with z | z
  ·let⟨l',w⟩:=h.ls r z
   exact{l',w.mono (ar λy=>h.nD (by rw[<-y];exact z)) hc}
  ·rw[z];exact{l,hl.mono (ar nD) (zh _)}
 hd:=λe=>by cases e
structure Sj (es:List Sc.End):Prop where
 len:⇑es<=3
 all:∀e∈es,0<=e.1/\e.1<=100/\e.2≠[]/\⇑e.2<=11/\∀p∈e.2,0<=p/\p<=10
def ly (H0:Hp) (first last times m bg:Int) (many:Nat) (D:wM) (c:Nat) (ne:Bool) (σ:St) (H:Hp):Prop:=∃(v7 v8:Option V) (qs:List wM),σ=[some (.int first),some (.int last),some (.int times),some (.int m),some (.int many),some (.int bg),some (.ref D),v7,v8,some (.int (m/252%12)),none]/\ao H0 H/\⇑qs=many/\G6 H0 H D qs c ne
theorem ly.mono {H0:Hp} {first last times m bg:Int} {many:Nat} {D:wM} {c c':Nat} {ne ne':Bool} {σ:St} {H:Hp} (h:ly H0 first last times m bg many D c ne σ H) (hc:c<=c') (hn:ne'=true->ne=true):ly H0 first last times m bg many D c' ne' σ H:=by
 let⟨v7,v8,qs,e,s,l,p⟩:=h;exact{v7,v8,qs,e,s,l,p.mono (ao.refl _) hc hn}
def Bv {α:Type} {l:List α} (h:0<⇑l):∃x,l[⇑l-1]?=some x/\∀f:α->V,qm (l.map f) (-1)=some (f x):=by
 obtain⟨x,hx⟩:∃x,l[⇑l-1]?=some x:={_,zb ()}
 refine{x,hx,λf=>?_};unfold qm;let e:GI ⇑(l.map f) (-1)=some (⇑l-1):=by
  unfold GI;rw[za,yD ∅,yE ()]
  congr 1
  ext
 rw[e];show(l.map f)[⇑l-1]?=_;rw[zF,hx];rfl
def Rz {H0:Hp} {first last times m bg:Int} {many:Nat} {D:wM} {σ:St} {H:Hp} {Z:Ends} (h:ly H0 first last times m bg many D 9 true σ H) (t0:2<=times) (t9:times<=9) (m0:0<=m) (m3:many<=3) (hN:∀σ' H',ly H0 first last times m bg many D 10 true σ' H'->Z.nx σ' H') :
  (ig (m5 (c7 (cI (mU λi j=>V.bl (decide (j<i))) (aB 4) (tC (V.int 0)))) (c7 (cI KW (aB 9) (tC (V.int 0))))) (mZ (EL K "list" iE (cI (qA K) (aB 6) (OW (rU λi=>V.int (-i)) (tC (V.int 1)))) (ax (cI (qA K) (oG (ax (cI (mU λi j=>V.int (i+j)) (aB 2) (tC (V.int 1))) (ax (tC (V.int 1)) (ax (tC (V.int 0)) aQ)))) (cI (rI (λx j=>0<j) λi j=>V.int (i%j)) (cI (rI KU λi j=>V.int (i/j)) (aB 3) (tC (V.int 3024))) (tC (V.int 3)))) aQ))) gP) Z σ H:=by
 let sl:=yr;let no:=hN _ _ (h.mono ∅ id);let⟨v7,v8,qs,rfl,s0,ql,ps⟩:=h;left
 by_cases c1:0<many
 ·refine bo (zd ()) ?_
  left
  by_cases c2:m/252%12=0
  ·refine bo (zd (by rw[c2])) ?_
   let⟨q,hq,aq⟩:=Bv (l:=qs) ();let qi:=zw hq;let⟨l,hl⟩:=ps.ls q qi;exists D,_,-1,_,rfl,rfl,aE.of ps.d,aq V.ref,?_;refine{.inl {rfl,_,aE.of hl.at'},?_};exists(by show 3<=sizeLine;ext),?_
   intros p1 n1 s1 h1 H1
   obtain⟨x,ex,x0,x1⟩:∃x:Int,qm [V.int (times+1),.int 1,.int 0] (m/3024%3)=some (.int x)/\0<=x/\x<=10:=by
    obtain c | c | c:m/3024%3=0\/m/3024%3=1\/m/3024%3=2:=()
    ·rw[c];exact{times+1,rfl,(),()}
    ·rw[c];exact{1,rfl,∅,∅}
    ·rw[c];exact{0,rfl,∅,∅}
   let ll:=hl.len;exists p1,_,m/3024%3,_,rfl,rfl,aE.of h1,ex,?_;exists q,_,_,rfl,rfl,s1 _ _ hl.at',(by rw[za];ext),?_;let ps1:=ps.mono s1 (zh 9) id;let hl1:Oz H1 9 q l:={s1 _ _ hl.at',hl.len,hl.all}
   change hN _ _ {v7,v8,qs,rfl,d8 (ps.nq q qi) (s0.trans s1),ql,ps1.app qi hl1 x0 x1 (λ_=>.inl rfl)}
  ·refine bp (zc (λz=>c2 (V.int.inj z))) ?_
   change no
 ·refine bp (zc ()) ?_
  change no
def MS (x:V) (l:List V):gf (x::l) (some 1) none=l:=by
 unfold gf;let e1:HT.de ⇑(x::l) ⇑(x::l) none=⇑l+1:=rfl;let e2:HT.de ⇑(x::l) 0 (some 1)=1:=by unfold HT.de;simp
 rw[e1,e2,List.drop_succ_cons,List.drop_zero,Nat.add_sub_cancel,zI]
def Oi (l:List V):gf l none (some 1)=l.take 1:=by
 unfold gf;let e2:HT.de ⇑l 0 none=0:=rfl;rw[e2,List.drop_zero,Nat.sub_zero];cases l with
 | nil=>rfl
 | cons x l=>
  let e1:HT.de ⇑(x::l) ⇑(x::l) (some 1)=1:=by unfold HT.de;simp
  rw[e1]
theorem ly.put {H0:Hp} {first last times m bg:Int} {many:Nat} {D:wM} {c c':Nat} {ne:Bool} {v7 v8:Option V} {qs:List wM} {H:Hp} {q:wM} {l:List Int} {j:Nat} (s0:ao H0 H) (ql:⇑qs=many) (ps:G6 H0 H D qs c ne) (s1:∀{q},q∈qs->H q≠none) {H':Hp} (s:ao H H') (n:H q=none) (hl:H' q=some (.lst (l.map V.int))) (lc:⇑l<=c') (la:∀p∈l,0<=p/\p<=10) (hc:c<=c') :
  ly H0 first last times m bg many D c' false [some (.int first),some (.int last),some (.int times),some (.int m),some (.int many),some (.int bg),some (.ref D),v7,v8,some (.int (m/252%12)),none] (upd H' D (.lst ((qs.map V.ref).set j (.ref q)))):=by
 refine{v7,v8,qs.set j q,rfl,d8 ps.n0 (s0.trans s),by rw[List.length_set];exact ql,(ps.mono (ne':=false) s (zh _) (λz=>by cases z)).put ⟨hl,lc,la⟩ (s0.free n) (λz=>s1 z n) (λz=>by rw[z,ps.d] at n;cases n) hc}
def Ry {H0:Hp} {first last times m bg:Int} {many:Nat} {D:wM} {σ:St} {H:Hp} {Z:Ends} (h:ly H0 first last times m bg many D 10 true σ H) (m0:0<=m) (m3:many<=3) (hN:∀σ' H',ly H0 first last times m bg many D 10 false σ' H'->Z.nx σ' H') :
  (ig (m5 (c7 (cI (mU λi j=>V.bl (decide (j<i))) (aB 4) (tC (V.int 0)))) (c7 (cI KW (aB 9) (tC (V.int 1))))) (cR (cI (sF K) (OG (Hz K) (cI (qA K) (aB 6) (tC (V.int 0))) (vR (tC (V.int 1))) lA) (oG (ax (cI (qA K) (cI (qA K) (aB 6) (tC (V.int 0))) (tC (V.int 0))) aQ))) (Ke (aB 6) (tC (V.int 0)) CZ)) gP) Z σ H:=by
 let sl:=yr;let no:=hN _ _ (h.mono ∅ (λz=>by cases z));let⟨v7,v8,qs,rfl,s0,ql,ps⟩:=h;left
 by_cases c1:0<many
 ·refine bo (zd ()) ?_
  left
  by_cases c2:m/252%12=1
  ·refine bo (zd (by rw[c2])) ?_
   obtain⟨q,hq⟩:∃q,qs[0]?=some q:={_,zb (show 0<⇑qs by ext)}
   let qi:=zw hq;let⟨x,l,hx⟩:=ps.hd rfl q hq;let⟨l2,hl⟩:=ps.ls q qi;let e2:l2=x::l:=by
    have:=hl.at';rw[hx] at this;exact((List.map_inj_right λa b z=>V.int.inj z).mp (HO.lst.inj (ya this))).symm
   subst e2;let ll:=hl.len;rw[zo] at ll;let at0:(qs.map V.ref)[0]?=some (.ref q):=by rw[zF,hq];rfl
   let nn:∀{q},q∈qs->H q≠none:=λ{q} hq z=>by let⟨l,w⟩:=ps.ls q hq;rw[w.at'] at z;cases z
   exists D,_,0,_,rfl,rfl,aE.of ps.d,bC at0,?_;exists q,_,rfl,aE.of hx,?_
   intros p1 n1 s1 h1 H1
   let h1:H1 p1=some (.lst (l.map V.int)):=by rw[h1,zf,MS]
   exists D,_,0,_,rfl,rfl,aE.of (s1 _ _ ps.d),bC at0,?_;exists q,_,0,_,rfl,rfl,aE.of (s1 _ _ hx),bC (j:=0) (show(List.map V.int (x::l))[0]?=some (.int x) from rfl),?_;exists(by show 1<=sizeLine;ext),?_
   intros p2 n2 s2 h2 H2
   exists p1,p2,_,_,rfl,rfl,aE.of (s2 _ _ h1),aE.of h2,(by rw[za];show _+1<=_;ext),?_
   intros p3 n3 s3 h3 H3
   let s13:=(s1.trans s2).trans s3;let h3:H3 p3=some (.lst ((l++[x]).map V.int)):=by rw[h3,zg];rfl
   exists D,_,0,0,rfl,rfl,s13 _ _ ps.d,(by rw[za];unfold GI;rw[yE ∅,yE ()];rfl),?_;refine hN _ _ (ly.put s0 ql ps nn s13 ((s1.trans s2).free n3) h3 (by rw[ze];exact ll) (λp hp=>hl.all p ?_) (zh _));rcases zB.mp hp with hp | hp
   ·exact zj _ hp
   ·rw[zu.mp hp];exact zk
  ·refine bp (zc (λz=>c2 (V.int.inj z))) ?_
   change no
 ·refine bp (zc ()) ?_
  change no
def Rx {H0:Hp} {first last times m bg:Int} {many:Nat} {D:wM} {σ:St} {H:Hp} {Z:Ends} (h:ly H0 first last times m bg many D 10 false σ H) (m0:0<=m) (m3:many<=3) (hN:∀σ' H',ly H0 first last times m bg many D 11 false σ' H'->Z.nx σ' H') :
  (ig (m5 (c7 (cI (mU λi j=>V.bl (decide (j<i))) (aB 4) (tC (V.int 1)))) (c7 (cI KW (aB 9) (tC (V.int 2))))) (cR (cI (sF K) (cI (qA K) (aB 6) (tC (V.int 1))) (OG (Hz K) (cI (qA K) (aB 6) (tC (V.int 0))) lA (vR (tC (V.int 1))))) (Ke (aB 6) (tC (V.int 1)) CZ)) gP) Z σ H:=by
 let sl:=yr;let no:=hN _ _ (h.mono ∅ id);let⟨v7,v8,qs,rfl,s0,ql,ps⟩:=h;left
 by_cases c1:1<many
 ·refine bo (zd ()) ?_
  left
  by_cases c2:m/252%12=2
  ·refine bo (zd (by rw[c2])) ?_
   obtain⟨q,hq⟩:∃q,qs[0]?=some q:={_,zb (show 0<⇑qs by ext)}
   obtain⟨q1,hq1⟩:∃q,qs[1]?=some q:={_,zb (show 1<⇑qs by ext)}
   let⟨l,hl⟩:=ps.ls q (zw hq);let⟨l1,hl1⟩:=ps.ls q1 (zw hq1);let at0:(qs.map V.ref)[0]?=some (.ref q):=by rw[zF,hq];rfl
   let at1:(qs.map V.ref)[1]?=some (.ref q1):=by rw[zF,hq1];rfl
   let nn:∀{q},q∈qs->H q≠none:=λ{q} hq z=>by let⟨l,w⟩:=ps.ls q hq;rw[w.at'] at z;cases z
   let e1:=hl1.len;let e2:⇑(l.take 1)<=1:=List.length_take_le _ _;exists D,_,1,_,rfl,rfl,aE.of ps.d,bC at1,?_;exists D,_,0,_,rfl,rfl,aE.of ps.d,bC at0,?_;exists q,_,rfl,aE.of hl.at',?_
   intros p1 n1 s1 h1 H1
   let h1:H1 p1=some (.lst ((l.take 1).map V.int)):=by rw[h1,Oi,List.map_take]
   exists q1,p1,_,_,rfl,rfl,aE.of (s1 _ _ hl1.at'),aE.of h1,(by rw[za,za];ext),?_
   intros p3 n3 s3 h3 H3
   let s13:=s1.trans s3;let h3:H3 p3=some (.lst ((l1++l.take 1).map V.int)):=by rw[h3,zg]
   exists D,_,1,1,rfl,rfl,s13 _ _ ps.d,(by rw[za];unfold GI;rw[yE ∅,yE ()];rfl),?_;refine hN _ _ (ly.put s0 ql ps nn s13 (s1.free n3) h3 (by rw[ze];ext) (λp hp=>?_) ∅);rcases zB.mp hp with hp | hp
   ·exact hl1.all p hp
   ·exact hl.all p (List.mem_of_mem_take hp)
  ·refine bp (zc (λz=>c2 (V.int.inj z))) ?_
   change no
 ·refine bp (zc ()) ?_
  change no
def Rw {H0:Hp} {first last times m bg:Int} {many:Nat} {D:wM} {σ:St} {H:Hp} {Z:Ends} (h:ly H0 first last times m bg many D 11 false σ H) (t0:2<=times) (t9:times<=9) (m0:0<=m) (m3:many<=3) (hN:∀σ' H',ly H0 first last times m bg many D 11 false σ' H'->Z.nx σ' H') :
  (ig (m5 (c7 (cI (mU λi j=>V.bl (decide (j<i))) (aB 4) (tC (V.int 0)))) (c7 (cI KW (aB 9) (tC (V.int 3))))) (cR (cI (sF K) (OG (Hz K) (cI (qA K) (aB 6) (OW (rU λi=>V.int (-i)) (tC (V.int 1)))) lA (vR (OW (rU λi=>V.int (-i)) (tC (V.int 1))))) (oG (ax (aB 2) aQ))) (Ke (aB 6) (OW (rU λi=>V.int (-i)) (tC (V.int 1))) CZ)) gP) Z σ H:=by
 let sl:=yr;let no:=hN _ _ h;let⟨v7,v8,qs,rfl,s0,ql,ps⟩:=h;left
 by_cases c1:0<many
 ·refine bo (zd ()) ?_
  left
  by_cases c2:m/252%12=3
  ·refine bo (zd (by rw[c2])) ?_
   let⟨q,hq,aq⟩:=Bv (l:=qs) ();let⟨l,hl⟩:=ps.ls q (zw hq);let nn:∀{q},q∈qs->H q≠none:=λ{q} hq z=>by let⟨l,w⟩:=ps.ls q hq;rw[w.at'] at z;cases z
   let e1:=hl.len;let e2:⇑l.dropLast=⇑l-1:=List.length_dropLast ..;exists D,_,-1,_,rfl,rfl,aE.of ps.d,aq V.ref,?_;exists q,_,rfl,aE.of hl.at',?_
   intros p1 n1 s1 h1 H1
   let h1:H1 p1=some (.lst (l.dropLast.map V.int)):=by rw[h1];show some (HO.lst (gf _ none (some (-1))))=_;rw[Ig,List.map_dropLast]
   exists(by show 1<=sizeLine;ext),?_
   intros p2 n2 s2 h2 H2
   exists p1,p2,_,_,rfl,rfl,aE.of (s2 _ _ h1),aE.of h2,(by rw[za];show _+1<=_;ext),?_
   intros p3 n3 s3 h3 H3
   let s13:=(s1.trans s2).trans s3;let h3:H3 p3=some (.lst ((l.dropLast++[times]).map V.int)):=by rw[h3,zg];rfl
   exists D,_,-1,⇑qs-1,rfl,rfl,s13 _ _ ps.d,(by rw[za];unfold GI;rw[yD ∅,yE ()];congr 1;ext),?_;refine hN _ _ (ly.put s0 ql ps nn s13 ((s1.trans s2).free n3) h3 (by rw[ze];show _+1<=11;ext) (λp hp=>?_) (zh _));rcases zB.mp hp with hp | hp
   ·exact hl.all p (List.mem_of_mem_take (by rw[List.dropLast_eq_take] at hp;exact hp))
   ·rw[zu.mp hp];exact{(()),()}
  ·refine bp (zc (λz=>c2 (V.int.inj z))) ?_
   change no
 ·refine bp (zc ()) ?_
  change no
def vU {T R:TS} {Z:Ends} {σ:St} {H:Hp} (h:T {Z with nx:=R Z} σ H):dy T R Z σ H:=h
def Oe (K:yq) {H0:Hp} {first last times m bg:Int} {many:Nat} {D:wM} {H:Hp} {Z:Ends} {R:TS} {v7 v8:Option V} {qs:List wM} (s0:ao H0 H) (ql:⇑qs=many) (ps:G6 H0 H D qs 9 true) (hR:∀σ' H',ly H0 first last times m bg many D 9 true σ' H'->R Z σ' H') :
  dy (cR (cI (rI (λx j=>0<j) λi j=>V.int (i%j)) (cI (rI KU λi j=>V.int (i/j)) (aB 3) (tC (V.int 252))) (tC (V.int 12))) (bj 9)) R Z [some (.int first),some (.int last),some (.int times),some (.int m),some (.int many),some (.int bg),some (.ref D),v7,v8,none,none] H:=by
 change hR _ _ {(v7),v8,qs,rfl,s0,ql,ps}
def Sb {c:Bool} {T1 T2:VK->Prop} {Z:VK} {H:Hp} (v:V) (h1:c=true->∀Z:VK,Z v H->T1 Z) (h2:c=false->∀Z:VK,Z v H->T2 Z) (hz:Z v H):if c=true then T1 Z else T2 Z:=by
 cases c with
 | true=>rw[yE rfl];exact h1 rfl Z hz
 | false=>rw[yD (by simp)];exact h2 rfl Z hz
inductive qw (vs:List V) (H:Hp) (Q:VK) (E:XK):Prop
 | mk (first last times m:Int) (_:vs=[.int first,.int last,.int times,.int m]) (_:0<=first) (_:first<=30) (_:0<=last) (_:last<=30) (_:2<=times) (_:times<=9) (_:0<=m) (_:∀es v H',ao H H'->Is H' (.tup (es.map fq)) v->Sj es->Q v H')
def qG:cQ P w base 1 T.jZ qw:=by
 nomatch T.jZ,["_law_first","_law_last","_law_times","_law_m","_law_many","_law_begin","_law_passes","_law_k","_law_at","_law_how","_law_ends"]
 let⟨first,last,times,m,rfl,f0,f1,l0,l1,t0,t1,m0,kk⟩:=h;let sl:=yr;refine{_,(aa (bV 4 qN (dM (aV (ae ah (ae ah (ae ah (ae ah (ae ah (ae ah ag))))))) (aC bM (pv 3) ah)))
  (aa (bV 5 qN (aC dh (pv 0) (dM (aV (ae ah (ae ah (ae ah (ae (aC bM (aC b8 (pv 3) ah) ah) (ae (j8 gg ah) (ae (aC fE (pv 1) (pv 0)) ag))))))) (aC bM (aC b8 (pv 3) ah) ah))))
  (aa (RL (i:=6) (ts:=["_law_k"]) (ys:=[]) (js:=[]) (te:=(oG aQ)) (jc (by rfl) T.jJ (ae (pv 4) ag)) (lF 0) bq (aV ag) qN)
  (aa (dX yF rfl (jc (by rfl) T.jJ (ae (pv 2) ag)) (kA 7 qN)
  (ai (az (ptr eG (pv 4) ah)
   (aa (bV 8 qN (C8 (ptr eZ (pv 7) (pv 4)) (pv 7) (aC bM (aC b8 (pv 3) (aC dh (pv 7) ah)) (pv 4))))
    (ai (cT (cK yt yv yu cM (dM (pv 6) (pv 8)) (ae (aC dh (pv 7) ah) ag)))))
   ak)))
  (aa (bV 9 qN (aC bM (aC b8 (pv 3) ah) ah))
  (aa (az (PW.pt (dg (ptr eG (pv 4) ah) (cz (ptr cb (pv 9) ah))))
  (ai (cT (cK yt yv yu cM (dM (pv 6) (j8 gg ah)) (ae (dM (aV (ae (aC dh (pv 2) ah) (ae ah (ae ah ag)))) (aC bM (aC b8 (pv 3) ah) ah)) ag))))
  ak)
  (aa (az (PW.pt (dg (ptr eG (pv 4) ah) (cz (ptr cb (pv 9) ah))))
  (ai (A8 (pv 6) ah (aC eC (cA eW (dM (pv 6) ah) (di ah) dj) (aV (ae (dM (dM (pv 6) ah) ah) ag)))))
  ak)
  (aa (az (PW.pt (dg (ptr eG (pv 4) ah) (cz (ptr cb (pv 9) ah))))
  (ai (A8 (pv 6) ah (aC eC (dM (pv 6) ah) (cA eW (dM (pv 6) ah) dj (di ah)))))
  ak)
  (aa (az (PW.pt (dg (ptr eG (pv 4) ah) (cz (ptr cb (pv 9) ah))))
  (ai (A8 (pv 6) (j8 gg ah) (aC eC (cA eW (dM (pv 6) (j8 gg ah)) dj (di (j8 gg ah))) (aV (ae (pv 2) ag)))))
  ak)
  (aa (bV 10 qN (aV ag))
  (aa (dX yF rfl (jc (by rfl) T.jJ (ae (pv 4) ag)) (kA 7 qN)
  (ai (cT (cK yt yv yu cM (pv 10) (ae (bw (ae (dP (pI rfl) T.JV (ae ah (ae (aC dh (pv 5) (aC sM (pv 7) (dM (aV (ae ah (ae ah (ae ah (ae ah (ae ah (ae (j8 gg ah) ag))))))) (aC bM (aC b8 (pv 3) ah) ah)))) ag))) (ae (Ex cm T.fb (ae (dM (pv 6) (pv 7)) ag)) ag))) ag)))))
  (ai (aj (Ex cm T.fb (ae (nG (ts:=["_law_end"]) (ys:=[]) (js:=[]) (g:=(bj 0)) (tc:=(c7 (cI (Pf K) (cI (kK K) (aB 0) (tC (.int (1)))) (Cy aQ)))) (te:=(aB 0)) (b7 (pv 10)) (lF 0) (Bb (ptr (Bd hr.units) (cE (pv 0) ah) (bw ag))) (pv 0)) ag))))))))))))))),?_}
 ac_rfl;exists(by show 6<=sizeLine;ext),?_
 intros p1 n1 s1 h1 H1
 obtain⟨many,em,hm3⟩:∃n:Nat,qm [V.int 0,.int 0,.int 1,.int 2,.int 2,.int 3] (m%6)=some (.int n)/\n<=3:=by
  obtain c | c | c | c | c | c:m%6=0\/m%6=1\/m%6=2\/m%6=3\/m%6=4\/m%6=5:=()
  ·rw[c];exact{0,rfl,∅}
  ·rw[c];exact{0,rfl,∅}
  ·rw[c];exact{1,rfl,∅}
  ·rw[c];exact{2,rfl,∅}
  ·rw[c];exact{2,rfl,∅}
  ·rw[c];exact{3,rfl,∅}
 exists p1,_,m%6,_,rfl,rfl,aE.of h1,em,?_;exists(by show 6<=sizeLine;ext),?_
 intros p2 n2 s2 h2 H2
 obtain⟨bg,eb,b0,b1⟩:∃n:Int,qm [V.int 0,.int 0,.int 1,.int (m/6%7),.int (-1),.int (last-first)] (m/42%6)=some (.int n)/\-30<=n/\n<=30:=by
  obtain c | c | c | c | c | c:m/42%6=0\/m/42%6=1\/m/42%6=2\/m/42%6=3\/m/42%6=4\/m/42%6=5:=()
  ·rw[c];exact{0,rfl,∅,∅}
  ·rw[c];exact{0,rfl,∅,∅}
  ·rw[c];exact{1,rfl,∅,∅}
  ·rw[c];exact{m/6%7,rfl,(),()}
  ·rw[c];exact{-1,rfl,∅,∅}
  ·rw[c];exact{last-first,rfl,(),()}
 exists p2,_,m/42%6,_,rfl,rfl,aE.of h2,eb,?_;exists (),(),?_;refine Ea () {(none),rfl} λD qs H3 s3 nD h3 nd nDq ql hq=>?_;let s03:=(s1.trans s2).trans s3;rw[xF] at ql;let ps0:G6 H H3 D qs 0 false:={h3,nd,nDq,(s1.trans s2).free nD,λq z=>(s1.trans s2).free (hq q z).1,λq z=>{[],(hq q z).2,zh _,λ_ w=>(nomatch w)},λz=>by cases z}
 clear h1 h2 n1 n2 em eb h3 hq nDq nd nD;exists (),(),?_;refine Ab (λk σ H'=>∃(v7 v8:Option V),σ=[some (.int first),some (.int last),some (.int times),some (.int m),some (.int many),some (.int (first+bg)),some (.ref D),v7,v8,none,none]/\ao H H'/\G6 H H' D qs k (decide (0<k))) {(none),none,rfl,s03,ps0} ?_ ?_
 ·intro k σ H4 hk hh
  refine fw λN kN0 kR0 _ _=>?_;let⟨v7,v8,rfl,s4,ps⟩:=hh;left
  by_cases c1:0<many
  ·refine bo (zd ()) ?_
   obtain⟨at',ea,la,lz⟩:∃n:Nat,(if(k:Int)<many then(k:Int) else m/((k:Int)+3)%many)=(n:Int)/\n<many/\(k=0->n=0):=by
    by_cases c:(k:Int)<many
    ·rw[yE c];exact{(k),rfl,(),id}
    ·rw[yD c]
     have:=zp (m/((k:Int)+3)) (show(many:Int)≠0 by ext);have:=zm (m/((k:Int)+3)) (show(0:Int)<many by ext);exact{(m/((k:Int)+3)%many).toNat,(),(),λz=>()}
   obtain⟨q,hq⟩:∃q,qs[at']?=some q:={_,zb (show at'<⇑qs by ext)}
   let qi:=zw hq;let⟨l,hl⟩:=ps.ls q qi;let ll:=hl.len;let atq:(qs.map V.ref)[at']?=some (.ref q):=by rw[zF,hq];rfl
   left;refine Sb (H:=H4) (.int (at':Nat)) ?_ ?_ ?_
   ·intro c Z hz
    let c:(k:Int)<many:=by have:=zV c;ext
    rw[yE c] at ea;left;rw[Int.zero_add,ea];exact hz
   ·intro c Z hz
    let c:¬(k:Int)<many:=by have:=of_decide_eq_false c;ext
    rw[yD c,<-Int.zero_add (k:Int)] at ea;exists{(()),()},?_;exists (),?_;show Z (V.int (m/(0+(k:Int)+3)%many)) H4;rw[ea];exact hz
   exists D,_,(at':Nat),_,rfl,rfl,aE.of ps.d,bC atq,?_;refine{.inl {rfl,_,aE.of hl.at'},?_};exists q,_,_,rfl,rfl,hl.at',(by rw[za];ext),?_;exists _,_,rfl,d8 (ps.nq q qi) s4,ps.app qi hl () () λ_=>?_
   by_cases z:0<k
   ·exact .inl (zd z)
   ·rw[<-lz ()];exact .inr hq
  ·refine bp (zc ()) ?_
   left;refine{_,_,rfl,s4,{ps.mono (ne':=false) (ao.refl _) (xG _) (λz=>by cases z) with hd:=λ_ q hq=>?_}};rw[yh.mp (show ⇑qs=0 by ext)] at hq;cases hq
 ·rintro σ H4 ⟨v7,v8,rfl,s4,ps⟩
  refine Oe K s4 ql (ps.mono (ao.refl _) (show times.toNat<=9 by ext) λ_=>zd ()) (λσ1 H1 h1=>vU (Rz h1 t0 t1 m0 hm3 λσ2 H2 h2=>vU (Ry h2 m0 hm3 λσ3 H3 h3=>vU (Rx h3 m0 hm3 λσ4 H4 h4=>vU (Rw h4 t0 t1 m0 hm3 λσ5 H5 h5=>?_)))));let⟨v7,v8,qs,rfl,s5,ql,ps⟩:=h5;exists(by show 0<=sizeLine;ext),?_
  intros E nE s6 hE H6
  exists (),(),?_;refine Ab (λk σ H'=>∃(v7:Option V) (es:List Sc.End) (vs:List V),σ=[some (.int first),some (.int last),some (.int times),some (.int m),some (.int many),some (.int (first+bg)),some (.ref D),v7,v8,some (.int (m/252%12)),some (.ref E)]/\ao H5 H'/\H' E=some (.lst vs)/\au H' (es.map fq) vs/\⇑es=k/\∀e∈es,0<=e.1/\e.1<=100/\⇑e.2<=11/\∀p∈e.2,0<=p/\p<=10) {_,[],[],rfl,s6,hE,i0,rfl,λ_ z=>(nomatch z)} ?_ ?_
  ·intro k σ H7 hk hh
   refine fw λN kN1 kR1 _ _=>?_;let⟨v7,es,vs,rfl,s7,hE7,il7,el,eb⟩:=hh;rw[xF] at hk;obtain⟨q,hq⟩:∃q,qs[k]?=some q:={_,zb (show k<⇑qs by ext)}
   let⟨l,hl⟩:=ps.ls q (zw hq);let atq:(qs.map V.ref)[k]?=some (.ref q):=by rw[zF,hq];rfl
   let vl:=aM il7;exists .inl {rfl,_,aE.of hE7},?_;exists(by show 6<=sizeLine;ext),?_
   intros p8 n8 s8 h8 H8
   obtain⟨c,ec,c0,c1⟩:∃c:Int,qm [V.int 1,.int 1,.int 1,.int 2,.int 0,.int (-1)] (m/9000%6)=some (.int c)/\-1<=c/\c<=2:=by
    obtain c | c | c | c | c | c:m/9000%6=0\/m/9000%6=1\/m/9000%6=2\/m/9000%6=3\/m/9000%6=4\/m/9000%6=5:=()
    ·rw[c];exact{1,rfl,∅,∅}
    ·rw[c];exact{1,rfl,∅,∅}
    ·rw[c];exact{1,rfl,∅,∅}
    ·rw[c];exact{2,rfl,∅,∅}
    ·rw[c];exact{0,rfl,∅,∅}
    ·rw[c];exact{-1,rfl,∅,∅}
   exists p8,_,m/9000%6,_,rfl,rfl,aE.of h8,ec,?_;exists .inl {(()),()},?_;exists 0,_,rfl,?_;let kc:-6<=(0+(k:Int))*c/\(0+(k:Int))*c<=6:=by
    obtain h | h | h:k=0\/k=1\/k=2:=()
    ·rw[h];ext
    ·rw[h];ext
    ·rw[h];ext
   obtain⟨mx,emx,x0,x1⟩:∃mx:Int,(if first+bg+(0+(k:Int))*c>0 then first+bg+(0+(k:Int))*c else 0)=mx/\0<=mx/\mx<=100:=by
    refine{_,rfl,?_,?_}
    ·split <;> ext
    ·split <;> ext
   rw[emx];let s58:=s7.trans s8;exists D,_,(0+(k:Int)),_,rfl,rfl,aE.of (s58 _ _ ps.d),(by rw[Int.zero_add];exact bC atq),?_;left;refine{q,_,rfl,.inl {aE.of (s58 _ _ hl.at'),?_}}
   intros t9 n9 s9 h9 H9
   exists(by show 2<=sizeLine;ext),?_
   intros t10 n10 s10 h10 H10
   let s710:=(s8.trans s9).trans s10;exists E,_,_,rfl,rfl,s710 _ _ hE7,(),?_;let ntE:cv (H10 E):=λvs z=>by rw[s710 _ _ hE7] at z;cases z
   let ie:Is H10 (fq (mx,l)) (.ref t10):=bZ h10 (aN bJ (d4 (bZ (s10 _ _ h9) jQ)));left;refine{_,es++[(mx,l)],_,rfl,d8 nE (s7.trans s710),aA,?_,?_,?_}
   ·rw[zg];exact au.upd ntE (dF ie (il7.mono s710))
   ·rw[ze,el];rfl
   ·intro e he
    rcases zB.mp he with he | he
    ·exact eb e he
    ·rw[zu.mp he];exact{(x0),x1,hl.len,hl.all}
  ·rintro σ H7 ⟨v7,es,vs,rfl,s7,hE7,il7,el,eb⟩
   rw[xF] at el;exists{_,aE.of hE7},?_;let⟨zs,f1,f2,f3⟩:=jN il7;let zl:⇑zs=⇑es:=by rw[<-f1,za]
   let hp:aE K H7 E (zs.map λz=>z.2):=by rw[f2];exact aE.of hE7
   refine FQ (enc:=λz:Sc.End×V=>z.2) (ws:=zs) (λz=>decide (z.1.2≠[])) (λz=>fq z.1) (λσ=>∃v,σ=[v]) () {(none),rfl} (λi H hi sm=>GL (sm.seq hp) (by rw[za];exact hi)) (λH sm=>{_,sm.seq hp,by rw[za];exact zh _}) ?_ ?_ ?_
   ·rintro i x H8 H9 hi sm ⟨rfl,hy⟩
    let hx':=hy _ (sm.seq hp);rw[zF,zb hi] at hx';cases hx';exact{(rfl),rfl}
   ·rintro⟨e,v⟩ σ H8 R N hz s8 ⟨_,rfl⟩ hR hNo
    let⟨ea,q,rfl,hea,hq⟩:=hJ (Is.mono s8 (f3 _ hz));let iv:=Is.mono s8 (f3 _ hz);exists(by show 0<=sizeLine;ext),?_
    intros p9 n9 s9 h9 H9
    refine{q,p9,_,[],rfl,rfl,.inr {bK.of (s9 _ _ hq),bK.of h9},.inr (.inl rfl),?_};left
    by_cases c:e.2=[]
    ·refine bp (by show(!decide (e.2.map V.int=[]))=false;rw[c];rfl) ?_
     exact hNo (zc λz=>z c) _ _ s9 {_,rfl}
    ·refine bo (by show(!decide (e.2.map V.int=[]))=true;rw[zc (λz=>c (List.map_eq_nil_iff.mp z))];rfl) ?_
     change hR (zd c) _ _ _ s9 (iv.mono s9) {_,rfl}
   ·intro D2 vs2 H8 s8 _ hD2 il2
    left;refine{D2,_,rfl,.inl {aE.of hD2,?_}}
    intros t9 n9 s9 h9 H9
    let il2:au H8 (((zs.filter λz=>decide (z.1.2≠[])).map (·.1)).map fq) vs2:=by rw[zv];exact il2
    refine kk _ _ _ (((s5.trans s7).trans s8).trans s9) (bZ h9 (il2.mono s9)) {?_,λe he=>?_}
    ·rw[za]
     have:=yX (λz:Sc.End×V=>decide (z.1.2≠[])) zs;ext
    ·let⟨z,hz,rfl⟩:=zC.mp he
     let⟨hz1,hz2⟩:=xU.mp hz;let⟨e1,e2,e3,e4⟩:=eb z.1 (by rw[<-f1];exact zC.mpr {(z),hz1,rfl});exact{e1,e2,zV hz2,e3,e4}
structure qQ (many:Nat) (r:Rep):Prop where
 f:0<=r.first/\r.first<many
 l:0<=r.last/\r.last<many
 t:2<=r.times/\r.times<=9
 n:⇑r.ends<=9
 tt:Cv r.ends<64
 e:∀e∈r.ends,0<=e.1/\e.1<many/\e.2≠[]/\⇑e.2<=11/\∀p∈e.2,0<=p/\p<=10
theorem B8 {H:Hp} {n:Nat} {α:Type} {d:α->Dt}:∀{xs:List α} {us vs:List V},(∀x∈xs,∀u v,Is H (d x) u->Is H (d x) v->Al H n u v)->au H (xs.map d) us->au H (xs.map d) vs->∀z∈us.zip vs,Al H n z.1 z.2
 | [],us,vs,_,i,_,z,hz=>by unfold au at i;subst i;cases hz
 | x::xs,us,vs,h,i,k,z,hz=>by
  unfold au at i k;let⟨u,ur,rfl,i1,i2⟩:=i;let⟨v,vr,rfl,k1,k2⟩:=k;rcases zy.mp hz with rfl | hz
  ·exact h x zk u v i1 k1
  ·exact B8 (λx hx=>h x (zj _ hx)) i2 k2 z hz
def ue {H:Hp} {n:Nat} {p q:wM} {us vs:List V} (hp:H p=some (.tup us)) (hq:H q=some (.tup vs)) (e:⇑us=⇑vs) (l:⇑us<=1000000) (h:∀z∈us.zip vs,Al H n z.1 z.2):Al H (n+1) (.ref p) (.ref q):=.inr (.inr (.inr {(p),q,true,us,vs,rfl,rfl,hp,hq,e,l,h}))
def jV {H:Hp} {n:Nat} (i:Int):Al H (n+1) (.int i) (.int i):=.inr (.inl {(i),rfl,rfl})
def lV {α:Type} {p:α->Prop} {a:α} {l:List α} (h:p a) (t:∀x∈l,p x):∀x∈a::l,p x:=List.forall_mem_cons.mpr {(h),t}
def vD {α:Type} {p:α->Prop}:∀x∈([]:List α),p x:=λ_ h=>nomatch h
def Ox {H:Hp} {e:Sc.End} {u v:V} (el:⇑e.2<=1000) (h:Is H (fq e) u) (k:Is H (fq e) v):Al H 3 u v:=by
 let⟨a,q,rfl,ha,hq⟩:=hJ h;let⟨b,r,rfl,hb,hr⟩:=hJ k;refine ue ha hb rfl (by show 2<=_;decide) (lV (jV _) (lV (ue hq hr rfl (by rw[za];ext) ?_) vD));exact B8 (d:=Dt.int) (λx _ u v i k=>by unfold Is at i k;subst i k;exact jV _) jQ jQ
def Ov {H:Hp} {r:Rep} {u v:V} (ro:KS r.ends) (h:Is H (c9 r) u) (k:Is H (c9 r) v):Al H 5 u v:=by
 let⟨a,e,rfl,ha,ie⟩:=cS h;let⟨b,f,rfl,hb,je⟩:=cS k;unfold Is at ie je;let⟨e',us,e1,he,hl⟩:=ie;let⟨f',vs,f1,hf,kl⟩:=je;cases e1;cases f1;let l1:=aM hl;let l2:=aM kl;let l3:=ro.len;refine ue ha hb rfl (by show 4<=_;decide) (lV (jV _) (lV (jV _) (lV (jV _) (lV (ue he hf () () ?_) vD))));exact B8 (λx hx u v i k=>Ox (by have:=ro.all x hx;ext) i k) hl kl
def G5 {H:Hp} {rs:List Rep} {p q:wM} {us vs:List V} (ro:∀r∈rs,KS r.ends) (rl:⇑rs<=1000) (h1:H p=some (.lst us)) (h2:H q=some (.lst vs)) (i1:au H (rs.map c9) us) (i2:au H (rs.map c9) vs):Al H 6 (.ref p) (.ref q):=by
 let a:=aM i1;let b:=aM i2;exact .inr (.inr (.inr {p,q,false,us,vs,rfl,rfl,h1,h2,(),(),B8 (λx hx u v i k=>Ov (ro x hx) i k) i1 i2}))
def PZ {H:Hp} {n:Nat} (o:Option Int):Al H (n+1) (ov o) (ov o):=by
 cases o with
 | none=>exact .inl {(rfl),rfl}
 | some i=>exact jV i
def Mj {H:Hp} {jo:Option Jump} {u v:V} (h:Is H (dO dn jo) u) (k:Is H (dO dn jo) v):Al H 6 u v:=by
 cases jo with
 | none=>
  unfold dO Is at h k;subst h k;exact .inl {(rfl),rfl}
 | some j=>
  let⟨a,rfl,ha⟩:=fe (j:=j) h;let⟨b,rfl,hb⟩:=fe (j:=j) k;exact ue ha hb rfl (by show 4<=_;decide) (lV (jV _) (lV (jV _) (lV (jV _) (lV (PZ _) vD))))
def E7 {many:Nat} {r:Rep} (h:qQ many r) (m:many<=23):Mo r:=by
 let hf:=h.f;let hl:=h.l;refine{{{(()),()},{(()),()},h.t.1,h.t.2,λe he=>?_},{h.n,λe he=>(h.e e he).2.2.2.1}};let⟨e1,e2,e3,e4,e5⟩:=h.e e he;exact{(),(),e3,λp hp=>by have:=e5 p hp;ext}
def EJ {r:Rep} (h:Mo r):TD (.rep r):=by
 let⟨⟨f1,f2,f3,f4,f5⟩,el,pl⟩:=h;refine{{(f1),f2,f3,f4,f5},by show(r.ends.map lU).length+4<=100;rw[za];ext,all_cons ∅ (all_cons ?_ (all_cons ?_ (all_cons ?_ λz hz=>?_)))}
 ·exact zH (dG (by have:=f1.1;ext) (by have:=f1.2;ext)) ∅
 ·exact zH (dG (by have:=f2.1;ext) (by have:=f2.2;ext)) ∅
 ·exact zH (dG () ()) ∅
 ·let⟨e,he,rfl⟩:=zC.mp hz
  exact zH (tE (f5 e he) (pl e he)) ∅
def As {j:Jump} (h:KL (.bA j)):TD (.bA j):={h,by show 5<=100;decide,J3 h}
theorem Mw {k:Nat}:∀{es:List Sc.End},(∀e∈es,⇑e.2<=k)->Cv es<=⇑es*k
 | [],_=>zX _
 | e::es,h=>by
  let a:=h e zk;let b:=Mw (es:=es) λx hx=>h x (zj _ hx);show ⇑e.2+Cv es<=(⇑es+1)*k;rw[Nat.succ_mul];ext
structure JO (many:Nat) (j:Jump):Prop where
 a:0<=j.ky/\j.ky<many
 t:0<=j.l6/\j.l6<many
 u:0<=j.aY/\j.aY<many
 c:∀c,j.eM=some c->0<=c/\c<many
def Bw {many:Nat} {j:Jump} (h:JO many j) (m:many<=23):KL (.bA j):=by
 let h1:=h.a;let h2:=h.t;let h3:=h.u;exact{{(()),()},{(()),()},{(()),()},λc e=>by have:=h.c c e;exact{(()),()}}
def NW {many:Nat} {j:Jump} (h:JO many j):∀b∈[j.ky,j.l6,j.aY]++j.eM.toList,b<(many:Int):=λb hb=>by
 rcases zB.mp hb with hb | hb
 ·exact lV (p:=λb=>b<(many:Int)) h.a.2 (lV h.t.2 (lV h.u.2 vD)) b hb
 ·cases e:j.eM with
  | none=>rw[e] at hb;cases hb
  | some c=>rw[e] at hb;rw[zu.mp hb];exact(h.c c e).2
def Nx {many:Nat} {r:Rep} (h:qQ many r):∀b∈[r.first,r.last]++r.ends.map (·.1),b<(many:Int):=λb hb=>by
 rcases zB.mp hb with hb | hb
 ·exact lV (p:=λb=>b<(many:Int)) h.f.2 (lV h.l.2 vD) b hb
 ·let⟨e,he,rfl⟩:=zC.mp hb
  exact(h.e e he).2.1
def Jj {many:Nat} {r:Rep} {S:c6} (h:qQ many r):F9 S (.rep r):=by
 let n:=h.n;let t:=h.t;exact{(h.tt),(),(),()}
structure Rb (many:Nat) (ts:List Told) (S:c6) (rs:List Rep) (jo:Option Jump):Prop where
 runs:Runs {} ts S
 td:∀t∈ts,TD t
 bars:⇑S.bars=many
 Hy:S.repeats=rs
 bA:S.bA=jo
 holds:S.holds=[]
 sz:Ci S
 ok:vK rs
 ro:∀r∈rs,qQ many r
 rl:⇑rs<=20
noncomputable abbrev MT:Sc.K3:={(4,4),0,[]}
def Pb:rowOf (.bar MT) ="bar 4/4 0":=by decide +kernel
def QQ:TD (.bar MT):={{by show(1:Int)<=4;decide,by show(4:Int)<=32;decide,by show(4:Int)∈vC;decide +kernel,by show -7<=(0:Int);decide,by show(0:Int)<=7;decide,all_nil},by show 3<=100;decide,all_cons ∅ (all_cons (by show(dec 4 ++"/" ++ dec 4).length<=100;decide +kernel) (all_cons (by show(dec 0).length<=100;decide +kernel) all_nil))}
def GD {α:Type} {n:Nat} {a x:α} (h:x∈List.replicate n a):x=a:=List.eq_of_mem_replicate h
def R6 {many:Nat} (h:many<=23):Rb many (List.replicate many (.bar MT)) {bars:=List.replicate many MT} [] none:=by
 let sz:Ci {}:=by unfold Ci;simp
 let r:=oV (l:=List.replicate many MT) (S:={}) (by show(List.replicate many MT).length<=200;rw[List.length_replicate];ext) (BB rfl) sz;rw[List.map_replicate] at r;refine{r,λt ht=>by rw[GD ht];exact QQ,List.length_replicate,rfl,rfl,rfl,?_,{(List.Pairwise.nil),vD},vD,zX _};refine{zX _,zX _,zX _,?_,zX _,zX _};show(List.replicate many MT).length<=_;rw[List.length_replicate];ext
def MC {many:Nat} {ts:List Told} {S:c6} {rs:List Rep} {jo:Option Jump} (k:Rb many ts S rs jo) {r:Rep} (o:qQ many r) (l:⇑rs<20):fault S (.rep r)=if(jo.isNone&&cV rs r)=true then none else some ("form": Str):=by
 unfold fault;dsimp only;rw[yD (λz=>z (Kb (by rw[k.bars];exact Nx o))),k.bA,k.Hy,<-Fb k.ok];cases jo with
 | some j=>rfl
 | none=>
  rw[yD (λz=>by cases z)];cases q:cV rs r with
  | false=>rfl
  | true=>rw[yD (λz=>z rfl),yD ()];rfl
def Js {many:Nat} {ts:List Told} {S:c6} {rs:List Rep} {jo:Option Jump} (k:Rb many ts S rs jo) {r:Rep} (o:qQ many r) (m:many<=23) (f:(jo.isNone&&cV rs r)=true) (l:⇑rs<20):Rb many (ts++[.rep r]) {S with repeats:=rs++[r]} (rs++[r]) jo:=by
 let e:cG S (.rep r)={S with repeats:=rs++[r]}:=by show({S with repeats:=S.repeats++[r]}:c6)=_;rw[k.Hy]
 let fr:cV rs r=true:=by rw[zJ] at f;exact f.2
 rw[Fb k.ok] at fr;refine{k.runs.app {by rw[MC k o l,yE f],Jj o,BB k.holds,k.sz,e},λt ht=>?_,k.bars,rfl,k.bA,k.holds,?_,Nw k.ok fr,λx hx=>?_,by rw[ze];show _+1<=_;ext}
 ·rcases zB.mp ht with ht | ht
  ·exact k.td t ht
  ·rw[zu.mp ht];exact EJ (E7 o m)
 ·let⟨s1,s2,s3,s4,s5,s6⟩:=k.sz
  refine{s1,s2,s3,s4,s5,?_};show(rs++[r]).length<=_;rw[ze];show _+1<=_;ext
 ·rcases zB.mp hx with hx | hx
  ·exact k.ro x hx
  ·rw[zu.mp hx];exact o
def Fd {many:Nat} {ts:List Told} {S:c6} {rs:List Rep} {jo:Option Jump} (k:Rb many ts S rs jo) {r:Rep} (o:qQ many r) (m:many<=23) (f:(jo.isNone&&cV rs r)=false) (l:⇑rs<20):RX {} 0 (ts.map rowOf++[rowOf (.rep r)]) (.bad ⇑ts "form"):=
 qV k.runs k.td (by rw[Nat.zero_add];exact Je (EJ (E7 o m)) (Jj o) (by rw[MC k o l,f];rfl))
def J4 {many:Nat} {ts:List Told} {S:c6} {rs:List Rep} {jo:Option Jump} (k:Rb many ts S rs jo) {j:Jump} (o:JO many j):fault S (.bA j)=if jo.isSome=true then some ("twice": Str) else if cB rs j=true then none else some ("form": Str):=by
 unfold fault;dsimp only;rw[k.bA,k.Hy];cases jo with
 | some j=>rfl
 | none=>
  let ns:¬(none:Option Jump).isSome=true:=λz=>by cases z
  rw[yD ns,yD ns,yD (λz=>z (Kb (by rw[k.bars];exact NW o))),<-LX k.ok];cases cB rs j <;> rfl
def MA {many:Nat} {ts:List Told} {S:c6} {rs:List Rep} {jo:Option Jump} (k:Rb many ts S rs jo):Ga S:=λr hr=>by rw[k.Hy] at hr;have:=(k.ro r hr).n;ext
def Lx {many:Nat} {ts:List Told} {S:c6} {rs:List Rep} (k:Rb many ts S rs none) {j:Jump} (o:JO many j) (m:many<=23) (f:cB rs j=true):Rb many (ts++[.bA j]) {S with bA:=some j} rs (some j):=by
 refine{k.runs.app {by rw[J4 k o,yD (λz=>by cases z),yE f],MA k,BB k.holds,k.sz,rfl},λt ht=>?_,k.bars,k.Hy,rfl,k.holds,k.sz,k.ok,k.ro,k.rl};rcases zB.mp ht with ht | ht
 ·exact k.td t ht
 ·rw[zu.mp ht];exact As (Bw o m)
def CY {many:Nat} {ts:List Told} {S:c6} {rs:List Rep} {jo:Option Jump} (k:Rb many ts S rs jo) {j:Jump} (o:JO many j) (m:many<=23) {w:Str} (f:(if jo.isSome=true then some ("twice": Str) else if cB rs j=true then none else some ("form": Str))=some w):RX {} 0 (ts.map rowOf++[rowOf (.bA j)]) (.bad ⇑ts w):=
 qV k.runs k.td (by rw[Nat.zero_add];exact Je (As (Bw o m)) (MA k) (by rw[J4 k o];exact f))
def ME {many:Nat} {ts:List Told} {S:c6} {rs:List Rep} {jo:Option Jump} (k:Rb many ts S rs jo):RX {} 0 (ts.map rowOf) (.ok S):=by
 let r:=qV (rest:=[]) (i:=0) k.runs k.td .nil;rw[zP] at r;exact r
noncomputable def r9:Rep:={0,8,9,(List.range 9).map λk:Nat=>((k:Int),[9-(k:Int)])}
def RK:qQ 9 r9:={∅,∅,∅,∅,by decide +kernel,by
 intro e he;let⟨k,hk,rfl⟩:=zC.mp he;have:=yH.mp hk;refine{by show(0:Int)<=k;ext,by show(k:Int)<(9:Nat);ext,by simp,by show 1<=11;decide,λp hp=>?_};rw[zu.mp hp];ext}
noncomputable abbrev Ot:Sc.K3:={(1,4),0,[]}
def Pc:rowOf (.bar Ot) ="bar 1/4 0":=by decide +kernel
def QR:TD (.bar Ot):={{by show(1:Int)<=1;decide,by show(1:Int)<=32;decide,by show(4:Int)∈vC;decide +kernel,by show -7<=(0:Int);decide,by show(0:Int)<=7;decide,all_nil},by show 3<=100;decide,all_cons ∅ (all_cons (by show(dec 1 ++"/" ++ dec 4).length<=100;decide +kernel) (all_cons (by show(dec 0).length<=100;decide +kernel) all_nil))}
def R5:Rb 9 (List.replicate 9 (.bar Ot)) {bars:=List.replicate 9 Ot} [] none:=by
 let sz:Ci {}:=by unfold Ci;simp
 let r:=oV (l:=List.replicate 9 Ot) (S:={}) (by show 9<=200;decide) (BB rfl) sz;rw[List.map_replicate] at r;exact{r,λt ht=>by rw[GD ht];exact QR,rfl,rfl,rfl,rfl,{zX _,zX _,zX _,by show 9<=1000000;decide,zX _,zX _},{(List.Pairwise.nil),vD},vD,zX _}
def Ri:cV [] r9=true:=by decide +kernel
def QZ:Rb 9 (List.replicate 9 (.bar Ot)++[.rep r9]) {bars:=List.replicate 9 Ot,repeats:=[r9]} [r9] none:=Js R5 RK ∅ (by rw[Ri];rfl) ∅
def M8 {ts:List Told} (td:∀t∈ts,TD t) (ne:ts≠[]) (hl:⇑ts<=1000) :
  ((ts.map rowOf).map (λz:Str=>⇑z+("\n": Str).length)).sum<=sizeLine/\(Str.join "\n" (ts.map rowOf)).length+2<=sizeLine/\Txt.split (Str.join "\n" (ts.map rowOf)) "\n"= ts.map rowOf:=by
 let xe:∀x∈ts.map rowOf,10∉x.cps.toList/\⇑x<=10100:=λx hx=>by
  let⟨t,ht,rfl⟩:=zC.mp hx;exact{Ji (td t ht).1,EK (td t ht)}
 let a:=Jh (λx hx=>(xe x hx).2) (by rw[za];exact hl);exact{a.1,a.2,EM (by simp[ne]) λx hx=>(xe x hx).1}
def Se:∃(r:Rep) (ts:List Told) (S:c6),Rb 9 ts S [r] none/\Mo r/\S.repeats=[r]/\⇑ts=10/\ts.map rowOf=List.replicate 9 ("bar 1/4 0": Str)++[rowOf (.rep r)]/\c9 r=.tup [.int 0,.int 8,.int 9,.tup ((List.range 9).map λk:Nat=>fq ((k:Int),[9-(k:Int)]))]:=
 {r9,_,_,QZ,E7 RK ∅,rfl,rfl,by rw[zg,List.map_replicate,Pc];rfl,by unfold c9 r9;dsimp only;rw[zv];rfl}
def mj:Sp:=λvs H Q _=>vs=[]/\∀H',ao H H'->Q (.bl true) H'
def mE (B:Dk P w K T) (F:Cf K T.cY):cQ P w base 9 T.gn mj:=by
 nomatch T.gn,["_law_repeat","_law_text"]
 let⟨rfl,kk⟩:=h;let sl:=yr;let⟨r,ts,S,rb,rk,er,tl,et,ed⟩:=Se;refine{_,(aa (bV 0 qN (bw (ae ah (ae ah (ae ah (ae (Ex cm T.fb (ae (nG (ts:=["_law_k"]) (ys:=[]) (js:=[]) (te:=(Cy (ax (aB 0) (ax (Cy (ax (cI (mU λi j=>.int (i-j)) (tC (.int (9))) (aB 0)) aQ)) aQ)))) (jc (by rfl) T.jJ (ae ah ag)) (lF 0) bq (bw (ae (pv 0) (ae (bw (ae (aC fE ah (pv 0)) ag)) ag)))) ag)) ag))))))
  (aa (bV 1 qN (cK yw yy yx lG aG (ae (aC eC (aC LL (aV (ae aG ag)) ah) (aV (ae (b4 (gq T) hr T.dS (ae (pv 0) ag)) ag))) ag)))
  (ai (aj (b4 (aJ T (aJ T (aJ T (aJ T (aJ T (aJ T (fR T (k:=0)))))))) hr T.eL (ae (bc (qX (iW T B F) (hr.mono ∅) rfl T.cD.g T.cD.F.kp T.cD.b .nil MK (ae (pv 1) ag)) rfl) (ae (aV (ae (pv 0) ag)) ag))))))),?_}
 ac_rfl;exists(by decide),(by decide),?_;refine tT (λk=>fq ((k:Int),[9-(k:Int)])) (λσ=>∃v,σ=[v]) (by show 9<=_;ext) {(none),rfl} ?_ ?_
 ·rintro k σ H1 R hk s1 ⟨_,rfl⟩ rr
  exists(by show 1<=sizeLine;ext),?_
  intros p2 n2 s2 h2 H2
  exists(by show 2<=sizeLine;ext),?_
  intros p3 n3 s3 h3 H3
  refine rr _ _ _ (s2.trans s3) ?_ {_,rfl};rw[Int.zero_add] at h3 h2;exact bZ h3 (aN bJ (d4 (bZ (s3 _ _ h2) (d4 bJ))))
 intro D vs H1 s1 nD hD il;left;refine{D,_,rfl,.inl {aE.of hD,?_}}
 intros p2 n2 s2 h2 H2
 exists(by show 4<=sizeLine;ext),?_
 intros p3 n3 s3 h3 H3
 let ir:Is H3 (c9 r) (.ref p3):=by rw[ed];exact bZ h3 (aN bJ (aN bJ (aN bJ (d4 (bZ (s3 _ _ h2) (il.mono (s2.trans s3)))))))
 let s03:=(s1.trans s2).trans s3;clear il h2 hD h3;exists(by show 1<=sizeLine;ext),?_
 intros p4 n4 s4 h4 H4
 exists p4,_,9,rfl,rfl,h4,(by simp),(by decide),(by decide),(by show 1<=1000;decide),?_
 intros p5 n5 s5 h5 H5
 exists .ref p3,r,rfl,ir.mono (s4.trans s5),rk,λH6 s6=>?_;exists(by show 1<=sizeLine;ext),?_
 intros p7 n7 s7 h7 H7
 exists p5,p7,_,_,rfl,rfl,aE.of (s7 _ _ (s6 _ _ h5)),aE.of h7,(by show 9+1<=_;ext),?_
 intros p8 n8 s8 h8 H8
 let h8:H8 p8=some (.lst ((ts.map rowOf).map V.str)):=by rw[h8,et,zg,List.map_replicate];rfl
 let⟨t1,t2,t3⟩:=M8 rb.td (λz=>by rw[z] at tl;cases tl) ();exists "\n",p8,_,rfl,rfl,aE.of h8,t1,?_;left;refine{_,.ok S,rfl,t2,(by rw[t3];exact ME rb),λS' eS a o H9 sc s9 fr=>?_,λi w z=>nomatch z};cases eS;let⟨ub,jm,ho,hub,hjm⟩:=sc.obj;let⟨rv,hrv,irv⟩:=sc.re;rw[er] at irv;exists a,_,o.dx,_,_,rfl,ho,F.cls,F.repeats,rfl,?_;exists(by show 1<=sizeLine;ext),?_
 intros p10 n10 s10 h10 H10
 let s310:=((((((s4.trans s5).trans s6).trans s7).trans s8).trans s9).trans s10)
 refine{_,_,rfl,G5 (rs:=[r]) (lV rk.es vD) (by show 1<=1000;decide) (s10 _ _ hrv) h10 (irv.mono s10) (d4 (ir.mono s310)),λH' s'=>kk _ ((s03.trans s310).trans s')}
inductive eT (vs:List V) (H:Hp) (Q:VK) (E:XK):Prop
 | mk (D:wM) (us:List V) (rs:List Rep) (many:Nat) (m n:Int) (_:vs=[.ref D,.int many,.int m,.int n]) (_:H D=some (.lst us)) (_:au H (rs.map c9) us) (_:(∀r∈rs,0<=r.last/\r.last<many)) (_:4<=many) (_:many<=23) (_:0<=m) (_:0<=n) (_:∀r v H',ao H H'->Is H' (c9 r) v->qQ many r->Q v H')
def nM:cQ P w base 2 T.hV eT:=by
 nomatch T.hV,["_law_repeats","_law_many","_law_m","_law_n","_law_behind","_law_first","_law_last","_law_times","_law_ends"]
 let⟨D,us,rs,many,m,n,rfl,hD,il,rb,m4,m23,m0,n0,kk⟩:=h;let sl:=yr;let ul:=aM il;refine{_,(aa (bV 4 qN ah)
  (aa (az (ptr (Bd hr.units) (pv 0) (aV ag))
  (ai (bV 4 qN (aC dh (cE (dM (pv 0) (j8 gg ah)) ah) ah)))
  ak)
  (aa (bV 5 qN (dP (jr rfl) T.Dw (ae (aC fE (pv 1) ah) (ae (dM (aV (ae (pv 4) (ae (pv 4) (ae (aC dh (pv 4) (aC bM (aC b8 (pv 2) ah) ah)) (ae (dP (pI rfl) T.JV (ae ah (ae (aC fE (pv 4) ah) ag))) (ae (aC bM (aC b8 (pv 2) ah) (pv 1)) ag)))))) (aC bM (pv 2) ah)) ag))))
  (aa (bV 6 qN (dP (jr rfl) T.Dw (ae (aC fE (pv 1) ah) (ae (dP (pI rfl) T.JV (ae ah (ae (aC dh (pv 5) (dM (aV (ae ah (ae ah (ae ah (ae ah (ae ah (ae ah (ae (j8 gg ah) ag)))))))) (aC bM (aC b8 (pv 2) ah) ah))) ag))) ag))))
  (aa (bV 7 qN (aC dh ah (aC bM (aC b8 (pv 2) ah) (dM (aV (ae ah (ae ah ag))) (aC bM (aC b8 (pv 2) ah) ah)))))
  (aa (bV 8 qN (b4 (qG T) hr T.jZ (ae (pv 5) (ae (pv 6) (ae (pv 7) (ae (pv 3) ag))))))
  (ai (aj (bw (ae (pv 5) (ae (pv 6) (ae (pv 7) (ae (Ex cm T.fb (ae (nG (ts:=["_law_begin","_law_passes"]) (ys:=["_law_many"]) (js:=[1]) (g:=(L4 K 2 (tq (bj 0) (tq (bj 1) L5)))) (te:=(Cy (ax (oH Q4 (ax (cI (mU λi j=>.int (i-j)) (aB 2) (tC (.int (1)))) (ax (aB 0) aQ))) (ax (aB 1) aQ)))) (eY (pv 8)) (fB (n:=2) rfl (aK (lF 0) (aK (lF 1) dN))) bq (bw (ae (dP (jr rfl) T.Dw (ae (aC fE (pv 2) ah) (ae (pv 0) ag))) (ae (pv 1) ag)))) ag)) ag))))))))))))),?_}
 ac_rfl;exists(by show 0<=sizeLine;ext),?_
 intros p1 n1 s1 h1 H1
 refine{D,p1,us,[],rfl,rfl,.inl {aE.of (s1 _ _ hD),aE.of h1},.inr (.inl rfl),?_};left;refine join (λσ H'=>∃bh:Int,σ=[some (.ref D),some (.int many),some (.int m),some (.int n),some (.int bh),none,none,none,none]/\ao H H'/\0<=bh/\bh<=many) (λN hN c1=>?_) (λN hN c1=>?_) ?_
 ·let hu:0<⇑us:=by
   rcases Nat.eq_zero_or_pos ⇑us with z | z
   ·rw[yh.mp z] at c1;cases c1
   ·exact z
  let⟨v,hv,av⟩:=Bv (l:=us) hu;let av:=av id;rw[List.map_id] at av;let⟨r,hr',ir⟩:=dZ il hv;let⟨ra,re,rfl,hra,_⟩:=cS ir;let hra1:=s1 _ _ hra;have:=rb r (zw hr');exists D,_,-1,_,rfl,rfl,aE.of (s1 _ _ hD),av,?_;change hN _ _ {r.last+1,rfl,s1,(),()}
 ·left
  exact hN _ _ {0,rfl,s1,(),()}
 rintro σ H2 ⟨bh,rfl,s2,b0,b1⟩;let q0:0<=m/4%(many:Int):=zp _ ();let q1:m/4%(many:Int)<many:=zm _ ();exists 0,bh-1,rfl,?_;exists (),?_;exists(by show 5<=sizeLine;ext),?_
 intros p3 n3 s3 h3 H3
 obtain⟨x,ex,x0⟩:∃x:Int,qm [V.int bh,.int bh,.int (bh+m/4%3),.int (if bh-1>0 then bh-1 else 0),.int (m/4%many)] (m%5)=some (.int x)/\0<=x:=by
  obtain c | c | c | c | c:m%5=0\/m%5=1\/m%5=2\/m%5=3\/m%5=4:=()
  ·rw[c];exact{_,rfl,()}
  ·rw[c];exact{_,rfl,()}
  ·rw[c];exact{_,rfl,()}
  ·rw[c];exact{_,rfl,by split <;> ext}
  ·rw[c];exact{_,rfl,()}
 exists p3,_,m%5,_,rfl,rfl,aE.of h3,ex,?_;exists _,x,rfl,?_;obtain⟨first,ef,f0,f1⟩:∃f:Int,(if x<(many:Int)-1 then x else(many:Int)-1)=f/\0<=f/\f<many:=by
  refine{_,rfl,?_,?_}
  ·split <;> ext
  ·split <;> ext
 rw[ef];exists(by show 7<=sizeLine;ext),?_
 intros p4 n4 s4 h4 H4
 obtain⟨d,ed,d0,d1⟩:∃d:Int,qm [V.int 0,.int 1,.int 2,.int 3,.int 4,.int 6,.int (-1)] (m/100%7)=some (.int d)/\-1<=d/\d<=6:=by
  obtain c | c | c | c | c | c | c:m/100%7=0\/m/100%7=1\/m/100%7=2\/m/100%7=3\/m/100%7=4\/m/100%7=5\/m/100%7=6:=()
  ·rw[c];exact{0,rfl,∅,∅}
  ·rw[c];exact{1,rfl,∅,∅}
  ·rw[c];exact{2,rfl,∅,∅}
  ·rw[c];exact{3,rfl,∅,∅}
  ·rw[c];exact{4,rfl,∅,∅}
  ·rw[c];exact{6,rfl,∅,∅}
  ·rw[c];exact{-1,rfl,∅,∅}
 exists p4,_,m/100%7,_,rfl,rfl,aE.of h4,ed,?_;exists 0,first+d,rfl,?_;obtain⟨y,ey,y0⟩:∃y:Int,(if first+d>0 then first+d else 0)=y/\0<=y:=by
  refine{_,rfl,?_};split <;> ext
 rw[ey];exists _,y,rfl,?_;obtain⟨last,el,l0,l1⟩:∃f:Int,(if y<(many:Int)-1 then y else(many:Int)-1)=f/\0<=f/\f<many:=by
  refine{_,rfl,?_,?_}
  ·split <;> ext
  ·split <;> ext
 rw[el];exists(by show 2<=sizeLine;ext),?_
 intros p5 n5 s5 h5 H5
 obtain⟨z,ez,z2,z8⟩:∃z:Int,qm [V.int 2,.int 8] (m/5600%2)=some (.int z)/\2<=z/\z<=8:=by
  obtain c | c:m/5600%2=0\/m/5600%2=1:=()
  ·rw[c];exact{2,rfl,∅,∅}
  ·rw[c];exact{8,rfl,∅,∅}
 exists p5,_,m/5600%2,_,rfl,rfl,aE.of h5,ez,?_;exists (),?_;let w0:0<=m/700%z:=zp _ ();let w1:m/700%z<z:=zm _ ();exists first,last,2+m/700%z,n,rfl,f0,(),l0,(),(),(),n0,λes ve H6 s6 ie eb=>?_;obtain⟨times,et⟩:∃times,times=2+m/700%z:={_,rfl}
 rw[<-et];let s06:=(((s2.trans s3).trans s4).trans s5).trans s6;obtain⟨ep,evs,rfl,hep,ile⟩:∃ep evs,ve=.ref ep/\H6 ep=some (.tup evs)/\au H6 (es.map fq) evs:=by unfold Is at ie;exact ie
 exists{_,bK.of hep},?_;let⟨zs,e1,e2,e3⟩:=jN ile;let zl:⇑zs=⇑es:=by rw[<-e1,za]
 let el3:=eb.len;refine cX (enc:=λz:Sc.End×V=>z.2) (ws:=zs) (λz=>fq ((if z.1.1<(many:Int)-1 then z.1.1 else(many:Int)-1),z.1.2)) (λσ=>∃v1 v2,σ=[v1,v2,some (.int many)]) () (by rw[e2];exact hep) {(none),none,rfl} ?_ ?_
 ·rintro⟨e,v⟩ σ H7 R hz s7 ⟨_,_,rfl⟩ rr
  let⟨ea,q,rfl,hea,hq⟩:=hJ (Is.mono s7 (e3 _ hz));refine{ea,_,rfl,bK.of hea,rfl,?_};refine{_,_,rfl,{_,_,rfl,{rfl,?_}}};exists _,_,rfl,?_;exists(by show 2<=sizeLine;ext),?_
  intros p8 n8 s8 h8 H8
  exact rr _ _ _ s8 (bZ h8 (aN bJ (d4 (bZ (s8 _ _ hq) jQ)))) {_,_,rfl}
 intro L vs H7 s7 hL il7;left;refine{L,_,rfl,.inl {aE.of hL,?_}}
 intros p8 n8 s8 h8 H8
 exists(by show 4<=sizeLine;ext),?_
 intros p9 n9 s9 h9 H9
 let il8:au H7 ((es.map λe=>((if e.1<(many:Int)-1 then e.1 else(many:Int)-1),e.2)).map fq) vs:=by rw[<-e1,zv,zv];exact il7
 refine kk {first,last,times,es.map λe=>((if e.1<(many:Int)-1 then e.1 else(many:Int)-1),e.2)} _ _ (((s06.trans s7).trans s8).trans s9) (bZ h9 (aN bJ (aN bJ (aN bJ (d4 (bZ (s9 _ _ h8) (il8.mono (s8.trans s9)))))))) {{(f0),f1},{(l0),l1},{by show 2<=times;ext,by show times<=9;ext},?_,?_,?_}
 ·show(es.map _).length<=9
  rw[za];ext
 ·let tb:=Mw (k:=11) (es:=es.map λe=>((if e.1<(many:Int)-1 then e.1 else(many:Int)-1),e.2)) (λe he=>by
   let⟨e',he',rfl⟩:=zC.mp he;exact(eb.all e' he').2.2.2.1)
  rw[za] at tb;show Cv (es.map _)<64;ext
 ·intro e he
  let⟨e',he',rfl⟩:=zC.mp he;let⟨a1,a2,a3,a4,a5⟩:=eb.all e' he';refine{?_,?_,a3,a4,a5}
  ·show 0<=(if e'.1<(many:Int)-1 then e'.1 else(many:Int)-1)
   split <;> ext
  ·show(if e'.1<(many:Int)-1 then e'.1 else(many:Int)-1)<(many:Int)
   split <;> ext
inductive gi (vs:List V) (H:Hp) (Q:VK) (E:XK):Prop
 | mk (D:wM) (us:List V) (rs:List Rep) (many:Nat) (m:Int) (_:vs=[.ref D,.int many,.int m]) (_:H D=some (.lst us)) (_:au H (rs.map c9) us) (_:(∀r∈rs,qQ many r)) (_:⇑rs<=20) (_:4<=many) (_:many<=23) (_:0<=m) (_:∀j v H',ao H H'->Is H' (dn j) v->JO many j->Q v H')
def qF:cQ P w base 1 T.jY gi:=by
 nomatch T.jY,["_law_repeats","_law_many","_law_m","_law_bars","_law_ats","_law_tos","_law_at","_law_to","_law_coda","_law_some"]
 let⟨D,us,rs,many,m,rfl,hD,il,rb,rl,m4,m23,m0,kk⟩:=h;let sl:=yr;let ul:=aM il;let mp:(0:Int)<many:=()
 let md:∀x:Int,0<=x%(many:Int)/\x%(many:Int)<many:=λx=>{zp _ (),zm _ mp}
 let⟨zs,e1,e2,e3⟩:=jN il;let zl:⇑zs=⇑rs:=by rw[<-e1,za]
 let zr:∀z∈zs,qQ many z.1:=λz hz=>rb z.1 (by rw[<-e1];exact zC.mpr {(z),hz,rfl});refine{_,(aa (bV 3 qN (aV (ae (aC bM (aC b8 (pv 2) ah) (pv 1)) (ae (aC bM (aC b8 (pv 2) ah) (pv 1)) (ae (aC bM (aC b8 (pv 2) ah) (pv 1)) (ae (aC bM (aC b8 (pv 2) ah) (pv 1)) ag))))))
  (aa (bV 4 qN (aC eC (nG (ts:=["_law_one"]) (ys:=[]) (js:=[]) (te:=(cI (kK K) (aB 0) (tC (.int (1))))) (b7 (pv 0)) (lF 0) bq (cE (pv 0) ah)) (aV (ae (aC fE (pv 1) ah) ag))))
  (aa (bV 5 qN (aC eC (nG (ts:=["_law_one"]) (ys:=[]) (js:=[]) (te:=(cI (kK K) (aB 0) (tC (.int (0))))) (b7 (pv 0)) (lF 0) bq (cE (pv 0) ah)) (aV (ae ah ag))))
  (aa (bV 6 qN (dM (pv 4) (aC bM (aC b8 (pv 2) ah) (dP ay T.bz (ae (pv 4) ag)))))
  (aa (bV 7 qN (dM (pv 5) (aC bM (aC b8 (pv 2) ah) (dP ay T.bz (ae (pv 5) ag)))))
  (aa (bV 8 qN (dM (aV (ae aH (ae (dM (pv 3) ah) (ae (dP (jr rfl) T.Dw (ae (aC fE (pv 1) ah) (ae (aC dh (pv 6) ah) ag))) ag)))) (aC bM (aC b8 (pv 2) ah) ah)))
  (aa (bV 9 qN (aV (ae (bw (ae (pv 6) (ae (pv 7) (ae (pv 6) (ae (pv 8) ag))))) (ae (bw (ae (pv 6) (ae (pv 7) (ae (dM (pv 3) ah) (ae (pv 8) ag))))) (ae (bw (ae (dM (pv 3) ah) (ae (pv 7) (ae (dP (jr rfl) T.Dw (ae (dM (pv 3) ah) (ae (pv 6) ag))) (ae (pv 8) ag))))) ag)))))
  (aa (cT (cK yt yv yu cM (pv 9) (ae (bw (ae (dM (pv 3) ah) (ae (dM (pv 3) ah) (ae (dM (pv 3) ah) (ae (pv 8) ag))))) ag)))
  (ai (aj (dM (pv 9) (aC bM (pv 2) ah)))))))))))),?_}
 ac_rfl;exists mp,?_;exists mp,?_;exists mp,?_;exists mp,?_;exists(by show 4<=sizeLine;ext),?_;let q0:=md (m/4);let q1:=md (m/100);let q2:=md (m/3000);let q3:=md (m/90000)
 intros B nB s1 hB H1
 obtain⟨b0,b1,b2,b3,hB,q0,q1,q2,q3⟩:∃b0 b1 b2 b3:Int,H1 B=some (.lst [.int b0,.int b1,.int b2,.int b3])/\(0<=b0/\b0<(many:Int))/\(0<=b1/\b1<(many:Int))/\(0<=b2/\b2<(many:Int))/\(0<=b3/\b3<(many:Int)):={_,_,_,_,hB,q0,q1,q2,q3}
 exists{_,aE.of (s1 _ _ hD)},?_;refine mL (enc:=λz:Rep×V=>z.2) (ws:=zs) (λz=>.int z.1.last) (λσ=>∃v,σ=[v]) () (by rw[e2];exact aE.of (s1 _ _ hD)) {(none),rfl} ?_ ?_
 ·rintro⟨r,v⟩ σ H2 R hz s2 ⟨_,rfl⟩ rr
  let⟨ra,re,rfl,hra,_⟩:=cS (Is.mono (s1.trans s2) (e3 _ hz));change rr _ _ _ (ao.refl _) bJ {_,rfl}
 intro A1 v1 H2 s2 _ hA1 ilA;let ilA:au H2 ((zs.map λz:Rep×V=>z.1.last).map Dt.int) v1:=by rw[zv];exact ilA
 rw[fT ilA] at hA1;exists(by show 1<=sizeLine;ext),?_
 intros A2 nA2 s3 hA2 H3
 exists A1,A2,_,_,rfl,rfl,aE.of (s3 _ _ hA1),aE.of hA2,(by rw[za,za];show _+1<=_;ext),?_
 intros A3 nA3 s4 hA3 H4
 let hA3:H4 A3=some (.lst (((zs.map λz:Rep×V=>z.1.last)++[(many:Int)-1]).map V.int)):=by rw[hA3,zg];rfl
 let s14:=(s2.trans s3).trans s4;exists{_,aE.of (s14 _ _ (s1 _ _ hD))},?_;refine mL (enc:=λz:Rep×V=>z.2) (ws:=zs) (λz=>.int z.1.first) (λσ=>∃v,σ=[v]) () (by rw[e2];exact aE.of (s14 _ _ (s1 _ _ hD))) {(none),rfl} ?_ ?_
 ·rintro⟨r,v⟩ σ H5 R hz s5 ⟨_,rfl⟩ rr
  let⟨ra,re,rfl,hra,_⟩:=cS (Is.mono ((s1.trans s14).trans s5) (e3 _ hz));change rr _ _ _ (ao.refl _) bJ {_,rfl}
 intro T1 v2 H5 s5 _ hT1 ilT;let ilT:au H5 ((zs.map λz:Rep×V=>z.1.first).map Dt.int) v2:=by rw[zv];exact ilT
 rw[fT ilT] at hT1;exists(by show 1<=sizeLine;ext),?_
 intros T2 nT2 s6 hT2 H6
 exists T1,T2,_,_,rfl,rfl,aE.of (s6 _ _ hT1),aE.of hT2,(by rw[za,za];show _+1<=_;ext),?_
 intros T3 nT3 s7 hT3 H7
 let hT3:H7 T3=some (.lst (((zs.map λz:Rep×V=>z.1.first)++[0]).map V.int)):=by rw[hT3,zg];rfl
 let s47:=(s5.trans s6).trans s7;obtain⟨ats,ea,al,ab⟩:∃ats:List Int,ats=(zs.map λz:Rep×V=>z.1.last)++[(many:Int)-1]/\0<⇑ats/\∀x∈ats,0<=x/\x<many:={_,rfl,by rw[ze];exact Nat.succ_pos _,λx hx=>by
  rcases zB.mp hx with hx | hx
  ·let⟨z,hz,rfl⟩:=zC.mp hx;exact(zr z hz).l
  ·rw[zu.mp hx];exact{(()),()}}
 obtain⟨tos,et,tl,tb⟩:∃tos:List Int,tos=(zs.map λz:Rep×V=>z.1.first)++[0]/\0<⇑tos/\∀x∈tos,0<=x/\x<many:={_,rfl,by rw[ze];exact Nat.succ_pos _,λx hx=>by
  rcases zB.mp hx with hx | hx
  ·let⟨z,hz,rfl⟩:=zC.mp hx;exact(zr z hz).f
  ·rw[zu.mp hx];exact{(()),()}}
 rw[<-ea] at hA3;rw[<-et] at hT3;let ix:∀{l:List Int} (x:Int),0<⇑l->(∀x∈l,0<=x/\x<(many:Int))->∃y,qm (l.map V.int) (x%(⇑(l.map V.int):Int))=some (.int y)/\0<=y/\y<many:=λ{l} x hl hb=>by
  let a0:=zp x (show(⇑l:Int)≠0 by ext);let a1:=zm x (show(0:Int)<⇑l by ext);obtain⟨y,hy⟩:∃y,l[(x%(⇑l:Int)).toNat]?=some y:={_,zb ()}
  refine{y,?_,hb y (zw hy)};rw[za,show x%(⇑l:Int)=(((x%(⇑l:Int)).toNat:Nat):Int) by ext];exact bC (by rw[zF,hy];rfl)
 let⟨at',eat,at0,at1⟩:=ix (m/8) al ab;let⟨to,eto,to0,to1⟩:=ix (m/64) tl tb;let hA37:=s47 _ _ hA3;exists A3,_,rfl,.inl (aE.of hA37),?_;exists(by rw[za];ext),?_;exists A3,_,_,_,rfl,rfl,aE.of hA37,eat,?_;exists T3,_,rfl,.inl (aE.of hT3),?_;exists(by rw[za];ext),?_;exists T3,_,_,_,rfl,rfl,aE.of hT3,eto,?_;let hB7:=s47 _ _ (s14 _ _ hB);exists B,_,3,_,rfl,rfl,aE.of hB7,rfl,?_;exists _,_,rfl,?_;obtain⟨cc,ecc,cc0,cc1⟩:∃f:Int,(if at'+1<(many:Int)-1 then at'+1 else(many:Int)-1)=f/\0<=f/\f<many:=by
  refine{_,rfl,?_,?_}
  ·split <;> ext
  ·split <;> ext
 rw[ecc];exists(by show 3<=sizeLine;ext),?_
 intros p8 n8 s8 h8 H8
 obtain⟨co,eco,cob⟩:∃co:Option Int,qm [V.aX,.int b3,.int cc] (m/7%3)=some (ov co)/\∀c,co=some c->0<=c/\c<(many:Int):=by
  obtain c | c | c:m/7%3=0\/m/7%3=1\/m/7%3=2:=()
  ·rw[c];exact{none,rfl,λ_ z=>by cases z}
  ·rw[c];exact{some b3,rfl,λ_ z=>by cases z;exact q3}
  ·rw[c];exact{some cc,rfl,λ_ z=>by cases z;exact{(cc0),cc1}}
 exists p8,_,m/7%3,_,rfl,rfl,aE.of h8,eco,?_;let hB8:=s8 _ _ hB7;exists(by show 4<=sizeLine;ext),?_
 intros p9 n9 s9 h9 H9
 exists B,_,2,_,rfl,rfl,aE.of (s9 _ _ hB8),rfl,?_;exists(by show 4<=sizeLine;ext),?_
 intros p10 n10 s10 h10 H10
 let hB10:=s10 _ _ (s9 _ _ hB8);exists B,_,0,_,rfl,rfl,aE.of hB10,rfl,?_;exists B,_,0,_,rfl,rfl,aE.of hB10,rfl,?_;exists _,_,rfl,?_;obtain⟨mn,emn,mn0,mn1⟩:∃f:Int,(if at'<b0 then at' else b0)=f/\0<=f/\f<many:=by
  refine{_,rfl,?_,?_}
  ·split <;> ext
  ·split <;> ext
 rw[emn];exists(by show 4<=sizeLine;ext),?_
 intros p11 n11 s11 h11 H11
 exists(by show 3<=sizeLine;ext),?_
 intros L nL s12 hL H12
 let hB12:=s12 _ _ (s11 _ _ hB10);exists .inl {rfl,_,aE.of hL},?_;exists B,_,0,_,rfl,rfl,aE.of hB12,rfl,?_;exists B,_,1,_,rfl,rfl,aE.of hB12,rfl,?_;exists B,_,2,_,rfl,rfl,aE.of hB12,rfl,?_;exists(by show 4<=sizeLine;ext),?_
 intros p13 n13 s13 h13 H13
 exists L,_,_,rfl,rfl,s13 _ _ hL,(by show 3<_;ext),?_;generalize hG:upd H13 L (.lst ([V.ref p9,V.ref p10,V.ref p11]++[V.ref p13]))=H14;let hL14:H14 L=some (.lst [V.ref p9,V.ref p10,V.ref p11,V.ref p13]):=by rw[<-hG,aA];rfl
 let nt:cv (H13 L):=λvs z=>by rw[s13 _ _ hL] at z;cases z
 let nL0:H L=none:=(((((((s1.trans s14).trans s47).trans s8).trans s9).trans s10).trans s11)).free nL;let s014:ao H H14:=by rw[<-hG];exact d8 nL0 ((((((((s1.trans s14).trans s47).trans s8).trans s9).trans s10).trans s11).trans s12).trans s13)
 let ij:∀{p:wM} {x y z:Int},H13 p=some (.tup [.int x,.int y,.int z,ov co])->Is H14 (dn {(x),y,z,co}) (.ref p):=λ{p x y z} h=>by rw[<-hG];exact Is.upd nt (bZ h (aN bJ (aN bJ (aN bJ (d4 (qf _))))))
 let i9:=ij (s13 _ _ (s12 _ _ (s11 _ _ (s10 _ _ h9))));let i10:=ij (s13 _ _ (s12 _ _ (s11 _ _ h10)));let i11:=ij (s13 _ _ (s12 _ _ h11));let i13:=ij h13;let e:∃p j,qm [V.ref p9,V.ref p10,V.ref p11,V.ref p13] (m%4)=some (.ref p)/\Is H14 (dn j) (.ref p)/\JO many j:=by
  obtain c | c | c | c:m%4=0\/m%4=1\/m%4=2\/m%4=3:=()
  ·rw[c];exact{p9,_,rfl,i9,{(at0),at1},{(to0),to1},{(at0),at1},cob}
  ·rw[c];exact{p10,_,rfl,i10,{(at0),at1},{(to0),to1},q2,cob}
  ·rw[c];exact{p11,_,rfl,i11,q0,{(to0),to1},{(mn0),mn1},cob}
  ·rw[c];exact{p13,_,rfl,i13,q0,q1,q2,cob}
 let⟨p,j,ep,ij,jo⟩:=e;exists L,_,m%4,_,rfl,rfl,aE.of hL14,ep,?_;exact kk j _ _ s014 ij jo
inductive Ch (H:Hp) (many:Nat) (rs:List Rep) (jo:Option Jump) (v:V):Told->Bool->Str->Prop
 | rep (r:Rep) (i:Is H (c9 r) v) (o:qQ many r):Ch H many rs jo v (.rep r) ((jo.isNone&&cV rs r)&&decide (⇑rs<20)) "form"
 | bA (j:Jump) (i:Is H (dn j) v) (o:JO many j):Ch H many rs jo v (.bA j) (jo.isNone&&cB rs j) (if jo.isNone=true then "form" else "twice")
def Q8 {H:Hp} {a R D:wM} {many:Nat} {ts:List Told} {S:c6} {rs:List Rep} {jo:Option Jump} {us:List V} {jv:V} {k:Nat} {c m n:Int} {u10 u11 u12 u13:Option V} {Z:Ends} (hD:H D=some (.lst us)) (il:au H (rs.map c9) us) (ij:Is H (dO dn jo) jv) (rb:Rb many ts S rs jo) (m4:4<=many) (m23:many<=23) (m0:0<=m) (n0:0<=n)
  (hN:∀v t g w H',ao H H'->Ch H' many rs jo v t g w->Z.nx [some (.ref a),some (.int many),some (.ref R),some (.ref D),some jv,some (.int k),some (.int c),some (.int m),some (.int n),some (.str w),some v,some (.str (rowOf t)),some (.bl g),u13] H') :
  (dy (cR (bD eT [] E0 (ax (aB 3) (ax (aB 1) (ax (aB 7) (ax (cI (rI KU λi j=>V.int (i/j)) (aB 8) (tC (V.int 11))) aQ))))) (bj 10)) (dy (cR (bD dU [] E0 (ax (aB 10) aQ)) (bj 11)) (cR (vS (bD dW [] E0 (ax (aB 3) (ax (aB 4) (ax (aB 10) aQ)))) (cI (mU λi j=>V.bl (decide (i<j))) (oH (λxs H Q=>∃p ys,xs=[V.ref p]/\(aE K H p ys\/bK K H p ys)/\Q (V.int (⇑ys:Int)) H) (ax (aB 3) aQ)) (tC (V.int 20)))) (bj 12))))
   Z [some (.ref a),some (.int many),some (.ref R),some (.ref D),some jv,some (.int k),some (.int c),some (.int m),some (.int n),some (.str "form"),u10,u11,u12,u13] H:=by
 let ul:=aM il;exists D,us,rs,many,m,_,rfl,hD,il,(λr hr=>(rb.ro r hr).l),m4,m23,m0,Int.ediv_nonneg n0 ∅,λr v H1 s1 iv ro=>?_;exists v,r,rfl,iv,E7 ro m23,λH2 s2=>?_;let s02:=s1.trans s2;exists D,us,rs,jv,jo,v,r,rfl,s02 _ _ hD,il.mono s02,rb.rl,ij.mono s02,iv.mono s2,(E7 ro m23).es,(by have:=ro.t;ext),ro.t.2,λH3 s3=>?_;let s03:=s02.trans s3;let ch:=Ch.rep (H:=H3) (rs:=rs) (jo:=jo) r (iv.mono (s2.trans s3)) ro;left;cases q:(jo.isNone&&cV rs r) with
 | true=>
  rw[q] at ch;refine bo rfl ?_;exists D,us,rfl,.inl (aE.of (s03 _ _ hD)),?_;let e:decide ((⇑us:Int)<20)=(true&&decide (⇑rs<20)):=by rw[yL,ul];exact decide_eq_decide.mpr ()
  left;rw[e];exact hN _ _ _ _ _ s03 ch
 | false=>
  rw[q] at ch;refine bp rfl ?_;exact hN _ _ _ _ _ s03 ch
def Q9 {H:Hp} {a R D:wM} {many:Nat} {ts:List Told} {S:c6} {rs:List Rep} {jo:Option Jump} {us:List V} {jv:V} {k:Nat} {c m n:Int} {u10 u11 u12 u13:Option V} {Z:Ends} (hD:H D=some (.lst us)) (il:au H (rs.map c9) us) (ij:Is H (dO dn jo) jv) (rb:Rb many ts S rs jo) (m4:4<=many) (m23:many<=23) (m0:0<=m)
  (hN:∀v t g w H',ao H H'->Ch H' many rs jo v t g w->Z.nx [some (.ref a),some (.int many),some (.ref R),some (.ref D),some jv,some (.int k),some (.int c),some (.int m),some (.int n),some (.str w),some v,some (.str (rowOf t)),some (.bl g),u13] H') :
  (dy (cR (bD gi [] E0 (ax (aB 3) (ax (aB 1) (ax (aB 7) aQ)))) (bj 10)) (dy (cR (bD eU [] E0 (ax (aB 10) aQ)) (bj 11)) (dy (cR (vS (uD (aB 4)) (bD eV [] E0 (ax (aB 3) (ax (aB 10) aQ)))) (bj 12)) (cR (cI (qA K) (oG (ax (tC (V.str ("twice": Str))) (ax (tC (V.str ("form": Str))) aQ))) (oH (λxs H Q=>(∃i,xs=[V.int i]/\Q (V.int i) H)\/∃k,xs=[V.bl k]/\Q (V.int (if k=true then 1 else 0)) H) (ax (uD (aB 4)) aQ))) (bj 9)))))
   Z [some (.ref a),some (.int many),some (.ref R),some (.ref D),some jv,some (.int k),some (.int c),some (.int m),some (.int n),some (.str "form"),u10,u11,u12,u13] H:=by
 let sl:=yr;exists D,us,rs,many,m,rfl,hD,il,rb.ro,rb.rl,m4,m23,m0,λj v H1 s1 iv o=>?_;exists v,j,rfl,iv,Bw o m23,λH2 s2=>?_;let s02:=s1.trans s2;let ij2:=ij.mono s02;cases jo with
 | none=>
  obtain rfl:jv=.aX:=by unfold dO Is at ij;exact ij
  exists D,us,rs,v,j,rfl,s02 _ _ hD,il.mono s02,rb.rl,iv.mono s2,λH3 s3=>?_;exists(by show 2<=sizeLine;ext),?_
  intros p4 n4 s4 h4 H4
  exists p4,_,1,_,rfl,(by rw[zd rfl];rfl),aE.of h4,rfl,?_;exact hN _ _ _ _ _ ((s02.trans s3).trans s4) (Ch.bA (jo:=none) j (iv.mono ((s2.trans s3).trans s4)) o)
 | some jj=>
  let⟨ja,rfl,hja⟩:=fe (j:=jj) ij;exists(by show 2<=sizeLine;ext),?_
  intros p4 n4 s4 h4 H4
  exists p4,_,0,_,rfl,(by rw[zc (λz=>by cases z)];rfl),aE.of h4,rfl,?_;exact hN _ _ _ _ _ (s02.trans s4) (Ch.bA (jo:=some jj) j (iv.mono (s2.trans s4)) o)
def Rg {H:Hp} {a R D:wM} {ns:List Int} {many:Nat} {jv:V} {k:Nat} {c m n:Int} {u10 u11 u12 u13:Option V} {Z:Ends} {tr tj:TS} (ha:aE K H a (ns.map V.int))
  (hr:∀H',ao H H'->tr Z [some (.ref a),some (.int many),some (.ref R),some (.ref D),some jv,some (.int k),some (.int c),some (.int m),some (.int n),some (.str "form"),u10,u11,u12,u13] H') (hj:∀H',ao H H'->tj Z [some (.ref a),some (.int many),some (.ref R),some (.ref D),some jv,some (.int k),some (.int c),some (.int m),some (.int n),some (.str "form"),u10,u11,u12,u13] H') :
  ig (m5 (c7 (cI (mU λi j=>V.bl (decide (j<i))) (cI (rI (λx j=>0<j) λi j=>V.int (i%j)) (aB 8) (tC (V.int 11))) (tC (V.int 0)))) (c7 (cI (mU λi j=>V.bl (decide (i<j))) (aB 5) (oH (λxs H Q=>∃p ys,xs=[V.ref p]/\(aE K H p ys\/bK K H p ys)/\Q (V.int (⇑ys:Int)) H) (ax (OG (Hz K) (aB 0) (vR (tC (V.int 1))) lA) aQ))))) tr tj
   Z [some (.ref a),some (.int many),some (.ref R),some (.ref D),some jv,some (.int k),some (.int c),some (.int m),some (.int n),some (.str "form"),u10,u11,u12,u13] H:=by
 let sl:=yr;left;cases decide (0<n%11) with
 | false=>
  refine bp rfl ?_;exact hj _ (ao.refl _)
 | true=>
  refine bo rfl ?_;exists a,_,rfl,ha,?_
  intros p1 n1 s1 h1 H1
  exists p1,_,rfl,.inl (aE.of h1),?_;left;cases decide ((k:Int)<(⇑(gf (ns.map V.int) (some 1) none):Int)) with
  | false=>refine bp rfl ?_;exact hj _ s1
  | true=>refine bo rfl ?_;exact hr _ s1
def Oj {H:Hp} {many:Nat} {ts:List Told} {S:c6} {rs:List Rep} {jo:Option Jump} {v:V} {t:Told} {w:Str} (rb:Rb many ts S rs jo) (m23:many<=23) (h:Ch H many rs jo v t false w) (l:⇑rs<20):TD t/\RX {} 0 (ts.map rowOf++[rowOf t]) (.bad ⇑ts w):=by
 generalize eg:false=g at h;cases h with
 | rep r i o=>
  rw[zd l,Bool.and_true] at eg;exact{EJ (E7 o m23),Fd rb o m23 eg.symm l}
 | bA j i o=>
  refine{As (Bw o m23),CY rb o m23 ?_};cases jo with
  | none=>
   let e:cB rs j=false:=eg.symm;rw[e];rfl
  | some jj=>rfl
def QP {ts:List Told} {t:Told} (td:∀t∈ts,TD t) (h:TD t) (hl:⇑ts<=900) :
  ((ts.map rowOf++[rowOf t]).map (λz:Str=>⇑z+("\n": Str).length)).sum<=sizeLine/\(Str.join "\n" (ts.map rowOf++[rowOf t])).length+2<=sizeLine/\Txt.split (Str.join "\n" (ts.map rowOf++[rowOf t])) "\n"= ts.map rowOf++[rowOf t]:=by
 have:=M8 (ts:=ts++[t]) (λx hx=>by
  rcases zB.mp hx with hx | hx
  ·exact td x hx
  ·rw[zu.mp hx];exact h) (by simp) (by rw[ze];show _+1<=_;ext)
 rw[zg] at this;exact this
def Rf {H:Hp} {a R D:wM} {many:Nat} {ts:List Told} {S:c6} {rs:List Rep} {jo:Option Jump} {us:List V} {jv v:V} {k:Nat} {c m n:Int} {t:Told} {g:Bool} {w:Str} {u13:Option V} {Z:Ends} (hD:H D=some (.lst us)) (il:au H (rs.map c9) us) (hR:H R=some (.lst (rws ts))) (rb:Rb many ts S rs jo) (m23:many<=23) (tl:⇑ts<=900) (ch:Ch H many rs jo v t g w)
  (hY:g=true->Z.nx [some (.ref a),some (.int many),some (.ref R),some (.ref D),some jv,some (.int k),some (.int c),some (.int m),some (.int n),some (.str w),some v,some (.str (rowOf t)),some (.bl g),u13] H)
  (hC:∀H',ao H H'->Z.ct [some (.ref a),some (.int many),some (.ref R),some (.ref D),some jv,some (.int k),some (.int c),some (.int m),some (.int n),some (.str w),some v,some (.str (rowOf t)),some (.bl g),u13] H') :
  (ig (mY (tB (aB 12))) (dy (ig (m5 (c7 (cI (mU λi j=>V.bl (decide (i<j))) (oH (λxs H Q=>∃p ys,xs=[V.ref p]/\(aE K H p ys\/bK K H p ys)/\Q (V.int (⇑ys:Int)) H) (ax (aB 3) aQ)) (tC (V.int 20)))) (mY (tB (bD fP [] E0 (ax (EL K "str" (rJoin K) (tC (V.str ("\n": Str))) (ax (cI (sF K) (aB 2) (oG (ax (aB 11) aQ))) aQ)) (ax (oH (λxs H Q=>∃p ys,xs=[V.ref p]/\(aE K H p ys\/bK K H p ys)/\Q (V.int (⇑ys:Int)) H) (ax (aB 2) aQ)) (ax (aB 9) aQ))))))) (Ay (tC (V.bl false))) gP) Gp) gP)
   Z [some (.ref a),some (.int many),some (.ref R),some (.ref D),some jv,some (.int k),some (.int c),some (.int m),some (.int n),some (.str w),some v,some (.str (rowOf t)),some (.bl g),u13] H:=by
 let sl:=yr;let ul:=aM il;cases g with
 | true=>
  change hY rfl
 | false=>
  exists D,us,rfl,.inl (aE.of hD),?_;left
  by_cases l:⇑rs<20
  ·refine bo (zd ()) ?_
   let⟨tt,rx⟩:=Oj rb m23 ch l;let⟨t1,t2,t3⟩:=QP rb.td tt tl;exists(by show 1<=sizeLine;ext),?_
   intros p1 n1 s1 h1 H1
   exists R,p1,_,_,rfl,rfl,aE.of (s1 _ _ hR),aE.of h1,(by rw[AZ];show _+1<=_;ext),?_
   intros p2 n2 s2 h2 H2
   let h2:H2 p2=some (.lst ((ts.map rowOf++[rowOf t]).map V.str)):=by rw[h2,zg];rfl
   let s12:=s1.trans s2;exists "\n",p2,_,rfl,rfl,aE.of h2,t1,?_;exists R,_,rfl,.inl (aE.of (s12 _ _ hR)),?_;exists _,_,⇑ts,(by rw[AZ];rfl),t2,(by rw[t3];exact rx),λH3 s3=>?_;change hC _ (s12.trans s3)
  ·refine bp (zc ()) ?_
   change hC _ (ao.refl _)
structure Lh (H0 H:Hp) (R D:wM) (many:Nat) (ts:List Told) (S:c6) (rs:List Rep) (jo:Option Jump) (us:List V) (jv:V):Prop where
 s:ao H0 H
 r:H R=some (.lst (rws ts))
 d:H D=some (.lst us)
 il:au H (rs.map c9) us
 ij:Is H (dO dn jo) jv
 rb:Rb many ts S rs jo
def Rc {H0 H:Hp} {a R D:wM} {many:Nat} {ts:List Told} {S:c6} {rs:List Rep} {jo:Option Jump} {us:List V} {jv v:V} {k:Nat} {c m n:Int} {t:Told} {w:Str} {u13:Option V} {Z:Ends} {te:TS} (lh:Lh H0 H R D many ts S rs jo us jv) (nR:H0 R=none) (nD:H0 D=none) (ne:R≠D) (m23:many<=23) (tl:⇑ts<=900) (ch:Ch H many rs jo v t true w)
  (he:∀S' rs' jo' us' jv' H',Lh H0 H' R D many (ts++[t]) S' rs' jo' us' jv'->te Z [some (.ref a),some (.int many),some (.ref R),some (.ref D),some jv',some (.int k),some (.int c),some (.int m),some (.int n),some (.str w),some v,some (.str (rowOf t)),some (.bl true),u13] H') :
  (dy (mZ (EL K "list" iE (aB 2) (ax (aB 11) aQ))) (dy (ig (m5 (c7 (cI KW (oH (λxs H Q=>∃p ys,xs=[V.ref p]/\(aE K H p ys\/bK K H p ys)/\Q (V.int (⇑ys:Int)) H) (ax (aB 10) aQ)) (tC (V.int 4)))) (tB (Lg Ty.tup (cI (kK K) (aB 10) (tC (V.int 3)))))) (mZ (EL K "list" iE (aB 3) (ax (aB 10) aQ))) (cR (aB 10) (bj 4))) te))
   Z [some (.ref a),some (.int many),some (.ref R),some (.ref D),some jv,some (.int k),some (.int c),some (.int m),some (.int n),some (.str w),some v,some (.str (rowOf t)),some (.bl true),u13] H:=by
 let sl:=yr;let ul:=aM lh.il;let rl:=lh.rb.rl;let nt:cv (H R):=λvs z=>by rw[lh.r] at z;cases z
 exists .inl {rfl,_,aE.of lh.r},?_;exists R,_,_,rfl,rfl,lh.r,(by rw[AZ];ext),?_;generalize hG:upd H R (.lst (rws ts++[V.str (rowOf t)]))=H1;let r1:H1 R=some (.lst (rws (ts++[t]))):=by rw[<-hG,aA,Lr];rfl
 let s1:ao H0 H1:=by rw[<-hG];exact d8 nR lh.s
 let d1:H1 D=some (.lst us):=by rw[<-hG,ar (Ne.symm ne)];exact lh.d
 let il1:au H1 (rs.map c9) us:=by rw[<-hG];exact au.upd nt lh.il
 let ij1:Is H1 (dO dn jo) jv:=by rw[<-hG];exact Is.upd nt lh.ij
 generalize eg:true=g at ch;cases ch with
 | rep r i o=>
  let i1:Is H1 (c9 r) v:=by rw[<-hG];exact Is.upd nt i
  let f:=eg.symm;rw[zJ] at f;let l:=zV f.2;let⟨ra,re,rfl,hra,ie⟩:=cS i1;obtain⟨re',evs,e0,hre,_⟩:∃ep' evs,V.ref re=.ref ep'/\H1 ep'=some (.tup evs)/\au H1 (r.ends.map fq) evs:=by unfold Is at ie;exact ie
  cases e0;exists ra,_,rfl,.inr (bK.of hra),?_;exists .inl {rfl,_,aE.of d1},?_;exists D,_,_,rfl,rfl,d1,(),?_;let ntD:cv (H1 D):=λvs z=>by rw[d1] at z;cases z
  rw[<-eg];refine he _ _ _ _ _ _ {d8 nD s1,?_,aA,?_,Is.upd ntD ij1,Js lh.rb o m23 f.1 l}
  ·rw[ar ne];exact r1
  ·rw[zg];exact au.upd ntD (dF i1 il1)
 | bA j i o=>
  let i1:Is H1 (dn j) v:=by rw[<-hG];exact Is.upd nt i
  let⟨ja,rfl,hja⟩:=fe i1;let f:=eg.symm;rw[zJ] at f;exists ja,_,rfl,.inr (bK.of hja),?_;left;obtain⟨n',t1,t2⟩:∃n,tag H1 (ov j.eM)=some n/\n.sub Ty.tup=false:=by
   cases j.eM with
   | none=>exact{_,rfl,rfl}
   | some c=>exact{_,rfl,rfl}
  refine{n',t1,?_};rw[t2];left;rw[<-eg];cases jo with
  | some _=>exact absurd f.1 zG
  | none=>exact he _ _ (some j) _ _ _ {s1,r1,d1,il1,i1,Lx lh.rb o m23 f.2}
def Ra (F:Cf K T.cY) {H0 H:Hp} {a R D:wM} {many:Nat} {ts:List Told} {S:c6} {rs:List Rep} {jo:Option Jump} {us:List V} {jv v:V} {k:Nat} {c m n:Int} {t:Told} {w:Str} {u13:Option V} {Z:Ends} (lh:Lh H0 H R D many ts S rs jo us jv) (m23:many<=23) (tl:⇑ts<=900) (te:ts≠[])
  (hN:∀u13 H',Lh H0 H' R D many ts S rs jo us jv->Z.nx [some (.ref a),some (.int many),some (.ref R),some (.ref D),some jv,some (.int k),some (.int c),some (.int m),some (.int n),some (.str w),some v,some (.str (rowOf t)),some (.bl true),u13] H') :
  (dy (cR (bD (fO T.cY T.aW) [] E0 (ax (EL K "str" (rJoin K) (tC (V.str ("\n": Str))) (ax (aB 2) aQ)) aQ)) (bj 13)) (ig (O1 (mY (tB (bD (bO (0+1+1+1+1+1+1)) [] E0 (ax (uE K (aB 13) ("repeats": Str)) (ax (aB 3) aQ))))) (mY (tB (bD (bO (0+1+1+1+1+1+1)) [] E0 (ax (uE K (aB 13) ("jump": Str)) (ax (aB 4) aQ)))))) (Ay (tC (V.bl false))) gP))
   Z [some (.ref a),some (.int many),some (.ref R),some (.ref D),some jv,some (.int k),some (.int c),some (.int m),some (.int n),some (.str w),some v,some (.str (rowOf t)),some (.bl true),u13] H:=by
 let sl:=yr;let⟨t1,t2,t3⟩:=M8 lh.rb.td te ();let hr:H R=some (.lst ((ts.map rowOf).map V.str)):=lh.r;exists "\n",R,_,rfl,rfl,aE.of hr,t1,?_;left;refine{_,.ok S,rfl,t2,(by rw[t3];exact ME lh.rb),λS' eS sa o H1 sc s1 fr=>?_,λi w z=>nomatch z};cases eS;let⟨ub,jm,ho,hub,hjm⟩:=sc.obj;let⟨rv,hrv,irv⟩:=sc.re;rw[lh.rb.Hy] at irv;rw[lh.rb.bA] at hjm;exists sa,_,o.dx,_,_,rfl,ho,F.cls,F.repeats,rfl,?_;exists _,_,rfl,G5 (λr hr=>(E7 (lh.rb.ro r hr) m23).es) (by have:=lh.rb.rl;ext) hrv (s1 _ _ lh.d) irv (lh.il.mono s1),λH2 s2=>?_;let ho2:=s2 _ _ ho;exists sa,_,o.dx,_,_,rfl,ho2,F.cls,F.bA,rfl,?_;left;let s12:=s1.trans s2;refine{_,_,rfl,Mj (hjm.mono s2) (lh.ij.mono s12),λH3 s3=>?_};let s13:=s12.trans s3;change hN _ _ {lh.s.trans s13,s13 _ _ lh.r,s13 _ _ lh.d,lh.il.mono s13,lh.ij.mono s13,lh.rb}
def Rh (K:yq) {H:Hp} {a R D:wM} {many i:Nat} {jv:V} {c:Int} {u7 u8 u9 u10 u11 u12 u13:Option V} {Z:Ends} {tr:TS} (i6:i<1000)
  (h:∀m n:Int,0<=m->0<=n->tr Z [some (.ref a),some (.int many),some (.ref R),some (.ref D),some jv,some (.int i),some (.int c),some (.int m),some (.int n),some (.str "form"),u10,u11,u12,u13] H) :
  (dy (cR (bD d7 [] E0 (ax (aB 6) (ax (aB 5) aQ))) (bj 7)) (dy (cR (bD d7 [] E0 (ax (aB 6) (ax (cI (mU λi j=>V.int (i+j)) (aB 5) (tC (V.int 80))) aQ))) (bj 8)) (dy (cR (tC (V.str ("form": Str))) (bj 9)) tr)))
   Z [some (.ref a),some (.int many),some (.ref R),some (.ref D),some jv,some (.int i),some (.int c),u7,u8,u9,u10,u11,u12,u13] H:=by
 let hm:∀x k:Int,0<=mixed x k:=λx k=>zp _ ∅;exists c,_,rfl,(),(),?_;exists c,_,rfl,(),(),?_;change h _ _ (hm _ _) (hm _ _)
def Lv (H0:Hp) (a R D:wM) (many i:Nat) (σ:St) (H:Hp):Prop:=∃(ts:List Told) (S:c6) (rs:List Rep) (jo:Option Jump) (us:List V) (jv:V) (u5 u6 u7 u8 u9 u10 u11 u12 u13:Option V),σ=[some (.ref a),some (.int many),some (.ref R),some (.ref D),some jv,u5,u6,u7,u8,u9,u10,u11,u12,u13]/\Lh H0 H R D many ts S rs jo us jv/\ts≠[]/\⇑ts<=many+i
def Pr (F:Cf K T.cY) {H0 H:Hp} {a R D:wM} {many i:Nat} {ts:List Told} {S:c6} {rs:List Rep} {jo:Option Jump} {us:List V} {jv v:V} {c m n:Int} {t:Told} {g:Bool} {w:Str} {u13:Option V} {Z:Ends} (lh:Lh H0 H R D many ts S rs jo us jv) (nR:H0 R=none) (nD:H0 D=none) (ne:R≠D) (m23:many<=23) (te:ts≠[]) (tl:⇑ts<=many+i) (i6:i<70) (ch:Ch H many rs jo v t g w)
  (hn:∀σ' H',Lv H0 a R D many (i+1) σ' H'->Z.nx σ' H') (hc:∀σ' H',Lv H0 a R D many (i+1) σ' H'->Z.ct σ' H') :
  (dy (ig (mY (tB (aB 12))) (dy (ig (m5 (c7 (cI (mU λi j=>V.bl (decide (i<j))) (oH (λxs H Q=>∃p ys,xs=[V.ref p]/\(aE K H p ys\/bK K H p ys)/\Q (V.int (⇑ys:Int)) H) (ax (aB 3) aQ)) (tC (V.int 20)))) (mY (tB (bD fP [] E0 (ax (EL K "str" (rJoin K) (tC (V.str ("\n": Str))) (ax (cI (sF K) (aB 2) (oG (ax (aB 11) aQ))) aQ)) (ax (oH (λxs H Q=>∃p ys,xs=[V.ref p]/\(aE K H p ys\/bK K H p ys)/\Q (V.int (⇑ys:Int)) H) (ax (aB 2) aQ)) (ax (aB 9) aQ))))))) (Ay (tC (V.bl false))) gP) Gp) gP) (dy (mZ (EL K "list" iE (aB 2) (ax (aB 11) aQ))) (dy (ig (m5 (c7 (cI KW (oH (λxs H Q=>∃p ys,xs=[V.ref p]/\(aE K H p ys\/bK K H p ys)/\Q (V.int (⇑ys:Int)) H) (ax (aB 10) aQ)) (tC (V.int 4)))) (tB (Lg Ty.tup (cI (kK K) (aB 10) (tC (V.int 3)))))) (mZ (EL K "list" iE (aB 3) (ax (aB 10) aQ))) (cR (aB 10) (bj 4))) (dy (cR (bD (fO T.cY T.aW) [] E0 (ax (EL K "str" (rJoin K) (tC (V.str ("\n": Str))) (ax (aB 2) aQ)) aQ)) (bj 13)) (ig (O1 (mY (tB (bD (bO (0+1+1+1+1+1+1)) [] E0 (ax (uE K (aB 13) ("repeats": Str)) (ax (aB 3) aQ))))) (mY (tB (bD (bO (0+1+1+1+1+1+1)) [] E0 (ax (uE K (aB 13) ("jump": Str)) (ax (aB 4) aQ)))))) (Ay (tC (V.bl false))) gP)))))
   Z [some (.ref a),some (.int many),some (.ref R),some (.ref D),some jv,some (.int i),some (.int c),some (.int m),some (.int n),some (.str w),some v,some (.str (rowOf t)),some (.bl g),u13] H:=by
 refine vU (Rf lh.d lh.il lh.r lh.rb m23 () ch (λeg=>?_) (λH' s'=>?_))
 ·subst eg
  refine Rc lh nR nD ne m23 () ch (λS' rs' jo' us' jv' H' lh'=>?_);refine Ra T F lh' m23 (by rw[ze];show _+1<=_;ext) (by simp) (λu13' H'' lh''=>?_);exact hn _ _ {_,_,_,_,_,_,_,_,_,_,_,_,_,_,_,rfl,lh'',by simp,by rw[ze];show _+1<=_;ext}
 ·exact hc _ _ {_,_,_,_,_,_,_,_,_,_,_,_,_,_,_,rfl,{lh.s.trans s',s' _ _ lh.r,s' _ _ lh.d,lh.il.mono s',lh.ij.mono s',lh.rb},te,()}
def LO (F:Cf K T.cY) {H0 H:Hp} {a R D:wM} {ns:List Int} {many i:Nat} {ts:List Told} {S:c6} {rs:List Rep} {jo:Option Jump} {us:List V} {jv:V} {c:Int} {u7 u8 u9 u10 u11 u12 u13:Option V} {Z:Ends} (ha:aE K H a (ns.map V.int)) (lh:Lh H0 H R D many ts S rs jo us jv) (nR:H0 R=none) (nD:H0 D=none) (ne:R≠D) (m4:4<=many) (m23:many<=23) (te:ts≠[]) (tl:⇑ts<=many+i) (i6:i<70)
  (hn:∀σ' H',Lv H0 a R D many (i+1) σ' H'->Z.nx σ' H') (hc:∀σ' H',Lv H0 a R D many (i+1) σ' H'->Z.ct σ' H') :
  (dy (cR (bD d7 [] E0 (ax (aB 6) (ax (aB 5) aQ))) (bj 7)) (dy (cR (bD d7 [] E0 (ax (aB 6) (ax (cI (mU λi j=>V.int (i+j)) (aB 5) (tC (V.int 80))) aQ))) (bj 8)) (dy (cR (tC (V.str ("form": Str))) (bj 9)) (dy (ig (m5 (c7 (cI (mU λi j=>V.bl (decide (j<i))) (cI (rI (λx j=>0<j) λi j=>V.int (i%j)) (aB 8) (tC (V.int 11))) (tC (V.int 0)))) (c7 (cI (mU λi j=>V.bl (decide (i<j))) (aB 5) (oH (λxs H Q=>∃p ys,xs=[V.ref p]/\(aE K H p ys\/bK K H p ys)/\Q (V.int (⇑ys:Int)) H) (ax (OG (Hz K) (aB 0) (vR (tC (V.int 1))) lA) aQ))))) (dy (cR (bD eT [] E0 (ax (aB 3) (ax (aB 1) (ax (aB 7) (ax (cI (rI KU λi j=>V.int (i/j)) (aB 8) (tC (V.int 11))) aQ))))) (bj 10)) (dy (cR (bD dU [] E0 (ax (aB 10) aQ)) (bj 11)) (cR (vS (bD dW [] E0 (ax (aB 3) (ax (aB 4) (ax (aB 10) aQ)))) (cI (mU λi j=>V.bl (decide (i<j))) (oH (λxs H Q=>∃p ys,xs=[V.ref p]/\(aE K H p ys\/bK K H p ys)/\Q (V.int (⇑ys:Int)) H) (ax (aB 3) aQ)) (tC (V.int 20)))) (bj 12)))) (dy (cR (bD gi [] E0 (ax (aB 3) (ax (aB 1) (ax (aB 7) aQ)))) (bj 10)) (dy (cR (bD eU [] E0 (ax (aB 10) aQ)) (bj 11)) (dy (cR (vS (uD (aB 4)) (bD eV [] E0 (ax (aB 3) (ax (aB 10) aQ)))) (bj 12)) (cR (cI (qA K) (oG (ax (tC (V.str ("twice": Str))) (ax (tC (V.str ("form": Str))) aQ))) (oH (λxs H Q=>(∃i,xs=[V.int i]/\Q (V.int i) H)\/∃k,xs=[V.bl k]/\Q (V.int (if k=true then 1 else 0)) H) (ax (uD (aB 4)) aQ))) (bj 9)))))) (dy (ig (mY (tB (aB 12))) (dy (ig (m5 (c7 (cI (mU λi j=>V.bl (decide (i<j))) (oH (λxs H Q=>∃p ys,xs=[V.ref p]/\(aE K H p ys\/bK K H p ys)/\Q (V.int (⇑ys:Int)) H) (ax (aB 3) aQ)) (tC (V.int 20)))) (mY (tB (bD fP [] E0 (ax (EL K "str" (rJoin K) (tC (V.str ("\n": Str))) (ax (cI (sF K) (aB 2) (oG (ax (aB 11) aQ))) aQ)) (ax (oH (λxs H Q=>∃p ys,xs=[V.ref p]/\(aE K H p ys\/bK K H p ys)/\Q (V.int (⇑ys:Int)) H) (ax (aB 2) aQ)) (ax (aB 9) aQ))))))) (Ay (tC (V.bl false))) gP) Gp) gP) (dy (mZ (EL K "list" iE (aB 2) (ax (aB 11) aQ))) (dy (ig (m5 (c7 (cI KW (oH (λxs H Q=>∃p ys,xs=[V.ref p]/\(aE K H p ys\/bK K H p ys)/\Q (V.int (⇑ys:Int)) H) (ax (aB 10) aQ)) (tC (V.int 4)))) (tB (Lg Ty.tup (cI (kK K) (aB 10) (tC (V.int 3)))))) (mZ (EL K "list" iE (aB 3) (ax (aB 10) aQ))) (cR (aB 10) (bj 4))) (dy (cR (bD (fO T.cY T.aW) [] E0 (ax (EL K "str" (rJoin K) (tC (V.str ("\n": Str))) (ax (aB 2) aQ)) aQ)) (bj 13)) (ig (O1 (mY (tB (bD (bO (0+1+1+1+1+1+1)) [] E0 (ax (uE K (aB 13) ("repeats": Str)) (ax (aB 3) aQ))))) (mY (tB (bD (bO (0+1+1+1+1+1+1)) [] E0 (ax (uE K (aB 13) ("jump": Str)) (ax (aB 4) aQ)))))) (Ay (tC (V.bl false))) gP)))))))))
   Z [some (.ref a),some (.int many),some (.ref R),some (.ref D),some jv,some (.int i),some (.int c),u7,u8,u9,u10,u11,u12,u13] H:=by
 refine Rh K () λm n m0 n0=>?_;let go:∀{v t g w} {H' H'':Hp},ao H H'->ao H' H''->Ch H'' many rs jo v t g w->Lh H0 H'' R D many ts S rs jo us jv:=λ{_ _ _ _ H' H''} s1 s2 _=>{lh.s.trans (s1.trans s2),s2 _ _ (s1 _ _ lh.r),s2 _ _ (s1 _ _ lh.d),lh.il.mono (s1.trans s2),lh.ij.mono (s1.trans s2),lh.rb}
 refine vU (Rg ha (λH' s'=>?_) (λH' s'=>?_))
 ·exact Q8 (s' _ _ lh.d) (lh.il.mono s') (lh.ij.mono s') lh.rb m4 m23 m0 n0 λv t g w H'' s2 ch=>Pr T F (go s' s2 ch) nR nD ne m23 te tl i6 ch hn hc
 ·exact Q9 (s' _ _ lh.d) (lh.il.mono s') (lh.ij.mono s') lh.rb m4 m23 m0 λv t g w H'' s2 ch=>Pr T F (go s' s2 ch) nR nD ne m23 te tl i6 ch hn hc
def qH:cQ P w base 1 T.j0 (qx K):=by
 nomatch T.j0,["_law_script","_law_k"]
 let⟨a,ns,k,rfl,hS,h0,hl,kk⟩:=h;refine{_,(aa (az (ptr eZ (pv 1) (dP ay T.bz (af (pv 0) ag)))
  (ai (aj (dM (pv 0) (pv 1))))
  ak)
  (ai (aj ah))),?_}
 exists a,_,rfl,.inl hS,?_;left;refine qI (λc1=>?_) (λc1=>?_)
 ·let c2:=zV c1
  rw[za] at c2;change{a,_,_,_,rfl,rfl,hS,KC h0 c2,kk _}
 ·left
  exact kk _
def Q6 {X:Cx} {x:Str} {st:Stmt} {k n:Nat} {f:wM} {fd:wL} {ps:List Str} {sp:Sp} {p pos:Pos} (F:bQ X.prog X.w X.K X.mg X.base uz k f fd ps sp) (hr:dw n X.A) (D:Df X.K X.mg x st f fd ps) (hk:k<=n<|>qb_) (hg:Gl X x<|>qe_) (hdb:(x == ("__debug__": Str))=false<|>qb_):PE X (.Call (.Name x p) [] [] pos) (bD sp [] E0 aQ):=JM F (hr.mono hk) hg D.g D.F.kp D.b .nil sL hdb
inductive Jb (K:yq) (vs:List V) (H:Hp) (Q:VK) (E:XK):Prop
 | mk (a:wM) (ns:List Int) (_:vs=[.ref a]) (_:aE K H a (ns.map V.int)) (_:⇑ns<=63) (_:∀H':Hp,Q (.bl true) H')
def NL (B:Dk P w K T) (F:Cf K T.cY):cQ P w base 11 T.Rj (Jb K):=by
 nomatch T.Rj,["_law_script","_law_many","_law_rows","_law_repeats","_law_jump","_law_k","_law_cell","_law_m","_law_n","_law_word","_law_told","_law_row","_law_good","_law_score"]
 let⟨a,ns,rfl,ha,hl,kk⟩:=h;let sl:=yr;refine{_,(aa (az (cp (bt (Q6 (mE T B F) hr T.gn)))
  (ai (aj cP))
  ak)
  (aa (bV 1 qN (aC dh ah (aC bM (b4 (iX T) hr T.hW (ae (b4 (qH T) hr T.j0 (ae (pv 0) (ae ah ag))) (ae ah ag))) ah)))
  (aa (RL (i:=2) (ts:=["_law_k"]) (ys:=[]) (js:=[]) (te:=(tC (.str "bar 4/4 0"))) (jc (by rfl) T.jJ (ae (pv 1) ag)) (lF 0) bq aG qN)
  (aa (bV 3 qN (aV ag))
  (aa (bV 4 qN aH)
  (aa (dX yF rfl (Gz (by rfl) T.kQ (ae (aC eC (cA eW (pv 0) (di ah) dj) (aV (ae ah ag))) ag)) (fB (n:=2) rfl (aK (kA 5 qN) (aK (kA 6 qN) dN)))
  (aa (bV 7 qN (b4 (iX T) hr T.hW (ae (pv 6) (ae (pv 5) ag))))
   (aa (bV 8 qN (b4 (iX T) hr T.hW (ae (pv 6) (ae (aC dh (pv 5) ah) ag))))
   (aa (bV 9 qN aG)
   (aa (az (PW.pt (dg (ptr eG (aC bM (pv 8) ah) ah) (cz (ptr eZ (pv 5) (dP ay T.bz (ae (cA eW (pv 0) (di ah) dj) ag))))))
   (aa (bV 10 qN (b4 (nM T) hr T.hV (ae (pv 3) (ae (pv 1) (ae (pv 7) (ae (aC b8 (pv 8) ah) ag))))))
    (aa (bV 11 qN (b4 (gq T) hr T.dS (ae (pv 10) ag)))
    (ai (bV 12 qN (dY (b4 (lT T) hr T.fL (ae (pv 3) (ae (pv 4) (ae (pv 10) ag)))) (dB (bH eZ (dP ay T.bz (ae (pv 3) ag)) ah (cL _))))))))
   (aa (bV 10 qN (b4 (qF T) hr T.jY (ae (pv 3) (ae (pv 1) (ae (pv 7) ag)))))
    (aa (bV 11 qN (b4 (nN T) hr T.hX (ae (pv 10) ag)))
    (aa (bV 12 qN (dY (iV (bx (pv 4))) (dB (b4 (nO T) hr T.hZ (ae (pv 3) (ae (pv 10) ag))))))
    (ai (bV 9 qN (dM (aV (ae aG (ae aG ag))) (Ex Ij T.GC (ae (iV (bx (pv 4))) ag)))))))))
   (aa (az (cp (bt (pv 12)))
   (aa (az (PW.pt (dg (ptr eZ (dP ay T.bz (ae (pv 3) ag)) ah) (cz (cp (bt (b4 (vg T B F) hr T.mT (ae (cK yw yy yx lG aG (ae (aC eC (pv 2) (aV (ae (pv 11) ag))) ag)) (ae (dP ay T.bz (ae (pv 2) ag)) (ae (pv 9) ag)))))))))
    (ai (aj cP))
    ak)
    (ai C4))
   ak)
   (aa (cT (cK yt yv yu cM (pv 2) (ae (pv 11) ag)))
   (aa (az (PW.pt (dg (ptr cb (dP ay T.bz (ae (pv 10) ag)) ah) (cz (bt (fC .tup (by decide +kernel) (cE (pv 10) ah) T.aT T.fb)))))
   (ai (cT (cK yt yv yu cM (pv 3) (ae (pv 10) ag))))
   (ai (bV 4 qN (pv 10))))
   (aa (bV 13 qN (qX (iW T B F) (hr.mono ∅) rfl T.cD.g T.cD.F.kp T.cD.b .nil MK (ae (cK yw yy yx lG aG (ae (pv 2) ag)) ag)))
   (ai (az (PW.pt (cy (cp (bt (b4 (aJ T (aJ T (aJ T (aJ T (aJ T (aJ T (fR T (k:=0)))))))) hr T.eL (ae (bc (pv 13) rfl) (ae (pv 3) ag))))) (bS (cp (bt (b4 (aJ T (aJ T (aJ T (aJ T (aJ T (aJ T (fR T (k:=0)))))))) hr T.eL (ae (bc (pv 13) rfl) (ae (pv 4) ag))))))))
   (ai (aj cP))
   ak)))))))))))
  (ai (aj cP)))))))),?_}
 ac_rfl;left;intro H1 s1;exists a,ns,0,rfl,s1.seq ha,(by decide),(),λc1=>?_;exists c1,1,rfl,(by decide),(by decide),?_;let f0:0<=mixed c1 1:=zp _ ∅;generalize mixed c1 1=f at f0;left;obtain⟨many,em,m4,m23⟩:∃many:Nat,4+f%20=(many:Int)/\4<=many/\many<=23:={(4+f%20).toNat,(),(),()}
 rw[em];refine{(),(),?_};refine tT (λ_=>.str "bar 4/4 0") (λσ=>∃v,σ=[v]) (by rw[xF];ext) {(none),rfl} ?_ ?_
 ·rintro j σ H2 R hj s2 ⟨_,rfl⟩ rr
  change rr _ _ _ (ao.refl _) jP {_,rfl}
 intro R vr H2 s2 nR hR ilr;rw[xF] at ilr;let er:(List.range many).map (λ_=>Dt.str "bar 4/4 0")=(List.replicate many ("bar 4/4 0": Str)).map Dt.str:=by rw[List.map_const',zM,List.map_replicate]
 rw[er] at ilr;rw[gA ilr] at hR;let hR:H2 R=some (.lst (rws (List.replicate many (.bar MT)))):=by rw[hR];unfold rws;simp only[List.map_replicate,Pb]
 left
 intros D nD s3 hD H3
 left;let s03:=(s1.trans s2).trans s3;refine{a,_,rfl,s03.seq ha,?_}
 intros p1 n1 s4 h4 H4
 exists(by show 1<=sizeLine;ext),?_
 intros p2 n2 s5 h5 H5
 obtain⟨cs,ec,cl⟩:∃cs:List Int,gf (ns.map V.int) (some 1) none++[V.int 2]=cs.map V.int/\⇑cs<=64:=by
  cases ns with
  | nil=>exact{[2],rfl,∅}
  | cons x ns=>exact{ns++[2],by rw[zf,MS,zg];rfl,by rw[ze];rw[zo] at hl;show _+1<=_;ext}
 let cn:=yP List.length ec;rw[ze,za] at cn;exists p1,p2,_,_,rfl,rfl,aE.of (s5 _ _ h4),aE.of h5,(by show _+⇑[V.int 2]<=_;ext),?_
 intros C nC s6 hC H6
 let hC:H6 C=some (.lst (cs.map V.int)):=by rw[hC];exact yP (λz=>some (HO.lst z)) ec
 let s36:=(s4.trans s5).trans s6;let hR6:=s36 _ _ (s3 _ _ hR);let hD6:=s36 _ _ hD;let nCR:C≠R:=λz=>by rw[z,s5 _ _ (s4 _ _ (s3 _ _ hR))] at nC;cases nC
 let nCD:C≠D:=λz=>by rw[z,s5 _ _ (s4 _ _ hD)] at nC;cases nC
 let nRD:R≠D:=λz=>by rw[<-z,hR] at nD;cases nD
 let nRH:H R=none:=s1.free nR;let nDH:H D=none:=(s1.trans s2).free nD;obtain⟨H0,eH0⟩:∃H0:Hp,H0=λb=>if b=R\/b=D then none else H6 b:={_,rfl}
 let nR0:H0 R=none:=by rw[eH0];exact yE (.inl rfl)
 let nD0:H0 D=none:=by rw[eH0];exact yE (.inr rfl)
 let sH:ao H H0:=λb u hb=>by
  rw[eH0];show(if b=R\/b=D then none else H6 b)=_;rw[yD]
  ·exact(s03.trans s36) _ _ hb
  ·rintro(z | z)
   ·rw[z,nRH] at hb;cases hb
   ·rw[z,nDH] at hb;cases hb
 let s0:ao H0 H6:=λb u hb=>by
  rw[eH0] at hb
  by_cases z:b=R\/b=D
  ·rw[show(λb=>if b=R\/b=D then none else H6 b) b=none from yE z] at hb;cases hb
  ·rw[show(λb=>if b=R\/b=D then none else H6 b) b=H6 b from yD z] at hb;exact hb
 let hC0:H0 C=some (.lst (cs.map V.int)):=by rw[eH0];show(if C=R\/C=D then none else H6 C)=_;rw[yD (λz=>z.elim nCR nCD)];exact hC
 clear eH0;exists C,_,rfl,aE.of hC,?_;refine DI (K:=K) (a:=C) (xs:=cs.map V.int) (Lv H0 a R D many) {_,_,[],none,[],.aX,none,none,none,none,none,none,none,none,none,rfl,{s0,hR6,hD6,i0,cW,R6 m23},(λz=>by have:=yP List.length z;rw[List.length_replicate,y6] at this;ext),(by rw[List.length_replicate];ext)} (λi σ H' _ h=>by let⟨_,_,_,_,_,_,_,_,_,_,_,_,_,_,_,_,lh,_⟩:=h;exact aE.of (lh.s _ _ hC0)) ?_ ?_
 ·rintro i x σ H7 t H8 hx ⟨ts,S,rs,jo,us,jv,u5,u6,u7,u8,u9,u10,u11,u12,u13,rfl,lh,te,tl⟩ s78 ht
  rw[zF] at hx;let⟨c,hc,rfl⟩:=Option.map_eq_some_iff.mp hx;let ci:=(zt.mp hc).1;refine{t,_,rfl,bK.of ht,rfl,?_};refine{_,_,rfl,{_,_,rfl,{rfl,?_}}};exact LO T F ((sH.trans (lh.s.trans s78)).seq ha) {lh.s.trans s78,s78 _ _ lh.r,s78 _ _ lh.d,lh.il.mono s78,lh.ij.mono s78,lh.rb} nR0 nD0 nRD m4 m23 te tl () (λ_ _ z=>z) (λ_ _ z=>z)
 ·rintro σ H7 ⟨ts,S,rs,jo,us,jv,u5,u6,u7,u8,u9,u10,u11,u12,u13,rfl,lh,te,tl⟩
  change kk _
end
def l1 {α:Type} {n:Nat} {P:List α->Prop} {us:List α} (h:⇑us=n+1) (k:∀u r,⇑r=n->P (u::r)):P us:=match us,h with
 | u::r,h=>k u r (Nat.succ.inj h)
def l0 {α:Type} {P:List α->Prop} {us:List α} (h:⇑us=0) (k:P []):P us:=match us,h with
 | [],_=>k
def Sg {K:yq} {h:wN} {mg:Str->Option wG} {x:Str} {st:Stmt} {f:wM} {od an:Option wM} {sl:Array (Option wG)} {oc kV dc pm cd ct:wG} (X:K.In h) (G:h.Ns mainGlobals mg) (a:PySem.W.nsIn K mainGlobals x=some (some (.ref f))<|>qm_) (l:K.lookup f=some {oc,od,.func (PySem.W.fnOf x x (bB st) (aZ st) (aD st) .none kV dc pm an cd ct),sl}<|>qm_) (c:PySem.W.codeIn K cd x=true<|>qm_) (k:PySem.W.keepIn K (.ref f)=true<|>qm_)
  (hb:(∀(kV dc pm:wG) (an:Option wM) (cd ct  : wG),bindArgs (PySem.W.fnOf x x (bB st) (aZ st) (aD st) .none kV dc pm an cd ct) {[],[]}=pure [])<|>qn_) :
  Df K mg x st f (PySem.W.fnOf x x (bB st) (aZ st) (aD st) .none kV dc pm an cd ct) []:=
 {fg l c k,wF X G a,(fg l c k).binds (ps:=[]) λkV dc pm an cd ct us hl=>by
  apply l0 hl;exact hb kV dc pm an cd ct}
def nZ {K:yq} {h:wN} {mg:Str->Option wG} {x:Str} {st:Stmt} {f:wM} {od an:Option wM} {sl:Array (Option wG)} {oc kV dc pm cd ct:wG} {p0:Str} (X:K.In h) (G:h.Ns mainGlobals mg) (a:PySem.W.nsIn K mainGlobals x=some (some (.ref f))<|>qm_) (l:K.lookup f=some {oc,od,.func (PySem.W.fnOf x x (bB st) (aZ st) (aD st) .none kV dc pm an cd ct),sl}<|>qm_) (c:PySem.W.codeIn K cd x=true<|>qm_) (k:PySem.W.keepIn K (.ref f)=true<|>qm_)
  (hb:(∀(kV dc pm:wG) (an:Option wM) (cd ct u0:wG),bindArgs (PySem.W.fnOf x x (bB st) (aZ st) (aD st) .none kV dc pm an cd ct) {[u0],[]}=pure [(p0,u0)])<|>qn_) :
  Df K mg x st f (PySem.W.fnOf x x (bB st) (aZ st) (aD st) .none kV dc pm an cd ct) [p0]:=
 {fg l c k,wF X G a,(fg l c k).binds (ps:=[p0]) λkV dc pm an cd ct us hl=>by
  apply l1 hl;intro u0 r h;apply l0 h;exact hb kV dc pm an cd ct u0}
def l7 {K:yq} {h:wN} {mg:Str->Option wG} {x:Str} {st:Stmt} {f:wM} {od an:Option wM} {sl:Array (Option wG)} {oc kV dc pm cd ct:wG} {p0 p1:Str} (X:K.In h) (G:h.Ns mainGlobals mg) (a:PySem.W.nsIn K mainGlobals x=some (some (.ref f))<|>qm_) (l:K.lookup f=some {oc,od,.func (PySem.W.fnOf x x (bB st) (aZ st) (aD st) .none kV dc pm an cd ct),sl}<|>qm_) (c:PySem.W.codeIn K cd x=true<|>qm_) (k:PySem.W.keepIn K (.ref f)=true<|>qm_)
  (hb:(∀(kV dc pm:wG) (an:Option wM) (cd ct u0 u1:wG),bindArgs (PySem.W.fnOf x x (bB st) (aZ st) (aD st) .none kV dc pm an cd ct) {[u0,u1],[]}=pure [(p0,u0),(p1,u1)])<|>qn_) :
  Df K mg x st f (PySem.W.fnOf x x (bB st) (aZ st) (aD st) .none kV dc pm an cd ct) [p0,p1]:=
 {fg l c k,wF X G a,(fg l c k).binds (ps:=[p0,p1]) λkV dc pm an cd ct us hl=>by
  apply l1 hl;intro u0 r h;apply l1 h;intro u1 r h;apply l0 h;exact hb kV dc pm an cd ct u0 u1}
def Og {K:yq} {h:wN} {mg:Str->Option wG} {x:Str} {st:Stmt} {f:wM} {od an:Option wM} {sl:Array (Option wG)} {oc kV dc pm cd ct:wG} {p0 p1 p2:Str} (X:K.In h) (G:h.Ns mainGlobals mg) (a:PySem.W.nsIn K mainGlobals x=some (some (.ref f))<|>qm_) (l:K.lookup f=some {oc,od,.func (PySem.W.fnOf x x (bB st) (aZ st) (aD st) .none kV dc pm an cd ct),sl}<|>qm_) (c:PySem.W.codeIn K cd x=true<|>qm_) (k:PySem.W.keepIn K (.ref f)=true<|>qm_)
  (hb:(∀(kV dc pm:wG) (an:Option wM) (cd ct u0 u1 u2:wG),bindArgs (PySem.W.fnOf x x (bB st) (aZ st) (aD st) .none kV dc pm an cd ct) {[u0,u1,u2],[]}=pure [(p0,u0),(p1,u1),(p2,u2)])<|>qn_) :
  Df K mg x st f (PySem.W.fnOf x x (bB st) (aZ st) (aD st) .none kV dc pm an cd ct) [p0,p1,p2]:=
 {fg l c k,wF X G a,(fg l c k).binds (ps:=[p0,p1,p2]) λkV dc pm an cd ct us hl=>by
  apply l1 hl;intro u0 r h;apply l1 h;intro u1 r h;apply l1 h;intro u2 r h;apply l0 h;exact hb kV dc pm an cd ct u0 u1 u2}
def RB {K:yq} {h:wN} {mg:Str->Option wG} {x:Str} {st:Stmt} {f:wM} {od an:Option wM} {sl:Array (Option wG)} {oc kV dc pm cd ct:wG} {p0 p1 p2 p3:Str} (X:K.In h) (G:h.Ns mainGlobals mg) (a:PySem.W.nsIn K mainGlobals x=some (some (.ref f))<|>qm_) (l:K.lookup f=some {oc,od,.func (PySem.W.fnOf x x (bB st) (aZ st) (aD st) .none kV dc pm an cd ct),sl}<|>qm_) (c:PySem.W.codeIn K cd x=true<|>qm_) (k:PySem.W.keepIn K (.ref f)=true<|>qm_)
  (hb:(∀(kV dc pm:wG) (an:Option wM) (cd ct u0 u1 u2 u3:wG),bindArgs (PySem.W.fnOf x x (bB st) (aZ st) (aD st) .none kV dc pm an cd ct) {[u0,u1,u2,u3],[]}=pure [(p0,u0),(p1,u1),(p2,u2),(p3,u3)])<|>qn_) :
  Df K mg x st f (PySem.W.fnOf x x (bB st) (aZ st) (aD st) .none kV dc pm an cd ct) [p0,p1,p2,p3]:=
 {fg l c k,wF X G a,(fg l c k).binds (ps:=[p0,p1,p2,p3]) λkV dc pm an cd ct us hl=>by
  apply l1 hl;intro u0 r h;apply l1 h;intro u1 r h;apply l1 h;intro u2 r h;apply l1 h;intro u3 r h;apply l0 h;exact hb kV dc pm an cd ct u0 u1 u2 u3}
def walk {l:PySem.W.OpenLaw} {q:wI} {loose:List Str} {XP:(Str->Option wG)->wN->Prop} {YP:wJ->wN->Prop} {d:DefRec} {K:Params->yq} (hn:l.most=some 63) (hdf:d.params.defaults=[]) (hdn:d.name ="law")
  (hY:∀(w:wJ) (h:wN),YP w h->(K w.params).In h)
  (F:∀(w:wJ) (mg:Str->Option wG) (h:wN),(K w.params).In h->h.Ns mainGlobals mg->
   ∃T:Txt (K w.params) mg,Dk l.prog w (K w.params) T/\∀(s:wH) (v:wG),BindsTo s T.Ky {[v],[]} [("_law_script",v)]) :
  PySem.W.WalkO q loose XP YP l.row.toRowW d [] (λf vs=>PySem.call f vs):=
 L2.K9 (n:=63) (k:=11) (x:="_law_script") (CX:=λ_=>uz) (sp:=λw=>Jb (K w.params)) hn ∅ hdf {rfl,∅,∅} hY
  (λw mg fa h kx hns hm=>by
   let⟨T,B,hb⟩:=F w mg h kx hns;rw[hdn] at hm;let e:=hm.symm.trans T.Rj.g;cases e;exact{T.Ky,hb,λbase _ _=>NL T B T.cf}) (λ_ _ a ns hl _ hS=>{a,ns,rfl,hS,hl,λ_=>rfl}) λ_ _ _ _ _ z=>z
def RO {P:wI} {w:wJ} {K:yq} {a:wM} {n:Nat} {t0 t1 t2 t3 t4 t5 t6 t7 t8:Tok} {f0 f1 f2 f3 f4 f5 f6 f7 f8:wM} {s0 s1 s2 s3 s4 s5 s6 s7 s8:Str} (r:K.lookup a=some {cls:=.type "dict",data:=.dict #[{PyData.keyHash w.params s0,.str s0 t0,.ref f0},{PyData.keyHash w.params s1,.str s1 t1,.ref f1},{PyData.keyHash w.params s2,.str s2 t2,.ref f2},{PyData.keyHash w.params s3,.str s3 t3,.ref f3},{PyData.keyHash w.params s4,.str s4 t4,.ref f4},{PyData.keyHash w.params s5,.str s5 t5,.ref f5},{PyData.keyHash w.params s6,.str s6 t6,.ref f6},{PyData.keyHash w.params s7,.str s7 t7,.ref f7},{PyData.keyHash w.params s8,.str s8 t8,.ref f8}] n}) (y:(a == sysModules)=false) (nd:List.Nodup [s0,s1,s2,s3,s4,s5,s6,s7,s8]) :
  KD P w K a [(s0,.ref f0),(s1,.ref f1),(s2,.ref f2),(s3,.ref f3),(s4,.ref f4),(s5,.ref f5),(s6,.ref f6),(s7,.ref f7),(s8,.ref f8)]:=Pw (l:=[(s0,t0,f0),(s1,t1,f1),(s2,t2,f2),(s3,t3,f3),(s4,t4,f4),(s5,t5,f5),(s6,t6,f6),(s7,t7,f7),(s8,t8,f8)]) r y nd
def R9 {K:yq} {a:wM} {rd:Option wM} {rs:Array (Option wG)} {rn:Nat} {t0 t1 t2 t3 t4 t5:Tok} {x0 x1 x2 x3 x4 x5:Int} (r:K.lookup a=some {.type "tuple",rd,.seq #[.int x0 t0,.int x1 t1,.int x2 t2,.int x3 t3,.int x4 t4,.int x5 t5] rn,rs}) (H:Hp):bK K H a [.int x0,.int x1,.int x2,.int x3,.int x4,.int x5]:=
 .inr {_,_,_,r,rfl,rfl,by show 6<=sizeLine;decide,.cons {_,rfl} (.cons {_,rfl} (.cons {_,rfl} (.cons {_,rfl} (.cons {_,rfl} (.cons {_,rfl} (.nil))))))}
def Sf {K:yq} {x y:Str} {st:Stmt} {f:wM} {od an:Option wM} {sl:Array (Option wG)} {oc kV dc pm cd ct:wG} {p:Str} (l:K.lookup f=some {oc,od,.func (PySem.W.fnOf x y (bB st) (aZ st) (aD st) .none kV dc pm an cd ct),sl}<|>qm_) (c:PySem.W.codeIn K cd y=true<|>qm_) (k:PySem.W.keepIn K (.ref f)=true<|>qm_)
  (hb:(∀(kV dc pm:wG) (an:Option wM) (cd ct u:wG),bindArgs (PySem.W.fnOf x y (bB st) (aZ st) (aD st) .none kV dc pm an cd ct) {[u],[]}=pure [(p,u)])<|>qn_):Qp K x y st f (PySem.W.fnOf x y (bB st) (aZ st) (aD st) .none kV dc pm an cd ct) [p]:=
 {fg l c k,(fg l c k).binds (ps:=[p]) λkV dc pm an cd ct us hl=>match us,hl with | [u],_=>hb kV dc pm an cd ct u}
def RA {K:yq} {x y:Str} {st:Stmt} {f:wM} {od an:Option wM} {sl:Array (Option wG)} {oc kV dc pm cd ct:wG} {p0 p1 p2:Str} (l:K.lookup f=some {oc,od,.func (PySem.W.fnOf x y (bB st) (aZ st) (aD st) .none kV dc pm an cd ct),sl}<|>qm_) (c:PySem.W.codeIn K cd y=true<|>qm_) (k:PySem.W.keepIn K (.ref f)=true<|>qm_)
  (hb:(∀(kV dc pm:wG) (an:Option wM) (cd ct u0 u1 u2:wG),bindArgs (PySem.W.fnOf x y (bB st) (aZ st) (aD st) .none kV dc pm an cd ct) {[u0,u1,u2],[]}=pure [(p0,u0),(p1,u1),(p2,u2)])<|>qn_):Qp K x y st f (PySem.W.fnOf x y (bB st) (aZ st) (aD st) .none kV dc pm an cd ct) [p0,p1,p2]:=
 {fg l c k,(fg l c k).binds (ps:=[p0,p1,p2]) λkV dc pm an cd ct us hl=>match us,hl with | [u0,u1,u2],_=>hb kV dc pm an cd ct u0 u1 u2}
def RW {K:yq} {C S f N:wM} {nm q:Str} {bs:List wG} {hdct:Bool} {sn:List Str} {sub:List wG} {ab:Bool} {col:Option Bool} {dd:Option wM} {k0 k1 k2 k3 k5:Option wG} {nm' qn':Str} {bs':List wG} {ns':wM} {hd':Bool} {sn':List Str} {sub':List wG} {ab':Bool} {col':Option Bool} {del':Bool} {dd':Option wM} {sl':Array (Option wG)} {nm2 qn2:Str} {bs2:List wG} {ns2:wM} {sn2:List Str} {sub2:List wG} {ab2:Bool} {col2:Option Bool} {del2:Bool}
  (o:K.lookup C=some (excClassObj nm q C N bs (.ref S::Ar) hdct sn sub ab col dd k0 k1 k2 k3 k5 "ValueError.__new__")<|>qm_) (u:K.lookup S=some {.type "type",dd',.cls {nm',bs',.ref S::Ar,ns',qn',hd',sn',sub',ab',col',del'},sl'}<|>qm_) (e:PySem.W.excIn K S Ar "ValueError.__new__"= true<|>qo_) (i:PySem.W.findIn K (.ref C) "__init__"= some (some (.ref f))<|>qm_) (n:PySem.W.isFn K (.ref f)=true<|>qm_) (k:PySem.W.keepIn K (.ref C)=true<|>qm_)
  (z1:PySem.W.findIn K (.ref C) "__getattribute__"= some (some (.builtin "BaseException.__getattribute__"))<|>qm_) (z2:PySem.W.findIn K (.ref C) "__getattr__"= some none<|>qm_) (z3:PySem.W.findIn K (.ref C) "__class__"= some (some (.builtin "object.__class__"))<|>qm_) (z4:PySem.W.mroIn K C (.type "BaseException")=some true<|>qm_) (z5:PySem.W.mroIn K C (.type "object")=some true<|>qm_)
  (z6:PySem.W.findIn K (.ref C) "__setattr__"= some (some (.builtin "object.__setattr__"))<|>qm_) (z7:PySem.W.clsIn K C=some {nm2,bs2,[.ref C,.ref S,.type "ValueError",.type "Exception",.type "BaseException",.type "object"],ns2,qn2,true,sn2,sub2,ab2,col2,del2}<|>qm_):Cm K C S f:=
 {{_,_,_,_,_,_,_,_,_,_,_,_,_,_,_,o},{_,_,_,_,_,_,_,_,_,_,_,_,u},e,i,n,k,{(z1),z2,z3,z4,z5},{z6,{_,_,_,_,_,_,_,_,_,z7}}}
def JU {K:yq} {C:wM} {f:Str} (e:PySem.W.findIn K (.ref C) f=some none<|>qm_):cw K C f:=e
def nS {K:yq} {h:wN} {mg:Str->Option wG} {x:Str} {v:wG} (X:K.In h) (G:h.Ns mainGlobals mg) (e:PySem.W.nsIn K mainGlobals x=some (some v)<|>qm_):mg x=some v:=wF X G e
def Cq {K:yq} {h:wN} {mg:Str->Option wG} {x:Str} (X:K.In h) (G:h.Ns mainGlobals mg) (e:PySem.W.nsIn K mainGlobals x=some none<|>qm_):mg x=none:=PySem.W.mg_none_of X G e
end K22
local macro_rules|`(command|#check $s:str)=>do{let mut n:=0;let mut r:=#[];for c in s.getString.toList do{n:=n*62+(c.toNat-48-c.toNat/65*7-c.toNat/97*6);if 62^10≤n then{let i:=Lean.mkIdent (.mkSimple s!"tw{n-62^10}");r:=r.push (←`(command|def $i:ident :=Prop));n:=0}};return Lean.mkNullNode r}
namespace PySem.W.Fast
#check"BmsBmguS6NW6lVQ5G4KxSQDP7EOmLbpVZ234K9dIVBmm589i3Hq6IVc80SlPmUs4UFAYRYaGeyC74AQNVJPGL4fQJZjQ8iFHixEJwDiqNuk3YB3Lr5ZhnOuqHEZkRyIFBU5pLO6xUD5e6SlKdpedkfCfS3JUqQgyx67nrHVKrISMsqO0EYzBp09IFp89TXqTKudvxX6CeXPFlpda5LXDtdBzyhmB9xggxpPiN5E7etENw2SIOi9DwAoAIhqFkCK6WjwnxDrKHzfadQAIdJ37SMIvyLvcLDKQYt9JuO8nSMOTVpT656q06niXbrUobftEYfODhON2lC9BR46IvfFexIKD9nTY4ZaZCXh44dU5FZU1iexC9usSs6BsXcI8NC4M07yCr7zR8FjJ7XCDRyP70BuEhktsjBCVgX59zWP8rpDxSAAA89L9t1AVAkAWCUfxVdTGnqwUpnu7Wb5hOJK7ftvJk1QnkFzgaN9vADpiwnmjQbU6dNrK4UCjTjECJqmgDtirHJ7Xamfy2qkPHBD9sSDUkkn3Q6oPpO4yS78NnlUaahNDXMtiuvmuDdii4KSViPyNnme1tgxiFikJ66CfTN4NYsOLmI9PMcjbniU5LYCvY1ur9CM4G50uGt2eHZ1rYpZbuyDVbBP8BD6Huv5X39pQUEPasgJ43cMxRzKQlzK0TJPob9chDCz3Gs9g9diB871JBehyV3D7GvvLI26xotDKE7iUKj2GuANVDwDNJQ1WFavwVBzv3fJ3LWohLsThH72afpszF1spGBR3AJfVktW8IX7XPs9pGJ25TUMZy3hHmOACwBwZ9dpxcBQfAlRnEyCKJ3Q7BwmHBR1AKkSD7mI3xL3eFUmsRlJwLLmYX3TS9uFZ8GUMlesOP5L3Ng5cyIxk2g15aGY19MDJcKWVQFQSkN3FDxEhjWgD5ln3z8Hma5sRWsEFP5uvqIIz84WGJvc8d5xtBDdB6dYGxeK5Zv0Eui3FqkMv3qYEd8Kle2apgTYHcXhXKrKtC1niUHQ9h9DG959kyQA4lpJBFCWnAMjdHj0iHyPUMUYXxuHhVpJBPyyhpWQ3Sx2Y92PwrXexAM8hVZUWoVas2qDWMGoxhwbIXyxVX8nI2FLlCcd5CgKkD6y1ljf4fWoHKxQIpkWIPgH4XQR1u1d0727nfgBtOBoJk627uzofX3m0BC323MTAou2LoeyJvzPSy32EJHOUqtyJWLVKMRvB9notCNuMnLBbINpKGLCEG1meME5trmUFrXv0k8FWSDGG7lUs7upeFfkNBMH9oy2Zq8eOrDMnOx34peZ4AMYRaU2s5F67HJ6D60cvdE1EHIs8QckgtBDeP1LZRosyjIRCR5YupDvU1ugwJTlnHwvAUfXc4RBj5n82fRxhxCq3KAELPDpwtLvWKELZyiygRMaCAnOCDZunAY1u6KM1MEMqFB7DybSmbJ9SLGNbSxr7x8j8gDEVJCfirlHLEan82Xlgr1mREcL2pvCQM6xQy3AGsWB1twK98A28DW3NkieSQpcYW1ny6AvxbfKdGiDKbnNrFbnGbltAeCjvmiClFHs67tL3Y34efcWV8StW9IlPl2YMNQLLYZkh9t7S3FEut65jJewQQB2Wp3iUlF8CDSqi6IktSTV9HNF1dJPswl1Ym9X1a6ko2AxBt9a6zmaq9aFnwP5cDggFoC64fChVIeCRyc49RrZLwI2CYI3bZswHMFTBFAhpBtn686v8TF3dPl2rH7mieIekq8PnfTIavhNlCfv6rNVYeoE8rpu1LqfRQ34xLLyHK6hMv7ZQAbe3ilNbKji1jFoxQXoHlaf5sPcaLzJTJj0WvIy5kMDrwZOQLibq7vuOj1x8EZBM0B81yAKLk6FAiQwt3FaiFIqLBUEVclIkLgsLTIllml9FOriAv8PGqrJ6iFFyGG2QPBbSL9WBmtJKIUBttxCMTfn9nLMYv4LAi8EimrDDPcmdS2deETAXB0Rp92CVi9ySGP1It0g2OGflY1HhnTKfcdiFo7VXtuFK2yxi2W17nwJFpEpMMrbE8yVBRn7zM9Q7mN6ny44AaqmIP7lM7sB3TcQKs2xMSmOW0hxRJuAUqS5VY6kSg7xKYPuJlzM3135VbBhKJuYE3EtbBnWN8bKPg0mt0c1hH3EeL4KucrVBHuYLqsYMfvsHNTvmrb41coBXtOq7nvmsI6gNiY1V3LbK2qKyOv2ft9L18RFmFjODFY5RmyZje0ioeHOWWCdrcEehC0FRk7ffy8I4ZziZLzNDrcKHV0iUmrtBAL5z0bfnTUWlBiCKrWaPRCgHy2gfRZoRGIB6RoyALbLMp7zwHiurYE4TCYj6PrqiTYvLc39lnF6P8OFOUSYIZaE3XFPgEwdnawjq9N0z8Xc1DSc5kRmyN8Ul28MZ8531kEugF2AaoYhRz61A3XN5E0zEtE3BR8COZqlRDMBMQTqIYA11V6GobVyGO3CtA3Rzj6rGfXhGcr1TdN0szPFiAVa17dxsQ6pMlxkpA59s9V6UllWAZKf8wMxzwxoKRBMsW4fO9H4lv19zs7Fuvx0f7xPcXYNoDJ71juy9MYwYre6wvCbIqUAmTBQ5Q6br07C8Mw8JjUhvjC0Kd4YVUjfTHDGGEXtya4WZWFZnSVaDgWmkFEPAQCpf6LuFwSx7bjyoQg6Ku71E5ojOD45zKNn8Y7xcLca5VjGyJub6unHPeEZHSpDot9uPa7YU67w5aprs7bCi9LHbkkKWVSUAspxSHD1QkIAQK3GBFHbGj7wOBlR2SpOw4fVGxP2N2SN8OLRv2ihKKg4noSOaesNltH5e1kGrYdXlEOlqEEoGyGq2NBLzkadnKq8d8atgniV9ZFSte98QNKMk14y3jvAzr5v57bdcLjCEdwLcBFk6iP56UAf5uBtBUiNi4hB9d2oKiX5KFVkdEppiLJExpwsK9dadXMnnI06nHQ5h50SMT6TjIUU2itu7xdVkVMIQBfWIIz4iXC526zmQW075AtaMcYYyY79K8lVkGztJjMEBGNQF0dO528wEAw2XwFJBJr3eb2FdsUOHIhTpUpez7sFydsjOjj5V529NBDkJSBW6BaRmk1GyisdGf50q7XIHqrLmn6ehKFwuR4WsT5qFJPVn9LCOFP3csz46sWCR6mwzC96G9HsJGiUvF53ynBk2XGqLDtxTQlNA3cSBjWWj1obLe8K7v9PnnO8Vw8SVAVHpGW9w4SxerdLW6gE2da2aaGW5DM3n8W7DzKwapHYHYUvJ64MUGNt5kbBXrUeCbEfQtayNY3CQzHr2mJVvW28LP1zNMbZBC8AiSFbm8rJ16jZlZnS9EBBVbtA4VuoJQB28o0Vde7llA0wKTJu1OF29adP0zokyAw87fHOsCcf157nHTtTQhvHZ7hXJZoAGrnJ10KbDKQs0LL6KdPnAz4rCm1QVmH4435Lt53BbSJDJVdx1LCdkyAFmGB4IXAOrQ3X0I41k14Rex2eg3zWRyw4E5sF1IBpqkd2NiK3ancg9HRpNw1EKPZ0YZKq61EHSrXH8XB0LG7wGV3KXlRL1w6sRyAZqMKuHCXiRsEYdKtwJodBh1PaKPCt1VogdopK09QOzZUVGPJsygGeuIYVTJLMUpnNVKIGJ3lgzAHRArOIoZ1RwqlMArIiunpYXZWWDIbFOQKvBtRDIQ0QlWCKFGMIM2kSlTANEWHoQQKLfjLr2HYddkJeSy8lHSo81mft503GyYabeZGlu1GxBL8lEYiM8GZ3aXbvGPsMGX5tz9f7wBHGUj0wyccYkDGSQAgtQnPh5GM2x6n25L1nGF7IYRw9i6I2WTStPsABa2G6nQilv9Ku2FgVstZzJ6yvF4f15ctWmiwF3cEMpTyqswEkF2zrYraBd2MYDfwrswB4LfoIsINaQGh4JBlyoASjI73vaRXQ7ufUu7O6nggyfdw33xPXSlmHSu5231ghTXsoex7D6f3No734N1vU7JBELtl815g6se8ESjw1pZUNMlK0Bu8femNo9gJeg3vrAfmwPAwLFi8tYzSPCSRDuAZiTxrqdI4cImtG2FnEUJsjTOQ3P6906VLNeXqXTva7gQXer0fsfV5fb2NPKSzQU3srmHWUjC0u1OVJNGkvy9q77vU11F0S874LtPkhl8C5sLDvfzAA61ZTIJ6qFPrgiy3I2sOE2crH6s3lVD2x9CnyY79QFZBvaoez5vEQp6Nlhy15DqSs0PNq0642qVBwQtm3IG4tP8IMBokADE4IheH5fgNCSb1ncygTIoAECbv7Q0HHz8ByyYfiQVgG7qlpdQMGhrC5e9rlDAY0XMLAQVlz3WubtE5Etozdin68D0m1rHtYAPDGu7ILi58SMYEhFyFif75dk9wefBJSz6Wb3YUaXE3uvyEJilzIC18x162S8Eoe5hj5SEXDoaLUFfsH"
end PySem.W.Fast
open PySem PySem.W PyProof.Rows L2 Sc K22
set_option maxRecDepth 100000 in
set_option maxHeartbeats 0 in
theorem PySem.Challenge.cw_partsmith_k14_repeats_and_jumps_holds : PySem.Challenge.rw_partsmith_k14_repeats_and_jumps.Holds := by
  w_on; o_law; k_head; (case hw => w_witness2)
  k_fill
  refine K22.walk (l := PySem.Challenge.rw_partsmith_k14_repeats_and_jumps) rfl rfl rfl (fun w h Y => PySem.W.kIn_of Y) ?F
  case F =>
    intro w mg h X G
    exact ⟨⟨_,_,_,_,_,_,_,_,_,_,_,_,_,_,_,_,_,_,_,_,_,_,_,_,_,_,_,_,_,_,_,_,_,_,_,_,_,_,_,_,_,_,_,_,_,_,_,_,_,_,_,_,_,_,_,_,_,_,_,_,_,_,_,_,_,_,_,_,_,_,_,_,_,_,_,_,_,_,_,_,_,_,_,_,_,_,_,_,_,_,_,_,_,_,_,_,_,_,_,_,_,_,_,_,_,_,_,_,_,_,_,_,_,_,_,_,_,_,_,_,_,_,_,_,_,_,_,_,_,_,_,_,_,_,_,_,_,_,_,_,_,_,_,_,_,_,_,_,_,_,_,_,_,_,_,_,_,_,_,_,_,_,_,_,_,_,_,_,_,_,_,_,_,_,_,_,_,_, l7 X G, l7 X G, l7 X G, l7 X G, l7 X G, l7 X G, nZ X G, l7 X G, nZ X G, nZ X G, nZ X G, nZ X G, nZ X G, nZ X G, Og X G, nZ X G, l7 X G, nZ X G, nZ X G, nZ X G, nZ X G, nZ X G, nZ X G, nZ X G, nZ X G, nZ X G, nZ X G, nZ X G, nZ X G, nZ X G, nZ X G, nZ X G, nZ X G, l7 X G, l7 X G, l7 X G, l7 X G, l7 X G, Og X G, l7 X G, l7 X G, l7 X G, nZ X G, l7 X G, l7 X G, l7 X G, l7 X G, l7 X G, l7 X G, l7 X G, l7 X G, l7 X G, l7 X G, Og X G, l7 X G, Og X G, nZ X G, l7 X G, l7 X G, l7 X G, Og X G, RB X G, Og X G, l7 X G, l7 X G, RB X G, RB X G, Og X G, nZ X G, nZ X G, Sg X G, nZ X G, nS X G, ⟨by k_is,by k_is,by k_is,by k_is⟩, Sf, nS X G, nS X G, nS X G, nS X G, nS X G, nS X G, nS X G, nS X G, nS X G, nS X G, nS X G, nS X G, R9 (by k_is), nS X G, nS X G, nS X G, nS X G, nS X G, nS X G, nS X G, nS X G, nS X G, nS X G, Cq X G, Cq X G, Cq X G, Cq X G, Cq X G, Cq X G, Cq X G, Cq X G, Cq X G, Cq X G, Cq X G, Cq X G, Cq X G, Cq X G, Cq X G, Cq X G, Cq X G, Cq X G,by k_is, by k_exc, nS X G, ⟨⟨by k_is,by k_is,by k_is,by k_is⟩, JU, JU, JU, JU, JU, JU, JU, JU, JU⟩, nS X G, RW, RA,by k_is,by k_is,by k_is, nS X G, nS X G, nS X G, nS X G, ⟨by k_is,by k_is,by k_is⟩, ⟨by k_is,by k_is,by k_is⟩, ⟨by k_is,by k_is,by k_is⟩, ⟨by k_is,by k_is,by k_is⟩, ⟨by k_is,by k_is,by k_is⟩, ⟨by k_is,by k_is,by k_is, JU, JU⟩⟩, ⟨RO (by k_is) (by rfl) (show List.Nodup [("player" : Str), ("instrument" : Str), ("staff" : Str), ("bar" : Str), ("upbeat" : Str), ("holds" : Str), ("notes" : Str), ("repeat" : Str), ("jump" : Str)] by decide +kernel), RO (by k_is) (by rfl) (show List.Nodup [("player" : Str), ("instrument" : Str), ("staff" : Str), ("bar" : Str), ("upbeat" : Str), ("holds" : Str), ("notes" : Str), ("repeat" : Str), ("jump" : Str)] by decide +kernel)⟩, fun s v => .of_eq rfl⟩
